import PyProof.Rows.All
import Wide.All
import OpenK.AllK
import Wide.FinOn
import Lean
import PyProof.EqAt
import PyProof.EqKinds
import PyProof.TupleCall
import PyProof.ExcClass3
import PyProof.StationsW
import PyProof.ExcBaseAll.ValueError
import PyProof.ExcArgsOwn
import PyProof.IsiBase
import PyProof.IsiH_tuple
import PyProof.ExcAttrAll.ValueError
import PyProof.Rows.RuleN_isinstance
import PyProof.MeetsSeq
import PyProof.RulesAs
import PyProof.IsiH_list
import PyProof.AttrMiss
import KE.KDictOf
import PyProof.Rows.SumAny
import PyProof.Rows.MinMaxN
import PyProof.Rows.SortShellK
import PyProof.Rows.SortWalk
import PyProof.ZipIter
import PyProof.WalksMore
import PyProof.DictWalks
import PyProof.AutoSeq1
import PyProof.Rows.Range3
import PyProof.CollectWalk
import KE.KSortTup
import PyProof.EnumMake
import PyProof.ListRange
import KE.KRevIter
import PySem.Challenge.RW_farclocks_k96_again_and_handed
variable{D ab ab' b expr hdct hdct' p tt:Bool}{M N a i j k k' kk l m n t' x1:Nat}{Ty newId:String}{col col':Option Bool}{d s y:Int}{g:Int->Int->Int}{hi lo:Option Int}{ks w:List Nat}{ns r:List Int}{x:Int×List Nat}{α β κ:Type}
noncomputable section
open PySem.Challenge renaming pw_farclocks_k96_again_and_handed→P8,rw_farclocks_k96_again_and_handed→UC
open PySem.AutoListH renaming list___mul___list_int_3→Wd
open PyProof.Rows renaming slot_tuple_getitem→QY,callWith_builtin1→RG,callWith_type1→QV,subscriptTail_builtinR→Vj,entry_tuple_getitem→V5,args_tuple_getitem→Wu,call_isinstance_of→Wx,KK_mirror_equal→RW,tupleItemsOf_→Wv,subscriptTail→Ww,listUpdate_at→Wz,wpS_forRange→T1,seqEpoch_at→XX,wpS_modify→WT,setPending→WU,SortedToK→Rw,pendingOf→S3,wpS_bind→Q5,wpS_pure→RF,failedOf→U8,SortKind→VJ,IntsAre→R0,AllBare→U7,NonIncK→V7,wpS_get→XW,SortSt→Ux,Keyed→XU,IsTup→XY
open PySem.Builtin.Tuple renaming tupleCompareSizes→WD,tupleItemsOf→Uz,tupleIsExact→UA,tupleExact→RI
open List.Nodup renaming length_le_of_subset→WW
open PySem.F renaming args_tuple_iterator_next_1→Uh,entry_tuple_iterator_next→Ut,slot_tuple_iterator_next→RZ,excBase_ValueError→UB,slot_list_getattribute→Sq,args_tuple_add_2→S6,slot_list_append→S8,type_list_append→S9,plainAttrs_list→Rb,entry_tuple_add→Th,args_dict_get_2→U1,slot_tuple_add→Tw,entry_dict_get→Vh,slot_dict_get→TK,typeOf_object_class→TR,slot_enumerate_next→Vp,args_int_rmul_2→WE,slot_tuple_rmul→WH,slot_tuple_mul→Vb,slot_int_index→Xi,entry_int_rmul→Xj,slot_int_rmul→Us,fills_int_mul→XG,slot_gs_get→Wg
open List renaming dropLast_concat_getLast→Uj,getElem?_append_right→Rr,getD_eq_getElem?_getD→UF,nodup_iff_pairwise_ne→UG,getElem?_eq_some_iff→PM,getElem?_append_left→Qo,drop_eq_getElem_cons→Rh,pairwise_iff_getElem→UN,getElem?_eq_getElem→P5,getElem?_replicate→QK,getElem?_cons_succ→Rc,getElem?_set_self→P4,drop_eq_nil_of_le→Tx,mem_append_right→Qd,length_singleton→QN,getElem?_eq_none→TM,length_filter_le→TX,singleton_append→Vo,set_getElem_self→Vq,dropLast_eq_take→Vt,take_append_drop→Vv,mem_cons_of_mem→Pw,getElem?_set_ne→P3,mem_append_left→Qb,mem_of_getElem?→Sf,mem_of_mem_take→Uc,mem_of_mem_drop→Ud,mem_erase_of_ne→VO,pairwise_append→VP,map_congr_left→Q4,filterMap_cons→Q8,replicate_succ→Ry,getElem_of_mem→RQ,mergeSort_perm→S4,mem_map_of_mem→V0,drop_succ_cons→V3,mem_cons_self→PB,length_append→PK,mem_singleton→PL,contains_cons→QZ,mem_filterMap→UJ,zip_cons_cons→UK,append_of_mem→Wi,size_toArray→PY,getElem?_map→P9,nodup_append→Qs,append_assoc→Qy,flatten_cons→Sk,length_range→Sn,flatMap_cons→SW,mapM_toArray→WL,drop_sublist→WN,pairwise_map→WO,length_cons→PH,all_eq_true→Qk,lookup_cons→QF,getElem_mem→QU,not_mem_nil→Ra,length_take→Ri,length_drop→R1,drop_length→T3,getElem_map→T4,any_eq_true→T5,filter_cons→Ve,mem_flatMap→Vf,cons_append→Xm,mem_reverse→Xo,length_map→Py,mem_append→PZ,nodup_cons→Qh,append_nil→Ql,length_set→Qr,map_append→Q6,length_nil→RP,nil_append→Sm,find?_cons→So,of_mem_zip→SI,mem_filter→Ur,all_append→Uw,countP_map→Vr,range_succ→Vw,foldl_cons→XF,forIn_cons→XH,length_zip→XN,idxOf_cons→XO,replicate→Qe,mem_range→Ro,nodup_nil→RE,map_cons→PF,mem_cons→PJ,sum_cons→RJ,any_cons→Sw,all_cons→Ug,mem_map→Qa,map_map→SL,map_nil→TL,toArray→W2,all_map→W3,set_set→Xa,lookup→Rj,length→Sa,range→Q2,Nodup→Tb,foldl→UT,map→Xx
open PySem.Builtin.Slice renaming slicePartIndex→Xw,sliceApplied→Uy,slicePlaces→R8,sliceAdjust→S1
open Array renaming getElem?_eq_some_iff→Q3,perm_iff_toList_perm→UE,length_toList→Q9,find?_toList→Wb,toList→Vm
open PySem renaming wpAny_newFunctionEnv_cells→S0,wpAny_binaryOp_repeat_ref→UO,wpAny_callSpecial?_slot→RL,wpAny_Call_method_late→Tz,wpAny_pyNext_list_item→Vi,builtinLookup_eq_fast→R6,codeAny_call_function→TY,wpAny_pyNext_list_end→VB,codeAny_handlers_test→VG,codeAny_call_builtin→Ue,wpAny_loadName_local→VQ,wpAny_setFlight_none→VR,wpAny_pyIter_revIter→VS,mem_of_lookup→RO,wpAny_isSubtype_exc→RV,wpAny_loadName_cell→V4,wpAny_handleBy_cons→V8,wpAny_Call_Name_kw→Q1,tupleKind_room_in1→SF,wpAny_pyIter_tuple→Ts,wpAny_List_spliced→Wq,foldedSetIterable→Qp,wpAny_loadPart_at→QH,wpAny_truthy_bool→Rn,wpAny_newObj_type→RC,wpAny_pyIter_list→UZ,wpAny_assign_Name→WQ,wpAny_sequenceKey→WR,wpAny_pyIter_enum→WS,wpAny_call_entry→Sx,noFill_tuple_add→Vg,seqSlot_of→Xl,wpAny_eqBool_int→Xp,wpAny_execs_cons→Xq,lookupAlong_cons→Xr,checkBuiltinCall→Xu,wpAny_Try_except→Xv,wpAny_loadPart'→Rq,wpAny_execs_nil→To,letOwnedTupleGo→Tq,typeLookup_type→Tv,importedModules→VA,pushCells_keeps→VE,codeAny_builtin→VF,wpAny_passesOwn→XQ,wpAny_seqItems→VV,wpAny_setField→VW,attributeBase→Qj,behindInMarks→SZ,wpAny_holding→Tu,swapsWithSole→Wn,swappedStores→Wo,seq_tuple_add→Ws,bootBuiltins→Qw,codeAny_mono→SN,wpAny_typeOf→TZ,Within→WX,codeAny_func→Xb,concat_meets→Xc,mainGlobals→Qv,excClassObj→Re,sizeLine_eq→RB,wpAny_field→Sd,keywordEach→Se,sliceBounds→TF,subscripted→V6,lookupAlong→XT,wpAny_bind→PD,wpAny_pure→PX,wpAny_mono→Rm,assignEach→RA,sysModules→SY,call_meets→Tf,typeLookup→TC,wpAny_rule→Ul,builtinsNs→UX,wpAny_call→U0,typeIs_int→VI,swapsWith→Qt,compareOp→QC,cellsFrom→Sr,getMethod→Tt,tupleKind→UY,Arguments→Vz,pushCells→VD,treeTable→Wl,noteFrame→XS,starEach→PR,FuncData→Q0,binaryOp→Rt,boot_len→Ru,NameKind→SX,backToKw→TJ,callWith→U9,GenState→Wm,bindArgs→Wr,Operator→Xy,Program→Qg,OsState→T8,BindsTo→VC,Keyword→XR,Shared→Pz,Around→Qq,Result→Wp,IsPart→Wt,Paired→X1,Value→Px,World→QP,Scope→Tg,Drawn→XZ,Model→X0,CmpOp→X2
open PySem.Calls renaming Name_function_global→UD,callWith_builtin→RX,evalArgs_plain→Sg,spliced_cons→SD,Constant_str→Wa,spliced_nil→SO
open PySem.Builtin.SmallTypes renaming nextOf→R9
open PySem.Builtin.List renaming listTooLong→Sh
open Int renaming eq_ofNat_of_zero_le→Qi,emod_lt_of_pos→UL,toNat_natCast→Rx,emod_nonneg→Vy,le_refl→RS
open PySem.Builtin.Dict renaming updateFrom→U2
open PySem.Heap renaming get?_push_of_some→PN,get?_update_other→SB,get?_update_self→TN,get?_push_size→Qc,get?_update_ne→V2,get?_push_ne→UW,size_update→Vd,NewAttrErr→XJ,size_push→RM,lt_size→PU,SameBut→Ta
open Option renaming map_eq_some_iff→RY,isSome_some→We,isSome_map→WI,getD_none→Xh,some→QD
open PySem.W renaming cellsFrom_some→SA,methodCall_KW→SG,hideAll_none→T9,hideAll_get→Su,plainGet_of→Uo,callWith_K0→VY,callWith_K→R3,of_hideAll→UH,codeRec_of→UI,emptyDict→Rk,methodObj→UP,hasDictIn→UQ,plainOver→WA,kitx_list→WB,kitx_dict→WC,plainGet→T2,openSeen→Xd,openGood→Xe,handedIn→Xf,kia_one→Rg,instObj→RN,topFrom→Um,hideAll→Vk,takerIn→Vl,makesIn→Xz,findIn→RD,keepIn→R7,lookIn→UM,codeIn→VT,mg_of→Ti,Frag→Pv,fnOf→S5,nsIn→S7,isFn→WV
open PySem.Obj renaming isFreed_of_fields→TQ,data_mapFields→R5,mapFields→Ui,mapSeq→Uk
open Bool renaming beq_eq_decide_eq→Vu,and_eq_false_iff→Vx,and_eq_true_iff→QR,or_eq_false_iff→VN,false_ne_true→P6,false_eq_true→R4,not_eq_true'→WM,and_eq_true→PC,eq_iff_iff→SH,or_eq_true→XI,and_false→Sy,false_and→S2,true_and→Tj,or_false→Wc,false_or→Wf,and_true→Wj,or_true→W5,true_or→W6
open Nat renaming le_sub_one_of_lt→Ua,sub_one_lt_of_lt→Ub,lt_of_lt_of_le→PQ,lt_of_le_of_lt→SE,le_of_lt_succ→SR,le_of_succ_le→TB,lt_succ_of_lt→UU,lt_trichotomy→WK,max_eq_right→T7,lt_succ_self→Va,succ_le_succ→Vc,le_of_not_lt→Xk,mod_eq_of_lt→Xn,le_antisymm→Vs,not_lt_zero→XM,mul_le_mul→VU,lt_irrefl→Qm,le_trans→Qn,ne_of_lt→QJ,le_of_lt→RH,ne_of_gt→Ss,le_of_eq→Tc,sub_zero→Td,lt_or_ge→Te,sub_self→TU,lt_trans→Vn,add_comm→W0,mul_comm→W1,min_self→W4,zero_add→W7,le_refl→PP,zero_le→QQ,sub_le→WJ
open PySem.Value renaming notImplemented→VL,builtin→SQ,float→XC,none→Qx,bool→Q7,type→Si,ref→P7,int→Rl,str→Rv
open PySem.Around renaming under_plainId→VM,units→TV,under→WY
open PySem.Heap.SameBut renaming update→VX
open PyProof.Rows.KeyOrd renaming kle_antisymm→V1,kle_of_klt→UV,kle_trans→T6,kle_refl→SM
open List.Pairwise renaming nil→UR
open Option.some renaming injEq→US,inj→Qu
open PySem.P renaming add_list→Xg
open ForInStep renaming yield→SJ
open PySem.Expr renaming Attribute→Sz,Subscript→TH,ListComp→SS,Constant→U5,Compare→W8,UnaryOp→W9,BoolOp→Sb,Name→Qz,Call→RU
open PySem.NameKind renaming free→QB,cell→Rp
open Prod.mk renaming injEq→U3,inj→XB
open PySem.Paired renaming length→U4
open PySem.Value.ref renaming inj→V9
open PySem.Str renaming ofString→PV
open PySem.Code renaming isFrame→WZ
open PySem.Scope renaming names→Uu
open PySem.Stmt renaming Assign→Uv
open PySem.Pos renaming endLine→U6,line→SU
open PySem.Data renaming fields→XD
open False renaming elim→Rf
open True renaming intro→Sj
open PySem.BoolOp renaming And→VH,Or→Wh
open PySem.Env renaming scope→RT
open PyProof.Rows.IsTup renaming new→XE
open Ne renaming symm→Sv
open Iff renaming rfl→SC
open Sum renaming inl→Uq,inr→VZ
open Prod renaming mk→WG
open Option renaming some→ZA,none→ZB
open Bool renaming true→ZC,false→ZD
open PySem renaming Addr→ZE,Stmt→ZF,Expr→ZG,Heap→ZH,sizeLine→ZI,wpAny→ZJ,model→ZK,codeAny→ZL
set_option Elab.async false
set_option linter.all false
set_option maxRecDepth 100000
set_option maxHeartbeats 8000000
abbrev WF:=PySem.Str->Option Px
abbrev WP:=Px->Pz->Prop
abbrev Uf:=List (PySem.Addr×PySem.Obj)
variable{A:Qq}{E Q:WP}{K:Pv}{M:X0}{P prog q:Qg}{R:Wp->Pz->Prop}{bm bmE bs' its sub' tl us vs:List Px}{f ux v vl vu:Px}{fd:Q0}{k0:VJ}{k1 k2 k3 k5:Option Px}{op:X2}{os:T8}{s s':Pz}{sc scope:Tg}{st:Ux}{w:QP}
noncomputable section
abbrev nDb(x:PySem.Str):Prop:=(x == PySem.Str.ofString "__debug__")=ZD
def qr_(h:True:=by first|exact .inl rfl|exact .inr rfl|assumption):True:=trivial
def r_:=qr_._auto_1
def qs_(h:True:=by decide):True:=trivial
def s_:=qs_._auto_1
def qt_(h:True:=by intro _;rfl):True:=trivial
def t_:=qt_._auto_1
def qu_(h:True:=by rfl):True:=trivial
def u_:=qu_._auto_1
def qv_(h:True:=by first|exact Or.inl rfl|exact Or.inr (Or.inl rfl)|exact Or.inr (Or.inr rfl)):True:=trivial
def v_:=qv_._auto_1
def qw_(h:True:=by with_unfolding_all rfl):True:=trivial
def w_:=qw_._auto_1
def qx_(h:True:=by intro _ _;rfl):True:=trivial
def x_:=qx_._auto_1
def qy_(h:True:=by first|exact Or.inl rfl|exact Or.inr rfl):True:=trivial
def y_:=qy_._auto_1
def qz_(h:True:=by decide+kernel):True:=trivial
def z_:=qz_._auto_1
def qa_(h:True:=by exact fsc):True:=trivial
def a_:=qa_._auto_1
namespace L2
open PySem PySem.Spec PyProof.Rows
inductive V where
 |non|bl (b:Bool)|int (i:Int)|str (x:Str)|byt (b:Array UInt8)|flt (b:UInt64)|ref (a:ZE)|ty (n:String)
 deriving DecidableEq
def cU(s:ZF)(j:Nat):ZF:=match s with
 |.ClassDef _ _ _ body _ _ _ _ _ _ _=>body.getD j (.Pass ⟨0,0,0,0⟩)
 |_=>.Pass ⟨0,0,0,0⟩
def fE(s:ZF):Vz:=match s with
 |.FunctionDef _ a _ _ _ _ _ _ _ _=>a
 |_=>{posonlyargs:=[],args:=[],vararg:=ZB,kwonlyargs:=[],kw_defaults:=[],kwarg:=ZB,defaults:=[]}
def bJ(s:ZF):List ZF:=match s with
 |.FunctionDef _ _ b _ _ _ _ _ _ _=>b
 |_=>[]
def ao(s:ZF):Tg:=match s with
 |.FunctionDef _ _ _ _ _ _ sc _ _ _=>sc
 |_=>{kind:=.function,names:=[],isGenerator:=ZD,isCoroutine:=ZD}
end L2
namespace Tr
open PySem PySem.Spec PyProof.Rows L2
inductive T where
 |non|bl (b:Bool)|int (i:Int)|str (x:Str)|tup (l:List T)|lst (l:List T)
 /-- the law's script: a list of ints that is only read -/
 |scr (l:List Int)
 /-- a dict: its keys,its values -/
 |dct (ks vs:List T)
 /-- an instance: its class,the names of its attributes,what they are -/
 |ob (C:Str) (ns:List Str) (ts:List T)
inductive OT where
 |lst (l:List T)|dct (ks ts:List T)|dd (ks:List T) (rows:List (List T×List T))
 /-- an instance,its attributes own lists -/
 |ob (C:Str) (ns:List Str) (ls:List (List T))
 /-- a list of own lists -/
 |ll (ls:List (List T))
def OT.view:OT->T
 |.lst l=>.lst l
 |.dct ks ts=>.dct ks ts
 |.dd ks rows=>.dct ks (rows.map λr=>.dct r.1 r.2)
 |.ob C ns ls=>.ob C ns (ls.map T.lst)
 |.ll ls=>.lst (ls.map T.lst)
def calmNames:List Str:=["__init__","__getattribute__","__getattr__","__class__"]
def Cd:Px->Bool
 |.str _ _=>ZC
 |_=>ZD
def cu:List Int->List Int->Bool
 |[],[] =>ZD
 |[],_::_=>ZC
 |_::_,[] =>ZD
 |a::l,b::m=>if a=b then cu l m else decide (a<b)
structure RK where
 V:ZH->Px->List Int->Prop
 inj:∀{h v a b},V h v a->V h v b->a=b
 on:∀{h h':ZH} {v a},V h v a->(∀b o,h.get? b=ZA o->h'.get? b=ZA o)->V h' v a
 fst:∀{h v a},V h v a->∃ad xs n o m t,v=.ref ad/\h.get? ad=ZA o/\o.cls=.type "tuple"/\o.data=.seq xs n/\xs[0]?=ZA (.int m t)
 lt:∀{prog w A s E x y a b} {Q:Bool->Pz->Prop},A.units+60<cLine->V s.heap x a->V s.heap y b->Q (cu a b) s->ZJ (ZK prog w) A (keyLt' (tuples' ZC) x y) Q E s
variable (R:RK)
open Classical in
def RK.key(h:ZH)(v:Px):Option (List Int):=if e:∃ns,R.V h v ns then ZA e.choose else ZB
variable {R:RK}
end Tr
namespace Tr
open PySem PySem.Spec PyProof.Rows L2 PySem.W
def wN(h:ZH):Frag:=(Q2 h.objs.size).filterMap λa=>(h.get? a).map λo=>(a,o)
def obF(K:Frag)(n:Str):Option (Str×Str×Vz×FuncBody×Tg×ZE×List (Str×ZE)×Px×ZE×Bool×Bool):=match nsIn K Qv n with
 |some (ZA (.ref f))=>match K.lookup f with
  |some ⟨_,_,.func d,_⟩=>ZA (d.name,d.qualname,d.params,d.body,d.scope,d.globals,d.closure,d.defaults,d.builtins,codeIn K d.code n,keepIn K (.ref f))
  |_=>ZB
 |_=>ZB
def exF(n:Str)(st:ZF):Option (Str×Str×Vz×FuncBody×Tg×ZE×List (Str×ZE)×Px×ZE×Bool×Bool):=
 ZA (n,n,fE st,.stmts (bJ st),ao st,Qv,[],.none,UX,ZC,ZC)
def M7(K:Frag)(N:ZE)(n:Str):Bool:=match nsIn K N n with|some ZB=>ZC|_=>ZD
def Od(K:Frag)(n:Str):Option Int:=match nsIn K Qv n with|some (ZA (.int i _))=>ZA i|_=>ZB
def zf:List Px->Bool
 |[.type a,.type b,.type c,.type d] =>a == "ValueError" &&b == "Exception" &&c == "BaseException" &&d == "object"
 |_=>ZD
def under(D:Option ZE)(m:List Px):Bool:=match D with
 |none=>zf m
 |some D=>match m with
  |.ref E::m=>E == D&&zf m
  |_=>ZD
def GQ(K:Frag)(D:Option ZE)(n:Str):Option ZE:=match nsIn K Qv n with
 |some (ZA (.ref C))=>match K.lookup C with
  |some ⟨.type t,_,.cls c,⟨[_,_,_,_,ZA (.builtin b),_]⟩⟩=>match c.mro,K.lookup c.ns with
   |.ref E::m,ZA ⟨_,_,.dict es _,_⟩=>
    if (t == "type" &&b == "ValueError.__new__" && !c.hasDel&&(es.toList.all λe=>Cd e.key)&&calmNames.all (M7 K c.ns)&&E == C&&under D m)=ZC then ZA C else ZB
   |_,_=>ZB
  |_=>ZB
 |_=>ZB
def yU{α:Type}:List (Option α)->Option (List α)
 |[] =>ZA []
 |none::_=>ZB
 |some a::r=>match yU r with|some l=>ZA (a::l)|none=>ZB
def uv:List ZE->Bool
 |[] =>ZC
 |a::r=>(r.all λb=>!(a == b))&&uv r
def Ob(K:Frag):List Str->Bool
 |[] =>ZC
 |m::es=>match GQ K ZB m with
  |some D=>match yU (es.map (GQ K (ZA D)))with|some l=>uv (l++[D])|none=>ZD
  |none=>ZD
structure BK where
 tab:List (Str×Nat)
 zs:List Str
 cs:List (Str×Int)
 es:List Str
def ur(S:BK)(K:Frag):=(S.tab.map (λp=>obF K p.1),S.zs.all (M7 K Qv),S.cs.map (λc=>Od K c.1),Ob K S.es)
def tq(S:BK)(top:Nat->ZF):=(S.tab.map (λp=>exF p.1 (top p.2)),ZC,S.cs.map (λc=>ZA c.2),ZC)
def M8(K:Frag)(C:ZE)(m q:Str):Option (Str×Str×Vz×FuncBody×Tg×ZE×List (Str×ZE)×Px×ZE×Bool×Bool×Bool):=match findIn K (.ref C) m with
 |some (ZA (.ref f))=>match K.lookup f with
  |some ⟨_,_,.func d,_⟩=>ZA (d.name,d.qualname,d.params,d.body,d.scope,d.globals,d.closure,d.defaults,d.builtins,codeIn K d.code q,keepIn K (.ref f),isFn K (.ref f))
  |_=>ZB
 |_=>ZB
def NP(m q:Str)(st:ZF):Option (Str×Str×Vz×FuncBody×Tg×ZE×List (Str×ZE)×Px×ZE×Bool×Bool×Bool):=
 ZA (m,q,fE st,.stmts (bJ st),ao st,Qv,[],.none,UX,ZC,ZC,ZC)
def Kq(K:Frag)(C:ZE)(f:Str):Bool:=match findIn K (.ref C) f with|some ZB=>ZC|_=>ZD
def Jo(K:Frag)(C:ZE):Bool:=match findIn K (.ref C) "__setattr__" with|some (ZA (.builtin b))=>b == "object.__setattr__" |_=>ZD
def IG(K:Frag)(C:ZE)(as:List Str):Bool:=plainGet K C Str.empty&&hasDictIn K C&&plainOver K C&&Jo K C&&makesIn K C&&keepIn K (.ref C)&&as.all (Kq K C)
structure HR where
 c:Str
 i:Nat
 as:List Str
 ms:List (Str×Str×Nat)
def Oc(K:Frag)(A:HR):=match nsIn K Qv A.c with
 |some (ZA (.ref C))=>ZA (IG K C A.as,A.ms.map λ(m:Str×Str×Nat)=>M8 K C m.1 m.2.1)
 |_=>ZB
def Of(top:Nat->ZF)(A:HR):=ZA (ZC,A.ms.map λ(m:Str×Str×Nat)=>NP m.1 m.2.1 (cU (top A.i) m.2.2))
structure xw where
 a:BK
 ks:List HR
def C4(S:xw)(K:Frag):=(ur S.a K,S.ks.map (Oc K))
def B5(S:xw)(top:Nat->ZF):=(tq S.a top,S.ks.map (Of top))
end Tr
namespace G
open PySem PySem.Spec PyProof.Rows L2 Tr
def top(i:Nat):ZF:=P8.main.body.getD i (.Pass ⟨0,0,0,0⟩)
def EK:BK:=⟨([("is_long",17),("is_whole",15),("is_within",16),("is_pace",20),("rises",18),("are_readings",19),("is_clock",21),("are_clocks",22),("is_event",23),("is_delay",24),("is_letter",25),("are_letters",26),("is_record",27),("need_record",28),("_law_cell",69)]:List (Str×Nat))++([("_law_drawn",70),("_law_events",73),("_law_letter",72),("_law_clock",71),("_law_record",74),("events",31),("is_better",49),("settle",48),("greatest_world",51),("bounds_of_clock",44),("bounds_of_letter",45),("bounds",46),("world",52),("has_world",53),("need_event",29)]:List (Str×Nat))++([("known_at_once",33),("knows",34),("stamp",35),("unknown_pairs",36),("need_number",30),("need_world",54),("need_events",58),("most_of",60),("walks_from",59),("most_between",61),("least_between",62),("span_between",64),("spans",65),("narrowed_letter",66),("narrowed",67)]:List (Str×Nat))++([("_law_told",76),("without_letter",40),("if_record",38),("with_clock",41),("with_reading",42),("with_letter",39),("_law_step",75),("_law_refuses",77),("law",78)]:List (Str×Nat)),(["ValueError","all","bool","dict","enumerate","int","isinstance","len","list","min","range","reversed","sorted","tuple"]:List Str),[("MOST_CLOCKS",4),("MOST_LETTERS",8),("MOST_READINGS",4),("LAST_READING",99),("SLOWEST",9),("LONGEST",999)],["ClockError","NoRecord","NoEvent","NoNumber","NoWorld","Nothing"]⟩
def asks:xw:=⟨EK,[⟨"Sketch",56,["past","ahead"],[("__init__","Sketch.__init__",0),("record","Sketch.record",1),("good","Sketch.good",6),("counts","Sketch.counts",9),("go_on","Sketch.go_on",2),("cut","Sketch.cut",5),("read","Sketch.read",4),("write","Sketch.write",3),("forth","Sketch.forth",8)]⟩]⟩
def vw:Qg:=PySem.W.view P8 [78]
def lse:List Str:=(["_wall","ClockError","NoRecord","NoEvent","NoNumber","NoWorld","Nothing","MOST_CLOCKS","MOST_LETTERS","MOST_READINGS","LAST_READING","SLOWEST","LONGEST","is_whole","is_within","is_long","rises","are_readings","is_pace","is_clock"]:List Str)++(["are_clocks","is_event","is_delay","is_letter","are_letters","is_record","need_record","need_event","need_number","events","known_at_once","knows","stamp","unknown_pairs","if_record","with_letter","without_letter","with_clock","with_reading","bounds_of_clock"]:List Str)++(["bounds_of_letter","bounds","settle","is_better","greatest_world","world","has_world","need_world","Sketch","need_events","walks_from","most_of","most_between","least_between","span_between","spans","narrowed_letter","narrowed","_law_cell","_law_drawn"]:List Str)++(["_law_clock","_law_letter","_law_events","_law_record","_law_step","_law_told","_law_refuses"]:List Str)
def lhs(w:QP)(h:ZH)(d:XZ)(t:Nat)(os:T8):=(Um Wl P8 w 9000 ⟨h,⟨[]⟩,d,t,os⟩).map (λs=>(Xd vw lse (VA P8.main.body) (λ_=>ZC) ZC s,C4 asks (wN s.heap)))
def rhs(w:QP):=ZA (Xe vw lse,B5 asks top)
open PySem.W
def lhA(w:QP)(h:ZH)(d:XZ)(t:Nat)(os:T8):=(Um Wl P8 w 9000 ⟨h,⟨[]⟩,d,t,os⟩).map λs=>Xd vw lse (VA P8.main.body) (λ_=>ZC) ZC s
def rhA(_:QP):=ZA (Xe vw lse)
def lhA_r:lhA=lhA:=rfl
def rhA_r:rhA=rhA:=rfl
def lhB(w:QP)(h:ZH)(d:XZ)(t:Nat)(os:T8):=(Um Wl P8 w 9000 ⟨h,⟨[]⟩,d,t,os⟩).map λs=>ur asks.a (wN s.heap)
def rhB(_:QP):=ZA (tq asks.a top)
def lhB_r:lhB=lhB:=rfl
def rhB_r:rhB=rhB:=rfl
def lhC(w:QP)(h:ZH)(d:XZ)(t:Nat)(os:T8):=(Um Wl P8 w 9000 ⟨h,⟨[]⟩,d,t,os⟩).map λs=>asks.ks.map (Oc (wN s.heap))
def rhC(_:QP):=ZA (asks.ks.map (Of top))
def lhC_r:lhC=lhC:=rfl
def rhC_r:rhC=rhC:=rfl
def join3{γ δ:Type}{o:Option α}{f:α->β}{g:α->γ}{k:α->δ}{a:β}{b:γ}{c:δ}(h1:o.map f=ZA a)(h2:o.map g=ZA b)(h3:o.map k=ZA c):o.map (λs=>(f s,g s,k s))=ZA (a,b,c):=by
 cases o with
 |none=>cases h1
 |some s=>cases h1;cases h2;cases h3;rfl
end G
lay_quick G.lhA G.rhA G.lhB G.rhB G.lhC G.rhC
name_quick lhAz for G.lhA by G.lhA_r
name_quick rhAz for G.rhA by G.rhA_r
name_quick lhBz for G.lhB by G.lhB_r
name_quick rhBz for G.rhB by G.rhB_r
name_quick lhCz for G.lhC by G.lhC_r
name_quick rhCz for G.rhC by G.rhC_r
section
open PySem PySem.W PyProof.Rows
set_option maxRecDepth 100000 in
theorem G.Pg(w:QP)(os:T8):PySem.W.Fast.lhAz w (boot_heap w.params) boot_drawn boot_toks os=PySem.W.Fast.rhAz w:=by kernel_rfl
set_option maxRecDepth 100000 in
theorem G.Pk(w:QP)(os:T8):PySem.W.Fast.lhBz w (boot_heap w.params) boot_drawn boot_toks os=PySem.W.Fast.rhBz w:=by kernel_rfl
set_option maxRecDepth 100000 in
theorem G.Ph(w:QP)(os:T8):PySem.W.Fast.lhCz w (boot_heap w.params) boot_drawn boot_toks os=PySem.W.Fast.rhCz w:=by kernel_rfl
def G.Pd(w:QP)(os:T8):G.lhs w (boot_heap w.params) boot_drawn boot_toks os=G.rhs w:=G.join3 (((congrFun (congrFun (congrFun (congrFun (congrFun PySem.W.Fast.lhAz_eq w) _) _) _) os).trans (G.Pg w os)).trans (congrFun PySem.W.Fast.rhAz_eq w).symm) (((congrFun (congrFun (congrFun (congrFun (congrFun PySem.W.Fast.lhBz_eq w) _) _) _) os).trans (G.Pk w os)).trans (congrFun PySem.W.Fast.rhBz_eq w).symm) (((congrFun (congrFun (congrFun (congrFun (congrFun PySem.W.Fast.lhCz_eq w) _) _) _) os).trans (G.Ph w os)).trans (congrFun PySem.W.Fast.rhCz_eq w).symm)
end
namespace L2
open PySem PySem.Spec PyProof.Rows
abbrev Key:=Sum Int Str
def r8:Key->Px->Bool
 |.inl k,v=>Value.isInt k v
 |.inr x,v=>Value.isStrOf x v
def keyH(w:QP):Key->Int
 |.inl k=>hashInt k
 |.inr x=>hashStr w x
theorem cI:∀{k:Key}{v:Px},r8 k v=ZC->(∃i t,k=Uq i/\v=Rl i t)\/(∃x t,k=VZ x/\v=Rv x t)
 |.inl i,v,h=>by
  obtain⟨t,e⟩:=Value.isInt_shape (k:=i) (v:=v) h
  exact .inl ⟨i,t,rfl,e⟩
 |.inr x,v,h=>by
  obtain⟨t,e⟩:=Value.isStrOf_shape (x:=x) (v:=v) h;exact .inr ⟨x,t,rfl,e⟩
def Bj(i:Int)(t:Tok):r8 (.inl i) (.int i t)=ZC:=by simp[r8,Value.isInt]
def Bi(x:Str)(t:Tok):r8 (.inr x) (.str x t)=ZC:=by simp[r8,Value.isStrOf]
def KQ(a b:Int):decide ((Uq a:Key)=Uq b)=(a == b):=by
 by_cases e:a=b
 ·subst e;simp
 ·have h:¬ (Uq a:Key)=Uq b:=λq=>e (Uq.inj q)
  rw[decide_eq_false h];exact(beq_eq_false_iff_ne.mpr e).symm
def KN(a b:Str):decide ((VZ a:Key)=VZ b)=decide (a=b):=by
 by_cases e:a=b
 ·subst e;simp
 ·have h:¬ (VZ a:Key)=VZ b:=λq=>e (VZ.inj q)
  rw[decide_eq_false h,decide_eq_false e]
def KP(a:Int)(b:Str):decide ((Uq a:Key)=VZ b)=ZD:=decide_eq_false (λq=>nomatch q)
def KO(a:Str)(b:Int):decide ((VZ a:Key)=Uq b)=ZD:=decide_eq_false (λq=>nomatch q)
def cT(prog:Qg)(w:QP):PySem.KeyKind prog w Key where
 is:=r8
 hash:=keyH w
 inj:=λv a b ha hb=>by
  rcases cI ha with⟨i,t,rfl,rfl⟩|⟨x,t,rfl,rfl⟩
  ·rcases cI hb with⟨j,u,rfl,e⟩|⟨y,u,rfl,e⟩
   ·injection e with e1 _;rw[e1]
   ·exact nomatch e
  ·rcases cI hb with⟨j,u,rfl,e⟩|⟨y,u,rfl,e⟩
   ·exact nomatch e
   ·injection e with e1 _;rw[e1]
 byValue:=λk v h=>by
  rcases cI h with⟨i,t,rfl,rfl⟩|⟨x,t,rfl,rfl⟩ <;> rfl
 pyHash:=λhv h=>by
  rcases cI hv with⟨i,t,rfl,rfl⟩|⟨x,t,rfl,rfl⟩
  ·exact wpAny_pyHash_int h
  ·exact wpAny_pyHash_str h
 eqBool:=λhu hv h=>by
  rcases cI hu with⟨i,t,rfl,rfl⟩|⟨x,t,rfl,rfl⟩
  ·rcases cI hv with⟨j,u,rfl,rfl⟩|⟨y,u,rfl,rfl⟩
   ·rw[KQ]at h;exact Xp h
   ·rw[KP]at h;exact SeqAt.EqAt.int_str i t y u _ _ _ _ h
  ·rcases cI hv with⟨j,u,rfl,rfl⟩|⟨y,u,rfl,rfl⟩
   ·rw[KO]at h;exact SeqAt.EqAt.str_int x t j u _ _ _ _ h
   ·rw[KN]at h;exact wpAny_eqBool_str h
 «strs»:=λk x t v h=>by
  rcases cI h with⟨i,u,rfl,e⟩|⟨y,u,rfl,e⟩
  ·exact nomatch e
  ·injection e with e1 _
   subst e1;cases v <;> rfl
def wc(prog:Qg)(w:QP)(i:Int)(t:Tok):(cT prog w).is (.inl i) (.int i t)=ZC:=Bj i t
def wb(prog:Qg)(w:QP)(x:Str)(t:Tok):(cT prog w).is (.inr x) (.str x t)=ZC:=Bi x t
def RelV:V->Px->Prop
 |.non,u=>u=Qx
 |.bl b,u=>u=Q7 b
 |.int i,u=>∃t,u=Rl i t
 |.str x,u=>∃t,u=Rv x t
 |.byt b,u=>∃t,u=Value.bytes b t
 |.flt b,u=>∃t,u=XC b t
 |.ref a,u=>u=P7 a
 |.ty n,u=>u=Si n
abbrev Vals:List V->List Px->Prop:=X1 RelV
variable{xs:List V}
def Vals.length(r:Vals xs us):xs.length=us.length:=U4 r
theorem Vals.get:∀{xs:List V}{us:List Px}{i:Nat}{x:V},Vals xs us->xs[i]?=ZA x->∃u,us[i]?=ZA u/\RelV x u
 |_,_,_,_,.nil,e=>by simp at e
 |_,_,0,_,.cons r _,e=>by simp at e;subst e;exact⟨_,rfl,r⟩
 |_,_,i+1,x,.cons _ t,e=>by
  obtain⟨u,h1,h2⟩:=Vals.get (i:=i) (x:=x) t (by simpa using e)
  exact⟨u,by simpa using h1,h2⟩
theorem Vals.append:∀{xs ys:List V}{us ws:List Px},Vals xs us->Vals ys ws->Vals (xs++ys) (us++ws)
 |_,_,_,_,.nil,s=>s
 |_,_,_,_,.cons r t,s=>.cons r (Vals.append t s)
theorem Vals.take:∀{xs:List V}{us:List Px}(n:Nat),Vals xs us->Vals (xs.take n) (us.take n)
 |_,_,0,_=>.nil
 |_,_,_+1,.nil=>.nil
 |_,_,n+1,.cons r t=>.cons r (Vals.take n t)
theorem Vals.drop:∀{xs:List V}{us:List Px}(n:Nat),Vals xs us->Vals (xs.drop n) (us.drop n)
 |_,_,0,r=>r
 |_,_,_+1,.nil=>.nil
 |_,_,n+1,.cons _ t=>Vals.drop n t
def RelO:Option V->Option Px->Prop
 |some v,ZA u=>RelV v u
 |none,ZB=>True
 |_,_=>False
def KV{κ:Type}:List (κ×V)->List (κ×Px)->Prop:=X1 λ(p:κ×V)(q:κ×Px)=>p.1=q.1/\RelV p.2 q.2
def kV:Key->V
 |.inl i=>.int i
 |.inr x=>.str x
inductive HO where
 /-- a list -/
 |lst (xs:List V)
 /-- a tuple (never changes) -/
 |tup (xs:List V)
 /-- a dict whose keys are ints and texts;one whose keys are tuples of ints and texts (the empty one is both) -/
 |dK (kvs:List (Key×V))|dT (kvs:List (List Key×V))
 /-- a set of ints: its members,its size -/
 |set (S:Int->Bool) (n:Nat)
 /-- an instance of the class at C,its dict at dx,its attributes -/
 |ins (C dx:ZE) (fs:List (Str×V))
 /-- the dict of the instance at x -/
 |own (x:ZE)
 /-- the dict of an exception -/
 |xd (fs:List (Str×V))
 /-- a bound method,f of x -/
 |met (f x:ZE)
 /-- a range object lo,lo+1,.. below hi -/
 |rng (lo hi:Int)
 /-- a thing that is known to the object (the script;a dict while a loop walks it): read,never written while it is so -/
 |frz (o:Obj) (u:HO)
 /-- a code object's table -/
 |tbl (ps:Array Px)
 /-- any other thing,by what is ZC of its one object (a def of one's own: SetO a S n:=HO.ext λh=>..) -/
 |ext (φ:ZH->Prop)
abbrev Hp:=ZE->Option HO
def upd(H:Hp)(a:ZE)(o:HO):Hp:=λb=>if b=a then ZA o else H b
variable{H:Hp}{a:ZE}
def aL{o:HO}:upd H a o a=ZA o:=by unfold upd;rw[if_pos rfl]
variable{b:ZE}
def aH{o:HO}(h:b≠a):upd H a o b=H b:=by unfold upd;rw[if_neg h]
def tu{o u:HO}:upd (upd H a o) a u=upd H a u:=by
 funext b;unfold upd;split <;> rfl
def pU{o u:HO}(h:H a=ZA o)(h':H b=ZA u)(d:o≠u):a≠b:=by
 intro e;subst e;rw[h]at h';exact d (Qu h')
def ck{o:HO}(h:H a=ZA o)(h':H b=ZB):a≠b:=by
 intro e;subst e;rw[h]at h';cases h'
section
variable (P:Qg)(w:QP)
def ObjOk(H:Hp)(h:ZH)(a:ZE):HO->Prop
 |.lst xs=>xs.length<=ZI/\∃(its:List Px)(n:Nat),Vals xs its/\h.get? a=ZA {cls:=.type "list",data:=.seq its.toArray n}
 |.tup xs=>xs.length<=ZI/\∃its:List Px,Vals xs its/\XY h a its.toArray
 |.dK kvs=>kvs.length<=ZI/\(a == SY)=ZD/\∃vs,KV kvs vs/\h.DictOf (cT P w) a vs
 |.dT kvs=>kvs.length<=ZI/\(a == SY)=ZD/\∃xs:List (List Key×ZE×Px),
   X1 (λ(p:List Key×V)(q:List Key×ZE×Px)=>p.1=q.1/\H q.2.1=ZA (.tup (p.1.map kV))/\RelV p.2 q.2.2) kvs xs ∧
   ∃o es ep,h.get? a=ZA o/\o.ExactDict/\o.data=.dict es ep/\es.toList=xs.map (entryOfKey (UY (cT P w)))/\(xs.map (·.1)).Nodup
 |.set S n=>h.SetOf (intKind P w) a S n
 |.ins C dx fs=>H dx=ZA (.own a)/\fs.length<=1000/\dx≠a/\h.get? a=ZA (RN C dx) ∧
   ∃mA,h.Ns1 dx mA/\(∀f,RelO (fs.lookup f) (mA f))/\WX mA (fs.map (·.1))
 |.own _=>∃o,h.get? a=ZA o
 |.xd fs=>∃mA,h.Ns1 a mA/\∀f,RelO (fs.lookup f) (mA f)
 |.rng lo hi=>∃t u v,h.get? a=ZA {cls:=.type "range",data:=.fields #[.int lo t,.int hi u,.int 1 v]}
 |.frz o u=>h.get? a=ZA o/\ObjOk H h a u
 |.tbl ps=>h.get? a=ZA {cls:=.none,data:=.fields ps}
 |.met f x=>h.get? a=ZA (UP (.ref f) (.ref x))
 |.ext φ=>φ h/\(∃o,h.get? a=ZA o)/\∀h1 h2:ZH,φ h1->(∀o,h1.get? a=ZA o->h2.get? a=ZA o)->φ h2
def HOk(H:Hp)(h:ZH):Prop:=∀a o,H a=ZA o->ObjOk P w H h a o
end
variable{H':Hp}{h h':ZH}
section
variable {o:HO}
theorem ObjOk.lt(x:ObjOk P w H h a o):a<h.objs.size:=by
 cases o with
 |lst xs=>obtain⟨_,_,_,_,e⟩:=x;exact PU e
 |tup xs=>obtain⟨_,_,_,p⟩:=x;exact p.lt
 |dK kvs=>obtain⟨_,_,_,_,o,_,_,e,_⟩:=x;exact PU e
 |dT kvs=>obtain⟨_,_,_,_,o,_,_,e,_⟩:=x;exact PU e
 |set S n=>obtain⟨o,_,_,_,e,_⟩:=x;exact PU e
 |ins C dx fs=>obtain⟨_,_,_,e,_⟩:=x;exact PU e
 |own y=>obtain⟨_,e⟩:=x;exact PU e
 |xd fs=>obtain⟨_,⟨_,_,_,e,_⟩,_⟩:=x;exact PU e
 |rng lo hi=>obtain⟨_,_,_,e⟩:=x;exact PU e
 |frz ob u=>obtain⟨e,_⟩:=x;exact PU e
 |tbl ps=>exact PU (show h.get? a=ZA _ from x)
 |met f y=>exact PU (show h.get? a=ZA _ from x)
 |ext φ=>obtain⟨_,⟨_,e⟩,_⟩:=x;exact PU e
theorem Paired.O6{F G:α->β->Prop}:∀{l₁:List α}{l₂:List β},X1 F l₁ l₂->(∀a b,F a b->G a b)->X1 G l₁ l₂
 |_,_,.nil,_=>.nil
 |_,_,.cons r t,f=>.cons (f _ _ r) (Paired.O6 t f)
def ObjOk.OA(x:ObjOk P w H h a o)(k:∀b u,(b=a\/H b=ZA (.own a))->h.get? b=ZA u->h'.get? b=ZA u)
  (ho:∀b,H b=ZA (.own a)->H' b=ZA (.own a)) (ht:∀b xs,H b=ZA (.tup xs)->H' b=ZA (.tup xs)):ObjOk P w H' h' a o:=by
 induction o with
 |lst xs=>obtain⟨z,its,n,r,e⟩:=x;exact⟨z,its,n,r,k _ _ (.inl rfl) e⟩
 |tup xs=>obtain⟨z,its,r,ob,e,c⟩:=x;exact⟨z,its,r,ob,k _ _ (.inl rfl) e,c⟩
 |dK kvs=>obtain⟨z,y,vs,r,ob,es,ep,e,c⟩:=x;exact⟨z,y,vs,r,ob,es,ep,k _ _ (.inl rfl) e,c⟩
 |dT kvs=>
  obtain⟨z,y,xs,r,ob,es,ep,e,c⟩:=x
  exact⟨z,y,xs,Paired.O6 r λp q z=>⟨z.1,ht _ _ z.2.1,z.2.2⟩,ob,es,ep,k _ _ (.inl rfl) e,c⟩
 |set S n=>obtain⟨ob,es,ep,t,e,c⟩:=x;exact⟨ob,es,ep,t,k _ _ (.inl rfl) e,c⟩
 |ins C dx fs=>
  obtain⟨d,z,ne,e,mA,⟨od,es,ep,e2,c⟩,r⟩:=x
  exact⟨ho _ d,z,ne,k _ _ (.inl rfl) e,mA,⟨od,es,ep,k _ _ (.inr d) e2,c⟩,r⟩
 |own y=>obtain⟨ob,e⟩:=x;exact⟨ob,k _ _ (.inl rfl) e⟩
 |xd fs=>obtain⟨mA,⟨od,es,ep,e,c⟩,r⟩:=x;exact⟨mA,⟨od,es,ep,k _ _ (.inl rfl) e,c⟩,r⟩
 |rng lo hi=>obtain⟨t,u,v,e⟩:=x;exact⟨t,u,v,k _ _ (.inl rfl) e⟩
 |frz ob u ih=>obtain⟨e,q⟩:=x;exact⟨k _ _ (.inl rfl) e,ih q⟩
 |tbl ps=>
  have e:h.get? a=ZA {cls:=.none,data:=.fields ps}:=x
  show h'.get? a=ZA {cls:=.none,data:=.fields ps}
  exact k a _ (.inl rfl) e
 |met f y=>
  have e:h.get? a=ZA (UP (.ref f) (.ref y)):=x
  show h'.get? a=ZA (UP (.ref f) (.ref y))
  exact k a _ (.inl rfl) e
 |ext φ=>obtain⟨p,⟨o,e⟩,st⟩:=x;exact⟨st _ _ p λo q=>k _ _ (.inl rfl) q,⟨o,k _ _ (.inl rfl) e⟩,st⟩
theorem HOk.lt(x:HOk P w H h)(e:H a=ZA o):a<h.objs.size:=(x a o e).lt
def HOk.fresh(x:HOk P w H h)(e:h.objs.size<=a):H a=ZB:=by
 cases q:H a with
 |none=>rfl
 |some u=>exact absurd (PQ (x.lt q) e) (Qm _)
def HOk.kept(x:HOk P w H h)(k:∀b u,h.get? b=ZA u->h'.get? b=ZA u):HOk P w H h':=λa o e=>
 (x a o e).OA (λb u _ q=>k b u q) (λ_ q=>q) λ_ _ q=>q
def HOk.laid(x:HOk P w H h)(k:∀b u,h.get? b=ZA u->h'.get? b=ZA u)(hp:h.objs.size<=a)(new:ObjOk P w (upd H a o) h' a o):HOk P w (upd H a o) h':=λb u e=>by
 have hn:=x.fresh hp
 by_cases hb:b=a
 ·subst hb;rw[aL]at e;cases e;exact new
 ·rw[aH hb]at e
  exact(x b u e).OA (λc v _ q=>k c v q) (λc q=>by rw[aH (ck q hn)];exact q) λc xs q=>by rw[aH (ck q hn)];exact q
end
def Rd(H:Hp)(a:ZE)(u:HO):Prop:=H a=ZA u\/∃o,H a=ZA (.frz o u)
def Rd.ok{u:HO}(r:Rd H a u)(x:HOk P w H h):ObjOk P w H h a u:=by
 rcases r with r|⟨o,r⟩
 ·exact x a u r
 ·obtain⟨_,q⟩:=x a _ r
  exact q
def N4:Option HO->Prop
 |some (.lst _)=>True
 |some (.dK _)=>True
 |some (.dT _)=>True
 |some (.set _ _)=>True
 |some (.ins _ _ _)=>True
 |some (.ext _)=>True
 |_=>False
variable{e:ZE}
section
variable {x:ZE}{o':HO}
def HOk.write(ok:HOk P w H h)(mu:N4 (H x))(he:e=x\/H e=ZA (.own x))(k:∀b u,b≠e->h.get? b=ZA u->h'.get? b=ZA u)(heo:∃u,h'.get? e=ZA u)
  (new:ObjOk P w (upd H x o') h' x o'):HOk P w (upd H x o') h':=λb u q=>by
 have nown:∀c y,H c=ZA (.own y)->c≠x:=λc y r z=>by subst z;rw[r]at mu;exact mu
 have ntup:∀c xs,H c=ZA (.tup xs)->c≠x:=λc xs r z=>by subst z;rw[r]at mu;exact mu
 by_cases hb:b=x
 ·subst hb;rw[aL]at q;cases q;exact new
 ·rw[aH hb]at q
  by_cases hbe:b=e
  ·have q':H b=ZA (.own x):=by
    rcases he with z|z
    ·exact absurd (hbe.trans z) hb
    ·rw[hbe];exact z
   rw[q]at q';cases q';obtain⟨v,hv⟩:=heo;exact⟨v,by rw[hbe];exact hv⟩
  ·refine(ok b u q).OA (λc v hc r=>k c v ?_ r) (λc r=>by rw[aH (nown c b r)];exact r) λc xs r=>by rw[aH (ntup c xs r)];exact r
   rcases hc with rfl|hc
   ·exact hbe
   ·rintro rfl
    rcases he with z|z
    ·exact nown c b hc z
    ·rw[hc]at z;cases z;exact hb rfl
end
structure Un (fs ex:List ZE)(H H':Hp)(h h':ZH):Prop where
 keep:∀b o,h.get? b=ZA o->H b=ZB->b∉fs->b∉ex->h'.get? b=ZA o
 slot:∀b o,h.get? b=ZA o->H b=ZB->b∈fs->b∉ex->∃sl,h'.get? b=ZA {o with slots:=sl}
 free:∀b o,h.get? b=ZA o->H b=ZB->b∉ex->H' b=ZB
 there:∀b o,h.get? b=ZA o->b∉ex->∃o',h'.get? b=ZA o'
 tups:∀b xs,H b=ZA (.tup xs)->H' b=ZA (.tup xs)
 frzs:∀b o u,H b=ZA (.frz o u)->H' b=ZA (.frz o u)
 tbls:∀b ps,H b=ZA (.tbl ps)->∃more,H' b=ZA (.tbl (ps++more))
section
variable {fs fs' ex ex':List ZE}{H1 H2:Hp}{h1 h2:ZH}{x:ZE}{o:HO}
def Un.any(u:Un fs ex H H1 h h1){ob:Obj}(q:h.get? b=ZA ob)(n:H b=ZB)(hx:b∉ex):∃sl,h1.get? b=ZA {ob with slots:=sl}:=by
 by_cases hb:b∈fs
 ·exact u.slot b ob q n hb hx
 ·exact⟨ob.slots,u.keep b ob q n hb hx⟩
def Un.kept(k:∀b u,h.get? b=ZA u->h'.get? b=ZA u):Un fs ex H H h h':=
 ⟨λb ob q _ _ _=>k b ob q,λb ob q _ _ _=>⟨ob.slots,k b ob q⟩,λ_ _ _ n _=>n,λb ob q _=>⟨ob,k b ob q⟩,λ_ _ q=>q,λ_ _ _ q=>q,λ_ ps q=>⟨#[],by rw[q];simp⟩⟩
def Un.refl:Un fs ex H H h h:=Un.kept λ_ _ q=>q
def Un.laid(k:∀b u,h.get? b=ZA u->h'.get? b=ZA u)(hp:h.objs.size<=a)(hn:H a=ZB):Un fs ex H (upd H a o) h h' where
 keep:=λb u q _ _ _=>k b u q
 slot:=λb u q _ _ _=>⟨u.slots,k b u q⟩
 free:=λb u q n _=>by rw[aH (QJ (PQ (PU q) hp))];exact n
 there:=λb u q _=>⟨u,k b u q⟩
 tups:=λb xs q=>by rw[aH (ck q hn)];exact q
 frzs:=λb u xs q=>by rw[aH (ck q hn)];exact q
 tbls:=λb ps q=>⟨#[],by rw[aH (ck q hn),q];simp⟩
def Un.write(mu:N4 (H x))(he:e=x\/H e=ZA (.own x))(k:∀b u,b≠e->h.get? b=ZA u->h'.get? b=ZA u)(heo:∃u,h'.get? e=ZA u):Un fs ex H (upd H x o) h h':=by
 have hx:∀b,H b=ZB->b≠x:=λb n z=>by subst z;rw[n]at mu;exact mu
 have hb:∀b,H b=ZB->b≠e:=λb n z=>by
  subst z;rcases he with r|r
  ·exact hx b n r
  ·rw[n]at r;cases r
 have hm:∀b u,H b=ZA u->¬ N4 (ZA u)->b≠x:=λb u q nm z=>by subst z;rw[q]at mu;exact nm mu
 refine⟨λb u q n _ _=>k b u (hb b n) q,λb u q n _ _=>⟨u.slots,k b u (hb b n) q⟩,λb u q n _=>by rw[aH (hx b n)];exact n,λb u q _=>?_,
  λb xs q=>by rw[aH (hm b _ q λz=>z)];exact q,λb u xs q=>by rw[aH (hm b _ q λz=>z)];exact q,λb ps q=>⟨#[],by rw[aH (hm b _ q λz=>z),q];simp⟩⟩
 by_cases hbe:b=e
 ·subst hbe;exact heo
 ·exact⟨u,k b u hbe q⟩
end
def trk(h:ZH)(H:Hp):List ZE:=(Q2 h.objs.size).filter λa=>(H a).isSome
def uG(h:ZH)(H:Hp):ZH:=Vk h (trk h H)
def Bp(h:ZH)(H:Hp):(uG h H).objs.size=h.objs.size:=PySem.W.hideAll_size _ _
def DV{o:Obj}(e:h.get? b=ZA o)(n:H b=ZB):(uG h H).get? b=ZA o:=
 Su _ e λhm=>by
  have q:(H b).isSome=ZC:=(Ur.mp hm).2;rw[n]at q;simp at q
def GP{o:Obj}(e:(uG h H).get? b=ZA o):h.get? b=ZA o/\H b=ZB:=by
 have e':h.get? b=ZA o:=UH (trk h H) e;refine⟨e',?_⟩
 cases q:H b with
 |none=>rfl
 |some x=>
  have hm:b∈trk h H:=Ur.mpr ⟨Ro.mpr (PU e'),by simp[q]⟩
  have z:(uG h H).get? b=ZB:=T9 (trk h H) hm;rw[z]at e;cases e
def HI(g h:ZH)(L:ZE):Uf:=(Q2 h.objs.size).filterMap λa=>if a=L\/(g.get? a).isSome=ZC then ZB else(h.get? a).map λo=>(a,o)
def bM(g h:ZH)(L d:ZE):Uf:=(HI g h L).filter λp=>decide (p.1≠d)
structure Mod (K:Pv)(mg:WF)(base:ZH):Prop where
 kin:K.In base
 glob:base.Ns Qv mg
 blt:∃mb,base.Ns UX mb/\∀x:Str,x≠ "__name__"->mb x=Qw x
 nolimit:base.NoLimit
structure Cx where
 prog:Qg
 w:QP
 K:Pv
 mg:WF
 base:ZH
 A:Qq
 N:List Str
 s₀:Pz
 H₀:Hp
 env:Env
 outer:List Env
 stack:List Env
 ex:List ZE
 fn:Str->Bool
 calm:Bool
 pn:Uf
 xe:WP
def oG(l:List Env):List ZE:=l.filterMap (·.frame)
abbrev Cx.fs(X:Cx):List ZE:=oG X.outer
def jk(sc:Tg)(x:Str):Prop:=sc.names.lookup x=ZA .local\/sc.names.lookup x=ZA .cell\/sc.names.lookup x=ZA .free
def Loc(sc:Tg)(x:Str):Prop:=sc.names.lookup x=ZA .local\/sc.names.lookup x=ZA .cell
def Look(env:Env)(h:ZH)(m:WF)(x:Str)(u:Px):Prop:=
 (env.kindOf x=ZA .local/\m x=ZA u)\/((env.kindOf x=ZA .cell\/env.kindOf x=ZA .free)/\∃c,env.cells.lookup x=ZA c/\h.IsCell c (ZA u))
structure Cx.Ok (X:Cx):Prop where
 mod:Mod X.K X.mg X.base
 kind:X.env.scope.kind=.function
 glob:X.env.globals=Qv
 blt:X.env.builtins=UX
 above:X.s₀.heap.objs.size<=X.env.locals
 inj:∀x y c,X.env.cells.lookup x=ZA c->X.env.cells.lookup y=ZA c->x=y
 has:∀x,(X.env.kindOf x=ZA .cell\/X.env.kindOf x=ZA .free)->∃c,X.env.cells.lookup x=ZA c
 cab:∀x c,X.fn x=ZC->X.env.cells.lookup x=ZA c->X.s₀.heap.objs.size<=c
 hd:X.calm=ZC->X.A.handled=ZB
 frames:X.A.frames=ZA X.stack
 stk:X.stack=X.outer\/(X.stack=X.env::X.outer/\X.env.frame=ZA X.env.locals)
 exf:∀b∈X.ex,b≠X.env.locals/\∀x c,X.env.cells.lookup x=ZA c->c≠b
 bs:∀b o,X.base.get? b=ZA o->X.s₀.heap.get? b=ZA o/\X.H₀ b=ZB
 bsz:X.base.objs.size<=X.s₀.heap.objs.size
 noex:∀b o,X.base.get? b=ZA o->b∉X.ex
 exfs:∀b∈X.ex,b∉X.fs
 funs:X.s₀.heap.FunFrames X.base X.outer
 frf:∀b∈X.fs,X.H₀ b=ZB
structure Inv (X:Cx)(kt:Uf)(σ:List (Option V))(H:Hp)(s:Pz):Prop where
 ok:X.Ok
 os:s.os=X.s₀.os
 bare:U7 s.gens
 base:Un X.fs X.ex X.H₀ H X.s₀.heap s.heap
 loc:∃m,s.heap.Ns X.env.locals m/\∀(i:Nat)(x:Str)(v:V),X.N[i]?=ZA x->σ[i]?=ZA (ZA v)->jk X.env.scope x->∃u,RelV v u/\Look X.env s.heap m x u
 cell:∀x c,X.env.cells.lookup x=ZA c->∃v,s.heap.IsCell c v
 free:H X.env.locals=ZB
 freeC:∀x c,X.env.cells.lookup x=ZA c->H c=ZB
 pin:∀p∈X.pn++kt,s.heap.get? p.1=ZA p.2/\H p.1=ZB/\p.1≠X.env.locals/\p.1∉X.fs/\∀v,p.2.data≠ .cell v
 hok:HOk X.prog X.w H s.heap
 len:σ.length=X.N.length
variable{N:List Str}{X:Cx}{it:ZE}{kt:Uf}{v:V}{x:Str}
section
variable {σ:List (Option V)}
def Cx.Ok.Pu(ok:X.Ok){o:Obj}(e:X.base.get? b=ZA o):b∉X.fs:=λhb=>by
 have:=(ok.funs.mem hb).1;rw[e]at this;cases this
theorem Inv.bs(I:Inv X kt σ H s):∀b o,X.base.get? b=ZA o->s.heap.get? b=ZA o/\H b=ZB:=λb o e=>
 ⟨I.base.keep b o (I.ok.bs b o e).1 (I.ok.bs b o e).2 (I.ok.Pu e) (I.ok.noex b o e),I.base.free b o (I.ok.bs b o e).1 (I.ok.bs b o e).2 (I.ok.noex b o e)⟩
def Inv.bk(I:Inv X kt σ H s):∀b o,X.base.get? b=ZA o->s.heap.get? b=ZA o:=λb o e=>(I.bs b o e).1
theorem Inv.mod(I:Inv X kt σ H s):Mod X.K X.mg X.base:=I.ok.mod
def Inv.kIn(I:Inv X kt σ H s):X.K.In s.heap:=I.ok.mod.kin.keeps I.bk
theorem Inv.lt(I:Inv X kt σ H s):X.env.locals<s.heap.objs.size:=let ⟨_,hn,_⟩:=I.loc;hn.lt
def Inv.sz(I:Inv X kt σ H s):X.s₀.heap.objs.size<=s.heap.objs.size:=Qn I.ok.above (RH I.lt)
def Inv.Pq(I:Inv X kt σ H s)(h:s.heap.objs.size<=a):a∉X.fs:=λhb=>by
 obtain⟨_,o,ho,_⟩:=I.ok.funs.mem hb;exact absurd (PQ (PU ho) (Qn I.sz h)) (Qm _)
def Inv.cne(I:Inv X kt σ H s):∀x c,X.env.cells.lookup x=ZA c->c≠X.env.locals:=λx c e z=>by
 obtain⟨v,o,ho,hd⟩:=I.cell x c e;obtain⟨m,⟨o',es,ep,ho',hd',_⟩,_⟩:=I.loc;rw[z,ho']at ho;cases ho;rw[hd']at hd;cases hd
theorem Inv.funs(I:Inv X kt σ H s):s.heap.FunFrames X.base X.outer:=by
 have all:∀(l:List Env),(∀b∈oG l,b∈X.fs)->X.s₀.heap.FunFrames X.base l->s.heap.FunFrames X.base l:=by
  intro l
  induction l with
  |nil=>intro _ _;trivial
  |cons env r ih=>
   intro hs hl;obtain⟨hk,⟨L,o,hf,hn,ho,hd⟩,hr⟩:=hl
   have hL:L∈X.fs:=hs L (by unfold oG;rw[Q8,hf];exact PB)
   obtain⟨sl,e⟩:=I.base.slot L o ho (I.ok.frf L hL) hL λz=>I.ok.exfs L z hL
   exact⟨hk,⟨L,_,hf,hn,e,hd⟩,ih (λb hb=>hs b (by unfold oG;rw[Q8,hf];exact Pw _ hb)) hr⟩
 exact all X.outer (λ_ hb=>hb) I.ok.funs
def Inv.stack(I:Inv X kt σ H s):s.heap.FunFrames X.base X.stack:=by
 rcases I.ok.stk with e|⟨e,hf⟩
 ·rw[e];exact I.funs
 ·rw[e]
  obtain⟨m,hn,_⟩:=I.loc;refine .cons (by rw[I.ok.kind];decide) hf hn ?_ I.funs
  exact Heap.get?_none_of_le (Qn I.ok.bsz I.ok.above)
def Inv.OM(I:Inv X kt σ H s):∀b∈oG X.stack,b∈X.env.locals::X.fs:=λb hb=>by
 rcases I.ok.stk with e|⟨e,hf⟩
 ·rw[e]at hb;exact Pw _ hb
 ·rw[e]at hb
  unfold oG at hb;rw[Q8,hf]at hb;exact hb
def Inv.Ov(I:Inv X kt σ H s):∀b∈oG X.stack,H b=ZB:=λb hb=>by
 rcases PJ.mp (I.OM b hb)with e|hb
 ·rw[e];exact I.free
 ·obtain⟨_,o,ho,_⟩:=I.ok.funs.mem hb
  exact I.base.free b o ho (I.ok.frf b hb) λz=>I.ok.exfs b z hb
def Inv.step{g':Array Wm}{t':Nat}{d':XZ}{ch:List ZE}(I:Inv X kt σ H s)
  (hch:∀b∈ch,(b∈X.ex\/X.s₀.heap.objs.size<=b)/\b≠X.env.locals/\(∀x c,X.env.cells.lookup x=ZA c->c≠b)/\∀p∈X.pn++kt,p.1≠b)
  (keep:∀b o,b≠X.env.locals->b∉X.fs->b∉ch->s.heap.get? b=ZA o->H b=ZB->h'.get? b=ZA o)
  (slot:∀b o,b≠X.env.locals->b∈X.fs->b∉ch->s.heap.get? b=ZA o->H b=ZB->∃sl,h'.get? b=ZA {o with slots:=sl}) (free:∀b o,b∉ch->s.heap.get? b=ZA o->H b=ZB->H' b=ZB)
  (there:∀b o,b∉ch->s.heap.get? b=ZA o->∃o',h'.get? b=ZA o')
  (tups:∀b xs,H b=ZA (.tup xs)->H' b=ZA (.tup xs)) (frzs:∀b o u,H b=ZA (.frz o u)->H' b=ZA (.frz o u)) (tbls:∀b ps,H b=ZA (.tbl ps)->∃more,H' b=ZA (.tbl (ps++more)))
  (ns:∀m,s.heap.Ns X.env.locals m->h'.Ns X.env.locals m) (hok:HOk X.prog X.w H' h') (hg:U7 g'):
  Inv X kt σ H' {s with heap:=h',gens:=g',drawn:=d',toks:=t'}:=by
 have neL:∀b o,X.s₀.heap.get? b=ZA o->b≠X.env.locals:=λb o e=>QJ (PQ (PU e) I.ok.above)
 have neC:∀b o,X.s₀.heap.get? b=ZA o->b∉X.ex->b∉ch:=λb o e hx hb=>by
  rcases(hch b hb).1 with z|z
  ·exact hx z
  ·exact absurd (PQ (PU e) z) (Qm _)
 have cellK:∀x c,X.env.cells.lookup x=ZA c->∀v,s.heap.IsCell c v->h'.IsCell c v:=λx c e v hh_=>by
  obtain⟨o,ho,hd⟩:=hh_
  have nch:c∉ch:=λz=>(hch c z).2.2.1 x c e rfl
  by_cases hc:c∈X.fs
  ·obtain⟨sl,q⟩:=slot c o (I.cne x c e) hc nch ho (I.freeC x c e)
   exact⟨_,q,hd⟩
  ·exact⟨o,keep c o (I.cne x c e) hc nch ho (I.freeC x c e),hd⟩
 refine⟨I.ok,I.os,hg,⟨λb o e n hb hx=>?_,λb o e n hb hx=>?_,λb o e n hx=>?_,λb o e hx=>?_,λb xs e=>tups b xs (I.base.tups b xs e),λb o xs e=>frzs b o xs (I.base.frzs b o xs e),λb ps e=>?_⟩,?_,λx c e=>?_,?_,λx c e=>?_,λp hp=>?_,hok,I.len⟩
 ·exact keep b o (neL b o e) hb (neC b o e hx) (I.base.keep b o e n hb hx) (I.base.free b o e n hx)
 ·obtain⟨sl,e1⟩:=I.base.slot b o e n hb hx
  obtain⟨sl',e2⟩:=slot b _ (neL b o e) hb (neC b o e hx) e1 (I.base.free b o e n hx);exact⟨sl',e2⟩
 ·obtain⟨o',e1⟩:=I.base.there b o e hx
  exact free b o' (neC b o e hx) e1 (I.base.free b o e n hx)
 ·obtain⟨o',e1⟩:=I.base.there b o e hx
  exact there b o' (neC b o e hx) e1
 ·obtain⟨m1,e1⟩:=I.base.tbls b ps e
  obtain⟨m2,e2⟩:=tbls b _ e1;exact⟨m1++m2,by rw[e2,Array.append_assoc]⟩
 ·obtain⟨m,hn,hl⟩:=I.loc
  refine⟨m,ns m hn,λi x v e1 e2 e3=>?_⟩
  obtain⟨u,r,l⟩:=hl i x v e1 e2 e3;refine⟨u,r,?_⟩
  rcases l with l|⟨k,c,e,z⟩
  ·exact .inl l
  ·exact .inr ⟨k,c,e,cellK x c e _ z⟩
 ·obtain⟨v,z⟩:=I.cell x c e
  exact⟨v,cellK x c e v z⟩
 ·obtain⟨m,⟨o,_,_,ho,_⟩,_⟩:=I.loc
  exact free _ o (λz=>(hch _ z).2.1 rfl) ho I.free
 ·obtain⟨v,o,ho,hd⟩:=I.cell x c e
  exact free c o (λz=>(hch c z).2.2.1 x c e rfl) ho (I.freeC x c e)
 ·obtain⟨e,n,ne,nf,d⟩:=I.pin p hp
  have nch:p.1∉ch:=λz=>(hch p.1 z).2.2.2 p hp rfl
  exact⟨keep p.1 p.2 ne nf nch e n,free p.1 p.2 nch e n,ne,nf,d⟩
def Inv.un(I:Inv X kt σ H s)(u:Un X.fs [] H H' s.heap h')(hok:HOk X.prog X.w H' h'):Inv X kt σ H' {s with heap:=h',toks:=t'}:=by
 obtain⟨m,⟨o,es,ep,ho,r⟩,_⟩:=id I.loc;obtain⟨sl,hL⟩:=u.any ho I.free (by simp)
 exact I.step (g':=s.gens) (d':=s.drawn) (ch:=[]) (λ_ z=>nomatch z) (λb o _ hb _ e n=>u.keep b o e n hb (by simp)) (λb o _ hb _ e n=>u.slot b o e n hb (by simp)) (λb o _ e n=>u.free b o e n (by simp)) (λb o _ e=>u.there b o e (by simp)) u.tups u.frzs u.tbls (λm' hm=>by
  obtain⟨o',es',ep',ho',r'⟩:=hm;rw[ho]at ho';cases ho';exact⟨_,es',ep',hL,r'⟩) hok I.bare
def Inv.call{g':Array Wm}{d':XZ}{ch:List ZE}(I:Inv X kt σ H s)(u:Un (oG X.stack) ch H H' s.heap h')(hok:HOk X.prog X.w H' h')(hg:U7 g')
  (hch:∀b∈ch,(b∈X.ex\/X.s₀.heap.objs.size<=b)/\b≠X.env.locals/\(∀x c,X.env.cells.lookup x=ZA c->c≠b)/\∀p∈X.pn++kt,p.1≠b):
  Inv X kt σ H' {s with heap:=h',gens:=g',drawn:=d',toks:=t'}:=by
 obtain⟨m,⟨o,es,ep,ho,r⟩,_⟩:=id I.loc;obtain⟨sl,hL⟩:=u.any ho I.free λz=>(hch _ z).2.1 rfl
 exact I.step (ch:=ch) hch (λb o hL hb hc e n=>u.keep b o e n (λz=>(PJ.mp (I.OM b z)).elim hL hb) hc) (λb o _ _ hc e n=>u.any e n hc) (λb o hc e n=>u.free b o e n hc) (λb o hc e=>u.there b o e hc) u.tups u.frzs u.tbls (λm' hm=>by
  obtain⟨o',es',ep',ho',r'⟩:=hm;rw[ho]at ho';cases ho';exact⟨_,es',ep',hL,r'⟩) hok hg
def Inv.turned(I:Inv X kt σ H s)(k:∀b o,b≠it->s.heap.get? b=ZA o->h'.get? b=ZA o)(hn:H it=ZB)(hL:it≠X.env.locals)
  (h1:it∈X.ex\/X.s₀.heap.objs.size<=it) (h2:∀x c,X.env.cells.lookup x=ZA c->c≠it) (h3:∀p∈X.pn++kt,p.1≠it):Inv X kt σ H {s with heap:=h',toks:=t'}:=by
 have nit:∀b u,H b=ZA u->b≠it:=λb u e z=>by rw[z,hn]at e;cases e
 refine I.step (g':=s.gens) (d':=s.drawn) (ch:=[it]) (λb hb=>?_) (λb o _ _ hc e _=>k b o (λz=>hc (by simp[z])) e) (λb o _ _ hc e _=>⟨o.slots,k b o (λz=>hc (by simp[z])) e⟩) (λ_ _ _ _ n=>n)
  (λb o hc e=>⟨o,k b o (λz=>hc (by simp[z])) e⟩) (λ_ _ e=>e) (λ_ _ _ e=>e) (λb ps e=>⟨#[],by rw[e];simp⟩) (λm hm=>?_) (λb u e=>?_) I.bare
 ·have e:b=it:=by simpa using hb
  subst e;exact⟨h1,hL,h2,h3⟩
 ·obtain⟨o,es,ep,ho,r⟩:=hm
  exact⟨o,es,ep,k _ o (Sv hL) ho,r⟩
 ·refine(I.hok b u e).OA (λc v hc q=>k c v ?_ q) (λ_ q=>q) λ_ _ q=>q
  rcases hc with z|z
  ·rw[z];exact nit b u e
  ·exact nit c _ z
def Inv.tok(I:Inv X kt σ H s)(t:Nat):Inv X kt σ H {s with toks:=t}:=I.un (h':=s.heap) (t':=t) Un.refl I.hok
theorem Inv.kept(I:Inv X kt σ H s)(k:∀b u,s.heap.get? b=ZA u->h'.get? b=ZA u):Inv X kt σ H {s with heap:=h',toks:=t'}:=I.un (Un.kept k) (I.hok.kept k)
theorem Inv.laid{o:HO}(I:Inv X kt σ H s)(k:∀b u,s.heap.get? b=ZA u->h'.get? b=ZA u)(hp:s.heap.objs.size<=a)(new:ObjOk X.prog X.w (upd H a o) h' a o):
  Inv X kt σ (upd H a o) {s with heap:=h',toks:=t'}:=I.un (Un.laid k hp (I.hok.fresh hp)) (I.hok.laid k hp new)
theorem Inv.write{x:ZE}{o:HO}(I:Inv X kt σ H s)(mu:N4 (H x))(he:e=x\/H e=ZA (.own x))(k:∀b u,b≠e->s.heap.get? b=ZA u->h'.get? b=ZA u)(heo:∃u,h'.get? e=ZA u)
  (new:ObjOk X.prog X.w (upd H x o) h' x o):Inv X kt σ (upd H x o) {s with heap:=h',toks:=t'}:=I.un (Un.write mu he k heo) (I.hok.write mu he k heo new)
def Inv.ON{pins':Uf}(I:Inv X kt σ H s)(h:∀p∈pins',s.heap.get? p.1=ZA p.2/\H p.1=ZB/\p.1≠X.env.locals/\p.1∉X.fs/\∀v,p.2.data≠ .cell v):Inv X pins' σ H s:=
 ⟨I.ok,I.os,I.bare,I.base,I.loc,I.cell,I.free,I.freeC,λp hp=>(PZ.mp hp).elim (λz=>I.pin p (Qb _ z)) (h p),I.hok,I.len⟩
def vZ(hN:N.Nodup)(a:N[i]?=ZA x)(b:N[j]?=ZA x):i=j:=by
 obtain⟨h1,e1⟩:=PM.mp a
 obtain⟨h2,e2⟩:=PM.mp b
 exact(List.getElem_inj hN).mp (e1.trans e2.symm)
variable{Q:Unit->Pz->Prop}
def rH{u:Px}(I:Inv X kt σ H s)(hN:X.N.Nodup)(hi:X.N[i]?=ZA x)(hx:Loc X.env.scope x)(r:RelV v u)
  (h:∀s',Inv X kt (σ.set i (ZA v)) H s'->(∃a,Ta a s.heap s'.heap/\(a=X.env.locals\/X.env.cells.lookup x=ZA a))->Q () s') (hf:autoParam (X.fn x=ZC\/X.env.scope.names.lookup x=ZA .local) r_):ZJ M A (storeName X.env x u) Q E s:=by
 obtain⟨m,hn,hl⟩:=id I.loc
 have hcls:(X.env.scope.kind == .class||(X.env.scope.kind == .module&&X.env.locals != X.env.globals))=ZD:=by rw[I.ok.kind];rfl
 have hiσ:i<σ.length:=by rw[I.len];exact(PM.mp hi).1
 have cne:=I.cne
 have tracked:∀{a:ZE}{h':ZH},(∃o,s.heap.get? a=ZA o/\H a=ZB)->Ta a s.heap h'->HOk X.prog X.w H h':=λ{a h'} ha hs b ob e=>by
  obtain⟨_,_,hfree⟩:=ha;refine(I.hok b ob e).OA (λc w' hc q=>(hs.2 c ?_).trans q) (λ_ q=>q) λ_ _ q=>q
  rintro rfl
  rcases hc with rfl|hc
  ·rw[hfree]at e;cases e
  ·rw[hfree]at hc;cases hc
 rcases hx with hk|hk
 ·refine wpAny_storeName_local hk hn (λh' hn' hs=>?_) hcls
  obtain⟨oL,_,_,hoL,_⟩:=id hn;refine h _ ⟨I.ok,I.os,I.bare,⟨λb o e n hb hx=>?_,λb o e n hb hx=>?_,I.base.free,λb o e hx=>?_,I.base.tups,I.base.frzs,I.base.tbls⟩,⟨_,hn',λj y v' e1 e2 e3=>?_⟩,λy c e=>?_,I.free,I.freeC,λp hp=>?_,tracked ⟨oL,hoL,I.free⟩ hs,by simpa using I.len⟩ ⟨_,hs,.inl rfl⟩
  ·exact(hs.2 b (QJ (PQ (PU e) I.ok.above))).trans (I.base.keep b o e n hb hx)
  ·obtain⟨sl,e1⟩:=I.base.slot b o e n hb hx
   exact⟨sl,(hs.2 b (QJ (PQ (PU e) I.ok.above))).trans e1⟩
  ·obtain⟨o',e1⟩:=I.base.there b o e hx
   exact⟨o',(hs.2 b (QJ (PQ (PU e) I.ok.above))).trans e1⟩
  ·by_cases hj:j=i
   ·subst hj
    rw[hi]at e1;cases e1;rw[P4 hiσ]at e2
    cases e2;exact⟨u,r,.inl ⟨hk,by simp⟩⟩
   ·rw[P3 (Sv hj)]at e2
    obtain⟨u',r',q⟩:=hl j y v' e1 e2 e3;refine⟨u',r',?_⟩
    rcases q with⟨k,e⟩|⟨k,c,e,z⟩
    ·refine .inl ⟨k,?_⟩
     have:y≠x:=λe=>hj (vZ hN e1 (e▸hi))
     simp[this,e]
    ·exact .inr ⟨k,c,e,z.sameBut hs (cne y c e)⟩
  ·obtain⟨w',z⟩:=I.cell y c e
   exact⟨w',z.sameBut hs (cne y c e)⟩
  ·obtain⟨e,n,ne,nf,d⟩:=I.pin p hp
   exact⟨(hs.2 p.1 ne).trans e,n,ne,nf,d⟩
 ·have hfn:X.fn x=ZC:=by
   rcases hf with z|z
   ·exact z
   ·rw[z]at hk;cases hk
  obtain⟨c,hc⟩:=I.ok.has x (.inl hk);obtain⟨w',z⟩:=I.cell x c hc;refine wpAny_storeName_cell I.ok.kind hk hc z (λh' hc' hs=>?_)
  obtain⟨oc,hoc,hocd⟩:=id z;refine h {s with heap:=h'} ⟨I.ok,I.os,I.bare,⟨λb o e n hb hx=>?_,λb o e n hb hx=>?_,I.base.free,λb o e hx=>?_,I.base.tups,I.base.frzs,I.base.tbls⟩,⟨m,hn.sameBut hs (Sv (cne x c hc)),λj y v' e1 e2 e3=>?_⟩,λy c' e=>?_,I.free,I.freeC,λp hp=>?_,tracked ⟨oc,hoc,I.freeC x c hc⟩ hs,by simpa using I.len⟩ ⟨c,hs,.inr hc⟩
  ·exact(hs.2 b (QJ (PQ (PU e) (I.ok.cab x c hfn hc)))).trans (I.base.keep b o e n hb hx)
  ·obtain⟨sl,e1⟩:=I.base.slot b o e n hb hx
   exact⟨sl,(hs.2 b (QJ (PQ (PU e) (I.ok.cab x c hfn hc)))).trans e1⟩
  ·obtain⟨o',e1⟩:=I.base.there b o e hx
   exact⟨o',(hs.2 b (QJ (PQ (PU e) (I.ok.cab x c hfn hc)))).trans e1⟩
  ·by_cases hj:j=i
   ·subst hj
    rw[hi]at e1;cases e1;rw[P4 hiσ]at e2
    cases e2;exact⟨u,r,.inr ⟨.inl hk,c,hc,hc'⟩⟩
   ·rw[P3 (Sv hj)]at e2
    obtain⟨u',r',q⟩:=hl j y v' e1 e2 e3;refine⟨u',r',?_⟩
    rcases q with q|⟨k,c',e,z'⟩
    ·exact .inl q
    ·refine .inr ⟨k,c',e,z'.sameBut hs ?_⟩
     rintro rfl
     exact hj (vZ hN e1 (I.ok.inj _ _ _ e hc▸hi))
  ·by_cases hcc:c'=c
   ·subst hcc;exact⟨_,hc'⟩
   ·obtain⟨w2,z2⟩:=I.cell y c' e
    exact⟨w2,z2.sameBut hs hcc⟩
  ·obtain⟨e,n,ne,nf,d⟩:=I.pin p hp
   refine⟨(hs.2 p.1 ?_).trans e,n,ne,nf,d⟩
   intro q;rw[q,hoc]at e
   have q':oc=p.2:=Qu e;exact d w' (by rw[<-q'];exact hocd)
def lI{u:Px}(I:Inv X kt σ H s)(hN:X.N.Nodup)(hi:X.N[i]?=ZA x)(hx:Loc X.env.scope x)(r:RelV v u)
  (h:∀s',Inv X kt (σ.set i (ZA v)) H s'->Q () s') (hf:autoParam (X.fn x=ZC\/X.env.scope.names.lookup x=ZA .local) r_):ZJ M A (storeName X.env x u) Q E s:=
 rH I hN hi hx r (λs' I' _=>h s' I') hf
def Inv.OJ{ch:List ZE}(I:Inv X kt σ H s)(ho:s'.os=s.os)(u:Un (oG X.stack) ch H H' s.heap s'.heap)(hok:HOk X.prog X.w H' s'.heap)(hg:U7 s'.gens)
  (hch:∀b∈ch,(b∈X.ex\/X.s₀.heap.objs.size<=b)/\b≠X.env.locals/\(∀x c,X.env.cells.lookup x=ZA c->c≠b)/\∀p∈X.pn++kt,p.1≠b):Inv X kt σ H' s':=by
 obtain⟨h',g',d',t',o'⟩:=s'
 have e:o'=s.os:=ho;subst e;exact I.call (g':=g') (t':=t') (d':=d') u hok hg hch
end
abbrev XK:=Px->Option ZE->Hp->Prop
abbrev St:=List (Option V)
abbrev VK:=V->Hp->Prop
abbrev TE:=St->Hp->VK->Prop
abbrev TT:=St->Hp->(Bool->Hp->Prop)->Prop
abbrev TA:=St->Hp->(List V->Hp->Prop)->Prop
structure oa where
 nx:St->Hp->Prop
 rt:VK
 bk:St->Hp->Prop:=λ_ _=>False
 ct:St->Hp->Prop:=λ_ _=>False
abbrev TS:=oa->St->Hp->Prop
def EP(X:Cx)(kt:Uf)(σ:St)(Q:VK)(u:Px)(s':Pz):Prop:=∃v H',Inv X kt σ H' s'/\RelV v u/\Q v H'
def TP(X:Cx)(kt:Uf)(σ:St)(Q:Bool->Hp->Prop)(b:Bool)(s':Pz):Prop:=∃H',Inv X kt σ H' s'/\Q b H'
def AP(X:Cx)(kt:Uf)(σ:St)(Q:List V->Hp->Prop)(us:List Px)(s':Pz):Prop:=∃vs H',Inv X kt σ H' s'/\Vals vs us/\Q vs H'
def SP(X:Cx)(kt:Uf)(D:oa)(f:Flow)(s':Pz):Prop:=
 match f with
 |.next=>∃σ' H',Inv X kt σ' H' s'/\D.nx σ' H'
 |.brk=>∃σ' H',Inv X kt σ' H' s'/\D.bk σ' H'
 |.cont=>∃σ' H',Inv X kt σ' H' s'/\D.ct σ' H'
 |.ret u=>∃v σ' H',Inv X kt σ' H' s'/\RelV v u/\D.rt v H'
def PE(X:Cx)(e:ZG)(t:TE):Prop:=
 ∀(kt:Uf)(s:Pz)(σ:St)(H:Hp)(Q:VK),Inv X kt σ H s->t σ H Q->ZJ (ZK X.prog X.w) X.A (eval e X.env) (EP X kt σ Q) X.xe s
def PT(X:Cx)(e:ZG)(t:TT):Prop:=
 ∀(kt:Uf)(s:Pz)(σ:St)(H:Hp)(Q:Bool->Hp->Prop),Inv X kt σ H s->t σ H Q->ZJ (ZK X.prog X.w) X.A (isTrue e X.env (eval e X.env)) (TP X kt σ Q) X.xe s
def PW(X:Cx)(e:ZG)(t:TT):Prop:=
 ∀(whole:Sem Px)(kt:Uf)(s:Pz)(σ:St)(H:Hp)(Q:Bool->Hp->Prop),Inv X kt σ H s->t σ H Q->ZJ (ZK X.prog X.w) X.A (isTrue e X.env whole) (TP X kt σ Q) X.xe s
variable{e:ZG}
def PW.pt{t:TT}(h:PW X e t):PT X e t:=h _
def PA(X:Cx)(es:List ZG)(t:TA):Prop:=
 ∀(pos:Pos)(kt:Uf)(s:Pz)(σ:St)(H:Hp)(Q:List V->Hp->Prop),Inv X kt σ H s->t σ H Q->ZJ (ZK X.prog X.w) X.A (spliced (backTo pos (PR es X.env))) (AP X kt σ Q) X.xe s
def PS(X:Cx)(st:ZF)(t:TS):Prop:=
 ∀(kt:Uf)(s:Pz)(σ:St)(H:Hp)(D:oa),Inv X kt σ H s->t D σ H->ZJ (ZK X.prog X.w) X.A (exec st X.env) (SP X kt D) X.xe s
def PSs(X:Cx)(st:List ZF)(t:TS):Prop:=
 ∀(kt:Uf)(s:Pz)(σ:St)(H:Hp)(D:oa),Inv X kt σ H s->t D σ H->ZJ (ZK X.prog X.w) X.A (execs st X.env) (SP X kt D) X.xe s
def bV{t:Sem α}{Q Q':α->Pz->Prop}(h:ZJ M A t Q E s)(hQ:∀a s,Q a s->Q' a s):ZJ M A t Q' E s:=Rm h hQ λ_ _ x=>x
variable{c:ZG}{pos:Pos}{ta:TE}{σ:St}
section
def Jd(i:Nat):TE:=λσ H Q=>∃v,σ[i]?=ZA (ZA v)/\Q v H
def tC(v:V):TE:=λ_ H Q=>Q v H
def dt{pos:Pos}(hN:X.N[i]?=ZA x)(hv:jk X.env.scope x)(hd:autoParam ((x == ("__debug__" : Str))=ZD) s_)(hcd:autoParam ((x == ("__classdict__" : Str))=ZD) s_):PE X (.Name x pos) (Jd i):=by
 intro kt s σ H Q I h;obtain⟨v,e,h⟩:=h;obtain⟨m,hn,hl⟩:=I.loc;obtain⟨u,r,l⟩:=hl i x v hN e hv
 have fin:EP X kt σ Q u s:=⟨v,H,I,r,h⟩;rcases l with⟨hk,hm⟩|⟨hk,c,hc,hcell⟩
 ·exact wpAny_Name (VQ I.ok.kind hk hn hm fin) hd
 ·rcases hk with hk|hk
  ·exact wpAny_Name (V4 I.ok.kind hk hc hcell fin) hd
  ·exact wpAny_Name (wpAny_loadName_free I.ok.kind hk hc hcell fin hcd) hd
def CO{i j pos}:PE X (.Constant (.int i) j pos) (tC (.int i)):=λ_ _ _ H _ I h=>wpAny_Constant_int ⟨.int i,H,I.tok _,⟨_,rfl⟩,h⟩
def MY{b j pos}:PE X (.Constant (.bool b) j pos) (tC (.bl b)):=λ_ _ _ H _ I h=>Constant_bool ⟨.bl b,H,I,rfl,h⟩
def J5{j pos}:PE X (.Constant .none j pos) (tC .non):=λ_ _ _ H _ I h=>Constant_none ⟨.non,H,I,rfl,h⟩
def J3{x j pos}:PE X (.Constant (.str x) j pos) (tC (.str x)):=λ_ _ _ H _ I h=>Wa ⟨.str x,H,I.tok _,⟨_,rfl⟩,h⟩
def Gl(X:Cx)(x:Str):Prop:=X.env.kindOf x=ZA .globalImplicit
def gH{u:Px}{pos:Pos}(I:Inv X kt σ H s)(hg:Gl X x)(hm:X.mg x=ZA u)(h:Q u s)
  (hd:autoParam ((x == ("__debug__" : Str))=ZD) s_):ZJ (ZK X.prog X.w) X.A (eval (.Name x pos) X.env) Q E s:=
 UD I.ok.kind hg (Calls.loadGlobal_global (by rw[I.ok.glob];exact I.mod.glob.keeps I.bk) hm h) hd
def fO{u:Px}{pos:Pos}(I:Inv X kt σ H s)(hg:Gl X x)(hm:X.mg x=ZB)(hv:Qw x=ZA u)(h:Q u s)
  (hn:autoParam (x≠ "__name__") s_) (hd:autoParam ((x == ("__debug__" : Str))=ZD) s_):ZJ (ZK X.prog X.w) X.A (eval (.Name x pos) X.env) Q E s:=by
 obtain⟨mb,h1,h2⟩:=I.mod.blt;exact UD I.ok.kind hg (Calls.loadGlobal_builtin (by rw[I.ok.glob];exact I.mod.glob.keeps I.bk) hm (by rw[I.ok.blt];exact h1.keeps I.bk) ((h2 x hn).trans hv) h) hd
def zC{u:Px}{pos:Pos}(hg:Gl X x)(hm:X.mg x=ZA u)(r:RelV v u)(hd:autoParam ((x == ("__debug__" : Str))=ZD) s_):PE X (.Name x pos) (tC v):=
 λ_ _ _ H _ I h=>gH I hg hm ⟨v,H,I,r,h⟩ hd
def zG{u:Px}{pos:Pos}(hg:Gl X x)(hm:X.mg x=ZB)(hv:Qw x=ZA u)(r:RelV v u)(hn:autoParam (x≠ "__name__") s_)(hd:autoParam ((x == ("__debug__" : Str))=ZD) s_):PE X (.Name x pos) (tC v):=
 λ_ _ _ H _ I h=>fO I hg hm hv ⟨v,H,I,r,h⟩ hn hd
variable {a b:ZG}{tb:TE}
def tB(t:TE):TT:=λσ H Q=>t σ H λx H1=>∃c,x=.bl c/\Q c H1
def JT{t:TE}(h:PE X e t)(he:autoParam (∀whole,isTrue e X.env whole=(do let v <-whole;standAt e.pos;holding [v] (truthy v))) t_):PT X e (tB t):=by
 intro kt s σ H Q I hw;refine isTrue_plain (bV (h kt s σ H _ I hw) λv s1 ⟨x,H1,I1,r1,q1⟩=>?_) (he _)
 obtain⟨d,rfl,q⟩:=q1;cases r1;exact Rn ⟨H1,I1,q⟩
variable {tA tB':TT}{bM:List ZG}
def tAnd(t u:TT):TT:=λσ H Q=>t σ H λc H1=>if c=ZC then u σ H1 Q else Q ZD H1
def tOr(t u:TT):TT:=λσ H Q=>t σ H λc H1=>if c=ZC then Q ZC H1 else u σ H1 Q
def tNot(t:TT):TT:=λσ H Q=>t σ H λc H1=>Q (!c) H1
def Gs(ha:PT X a tA):PW X (.BoolOp .And [a] pos) tA:=by
 intro wh kt s σ H Q I h;refine isTrue_and (bV (ha kt s σ H Q I h) λc s1 e=>?_)
 cases c with
 |true=>exact isTrue_and_nil e
 |false=>exact e
def JR(ha:PT X a tA):PW X (.BoolOp .Or [a] pos) tA:=by
 intro wh kt s σ H Q I h;refine isTrue_or (bV (ha kt s σ H Q I h) λc s1 e=>?_)
 cases c with
 |false=>exact isTrue_or_nil e
 |true=>exact e
def JS(ha:PT X a tA)(hb:PW X (.BoolOp .And (b::bM) pos) tB'):PW X (.BoolOp .And (a::b::bM) pos) (tAnd tA tB'):=by
 intro wh kt s σ H Q I h;refine isTrue_and (bV (ha kt s σ H _ I h) λc s1 hh_=>?_)
 obtain⟨H1,I1,q1⟩:=hh_
 cases c with
 |true=>exact hb wh kt s1 σ H1 Q I1 q1
 |false=>exact⟨H1,I1,q1⟩
def MT(ha:PT X a tA)(hb:PW X (.BoolOp .Or (b::bM) pos) tB'):PW X (.BoolOp .Or (a::b::bM) pos) (tOr tA tB'):=by
 intro wh kt s σ H Q I h;refine isTrue_or (bV (ha kt s σ H _ I h) λc s1 hh_=>?_)
 obtain⟨H1,I1,q1⟩:=hh_
 cases c with
 |true=>exact⟨H1,I1,q1⟩
 |false=>exact hb wh kt s1 σ H1 Q I1 q1
def JU(ha:PT X a tA):PT X (.UnaryOp .Not a pos) (tNot tA):=by
 intro kt s σ H Q I h;exact isTrue_not (ha kt s σ H (λc H1=>Q (!c) H1) I h)
def Mi(ta tb:TE):TE:=λσ H Q=>ta σ H λx H1=>∃c,x=.bl c/\if c=ZC then tb σ H1 Q else Q (.bl ZD) H1
def tOrV(ta tb:TE):TE:=λσ H Q=>ta σ H λx H1=>∃c,x=.bl c/\if c=ZC then Q (.bl ZC) H1 else tb σ H1 Q
def L7(ta:TE):TE:=λσ H Q=>ta σ H λx H1=>∃c,x=.bl c/\Q (.bl (!c)) H1
def CM{op}{t:TE}(h:PE X a t):PE X (.BoolOp op [a] pos) t:=λkt s σ H Q I hw=>BoolOp_one (h kt s σ H Q I hw)
def CT(ha:PE X a ta)(hb:PE X (.BoolOp .And (b::bM) pos) tb):PE X (.BoolOp .And (a::b::bM) pos) (Mi ta tb):=by
 intro kt s σ H Q I h;refine BoolOp_and (bV (ha kt s σ H _ I h) λv s1 hh_=>?_)
 obtain⟨x,H1,I1,r1,q1⟩:=hh_;obtain⟨c,rfl,q1⟩:=q1;cases r1;refine Rn ?_
 cases c with
 |true=>exact hb kt s1 σ H1 Q I1 q1
 |false=>exact⟨.bl ZD,H1,I1,rfl,q1⟩
def MW(ha:PE X a ta)(hb:PE X (.BoolOp .Or (b::bM) pos) tb):PE X (.BoolOp .Or (a::b::bM) pos) (tOrV ta tb):=by
 intro kt s σ H Q I h;refine BoolOp_or (bV (ha kt s σ H _ I h) λv s1 hh_=>?_)
 obtain⟨x,H1,I1,r1,q1⟩:=hh_;obtain⟨c,rfl,q1⟩:=q1;cases r1;refine Rn ?_
 cases c with
 |false=>exact hb kt s1 σ H1 Q I1 q1
 |true=>exact⟨.bl ZC,H1,I1,rfl,q1⟩
def J4(ha:PE X a ta):PE X (.UnaryOp .Not a pos) (L7 ta):=by
 intro kt s σ H Q I h;refine UnaryOp_ (bV (ha kt s σ H _ I h) λv s1 hh_=>?_)
 obtain⟨x,H1,I1,r1,q1⟩:=hh_;obtain⟨c,rfl,q1⟩:=q1;cases r1;exact not_of (Rn ⟨.bl (!c),H1,I1,rfl,q1⟩)
def tIf(t:TT)(ta tb:TE):TE:=λσ H Q=>t σ H λc H1=>if c=ZC then ta σ H1 Q else tb σ H1 Q
def CP(hc:PT X c tA)(ha:PE X a ta)(hb:PE X b tb):PE X (.IfExp c a b pos) (tIf tA ta tb):=by
 intro kt s σ H Q I h;refine wpAny_IfExp (bV (hc kt s σ H _ I h) λd s1 hh_=>?_)
 obtain⟨H1,I1,q1⟩:=hh_
 cases d with
 |true=>exact ha kt s1 σ H1 Q I1 q1
 |false=>exact hb kt s1 σ H1 Q I1 q1
end
def SqL(K:Pv)(H:Hp)(a:ZE)(xs:List V):Prop:=
 Rd H a (.lst xs) ∨
  ∃(o:Obj)(its:Array Px)(n:Nat),K.lookup a=ZA o/\o.cls=.type "list"/\o.dict=ZB/\o.data=.seq its n/\its.size<=ZI/\Vals xs its.toList
def SqT(K:Pv)(H:Hp)(a:ZE)(xs:List V):Prop:=
 Rd H a (.tup xs) ∨
  ∃(o:Obj)(its:Array Px)(n:Nat),K.lookup a=ZA o/\o.cls=.type "tuple"/\o.data=.seq its n/\its.size<=ZI/\Vals xs its.toList
def absV:Px->Option V
 |.none=>ZA .non
 |.bool b=>ZA (.bl b)
 |.int i _=>ZA (.int i)
 |.str x _=>ZA (.str x)
 |.bytes b _=>ZA (.byt b)
 |.float b _=>ZA (.flt b)
 |.ref a=>ZA (.ref a)
 |.type n=>ZA (.ty n)
 |_=>ZB
def RelV.abs{x:V}{u:Px}(r:RelV x u):absV u=ZA x:=by
 cases x with
 |non=>cases r;rfl
 |bl _=>cases r;rfl
 |int _=>obtain⟨t,rfl⟩:=r;rfl
 |str _=>obtain⟨t,rfl⟩:=r;rfl
 |byt _=>obtain⟨t,rfl⟩:=r;rfl
 |flt _=>obtain⟨t,rfl⟩:=r;rfl
 |ref _=>cases r;rfl
 |ty _=>cases r;rfl
variable{y:V}
def RelV.inj{x:V}{u:Px}(r:RelV x u)(q:RelV y u):x=y:=Qu (r.abs.symm.trans q.abs)
theorem Vals.inj:∀{xs ys:List V}{us:List Px},Vals xs us->Vals ys us->xs=ys
 |_,_,_,.nil,.nil=>rfl
 |_,_,_,.cons r t,.cons r' t'=>by rw[r.inj r',Vals.inj t t']
section
variable {ys:List V}
def SqL.of(h:H a=ZA (.lst xs)):SqL K H a xs:=.inl (.inl h)
def SqT.of(h:H a=ZA (.tup xs)):SqT K H a xs:=.inl (.inl h)
def Inv.list(I:Inv X kt σ H s)(h:SqL X.K H a xs):∃its:List Px,Vals xs its/\PlainL s.heap a its.toArray/\xs.length<=ZI:=by
 rcases h with h|⟨o,its,n,hk,hc,hd,hs,hz,r⟩
 ·obtain⟨z,its,n,r,e⟩:=h.ok I.hok
  exact⟨its,r,⟨_,n,e,rfl,rfl,rfl⟩,z⟩
 ·refine⟨its.toList,r,⟨o,n,I.kIn a o hk,hc,hd,by simpa using hs⟩,?_⟩
  have e:=r.length;simp only[Q9]at e;omega
def Inv.tuple(I:Inv X kt σ H s)(h:SqT X.K H a xs):∃its:List Px,Vals xs its/\XY s.heap a its.toArray/\xs.length<=ZI:=by
 rcases h with h|⟨o,its,n,hk,hc,hs,hz,r⟩
 ·obtain⟨z,its,r,p⟩:=h.ok I.hok
  exact⟨its,r,p,z⟩
 ·refine⟨its.toList,r,⟨o,I.kIn a o hk,hc,n,by simpa using hs⟩,?_⟩
  have e:=r.length;simp only[Q9]at e;omega
def Inv.OB(I:Inv X kt σ H s)(h:SqL X.K H a xs)(h':SqL X.K H a ys):xs=ys:=by
 obtain⟨its,r,⟨o,n,e,_,_,d⟩,_⟩:=I.list h;obtain⟨its',r',⟨o',n',e',_,_,d'⟩,_⟩:=I.list h';rw[e]at e';cases e';rw[d]at d';injection d' with d1 _
 have:its=its':=by simpa using congrArg Vm d1
 subst this;exact r.inj r'
def Inv.OH(I:Inv X kt σ H s)(h:SqT X.K H a xs)(h':SqT X.K H a ys):xs=ys:=by
 obtain⟨its,r,⟨o,e,_,n,d⟩,_⟩:=I.tuple h;obtain⟨its',r',⟨o',e',_,n',d'⟩,_⟩:=I.tuple h';rw[e]at e';cases e';rw[d]at d';injection d' with d1 _
 have:its=its':=by simpa using congrArg Vm d1
 subst this;exact r.inj r'
end
abbrev Cx.FB(X:Cx)(E:WP):Cx:={X with xe:=E}
abbrev Cx.nox(X:Cx):Cx:=X.FB λ_ _=>False
def Cx.Ok.FB(ok:X.Ok)(E:WP):(X.FB E).Ok:=
 ⟨ok.mod,ok.kind,ok.glob,ok.blt,ok.above,ok.inj,ok.has,ok.cab,ok.hd,ok.frames,ok.stk,ok.exf,ok.bs,ok.bsz,ok.noex,ok.exfs,ok.funs,ok.frf⟩
def Cx.Ok.KB(ok:(X.FB E).Ok):X.Ok:=
 ⟨ok.mod,ok.kind,ok.glob,ok.blt,ok.above,ok.inj,ok.has,ok.cab,ok.hd,ok.frames,ok.stk,ok.exf,ok.bs,ok.bsz,ok.noex,ok.exfs,ok.funs,ok.frf⟩
theorem Inv.FB(I:Inv X kt σ H s)(E:WP):Inv (X.FB E) kt σ H s:=⟨I.ok.FB E,I.os,I.bare,I.base,I.loc,I.cell,I.free,I.freeC,I.pin,I.hok,I.len⟩
theorem Inv.KB(I:Inv (X.FB E) kt σ H s):Inv X kt σ H s:=⟨I.ok.KB,I.os,I.bare,I.base,I.loc,I.cell,I.free,I.freeC,I.pin,I.hok,I.len⟩
theorem SP.KB{D:oa}{f:Flow}(h:SP (X.FB E) kt D f s'):SP X kt D f s':=by
 cases f with
 |next=>obtain⟨σ',H',I,q⟩:=h;exact⟨σ',H',I.KB,q⟩
 |brk=>obtain⟨σ',H',I,q⟩:=h;exact⟨σ',H',I.KB,q⟩
 |cont=>obtain⟨σ',H',I,q⟩:=h;exact⟨σ',H',I.KB,q⟩
 |ret u=>obtain⟨v,σ',H',I,r,q⟩:=h;exact⟨v,σ',H',I.KB,r,q⟩
def PSs.nox{st:List ZF}{t:TS}(h:PSs X.nox st t):PSs X st t:=λkt s σ H D I hw=>
 Rm (h kt s σ H D (I.FB _) hw) (λ_ _ q=>q.KB) λ_ _ z=>Rf z
variable{tc:TT}{te:TE}
section
variable {st:ZF}{bM:List ZF}{t u:TS}
def L8:TS:=λD σ H=>D.nx σ H
def tSeq(t u:TS):TS:=λD σ H=>t {D with nx:=u D} σ H
def zr:PSs X [] L8:=λ_ _ σ H _ I h=>To ⟨σ,H,I,h⟩
def pk(h1:PS X st t)(h2:PSs X bM u):PSs X (st::bM) (tSeq t u):=by
 intro kt s σ H D I h;refine Xq (bV (h1 kt s σ H {D with nx:=u D} I h) λf s1 q=>?_)
 cases f with
 |next=>
  obtain⟨σ',H',I',q⟩:=q
  exact h2 kt s1 σ' H' D I' q
 |ret v=>exact q
 |brk=>exact q
 |cont=>exact q
def oo(h1:PS X st t):PSs X [st] t:=by
 intro kt s σ H D I h;refine Xq (bV (h1 kt s σ H D I h) λf s1 q=>?_)
 cases f with
 |next=>exact To q
 |ret v=>exact q
 |brk=>exact q
 |cont=>exact q
def Mg:TS:=λD σ H=>D.ct σ H
def vO:PS X (.Continue pos) Mg:=λ_ _ σ H _ I h=>wpAny_Continue ⟨σ,H,I,h⟩
def Inv.quiet(I:Inv X kt σ H s):interactive X.env=ZD:=by simp[interactive,I.ok.kind]
def Me(te:TE):TS:=λD σ H=>te σ H λ_ H1=>D.nx σ H1
def iH(he:PE X e te)(hs:autoParam (Qt e ZB pos.line X.env=pure ZD) u_):PS X (.Expr e pos) (Me te):=by
 intro kt s σ H D I h;exact wpAny_Expr_any (bV (he kt s σ H _ I h) λv s1 ⟨x,H1,I1,r1,q1⟩=>⟨σ,H1,I1,q1⟩) I.quiet hs
def tRet(te:TE):TS:=λD σ H=>te σ H D.rt
def xZ(he:PE X e te):PS X (.Return (ZA e) pos) (tRet te):=by
 intro kt s σ H D I h;exact wpAny_Return_some (bV (he kt s σ H _ I h) λv s1 ⟨x,H1,I1,r1,q1⟩=>⟨x,σ,H1,I1,r1,q1⟩)
def tIfS(c:TT)(t u:TS):TS:=λD σ H=>c σ H λb H1=>if b=ZC then t D σ H1 else u D σ H1
def CD{a b:List ZF}(hc:PT X c tc)(ha:PSs X a t)(hb:PSs X b u):PS X (.If c a b pos) (tIfS tc t u):=by
 intro kt s σ H D I h;refine wpAny_If (bV (hc kt s σ H _ I h) λd s1 hh_=>?_)
 obtain⟨H1,I1,q1⟩:=hh_
 cases d with
 |true=>exact ha kt s1 σ H1 D I1 q1
 |false=>exact hb kt s1 σ H1 D I1 q1
end
abbrev TG:=V->St->Hp->(St->Hp->Prop)->Prop
abbrev HJ:=List V->St->Hp->(St->Hp->Prop)->Prop
def PG(X:Cx)(target:ZG)(t:TG):Prop:=
 ∀(kt:Uf)(s:Pz)(σ:St)(H:Hp)(v:V)(u:Px)(Q:St->Hp->Prop),Inv X kt σ H s->RelV v u->t v σ H Q →
  ZJ (ZK X.prog X.w) X.A (assign target X.env u) (λ_ s'=>∃σ' H',Inv X kt σ' H' s'/\Q σ' H') X.xe s
def PGs(X:Cx)(ts:List ZG)(t:HJ):Prop:=
 ∀(kt:Uf)(s:Pz)(σ:St)(H:Hp)(vs:List V)(us:List Px)(Q:St->Hp->Prop),Inv X kt σ H s->Vals vs us->t vs σ H Q →
  ZJ (ZK X.prog X.w) X.A (assignInOrder ((RA ts X.env).map (·.2)) us) (λ_ s'=>∃σ' H',Inv X kt σ' H' s'/\Q σ' H') X.xe s
abbrev Og:=V->V->Hp->VK->Prop
def PIp(X:Cx)(op:Xy)(t:Og):Prop:=
 ∀(kt:Uf)(s:Pz)(σ:St)(H:Hp)(x y:V)(v u:Px)(Q:VK),Inv X kt σ H s->RelV x v->RelV y u->t x y H Q →
  ZJ (ZK X.prog X.w) X.A (inplaceOp op v u) (EP X kt σ Q) X.xe s
variable{es:List ZG}{pos':Pos}{tg:ZG}
def DZ(i:Nat):TG:=λv σ H Q=>Q (σ.set i (ZA v)) H
def zy(hN:X.N.Nodup)(hi:X.N[i]?=ZA x)(hx:Loc X.env.scope x)(hf:autoParam (X.fn x=ZC\/X.env.scope.names.lookup x=ZA .local) r_):PG X (.Name x pos) (DZ i):=by
 intro kt s σ H v u Q I r h;exact WQ (lI I hN hi hx r (λs' I'=>⟨_,H,I',h⟩) hf)
def gNil:HJ:=λvs σ H Q=>vs=[]/\Q σ H
def NL(t:TG)(u:HJ):HJ:=λvs σ H Q=>∃v r,vs=v::r/\t v σ H λσ' H'=>u r σ' H' Q
def GC:PGs X [] gNil:=by
 intro kt s σ H vs us Q I r h;obtain⟨e,h⟩:=h;subst e;cases r;exact assignInOrder_nil ⟨σ,H,I,h⟩
def CK{t:TG}{u:HJ}(h1:PG X e t)(h2:PGs X es u)
  (hs:autoParam ((RA (e::es) X.env).map (·.2)=assign e X.env::(RA es X.env).map (·.2)) u_):PGs X (e::es) (NL t u):=by
 intro kt s σ H vs us Q I r h;obtain⟨v,vr,e1,h⟩:=h;subst e1
 cases r with
 |cons r rr=>
  rw[hs];refine assignInOrder_cons (bV (h1 kt s σ H _ _ _ I r h) λ_ s1 hh_=>?_)
  obtain⟨σ1,H1,I1,q1⟩:=hh_;exact h2 kt s1 σ1 H1 _ _ Q I1 rr q1
def gTup(K:Pv)(n:Nat)(t:HJ):TG:=λv σ H Q=>∃a xs,v=.ref a/\SqT K H a xs/\xs.length=n/\t xs σ H Q
def J1{t:HJ}(hc:X.calm=ZC)(h:PGs X es t)
  (hn:autoParam ((RA es X.env).length=n) u_) (hst:autoParam ((RA es X.env).findIdx? (·.1)=ZB) u_):PG X (.Tuple es k pos) (gTup X.K n t):=by
 intro kt s σ H v u Q I r hw;obtain⟨a,xs,e1,hq,hl,hw⟩:=hw;subst e1;cases r;obtain⟨its,rv,ht,hz⟩:=I.tuple hq;refine assign_Tuple_tuple (I.ok.hd hc) ht (by simp[hn,<-hl,rv.length]) hst λh' hx=>?_
 have I1:Inv X kt σ H {s with heap:=h'}:=I.kept (t':=s.toks) λb o e=>hx b o (QJ (PU e)) e
 exact h kt _ σ H xs _ Q I1 (by simpa using rv) hw
def FP(te:TE)(g:TG):TS:=λD σ H=>te σ H λx H1=>g x σ H1 D.nx
def JX{g:TG}(he:PE X e te)(hg:PG X tg g)(hs:autoParam (Wn [tg] e pos.line X.env=pure ZD) u_)(hw:autoParam (Wo [tg] e X.env=pure ZB) u_)
  (h1:autoParam ((RA [tg] X.env).map (·.2)=[assign tg X.env]) u_):PS X (.Assign [tg] e pos) (FP te g):=by
 intro kt s σ H D I h;refine wpAny_Assign_stores (bV (he kt s σ H _ I h) λv s1 ⟨x,H1,I1,r1,q1⟩=>?_) hs hw
 rw[h1];exact bV (hg kt s1 σ H1 x v _ I1 r1 q1) λ_ s2 q=>q
def pq(hN:X.N.Nodup)(hi:X.N[i]?=ZA x)(hx:Loc X.env.scope x)(he:PE X e te)(hs:autoParam (Qt e (ZA (.Name x pos')) pos.line X.env=pure ZD) u_)(hf:autoParam (X.fn x=ZC\/X.env.scope.names.lookup x=ZA .local) r_):
  PS X (.Assign [.Name x pos'] e pos) (FP te (DZ i)):=by
 intro kt s σ H D I h;refine wpAny_Assign_Name (bV (he kt s σ H _ I h) λv s1 ⟨y,H1,I1,r1,q1⟩=>?_) hs
 exact lI I1 hN hi hx r1 (λs2 I2=>⟨_,H1,I2,q1⟩) hf
def tAug(i:Nat)(te:TE)(ti:Og):TS:=λD σ H=>∃x,σ[i]?=ZA (ZA x)/\te σ H λy H1=>ti x y H1 λz H2=>D.nx (σ.set i (ZA z)) H2
def JW{op:Xy}{ti:Og}(hN:X.N.Nodup)(hi:X.N[i]?=ZA x)(hx:Loc X.env.scope x)(he:PE X e te)(ho:PIp X op ti)(hf:autoParam (X.fn x=ZC\/X.env.scope.names.lookup x=ZA .local) r_):
  PS X (.AugAssign (.Name x pos') op e pos) (tAug i te ti):=by
 intro kt s σ H D I h;obtain⟨v,e1,h⟩:=h;obtain⟨m,hn,hl⟩:=I.loc
 have vis:jk X.env.scope x:=by rcases hx with k|k;exact .inl k;exact .inr (.inl k)
 obtain⟨u,r,l⟩:=hl i x v hi e1 vis;refine wpAny_AugAssign_Name ?_
 have go:ZJ (ZK X.prog X.w) X.A (eval e X.env) (λw s₂=>ZJ (ZK X.prog X.w) X.A (inplaceOp op u w) (λr s₃=>ZJ (ZK X.prog X.w) X.A (storeName X.env x r) (λ_=>SP X kt D .next) X.xe s₃) X.xe s₂) X.xe s:=by
  refine bV (he kt s σ H _ I h) λw s1 hh_=>?_
  obtain⟨y,H1,I1,r1,q1⟩:=hh_;refine bV (ho kt s1 σ H1 v y u w _ I1 r r1 q1) λz s2 hh_=>?_
  obtain⟨zv,H2,I2,r2,q2⟩:=hh_;exact lI I2 hN hi hx r2 (λs3 I3=>⟨_,H2,I3,q2⟩) hf
 rcases l with⟨hk,hm⟩|⟨hk,c,hc,hcell⟩
 ·exact VQ I.ok.kind hk hn hm go
 ·rcases hk with hk|hk
  ·exact V4 I.ok.kind hk hc hcell go
  ·rcases hx with k|k
   ·have:X.env.scope.names.lookup x=ZA .free:=hk
    rw[k]at this;cases this
   ·have:X.env.scope.names.lookup x=ZA .free:=hk
    rw[k]at this;cases this
def ipI(f:Int->Int->Int):Og:=λx y H Q=>∃i j,x=.int i/\y=.int j/\Q (.int (f i j)) H
def K8:PIp X .Add (ipI λi j=>i+j):=by
 intro kt s σ H x y v u Q I r1 r2 h;obtain⟨i,j,e1,e2,q⟩:=h;subst e1;subst e2;obtain⟨t,rfl⟩:=r1;obtain⟨t',rfl⟩:=r2;exact iadd_int ⟨.int _,H,I.tok _,⟨_,rfl⟩,q⟩
variable{body:List ZF}
def xM(c:TT)(tb:TS):TS:=λD σ H=>∃W:Nat->St->Hp->Prop,(∃m,W m σ H)/\∀m σ H,W m σ H →
 c σ H λb H1=>if b=ZC then ∃N:St->Hp->Prop,(∀σ' H',N σ' H'->∃m',m'<m/\W m' σ' H')/\tb {D with nx:=N,ct:=N,bk:=D.nx} σ H1 else D.nx σ H1
def CC{tb:TS}(hp:PassesOwn (ZK X.prog X.w) X.A X.env X.xe)(hc:PT X c tc)(hb:PSs X body tb):PS X (.While c body [] pos) (xM tc tb):=by
 intro kt s σ H D I h;obtain⟨W,⟨m0,w0⟩,turn⟩:=h;refine wpAny_While (codeAny_whileLoop (λn s'=>∃σ' H',Inv X kt σ' H' s'/\W n σ' H') ?_ m0 ⟨σ,H,I,w0⟩)
 rintro n s1 ⟨σ1,H1,I1,w1⟩
 refine XQ hp (bV (hc kt s1 σ1 H1 _ I1 (turn n σ1 H1 w1)) λb s2 hh_=>?_)
 obtain⟨H2,I2,q2⟩:=hh_
 cases b with
 |true=>
  obtain⟨N,hN,q2⟩:=q2;rw[if_pos rfl];refine XQ hp (bV (hb kt s2 σ1 H2 _ I2 q2) λf s3 q3=>?_)
  cases f with
  |next=>
   obtain⟨σ3,H3,I3,n3⟩:=q3;obtain⟨m',hm,w3⟩:=hN σ3 H3 n3
   exact⟨m',hm,σ3,H3,I3,w3⟩
  |cont=>
   obtain⟨σ3,H3,I3,n3⟩:=q3;obtain⟨m',hm,w3⟩:=hN σ3 H3 n3
   exact⟨m',hm,σ3,H3,I3,w3⟩
  |brk=>exact q3
  |ret v=>exact q3
 |false=>
  rw[if_neg P6];exact To ⟨σ1,H2,I2,q2⟩
structure It where
 go:Nat->Hp->Prop
 yld:Nat->Hp->V->Hp->Prop
 stop:Nat->Hp->Prop
def qA(X:Cx)(kt:Uf)(H:Hp)(b:ZE):Prop:=
 H b=ZB/\b≠X.env.locals/\b∉X.fs/\(b∈X.ex\/X.s₀.heap.objs.size<=b)/\(∀x c,X.env.cells.lookup x=ZA c->c≠b)/\∀p∈X.pn++kt,p.1≠b
def Inv.OL(I:Inv X kt σ H s)(hb:s.heap.objs.size<=b)(hn:H' b=ZB):qA X kt H' b:=by
 refine⟨hn,Ss (PQ I.lt hb),I.Pq hb,.inr (Qn I.sz hb),λx c e z=>?_,λp hp z=>?_⟩
 ·obtain⟨v,q⟩:=I.cell x c e
  exact absurd (PQ q.lt (by rw[z];exact hb)) (Qm _)
 ·exact absurd (PQ (PU (I.pin p hp).1) (by rw[z];exact hb)) (Qm _)
structure BF (P:Qg)(w:QP)(K:Pv)(tg:ZG)(J:It)(fp:List ZE)(it:ZE)(tn:Nat->ZH->Prop):Prop where
 mem:it∈fp
 obj:∀i h,tn i h->∀b∈fp,∃o,h.get? b=ZA o/\∀v,o.data≠ .cell v
 keep:∀i h h',tn i h->(∀b∈fp,∀o,h.get? b=ZA o->h'.get? b=ZA o)->tn i h'
 item:∀(X:Cx),X.prog=P->X.w=w->X.K=K->X.calm=ZC->∀(i:Nat)(kt:Uf)(s:Pz)(σ:St)(H:Hp)(E:WP),Inv X kt σ H s->(∀b∈fp,qA X kt H b)->tn i s.heap->J.go i H →
  ZJ (ZK P w) X.A (pyNext (.ref it)) (λr s1=>∃u,r=ZA u ∧
   ZJ (ZK P w) X.A (Tq tg (.ref it) u) (λ_ s2=>∃x H',Inv X kt σ H' s2/\RelV x u/\J.yld i H x H'/\tn (i+1) s2.heap/\∀b∈fp,H' b=ZB) E s1) E s
 done:∀(X:Cx),X.prog=P->X.w=w->X.K=K->X.calm=ZC->∀(i:Nat)(kt:Uf)(s:Pz)(σ:St)(H:Hp)(E:WP),Inv X kt σ H s->(∀b∈fp,qA X kt H b)->tn i s.heap->J.stop i H →
  ZJ (ZK P w) X.A (pyNext (.ref it)) (λr s1=>r=ZB/\Inv X kt σ H s1) E s
 self:∀(A:Qq)(i:Nat)(s:Pz)(Q:WP)(E:WP),tn i s.heap->Q (.ref it) s->ZJ (ZK P w) A (pyIter (.ref it)) Q E s
abbrev TI:=St->Hp->(It->Hp->Prop)->Prop
def PIE(X:Cx)(kt:Uf)(σ:St)(tg:ZG)(R:It->Hp->Prop)(itv:Px)(s2:Pz):Prop:=
 ∃(it:ZE)(fp:List ZE)(tn:Nat->ZH->Prop)(J:It)(H':Hp),itv=.ref it/\Inv X kt σ H' s2/\BF X.prog X.w X.K tg J fp it tn/\tn 0 s2.heap/\(∀b∈fp,qA X kt H' b)/\R J H'
def PI(X:Cx)(tg iter:ZG)(wi:TI):Prop:=
 ∀(kt:Uf)(s:Pz)(σ:St)(H:Hp)(R:It->Hp->Prop),Inv X kt σ H s->wi σ H R →
  ZJ (ZK X.prog X.w) X.A (eval iter X.env) (λv s1=>ZJ (ZK X.prog X.w) X.A (pyIter v) (PIE X kt σ tg R) X.xe s1) X.xe s
def Aa{u:Px}{o:Obj}{n:String}{vs:Array Px}{Q:Unit->Pz->Prop}(ho:s.heap.get? it=ZA o)(hc:o.cls=.type n)(hd:o.data=.fields vs)
  (hn:["enumerate","zip","dict_itemiterator","dict_reverseitemiterator","odict_iterator","itertools.zip_longest","itertools.pairwise"].contains n=ZD) (hQ:Q () s):ZJ M A (Tq tg (.ref it) u) Q E s:=by
 unfold Tq
 cases tg <;> first
  |exact PX hQ
  | (cases u <;> first
    |exact PX hQ
    | (refine PD (wpAny_load ho ?_)
       rw[hc,hd]
       show ZJ M A (if (["enumerate","zip","dict_itemiterator","dict_reverseitemiterator","odict_iterator","itertools.zip_longest","itertools.pairwise"].contains n&&vs[0]? == ZA (rawInt _))=ZC then _ else _) Q E s
       rw[if_neg (by intro h;rw[hn,S2]at h;cases h)]
       exact PX hQ))
def Itl(K:Pv)(a:ZE):It:=
 ⟨λi H=>∃xs x,SqL K H a xs/\xs[i]?=ZA x,λi H x H'=>H'=H/\∀xs,SqL K H a xs->xs[i]?=ZA x,λi H=>∃xs,SqL K H a xs/\xs.length<=i⟩
def Itt(K:Pv)(a:ZE):It:=
 ⟨λi H=>∃xs x,SqT K H a xs/\xs[i]?=ZA x,λi H x H'=>H'=H/\∀xs,SqT K H a xs->xs[i]?=ZA x,λi H=>∃xs,SqT K H a xs/\xs.length<=i⟩
def Itr(lo:Int)(n:Nat):It:=⟨λi _=>i<n,λi H x H'=>H'=H/\x=.int (lo+i),λi _=>n<=i⟩
def AI(a it:ZE):BF P w K tg (Itl K a) [it] it (λi h=>h.IsListIter it a i) where
 mem:=by simp
 obj:=λi h st b hb=>by
  have e:b=it:=by simpa using hb
  subst e;obtain⟨o,e,c,d⟩:=st;exact⟨o,e,λv z=>by rw[d]at z;cases z⟩
 keep:=λi h h' st k=>st.at λo e=>k it (by simp) o e
 item:=by
  intro X hP hw hK hc i kt s σ H E I hf st hg;subst hP hw hK;obtain⟨xs,x,hq,hx⟩:=hg;obtain⟨its,rv,p,hz⟩:=I.list hq;obtain⟨u,hu,ru⟩:=rv.get hx;obtain⟨f0,f1,f2,f3,f4,f5⟩:=hf it (by simp)
  refine Vi st p.isList (x:=u) (by simpa using hu) λh' st' sb=>?_
  have I1:Inv X kt σ H {s with heap:=h'}:=I.turned (t':=s.toks) (λb o hb e=>(sb.2 b hb).trans e) f0 f1 f3 f4 f5
  obtain⟨o,e,c,d⟩:=id st';exact⟨u,rfl,Aa (s:={s with heap:=h'}) e c d (by decide) ⟨x,H,I1,ru,⟨rfl,λys hy=>by rw[I.OB hy hq];exact hx⟩,st',λb hb=>(hf b hb).1⟩⟩
 done:=by
  intro X hP hw hK hc i kt s σ H E I hf st hg;subst hP hw hK;obtain⟨xs,hq,hx⟩:=hg;obtain⟨its,rv,p,hz⟩:=I.list hq;obtain⟨f0,f1,f2,f3,f4,f5⟩:=hf it (by simp)
  have hl:=rv.length;exact VB (I.ok.hd hc) st p.isList (by simp;omega) λh' eb=>⟨rfl,I.turned (t':=s.toks) (λb o hb e=>eb b o hb e) f0 f1 f3 f4 f5⟩
 self:=λ_ _ _ _ _ st h=>wpAny_pyIter_listiter st h
def xI(a it:ZE):BF P w K tg (Itt K a) [it] it (λi h=>h.IsTupleIter it a i) where
 mem:=by simp
 obj:=λi h st b hb=>by
  have e:b=it:=by simpa using hb
  subst e;obtain⟨o,e,c,d⟩:=st;exact⟨o,e,λv z=>by rw[d]at z;cases z⟩
 keep:=λi h h' st k=>st.at λo e=>k it (by simp) o e
 item:=by
  intro X hP hw hK hc i kt s σ H E I hf st hg;subst hP hw hK;obtain⟨xs,x,hq,hx⟩:=hg;obtain⟨its,rv,p,hz⟩:=I.tuple hq;obtain⟨u,hu,ru⟩:=rv.get hx;obtain⟨f0,f1,f2,f3,f4,f5⟩:=hf it (by simp)
  refine wpAny_pyNext_tuple_item st (show s.heap.IsTuple a its.toArray from p) (x:=u) (by simpa using hu) λh' st' sb=>?_
  have I1:Inv X kt σ H {s with heap:=h'}:=I.turned (t':=s.toks) (λb o hb e=>(sb.2 b hb).trans e) f0 f1 f3 f4 f5
  obtain⟨o,e,c,d⟩:=id st';exact⟨u,rfl,Aa (s:={s with heap:=h'}) e c d (by decide) ⟨x,H,I1,ru,⟨rfl,λys hy=>by rw[I.OH hy hq];exact hx⟩,st',λb hb=>(hf b hb).1⟩⟩
 done:=by
  intro X hP hw hK hc i kt s σ H E I hf st hg;subst hP hw hK;obtain⟨xs,hq,hx⟩:=hg;obtain⟨its,rv,p,hz⟩:=I.tuple hq;obtain⟨f0,f1,f2,f3,f4,f5⟩:=hf it (by simp)
  have hl:=rv.length;exact wpAny_pyNext_tuple_end (I.ok.hd hc) st (show s.heap.IsTuple a its.toArray from p) (by simp;omega) λh' eb=>⟨rfl,I.turned (t':=s.toks) (λb o hb e=>eb b o hb e) f0 f1 f3 f4 f5⟩
 self:=λ_ _ _ _ _ st h=>wpAny_pyIter_tupleiter st h
def xJ(it:ZE)(lo:Int)(n:Nat):BF P w K tg (Itr lo n) [it] it (λi h=>IsRangeIter h it (lo+(i:Nat)*1) ((n:Int) - (i:Nat)) 1) where
 mem:=by simp
 obj:=λi h st b hb=>by
  have e:b=it:=by simpa using hb
  subst e
  exact⟨_,st,λv z=>by
   have z':XD _=Data.cell v:=z;cases z'⟩
 keep:=λi h h' st k=>k it (by simp) _ st
 item:=by
  intro X hP hw hK hc i kt s σ H E I hf st hg;subst hP hw hK;obtain⟨f0,f1,f2,f3,f4,f5⟩:=hf it (by simp)
  have W:=Walks.range (prog:=X.prog) (w:=X.w) (I.ok.hd hc) it lo 1 n;refine W.item i s _ _ hg st λv h' tk hv st' kk=>?_
  obtain⟨t,rfl⟩:=hv
  have I1:Inv X kt σ H {s with heap:=h',toks:=tk}:=I.turned (λb o hb e=>kk b o (by simpa using hb) e) f0 f1 f3 f4 f5
  refine⟨_,rfl,Aa (s:={s with heap:=h',toks:=tk}) (n:="range_iterator") st' rfl rfl (by decide) ⟨.int (lo+i),H,I1,⟨t,?_⟩,⟨rfl,rfl⟩,st',λb hb=>(hf b hb).1⟩⟩
  rw[Int.mul_one]
 done:=by
  intro X hP hw hK hc i kt s σ H E I hf st hg;subst hP hw hK;obtain⟨f0,f1,f2,f3,f4,f5⟩:=hf it (by simp)
  exact wpAny_pyNext_range_end (I.ok.hd hc) st (by have:n<=i:=hg;omega) λh' eb=>⟨rfl,I.turned (t':=s.toks) (λb o hb e=>eb b o hb e) f0 f1 f3 f4 f5⟩
 self:=λ_ _ _ _ _ st h=>wpAny_pyIter_rangeiter st h
variable{fp:List ZE}{l:ZG}{tl:TE}
def NJ(K:Pv)(tl:TE):TI:=λσ H R=>tl σ H λx H1=>∃a,x=.ref a/\(∃xs,SqL K H1 a xs)/\R (Itl K a) H1
def iTup(K:Pv)(tl:TE):TI:=λσ H R=>tl σ H λx H1=>∃a,x=.ref a/\(∃xs,SqT K H1 a xs)/\R (Itt K a) H1
def zx(hl:PE X l tl):PI X tg l (NJ X.K tl):=by
 intro kt s σ H R I h;refine bV (hl kt s σ H _ I h) λv s1 hh_=>?_
 obtain⟨x,H1,I1,r1,q1⟩:=hh_;obtain⟨a,e,⟨xs,hq⟩,q⟩:=q1;subst e;cases r1;obtain⟨its,rv,p,hz⟩:=I1.list hq;refine UZ p.isList ?_
 refine⟨s1.heap.objs.size,[s1.heap.objs.size],_,_,H1,rfl,I1.kept (t':=s1.toks) λb o e=>PN _ e,AI a _,⟨_,Qc _ rfl,rfl,rfl⟩,λb hb=>?_,q⟩
 have e:b=s1.heap.objs.size:=by simpa using hb
 subst e;exact I1.OL (PP _) (I1.hok.fresh (PP _))
def J0(hl:PE X l tl):PI X tg l (iTup X.K tl):=by
 intro kt s σ H R I h;refine bV (hl kt s σ H _ I h) λv s1 hh_=>?_
 obtain⟨x,H1,I1,r1,q1⟩:=hh_;obtain⟨a,e,⟨xs,hq⟩,q⟩:=q1;subst e;cases r1;obtain⟨its,rv,p,hz⟩:=I1.tuple hq;refine Ts (show s1.heap.IsTuple a its.toArray from p) ?_
 refine⟨s1.heap.objs.size,[s1.heap.objs.size],_,_,H1,rfl,I1.kept (t':=s1.toks) λb o e=>PN _ e,xI a _,⟨_,Qc _ rfl,rfl,rfl⟩,λb hb=>?_,q⟩
 have e:b=s1.heap.objs.size:=by simpa using hb
 subst e;exact I1.OL (PP _) (I1.hok.fresh (PP _))
def lL{R:It->Hp->Prop}{lo hi:Int}{t u v:Tok}{tk:Nat}(I:Inv X kt σ H s)(h1 : -(2 ^ 62)<=lo)(h2:lo<2 ^ 62)(h3 : -(2 ^ 62)<=hi)(h4:hi<2 ^ 62)
  (q:R (Itr lo (hi - lo).toNat) H):ZJ (ZK X.prog X.w) X.A (pyIter (.ref s.heap.objs.size)) (PIE X kt σ tg R) E {s with heap:=s.heap.push {cls:=.type "range",data:=.fields #[.int lo t,.int hi u,.int 1 v]},toks:=tk}:=by
 refine wpAny_pyIter_range (IsRange.new ..) (small_one h1 h2 h3 h4) ?_
 have I1:Inv X kt σ H {s with heap:=s.heap.push {cls:=.type "range",data:=.fields #[.int lo t,.int hi u,.int 1 v]},toks:=tk}:=I.kept λb o e=>PN _ e
 refine⟨(s.heap.push {cls:=.type "range",data:=.fields #[.int lo t,.int hi u,.int 1 v]}).objs.size,[(s.heap.push {cls:=.type "range",data:=.fields #[.int lo t,.int hi u,.int 1 v]}).objs.size],_,_,H,rfl,
  I1.kept (t':=tk) λb o e=>PN _ e,xJ _ lo (hi - lo).toNat,?_,λb hb=>?_,q⟩
 ·have e1:lo+((0:Nat):Int)*1=lo:=by simp
  have e2:(((hi - lo).toNat:Nat):Int) - ((0:Nat):Int)=Builtin.Range.rangeSize lo hi 1:=by rw[rangeSize_one];split <;> omega
  show IsRangeIter _ _ (lo+((0:Nat):Int)*1) ((((hi - lo).toNat:Nat):Int) - ((0:Nat):Int)) 1
  rw[e1,e2];exact Qc _ rfl
 ·have e:b=(s.heap.push {cls:=.type "range",data:=.fields #[.int lo t,.int hi u,.int 1 v]}).objs.size:=by simpa using hb
  subst e;exact I1.OL (PP _) (I1.hok.fresh (PP _))
def tFor(wi:TI)(g:TG)(tb:TS):TS:=λD σ H=>wi σ H λJ H1=>∃W:Nat->Nat->St->Hp->Prop,(∃m,W 0 m σ H1)/\∀i m σ H,W i m σ H →
 (J.stop i H/\D.nx σ H)\/(J.go i H/\∃N:St->Hp->Prop,(∀σ' H',N σ' H'->∃m',m'<m/\W (i+1) m' σ' H')/\∀x H',J.yld i H x H'->g x σ H' λσ2 H2=>tb {D with nx:=N,ct:=N,bk:=D.nx} σ2 H2)
def pv(fp:List ZE)(h:ZH):Uf:=fp.filterMap λb=>(h.get? b).map λo=>(b,o)
def iK{o:Obj}(hb:b∈fp)(e:h.get? b=ZA o):(b,o)∈pv fp h:=UJ.mpr ⟨b,hb,by rw[e];rfl⟩
def A4{p:ZE×Obj}(hp:p∈pv fp h):p.1∈fp/\h.get? p.1=ZA p.2:=by
 obtain⟨b,hb,e⟩:=UJ.mp hp
 cases q:h.get? b with
 |none=>rw[q]at e;cases e
 |some o=>
  rw[q]at e
  have e':(b,o)=p:=Qu e;subst e';exact⟨hb,q⟩
def Inv.pinned(I:Inv X kt σ H s)(hf:∀b∈fp,qA X kt H b)(ho:∀b∈fp,∃o,s.heap.get? b=ZA o/\∀v,o.data≠ .cell v):Inv X (kt++pv fp s.heap) σ H s:=
 I.ON λp hp=>(PZ.mp hp).elim (λz=>I.pin p (Qd _ z)) λz=>by
  obtain⟨hb,e⟩:=A4 z;obtain⟨f0,f1,f2,_⟩:=hf p.1 hb;obtain⟨o,e',d⟩:=ho p.1 hb;rw[e]at e';cases e';exact⟨e,f0,f1,f2,d⟩
def Inv.Ot{pl:Uf}(I:Inv X (kt++pl) σ H s):Inv X kt σ H s:=I.ON λp hp=>I.pin p (Qd _ (Qb _ hp))
abbrev R2:=V->V->Hp->VK->Prop
def oP(X:Cx)(f:Px->Px->Sem Px)(r:R2):Prop:=
 ∀(kt:Uf)(s:Pz)(σ:St)(H:Hp)(x y:V)(v u:Px)(Q:VK),Inv X kt σ H s->RelV x v->RelV y u->r x y H Q →
  ZJ (ZK X.prog X.w) X.A (f v u) (EP X kt σ Q) X.xe s
def UnR(X:Cx)(f:Px->Sem Px)(r:V->Hp->VK->Prop):Prop:=
 ∀(kt:Uf)(s:Pz)(σ:St)(H:Hp)(x:V)(v:Px)(Q:VK),Inv X kt σ H s->RelV x v->r x H Q →
  ZJ (ZK X.prog X.w) X.A (f v) (EP X kt σ Q) X.xe s
def CallR(X:Cx)(f:Px)(r:List V->Hp->VK->Prop):Prop:=
 ∀(kt:Uf)(s:Pz)(σ:St)(H:Hp)(xs:List V)(us:List Px)(Q:VK),Inv X kt σ H s->Vals xs us->r xs H Q →
  ZJ (ZK X.prog X.w) X.A (call f us) (EP X kt σ Q) X.xe s
def tOp(r:R2)(ta tb:TE):TE:=λσ H Q=>ta σ H λx H1=>tb σ H1 λy H2=>r x y H2 Q
def tUn(r:V->Hp->VK->Prop)(ta:TE):TE:=λσ H Q=>ta σ H λx H1=>r x H1 Q
def rI(C:Int->Int->Prop)(g:Int->Int->V):R2:=λx y H Q=>∃i j,x=.int i/\y=.int j/\C i j/\Q (g i j) H
def Ic(g:Int->Int->V):R2:=λx y H Q=>∃i j,x=.int i/\y=.int j/\Q (g i j) H
def rU(g:Int->V):V->Hp->VK->Prop:=λx H Q=>∃i,x=.int i/\Q (g i) H
variable{f:Px->Px->Sem Px}{r:R2}
section
variable {a b:ZG}{tb tc:TE}
def N0(ha:PE X a ta)(hb:PE X b tb){R:V->V->Hp->Prop}(I:Inv X kt σ H s)
  (h:ta σ H λx H1=>tb σ H1 λy H2=>R x y H2)  
  (hf:∀v u s2 x y H2,Inv X kt σ H2 s2->RelV x v->RelV y u->R x y H2->ZJ (ZK X.prog X.w) X.A (f v u) Q X.xe s2):
  ZJ (ZK X.prog X.w) X.A (eval a X.env) (λv s₁=>ZJ (ZK X.prog X.w) X.A (eval b X.env) (λu s₂=>ZJ (ZK X.prog X.w) X.A (f v u) Q X.xe s₂) X.xe s₁) X.xe s:=by
 refine bV (ha kt s σ H _ I h) λv s1 hh_=>?_
 obtain⟨x,H1,I1,r1,q1⟩:=hh_;refine bV (hb kt s1 σ H1 _ I1 q1) λu s2 hh_=>?_
 obtain⟨y,H2,I2,r2,q2⟩:=hh_;exact hf v u s2 x y H2 I2 r1 r2 q2
def MX{op:Xy}(ho:oP X (Rt op) r)(ha:PE X a ta)(hb:PE X b tb):PE X (.BinOp a op b pos) (tOp r ta tb):=by
 intro kt s σ H Q I h;exact wpAny_BinOp (N0 ha hb I h λv u s2 x y H2 I2 rx ry q=>ho kt s2 σ H2 x y v u Q I2 rx ry q)
def MV{op:UnaryOp}{r:V->Hp->VK->Prop}(ho:UnR X (unaryOp op) r)(ha:PE X a ta):PE X (.UnaryOp op a pos) (tUn r ta):=by
 intro kt s σ H Q I h;exact UnaryOp_ (bV (ha kt s σ H _ I h) λv s1 ⟨x,H1,I1,r1,q1⟩=>ho kt s1 σ H1 x v Q I1 r1 q1)
def opI{C:Int->Int->Prop}
  (rule:∀(i j:Int)(t u:Tok)(s:Pz)(Q:WP)(E:WP),C i j->Q (.int (g i j) s.toks) {s with toks:=s.toks+1}->ZJ (ZK X.prog X.w) X.A (f (.int i t) (.int j u)) Q E s):
  oP X f (rI C λi j=>.int (g i j)):=by
 intro kt s σ H x y v u Q I rx ry h;obtain⟨i,j,rfl,rfl,hc,q⟩:=h;obtain⟨t,rfl⟩:=rx;obtain⟨t',rfl⟩:=ry;exact rule i j t t' s _ _ hc ⟨.int (g i j),H,I.tok _,⟨_,rfl⟩,q⟩
def M6 
  (rule:∀(i j:Int)(t u:Tok)(s:Pz)(Q:WP)(E:WP),Q (.int (g i j) s.toks) {s with toks:=s.toks+1}->ZJ (ZK X.prog X.w) X.A (f (.int i t) (.int j u)) Q E s):
  oP X f (Ic λi j=>.int (g i j)):=by
 intro kt s σ H x y v u Q I rx ry h;obtain⟨i,j,rfl,rfl,q⟩:=h;obtain⟨t,rfl⟩:=rx;obtain⟨t',rfl⟩:=ry;exact rule i j t t' s _ _ ⟨.int (g i j),H,I.tok _,⟨_,rfl⟩,q⟩
def Kj{g:Int->Int->Bool}
  (rule:∀(i j:Int)(t u:Tok)(s:Pz)(Q:WP)(E:WP),Q (.bool (g i j)) s->ZJ (ZK X.prog X.w) X.A (f (.int i t) (.int j u)) Q E s):
  oP X f (Ic λi j=>.bl (g i j)):=by
 intro kt s σ H x y v u Q I rx ry h;obtain⟨i,j,rfl,rfl,q⟩:=h;obtain⟨t,rfl⟩:=rx;obtain⟨t',rfl⟩:=ry;exact rule i j t t' s _ _ ⟨.bl (g i j),H,I,rfl,q⟩
def CDiv(i j:Int):Prop:=0<j/\j<1073741824
def CMul(i j:Int):Prop:=(-(2 ^ 64)<i/\i<2 ^ 64)\/(-(2 ^ 64)<j/\j<2 ^ 64)
def CMul.ok{i j:Int}(h:CMul i j):IntMulOk i j:=by
 rcases h with⟨h1,h2⟩|⟨h1,h2⟩
 ·exact .of_left (intBits_le_64 h1 h2)
 ·exact .of_right (intBits_le_64 h1 h2)
def Ki:oP X (Rt .Add) (Ic λi j=>.int (i+j)):=M6 λ_ _ _ _ _ _ _ q=>add_int q
def Kc:oP X (Rt .Sub) (Ic λi j=>.int (i - j)):=M6 λ_ _ _ _ _ _ _ q=>sub_int q
def Ke:oP X (Rt .Mult) (rI CMul λi j=>.int (i*j)):=opI λ_ _ _ _ _ _ _ hc q=>mul_int q hc.ok
def GL:oP X (Rt .FloorDiv) (rI CDiv λi j=>.int (i / j)):=opI λi j _ _ _ _ _ hc q=>by
 have h1:(0:Int)<j:=hc.1
 have h2:j<1073741824:=hc.2;exact floordiv_int (by omega) (by rw[Int.fdiv_eq_ediv_of_nonneg i (by omega)];exact q) (.inl (PyProof.noPylong_small (by omega)))
def Kf:oP X (Rt .Mod) (rI (λ_ j=>0<j) λi j=>.int (i % j)):=opI λi j _ _ _ _ _ hc q=>by
 have h1:(0:Int)<j:=hc;exact mod_int' (by omega) (by rw[Int.fmod_eq_emod_of_nonneg i (by omega)];exact q)
def unI{f:Px->Sem Px}{g:Int->Int}
  (rule:∀(i:Int)(t:Tok)(s:Pz)(Q:WP)(E:WP),Q (.int (g i) s.toks) {s with toks:=s.toks+1}->ZJ (ZK X.prog X.w) X.A (f (.int i t)) Q E s):
  UnR X f (rU λi=>.int (g i)):=by
 intro kt s σ H x v Q I rx h;obtain⟨i,rfl,q⟩:=h;obtain⟨t,rfl⟩:=rx;exact rule i t s _ _ ⟨.int (g i),H,I.tok _,⟨_,rfl⟩,q⟩
def Jb:UnR X (unaryOp .USub) (rU λi=>.int (-i)):=unI λ_ _ _ _ _ q=>neg_int q
end
def scal:V->V->Bool
 |.non,.non=>ZC|.non,.int _=>ZC|.int _,.non=>ZC|.non,.bl _=>ZC|.bl _,.non=>ZC|.non,.str _=>ZC|.str _,.non=>ZC
 |.int _,.int _=>ZC|.bl _,.bl _=>ZC|.str _,.str _=>ZC|.byt _,.byt _=>ZC
 |.int _,.str _=>ZC|.str _,.int _=>ZC|.bl _,.str _=>ZC|.str _,.bl _=>ZC
 |_,_=>ZD
def rEq:R2:=λx y H Q=>scal x y=ZC/\Q (.bl (decide (x=y))) H
def Am{i j:Int}:decide (V.int i=V.int j)=(i == j):=by
 rw[SH];simp
def EA{i j:Bool}:decide (V.bl i=V.bl j)=(i == j):=by
 rw[SH];simp
def Hy{i j:Str}:decide (V.str i=V.str j)=(i == j):=by
 rw[SH];simp
def Hz{i j:Array UInt8}:decide (V.byt i=V.byt j)=(i.toList == j.toList):=by
 rw[SH];cases i;cases j;simp
section
variable {a b:ZG}{tb tc:TE}
def dC{Q:VK}{k k':Bool}(I:Inv X kt σ H s)(q:Q (.bl k) H)(e:k=k'):EP X kt σ Q (.bool k') s:=by
 subst e;exact⟨.bl k,H,I,rfl,q⟩
def Ij:oP X (QC .Eq) rEq:=by
 intro kt s σ H x y v u Q I rx ry h;obtain⟨hs,q⟩:=h
 cases x with
 |non=>
  cases rx
  cases y with
  |non=>cases ry;exact PySem.EqNone.eq_none_none (dC I q (by simp))
  |bl j=>cases ry;exact PySem.EqNone.eq_none_bool (dC I q (by simp))
  |int j=>obtain⟨t',rfl⟩:=ry;exact PySem.EqNone.eq_none_int (dC I q (by simp))
  |str j=>obtain⟨t',rfl⟩:=ry;exact PySem.EqNone.eq_none_str (dC I q (by simp))
  |_=>exact absurd (show ZD=ZC from hs) P6
 |bl i=>
  cases rx
  cases y with
  |non=>cases ry;exact PySem.EqNone.eq_bool_none (dC I q (by simp))
  |bl j=>cases ry;exact eq_bool (dC I q EA)
  |str j=>obtain⟨t',rfl⟩:=ry;exact PySem.EqMixed.eq_bool_str (dC I q (by simp))
  |_=>exact absurd (show ZD=ZC from hs) P6
 |int i=>
  obtain⟨t,rfl⟩:=rx
  cases y with
  |non=>cases ry;exact PySem.EqNone.eq_int_none (dC I q (by simp))
  |int j=>obtain⟨t',rfl⟩:=ry;exact eq_int (dC I q Am)
  |str j=>obtain⟨t',rfl⟩:=ry;exact PySem.EqMixed.eq_int_str (dC I q (by simp))
  |_=>exact absurd (show ZD=ZC from hs) P6
 |str i=>
  obtain⟨t,rfl⟩:=rx
  cases y with
  |non=>cases ry;exact PySem.EqNone.eq_str_none (dC I q (by simp))
  |bl j=>cases ry;exact PySem.EqMixed.eq_str_bool (dC I q (by simp))
  |int j=>obtain⟨t',rfl⟩:=ry;exact PySem.EqMixed.eq_str_int (dC I q (by simp))
  |str j=>obtain⟨t',rfl⟩:=ry;exact eq_str (dC I q Hy)
  |_=>exact absurd (show ZD=ZC from hs) P6
 |byt i=>
  obtain⟨t,rfl⟩:=rx
  cases y with
  |byt j=>obtain⟨t',rfl⟩:=ry;exact PySem.W.eq_bytes (dC I q Hz)
  |_=>exact absurd (show ZD=ZC from hs) P6
 |_=>cases y <;> exact absurd (show ZD=ZC from hs) P6
def M0:oP X (QC .Lt) (Ic λi j=>.bl (decide (i<j))):=Kj λ_ _ _ _ _ _ _ q=>lt_int q
def M4:oP X (QC .LtE) (Ic λi j=>.bl (decide (i<=j))):=Kj λ_ _ _ _ _ _ _ q=>le_int q
def M5:oP X (QC .Gt) (Ic λi j=>.bl (decide (j<i))):=Kj λ_ _ _ _ _ _ _ q=>gt_int q
def Kg:oP X (QC .Is) (λx y H Q=>y=.non/\Q (.bl (decide (x=.non))) H):=by
 intro kt s σ H x y v u Q I rx ry h;obtain⟨rfl,q⟩:=h;cases ry;refine is_none_gen (dC I q ?_)
 cases x <;> first
  | (cases rx;rfl)
  | (obtain⟨t,rfl⟩:=rx;rfl)
def GK:oP X (QC .IsNot) (λx y H Q=>y=.non/\Q (.bl (!decide (x=.non))) H):=by
 intro kt s σ H x y v u Q I rx ry h;obtain⟨rfl,q⟩:=h;cases ry;refine isnot_none_gen (dC I q ?_)
 cases x <;> first
  | (cases rx;rfl)
  | (obtain⟨t,rfl⟩:=rx;rfl)
def C6(b:ZG)(h:autoParam (op≠ .In) s_)(h2:autoParam (op≠ .NotIn) s_):SZ op b=ZD:=by
 have e1:(op == CmpOp.In)=ZD:=by cases op <;> first|rfl|exact absurd rfl h
 have e2:(op == CmpOp.NotIn)=ZD:=by cases op <;> first|rfl|exact absurd rfl h2
 cases b <;> simp[SZ,e1,e2]
def zD(ho:oP X (QC op) r)(ha:PE X a ta)(hb:PE X b tb)(hm:SZ op b=ZD):PE X (.Compare a [op] [b] pos) (tOp r ta tb):=by
 intro kt s σ H Q I h;exact wpAny_Compare1 (N0 ha hb I h λv u s2 x y H2 I2 rx ry q=>ho kt s2 σ H2 x y v u Q I2 rx ry q) hm
def pX:(ZI:Nat)<2 ^ 63:=by rw[RB];decide
def yb:oP X (Rt .Add) (λx y H Q=>∃i j,x=.str i/\y=.str j/\i.length+j.length<=ZI/\Q (.str (i++j)) H):=by
 intro kt s σ H x y v u Q I rx ry h;obtain⟨i,j,rfl,rfl,hz,q⟩:=h;obtain⟨t,rfl⟩:=rx;obtain⟨t',rfl⟩:=ry;exact add_str (λt' tk=>⟨.str (i++j),H,I.tok _,⟨_,rfl⟩,q⟩) hz
def jm{x:V}(r:Vals [x] us):∃u,us=[u]/\RelV x u:=by
 cases r with
 |cons r1 r2=>cases r2;exact⟨_,rfl,r1⟩
def zd{x:V}(r:Vals [x,y] us):∃u w',us=[u,w']/\RelV x u/\RelV y w':=by
 cases r with
 |cons r1 r2=>
  cases r2 with
  |cons r3 r4=>cases r4;exact⟨_,_,rfl,r1,r3⟩
def BB(hc:X.calm=ZC):CallR X (.builtin "min") (λxs H Q=>∃i j,xs=[.int i,.int j]/\Q (.int (if j<i then j else i)) H):=by
 intro kt s σ H xs us Q I r h;obtain⟨i,j,rfl,q⟩:=h;obtain⟨u,w',rfl,⟨t,rfl⟩,⟨t',rfl⟩⟩:=zd r;refine min_two_ints (I.ok.hd hc) λh' tk k=>⟨_,H,I.kept k,?_,q⟩
 by_cases hj:j<i
 ·rw[if_pos hj,if_pos hj];exact⟨_,rfl⟩
 ·rw[if_neg hj,if_neg hj];exact⟨_,rfl⟩
def BD:CallR X (.type "int") (λxs H Q=>(∃i,xs=[.int i]/\Q (.int i) H)\/∃k,xs=[.bl k]/\Q (.int (if k then 1 else 0)) H):=by
 intro kt s σ H xs us Q I r h;rcases h with⟨i,rfl,q⟩|⟨k,rfl,q⟩
 ·obtain⟨u,rfl,t,rfl⟩:=jm r
  exact call_int_int ⟨.int i,H,I,⟨_,rfl⟩,q⟩
 ·obtain⟨u,rfl,r1⟩:=jm r
  cases r1;exact call_int_bool ⟨.int (if k then 1 else 0),H,I.tok _,⟨_,rfl⟩,q⟩
end
structure ObjM (h:ZH)(x dx C:ZE)(mA:WF):Prop where
 obj:h.get? x=ZA (RN C dx)
 ns:h.Ns1 dx mA
 ne:dx≠x
variable{dx:ZE}{mA:WF}
def Bf(n:h.Ns1 dx mA):∃od,h.get? dx=ZA od/\∀name,UM name od=ZA (mA name):=by
 obtain⟨o,es,ep,ho,hd,hk,_,hm⟩:=n;refine⟨o,ho,λname=>?_⟩
 have e:=hm name;unfold nsFind findBy at e;rw[<-Wb]at e
 unfold UM;rw[hd]
 dsimp only
 split
 ·rename_i y q
  rw[q]at e;exact congrArg ZA e
 ·rename_i q
  rw[q]at e
  have a:es.toList.any (·.refKey)=ZD:=by
   rw[List.any_eq_false];intro y hy;obtain⟨z,t,hkey⟩:=hk y (Array.mem_toList_iff.mp hy);simp[DictEntry.refKey,hkey]
  have a':¬ es.toList.any (·.refKey)=ZC:=by rw[a];exact P6
  rw[if_neg a'];exact congrArg ZA e
variable{C:ZE}
def ObjM.look{x:ZE}(I:ObjM h x dx C mA):∃od,PySem.W.InstAt h x (RN C dx) C (ZA od)/\∀name,UM name od=ZA (mA name):=
 let ⟨od,ho,hl⟩:=Bf I.ns
 ⟨od,⟨I.obj,rfl,rfl,ho⟩,hl⟩
variable{kw:List (Str×Px)}{name:Str}
section
variable {x f:ZE}{v:Px}
def oF(X:K.In s.heap)(I:ObjM s.heap x dx C mA)(hg:T2 K C name=ZC)(hh:UQ K C=ZC)
  (ha:RD K (.ref C) name=ZA ZB) (hv:mA name=ZA v) (hv':Xf v=ZC) (h:Q v {s with toks:=s.toks+1}):
  ZJ (ZK prog w) A (getAttr (.ref x) name expr) Q E s:=by
 obtain⟨od,J,hl⟩:=I.look;exact PySem.W.get_value X J (Uo hg).1 (PySem.W.findObj_own hh ha rfl (by rw[hl,hv])) hv' h
def DW{pl:Sem Bool}{Q:Px×List Px->Pz->Prop}(X:K.In s.heap)(I:ObjM s.heap x dx C mA)(hg:T2 K C name=ZC)
  (hf:RD K (.ref C) name=ZA (ZA (.ref f))) (ht:WV K (.ref f)=ZC) (hv:mA name=ZB) (h:Q (.ref f,[.ref x]) s):
  ZJ (ZK prog w) A (Tt (.ref x) name pl) Q E s:=by
 obtain⟨od,J,hl⟩:=I.look;exact PySem.W.method_fn X J (Uo hg).1 (Uo hg).2 hf (beq_iff_eq.mp ht) (by show(UM name od).map (·.isSome)=ZA ZD;rw[hl,hv];rfl) h
def FX{ns:List Str}{Q:Unit->Pz->Prop}(X:K.In s.heap)(I:ObjM s.heap x dx C mA)
  (hs:RD K (.ref C) "__setattr__" =ZA (ZA (.builtin "object.__setattr__"))) (hp:WA K C=ZC) (ht:Vl K C name=ZA ZB) (hh:UQ K C=ZC)
  (hw:WX mA ns) (hsz:ns.length<=ZI)
  (h:∀h',ObjM h' x dx C (λy=>if y=name then ZA v else mA y)->Ta dx s.heap h'->Q () {s with heap:=h',toks:=s.toks+2}):
  ZJ (ZK prog w) A (setAttr (.ref x) name v) Q E s:=by
 obtain⟨od,J,hl⟩:=I.look;refine PySem.W.set_plain X J hs (PySem.W.osa_open (s:={s with toks:=s.toks+1}) (r:=ZB) X J hp ht λb=>?_)
 obtain⟨cd,hc,hd'⟩:=PySem.W.any_some hh
 have hx:s.heap.get? x=ZA ⟨.ref C,ZA dx,.plain,#[]⟩:=I.obj;refine PD (PX (PD (PD (wpAny_loadPart hx (PD (PySem.W.Looks.here (s:={s with toks:=s.toks+1}) (PySem.W.looks_clsIn X hc) ?_))))))
 rw[hd'];refine PX (a:=ZA dx) (PD (PX (PD ?_)))
 refine wpAny_nsSet1 (s:={s with toks:=s.toks+1}) I.ns λh' hn2 hs2=>?_
 obtain⟨oD,esD,epD,hoD,hdD,hcD⟩:=hn2.count (PySem.Within.cons name v hw);refine PD (wpAny_lookBehind hoD (by rw[hdD];exact pastItsLine_dict (Qn hcD (by rw[PH];omega))) ?_)
 exact PX (h _ ⟨(hs2.2 _ (Sv I.ne)).trans I.obj,hn2,I.ne⟩ hs2)
def Dl(X:K.In s.heap)(hm:Xz K C=ZC)
  (hi:RD K (.ref C) "__init__" =ZA (ZA (.ref f))) (hf:PySem.W.typeIn K (.ref f)=ZA (.type "function"))
  (h:ZL (ZK prog w) (A.under (.builtin "type.__call__" ⟨.ref C::vs,kw⟩)) (.call (.ref f) ⟨.ref (s.heap.objs.size+1)::vs,kw⟩) (PySem.W.InitBack (s.heap.objs.size+1) R)
   {s with heap:=(s.heap.push Rk).push (RN C s.heap.objs.size)}):
  ZL (ZK prog w) A (.call (.ref C) ⟨vs,kw⟩) R s:=by
 obtain⟨hh,g,d,t,os⟩:=s;exact PySem.W.make_core (PySem.W.makes_of X hm) (PySem.W.looks_findIn X hi) (λself=>PySem.W.bind_fn X self hf) (.inl rfl) h
end
def putF(f:Str)(v:V):List (Str×V)->List (Str×V)
 |[] =>[(f,v)]
 | (g,x)::r=>if g=f then(g,v)::r else(g,x)::putF f v r
theorem nq(f g:Str)(v:V):∀fs:List (Str×V),(putF f v fs).lookup g=if g=f then ZA v else fs.lookup g
 |[] =>by
  show Rj g [(f,v)]=_
  by_cases h:g=f
  ·have hb:(g == f)=ZC:=beq_iff_eq.mpr h
   simp only[Rj,hb,if_pos h]
  ·have hb:(g == f)=ZD:=beq_eq_false_iff_ne.mpr h
   simp only[Rj,hb,if_neg h]
 | (k,x)::r=>by
  have ih:=nq f g v r;rw[show putF f v ((k,x)::r)=(if k=f then(k,v)::r else(k,x)::putF f v r)from rfl]
  by_cases hk:k=f
  ·rw[if_pos hk]
   by_cases h:g=k
   ·have hb:(g == k)=ZC:=beq_iff_eq.mpr h
    simp only[Rj,hb,if_pos (h.trans hk)]
   ·have hb:(g == k)=ZD:=beq_eq_false_iff_ne.mpr h
    simp only[Rj,hb,if_neg (λe:g=f=>h (e.trans hk.symm))]
  ·rw[if_neg hk]
   by_cases h:g=k
   ·have hb:(g == k)=ZC:=beq_iff_eq.mpr h
    simp only[Rj,hb,if_neg (λe:g=f=>hk (h.symm.trans e))]
   ·have hb:(g == k)=ZD:=beq_eq_false_iff_ne.mpr h
    simp only[Rj,hb];exact ih
theorem mQ(f:Str)(v:V):∀fs:List (Str×V),f∈(putF f v fs).map (·.1)/\∀g,g∈fs.map (·.1)->g∈(putF f v fs).map (·.1)
 |[] =>⟨by simp[putF],λg h=>by simp at h⟩
 | (k,x)::r=>by
  obtain⟨i1,i2⟩:=mQ f v r;rw[show putF f v ((k,x)::r)=(if k=f then(k,v)::r else(k,x)::putF f v r)from rfl]
  by_cases hk:k=f
  ·rw[if_pos hk]
   subst hk;exact⟨by simp,λg h=>by simpa using h⟩
  ·rw[if_neg hk]
   refine⟨?_,λg h=>?_⟩
   ·rw[PF]
    exact Pw _ i1
   ·rw[PF]at h ⊢
    rcases PJ.mp h with e|e
    ·exact PJ.mpr (.inl e)
    ·exact Pw _ (i2 g e)
theorem nr(f:Str)(v:V):∀fs:List (Str×V),(putF f v fs).length<=fs.length+1
 |[] =>by simp[putF]
 | (k,x)::r=>by
  have ih:=nr f v r;rw[show putF f v ((k,x)::r)=(if k=f then(k,v)::r else(k,x)::putF f v r)from rfl]
  by_cases hk:k=f
  ·rw[if_pos hk,PH,PH];omega
  ·rw[if_neg hk,PH,PH];omega
def RelO.some_of{o:Option Px}(r:RelO (ZA v) o):∃u,o=ZA u/\RelV v u:=by
 cases o with
 |none=>exact(show False from r).elim
 |some u=>exact⟨u,rfl,r⟩
def RelO.none_of{o:Option Px}(r:RelO ZB o):o=ZB:=by
 cases o with
 |none=>rfl
 |some u=>exact(show False from r).elim
def Bq{u:Px}(r:RelV v u):Xf u=ZC:=by
 cases v with
 |non=>cases (show u=Qx from r);rfl
 |bl b=>cases (show u=Q7 b from r);rfl
 |int i=>obtain⟨t,e⟩:=(show ∃t,u=Rl i t from r);cases e;rfl
 |str x=>obtain⟨t,e⟩:=(show ∃t,u=Rv x t from r);cases e;rfl
 |byt b=>obtain⟨t,e⟩:=(show ∃t,u=Value.bytes b t from r);cases e;rfl
 |flt b=>obtain⟨t,e⟩:=(show ∃t,u=XC b t from r);cases e;rfl
 |ref a=>cases (show u=P7 a from r);rfl
 |ty n=>cases (show u=Si n from r);rfl
section
variable {fs fs':List (Str×V)}
def oE(hok:HOk P w H h)(e:H a=ZA (.ins C dx fs)):∃mA,ObjM h a dx C mA/\(∀f,RelO (fs.lookup f) (mA f))/\WX mA (fs.map (·.1))/\fs.length<=1000/\H dx=ZA (.own a):=by
 obtain⟨d,z,ne,ob,mA,n,r,q⟩:=(show ObjOk P w H h a (.ins C dx fs)from hok a _ e)
 exact⟨mA,⟨ob,n,ne⟩,r,q,z,d⟩
end
structure Cls (K:Pv)(C:ZE):Prop where
 pg:T2 K C Str.empty=ZC
 hd:UQ K C=ZC
 po:WA K C=ZC
 sa:RD K (.ref C) "__setattr__" =ZA (ZA (.builtin "object.__setattr__"))
def Cls.get(c:Cls K C)(f:Str):T2 K C f=ZC:=c.pg
def NoAttr(K:Pv)(C:ZE)(f:Str):Prop:=RD K (.ref C) f=ZA ZB
variable{f:Str}
def NoAttr.Pc(n:NoAttr K C f):Vl K C f=ZA ZB:=by
 unfold Vl;rw[show RD K (.ref C) f=ZA ZB from n]
 rfl
structure uZ (K:Pv)(C:ZE)(m:Str)(f:ZE):Prop where
 at_:RD K (.ref C) m=ZA (ZA (.ref f))
 fn:WV K (.ref f)=ZC
 kp:R7 K (.ref f)=ZC
variable{b:Bool}{m:Str}
section
variable {fs:List (Str×V)}
def yJ(I:Inv X kt σ H s)(e:H a=ZA (.ins C dx fs))(c:Cls X.K C)(n:NoAttr X.K C f)(l:fs.lookup f=ZA v)
  (h:∀u s',Inv X kt σ H s'->RelV v u->Q u s'):ZJ (ZK X.prog X.w) A (getAttr (.ref a) f b) Q E s:=by
 obtain⟨mA,O,r,_,_,_⟩:=oE I.hok e;obtain⟨u,hu,ru⟩:=RelO.some_of (v:=v) (o:=mA f) (by rw[<-l];exact r f)
 exact oF I.kIn O (c.get f) c.hd n hu (Bq ru) (h u _ (I.tok _) ru)
def iP{g:ZE}{pl:Sem Bool}{Q:Px×List Px->Pz->Prop}(I:Inv X kt σ H s)(e:H a=ZA (.ins C dx fs))(c:Cls X.K C)(k:uZ X.K C m g)(l:fs.lookup m=ZB)
  (h:Q (.ref g,[.ref a]) s):ZJ (ZK X.prog X.w) A (Tt (.ref a) m pl) Q E s:=by
 obtain⟨mA,O,r,_,_,_⟩:=oE I.hok e
 have hn:mA m=ZB:=RelO.none_of (by rw[<-l];exact r m)
 exact DW I.kIn O (c.get m) k.at_ k.fn hn h
def xV{u:Px}{Q:Unit->Pz->Prop}(I:Inv X kt σ H s)(e:H a=ZA (.ins C dx fs))(c:Cls X.K C)(n:NoAttr X.K C f)(hl:fs.length<1000)(ry:RelV y u)
  (h:∀s',Inv X kt σ (upd H a (.ins C dx (putF f y fs))) s'->Q () s'):ZJ (ZK X.prog X.w) A (setAttr (.ref a) f u) Q E s:=by
 obtain⟨mA,O,r,wi,_,ho⟩:=oE I.hok e
 have hz:(fs.map (·.1)).length<=ZI:=by rw[Py,RB];omega
 refine FX I.kIn O c.sa c.po n.Pc c.hd wi hz λh' O' sb=>h _ ?_
 have hd:∃o,h'.get? dx=ZA o:=let ⟨o,_,_,e',_⟩:=O'.ns;⟨o,e'⟩
 refine I.write (x:=a) (e:=dx) (by rw[e];exact Sj) (.inr ho) (λb q hb z=>(sb.2 b hb).trans z) hd ?_
 refine⟨by rw[aH O.ne];exact ho,?_,O.ne,O'.obj,_,O'.ns,λg=>?_,λg hg=>?_⟩
 ·have:=nr f y fs;omega
 ·show RelO ((putF f y fs).lookup g) (if g=f then ZA u else mA g)
  rw[nq]
  by_cases q:g=f
  ·rw[if_pos q,if_pos q];exact ry
  ·rw[if_neg q,if_neg q];exact r g
 ·by_cases q:g=f
  ·rw[q];exact(mQ f y fs).1
  ·refine(mQ f y fs).2 g (wi g λz=>hg ?_)
   show(if g=f then ZA u else mA g)=ZB
   rw[if_neg q];exact z
def Inv.made(I:Inv X kt σ H s):Inv X kt σ (upd (upd H s.heap.objs.size (.own (s.heap.objs.size+1))) (s.heap.objs.size+1) (.ins C s.heap.objs.size []))
  {s with heap:=(s.heap.push Rk).push (RN C s.heap.objs.size)}:=by
 have e1:(s.heap.push Rk).get? s.heap.objs.size=ZA Rk:=Qc s.heap rfl
 have e2:((s.heap.push Rk).push (RN C s.heap.objs.size)).get? (s.heap.objs.size+1)=ZA (RN C s.heap.objs.size):=by
  have:=Qc (s.heap.push Rk) (o:=RN C s.heap.objs.size) rfl
  rwa [RM]at this
 have e3:(s.heap.push Rk).Ns s.heap.objs.size (λ_=>ZB):=⟨Rk,#[],_,e1,rfl,(λe he=>absurd he (by simp)),λ_=>rfl⟩
 have I1:=I.laid (a:=s.heap.objs.size) (o:=.own (s.heap.objs.size+1)) (h':=s.heap.push Rk) (t':=s.toks) (λb u q=>PN _ q) (PP _) ⟨_,e1⟩
 refine I1.laid (a:=s.heap.objs.size+1) (o:=.ins C s.heap.objs.size []) (t':=s.toks) (λb u q=>PN _ q) (Tc (RM _ _)) ?_
 have ne:s.heap.objs.size≠s.heap.objs.size+1:=QJ (Va _);refine⟨by rw[aH ne,aL],QQ _,ne,e2,λ_=>ZB,(Heap.Ns1.of_empty e3).at λo q=>PN _ q,λ_=>Sj,λy hy=>absurd rfl hy⟩
def HG{env:Env}(hb:Qj e f env (eval e env)=eval e env)
  (h:ZJ (ZK prog w) A (eval e env) (λo s₁=>ZJ (ZK prog w) A (getAttr o f ZC) Q E s₁) E s):ZJ (ZK prog w) A (eval (.Attribute e f pos) env) Q E s:=
 Attribute_any_ h (by rw[arm_eval_Attribute,hb])
end
def tFld(K:Pv)(ta:TE)(f:Str):TE:=λσ H Q=>ta σ H λx H1=>∃a C dx fs v,x=.ref a/\H1 a=ZA (.ins C dx fs)/\Cls K C/\NoAttr K C f/\fs.lookup f=ZA v/\Q v H1
def sFld(K:Pv)(ta tv:TE)(f:Str):TS:=λD σ H=>tv σ H λy H1=>ta σ H1 λx H2=>∃a C dx fs,x=.ref a/\H2 a=ZA (.ins C dx fs)/\Cls K C/\NoAttr K C f/\fs.length<1000 ∧
 D.nx σ (upd H2 a (.ins C dx (putF f y fs)))
section
variable {o value:ZG}{tpos:Pos}{tv:TE}
def x8(he:PE X e ta)(hb:Qj e f X.env (eval e X.env)=eval e X.env):PE X (.Attribute e f pos) (tFld X.K ta f):=by
 intro kt s σ H Q I h;refine HG hb (bV (he kt s σ H _ I h) λu s1 hh_=>?_)
 obtain⟨x,H1,I1,rx,a,C,dx,fs,v,ex,ea,c,n,l,q⟩:=hh_;subst ex;obtain rfl:u=P7 a:=rx;exact yJ I1 ea c n l λu' s2 I2 ru=>⟨v,H1,I2,ru,q⟩
def JV(ha:PE X o ta)(hv:PE X value tv)(hs:Qt value (ZA (.Attribute o f pos')) pos.line X.env=pure ZD):PS X (.Assign [.Attribute o f pos'] value pos) (sFld X.K ta tv f):=by
 intro kt s σ H D I h;refine plainObj_wpAny_Assign_Attribute (bV (hv kt s σ H _ I h) λu s1 ⟨y,H1,I1,ry,q⟩=>bV (ha kt s1 σ H1 _ I1 q) λov s2 ⟨x,H2,I2,rx,a,C,dx,fs,ex,ea,c,n,l,q2⟩=>?_) hs
 subst ex;obtain rfl:ov=P7 a:=rx;exact xV I2 ea c n l ry λs3 I3=>⟨σ,_,I3,q2⟩
end
section
variable {c:Px}
inductive m5 (K:Pv) (H:Hp):V->Px->Prop where
 |non:m5 K H .non (.type "NoneType")
 |bl (x:Bool):m5 K H (.bl x) (.type "bool")
 |int (i:Int):m5 K H (.int i) (.type "int")
 |str (x:Str):m5 K H (.str x) (.type "str")
 |flt (x:UInt64):m5 K H (.flt x) (.type "float")
 |lst {a:ZE} {xs:List V} (e:H a=ZA (.lst xs)):m5 K H (.ref a) (.type "list")
 |frz {a:ZE} {o:Obj} {xs:List V} (e:H a=ZA (.frz o (.lst xs))):m5 K H (.ref a) (.type "list")
 |tup {a:ZE} {xs:List V} (e:H a=ZA (.tup xs)):m5 K H (.ref a) (.type "tuple")
 |dK {a:ZE} {kvs:List (Key×V)} (e:H a=ZA (.dK kvs)):m5 K H (.ref a) (.type "dict")
 |dT {a:ZE} {kvs:List (List Key×V)} (e:H a=ZA (.dT kvs)):m5 K H (.ref a) (.type "dict")
 |ins {a C dx:ZE} {fs:List (Str×V)} (e:H a=ZA (.ins C dx fs)) (cl:Cls K C) (ha:RD K (.ref C) "__class__" =ZA (ZA (.builtin "object.__class__")))
   (hn:PySem.W.specialIn K (.builtin "object.__class__") "__get__" =ZA (ZA (.builtin "getset_descriptor.__get__"))) (htk:PySem.W.takesIn K (.builtin "object.__class__")=ZA ZC)
   (hm:PySem.W.mroIn K C (.type "object")=ZA ZC):m5 K H (.ref a) (.ref C)
def Bm{x:V}{u t:Px}(I:Inv X kt σ H s)(rx:RelV x u)(ty:m5 X.K H x t)(e:PySem.W.kitOne X.K t c=ZA b)(h:∀tk,Q (.bool b) {s with toks:=tk}):
  ZJ (ZK X.prog X.w) A (call (.builtin "isinstance") [u,c]) Q E s:=by
 cases ty with
 |non=>cases (show u=Qx from rx);exact Rg PySem.W.kitx_none I.kIn Sj e (λz=>nomatch z) h
 |bl y=>cases (show u=Q7 y from rx);exact Rg PySem.W.kitx_bool I.kIn Sj e (λz=>nomatch z) h
 |int i=>obtain⟨t,q⟩:=(show ∃t,u=Rl i t from rx);cases q;exact Rg PySem.W.kitx_int I.kIn Sj e (λz=>nomatch z) h
 |str y=>obtain⟨t,q⟩:=(show ∃t,u=Rv y t from rx);cases q;exact Rg PySem.W.kitx_str I.kIn Sj e (λz=>nomatch z) h
 |flt y=>obtain⟨t,q⟩:=(show ∃t,u=XC y t from rx);cases q;exact Rg PySem.W.kitx_float I.kIn Sj e (λz=>nomatch z) h
 |@lst a xs ea=>
  cases (show u=P7 a from rx)
  obtain⟨_,_,n,_,h1⟩:=(show ObjOk X.prog X.w H s.heap a (.lst xs)from I.hok a _ ea)
  exact Rg WB I.kIn ⟨_,h1,rfl⟩ e (λz=>nomatch z) h
 |@frz a ob xs ea=>
  cases (show u=P7 a from rx)
  obtain⟨_,_,_,n,_,h1⟩:=(show ObjOk X.prog X.w H s.heap a (.frz ob (.lst xs))from I.hok a _ ea)
  exact Rg WB I.kIn ⟨_,h1,rfl⟩ e (λz=>nomatch z) h
 |@tup a xs ea=>
  cases (show u=P7 a from rx)
  obtain⟨_,_,_,p⟩:=(show ObjOk X.prog X.w H s.heap a (.tup xs)from I.hok a _ ea)
  obtain⟨o,h1,h2,_⟩:=p
  exact Rg PySem.W.kitx_tuple I.kIn ⟨o,h1,h2⟩ e (λz=>nomatch z) h
 |@dK a kvs ea=>
  cases (show u=P7 a from rx)
  obtain⟨_,_,vs,_,p⟩:=(show ObjOk X.prog X.w H s.heap a (.dK kvs)from I.hok a _ ea)
  obtain⟨o,es,ep,h1,h2,_⟩:=p
  exact Rg WC I.kIn ⟨o,h1,h2.1⟩ e (λz=>nomatch z) h
 |@dT a kvs ea=>
  cases (show u=P7 a from rx)
  obtain⟨_,_,xs,_,o,es,ep,h1,h2,_⟩:=(show ObjOk X.prog X.w H s.heap a (.dT kvs)from I.hok a _ ea)
  exact Rg WC I.kIn ⟨o,h1,h2.1⟩ e (λz=>nomatch z) h
 |@ins a C dx fs ea cl ha hn htk hm=>
  cases (show u=P7 a from rx)
  obtain⟨mA,O,_⟩:=oE I.hok ea;obtain⟨od,J,_⟩:=O.look;exact Rg (PySem.W.kitx_own (cl.get _) cl.hd ha hn htk hm) I.kIn J e (λz=>nomatch z) h
end
structure Room (k:Nat)(A:Qq):Prop where
 hd:A.handled=ZB
 dp:A.depth+3*k+5<recursionLimit
 un:A.units+16*k+200<cLine
def Room.mono(r:Room k A)(h:j<=k):Room j A:=⟨r.hd,by have:=r.dp;omega,by have:=r.un;omega⟩
def Room.deeper(r:Room (k+1) A)(env:Env):Room k (A.deeper env):=
 ⟨r.hd,by have:=r.dp;show A.depth+1+3*k+5<_;omega,by have:=r.un;show A.units+3+16*k+200<_;omega⟩
def yq:(A.under (.builtin "type.__call__" ⟨.ref C::us,kw⟩)).depth=A.depth+1:=by
 first|rfl|simp[WY,Code.weight,Code.isCreation,Code.isGuard,Code.isCaller,Code.frames,WZ,guardIds]
def ym:(A.under (.builtin "type.__call__" ⟨.ref C::us,kw⟩)).units=A.units+1:=by
 first|rfl|simp[WY,Code.cUnits,Code.frames,WZ]
def Room.make(r:Room (k+1) A)(C:ZE)(us:List Px)(kw:List (Str×Px)):Room k (A.under (.builtin "type.__call__" ⟨.ref C::us,kw⟩)):=
 ⟨r.hd,by have:=r.dp;rw[yq];omega,by have:=r.un;rw[ym];omega⟩
def Room.depth(r:Room k A):A.depth<recursionLimit:=by have:=r.dp;omega
def FO:TA:=λ_ H Q=>Q [] H
def oX(ta:TE)(tr:TA):TA:=λσ H Q=>ta σ H λx H1=>tr σ H1 λxs H2=>Q (x::xs) H2
section
variable {t:TA}
def fM:PA X [] FO:=λ_ _ _ _ H Q I h=>SO ⟨[],H,I,.nil,h⟩
def cS(ha:PE X e te)(hr:PA X es t)(hs:autoParam (PR (e::es) X.env=(ZD,eval e X.env)::PR es X.env) u_):PA X (e::es) (oX te t):=by
 intro pos kt s σ H Q I h;rw[hs]
 show ZJ _ _ (spliced ((ZD,eval e X.env)::backTo pos (PR es X.env))) _ _ s
 refine SD (bV (ha kt s σ H _ I h) λu s1 hh_=>?_)
 obtain⟨x,H1,I1,r1,q1⟩:=hh_;exact bV (hr pos kt s1 σ H1 _ I1 q1) λus s2 ⟨xs,H2,I2,r2,q2⟩=>⟨x::xs,H2,I2,.cons r1 r2,q2⟩
def tTup(t:TA):TE:=λσ H Q=>t σ H λxs H1=>xs.length<=ZI/\∀p,H1 p=ZB->Q (.ref p) (upd H1 p (.tup xs))
def tLst(t:TA):TE:=λσ H Q=>t σ H λxs H1=>xs.length<=ZI/\∀p,H1 p=ZB->Q (.ref p) (upd H1 p (.lst xs))
def J2{x1}(h:PA X es t):PE X (.Tuple es x1 pos) (tTup t):=by
 intro kt s σ H Q I hq;refine wpAny_Tuple_spliced (bV (h pos kt s σ H _ I hq) λus s1 ⟨xs,H1,I1,r,z,q⟩=>⟨by rw[<-r.length];exact z,?_⟩)
 have hf:H1 s1.heap.objs.size=ZB:=I1.hok.fresh (PP _);refine⟨.ref s1.heap.objs.size,upd H1 s1.heap.objs.size (.tup xs),I1.laid (t':=s1.toks) (λb u e=>PN _ e) (PP _) ?_,rfl,q _ hf⟩
 exact⟨z,us,r,⟨_,Qc _ rfl,rfl,_,rfl⟩⟩
def J6(h:PA X es t):PE X (.List es pos) (tLst t):=by
 intro kt s σ H Q I hq;refine Wq (bV (h pos kt s σ H _ I hq) λus s1 ⟨xs,H1,I1,r,z,q⟩=>⟨by rw[<-r.length];exact z,?_⟩)
 have hf:H1 s1.heap.objs.size=ZB:=I1.hok.fresh (PP _);refine⟨.ref s1.heap.objs.size,upd H1 s1.heap.objs.size (.lst xs),I1.laid (t':=s1.toks) (λb u e=>PN _ e) (PP _) ?_,rfl,q _ hf⟩
 exact⟨z,us,0,r,Qc _ rfl⟩
end
abbrev Sp:=List V->Hp->VK->XK->Prop
abbrev Fq:=List Env->Hp->Pz->XK->WP
structure Env0 (P:Qg)(w:QP)(K:Pv)(mg:WF)(base:ZH)(A:Qq)(outer:List Env)(s:Pz)(H:Hp):Prop where
 frames:A.frames=ZA outer
 mod:Mod K mg base
 bs:∀b o,base.get? b=ZA o->s.heap.get? b=ZA o/\H b=ZB
 bsz:base.objs.size<=s.heap.objs.size
 funs:s.heap.FunFrames base outer
 frf:∀b∈oG outer,H b=ZB
 hok:HOk P w H s.heap
 bare:U7 s.gens
def CE(outer:List Env)(P:Qg)(w:QP)(H:Hp)(s:Pz)(Q:VK)(u:Px)(s':Pz):Prop:=
 ∃v H',s'.os=s.os/\U7 s'.gens/\Un (oG outer) [] H H' s.heap s'.heap/\HOk P w H' s'.heap/\RelV v u/\Q v H'
def CR(CX:Fq)(outer:List Env)(P:Qg)(w:QP)(H:Hp)(s:Pz)(Q:VK)(E:XK)(r:Wp)(s':Pz):Prop:=
 match r with
 |.ok (.ret u)=>CE outer P w H s Q u s'
 |.ok _=>False
 |.error e=>CX outer H s E e s'
structure qB (P:Qg)(w:QP)(K:Pv)(mg:WF)(base:ZH)(CX:Fq)(k:Nat)(f:ZE)(fd:Q0)(ps:List Str)(sp:Sp):Prop where
 len:∀vs H Q E,sp vs H Q E->vs.length=ps.length
 run:∀(A:Qq)(outer:List Env)(s:Pz)(H:Hp)(args:Args)(us:List Px)(vs:List V)(Q:VK)(E:XK),Room k A->Env0 P w K mg base A outer s H->VC s fd args (ps.zip us)->Vals vs us->sp vs H Q E →
  ZL (ZK P w) A (.call (.ref f) args) (CR CX outer P w H s Q E) s
variable{mg:WF}{outer:List Env}
def Env0.make{base:ZH}(e:Env0 P w K mg base A outer s H)(C:ZE)(us:List Px)(kw:List (Str×Px)):
  Env0 P w K mg base (A.under (.builtin "type.__call__" ⟨.ref C::us,kw⟩)) outer s H:=⟨by first|exact e.frames| (simpa [WY,Code.envs,WZ,pushEnvs]using e.frames),e.mod,e.bs,e.bsz,e.funs,e.frf,e.hok,e.bare⟩
variable{Q:VK}
def Inv.OQ(I:Inv X kt σ H s):Env0 X.prog X.w X.K X.mg X.base X.A X.stack s H:=
 ⟨I.ok.frames,I.ok.mod,I.bs,Qn I.ok.bsz I.sz,I.stack,I.Ov,I.hok,I.bare⟩
def Inv.after{u:Px}(I:Inv X kt σ H s)(h:CE X.stack X.prog X.w H s Q u s'):EP X kt σ Q u s':=by
 obtain⟨v,H',os,bare,un,hok,r,q⟩:=h;obtain⟨hh,g,d,t,os'⟩:=s';obtain rfl:os'=s.os:=os;exact⟨v,H',I.call (h':=hh) (g':=g) (d':=d) (t':=t) (ch:=[]) un hok bare (λb z=>absurd z (by simp)),r,q⟩
def Mh(sp:Sp)(dvs:List V)(E:XK)(t:TA):TE:=λσ H Q=>t σ H λvs H1=>sp (vs++dvs) H1 Q E
def Binds(K:Pv)(fd:Q0)(ps:List Str)(ds:List Px):Prop:=
 ∀(s:Pz)(us:List Px),K.In s.heap->(us++ds).length=ps.length->VC s fd ⟨us,[]⟩ (ps.zip (us++ds))
variable{ps:List Str}
def Binds.all(h:∀us:List Px,us.length=ps.length->Wr fd ⟨us,[]⟩=pure (ps.zip us)):Binds K fd ps []:=λs us _ hl=>by
 rw[Ql]at hl ⊢;exact .of_eq (h us hl)
def yY(CX:Fq)(X:Cx)(E:XK):Prop:=∀(kt:Uf)(σ:St)(H:Hp)(s:Pz)(e:Px)(s':Pz),Inv X kt σ H s->CX X.stack H s E e s'->X.xe e s'
variable{CX:Fq}{E:XK}{f:ZE}{vs:List V}
section
variable {sp:Sp}{dvs:List V}{ds:List Px}{p apos:Pos}{o:ZG}{t:TA}
def xX(F:qB X.prog X.w X.K X.mg X.base CX k f fd ps sp)(hr:Room k X.A)(hb:Binds X.K fd ps ds)(hd:Vals dvs ds)(hx:yY CX X E)
  (I:Inv X kt σ H s) (r:Vals vs us) (h:sp (vs++dvs) H Q E):ZJ (ZK X.prog X.w) X.A (call (.ref f) us) (EP X kt σ Q) X.xe s:=by
 have r2:Vals (vs++dvs) (us++ds):=r.append hd
 have hl:(us++ds).length=ps.length:=by rw[<-r2.length];exact F.len _ _ _ _ h
 refine U0 (SN (F.run X.A X.stack s H ⟨us,[]⟩ (us++ds) (vs++dvs) Q E hr I.OQ (hb s us I.kIn hl) r2 h) λr s' hq=>?_)
 cases r with
 |error e=>exact hx kt σ H s e s' I hq
 |ok fl=>
  cases fl with
  |ret u=>exact I.after hq
  |next=>exact Rf hq
  |brk=>exact Rf hq
  |cont=>exact Rf hq
def zE(F:qB X.prog X.w X.K X.mg X.base CX k f fd ps sp)(hr:Room k X.A)(hg:Gl X x)(hm:X.mg x=ZA (.ref f))(hk:R7 X.K (.ref f)=ZC)(hb:Binds X.K fd ps ds)(hd:Vals dvs ds)(hx:yY CX X E)
  (ha:PA X (e::es) t) (hdb:autoParam ((x == ("__debug__" : Str))=ZD) s_) (he:autoParam (PR (e::es) X.env=(ZD,eval e X.env)::PR es X.env) u_) (hpl:autoParam ((backTo pos (PR es X.env)).any (·.1)=ZD) u_):
  PE X (.Call (.Name x p) (e::es) [] pos) (Mh sp dvs E t):=by
 intro kt s σ H Q I h;refine Q1 (gH I hg hm ?_ hdb)
 refine R3 (h₀:=X.base) I.ok.mod.kin hk (bV (ha pos kt s σ H _ I h) λus s1 ⟨vs,H1,I1,r,q⟩=>⟨I1.kIn,?_⟩) he hpl
 exact xX F hr hb hd hx I1 r q
structure Mk (K:Pv)(C f:ZE):Prop where
 makes:Xz K C=ZC
 init:RD K (.ref C) "__init__" =ZA (ZA (.ref f))
 fn:WV K (.ref f)=ZC
 kp:R7 K (.ref C)=ZC
end
structure bo (N P:List Str)(sc:Tg):Prop where
 kind:sc.kind=.function
 co:sc.isCoroutine=ZD
 gen:sc.isGenerator=ZD
 nd:N.Nodup
 pre:N.take P.length=P
 par:∀x∈P,sc.names.lookup x=ZA .local\/sc.names.lookup x=ZA .cell
 nofree:∀y∈sc.names,y.2≠ .free
variable{kindOf:Str->Option SX}
theorem sL:∀{binds:List (Str×Px)}{m:WF},(∀v,(x,v)∉binds)->bindL kindOf binds m x=m x
 |[],_,_=>rfl
 | (n,v)::r,m,h=>by
  unfold bindL;rw[sL λw hw=>h w (Pw _ hw)]
  split
  ·have:x≠n:=by rintro rfl;exact h v PB
   simp[this]
  ·rfl
theorem sO:∀{binds:List (Str×Px)}{m:WF},(∀v,(x,v)∉binds)->bindC kindOf binds m x=m x
 |[],_,_=>rfl
 | (n,v)::r,m,h=>by
  unfold bindC;rw[sO λw hw=>h w (Pw _ hw)]
  split
  ·rfl
  ·have:x≠n:=by rintro rfl;exact h v PB
   simp[this]
variable{v:Px}
theorem sM:∀{P:List Str}{vs:List Px}{i:Nat}{m:WF},P.Nodup->P[i]?=ZA x->vs[i]?=ZA v->kindOf x=ZA .local →
  bindL kindOf (P.zip vs) m x=ZA v
 |[],_,_,_,_,h,_,_=>by simp at h
 |_::_,[],_,_,_,_,h,_=>by simp at h
 |p::P,w::vs,0,m,nd,h1,h2,hk=>by
  simp at h1 h2;subst h1;subst h2
  show bindL kindOf ((p,w)::P.zip vs) m p=_
  unfold bindL;rw[sL λv hv=>(Qh.mp nd).1 (SI hv).1,if_pos hk]
  simp
 |p::P,w::vs,i+1,m,nd,h1,h2,hk=>by
  show bindL kindOf ((p,w)::P.zip vs) m x=_
  unfold bindL;exact sM (i:=i) (Qh.mp nd).2 (by simpa using h1) (by simpa using h2) hk
theorem sP:∀{P:List Str}{vs:List Px}{i:Nat}{m:WF},P.Nodup->P[i]?=ZA x->vs[i]?=ZA v->kindOf x≠ZA .local →
  bindC kindOf (P.zip vs) m x=ZA v
 |[],_,_,_,_,h,_,_=>by simp at h
 |_::_,[],_,_,_,_,h,_=>by simp at h
 |p::P,w::vs,0,m,nd,h1,h2,hk=>by
  simp at h1 h2;subst h1;subst h2
  show bindC kindOf ((p,w)::P.zip vs) m p=_
  unfold bindC;rw[sO λv hv=>(Qh.mp nd).1 (SI hv).1,if_neg hk]
  simp
 |p::P,w::vs,i+1,m,nd,h1,h2,hk=>by
  show bindC kindOf ((p,w)::P.zip vs) m x=_
  unfold bindC;exact sP (i:=i) (Qh.mp nd).2 (by simpa using h1) (by simpa using h2) hk
def start(N:List Str)(vs:List V):St:=vs.map ZA++Qe (N.length - vs.length) ZB
def gu(CX:Fq)(P:Qg)(w:QP)(K:Pv)(mg:WF)(base:ZH)(N:List Str)(qual:Str)(scope:Tg)(f:ZE)(cd:Px)(A:Qq)(outer:List Env)(s:Pz)(H:Hp)(E:XK):Cx where
 prog:=P
 w:=w
 K:=K
 mg:=mg
 base:=base
 A:=A.deeper (envOfC qual scope s.heap.objs.size f cd)
 N:=N
 s₀:=s
 H₀:=H
 env:=envOfC qual scope s.heap.objs.size f cd
 outer:=outer
 stack:=envOfC qual scope s.heap.objs.size f cd::outer
 ex:=[]
 calm:=ZC
 fn:=λ_=>ZC
 pn:=[]
 xe:=λe s'=>ZJ (ZK P w) (A.deeper (envOfC qual scope s.heap.objs.size f cd)) (leaving (envOfC qual scope s.heap.objs.size f cd) e) (λ_ s''=>CX outer H s E e s'') (λe' s''=>CX outer H s E e' s'') s'
def xk(h:sc.names.lookup x=ZA .cell):∃c,(Sr n sc.names []).lookup x=ZA c:=by
 have q:=SA sc.names n [] (.inl h);exact Option.isSome_iff_exists.mp q
variable{qual:Str}
def mV{base:ZH}{cd:Px}{s1:Pz}
  (S:bo N ps scope) (hd:A.handled=ZB) (e0:Env0 P w K mg base A outer s H) (hl:vs.length=ps.length) (r:Vals vs us)
  (x:InCallC s s.heap.objs.size (bindL (envOfC qual scope s.heap.objs.size f cd).kindOf (ps.zip us) λ_=>ZB) (Sr (s.heap.objs.size+1) scope.names []) (bindC (envOfC qual scope s.heap.objs.size f cd).kindOf (ps.zip us) λ_=>ZB) s1):
  Inv (gu CX P w K mg base N qual scope f cd A outer s H E) [] (start N vs) H s1:=by
 have hpl:ps.length<=N.length:=by have:=congrArg Sa S.pre;rw[Ri]at this;omega
 obtain⟨h1,tk,rfl,hk⟩:=x.done
 have noA:∀b:ZE,b∉(gu CX P w K mg base N qual scope f cd A outer s H E).ex:=λb z=>absurd (show b∈([]:List ZE)from z) (by simp)
 refine⟨⟨e0.mod,S.kind,rfl,rfl,PP _,λy z c h1 h2=>?_,λy hy=>?_,λy c _ h=>?_,λ_=>hd,Around.frames_deeper e0.frames,.inr ⟨rfl,rfl⟩,λb z=>absurd z (noA b),e0.bs,e0.bsz,λb _ _=>noA b,λb z=>absurd z (noA b),e0.funs,e0.frf⟩,
  rfl,e0.bare,Un.kept hk,⟨_,x.toInCall.ns,λi y v h1 h2 h3=>?_⟩,λy c h=>⟨_,x.cell y c h⟩,e0.hok.fresh (PP _),λy c h=>?_,λp hp=>absurd (show p∈([]:Uf)from hp) (by simp),e0.hok.kept hk,?_⟩
 ·exact name_of_addr x.apart (RO h1) (RO h2)
 ·have hy:scope.names.lookup y=ZA .cell\/scope.names.lookup y=ZA .free:=hy
  rcases hy with hy|hy
  ·exact xk hy
  ·exact absurd rfl (S.nofree _ (RO hy))
 ·exact RH (x.above y c (RO h))
 ·have hi:i<vs.length:=by
   unfold start at h2
   by_cases hi:i<vs.length
   ·exact hi
   ·rw[Rr (by simpa using hi)]at h2
    rw[QK]at h2
    split at h2 <;> cases h2
  have ha:vs[i]?=ZA v:=by
   unfold start at h2;rw[Qo (by simpa using hi),P9]at h2
   cases e:vs[i]? with
   |none=>rw[e]at h2;cases h2
   |some a=>rw[e]at h2;cases h2;rfl
  obtain⟨u,hu,rv⟩:=r.get ha
  have hp:ps[i]?=ZA y:=by
   rw[<-S.pre,List.getElem?_take_of_lt (by omega)];exact h1
  have ndP:ps.Nodup:=by rw[<-S.pre];exact S.nd.sublist (List.take_sublist _ _)
  refine⟨u,rv,?_⟩
  rcases S.par y (Sf hp)with k|k
  ·exact .inl ⟨k,sM ndP hp hu k⟩
  ·obtain⟨c,e⟩:=xk (n:=s.heap.objs.size+1) k
   refine .inr ⟨.inl k,c,e,?_⟩
   have q:=x.cell y c e;rw[sP ndP hp hu (by show scope.names.lookup y≠_;rw[k];decide)]at q
   exact q
 ·exact e0.hok.fresh (RH (x.above y c (RO h)))
 ·unfold start
  show _=N.length
  rw[PK,Py,List.length_replicate];omega
def NO{base:ZH}{params:Vz}{dV kV doc pm cdv ct oc:Px}{an od:Option ZE}
  {osl:Array (Option Px)}  {sp:Sp} (lk:K.lookup f=ZA ⟨oc,od,.func (S5 name qual params body scope dV kV doc pm an cdv ct),osl⟩) (hcd:VT K cdv qual=ZC) (S:bo N ps scope)
  (len:∀vs H Q E,sp vs H Q E->vs.length=ps.length)
  (hbody:∀(A:Qq)(outer:List Env)(s:Pz)(H:Hp)(vs:List V)(Q:VK)(E:XK),Room k (A.deeper (envOfC qual scope s.heap.objs.size f cdv))->sp vs H Q E →
   ∃t,PSs (gu CX P w K mg base N qual scope f cdv A outer s H E) body t/\t {nx:=λ_ H'=>Q .non H',rt:=Q} (start N vs) H):
  qB P w K mg base CX (k+1) f (S5 name qual params body scope dV kV doc pm an cdv ct) ps sp:=by
 refine⟨len,λA outer s H args us vs Q E hr e0 hb r hsp=>?_⟩
 have hl:=len _ _ _ _ hsp
 have KX:K.In s.heap:=e0.mod.kin.keeps λb o e=>(e0.bs b o e).1
 have lim:s.heap.NoLimit:=e0.mod.nolimit.keeps λb o e=>(e0.bs b o e).1
 have hkind:∀y∈ps.zip us,scope.names.lookup y.1=ZA .local\/(scope.names.lookup y.1=ZA .cell/\((Sr (s.heap.objs.size+1) scope.names []).lookup y.1).isSome=ZC):=λ⟨n,v⟩ hy=>by
  rcases S.par n (SI hy).1 with q|q
  ·exact .inl q
  ·exact .inr ⟨q,SA _ _ _ (.inl q)⟩
 refine TY hr.depth (KX _ _ lk) rfl S.co S.gen rfl (UI KX hcd) (hb _ _ _ _ ?_)
 refine S0 S.kind hkind λenv he s1 x=>?_
 subst he;refine⟨lim.keeps x.toInCall.keep,Xb ?_⟩
 obtain⟨t,ht,hq⟩:=hbody A outer s H vs Q E (hr.deeper _) hsp
 have I:Inv (gu CX P w K mg base N qual scope f cdv A outer s H E) [] (start N vs) H s1:=mV S hr.hd e0 hl r x;refine Rm (ht [] s1 (start N vs) H _ I hq) (λfl s' hs=>?_) λe s' hs=>hs
 have fin:∀{σ':St}{H':Hp}{v:V}{u:Px},Inv (gu CX P w K mg base N qual scope f cdv A outer s H E) [] σ' H' s'->RelV v u->Q v H'->CE outer P w H s Q u s':=
  λ{σ' H' v u} J rv q=>⟨v,H',J.os,J.bare,J.base,J.hok,rv,q⟩
 cases fl with
 |ret u=>
  obtain⟨v,σ',H',J,rv,q⟩:=hs
  exact fin J rv q
 |next=>
  obtain⟨σ',H',J,q⟩:=hs
  exact fin (v:=V.non) (u:=Qx) J rfl q
 |brk=>
  obtain⟨_,_,_,q⟩:=hs
  exact Rf q
 |cont=>
  obtain⟨_,_,_,q⟩:=hs;exact Rf q
section
variable {p:Pos}{t:TA}{id T:String}{r:List V->Hp->VK->Prop}
def tCB(r:List V->Hp->VK->Prop)(t:TA):TE:=λσ H Q=>t σ H λvs H1=>r vs H1 Q
def AZ(hc:CallR X (.type T) r)(hg:Gl X x)(hm:X.mg x=ZB)(hv:Qw x=ZA (.type T))(ha:PA X (e::es) t)(hn:autoParam (x≠ "__name__") s_)(hdb:autoParam ((x == ("__debug__" : Str))=ZD) s_)
  (he:autoParam (PR (e::es) X.env=(ZD,eval e X.env)::PR es X.env) u_) (hpl:autoParam ((backTo pos (PR es X.env)).any (·.1)=ZD) u_):PE X (.Call (.Name x p) (e::es) [] pos) (tCB r t):=by
 intro kt s σ H Q I h;refine Q1 (fO I hg hm hv ?_ hn hdb)
 exact QV (bV (ha pos kt s σ H _ I h) λus s1 ⟨vs,H1,I1,r1,q1⟩=>hc kt s1 σ H1 vs us Q I1 r1 q1) he hpl
end
end L2
namespace HT
open PySem PyProof.Rows
def lexLt:List Int->List Int->Bool
 |[],[] =>ZD
 |[],_::_=>ZC
 |_::_,[] =>ZD
 |x::xs,y::ys=>if x=y then lexLt xs ys else decide (x<y)
def lexLt_cons(x y:Int)(xs ys:List Int):lexLt (x::xs) (y::ys)=if x=y then lexLt xs ys else decide (x<y):=rfl
def rh:lexLt [] []=ZD:=rfl
def pZ(y:Int)(ys:List Int):lexLt [] (y::ys)=ZC:=rfl
def p0(x:Int)(xs:List Int):lexLt (x::xs) []=ZD:=rfl
def Eh(A:Qq)(s:Pz)(a:Int)(t:Tok)(c:Int)(u:Tok):∃e,SeqAt.EqAt A s (.int a t) (.int c u) e/\(e=ZC↔a=c):=
 ⟨(a == c),SeqAt.EqAt.int_int a t c u,by simp⟩
def Cp(A:Qq)(s:Pz)(a:Int)(t:Tok)(c:Int)(u:Tok)(prog:Qg)(w:QP)(E:WP)(Q:WP)(h:Q (.bool (decide (a<c))) s):
  ZJ (ZK prog w) A (richCompare .Lt (.int a t) (.int c u)) Q E s:=
 (PyProof.Rows.lt_int h:ZJ (ZK prog w) A (QC .Lt (.int a t) (.int c u)) Q E s)
section
open PySem.SeqAt
open PySem.AutoSeq1 (wpAny_loadPart')
open PySem.MeetsSeq PySem.MeetsSeq2 PySem.MeetsSeq3
def qJ(l b:ZE)(items items2:Array Px)(n n2:Nat)(dd dd2:Option ZE)(sl sl2:Array (Option Px))(ns ms:List Int)(hi:R0 items.toList ns)(hj:R0 items2.toList ms):
  Meets (Builtin.«tuple.__lt__» ⟨[.ref l,.ref b],[]⟩)
   (λ_ R s=>s.heap.get? l=ZA {cls:=.type "tuple",dict:=dd,data:=.seq items n,slots:=sl}/\s.heap.get? b=ZA {cls:=.type "tuple",dict:=dd2,data:=.seq items2 n2,slots:=sl2} ∧
    R (.ok (.ret (.bool (lexLt ns ms)))) s):=
 .of_wp λprog w A R s h=>by
  obtain⟨hp,g,d,tk,os⟩:=s;obtain⟨hl,hb,h⟩:=h
  have f2:=AutoSeq1.sub_tuple_tuple
  have z1:items.size=ns.length:=by rw[<-hi.length];simp
  have z2:items2.size=ms.length:=by rw[<-hj.length];simp
  wp_walk using Rq hl,Rq hb,wpAny_forIn_list _ (λbM b s'=>b.1=ZB/\s'=⟨hp,g,d,tk,os⟩/\∃(vs ws:List Px)(ns' ms':List Int),bM=vs.zip ws ∧
   R0 vs ns'/\R0 ws ms'/\ns'.length+items2.size=ms'.length+items.size/\R (.ok (.ret (.bool (lexLt ns' ms')))) ⟨hp,g,d,tk,os⟩) _
  case turn=>
   rintro ⟨y,x⟩ bM b s' ⟨hb',rfl,vs,ws,ns',ms',hz,hvi,hwi,hlen,hR⟩
   cases hvi with
   |nil=>rw[List.zip_nil_left]at hz;cases hz
   |cons a t hvi'=>
    cases hwi with
    |nil=>rw[List.zip_nil_right]at hz;cases hz
    |cons c u hwi'=>
     rw[UK]at hz;injection hz with hyx hrest
     injection hyx with hy hx
     subst hy hx;rw[lexLt_cons]at hR;simp only[PH]at hlen;obtain⟨e,he,hiff⟩:=Eh A.in1 ⟨hp,g,d,tk,os⟩ a t c u;refine PD (he prog w _ _ ?_)
     cases e with
     |true=>
      rw[if_pos (hiff.mp rfl)]at hR
      wp_walk
      exact⟨rfl,rfl,_,_,_,_,hrest,hvi',hwi',by omega,hR⟩
     |false=>
      rw[if_neg (λq=>absurd (hiff.mpr q) P6)]at hR
      have hri:=Cp A.in1 ⟨hp,g,d,tk,os⟩ a t c u prog w
      wp_walk using hri
      exact⟨_,rfl,by simpa using hR⟩
  case fin=>
   rintro ⟨b1,b2⟩ s' ⟨hb',rfl,vs,ws,ns',ms',hz,hvi,hwi,hlen,hR⟩
   simp only at hb';subst hb'
   have hv:lexLt ns' ms'=decide (items.size<items2.size):=by
    cases hvi with
    |nil=>
     cases hwi with
     |nil=>
      simp only[RP]at hlen;rw[rh]
      exact(decide_eq_false (by omega)).symm
     |cons c u hw=>
      simp only[RP,PH]at hlen;rw[pZ]
      exact(decide_eq_true (by omega)).symm
    |cons a t hv=>
     cases hwi with
     |nil=>
      simp only[RP,PH]at hlen;rw[p0]
      exact(decide_eq_false (by omega)).symm
     |cons c u hw=>
      rw[UK]at hz;cases hz
   rw[hv]at hR
   wp_walk
   exact⟨_,rfl,by simpa [WD]using hR⟩
  case h=>
   exact⟨rfl,rfl,items.toList,items2.toList,ns,ms,rfl,hi,hj,by omega,h⟩
end
def lt_tupInts{l b:ZE}{items items2:Array Px}{ms:List Int}(hl:XY s.heap l items)(hb:XY s.heap b items2)(hi:R0 items.toList ns)(hj:R0 items2.toList ms)
  (hu:A.units<cLine) (h:Q (.bool (lexLt ns ms)) s):ZJ (ZK prog w) A (QC .Lt (.ref l) (.ref b)) Q E s:=by
 obtain⟨⟨cls,dd,data,sl⟩,ho,hc,n,hd⟩:=id hl;obtain⟨⟨cls2,dd2,data2,sl2⟩,ho2,hc2,n2,hd2⟩:=id hb;simp only at hc hd hc2 hd2;subst hc hd hc2 hd2
 exact richCompare_meets_room (op:=.Lt) ⟨_,ho,rfl⟩ ⟨_,ho2,rfl⟩ PySem.F.slot_tuple_lt PySem.F.entry_tuple_lt (PySem.F.args_tuple_lt_2 _ _) (qJ l b items items2 n n2 dd dd2 sl sl2 ns ms hi hj)
  ⟨ho,ho2,show Q7 (lexLt ns ms)≠VL/\Q (.bool (lexLt ns ms)) s from⟨(λx=>nomatch x),h⟩⟩ hu
def cat_tup{t b:ZE}{ws:List Px}(ht:XY s.heap t vs.toArray)(hb:XY s.heap b ws.toArray)(hv:vs≠ [])
  (h1:ws=[]->Q (.ref t) s) (h2:ws≠ []->Q (.ref s.heap.objs.size) {s with heap:=s.heap.push {cls:=.type "tuple",data:=.seq (vs++ws).toArray}})
  (hsz:vs.length+ws.length<=ZI):ZJ (ZK prog w) A (Rt .Add (.ref t) (.ref b)) Q E s:=by
 obtain⟨⟨cls,dd,data,sl⟩,ho,hc,n,hd⟩:=id ht;obtain⟨⟨cls2,dd2,data2,sl2⟩,ho2,hc2,n2,hd2⟩:=id hb;simp only at hc hd hc2 hd2;subst hc hd hc2 hd2
 have e:vs.toArray++ws.toArray=(vs++ws).toArray:=by simp
 by_cases hw:ws=[]
 ·exact Xc ⟨_,ho,rfl⟩ ⟨_,ho2,rfl⟩ Vg Ws Tw Th (S6 _ _)
   (tuple_addW1 t b vs.toArray ws.toArray n n2 dd dd2 sl sl2 (by simpa using hv) (by simp[hw])) ⟨ho,ho2,h1 hw⟩
 ·refine Xc ⟨_,ho,rfl⟩ ⟨_,ho2,rfl⟩ Vg Ws Tw Th (S6 _ _)
   (tuple_addW2 t b vs.toArray ws.toArray n n2 dd dd2 sl sl2 (by simpa using hv) (by simpa using hw) (by rw[PY,PY];exact hsz)) ⟨ho,ho2,?_⟩
  rw[e];exact h2 hw
def sIx(n d:Nat):Option Int->Nat
 |none=>d
 |some v=>if v<0 then(v+(n:Int)).toNat else min v.toNat n
def sIx_none(n d:Nat):sIx n d ZB=d:=rfl
def sIx_nat(n d k:Nat):sIx n d (ZA (k:Int))=min k n:=by
 show(if (k:Int)<0 then((k:Int)+(n:Int)).toNat else min (k:Int).toNat n)=min k n
 rw[if_neg (by omega),Rx]
def Jp(n d:Nat)(hd:d<=n)(o:Option Int):sIx n d o<=n:=by
 cases o with
 |none=>exact hd
 |some v=>
  show(if v<0 then(v+(n:Int)).toNat else min v.toNat n)<=n
  by_cases hv:v<0
  ·rw[if_pos hv];omega
  ·rw[if_neg hv];exact Nat.min_le_right _ _
def Ap(v:Int)(n d:Nat):(if v<0 then max (v+(n:Int)) 0 else min v (n:Int))=((sIx n d (ZA v):Nat):Int):=by
 show(if v<0 then max (v+(n:Int)) 0 else min v (n:Int))=(((if v<0 then(v+(n:Int)).toNat else min v.toNat n):Nat):Int)
 by_cases hv:v<0
 ·simp only[if_pos hv];omega
 ·simp only[if_neg hv];omega
def yV(lo hi:Option Int)(n:Nat):S1 lo hi 1 (n:Int)=(((sIx n 0 lo:Nat):Int),((sIx n n hi:Nat):Int)):=by
 have h1:¬ ((1:Int)<0):=by omega
 unfold S1;simp only[h1,if_false];refine Prod.ext ?_ ?_
 ·cases lo with
  |none=>rfl
  |some v=>exact Ap v n 0
 ·cases hi with
  |none=>rfl
  |some v=>exact Ap v n n
def x5(i j:Nat):R8 (i:Int) (j:Int) 1=j - i:=by
 unfold R8
 have h1:(1:Int) > 0:=by omega
 simp only[h1,if_true,Int.ediv_one]
 split <;> omega
def o9{o:Option Int}{Q:Option Int->Pz->Prop}(p:Wt v o)(h:Q o s):ZJ (ZK prog w) A (Xw v) Q E s:=by
 cases p with
 |none=>exact slicePart_none h
 |int i t=>exact slicePart_int h
def ij{sl:ZE}{Q:Int×Int×Nat->Pz->Prop}(hs:s.heap.IsSliceOf sl vl vu .none)(pl:Wt vl lo)(pu:Wt vu hi)
  (h:Q (((sIx n 0 lo:Nat):Int),1,sIx n n hi - sIx n 0 lo) s):ZJ (ZK prog w) A (Uy (.ref sl) (pure (n:Int))) Q E s:=by
 obtain⟨os,hos,hcs,hds⟩:=id hs;unfold Uy Builtin.Slice.sliceFields;refine PD (PD (Sd hos hds (x:=vl) rfl (PD (Sd hos hds (x:=vu) rfl (PD (Sd hos hds (x:=.none) rfl (PX ?_)))))))
 refine PD (slicePart_none ?_)
 show ZJ _ _ (if ((1:Int) == 0)=ZC then _ else _) _ _ s
 rw[if_neg (by decide)]
 refine PD (o9 pl (PD (o9 pu (PD (PX ?_)))))
 show ZJ _ _ (match S1 lo hi 1 (n:Int)with| (lo,hi)=>pure (lo,(1:Int),R8 lo hi 1)) _ _ s
 rw[yV lo hi n]
 show ZJ _ _ (pure (((sIx n 0 lo:Nat):Int),(1:Int),R8 ((sIx n 0 lo:Nat):Int) ((sIx n n hi:Nat):Int) 1)) _ _ s
 rw[x5];exact PX h
def CJ(xs:Array Px)(i k:Nat):((Q2 k).filterMap λ(m:Nat)=>xs[((i:Int)+(m:Int)*1).toNat]?).toArray=((xs.toList.drop i).take k).toArray:=by
 have e:(λ(m:Nat)=>xs[((i:Int)+(m:Int)*1).toNat]?)=λm=>xs[i+m]?:=by
  funext m
  have:((i:Int)+(m:Int)*1).toNat=i+m:=by omega
  rw[this]
 rw[e]
 have:=pick_run xs i k;rw[List.filterMap_map]at this
 have e2:((λx=>xs[x]?)∘λx=>i+x)=λm=>xs[i+m]?:=rfl
 rw[e2]at this;rw[this]
def getItem_tuple_cut{t sl:ZE}{items:Array Px}(ht:XY s.heap t items)(hs:s.heap.IsSliceOf sl vl vu .none)(pl:Wt vl lo)(pu:Wt vu hi)
  (hw:¬ (sIx items.size 0 lo=0/\sIx items.size items.size hi=items.size))
  (h:Q (.ref s.heap.objs.size) {s with heap:=s.heap.push {cls:=.type "tuple",data:=.seq ((items.toList.drop (sIx items.size 0 lo)).take (sIx items.size items.size hi - sIx items.size 0 lo)).toArray}})
  (hsz:items.size<=ZI):ZJ (ZK prog w) A (getItem (.ref t) (.ref sl)) Q E s:=by
 have htake:sizeOk (.seq ((items.toList.drop (sIx items.size 0 lo)).take (sIx items.size items.size hi - sIx items.size 0 lo)).toArray):=by
  show((items.toList.drop (sIx items.size 0 lo)).take (sIx items.size items.size hi - sIx items.size 0 lo)).toArray.size<=ZI
  rw[PY,Ri,R1,Q9];omega
 have hj:sIx items.size items.size hi<=items.size:=Jp _ _ (PP _) hi;obtain⟨os,hos,hcs,hds⟩:=id hs
 have hTs:s.TypeIs (.ref sl) "slice":=⟨os,hos,hcs⟩;unfold getItem
 try with_reducible refine Tu ?_
 first|refine PD (PX ?_)|skip
 refine PD (WR ht.typeIs (by decide) ?_)
 refine PD (RL (name:=PV "__getitem__") ht.typeIs QY
  (Sx QY ht.typeIs V5 ?_ (Wu _ _)))
 show ZJ _ _ (Uz (.ref t) >>= _) _ _ s
 refine PD (Wv ht ?_)
 refine PD (TZ hTs ?_)
 rw[if_pos (by decide)]
 refine PD (ij hs pl pu ?_)
 have hno:¬ ((((sIx items.size 0 lo:Nat):Int) == 0&&(1:Int) == 1&&(sIx items.size items.size hi - sIx items.size 0 lo) == items.size)=ZC):=by
  intro q;rw[PC,PC]at q
  have q1:((sIx items.size 0 lo:Nat):Int)=0:=eq_of_beq q.1.1
  have q2:sIx items.size items.size hi - sIx items.size 0 lo=items.size:=eq_of_beq q.2;exact hw ⟨by omega,by omega⟩
 show ZJ _ _ (if (((sIx items.size 0 lo:Nat):Int) == 0&&(1:Int) == 1&&(sIx items.size items.size hi - sIx items.size 0 lo) == items.size)=ZC then _ else _) _ _ s
 rw[if_neg hno,CJ]
 first
  |exact PD (m:=RI _) (RC (PX ⟨_,rfl,PX h⟩) htake)
  |exact PD (m:=RI _) (RC (PD (PX (PX ⟨_,rfl,PX h⟩))) htake)
  |exact PD (PD (m:=RI _) (RC (PX (PX ⟨_,rfl,PX h⟩)) htake))
  |exact PD (PD (m:=RI _) (RC (PX ⟨_,rfl,PX h⟩) htake))
end HT
variable{i:Int}
namespace L2
open PySem PySem.Spec PyProof.Rows
abbrev TO:=St->Hp->(Option Int->Hp->Prop)->Prop
def PO(X:Cx)(e:Option ZG)(t:TO):Prop:=
 ∀(kt:Uf)(s:Pz)(σ:St)(H:Hp)(Q:Option Int->Hp->Prop),Inv X kt σ H s->t σ H Q →
  ZJ (ZK X.prog X.w) X.A (evalPart e X.env) (λu s'=>∃o H',Inv X kt σ H' s'/\Wt u o/\Q o H') X.xe s
def FN:TO:=λ_ H Q=>Q ZB H
def L5(t:TE):TO:=λσ H Q=>t σ H λx H1=>∃i,x=.int i/\Q (ZA i) H1
def yG:∀{us:List Px},Vals (ns.map V.int) us->R0 us ns:=by
 induction ns with
 |nil=>intro us r;rw[TL]at r;cases r;exact .nil
 |cons n ns ih=>
  intro us r;rw[PF]at r
  cases r with
  |cons r1 r2=>
   obtain⟨t,e⟩:=r1;subst e;exact .cons n t (ih r2)
variable{X:Cx}{e:ZG}{pos:Pos}{r:V->Option Int->Option Int->Hp->VK->Prop}{xs:List V}
section
variable {te:TE}{lo hi:Option ZG}{tl th:TO}{p2:Pos}
def Gy:PO X ZB FN:=by
 intro kt s σ H Q I h;rw[evalPart_none];exact PX ⟨ZB,H,I,.none,h⟩
def Gx(h:PE X e te):PO X (ZA e) (L5 te):=by
 intro kt s σ H Q I hw;rw[evalPart_some];refine bV (h kt s σ H _ I hw) λu s1 hh_=>?_
 obtain⟨x,H1,I1,r1,q1⟩:=hh_;obtain⟨i,rfl,q⟩:=q1;obtain⟨t,rfl⟩:=r1;exact⟨ZA i,H1,I1,.int i t,q⟩
def SlR(X:Cx)(r:V->Option Int->Option Int->Hp->VK->Prop):Prop:=
 ∀(kt:Uf)(s:Pz)(σ:St)(H:Hp)(x:V)(v vl vu:Px)(lo hi:Option Int)(sl:ZE)(Q:VK),Inv X kt σ H s->RelV x v->s.heap.IsSliceOf sl vl vu .none->Wt vl lo->Wt vu hi->r x lo hi H Q →
  ∃T id,TC (.type T) "__getitem__" =pure (ZA (.builtin id))/\s.TypeIs v T/\ZJ (ZK X.prog X.w) X.A (getItem v (.ref sl)) (EP X kt σ Q) X.xe s
def SlR.or{r':V->Option Int->Option Int->Hp->VK->Prop}(h:SlR X r)(h':SlR X r'):SlR X (λx lo hi H Q=>r x lo hi H Q\/r' x lo hi H Q):=by
 intro kt s σ H x v vl vu lo hi sl Q I rx hs pl pu q;rcases q with q|q
 ·exact h kt s σ H x v vl vu lo hi sl Q I rx hs pl pu q
 ·exact h' kt s σ H x v vl vu lo hi sl Q I rx hs pl pu q
def tSl(r:V->Option Int->Option Int->Hp->VK->Prop)(te:TE)(tl th:TO):TE:=λσ H Q=>te σ H λx H1=>tl σ H1 λl H2=>th σ H2 λu H3=>r x l u H3 Q
def CL(hr:SlR X r)(he:PE X e te)(hl:PO X lo tl)(hu:PO X hi th):PE X (.Subscript e (.Slice lo hi ZB p2) pos) (tSl r te tl th):=by
 intro kt s σ H Q I h;refine Subscript_ (bV (he kt s σ H _ I h) λv s1 hh_=>?_)
 obtain⟨x,H1,I1,r1,q1⟩:=hh_;refine wpAny_Slice (bV (hl kt s1 σ H1 _ I1 q1) λvl s2 ⟨l,H2,I2,pl,q2⟩=>bV (hu kt s2 σ H2 _ I2 q2) λvu s3 hh_=>?_)
 obtain⟨u,H3,I3,pu,q3⟩:=hh_;rw[evalPart_none];refine PX ?_
 have I4:Inv X kt σ H3 {s3 with heap:=s3.heap.push {cls:=.type "slice",data:=.fields #[vl,vu,.none]}}:=I3.kept (t':=s3.toks) λb ob q=>PN _ q
 obtain⟨T,id,hT,ht,hg⟩:=hr kt {s3 with heap:=s3.heap.push {cls:=.type "slice",data:=.fields #[vl,vu,.none]}} σ H3 x v vl vu l u s3.heap.objs.size Q I4 r1 (Heap.IsSliceOf.new ..) pl pu q3
 show ZJ (ZK X.prog X.w) X.A (Ww e (.Slice lo hi ZB p2) v (.ref s3.heap.objs.size)) (EP X kt σ Q) X.xe {s3 with heap:=s3.heap.push {cls:=.type "slice",data:=.fields #[vl,vu,.none]}}
 exact tail_any (ops:=[.ref s3.heap.objs.size,v]) ht hT hg (by with_unfolding_all rfl)
def xh(xs:List V)(lo hi:Option Int):List V:=(xs.drop (HT.sIx xs.length 0 lo)).take (HT.sIx xs.length xs.length hi - HT.sIx xs.length 0 lo)
def ny(xs:List V)(lo hi:Option Int):(xh xs lo hi).length<=xs.length:=by
 unfold xh;rw[Ri,R1];omega
def rSlT(K:Pv):V->Option Int->Option Int->Hp->VK->Prop:=λx lo hi H Q=>∃a xs,x=.ref a/\SqT K H a xs ∧
 ¬(HT.sIx xs.length 0 lo=0/\HT.sIx xs.length xs.length hi=xs.length)/\∀p,H p=ZB->Q (.ref p) (upd H p (.tup (xh xs lo hi)))
def sl_tup:SlR X (rSlT X.K):=by
 intro kt s σ H x v vl vu lo hi sl Q I rx hs pl pu h;obtain⟨a,xs,rfl,hx,hw,q⟩:=h;cases rx;obtain⟨its,r,ht,hz⟩:=I.tuple hx
 have hlen:its.toArray.size=xs.length:=by rw[PY];exact r.length.symm
 refine⟨"tuple",_,QY.lookup,ht.typeIs,?_⟩
 refine HT.getItem_tuple_cut ht hs pl pu (by rw[hlen];exact hw) ?_ (by rw[hlen];exact hz)
 rw[hlen];refine⟨.ref s.heap.objs.size,_,I.laid (t':=s.toks) (o:=.tup (xh xs lo hi)) (λb ob q=>PN _ q) (PP _) ?_,rfl,q _ (I.hok.fresh (PP _))⟩
 exact⟨Qn (ny xs lo hi) hz,_,(r.drop (HT.sIx xs.length 0 lo)).take (HT.sIx xs.length xs.length hi - HT.sIx xs.length 0 lo),XE _ _⟩
def Mx(K:Pv):R2:=λx y H Q=>∃a b xs ys,x=.ref a/\y=.ref b/\SqT K H a xs/\SqT K H b ys/\xs≠ []/\xs.length+ys.length<=ZI ∧
 (ys=[]->Q (.ref a) H)/\(ys≠ []->∀p,H p=ZB->Q (.ref p) (upd H p (.tup (xs++ys))))
def Vals.Da(r:Vals xs us):us=[] ↔xs=[]:=by
 cases r with
 |nil=>simp
 |cons _ _=>simp
def GN:oP X (Rt .Add) (Mx X.K):=by
 intro kt s σ H x y v u Q I rx ry h;obtain⟨a,b,xs,ys,rfl,rfl,ha,hb,hx,hz,q1,q2⟩:=h;cases rx;cases ry;obtain⟨its,r1,p1,_⟩:=I.tuple ha;obtain⟨its2,r2,p2,_⟩:=I.tuple hb;refine HT.cat_tup p1 p2 (λz=>hx (r1.Da.mp z)) (λz=>⟨.ref a,H,I,rfl,q1 (r2.Da.mp z)⟩) (λz=>?_) (by rw[<-r1.length,<-r2.length];exact hz)
 refine⟨.ref s.heap.objs.size,_,I.laid (t':=s.toks) (o:=.tup (xs++ys)) (λb ob q=>PN _ q) (PP _) ?_,rfl,q2 (λw=>z (r2.Da.mpr w)) _ (I.hok.fresh (PP _))⟩
 exact⟨by rw[PK];exact hz,_,r1.append r2,XE _ _⟩
end
def ixN(n:Nat)(i:Int):Option Nat:=if 0<=i then(if i<n then ZA i.toNat else ZB)else if -(n:Int)<=i then ZA (i+n).toNat else ZB
def atI{α:Type}(xs:List α)(i:Int):Option α:=(ixN xs.length i).bind λj=>xs[j]?
def Hh(h:ixN n i=ZA j):seqIndex? i n=ZA j/\j<n/\-(n:Int)<=i/\i<n:=by
 unfold ixN at h
 by_cases h0:0<=i
 ·rw[if_pos h0]at h
  by_cases h1:i<n
  ·rw[if_pos h1]at h
   have e:i.toNat=j:=Qu h;exact⟨by rw[seqIndex_of h0 h1,e],by omega,by omega,h1⟩
  ·rw[if_neg h1]at h;cases h
 ·rw[if_neg h0]at h
  by_cases h1 : -(n:Int)<=i
  ·rw[if_pos h1]at h
   have e:(i+n).toNat=j:=Qu h;exact⟨by rw[seqIndex_neg (by omega) h1,e],by omega,h1,by omega⟩
  ·rw[if_neg h1]at h;cases h
def uX{xs:List α}{v:α}(h:atI xs i=ZA v):∃j,seqIndex? i xs.length=ZA j/\xs[j]?=ZA v/\j<xs.length/\-(xs.length:Int)<=i/\i<xs.length:=by
 unfold atI at h
 cases e:ixN xs.length i with
 |none=>rw[e]at h;cases h
 |some j=>
  rw[e]at h;obtain⟨h1,h2,h3,h4⟩:=Hh e;exact⟨j,h1,h,h2,h3,h4⟩
def Ay(b:ZG):Prop:=∀o i,V6 b ZD o i=operate [o,i] (getItem o i)
def IxR(X:Cx)(r:R2):Prop:=
 ∀(value slice:ZG)(kt:Uf)(s:Pz)(σ:St)(H:Hp)(x y:V)(v u:Px)(Q:VK),Inv X kt σ H s->RelV x v->RelV y u->r x y H Q →
  V6 slice ZD v u=operate [v,u] (getItem v u)->ZJ (ZK X.prog X.w) X.A (Ww value slice v u) (EP X kt σ Q) X.xe s
def MtR(X:Cx)(id:String)(r:V->List V->Hp->VK->Prop):Prop:=
 ∀(kt:Uf)(s:Pz)(σ:St)(H:Hp)(x:V)(xs:List V)(v:Px)(us:List Px)(Q:VK),Inv X kt σ H s->RelV x v->Vals xs us->r x xs H Q →
  ZJ (ZK X.prog X.w) X.A (call (.builtin id) (v::us)) (EP X kt σ Q) X.xe s
variable{H:Hp}{kt:Uf}{σ:St}
section
variable {a b:ZG}{ta tb:TE}
def IxR.or{r r':R2}(h:IxR X r)(h':IxR X r'):IxR X (λx y H Q=>r x y H Q\/r' x y H Q):=by
 intro value slice kt s σ H x y v u Q I rx ry q hs;rcases q with q|q
 ·exact h value slice kt s σ H x y v u Q I rx ry q hs
 ·exact h' value slice kt s σ H x y v u Q I rx ry q hs
def Mw(K:Pv):R2:=λx y H Q=>∃p xs i v,x=.ref p/\y=.int i/\SqL K H p xs/\atI xs i=ZA v/\Q v H
def Mu(K:Pv):R2:=λx y H Q=>∃p xs i v,x=.ref p/\y=.int i/\SqT K H p xs/\atI xs i=ZA v/\Q v H
def Mv:R2:=λx y H Q=>∃z i c,x=.str z/\y=.int i/\z.length<=ZI/\atI z.cps.toList i=ZA c/\Q (.str ⟨#[c]⟩) H
def ix_list:IxR X (Mw X.K):=by
 intro value slice kt s σ H x y v u Q I rx ry h hs;obtain⟨p,xs,i,z,rfl,rfl,hq,he,q⟩:=h;cases rx;obtain⟨t,rfl⟩:=ry;obtain⟨its,r,pl,hz⟩:=I.list hq;obtain⟨j,h1,h2,h3,h4,h5⟩:=uX he;obtain⟨w,ew,rw'⟩:=r.get h2
 have hl:=r.length
 have hn:=pX
 have fin:EP X kt σ Q w s:=⟨z,H,I,rw',q⟩
 by_cases h0:0<=i
 ·have hj:i.toNat=j:=by
   rw[seqIndex_of h0 h5]at h1;exact Qu h1
  exact item_listR pl.isList h0 (by omega) (by rw[hj];simpa using ew) fin hs
 ·have hj:(i+(its.toArray.size:Int)).toNat=j:=by
   rw[seqIndex_neg (by omega) h4]at h1
   rw[PY,<-hl];exact Qu h1
  exact Vj (x:=w) pl.isList.typeIs slot_list_getitem.lookup
   (wpAny_getItem_list_neg (Q:=λr s'=>r=w/\EP X kt σ Q r s') pl.isList (by omega) (by rw[PY] <;> omega) (by omega) (by rw[hj];simpa using ew) ⟨rfl,fin⟩) hs
def ix_tup:IxR X (Mu X.K):=by
 intro value slice kt s σ H x y v u Q I rx ry h hs;obtain⟨p,xs,i,z,rfl,rfl,hq,he,q⟩:=h;cases rx;obtain⟨t,rfl⟩:=ry;obtain⟨its,r,pl,hz⟩:=I.tuple hq;obtain⟨j,h1,h2,h3,h4,h5⟩:=uX he;obtain⟨w,ew,rw'⟩:=r.get h2
 have hl:=r.length
 have hn:=pX
 have fin:EP X kt σ Q w s:=⟨z,H,I,rw',q⟩
 exact Vj (x:=w) pl.typeIs slot_tuple_getitem.lookup
  (getItem_tuple (j:=j) (Q:=λr s'=>r=w/\EP X kt σ Q r s') pl (by omega) (by omega) (by rw[PY,<-hl];exact h1) (by simpa using ew) ⟨rfl,fin⟩) hs
def K5:IxR X Mv:=by
 intro value slice kt s σ H x y v u Q I rx ry h hs;obtain⟨z,i,c,rfl,rfl,hz,he,q⟩:=h;obtain⟨t,rfl⟩:=rx;obtain⟨t',rfl⟩:=ry;obtain⟨j,h1,h2,h3,h4,h5⟩:=uX he
 have hl:z.cps.toList.length=z.length:=by simp[Str.length]
 rw[hl]at h1 h4 h5
 have hn:=pX
 exact tail_any (typeIs_str s z t) slot_str_getitem.lookup (getItem_str (c:=c) (by
  have e1:decide (i< -(2 ^ 63:Int))=ZD:=decide_eq_false (by omega)
  have e2:decide (i ≥ 2 ^ 63)=ZD:=decide_eq_false (by omega)
  rw[e1,e2,Wc]) (by rw[h1];simpa using h2) ⟨.str ⟨#[c]⟩,H,I.tok _,⟨_,rfl⟩,q⟩) hs
def rIx(K:Pv):R2:=λx y H Q=>Mw K x y H Q\/Mu K x y H Q\/Mv x y H Q
def K6:IxR X (rIx X.K):=ix_list.or (ix_tup.or K5)
def tM(lo hi:Option Int)(n:Nat):(TF lo hi ZB n).1=((HT.sIx n 0 lo:Nat):Int)/\(TF lo hi ZB n).2.1=((HT.sIx n n hi:Nat):Int)/\(TF lo hi ZB n).2.2=1:=by
 refine⟨?_,?_,rfl⟩
 ·cases lo with
  |none=>simp[TF,HT.sIx]
  |some i=>
   simp only[TF,HT.sIx,Xh,show(1:Int) > 0 by decide,if_true]
   by_cases h:i<0
   ·simp only[h,if_true] <;> omega
   ·simp only[h,if_false] <;> omega
 ·cases hi with
  |none=>simp[TF,HT.sIx]
  |some i=>
   simp only[TF,HT.sIx,Xh,show(1:Int) > 0 by decide,if_true]
   by_cases h:i<0
   ·simp only[h,if_true] <;> omega
   ·simp only[h,if_false] <;> omega
def qQ(its:List Px)(lo hi:Option Int):slicePick its.toArray lo hi ZB=((its.drop (HT.sIx its.length 0 lo)).take (HT.sIx its.length its.length hi - HT.sIx its.length 0 lo)).toArray:=by
 obtain⟨h1,h2,h3⟩:=tM lo hi its.toArray.size;unfold slicePick;rw[h1,h2,h3];simp only[sliceRange_one,pick_run,PY] <;> rfl
def rSlL(K:Pv):V->Option Int->Option Int->Hp->VK->Prop:=λx lo hi H Q=>∃a xs,x=.ref a/\SqL K H a xs/\∀p,H p=ZB->Q (.ref p) (upd H p (.lst (xh xs lo hi)))
def FV:SlR X (rSlL X.K):=by
 intro kt s σ H x v vl vu lo hi sl Q I rx hs pl pu h;obtain⟨a,xs,rfl,hx,q⟩:=h;cases rx;obtain⟨its,r,ht,hz⟩:=I.list hx
 have hlen:=r.length;refine⟨"list",_,slot_list_getitem.lookup,ht.isList.typeIs,?_⟩
 refine wpAny_getItem_list_slice ht.isList hs pl pu .none (by simp) ?_ (by rw[PY] <;> omega)
 rw[qQ,<-hlen];refine⟨.ref s.heap.objs.size,_,I.laid (t':=s.toks) (o:=.lst (xh xs lo hi)) (λb ob q=>PN _ q) (PP _) ?_,rfl,q _ (I.hok.fresh (PP _))⟩
 exact⟨Qn (ny xs lo hi) hz,_,0,(r.drop (HT.sIx xs.length 0 lo)).take (HT.sIx xs.length xs.length hi - HT.sIx xs.length 0 lo),Qc _ rfl⟩
def call_len_seq:CallR X (.builtin "len") (λxs H Q=>∃p ys,xs=[.ref p]/\(SqL X.K H p ys\/SqT X.K H p ys)/\Q (.int ys.length) H):=by
 intro kt s σ H xs us Q I r h;obtain⟨p,ys,rfl,hq,q⟩:=h;obtain⟨u,rfl,rx⟩:=jm r;cases rx
 have hn:=pX;rcases hq with hq|hq
 ·obtain⟨its,r',pl,hz⟩:=I.list hq
  have hlen:=r'.length;exact Calls.call_len_list pl.isList (by simp only[PY] <;> omega) ⟨.int ys.length,H,I.tok _,⟨s.toks+1,by rw[PY,hlen]⟩,q⟩
 ·obtain⟨its,r',pl,hz⟩:=I.tuple hq
  have hlen:=r'.length;exact len_tuple pl (by simp only[PY] <;> omega) ⟨.int ys.length,H,I.tok _,⟨s.toks+1,by rw[PY,hlen]⟩,q⟩
def uU:CallR X (.builtin "len") (λxs H Q=>∃z,xs=[.str z]/\z.length<=ZI/\Q (.int z.length) H):=by
 intro kt s σ H xs us Q I r h;obtain⟨z,rfl,hz,q⟩:=h;obtain⟨u,rfl,t,rfl⟩:=jm r
 have hn:=pX;exact len_str (by omega) ⟨.int z.length,H,I.tok _,⟨_,rfl⟩,q⟩
def CallR.or{r r':List V->Hp->VK->Prop}(h:CallR X f r)(h':CallR X f r'):CallR X f (λxs H Q=>r xs H Q\/r' xs H Q):=by
 intro kt s σ H xs us Q I rs q;rcases q with q|q
 ·exact h kt s σ H xs us Q I rs q
 ·exact h' kt s σ H xs us Q I rs q
def rk:CallR X (.type "tuple") (λxs H Q=>∃p ys,xs=[.ref p]/\((SqL X.K H p ys/\∀l,H l=ZB->Q (.ref l) (upd H l (.tup ys)))\/(SqT X.K H p ys/\Q (.ref p) H))):=by
 intro kt s σ H xs us Q I r h;obtain⟨p,ys,rfl,h⟩:=h;obtain⟨u,rfl,rx⟩:=jm r;cases rx;rcases h with⟨hq,q⟩|⟨hq,q⟩
 ·obtain⟨its,r',pl,hz⟩:=I.list hq
  have hlen:=r'.length;refine call_tuple_list pl.isList (λh' kp=>?_) (by simp only[PY] <;> omega)
  have I1:Inv X kt σ H {s with heap:=h'}:=I.kept (t':=s.toks) kp
  have I2:Inv X kt σ (upd H h'.objs.size (.tup ys)) {s with heap:=h'.push {cls:=.type "tuple",data:=.seq its.toArray}}:=
   I1.laid (t':=s.toks) (λb o e=>PN _ e) (PP _) (show ObjOk X.prog X.w _ _ _ (.tup ys)from⟨hz,its,r',XE _ _⟩)
  exact⟨.ref h'.objs.size,_,I2,rfl,q _ (I1.hok.fresh (PP _))⟩
 ·obtain⟨its,r',pl,hz⟩:=I.tuple hq
  exact call_tuple_same pl ⟨.ref p,H,I,rfl,q⟩
def tyV(K:Pv)(T:String)(x:V)(H:Hp):Prop:=match x with
 |.str _=>T= "str"
 |.int _=>T= "int"
 |.ref p=>(T= "list"/\∃xs,SqL K H p xs)\/(T= "tuple"/\∃o,K.lookup p=ZA o/\o.cls=.type "tuple"/\o.dict=ZB) ∨
   (T= "dict"/\((∃kvs,H p=ZA (.dK kvs))\/∃kvs,H p=ZA (.dT kvs)))\/(T= "set"/\∃S n,H p=ZA (.set S n))
 |_=>False
def tD{T:String}{x:V}(I:Inv X kt σ H s)(r:RelV x v)(ty:tyV X.K T x H):
  s.TypeIs v T/\∀a,v=.ref a->∃ob,s.heap.get? a=ZA ob/\ob.dict=ZB:=by
 cases x with
 |str z=>
  obtain⟨t,rfl⟩:=r;cases (show T= "str" from ty)
  exact⟨typeIs_str s z t,λ_ e=>nomatch e⟩
 |int i=>
  obtain⟨t,rfl⟩:=r;cases (show T= "int" from ty)
  exact⟨VI s i t,λ_ e=>nomatch e⟩
 |ref p=>
  cases r;rcases ty with⟨rfl,xs,hq⟩|⟨rfl,o,hk,hc,hd⟩|⟨rfl,hk⟩|⟨rfl,S,n,hk⟩
  ·obtain⟨its,_,pl,_⟩:=I.list hq
   refine⟨pl.isList.typeIs,λa e=>?_⟩
   cases e;obtain⟨o,n,e,c,hd,_⟩:=pl;exact⟨o,e,hd⟩
  ·refine⟨⟨o,I.kIn p o hk,hc⟩,λa e=>?_⟩
   cases e;exact⟨o,I.kIn _ o hk,hd⟩
  ·have z:∃o,s.heap.get? p=ZA o/\o.ExactDict:=by
    rcases hk with⟨kvs,hk⟩|⟨kvs,hk⟩
    ·obtain⟨_,_,_,_,o,_,_,e,ex,_⟩:=I.hok p _ hk
     exact⟨o,e,ex⟩
    ·obtain⟨_,_,_,_,o,_,_,e,ex,_⟩:=I.hok p _ hk
     exact⟨o,e,ex⟩
   obtain⟨o,e,ex⟩:=z;refine⟨⟨o,e,ex.1⟩,λa e2=>?_⟩
   cases e2;exact⟨o,e,ex.2.1⟩
  ·obtain⟨o,_,_,_,e,ex,_⟩:=I.hok p _ hk
   refine⟨⟨o,e,ex.1⟩,λa e2=>?_⟩
   cases e2
   exact⟨o,e,ex.2.1⟩
 |_=>exact Rf ty
def tBM0(K:Pv)(T:String)(r:V->List V->Hp->VK->Prop)(to:TE):TE:=λσ H Q=>to σ H λx H1=>tyV K T x H1/\r x [] H1 Q
def tBM(K:Pv)(T:String)(r:V->List V->Hp->VK->Prop)(to:TE)(t:TA):TE:=λσ H Q=>to σ H λx H1=>tyV K T x H1/\t σ H1 λxs H2=>r x xs H2 Q
variable {o:ZG}{es:List ZG}{to:TE}{t:TA}{name:Str}{apos cpos:Pos}{T id:String}{r:V->List V->Hp->VK->Prop}
def J7(pa:PlainAttrs T)(slot:Slot T name id)(hty:typeOf (.builtin id)=pure (.type "method_descriptor"))(hm:MtR X id r)(ho:PE X o to)
  (hbase:autoParam (Qj o name X.env (eval o X.env)=eval o X.env) u_) (hline:autoParam ((apos.endLine == cpos.line)=ZC) u_):PE X (.Call (.Attribute o name apos) [] [] cpos) (tBM0 X.K T r to):=by
 intro kt s σ H Q I h;refine wpAny_Call_method0_late hbase hline (bV (ho kt s σ H _ I h) λv s1 hh_=>?_)
 obtain⟨x,H1,I1,r1,ty,q1⟩:=hh_;obtain⟨h1,h2⟩:=tD I1 r1 ty;exact⟨T,id,pa,slot,hty,h1,h2,RX rfl (PySem.evalArgs_none (hm kt s1 σ H1 x [] v [] Q I1 r1 .nil q1))⟩
def zF(pa:PlainAttrs T)(slot:Slot T name id)(hty:typeOf (.builtin id)=pure (.type "method_descriptor"))(hm:MtR X id r)(ho:PE X o to)(ha:PA X (e::es) t)
  (hbase:autoParam (Qj o name X.env (eval o X.env)=eval o X.env) u_)
  (hfew:((backTo cpos (PR (e::es) X.env)).all (λx=>!x.1)&&(TJ cpos (Se [] X.env)).all (λx=>x.1.isSome)
   &&decide ((e::es).length+([]:List XR).length+(if ([]:List XR).isEmpty then 0 else 1)<30))=ZC:=by rfl)
  (hline:autoParam ((apos.endLine == cpos.line)=ZC) u_) (hs:autoParam (PR (e::es) X.env=(ZD,eval e X.env)::PR es X.env) u_) (hplain:autoParam ((backTo cpos (PR es X.env)).any (·.1)=ZD) u_):
  PE X (.Call (.Attribute o name apos) (e::es) [] cpos) (tBM X.K T r to t):=by
 intro kt s σ H Q I h;refine Tz hbase hfew hline rfl (bV (ho kt s σ H _ I h) λv s1 hh_=>?_)
 obtain⟨x,H1,I1,r1,ty,q1⟩:=hh_;obtain⟨h1,h2⟩:=tD I1 r1 ty;refine⟨T,id,pa,slot,hty,h1,h2,?_⟩
 have hA:=ha cpos kt s1 σ H1 _ I1 q1;rw[hs]at hA ⊢;refine RX (by show(ZD||(backTo cpos (PR es X.env)).any (·.1))=ZD;rw[hplain] <;> rfl) (Sg ?_)
 exact bV hA λus s2 ⟨vs,H2,I2,r2,q2⟩=>hm kt s2 σ H2 x vs v us Q I2 r1 r2 q2
end
def MtM(X:Cx)(id:String)(r:V->List V->Hp->VK->Prop):Prop:=
 ∀(kt:Uf)(s:Pz)(σ:St)(H:Hp)(x:V)(xs:List V)(v:Px)(us:List Px)(Q:VK),Inv X kt σ H s->RelV x v->Vals xs us->r x xs H Q →
  ZJ (ZK X.prog X.w) X.A (call (.builtin id) (v::us)) (EP X kt σ Q) X.xe s
theorem Vals.one:∀{x:V}{us:List Px},Vals [x] us->∃u,us=[u]/\RelV x u
 |_,_,.cons r .nil=>⟨_,rfl,r⟩
theorem Vals.zero:∀{us:List Px},Vals [] us->us=[]
 |_,.nil=>rfl
def Vals.dropLast(h:Vals xs us):Vals xs.dropLast us.dropLast:=by
 induction h with
 |nil=>exact .nil
 |cons r t ih=>
  cases t with
  |nil=>exact .nil
  |cons q t'=>exact .cons r ih
theorem Vals.rep(h:Vals xs us):∀k:Nat,Vals (Qe k xs).flatten (Qe k us).flatten
 |0=>.nil
 |k+1=>by
  rw[Ry,Ry,Sk,Sk];exact Vals.append h (Vals.rep h k)
def yN(l:List α):l.eraseIdx (l.length - 1)=l.dropLast:=by
 induction l with
 |nil=>rfl
 |cons a r ih=>
  cases r with
  |nil=>rfl
  |cons b r=>
   have e:(a::b::r).length - 1=((b::r).length - 1)+1:=by
    have h1:(a::b::r).length=r.length+2:=rfl
    have h2:(b::r).length=r.length+1:=rfl;omega
   rw[e,List.eraseIdx_cons_succ,ih]
   all_goals rfl
theorem foldl_rep(its:List Px):∀(k:Nat)(acc:List Px),
  UT (λx1 x2=>x1++x2) acc.toArray (Qe k its.toArray)=(acc++(Qe k its).flatten).toArray
 |0,acc=>by simp
 |k+1,acc=>by
  have e:acc.toArray++its.toArray=(acc++its).toArray:=by simp
  have e2:(acc++its)++(Qe k its).flatten=acc++(Qe (k+1) its).flatten:=by
   rw[Ry,Sk,Qy]
  rw[<-e2,<-foldl_rep its k (acc++its),<-e,Ry,XF]
section
variable {l b:ZE}{ys zs:List V}
def Inv.O7{its':List Px}{f:Array Px->Array Px}(I:Inv X kt σ H s)(hH:H l=ZA (.lst xs))
  (e:s.heap.get? l=ZA {cls:=.type "list",data:=.seq its.toArray n}) (hf:f its.toArray=its'.toArray) (hv:Vals ys its') (hz:ys.length<=ZI):
  Inv X kt σ (upd H l (.lst ys)) {s with heap:=s.heap.update l (Uk f),toks:=t'}:=by
 have q:=PySem.IsL.update e f;rw[hf]at q;refine I.write (x:=l) (e:=l) (by rw[hH];exact trivial) (.inl rfl) (λb' u hb hu=>(SB s.heap (Uk f) (Sv hb)).trans hu) ⟨_,q⟩ ?_
 exact⟨hz,its',_,hv,q⟩
def Inv.OY(I:Inv X kt σ H s)(hv:Vals ys its)(hz:ys.length<=ZI):
  Inv X kt σ (upd H s.heap.objs.size (.lst ys)) {s with heap:=s.heap.push {cls:=.type "list",data:=.seq its.toArray},toks:=t'}:=
 I.laid (λ_ _ q=>PN _ q) (PP _) ⟨hz,its,0,hv,Qc _ rfl⟩
theorem Inv.fresh(I:Inv X kt σ H s):H s.heap.objs.size=ZB:=I.hok.fresh (PP _)
def Inv.Ox(I:Inv X kt σ H s)(hH:H l=ZA (.lst xs)):xs.length<=ZI/\∃(its:List Px)(n:Nat),Vals xs its/\xs.length=its.length/\s.heap.get? l=ZA {cls:=.type "list",data:=.seq its.toArray n}:=by
 obtain⟨z,its,n,r,e⟩:=I.hok l _ hH;exact⟨z,its,n,r,r.length,e⟩
def vY(h:n<=ZI):Sh n=ZD:=by
 unfold Sh;exact decide_eq_false (by omega)
end
def F3:V->List V->Hp->VK->Prop:=λx vs H Q=>∃l xs y,x=.ref l/\vs=[y]/\H l=ZA (.lst xs)/\xs.length<ZI/\Q .non (upd H l (.lst (xs++[y])))
def j8:MtM X "list.append" F3:=by
 intro kt s σ H x vs v us Q I rx rv h;obtain⟨l,xs,y,rfl,rfl,hH,hz,q⟩:=h;cases rx;obtain⟨u,rfl,ru⟩:=rv.one;obtain⟨z,its,n,r,hl,e⟩:=I.Ox hH;refine Tf F.slot_list_append ⟨_,e,rfl⟩ F.entry_list_append (F.args_list_append_2 _ _) (PySem.list_append l its.toArray n u (by rw[PY];omega)) ⟨e,?_⟩
 refine⟨.non,_,I.O7 (its':=its++[u]) hH e (by simp) (r.append (.cons ru .nil)) ?_,rfl,q⟩
 rw[PK,QN];omega
def F2:V->List V->Hp->VK->Prop:=λx vs H Q=>∃l b xs zs,x=.ref l/\vs=[.ref b]/\H l=ZA (.lst xs)/\H b=ZA (.lst zs)/\xs.length+zs.length<=ZI/\Q .non (upd H l (.lst (xs++zs)))
def Bc:MtM X "list.extend" F2:=by
 intro kt s σ H x vs v us Q I rx rv h;obtain⟨l,b,xs,zs,rfl,rfl,hH,hB,hz,q⟩:=h;cases rx;obtain⟨u,rfl,ru⟩:=rv.one;cases ru;obtain⟨z,its,n,r,hl,e⟩:=I.Ox hH;obtain⟨z2,its2,n2,r2,hl2,e2⟩:=I.Ox hB
 have hsz:its.toArray.size+its2.toArray.size<=ZI:=by rw[PY,PY];omega
 have hlong:¬ (!its.toArray.isEmpty&&Sh (its.toArray.size+its2.toArray.size))=ZC:=by
  rw[vY hsz,Sy];exact P6
 refine Tf F.slot_list_extend ⟨_,e,rfl⟩ F.entry_list_extend (F.args_list_extend_2 _ _)
  (AutoSeq1.list_extend_list_list_0 l its.toArray n b its2.toArray n2 hlong (by rw[PY];omega) (by omega)) ⟨e,e2,?_⟩
 refine⟨.non,_,I.O7 (its':=its++its2) hH e (by simp) (r.append r2) ?_,rfl,q⟩
 rw[PK];omega
def rPop:V->List V->Hp->VK->Prop:=λx vs H Q=>∃l xs y,x=.ref l/\vs=[]/\H l=ZA (.lst xs)/\xs[xs.length - 1]?=ZA y/\Q y (upd H l (.lst xs.dropLast))
def Kx:MtM X "list.pop" rPop:=by
 intro kt s σ H x vs v us Q I rx rv h;obtain⟨l,xs,y,rfl,rfl,hH,hy,q⟩:=h;cases rx
 have hus:=rv.zero;subst hus;obtain⟨z,its,n,r,hl,e⟩:=I.Ox hH;obtain⟨u,hu,ru⟩:=r.get hy
 have hy':its.toArray[its.toArray.size - 1]?=ZA u:=by
  show its.toArray[its.length - 1]?=ZA u
  rw[<-Array.getElem?_toList,<-hl]
  exact hu
 refine Tf F.slot_list_pop ⟨_,e,rfl⟩ F.entry_list_pop (F.args_list_pop_1 _) (MeetsSeq.list_pop_last l its.toArray n u hy' (by rw[PY];omega)) ⟨e,?_⟩
 refine⟨y,_,I.O7 (its':=its.dropLast) hH e ?_ r.dropLast ?_,ru,q⟩
 ·show its.toArray.eraseIdxIfInBounds (its.toArray.size - 1)=its.dropLast.toArray
  rw[PY,List.eraseIdxIfInBounds_toArray,yN]
 ·rw[List.length_dropLast]
  omega
def rCat:R2:=λx y H Q=>∃l b xs zs,x=.ref l/\y=.ref b/\H l=ZA (.lst xs)/\H b=ZA (.lst zs)/\xs.length+zs.length<=ZI/\∀p,H p=ZB->Q (.ref p) (upd H p (.lst (xs++zs)))
def Kh:oP X (Rt .Add) rCat:=by
 intro kt s σ H x y v u Q I rx ry h;obtain⟨l,b,xs,zs,rfl,rfl,hH,hB,hz,q⟩:=h;cases rx;cases ry;obtain⟨z,its,n,r,hl,e⟩:=I.Ox hH;obtain⟨z2,its2,n2,r2,hl2,e2⟩:=I.Ox hB;refine Xg e e2 ?_ (by rw[PY,PY];omega)
 have ea:its.toArray++its2.toArray=(its++its2).toArray:=by simp
 rw[ea];exact⟨.ref _,_,I.OY (t':=s.toks) (r.append r2) (by rw[PK];omega),rfl,q _ I.fresh⟩
def rRep:R2:=λx y H Q=>∃l k xs,x=.ref l/\y=.int k/\H l=ZA (.lst xs)/\-(2 ^ 63)<=k/\k<2 ^ 63/\xs.length*k.toNat<=ZI ∧
 ∀p,H p=ZB->Q (.ref p) (upd H p (.lst (Qe k.toNat xs).flatten))
def len_rep(xs:List α)(k:Nat):(Qe k xs).flatten.length=k*xs.length:=by
 induction k with
 |zero=>simp
 |succ k ih=>rw[Ry,Sk,PK,ih,Nat.succ_mul,W0]
def Kd:oP X (Rt .Mult) rRep:=by
 intro kt s σ H x y v u Q I rx ry h;obtain⟨l,k,xs,rfl,rfl,hH,h1,h2,hz,q⟩:=h;cases rx;obtain⟨t,rfl⟩:=ry;obtain⟨z,its,n,r,hl,e⟩:=I.Ox hH
 have hlen:its.toArray.size*k.toNat<=ZI:=by rw[PY,<-hl];exact hz
 have hcap:¬ its.toArray.size*k.toNat > (2 ^ 63 - 1) / 8:=by
  have:(ZI:Nat)<=(2 ^ 63 - 1) / 8:=by decide
  omega
 have hfit:¬ (!Builtin.List.listFitsIndex k)=ZC:=by
  rw[fitsIndex_both h1 h2];exact P6
 have hlong:¬ Sh (its.toArray.size*k.toNat)=ZC:=by
  rw[vY hlen];exact P6
 have hnew:UT (λx1 x2=>x1++x2) #[] (Qe (if its.toArray.isEmpty=ZC then 0 else k.toNat) its.toArray)=(Qe k.toNat its).flatten.toArray:=by
  have f0:∀m:Nat,UT (λx1 x2=>x1++x2) #[] (Qe m its.toArray)=(Qe m its).flatten.toArray:=λm=>by
   have:=foldl_rep its m [];rw[Sm]at this;exact this
  rw[f0]
  cases its with
  |nil=>simp
  |cons a r'=>rw[if_neg (by simp)]
 refine UO (T:="list") (U:="int") (by decide) ⟨_,e,rfl⟩ (λs'=>VI s' k t) noFill_list_mul XG Us repeat_list Xi.lookup
  (Tf Us (VI s k t) Xj (WE _ _) (int___rmul___int_list k t l its.toArray n)
   ⟨e,rfl,⟨_,e,rfl⟩,Tf F.slot_list_mul ⟨_,e,rfl⟩ F.entry_list_mul (F.args_list_mul_2 _ _) (Wd l its.toArray n k t hfit hcap hlong) ⟨e,?_⟩⟩)
 rw[hnew];exact⟨.ref _,_,I.OY (t':=s.toks) (r.rep k.toNat) (by rw[len_rep,W1];exact hz),rfl,q _ I.fresh⟩
end L2
namespace Att
open PySem PySem.W PySem.Calls PyProof.Rows
variable{P:Params}{h:ZH}
def nZ:∀(ns:List Int)(vs:List Px),WellAll P h vs (ns.map WData.int)->R0 vs ns:=by
 intro ns
 induction ns with
 |nil=>
  intro vs w;rw[TL]at w;cases w
  exact .nil
 |cons n ns ih=>
  intro vs w;rw[PF]at w
  cases w with
  |cons a b=>
   cases a;exact .cons _ _ (ih _ b)
variable{l:OpenLaw}
def AS(hn:l.most=ZA n){args:List WData}{vals:List Px}
  (hpre:l.row.toRowW.claim.pre args=ZC) (hwl:WellAll P h vals args):
  ∃a vs ns,vals=[P7 a]/\args=[WData.list (ns.map WData.int)]/\h.get? a=ZA {cls:=.type "list",data:=.seq vs.toArray}/\R0 vs ns/\ns.length<=n:=by
 have hsh:WShape.hasAll [] args [.list .int]=ZC:=(pre_splitW hpre).1
 have hc:l.pre.holds [] {args:=args}=ZC:=(pre_splitW hpre).2;obtain⟨d,r,rfl,h1,h2⟩:=hasAllW_cons hsh;obtain rfl:=hasAllW_nil h2;obtain⟨xs,rfl,h3⟩:=hasW_list h1;obtain⟨ns,rfl⟩:=items_int h3
 have hlen:ns.length<=n:=by
  unfold OpenLaw.pre at hc
  have h4:(WTm.not (.lt (.lit (.int (n:Int))) (.len (.arg 0)))).holds [] {args:=[.list (ns.map .int)]}=ZC:=by
   have h4:=(holds_andW hc).1;rw[hn]at h4;exact h4
  have h5:=condW_of h4 (w_not (w_lt w_lit (w_len_list (w_arg rfl))));rw[Py]at h5;refine Xk λq=>?_
  have q':(n:Int)<((ns.length:Nat):Int):=by omega
  first
   | (rw[decide_eq_true q']at h5;exact absurd h5 (by decide))
   | (simp at h5;omega)
 cases hwl with
 |cons w1 w2=>
  cases w2
  cases w1 with
  |list ho hall=>exact⟨_,_,ns,rfl,rfl,ho,nZ ns _ hall,hlen⟩
def AY(l:OpenLaw)(args:List WData):l.row.toRowW.claim.post args (.bool ZC) args=ZC:=
 postW_of (r:=l.row.toRowW) (X:=(ZC == ZC))
  (show WShape.has [] (.bool ZC) .bool=ZC by first|rfl|decide|simp[WShape.has,WShape.arms,WShape.armsAll])
  (show(WTm.eq .res (.lit (.bool ZC))).value [] {args:=args,res:=ZA (.bool ZC),after:=args}=ZA (.bool (ZC == ZC))from w_eq_bool (w_res rfl) w_lit) rfl
def attach_call{loose:List Str}{XP:(WF)->ZH->Prop}{YP:QP->ZH->Prop}{d:DefRec}
  (hn:l.most=ZA n) (hdf:d.params.defaults=[])
  (call:∀(w:QP)(s₀ s₁:Pz)(mg mb:WF)(fa:ZE)(o:Obj)(pm cd doc:Px)(a:ZE)(vs:List Px)(ns:List Int),
   Ground q loose [] XP w s₀ mg mb s₁.heap->YP w s₁.heap →
   s₁.heap.get? fa=ZA o->o.data=.func (docDef d.name d.params d.body d.scope pm cd doc)->s₁.heap.CodeRec cd d.name->mg d.name=ZA (.ref fa) →
   s₁.heap.get? a=ZA {cls:=.type "list",data:=.seq vs.toArray}->R0 vs ns->ns.length<=n->s₁.gens= #[] →
   ZL (ZK l.prog w) callerA (.call (.ref fa) ⟨[.ref a],[]⟩) (λr s'=>r=.ok (.ret (.bool ZC))/\OldK s₁.heap s'.heap/\s'.os=s₁.os/\U7 s'.gens) s₁):
  WalkO q loose XP YP l.row.toRowW d [] (λf vs=>PySem.call f vs):=by
 intro w s₀ s₁ mg mb G Y fa o pm cd doc dV kV ho hd hcd hD hmg hg args vals as hpre hlay hrd hwl hlo;obtain rfl:dV=.none:=Dflts.none hD hdf;obtain rfl:kV=.none:=Dflts.noKw hD;obtain⟨a,vs,ns,rfl,rfl,hobj,hints,hlen⟩:=AS hn hpre hwl;refine enter_call (SN (call w s₀ s₁ mg mb fa o pm cd doc a vs ns G Y ho (fd_plain hd) hcd hmg hobj hints hlen hg) λr s' hq=>?_)
 obtain⟨rfl,h2,h3,h4⟩:=hq;exact⟨.inl ⟨.bool ZC,.bool ZC,[],rfl,λ_=>rfl,.bool ZC,AY l _,λ_=>⟨UR,λ_ hm=>(nomatch hm)⟩⟩,h2,h3,h4⟩
end Att
namespace L2
open PySem PySem.Spec PyProof.Rows
theorem rE:∀{vs:List Px}{ns:List Int},R0 vs ns->Vals (ns.map V.int) vs
 |_,_,.nil=>.nil
 |_,_,.cons n t h=>.cons ⟨t,rfl⟩ (rE h)
def LN(H:Hp):Prop:=∀b,H b=ZB\/∃o xs,H b=ZA (.frz o (.lst xs))
variable{mg:WF}{x:Str}
def Dw{mb:WF}{CX:Fq}{fa a:ZE}{sp:Sp}{s₁:Pz}
  (KX:K.In s₁.heap) (hns:s₁.heap.Ns Qv mg) (hb:s₁.heap.Ns UX mb) (hbb:∀x:Str,x≠ "__name__"->mb x=Qw x) (hlim:s₁.heap.NoLimit) (hg:s₁.gens= #[])
  (ha:s₁.heap.get? a=ZA {cls:=.type "list",data:=.seq vs.toArray}) (hi:R0 vs ns) (hl:ns.length<=ZI) (hr:Room k callerA)
  (F:∀base:ZH,K.In base->base.Ns Qv mg->qB P w K mg base CX k fa fd [x] sp) (hbind:∀(s:Pz)(u:Px),VC s fd ⟨[u],[]⟩ [(x,u)])
  (hsp:∀H:Hp,LN H->SqL K H a (ns.map V.int)->sp [.ref a] H (λv _=>v=.bl ZC) λ_ _ _=>False)
  (hCX:∀H e s',CX [] H s₁ (λ_ _ _=>False) e s'->False):
  ZL (ZK P w) callerA (.call (.ref fa) ⟨[.ref a],[]⟩) (λr s'=>r=.ok (.ret (.bool ZC))/\OldK s₁.heap s'.heap/\s'.os=s₁.os/\U7 s'.gens) s₁:=by
 have rv:=rE hi
 have lenV:=hi.length
 have core:∀H:Hp,LN H->SqL K H a (ns.map V.int)->HOk P w H s₁.heap->(∀b,H b≠ZB->b=a)->(H a≠ZB->K.lookup a=ZB) →
   ZL (ZK P w) callerA (.call (.ref fa) ⟨[.ref a],[]⟩) (λr s'=>r=.ok (.ret (.bool ZC))/\OldK s₁.heap s'.heap/\s'.os=s₁.os/\U7 s'.gens) s₁:=by
  intro H hO hS hok hA hK
  have base_of:∀{b:ZE}{o:Obj},s₁.heap.get? b=ZA o->H b=ZB->(uG s₁.heap H).get? b=ZA o:=λe n=>DV e n
  have noA:∀{b:ZE}{o:Obj}{es:Array DictEntry}{ep:Nat},s₁.heap.get? b=ZA o->o.data=.dict es ep->H b=ZB:=λ{b o es ep} e d=>by
   cases q:H b with
   |none=>rfl
   |some u=>
    have e':b=a:=hA b (by rw[q];simp)
    subst e';rw[ha]at e;cases e
    have d':Data.seq vs.toArray _=Data.dict es ep:=d;cases d'
  have nsK:∀{b:ZE}{m:WF},s₁.heap.Ns b m->(uG s₁.heap H).Ns b m:=λ{b m} ⟨o,es,ep,e,d,r⟩=>⟨o,es,ep,base_of e (noA e d),d,r⟩
  have hKb:K.In (uG s₁.heap H):=λb o e=>base_of (KX b o e) (by
   cases q:H b with
   |none=>rfl
   |some u=>
    have e':b=a:=hA b (by rw[q];simp)
    subst e';rw[hK (by rw[q];simp)]at e;cases e)
  have hM:Mod K mg (uG s₁.heap H):=⟨hKb,nsK hns,⟨mb,nsK hb,hbb⟩,let ⟨mc,h1,h2⟩:=hlim;⟨mc,nsK h1,h2⟩⟩
  have e0:Env0 P w K mg (uG s₁.heap H) callerA [] s₁ H:=⟨rfl,hM,λb o e=>GP e,Tc (Bp _ _),trivial,λb hb=>absurd (show b∈([]:List ZE)from hb) (by simp),hok,.of_eq hg⟩
  refine SN ((F _ hKb (nsK hns)).run callerA [] s₁ H ⟨[.ref a],[]⟩ [.ref a] [.ref a] _ _ hr e0 (hbind s₁ (.ref a)) (.cons rfl .nil) (hsp H hO hS)) λr s' h=>?_
  cases r with
  |error e=>exact(hCX H e s' h).elim
  |ok fl=>
   cases fl with
   |next=>exact Rf h
   |brk=>exact Rf h
   |cont=>exact Rf h
   |ret u=>
    obtain⟨v,H',os,bare,un,hok',r',q⟩:=h
    have q':v=.bl ZC:=q;subst q';obtain rfl:u=Q7 ZC:=r';refine⟨rfl,OldK.of_keep λb o e=>?_,os,bare⟩
    cases q:H b with
    |none=>exact un.keep b o e q (by intro z;exact absurd (show b∈([]:List ZE)from z) (by simp)) (by simp)
    |some u=>
     rcases hO b with z|⟨ob,xs,z⟩
     ·rw[q]at z;cases z
     ·have z2:=un.frzs b ob _ z
      obtain⟨e1,_⟩:=hok b _ z;obtain⟨e2,_⟩:=hok' b _ z2;rw[e]at e1;cases e1;exact e2
 cases hk:K.lookup a with
 |some o=>
  have e:=KX a o hk;rw[ha]at e;cases e
  refine core (λ_=>ZB) (λ_=>.inl rfl) (.inr ⟨_,vs.toArray,_,hk,rfl,rfl,rfl,by rw[PY,lenV];exact hl,by simpa using rv⟩) (λb u z=>by have z':(ZB:Option HO)=ZA u:=z;cases z') (λb z=>absurd rfl z) λz=>absurd rfl z
 |none=>
  refine core (λb=>if b=a then ZA (.frz {cls:=.type "list",data:=.seq vs.toArray} (.lst (ns.map V.int)))else ZB) (λb=>?_) (.inl (.inr ⟨{cls:=.type "list",data:=.seq vs.toArray},if_pos rfl⟩)) (λb u z=>?_) (λb z=>?_) λ_=>hk
  ·by_cases hb:b=a
   ·exact .inr ⟨_,_,if_pos hb⟩
   ·exact .inl (if_neg hb)
  ·by_cases hb:b=a
   ·have z':=(if_pos hb).symm.trans z
    cases z';subst hb;exact⟨ha,by rw[Py];exact hl,vs,_,rv,ha⟩
   ·have z':=(if_neg hb).symm.trans z
    cases z'
  ·by_cases hb:b=a
   ·exact hb
   ·exact absurd (if_neg hb) z
abbrev CX0:Fq:=λ_ _ _ _ _ _=>False
abbrev E0:XK:=λ_ _ _=>False
variable{X:Cx}
def zH:yY CX0 X E0:=λ_ _ _ _ _ _ _ h=>h.elim
structure Fun (K:Pv)(x qual:Str)(st:ZF)(f:ZE)(fd:Q0):Prop where
 ex:∃(oc:Px)(od:Option ZE)(kV doc pm:Px)(an:Option ZE)(cdv ct:Px)(osl:Array (Option Px)),
  fd=S5 x qual (fE st) (bJ st) (ao st) .none kV doc pm an cdv ct/\K.lookup f=ZA ⟨oc,od,.func fd,osl⟩/\VT K cdv qual=ZC
 kp:R7 K (.ref f)=ZC
variable{f:ZE}{ps:List Str}{qual:Str}{st:ZF}
section
variable {base:ZH}
def Fun.ok{N:List Str}{sp:Sp}(F:Fun K x qual st f fd)(S:bo N ps (ao st))(len:∀vs H Q E,sp vs H Q E->vs.length=ps.length)
  (hbody:∀(cdv:Px)(A:Qq)(outer:List Env)(s:Pz)(H:Hp)(vs:List V)(Q:VK)(E:XK),Room k (A.deeper (envOfC qual (ao st) s.heap.objs.size f cdv))->sp vs H Q E →
   ∃t,PSs (gu CX0 P w K mg base N qual (ao st) f cdv A outer s H E).nox (bJ st) t/\t {nx:=λ_ H'=>Q .non H',rt:=Q} (start N vs) H):qB P w K mg base CX0 (k+1) f fd ps sp:=by
 obtain⟨oc,od,kV,doc,pm,an,cdv,ct,osl,rfl,lk,hcd⟩:=F.ex;refine NO lk hcd S len λA outer s H vs Q E hr hsp=>?_
 obtain⟨t,h,q⟩:=hbody cdv A outer s H vs Q E hr hsp;exact⟨t,h.nox,q⟩
def Fun.binds(F:Fun K x qual st f fd)
  (h:∀(kV doc pm:Px)(an:Option ZE)(cdv ct:Px)(us:List Px),us.length=ps.length->Wr (S5 x qual (fE st) (bJ st) (ao st) .none kV doc pm an cdv ct) ⟨us,[]⟩=pure (ps.zip us)):Binds K fd ps []:=by
 obtain⟨oc,od,kV,doc,pm,an,cdv,ct,osl,rfl,lk,hcd⟩:=F.ex;exact .all (h kV doc pm an cdv ct)
def D1{oc:Px}{od an:Option ZE}{osl:Array (Option Px)}{kV doc pm cdv ct:Px}(l:K.lookup f=ZA ⟨oc,od,.func (S5 x qual (fE st) (bJ st) (ao st) .none kV doc pm an cdv ct),osl⟩)
  (c:VT K cdv qual=ZC) (k:R7 K (.ref f)=ZC):Fun K x qual st f (S5 x qual (fE st) (bJ st) (ao st) .none kV doc pm an cdv ct):=⟨⟨oc,od,kV,doc,pm,an,cdv,ct,osl,rfl,l,c⟩,k⟩
end
def iteF{A B:Prop}(h:B):if ZD=ZC then A else B:=by
 rw[if_neg P6];exact h
def iteT{A B:Prop}(h:A):if ZC=ZC then A else B:=by
 rw[if_pos rfl];exact h
def Same(H H':Hp):Prop:=∀b o,H b=ZA o->H' b=ZA o
def Same.refl(H:Hp):Same H H:=λ_ _ h=>h
def Same.trans{H H1 H2:Hp}(a:Same H H1)(b:Same H1 H2):Same H H2:=λc o h=>b c o (a c o h)
variable{env:Env}
theorem lx:∀(names:List (Str×SX))(acc:List (Str×ZE)),
  (∀x,(x,QB)∈names->∃c,env.cells.lookup x=ZA c) →
  (∀x c,acc.lookup x=ZA c->env.cells.lookup x=ZA c) →
  ∃cl,(forIn (m:=Sem) names acc (λx cs=>(if (x.2 == QB)=ZC then do let a <-cellOf env x.1;pure (SJ ((x.1,a)::cs))else pure (SJ cs))))=pure cl ∧
   (∀x c,cl.lookup x=ZA c->env.cells.lookup x=ZA c) ∧
   (∀x,(x,QB)∈names->∃c,cl.lookup x=ZA c)/\(∀x c,acc.lookup x=ZA c->∃c',cl.lookup x=ZA c')
 |[],acc,_,h=>⟨acc,rfl,h,λx hx=>by simp at hx,λx c e=>⟨c,e⟩⟩
 | (n,k)::r,acc,hf,h=>by
  by_cases hk:k=QB
  ·subst hk
   obtain⟨c,hc⟩:=hf n (by simp)
   have h':∀x c',((n,c)::acc).lookup x=ZA c'->env.cells.lookup x=ZA c':=λx c' e=>by
    rw[QF]at e
    cases q:x == n with
    |true=>
     rw[q]at e
     have e2:c=c':=Qu e
     have e3:x=n:=by simpa using q
     rw[<-e2,e3];exact hc
    |false=>rw[q]at e;exact h x c' e
   obtain⟨cl,e1,e2,e3,e4⟩:=lx r ((n,c)::acc) (λx hx=>hf x (Pw _ hx)) h'
   refine⟨cl,?_,e2,λx hx=>?_,λx c' e=>?_⟩
   ·rw[XH]
    simp only[beq_self_eq_true,if_true,cellOf,hc,pure_bind];exact e1
   ·rcases PJ.mp hx with z|z
    ·have z1:x=n:=by injection z
     subst z1;exact e4 x c (by simp[QF])
    ·exact e3 x z
   ·cases q:x == n with
    |true=>exact e4 x c (by simp[QF,q])
    |false=>exact e4 x c' (by simp[QF,q,e])
  ·have hb:(k == QB)=ZD:=by simpa using hk
   obtain⟨cl,e1,e2,e3,e4⟩:=lx r acc (λx hx=>hf x (Pw _ hx)) h
   refine⟨cl,?_,e2,λx hx=>?_,e4⟩
   ·rw[XH]
    simp only[hb,R4,if_false,pure_bind];exact e1
   ·rcases PJ.mp hx with z|z
    ·have z1:QB=k:=by injection z
     exact absurd z1.symm hk
    ·exact e3 x z
def yQ(hf:∀x,(x,QB)∈scope.names->∃c,env.cells.lookup x=ZA c):
  ∃cl,closureFor scope env=pure cl/\(∀x c,cl.lookup x=ZA c->env.cells.lookup x=ZA c)/\(∀x,(x,QB)∈scope.names->∃c,cl.lookup x=ZA c):=by
 obtain⟨cl,e1,e2,e3,_⟩:=lx scope.names [] hf (λx c e=>by simp at e)
 refine⟨cl,?_,e2,e3⟩
 unfold closureFor;refine Eq.trans ?_ (congrArg (λz=>z >>= pure) e1|>.trans (by simp))
 rfl
variable{tg:ZG}
def uT{pr:Qg}{wd:QP}{Ar:Qq}{Rz:Wp->Pz->Prop}{s0:Pz}{el it0:ZG}{cs:List ZG}{ps:Pos}{itv av:Px}{ev:Env}(W:Nat->Pz->Prop)
  (go:∀k st,W k st->ZJ (ZK pr wd) Ar (pyNext itv) (λr s1=>match r with
   |none=>Rz (.ok .next) s1
   |some v=>ZJ (ZK pr wd) Ar (Tq tg itv v) (λ_ s2=>ZJ (ZK pr wd) Ar (assign tg ev v) (λ_ s3=>
     ZJ (ZK pr wd) Ar (forIn cs ZC λc b=>if b=ZC then do let z <-isTrue c ev (eval c ev);pure (SJ z)else pure (SJ b)) (λz s4=>
      if z=ZC then ZJ (ZK pr wd) Ar (eval el ev) (λy s5=>
       ZJ (ZK pr wd) Ar (call (.builtin "list.append") [av,y]) (λ_ s6=>∃m,m<k/\W m s6) (λ_ _=>False) s5) (λ_ _=>False) s4
      else ∃m,m<k/\W m s4) (λ_ _=>False) s3) (λ_ _=>False) s2) (λ_ _=>False) s1) (λ_ _=>False) st)
  (k:Nat) (hk:W k s0):ZL (ZK pr wd) Ar (.compLoop (.ListComp el [⟨tg,it0,cs,0⟩] sc ps) 0 itv av ev) Rz s0:=by
 refine codeAny_loop rfl W (λk st hw=>?_) k hk
 show ZJ (ZK pr wd) Ar ((compTurn (.ListComp el [⟨tg,it0,cs,0⟩] sc ps) 0 itv av ev).onRaise (λz=>do XS z ev;theTreesLotGoes z)) _ _ st
 refine wpAny_noted ?_
 rw[compTurn_list]
 have no:∀{α:Type}{t:Sem α}{Q Q':α->Pz->Prop}{E':WP}{x:Pz},ZJ (ZK pr wd) Ar t Q (λ_ _=>False) x->(∀y z,Q y z->Q' y z)->ZJ (ZK pr wd) Ar t Q' E' x:=λh f=>Rm h f λ_ _ z=>z.elim
 refine PD (wpAny_standAt (PD (no (go k st hw) λr s1 g1=>?_)))
 cases r with
 |none=>exact PX g1
 |some v=>
  refine PD (no g1 λ_ s2 g2=>PD (no g2 λ_ s3 g3=>PD (no g3 λz s4 g4=>?_)))
  cases z with
  |false=>exact PX (And.intro rfl g4)
  |true=>exact PD (PD (no g4 λy s5 g5=>PD (no g5 λ_ s6 g6=>PX (PX (And.intro rfl g6)))))
def bx(X:Cx)(scope:Tg)(cl:List (Str×ZE))(N':List Str)(C:ZE)(s₀:Pz)(H₀:Hp)(fp:List ZE):Cx:=
 {X with N:=N',s₀:=s₀,H₀:=H₀,env:=compEnvC scope cl C X.env,outer:=X.stack,stack:=X.stack,ex:=fp,fn:=λx=>scope.names.lookup x == ZA .cell,xe:=λ_ _=>False}
def fD(src:List (Option Nat))(σ:St):St:=src.map λo=>match o with
 |some i=>(σ[i]?).join
 |none=>ZB
theorem jF{env:Env}:∀{names:List (Str×SX)}{x:Str}{k:SX},
  (names.map λ(n,k)=>if (k == QB&&env.scope.kind == .function&&env.kindOf n == ZA .cell)then(n,Rp)else(n,k)).lookup x=ZA k →
  ∃k',names.lookup x=ZA k'/\(k=k'\/k'=.free)
 |[],_,_,h=>by simp at h
 | (n,k0)::r,x,k,h=>by
  have ih:=@jF env r x k
  have h':Rj x ((if (k0 == QB&&env.scope.kind == .function&&env.kindOf n == ZA .cell)=ZC then(n,Rp)else(n,k0))::(r.map λ(n,k)=>if (k == QB&&env.scope.kind == .function&&env.kindOf n == ZA .cell)then(n,Rp)else(n,k)))=ZA k:=h
  by_cases hc:(k0 == QB&&env.scope.kind == .function&&env.kindOf n == ZA .cell)=ZC
  ·rw[if_pos hc]at h'
   rw[QF]at h' ⊢
   cases hx:x == n with
   |true=>
    refine⟨k0,rfl,.inr ?_⟩
    have:=QR.mp hc|>.1
    have:=QR.mp this|>.1
    simpa using this
   |false=>rw[hx]at h';exact ih h'
  ·rw[if_neg hc]at h'
   rw[QF]at h' ⊢
   cases hx:x == n with
   |true=>rw[hx]at h';exact⟨k0,rfl,.inl (Qu h').symm⟩
   |false=>rw[hx]at h';exact ih h'
def j9{names:List (Str×SX)}{k:SX}(h:names.lookup x=ZA k):(x,k)∈names:=RO h
theorem jh{env:Env}:∀{names:List (Str×SX)}{x:Str},names.lookup x=ZA .free →
  (names.map λ(n,k)=>if (k == QB&&env.scope.kind == .function&&env.kindOf n == ZA .cell)then(n,Rp)else(n,k)).lookup x=ZA .cell ∨
  (names.map λ(n,k)=>if (k == QB&&env.scope.kind == .function&&env.kindOf n == ZA .cell)then(n,Rp)else(n,k)).lookup x=ZA .free
 |[],_,h=>by simp at h
 | (n,k0)::r,x,h=>by
  have ih:=@jh env r x
  show Rj x ((if (k0 == QB&&env.scope.kind == .function&&env.kindOf n == ZA .cell)=ZC then(n,Rp)else(n,k0))::_)=_\/Rj x ((if (k0 == QB&&env.scope.kind == .function&&env.kindOf n == ZA .cell)=ZC then(n,Rp)else(n,k0))::_)=_
  rw[QF]at h
  by_cases hc:(k0 == QB&&env.scope.kind == .function&&env.kindOf n == ZA .cell)=ZC
  ·rw[if_pos hc]
   rw[QF]
   cases hx:x == n with
   |true=>exact .inl rfl
   |false=>rw[hx]at h;exact ih h
  ·rw[if_neg hc]
   rw[QF]
   cases hx:x == n with
   |true=>rw[hx]at h;exact .inr h
   |false=>rw[hx]at h;exact ih h
variable{N':List Str}{elt iter:ZG}{g:TG}{ifs:List ZG}{pos:Pos}{tc:TT}{te:TE}{wi:TI}
structure LcScope (X:Cx)(scope:Tg)(N':List Str)(src:List (Option Nat)):Prop where
 kind:scope.kind=.function
 cel:∀y∈scope.names,y.2=.cell->scope.names.lookup y.1=ZA .cell
 loc:∀y∈scope.names,y.2=.local->scope.names.lookup y.1=ZA .local
 len:src.length=N'.length
 from_:∀(j i:Nat)(x:Str),src[j]?=ZA (ZA i)->N'[j]?=ZA x->X.N[i]?=ZA x/\scope.names.lookup x=ZA .free
 free:∀x,(x,QB)∈scope.names->X.env.kindOf x=ZA .cell\/X.env.kindOf x=ZA .free
def Mc(K:Pv)(wi:TI)(src:List (Option Nat))(g:TG)(tc:TT)(te:TE):TE:=λσ H Q=>wi σ H λJ H1=>∀D,H1 D=ZB->K.lookup D=ZB →
 ∃W:Nat->Nat->St->List V->Hp->Prop,(∃m,W 0 m (fD src σ) [] (upd H1 D (.lst [])))/\∀i m σ ys H,W i m σ ys H->H D=ZA (.lst ys) ∧
  ((J.stop i H/\Q (.ref D) H)\/(J.go i H/\ys.length<ZI/\∀x H',J.yld i H x H'->g x σ H' λσ2 H2=>tc σ2 H2 λb H3=>
   if b=ZC then te σ2 H3 λv H4=>H4 D=ZA (.lst ys)/\∃m',m'<m/\W (i+1) m' σ2 (ys++[v]) (upd H4 D (.lst (ys++[v])))else ∃m',m'<m/\W (i+1) m' σ2 ys H3))
def Az(X:Cx)(ifs:List ZG)(t:TT):Prop:=
 ∀(kt:Uf)(s:Pz)(σ:St)(H:Hp)(Q:Bool->Hp->Prop),Inv X kt σ H s->t σ H Q →
  ZJ (ZK X.prog X.w) X.A (forIn ifs ZC λc r=>if r=ZC then do let ok <-isTrue c X.env (eval c X.env);pure (SJ ok)else pure (SJ r)) (TP X kt σ Q) X.xe s
def Cc:TT:=λ_ H Q=>Q ZC H
def zw:Az X [] Cc:=λ_ _ _ H _ I h=>wpAny_tests_nil ⟨H,I,h⟩
def GA{c:ZG}{t:TT}(h:PT X c t):Az X [c] t:=λkt s σ H Q I q=>wpAny_tests_one (h kt s σ H Q I q)
theorem mZ:∀(names:List (Str×SX))(h:ZH)(acc:List (Str×ZE)),(∀x y c,acc.lookup x=ZA c->acc.lookup y=ZA c->x=y)->(∀x c,acc.lookup x=ZA c->c<h.objs.size) →
  (∀x c,(Sr h.objs.size names acc).lookup x=ZA c->acc.lookup x=ZA c\/(h.objs.size<=c/\(VD h names).IsCell c ZB)) ∧
  (∀x y c,(Sr h.objs.size names acc).lookup x=ZA c->(Sr h.objs.size names acc).lookup y=ZA c->x=y) ∧
  (∀x,(x,Rp)∉names->(Sr h.objs.size names acc).lookup x=acc.lookup x) ∧
  (∀x,((x,Rp)∈names\/∃c,acc.lookup x=ZA c)->∃c,(Sr h.objs.size names acc).lookup x=ZA c) ∧
  (∀x c,(x,Rp)∈names->(Sr h.objs.size names acc).lookup x=ZA c->h.objs.size<=c)
 |[],h,acc,hi,_=>⟨λ_ _ e=>.inl e,hi,λ_ _=>rfl,λx e=>e.elim (λz=>absurd z Ra) id,λ_ _ z=>absurd z Ra⟩
 | (n,k)::r,h,acc,hi,hl=>by
  unfold Sr VD
  by_cases hk:k=.cell
  ·subst hk
   rw[if_pos (by rfl),if_pos (by rfl)]
   have hz:(h.push {cls:=.type "cell",data:=.cell ZB}).objs.size=h.objs.size+1:=RM ..
   have lk:∀x,((n,h.objs.size)::acc).lookup x=if x=n then ZA h.objs.size else acc.lookup x:=λx=>by
    rw[QF]
    by_cases e:x=n
    ·rw[if_pos e,beq_iff_eq.mpr e]
    ·rw[if_neg e,beq_eq_false_iff_ne.mpr e]
   obtain⟨c1,c2,c3,c4,c5⟩:=mZ r (h.push {cls:=.type "cell",data:=.cell ZB}) ((n,h.objs.size)::acc) (λx y c e1 e2=>by
     rw[lk]at e1 e2
     by_cases q1:x=n
     ·by_cases q2:y=n
      ·rw[q1,q2]
      ·rw[if_pos q1]at e1;rw[if_neg q2]at e2
       cases e1;exact absurd (hl _ _ e2) (Qm _)
     ·rw[if_neg q1]at e1
      by_cases q2:y=n
      ·rw[if_pos q2]at e2
       cases e2;exact absurd (hl _ _ e1) (Qm _)
      ·rw[if_neg q2]at e2;exact hi x y c e1 e2) (λx c e=>by
     rw[lk]at e;rw[hz]
     by_cases q:x=n
     ·rw[if_pos q]at e;cases e;exact Va _
     ·rw[if_neg q]at e;exact UU (hl x c e))
   rw[hz]at c1 c2 c3 c4 c5;refine⟨λx c e=>?_,c2,λx hx=>?_,λx hx=>?_,λx c hx e=>?_⟩
   ·rcases c1 x c e with z|z
    ·rw[lk]at z
     by_cases q:x=n
     ·rw[if_pos q]at z;cases z
      exact .inr ⟨PP _,_,VE r _ _ _ (Qc _ rfl),rfl⟩
     ·rw[if_neg q]at z;exact .inl z
    ·exact .inr ⟨TB z.1,z.2⟩
   ·rw[c3 x λz=>hx (Pw _ z),lk,if_neg λz=>hx (by rw[z];exact PB)]
   ·refine c4 x ?_
    rcases hx with hx|hx
    ·rcases PJ.mp hx with z|z
     ·cases z
      exact .inr ⟨_,by rw[lk,if_pos rfl]⟩
     ·exact .inl z
    ·by_cases q:x=n
     ·exact .inr ⟨_,by rw[lk,if_pos q]⟩
     ·exact .inr (by rw[lk,if_neg q];exact hx)
   ·rcases PJ.mp hx with z|z
    ·have q:x=n:=(XB z).1
     rcases c1 x c e with y|y
     ·rw[lk,if_pos q]at y;cases y;exact PP _
     ·exact TB y.1
    ·exact TB (c5 x c z e)
  ·have hb:¬ (k == Rp)=ZC:=λz=>hk (by simpa using z)
   rw[if_neg hb,if_neg hb];obtain⟨c1,c2,c3,c4,c5⟩:=mZ r h acc hi hl;exact⟨c1,c2,λx hx=>c3 x λz=>hx (Pw _ z),λx hx=>c4 x (hx.imp (λz=>(PJ.mp z).resolve_left λz=>hk (XB z).2.symm) id),λx c hx=>c5 x c ((PJ.mp hx).resolve_left λz=>hk (XB z).2.symm)⟩
def A6{globals:ZE}{cl:List (Str×ZE)}{Q:Env->Pz->Prop}
  (q:Q (newEnv scope s.heap.objs.size globals (Sr (s.heap.objs.size+1) scope.names cl) qual ZB .none (ZA env) UX) {s with heap:=VD (s.heap.push {cls:=.type "dict",data:=.dict #[]}) scope.names}):
  ZJ M A (newFunctionEnv scope globals cl [] qual ZB .none (ZA env)) Q E s:=by
 simp only[newFunctionEnv,We,if_true];refine PD (wpAny_alloc (PD (wpAny_layCells _ (λname kind cells=>by cases hkc:kind == Rp <;> simp[hkc]) _ _ _ _ ?_)))
 rw[show({s with heap:=s.heap.push {cls:=.type "dict",data:=.dict #[]}}:Pz).heap.objs.size=s.heap.objs.size+1 from RM ..]
 rw[List.forIn_nil];exact PD (PX (PX q))
def zW{fpos:Pos}{src:List (Option Nat)}{use:Option (Px->Sem Unit)}{Qf:WP}
  {kt:Uf}  {σ:St} {H:Hp} {Q:VK}
  (hc:X.calm=ZC) (S:LcScope X scope N' src) (hi:PI X tg iter wi)
  (block:∀cl C s₀ H₀ fp,PG (bx X scope cl N' C s₀ H₀ fp) tg g/\Az (bx X scope cl N' C s₀ H₀ fp) ifs tc/\PE (bx X scope cl N' C s₀ H₀ fp) elt te)
  (hs:∀x,Qp iter X.env x=pure x) (I:Inv X kt σ H s) (h:Mc X.K wi src g tc te σ H Q)
  (hend:∀(D C:ZE)(H':Hp)(s':Pz),(∃m,s'.heap.Ns C m)->(∀h',Ta C s'.heap h'->Inv X kt σ H' {s' with heap:=h'})->(H' C=ZB/\C≠X.env.locals/\X.s₀.heap.objs.size<=C/\(∀x c,X.env.cells.lookup x=ZA c->c≠C)/\∀p∈X.pn++kt,p.1≠C)->Q (.ref D) H' →
   compPost (ZK X.prog X.w) X.A X.xe use Qf (.ref D) C (.ok .next) s'):
  ZJ (ZK X.prog X.w) X.A (comprehension (.ListComp elt [⟨tg,iter,ifs,0⟩] scope pos) scope X.env fpos (newList []) ZD (eval iter X.env) use) Qf X.xe s:=by
 have hcell:∀x,(x,QB)∈scope.names->∃c,X.env.cells.lookup x=ZA c:=λx hx=>I.ok.has x (S.free x hx)
 obtain⟨cl0,hcl,cl01,cl02⟩:=yQ (env:=X.env) (scope:=scope) hcell;refine wpAny_comprehension_free (use:=use) rfl hs hcl S.kind S.loc (bV (hi kt s σ H _ I h) λv s1 h1=>bV h1 λitv s2 h2=>?_)
 obtain⟨it,fp,tn,J,H2,e,I2,T,st2,f2,hq⟩:=h2;subst e
 refine RC ?_
 have hD:H2 s2.heap.objs.size=ZB:=I2.hok.fresh (PP _)
 have hDK:X.K.lookup s2.heap.objs.size=ZB:=by
  cases q:X.K.lookup s2.heap.objs.size with
  |none=>rfl
  |some o=>exact absurd (PU (I2.kIn _ o q)) (Qm _)
 obtain⟨W,⟨m0,w0⟩,turn⟩:=hq s2.heap.objs.size hD hDK
 have I3:=I2.OY (its:=[]) (ys:=[]) (t':=s2.toks) .nil (QQ _)
 generalize hs3:({s2 with heap:=s2.heap.push {cls:=.type "list",data:=.seq ([]:List Px).toArray},toks:=s2.toks}:Pz)=s3 at I3
 generalize hH3:upd H2 s2.heap.objs.size (.lst [])=H3 at I3 w0
 have hDsz:s2.heap.objs.size<s3.heap.objs.size:=by rw[<-hs3];simp[RM]
 have fr3:∀b∈fp,H3 b=ZB:=λb hb=>by
  obtain⟨o,eo,_⟩:=T.obj _ _ st2 b hb;rw[<-hH3,aH (QJ (PU eo))];exact(f2 b hb).1
 have st3:tn 0 s3.heap:=T.keep _ _ _ st2 λb hb o e=>by rw[<-hs3];exact PN _ e
 have f3:∀b∈fp,qA X kt H3 b:=λb hb=>⟨fr3 b hb,(f2 b hb).2⟩
 have D3:H3 s2.heap.objs.size=ZA (.lst []):=by rw[<-hH3];exact aL
 generalize s2.heap.objs.size=D at*
 clear hs3 hH3 hD hDK
 refine A6 ?_
 have old:∀b o,s3.heap.get? b=ZA o->(VD (s3.heap.push {cls:=.type "dict",data:=.dict #[]}) scope.names).get? b=ZA o:=λb o e=>VE _ _ b o (PN _ e)
 have hns₁:(VD (s3.heap.push {cls:=.type "dict",data:=.dict #[]}) scope.names).Ns s3.heap.objs.size (λ_=>ZB):=(Heap.Ns.new s3.heap (.type "dict")).keeps (VE _ _)
 have hz3:(s3.heap.push {cls:=.type "dict",data:=.dict #[]}).objs.size=s3.heap.objs.size+1:=RM ..
 have lt0:∀x c,cl0.lookup x=ZA c->c<s3.heap.objs.size:=λx c e=>let ⟨_,ic⟩:=I3.cell x c (cl01 x c e);ic.lt
 obtain⟨c1,c2,c3,c4,c5⟩:=mZ scope.names (s3.heap.push {cls:=.type "dict",data:=.dict #[]}) cl0 (λx y c e1 e2=>I3.ok.inj x y c (cl01 x c e1) (cl01 y c e2)) λx c e=>by rw[hz3];exact UU (lt0 x c e)
 rw[hz3]at c1 c2 c3 c4 c5
 generalize hcl':Sr (s3.heap.objs.size+1) scope.names cl0=cl at*
 generalize hh₁:VD (s3.heap.push {cls:=.type "dict",data:=.dict #[]}) scope.names=h₁ at*
 have below:∀b o,s3.heap.get? b=ZA o->b≠s3.heap.objs.size:=λb o e=>QJ (PU e)
 have cl1:∀x c,cl.lookup x=ZA c->X.env.cells.lookup x=ZA c\/(s3.heap.objs.size<c/\h₁.IsCell c ZB):=λx c e=>(c1 x c e).imp (cl01 x c) id
 generalize hC:s3.heap.objs.size=C at*
 have stk:∀b,b≠X.env.locals->b∉X.fs->b∉oG X.stack:=λb h1 h2 z=>(PJ.mp (I3.OM b z)).elim h1 h2
 have apart:∀b∈fp,∀x c,cl.lookup x=ZA c->c≠b:=λb hb x c e=>by
  rcases cl1 x c e with z|z
  ·exact(f3 b hb).2.2.2.2.1 x c z
  ·obtain⟨o,eo,_⟩:=T.obj _ _ st3 b hb
   have h1:=PU eo;rw[hC]at h1;exact Ss (Vn h1 z.1)
 have I4:Inv (bx X scope cl N' C s3 H3 fp) kt (fD src σ) H3 {s3 with heap:=h₁}:=by
  refine⟨⟨I3.ok.mod,S.kind,I3.ok.glob,I3.ok.blt,Tc hC,c2,λx hx=>?_,λx c hx e=>RH (hC▸c5 x c (j9 (beq_iff_eq.mp hx)) e),I3.ok.hd,I3.ok.frames,.inl rfl,
    λb hb=>⟨?_,λx c e=>apart b hb x c e⟩,I3.bs,Qn I3.ok.bsz I3.sz,λb o e z=>?_,λb hb=>stk b (f3 b hb).2.1 (f3 b hb).2.2.1,I3.stack,I3.Ov⟩,
   rfl,I3.bare,Un.kept old,⟨_,hns₁,λj x v e1 e2 e3=>?_⟩,λx c e=>?_,I3.hok.fresh (Tc hC),λx c e=>(cl1 x c e).elim (I3.freeC x c) λz=>I3.hok.fresh (by rw[hC];exact RH z.1),λp hp=>?_,I3.hok.kept old,?_⟩
  ·have key:∀k,(relabel scope X.env).names.lookup x=ZA k->(k=.cell\/k=.free)->∃c,cl.lookup x=ZA c:=λk e hk=>by
    obtain⟨k',e',z⟩:=jF e
    have hk':k'=.cell\/k'=.free:=z.elim (λz=>z▸hk) .inr
    rcases hk' with q|q
    ·exact c4 x (.inl (q▸j9 e'))
    ·exact c4 x (.inr (cl02 x (q▸j9 e')))
   rcases hx with hx|hx
   ·exact key _ hx (.inl rfl)
   ·exact key _ hx (.inr rfl)
  ·obtain⟨o,eo,_⟩:=T.obj _ _ st3 b hb
   show b≠C
   exact below b o eo
  ·have z':b∈fp:=z
   obtain⟨_,_,_,z1,_⟩:=f3 b z';rcases z1 with z1|z1
   ·exact I3.ok.noex b o e z1
   ·exact absurd (PQ (PU (I3.ok.bs b o e).1) z1) (Qm _)
  ·unfold fD at e2
   rw[P9]at e2
   cases q:src[j]? with
   |none=>rw[q]at e2;simp at e2
   |some o=>
    rw[q]at e2
    cases o with
    |none=>simp at e2
    |some i=>
     have e2':(σ[i]?).join=ZA v:=by simpa using e2
     have e2'':σ[i]?=ZA (ZA v):=by
      cases q2:σ[i]? with
      |none=>rw[q2]at e2';simp at e2'
      |some z=>rw[q2]at e2';simp at e2';rw[e2']
     obtain⟨hN,hfree⟩:=S.from_ j i x q e1
     have hm:=j9 hfree
     have hk:=S.free x hm;obtain⟨m,hn,hl⟩:=I3.loc
     have hv:jk X.env.scope x:=by
      rcases hk with z|z
      ·exact .inr (.inl z)
      ·exact .inr (.inr z)
     obtain⟨u,r,l⟩:=hl i x v hN e2'' hv;refine⟨u,r,.inr ⟨?_,?_⟩⟩
     ·exact jh hfree
     ·rcases l with⟨z,_⟩|⟨_,c,ec,ic⟩
      ·rcases hk with z'|z' <;> rw[z']at z <;> cases z
      ·obtain⟨c',ec0⟩:=cl02 x hm
       have ec':cl.lookup x=ZA c':=(c3 x λz=>by have:=S.cel _ z rfl;rw[hfree]at this;cases this).trans ec0
       have:=cl01 x c' ec0;rw[ec]at this;cases this;obtain⟨o,ho,hd⟩:=ic;exact⟨c,ec',o,old _ _ ho,hd⟩
  ·rcases cl1 x c e with z|z
   ·obtain⟨v,o,ho,hd⟩:=I3.cell x c z
    exact⟨v,o,old _ _ ho,hd⟩
   ·exact⟨ZB,z.2⟩
  ·obtain⟨e,n,ne,nf,d⟩:=I3.pin p hp
   exact⟨old _ _ e,n,below _ _ e,stk _ ne nf,d⟩
  ·show(fD src σ).length=N'.length
   unfold fD;rw[Py];exact S.len
 obtain⟨bG,bI,bE⟩:=block cl C s3 H3 fp
 have stat:∀{H':Hp},(∀b∈fp,H' b=ZB)->∀b∈fp,qA (bx X scope cl N' C s3 H3 fp) kt H' b:=λhn b hb=>by
  obtain⟨o,eo,_⟩:=T.obj _ _ st3 b hb;exact⟨hn b hb,below b o eo,stk b (f3 b hb).2.1 (f3 b hb).2.2.1,.inl hb,apart b hb,(f3 b hb).2.2.2.2.2⟩
 have st4:tn 0 h₁:=T.keep _ _ _ st3 λb hb o e=>old b o e
 have after:∀(H':Hp)(s':Pz)(σ':St),Inv (bx X scope cl N' C s3 H3 fp) kt σ' H' s'->Q (.ref D) H' →
   compPost (ZK X.prog X.w) X.A X.xe use Qf (.ref D) C (.ok .next) s':=λH' s' σ' I' q=>by
  obtain⟨m,hn,_⟩:=id I'.loc
  have fC:X.s₀.heap.objs.size<=C:=by rw[<-hC];exact I3.sz
  have ltC:∀b o,s3.heap.get? b=ZA o->b<C:=λb o e=>by rw[<-hC];exact PU e
  refine hend D C H' s' ⟨m,hn⟩ (λh' hsb=>?_) ⟨I'.free,?_,fC,λx c e z=>?_,λp hp z=>?_⟩ q
  rotate_left
  ·have:=I3.lt;rw[hC]at this;exact Ss this
  ·obtain⟨v,ic⟩:=I3.cell x c e
   have:=ic.lt;rw[hC,z]at this;exact Qm _ this
  ·have:=ltC _ _ (I3.pin p hp).1;rw[z]at this;exact Qm _ this
  have u:Un (oG X.stack) fp H3 H' s3.heap s'.heap:=I'.base
  have lift:∀b o,s3.heap.get? b=ZA o->∀o',s'.heap.get? b=ZA o'->h'.get? b=ZA o':=λb o e o' e'=>hsb.extBut b o' (below b o e) e'
  have u':Un (oG X.stack) fp H3 H' s3.heap h':=
   ⟨λb o e n hb hx=>lift b o e o (u.keep b o e n hb hx),λb o e n hb hx=>by
     obtain⟨sl,z⟩:=u.slot b o e n hb hx;exact⟨sl,lift b o e _ z⟩,u.free,λb o e hx=>by
     obtain⟨o',z⟩:=u.there b o e hx;exact⟨o',lift b o e _ z⟩,u.tups,u.frzs,u.tbls⟩
  have hCn:H' C=ZB:=I'.free
  have hok':HOk X.prog X.w H' h':=λb ob e=>by
   refine(I'.hok b ob e).OA (λc w' hc' q'=>(hsb.2 c ?_).trans q') (λ_ q=>q) λ_ _ q=>q
   rintro rfl
   rcases hc' with rfl|hc'
   ·rw[hCn]at e;cases e
   ·rw[hCn]at hc';cases hc'
  have I5:Inv X kt σ H' {s' with heap:=h'}:=I3.OJ (s':={s' with heap:=h'}) (ch:=fp) I'.os u' hok' I'.bare λb hb=>⟨(f3 b hb).2.2.2.1,(f3 b hb).2.1,(f3 b hb).2.2.2.2.1,(f3 b hb).2.2.2.2.2⟩
  exact I5
 have loop:ZL (ZK X.prog X.w) X.A (.compLoop (.ListComp elt [⟨tg,iter,ifs,0⟩] scope pos) 0 (.ref it) (.ref D) (compEnvC scope cl C X.env))
   (compPost (ZK X.prog X.w) X.A X.xe use Qf (.ref D) C) {s3 with heap:=h₁}:=by
  refine uT (λn s'=>∃i σ' ys H',Inv (bx X scope cl N' C s3 H3 fp) kt σ' H' s'/\tn i s'.heap/\(∀b∈fp,H' b=ZB)/\W i n σ' ys H') ?_ m0 ⟨0,_,[],H3,I4,st4,fr3,w0⟩
  rintro n s5 ⟨i,σ5,ys,H5,I5,st5,fr5,w5⟩
  obtain⟨hDl,alt⟩:=turn i n σ5 ys H5 w5;rcases alt with⟨stop,qn⟩|⟨go,hlen,step⟩
  ·refine bV (T.done (bx X scope cl N' C s3 H3 fp) rfl rfl rfl hc i kt s5 σ5 H5 _ I5 (stat fr5) st5 stop) λr s6 ⟨hr,I6⟩=>?_
   subst hr;exact after H5 s6 σ5 I6 qn
  ·refine bV (T.item (bx X scope cl N' C s3 H3 fp) rfl rfl rfl hc i kt s5 σ5 H5 _ I5 (stat fr5) st5 go) λr s6 ⟨u,hr,h6⟩=>?_
   subst hr;refine bV h6 λ_ s7 hh_=>?_
   obtain⟨x,H7,I7,r7,y7,st7,fr7⟩:=hh_
   have I7':=I7.pinned (stat fr7) (T.obj _ _ st7);refine bV (bG _ s7 σ5 H7 x u _ I7' r7 (step x H7 y7)) λ_ s8 hh_=>?_
   obtain⟨σ8,H8,I8,q8⟩:=hh_;refine bV (bI _ s8 σ8 H8 _ I8 q8) λok s9 hh_=>?_
   obtain⟨H9,I9,q9⟩:=hh_
   have again:∀{σx:St}{Hx:Hp}{sx:Pz}{ys':List V},Inv (bx X scope cl N' C s3 H3 fp) (kt++pv fp s7.heap) σx Hx sx->(∃m',m'<n/\W (i+1) m' σx ys' Hx) →
     ∃m,m<n/\∃i σ' ys H',Inv (bx X scope cl N' C s3 H3 fp) kt σ' H' sx/\tn i sx.heap/\(∀b∈fp,H' b=ZB)/\W i m σ' ys H':=λ{σx Hx sx ys'} Ix nx=>by
    obtain⟨m',hm,wx⟩:=nx;refine⟨m',hm,i+1,σx,ys',Hx,Ix.Ot,T.keep _ _ _ st7 λb hb o e=>(Ix.pin (b,o) (Qd _ (Qd _ (iK hb e)))).1,λb hb=>?_,wx⟩
    obtain⟨o,e,d⟩:=T.obj _ _ st7 b hb;exact(Ix.pin (b,o) (Qd _ (Qd _ (iK hb e)))).2.1
   cases ok with
   |false=>
    rw[if_neg P6]at q9 ⊢
    exact again I9 q9
   |true=>
    rw[if_pos rfl]at q9 ⊢;refine bV (bE _ s9 σ8 H9 _ I9 q9) λv s10 hh_=>?_
    obtain⟨y,H10,I10,r10,hD10,q10⟩:=hh_;refine bV (j8 _ s10 σ8 H10 (.ref D) [y] (.ref D) [v] (λ_ H'=>H'=upd H10 D (.lst (ys++[y]))) I10 rfl (.cons r10 .nil) ⟨D,ys,y,rfl,rfl,hD10,hlen,rfl⟩) λ_ s11 hh_=>?_
    obtain⟨_,H11,I11,_,e11⟩:=hh_;subst e11;exact again I11 q10
 exact codeAny_compStart_list loop (T.self _ 0 _ _ _ st4 loop)
def zB{src:List (Option Nat)}
  (hc:X.calm=ZC) (S:LcScope X scope N' src) (hi:PI X tg iter wi)
  (block:∀cl C s₀ H₀ fp,PG (bx X scope cl N' C s₀ H₀ fp) tg g/\Az (bx X scope cl N' C s₀ H₀ fp) ifs tc/\PE (bx X scope cl N' C s₀ H₀ fp) elt te)
  (hs:autoParam (∀x,Qp iter X.env x=pure x) t_):
  PE X (.ListComp elt [⟨tg,iter,ifs,0⟩] scope pos) (Mc X.K wi src g tc te):=by
 intro kt s σ H Q I h;rw[eval_ListComp];exact zW (use:=ZB) hc S hi block hs I h λD C H' s' ⟨m,hn⟩ inv _ q=>⟨m,hn,λh' hsb=>⟨.ref D,H',inv h' hsb,rfl,q⟩⟩
def Ie{py spos:Pos}{src:List (Option Nat)}{i:Nat}{y:Str}
  (hc:X.calm=ZC) (S:LcScope X scope N' src) (hi:PI X tg iter wi)
  (block:∀cl C s₀ H₀ fp,PG (bx X scope cl N' C s₀ H₀ fp) tg g/\Az (bx X scope cl N' C s₀ H₀ fp) ifs tc/\PE (bx X scope cl N' C s₀ H₀ fp) elt te)
  (hN:X.N.Nodup) (hiy:X.N[i]?=ZA y) (hy:Loc X.env.scope y) (hsw:Qt (.ListComp elt [⟨tg,iter,ifs,0⟩] scope pos) (ZA (.Name y py)) spos.line X.env=pure ZC)
  (hf:X.fn y=ZC\/X.env.scope.names.lookup y=ZA .local) (hs:autoParam (∀x,Qp iter X.env x=pure x) t_):
  PS X (.Assign [.Name y py] (.ListComp elt [⟨tg,iter,ifs,0⟩] scope pos) spos) (FP (Mc X.K wi src g tc te) (DZ i)):=by
 intro kt s σ H D I h;rw[exec_Assign_Name_used _ _ _ _ hsw];refine PD (wpAny_standAt (PD ?_))
 show ZJ (ZK X.prog X.w) X.A (do let _ <-comprehension (.ListComp elt [⟨tg,iter,ifs,0⟩] scope pos) scope X.env _ (newList []) ZD (eval iter X.env) (ZA (assign (.Name y py) X.env))) _ _ s
 refine PD (bV (zW (use:=ZA (assign (.Name y py) X.env)) (Qf:=λ_ s'=>SP X kt D .next s') (Q:=λv H'=>D.nx (σ.set i (ZA v)) H') hc S hi block hs I h λL C H' s' ⟨m,hn⟩ inv ⟨c0,c1,c2,c3,c4⟩ q=>?_) λ_ s' hq=>PX (PX hq))
 have I0:Inv X kt σ H' s':=inv s'.heap (Heap.SameBut.refl ..)
 show ZJ (ZK X.prog X.w) X.A (assign (.Name y py) X.env (.ref L)) _ _ s'
 refine WQ (rH I0 hN hiy hy (v:=.ref L) rfl (λs2 I2 ⟨b,sb,hb⟩=>?_) hf)
 have hbC:C≠b:=by
  rcases hb with z|z
  ·rw[z];exact c1
  ·exact λw=>c3 y b z w.symm
 refine⟨m,hn.sameBut sb hbC,λh' hsb=>?_⟩
 exact⟨_,H',I2.turned (t':=s2.toks) (λb' o hb' e=>(hsb.2 b' hb').trans e) c0 c1 (.inr c2) c3 c4,q⟩
end L2
namespace Tr
open PySem PySem.Spec PyProof.Rows L2
def bP(K:Pv)(c:Str):ZE:=match S7 K Qv c with
 |some (ZA (.ref C))=>C
 |_=>0
def Iq:T->Option Key
 |.int i=>ZA (.inl i)
 |.str x=>ZA (.inr x)
 |_=>ZB
def p9:List T->Option (List Key)
 |[] =>ZA []
 |t::l=>match Iq t,p9 l with
  |some k,ZA r=>ZA (k::r)
  |_,_=>ZB
def keyOf:T->Option (List Key)
 |.tup l=>p9 l
 |_=>ZB
inductive Rs (α:Type) where
 |ok (a:α)|err (c:Str)|bad
def Rs.bind{α β:Type}(x:Rs α)(f:α->Rs β):Rs β:=match x with
 |.ok a=>f a
 |.err c=>.err c
 |.bad=>.bad
instance:Monad Rs where
 pure:=Rs.ok
 bind:=Rs.bind
@[simp] theorem ax {α β:Type} (a:α) (f:α->Rs β):(Rs.ok a >>= f)=f a:=rfl
@[simp] theorem Oa {α:Type} (a:α):(pure a:Rs α)=Rs.ok a:=rfl
@[simp] theorem N1 {α β:Type} (f:α->Rs β):((Rs.bad:Rs α) >>= f)=.bad:=rfl
@[simp] theorem NR {α β:Type} (c:Str) (f:α->Rs β):((Rs.err c:Rs α) >>= f)=.err c:=rfl
abbrev Ow:=ZE->Prop
def ObN(O:Ow)(H:Hp)(a dx:ZE)(fs:List (Str×V)):Prop:=(¬O a/\¬ O dx/\H dx=ZA (.own a))/\∃as:List ZE,fs.map (·.2)=as.map V.ref/\a∉as/\dx∉as/\dx≠a/\as.Nodup/\(fs.map (·.1)).Nodup
mutual
def Rep(K:Pv)(O:Ow)(H:Hp):T->V->Prop
 |.non,v=>v=.non
 |.bl b,v=>v=.bl b
 |.int i,v=>v=.int i
 |.str x,v=>v=.str x
 |.tup l,v=>∃a vs,v=.ref a/\¬ O a/\H a=ZA (.tup vs)/\Reps K O H l vs
 |.lst l,v=>∃a vs,v=.ref a/\¬ O a/\H a=ZA (.lst vs)/\Reps K O H l vs
 |.scr l,v=>∃a,v=.ref a/\¬ O a/\SqL K H a (l.map V.int)
 |.dct ks ts,v=>∃a kvs,v=.ref a/\¬ O a/\Rd H a (.dT kvs)/\ks.map keyOf=kvs.map (λp=>ZA p.1)/\Reps K O H ts (kvs.map (·.2))
 |.ob C ns ts,v=>∃a dx fs,v=.ref a/\ObN O H a dx fs/\H a=ZA (.ins (bP K C) dx fs)/\fs.map (·.1)=ns/\Reps K O H ts (fs.map (·.2))
def Reps(K:Pv)(O:Ow)(H:Hp):List T->List V->Prop
 |[],vs=>vs=[]
 |t::r,vs=>∃v ws,vs=v::ws/\Rep K O H t v/\Reps K O H r ws
end
def SameO(P:Ow)(H H':Hp):Prop:=∀b o,H b=ZA o->¬ P b->H' b=ZA o
variable{H H':Hp}{P:Ow}
def SameO.of(h:Same H H'):SameO P H H':=λb o e _=>h b o e
variable{a:ZE}
def Rd.O0{u:HO}(h:SameO P H H')(n:¬ P a)(q:Rd H a u):Rd H' a u:=q.elim (λe=>.inl (h _ _ e n)) λ⟨o,e⟩=>.inr ⟨o,h _ _ e n⟩
variable{vs:List V}
def SqL.keep(h:SameO P H H')(n:¬ P a)(q:SqL K H a vs):SqL K H' a vs:=by
 rcases q with(q|⟨o,q⟩)|q
 ·exact .inl (.inl (h _ _ q n))
 ·exact .inl (.inr ⟨o,h _ _ q n⟩)
 ·exact .inr q
mutual
theorem Rep.keep{K:Pv}{O P:Ow}{H H':Hp}(h:SameO P H H')(sub:∀a,P a->O a):∀{t:T}{v:V},Rep K O H t v->Rep K O H' t v
 |.non,_,r=>by unfold Rep at r ⊢;exact r
 |.bl _,_,r=>by unfold Rep at r ⊢;exact r
 |.int _,_,r=>by unfold Rep at r ⊢;exact r
 |.str _,_,r=>by unfold Rep at r ⊢;exact r
 |.tup l,_,r=>by
  unfold Rep at r ⊢;obtain⟨a,vs,e,n,q,z⟩:=r
  exact⟨a,vs,e,n,h _ _ q (λp=>n (sub a p)),Reps.keep h sub z⟩
 |.lst l,_,r=>by
  unfold Rep at r ⊢;obtain⟨a,vs,e,n,q,z⟩:=r
  exact⟨a,vs,e,n,h _ _ q (λp=>n (sub a p)),Reps.keep h sub z⟩
 |.scr l,_,r=>by
  unfold Rep at r ⊢;obtain⟨a,e,n,q⟩:=r
  exact⟨a,e,n,SqL.keep h (λp=>n (sub a p)) q⟩
 |.dct ks ts,_,r=>by
  unfold Rep at r ⊢;obtain⟨a,kvs,e,n,q,k,z⟩:=r
  exact⟨a,kvs,e,n,Rd.O0 h (λp=>n (sub a p)) q,k,Reps.keep h sub z⟩
 |.ob C ns ts,_,r=>by
  unfold Rep at r ⊢;obtain⟨a,dx,fs,e,n,q,k,z⟩:=r;exact⟨a,dx,fs,e,⟨⟨n.1.1,n.1.2.1,h _ _ n.1.2.2 λp=>n.1.2.1 (sub dx p)⟩,n.2⟩,h _ _ q (λp=>n.1.1 (sub a p)),k,Reps.keep h sub z⟩
theorem Reps.keep{K:Pv}{O P:Ow}{H H':Hp}(h:SameO P H H')(sub:∀a,P a->O a):∀{l:List T}{vs:List V},Reps K O H l vs->Reps K O H' l vs
 |[],_,r=>by unfold Reps at r ⊢;exact r
 |t::l,_,r=>by
  unfold Reps at r ⊢;obtain⟨v,ws,e,p,q⟩:=r;exact⟨v,ws,e,Rep.keep h sub p,Reps.keep h sub q⟩
end
mutual
theorem Rep.less{K:Pv}{O O':Ow}{H:Hp}(sub:∀a,O' a->O a):∀{t:T}{v:V},Rep K O H t v->Rep K O' H t v
 |.non,_,r=>by unfold Rep at r ⊢;exact r
 |.bl _,_,r=>by unfold Rep at r ⊢;exact r
 |.int _,_,r=>by unfold Rep at r ⊢;exact r
 |.str _,_,r=>by unfold Rep at r ⊢;exact r
 |.tup l,_,r=>by
  unfold Rep at r ⊢;obtain⟨a,vs,e,n,q,z⟩:=r
  exact⟨a,vs,e,λp=>n (sub a p),q,Reps.less sub z⟩
 |.lst l,_,r=>by
  unfold Rep at r ⊢;obtain⟨a,vs,e,n,q,z⟩:=r
  exact⟨a,vs,e,λp=>n (sub a p),q,Reps.less sub z⟩
 |.scr l,_,r=>by
  unfold Rep at r ⊢;obtain⟨a,e,n,z⟩:=r
  exact⟨a,e,λp=>n (sub a p),z⟩
 |.dct ks ts,_,r=>by
  unfold Rep at r ⊢;obtain⟨a,kvs,e,n,q,k,z⟩:=r
  exact⟨a,kvs,e,λp=>n (sub a p),q,k,Reps.less sub z⟩
 |.ob C ns ts,_,r=>by
  unfold Rep at r ⊢;obtain⟨a,dx,fs,e,n,q,k,z⟩:=r;exact⟨a,dx,fs,e,⟨⟨λp=>n.1.1 (sub a p),λp=>n.1.2.1 (sub dx p),n.1.2.2⟩,n.2⟩,q,k,Reps.less sub z⟩
theorem Reps.less{K:Pv}{O O':Ow}{H:Hp}(sub:∀a,O' a->O a):∀{l:List T}{vs:List V},Reps K O H l vs->Reps K O' H l vs
 |[],_,r=>by unfold Reps at r ⊢;exact r
 |t::l,_,r=>by
  unfold Reps at r ⊢;obtain⟨v,ws,e,p,q⟩:=r;exact⟨v,ws,e,Rep.less sub p,Reps.less sub q⟩
end
variable{O:Ow}{l ts:List T}{v:V}
section
variable {t:T}
def Rep.same(h:Same H H')(r:Rep K O H t v):Rep K O H' t v:=Rep.keep (P:=λ_=>False) (SameO.of h) (λ_ z=>z.elim) r
def Reps.same(h:Same H H')(r:Reps K O H l vs):Reps K O H' l vs:=Reps.keep (P:=λ_=>False) (SameO.of h) (λ_ z=>z.elim) r
def Rep.OU:Rep K O H .non .non:=by unfold Rep;rfl
def Rep.bl_(b:Bool):Rep K O H (.bl b) (.bl b):=by unfold Rep;rfl
def Rep.GT(i:Int):Rep K O H (.int i) (.int i):=by unfold Rep;rfl
def Rep.Po(x:Str):Rep K O H (.str x) (.str x):=by unfold Rep;rfl
def Rep.Fk:Rep K O H (.tup l) v↔ ∃a vs,v=.ref a/\¬ O a/\H a=ZA (.tup vs)/\Reps K O H l vs:=by unfold Rep;exact SC
def Rep.Do:Rep K O H (.lst l) v↔ ∃a vs,v=.ref a/\¬ O a/\H a=ZA (.lst vs)/\Reps K O H l vs:=by unfold Rep;exact SC
def Rep.GE{ks:List T}:Rep K O H (.dct ks ts) v↔ ∃a kvs,v=.ref a/\¬ O a/\Rd H a (.dT kvs)/\ks.map keyOf=kvs.map (λp=>ZA p.1)/\Reps K O H ts (kvs.map (·.2)):=by unfold Rep;exact SC
def Rep.Oq{C:Str}{ns:List Str}:Rep K O H (.ob C ns ts) v↔ ∃a dx fs,v=.ref a/\ObN O H a dx fs/\H a=ZA (.ins (bP K C) dx fs)/\fs.map (·.1)=ns/\Reps K O H ts (fs.map (·.2)):=by unfold Rep;exact SC
def Rep.AC:Rep K O H (.int i) v↔v=.int i:=by unfold Rep;exact SC
def Rep.FS:Rep K O H (.bl b) v↔v=.bl b:=by unfold Rep;exact SC
def Rep.IR{b:Str}:Rep K O H (.str b) v↔v=.str b:=by unfold Rep;exact SC
def Rep.On:Rep K O H .non v↔v=.non:=by unfold Rep;exact SC
def Reps.GM:Reps K O H [] []:=by unfold Reps;rfl
def Reps.Gc(r:Rep K O H t v)(q:Reps K O H l vs):Reps K O H (t::l) (v::vs):=by unfold Reps;exact⟨v,vs,rfl,r,q⟩
def Reps.Da:Reps K O H [] vs↔vs=[]:=by unfold Reps;exact SC
def Reps.me:Reps K O H (t::l) vs↔ ∃v ws,vs=v::ws/\Rep K O H t v/\Reps K O H l ws:=by
 constructor
 ·intro h;unfold Reps at h;exact h
 ·intro h;unfold Reps;exact h
end
theorem Reps.length:∀{l:List T}{vs:List V},Reps K O H l vs->l.length=vs.length
 |[],vs,r=>by rw[Reps.Da.mp r];rfl
 |t::l,vs,r=>by
  obtain⟨v,ws,rfl,_,q⟩:=Reps.me.mp r;simp[q.length]
theorem Reps.get:∀{l:List T}{vs:List V}{i:Nat}{t:T},Reps K O H l vs->l[i]?=ZA t->∃v,vs[i]?=ZA v/\Rep K O H t v
 |[],_,_,_,_,e=>by simp at e
 |t::l,vs,i,u,r,e=>by
  obtain⟨v,ws,rfl,p,q⟩:=Reps.me.mp r
  cases i with
  |zero=>simp at e;subst e;exact⟨v,rfl,p⟩
  |succ i=>
   obtain⟨z,e1,e2⟩:=q.get (i:=i) (t:=u) (by simpa using e)
   exact⟨z,by simpa using e1,e2⟩
theorem Reps.append:∀{l m:List T}{vs ws:List V},Reps K O H l vs->Reps K O H m ws->Reps K O H (l++m) (vs++ws)
 |[],_,vs,_,r,s=>by rw[Reps.Da.mp r];exact s
 |t::l,m,vs,ws,r,s=>by
  obtain⟨v,us,rfl,p,q⟩:=Reps.me.mp r;exact Reps.Gc p (q.append s)
theorem Reps.take:∀{l:List T}{vs:List V}(n:Nat),Reps K O H l vs->Reps K O H (l.take n) (vs.take n)
 |_,_,0,_=>Reps.GM
 |[],vs,n+1,r=>by rw[Reps.Da.mp r];exact Reps.GM
 |t::l,vs,n+1,r=>by
  obtain⟨v,us,rfl,p,q⟩:=Reps.me.mp r;exact Reps.Gc p (q.take n)
theorem Reps.drop:∀{l:List T}{vs:List V}(n:Nat),Reps K O H l vs->Reps K O H (l.drop n) (vs.drop n)
 |_,_,0,r=>r
 |[],vs,n+1,r=>by rw[Reps.Da.mp r];exact Reps.GM
 |t::l,vs,n+1,r=>by
  obtain⟨v,us,rfl,p,q⟩:=Reps.me.mp r;exact q.drop n
theorem Reps.ints:∀{ns:List Int},Reps K O H (ns.map T.int) (ns.map V.int)
 |[] =>Reps.GM
 |n::r=>Reps.Gc (Rep.GT n) Reps.ints
def RowsR(K:Pv)(O:Ow)(H:Hp):List (List T×List T)->List ZE->Prop
 |[],as=>as=[]
 |r::rs,as=>∃b bs kvs,as=b::bs/\H b=ZA (.dT kvs)/\r.1.map keyOf=kvs.map (λp=>ZA p.1)/\Reps K O H r.2 (kvs.map (·.2))/\RowsR K O H rs bs
def LsR(K:Pv)(O:Ow)(H:Hp):List (List T)->List ZE->Prop
 |[],as=>as=[]
 |l::ls,as=>∃b bs vs,as=b::bs/\H b=ZA (.lst vs)/\Reps K O H l vs/\LsR K O H ls bs
def ORep(K:Pv)(O M:Ow)(H:Hp):OT->V->Prop
 |.lst l,v=>∃a vs,v=.ref a/\(∀b,M b↔b=a)/\H a=ZA (.lst vs)/\Reps K O H l vs
 |.dct ks ts,v=>∃a kvs,v=.ref a/\(∀b,M b↔b=a)/\H a=ZA (.dT kvs)/\ks.map keyOf=kvs.map (λp=>ZA p.1)/\Reps K O H ts (kvs.map (·.2))
 |.dd ks rows,v=>∃a kvs as,v=.ref a/\(∀b,M b↔b=a\/b∈as)/\a∉as/\as.Nodup/\H a=ZA (.dT kvs)/\ks.map keyOf=kvs.map (λp=>ZA p.1)/\kvs.map (·.2)=as.map V.ref/\RowsR K O H rows as
 |.ob C ns ls,v=>∃a dx as,v=.ref a/\(∀b,M b↔b=a\/b=dx\/b∈as)/\(a∉as/\dx∉as/\dx≠a/\as.Nodup)/\H a=ZA (.ins (bP K C) dx (ns.zip (as.map V.ref)))/\H dx=ZA (.own a)/\ns.length=as.length/\ns.Nodup/\LsR K O H ls as
 |.ll ls,v=>∃a as,v=.ref a/\(∀b,M b↔b=a\/b∈as)/\a∉as/\as.Nodup/\H a=ZA (.lst (as.map V.ref))/\LsR K O H ls as
inductive Sl where
 |em|va (t:T)|ow (o:OT)
abbrev En:=List Sl
abbrev Y3:=En->Rs Bool
abbrev Y2:=En->Rs T
abbrev Y0:=En->Rs (List T)
abbrev Mn:=Nat->Ow
def Mn.u(M:Mn):Ow:=λa=>∃i,M i a
def isO:HO->Bool
 |.ins _ _ _=>ZC
 |.own _=>ZC
 |_=>ZD
def Mtb(H:Hp)(a:ZE):Prop:=(∃vs,H a=ZA (.lst vs))\/(∃kvs,H a=ZA (.dT kvs))\/∃o,H a=ZA o/\isO o=ZC
def Mtb.some(h:Mtb H a):∃o,H a=ZA o:=by
 rcases h with⟨_,e⟩|⟨_,e⟩|⟨_,e,_⟩ <;> exact⟨_,e⟩
def Mtb.at(s:∀o,H a=QD o->H' a=QD o)(h:Mtb H a):Mtb H' a:=by
 rcases h with⟨vs,e⟩|⟨k,e⟩|⟨o,e,q⟩
 ·exact .inl ⟨vs,s _ e⟩
 ·exact .inr (.inl ⟨k,s _ e⟩)
 ·exact .inr (.inr ⟨o,s _ e,q⟩)
def Mtb.same(s:Same H H')(h:Mtb H a):Mtb H' a:=h.at λo e=>s a o e
structure EnvM (K:Pv)(O:Ow)(M:Mn)(H:Hp)(Z:En)(σ:L2.St):Prop where
 len:Z.length=σ.length
 val:∀(i:Nat)(t:T),Z[i]?=ZA (.va t)->∃v,σ[i]?=ZA (ZA v)/\Rep K O H t v
 own:∀(i:Nat)(o:OT),Z[i]?=ZA (.ow o)->∃v,σ[i]?=ZA (ZA v)/\ORep K O (M i) H o v
 sub:∀(i:Nat)(a:ZE),M i a->O a
 dis:∀(i j:Nat)(a:ZE),M i a->M j a->i=j
 trk:∀(a:ZE),O a->Mtb H a
theorem RowsR.same(h:Same H H'):∀{rs:List (List T×List T)}{as:List ZE},RowsR K O H rs as->RowsR K O H' rs as
 |[],_,r=>r
 |_::_,_,⟨b,bs,kvs,e1,e2,e3,e4,e5⟩=>⟨b,bs,kvs,e1,h _ _ e2,e3,e4.same h,e5.same h⟩
theorem LsR.same(h:Same H H'):∀{ls:List (List T)}{as:List ZE},LsR K O H ls as->LsR K O H' ls as
 |[],_,r=>r
 |_::_,_,⟨b,bs,vs,e1,e2,e3,e4⟩=>⟨b,bs,vs,e1,h _ _ e2,e3.same h,e4.same h⟩
theorem ORep.same{M:Ow}(h:Same H H'){o:OT}(r:ORep K O M H o v):ORep K O M H' o v:=by
 cases o with
 |lst l=>obtain⟨a,vs,e1,e2,e3,e4⟩:=r;exact⟨a,vs,e1,e2,h _ _ e3,e4.same h⟩
 |dct ks ts=>obtain⟨a,kvs,e1,e2,e3,e4,e5⟩:=r;exact⟨a,kvs,e1,e2,h _ _ e3,e4,e5.same h⟩
 |dd ks rows=>obtain⟨a,kvs,as,e1,e2,e3,e4,e5,e6,e7,e8⟩:=r;exact⟨a,kvs,as,e1,e2,e3,e4,h _ _ e5,e6,e7,e8.same h⟩
 |ob C ns ls=>obtain⟨a,dx,as,e1,e2,e3,e4,e5,e6,e7,e8⟩:=r;exact⟨a,dx,as,e1,e2,e3,h _ _ e4,h _ _ e5,e6,e7,e8.same h⟩
 |ll ls=>obtain⟨a,as,e1,e2,e3,e4,e5,e6⟩:=r;exact⟨a,as,e1,e2,e3,e4,h _ _ e5,e6.same h⟩
variable{Z:En}{σ:L2.St}
theorem EnvM.same{M:Mn}(h:Same H H')(e:EnvM K O M H Z σ):EnvM K O M H' Z σ where
 len:=e.len
 val:=λi t q=>let ⟨v,e1,e2⟩:=e.val i t q;⟨v,e1,e2.same h⟩
 own:=λi o q=>let ⟨v,e1,e2⟩:=e.own i o q;⟨v,e1,e2.same h⟩
 sub:=e.sub
 dis:=e.dis
 trk:=λa q=>(e.trk a q).same h
def EnvO(K:Pv)(O:Ow)(H:Hp)(Z:En)(σ:L2.St):Prop:=∃M,EnvM K O M H Z σ
variable{p:ZE}
theorem EnvO.len(e:EnvO K O H Z σ):Z.length=σ.length:=e.elim λ_ e=>e.len
theorem EnvO.val(e:EnvO K O H Z σ)(i:Nat)(t:T)(q:Z[i]?=ZA (.va t)):∃v,σ[i]?=ZA (ZA v)/\Rep K O H t v:=e.elim λ_ e=>e.val i t q
def EnvO.mtb(e:EnvO K O H Z σ):∀a,O a->Mtb H a:=e.elim λ_ e=>e.trk
def EnvO.trk(e:EnvO K O H Z σ)(a:ZE)(z:O a):∃o,H a=ZA o:=(e.mtb a z).some
theorem EnvO.same(h:Same H H')(e:EnvO K O H Z σ):EnvO K O H' Z σ:=e.elim λM e=>⟨M,e.same h⟩
def EnvO.fresh(e:EnvO K O H Z σ)(h:H p=ZB):¬ O p:=λz=>by
 obtain⟨o,q⟩:=e.trk p z;rw[h]at q;cases q
def LW(h:ZH)(C e:ZE):Option ZE->Prop
 |none=>∃oe vs,h.get? e=ZA oe/\oe.cls=.ref C/\oe.data=.fields vs/\vs[1]?=ZA .none
 |some T=>T≠e/\∃oe vs,h.get? e=ZA oe/\oe.cls=.ref C/\oe.data=.fields vs/\vs[1]?=ZA (.ref T)/\∃oT ts,h.get? T=ZA oT/\oT.data=.fields ts/\ts[3]?=ZA .none
def RzP(X:Cx)(kt:Uf)(P:Ow)(H:Hp)(c:Str)(ev:Px)(s':Pz):Prop:=
 ∃e T C σ' H',ev=.ref e/\X.mg c=ZA (.ref C)/\Inv X kt σ' H' s'/\SameO P H H'/\H' e=ZB/\(X.ex=[]->X.s₀.heap.get? e=ZB)/\LW s'.heap C e T/\(∀t,T=ZA t->H' t=ZB/\(X.ex=[]->X.s₀.heap.get? t=ZB))/\∀p∈X.pn++kt,p.1≠e/\T≠ZA p.1
def Nw(K:Pv)(H:Hp):Ow:=λa=>H a=ZB/\K.lookup a=ZB
variable{H1:Hp}
def fz(h:SameO P H H1)(n:Nw K H1 a):P a\/Nw K H a:=by
 by_cases hp:P a
 ·exact .inl hp
 ·refine .inr ⟨?_,n.2⟩
  cases q:H a with
  |none=>rfl
  |some o=>have:=h a o q hp;rw[n.1]at this;cases this
def SameO.trans{P1:Ow}{H2:Hp}(h:SameO P H H1)(h1:SameO P1 H1 H2)(sub:∀a,P1 a->P a\/Nw K H a):SameO P H H2:=λb o e n=>
 h1 b o (h b o e n) λz=>(sub b z).elim n λw=>by rw[w.1]at e;cases e
def XA(X:Cx)(P:Ow)(H:Hp)(c:Str):Prop:=∀kt ev s',RzP X kt P H c ev s'->X.xe ev s'
variable{X:Cx}
def XA.later{P1:Ow}{c:Str}(h:XA X P H c)(s:SameO P H H1)(sub:∀a,P1 a->P a\/Nw X.K H a):XA X P1 H1 c:=λkt ev s' ⟨e,T,C,σ',H',a1,a2,a3,a4,a5⟩=>
 h kt ev s' ⟨e,T,C,σ',H',a1,a2,a3,s.trans a4 sub,a5⟩
abbrev kI:Ow:=λ_=>False
def Post{α:Type}(X:Cx)(H:Hp)(r:Rs α)(k:α->Hp->Prop):Prop:=match r with
 |.ok t=>∀H',Same H H'->k t H'
 |.err c=>XA X kI H c
 |.bad=>False
def Post.mono{r:Rs α}{k k':α->Hp->Prop}(h:Post X H r k)(f:∀t H',Same H H'->k t H'->k' t H'):Post X H r k':=by
 cases r with
 |ok t=>exact λH' s=>f t H' s (h H' s)
 |err c=>exact h
 |bad=>exact h
theorem Post.later{r:Rs α}{k:α->Hp->Prop}(h:Post X H r k)(s:Same H H1):Post X H1 r k:=by
 cases r with
 |ok t=>exact λH' s'=>h H' (s.trans s')
 |err c=>exact XA.later h (SameO.of s) λ_ z=>z.elim
 |bad=>exact h
def Post.bind{r:Rs α}{f:α->Rs β}{k:β->Hp->Prop}(h:Post X H (r >>= f) k):Post X H r λt H'=>Post X H' (f t) k:=by
 cases r with
 |ok t=>exact λH' s=>Post.later h s
 |err c=>exact h
 |bad=>exact h
def tP(X:Cx)(f:Y2):TE:=λσ H Q=>∃Z O,EnvO X.K O H Z σ/\Post X H (f Z) λt H'=>∀v,Rep X.K O H' t v->Q v H'
def tPA(X:Cx)(f:Y0):TA:=λσ H Q=>∃Z O,EnvO X.K O H Z σ/\Post X H (f Z) λt H'=>∀v,Reps X.K O H' t v->Q v H'
def BL(X:Cx)(f:Y3):TT:=λσ H Q=>∃Z O,EnvO X.K O H Z σ/\Post X H (f Z) λb H'=>Q b H'
abbrev cg(X:Cx)(e:ZG)(f:Y2):Prop:=PE X e (tP X f)
abbrev qz(X:Cx)(e:List ZG)(f:Y0):Prop:=PA X e (tPA X f)
abbrev ve(X:Cx)(e:ZG)(f:Y3):Prop:=PT X e (BL X f)
variable{e:ZG}
def PE.imp{t t':TE}(h:PE X e t)(w:∀σ H Q,t' σ H Q->t σ H Q):PE X e t':=λkt s σ H Q I q=>h kt s σ H Q I (w σ H Q q)
def PA.imp{e:List ZG}{t t':TA}(h:PA X e t)(w:∀σ H Q,t' σ H Q->t σ H Q):PA X e t':=λpos kt s σ H Q I q=>h pos kt s σ H Q I (w σ H Q q)
def PT.imp{t t':TT}(h:PT X e t)(w:∀σ H Q,t' σ H Q->t σ H Q):PT X e t':=λkt s σ H Q I q=>h kt s σ H Q I (w σ H Q q)
def PS.imp{e:ZF}{t t':TS}(h:PS X e t)(w:∀D σ H,t' D σ H->t D σ H):PS X e t':=λkt s σ H D I q=>h kt s σ H D I (w D σ H q)
def PSs.imp{e:List ZF}{t t':TS}(h:PSs X e t)(w:∀D σ H,t' D σ H->t D σ H):PSs X e t':=λkt s σ H D I q=>h kt s σ H D I (w D σ H q)
variable{es:List ZG}{f:Y0}{pos:Pos}{x:Str}
def a6{f:Y2}{k:T->Rs α}{Q:α->Hp->Prop}(E:EnvO X.K O H Z σ)(h:Post X H (f Z >>= k) Q):
  tP X f σ H λv H'=>∃t,Rep X.K O H' t v/\Same H H'/\EnvO X.K O H' Z σ/\Post X H' (k t) Q:=
 ⟨Z,O,E,Post.mono h.bind λt H' s q v r=>⟨t,r,s,E.same s,q⟩⟩
def fF{k:List T->Rs α}{Q:α->Hp->Prop}(E:EnvO X.K O H Z σ)(h:Post X H (f Z >>= k) Q):
  tPA X f σ H λv H'=>∃t,Reps X.K O H' t v/\Same H H'/\EnvO X.K O H' Z σ/\Post X H' (k t) Q:=
 ⟨Z,O,E,Post.mono h.bind λt H' s q v r=>⟨t,r,s,E.same s,q⟩⟩
def lH{f:Y3}{k:Bool->Rs α}{Q:α->Hp->Prop}(E:EnvO X.K O H Z σ)(h:Post X H (f Z >>= k) Q):
  BL X f σ H λb H'=>Same H H'/\EnvO X.K O H' Z σ/\Post X H' (k b) Q:=
 ⟨Z,O,E,Post.mono h.bind λt H' s q=>⟨s,E.same s,q⟩⟩
noncomputable def vr(i:Nat)(Z:En):Rs T:=match Z[i]? with
 |some (.va t)=>.ok t
 |_=>.bad
def cn(t:T)(_:En):Rs T:=.ok t
def ME(i:Nat)(hN:autoParam (X.N[i]?=ZA x) u_)(hv:autoParam (jk X.env.scope x) v_)(hd:autoParam ((x == ("__debug__" : Str))=ZD) s_)
  (hcd:autoParam ((x == ("__classdict__" : Str))=ZD) s_):cg X (.Name x pos) (vr i):=PE.imp (dt hN hv hd hcd) λσ H Q hh_=>by
 obtain⟨Z,O,E,h⟩:=hh_;unfold vr at h
 split at h
 ·rename_i t e
  obtain⟨v,e1,e2⟩:=E.val i t e;exact⟨v,e1,h H (Same.refl H) v e2⟩
 ·exact h.elim
def MN{i j pos}:cg X (.Constant (.int i) j pos) (cn (.int i)):=PE.imp CO λσ H Q ⟨Z,O,E,h⟩=>h H (Same.refl H) _ (Rep.GT i)
def q_bl{i j pos}:cg X (.Constant (.bool i) j pos) (cn (.bl i)):=PE.imp MY λσ H Q ⟨Z,O,E,h⟩=>h H (Same.refl H) _ (Rep.bl_ i)
def MJ{j pos}:cg X (.Constant .none j pos) (cn .non):=PE.imp J5 λσ H Q ⟨Z,O,E,h⟩=>h H (Same.refl H) _ Rep.OU
def MG{i j pos}:cg X (.Constant (.str i) j pos) (cn (.str i)):=PE.imp J3 λσ H Q ⟨Z,O,E,h⟩=>h H (Same.refl H) _ (Rep.Po i)
def JO{u:Px}(hm:X.mg x=ZA u)(r:RelV (.int i) u)(hg:autoParam (Gl X x) u_)(hd:autoParam ((x == ("__debug__" : Str))=ZD) s_):cg X (.Name x pos) (cn (.int i)):=
 PE.imp (zC hg hm r hd) λσ H Q ⟨Z,O,E,h⟩=>h H (Same.refl H) _ (Rep.GT i)
def ai(_:En):Rs (List T):=.ok []
def ae(f:Y2)(g:Y0)(Z:En):Rs (List T):=do
 let t <-f Z
 let r <-g Z
 .ok (t::r)
def JN:qz X [] ai:=PA.imp fM λσ H Q ⟨Z,O,E,h⟩=>h H (Same.refl H) _ Reps.GM
def Gj{f:Y2}{g:Y0}(he:cg X e f)(hr:qz X es g)(hs:autoParam (PR (e::es) X.env=(ZD,eval e X.env)::PR es X.env) u_):qz X (e::es) (ae f g):=by
 intro pos kt s σ H Q I h;obtain⟨Z,O,E,h⟩:=h;refine cS he hr hs pos kt s σ H Q I ?_
 obtain⟨Z1,O1,E1,h1⟩:=a6 E h;refine⟨Z1,O1,E1,Post.mono h1 λt H' s q v r=>?_⟩
 obtain⟨t',r',s',E',q'⟩:=q v r;refine⟨Z,O,E',Post.mono q'.bind λts H2 s2 q2 vs rs=>?_⟩
 exact q2 H2 (Same.refl H2) _ (Reps.Gc (r'.same s2) rs)
variable{g:T->T->Rs T}
section
def kK(l:List T):Rs T:=if l.length<=ZI then .ok (.tup l)else .bad
def jg(l:List T):Rs T:=if l.length<=ZI then .ok (.lst l)else .bad
def ba(f:Y0)(Z:En):Rs T:=f Z >>= kK
def gq(f:Y0)(Z:En):Rs T:=f Z >>= jg
def aW(h:H p=ZB)(o:HO):Same H (upd H p o):=λb u q=>by rw[aH (ck q h)];exact q
def ik(h:H p=ZB)(n:¬ O p)(r:Reps K O H l vs):Rep K O (upd H p (.tup vs)) (.tup l) (.ref p):=
 Rep.Fk.mpr ⟨p,vs,rfl,n,aL,r.same (aW h _)⟩
def jv(h:H p=ZB)(n:¬ O p)(r:Reps K O H l vs):Rep K O (upd H p (.lst vs)) (.lst l) (.ref p):=
 Rep.Do.mpr ⟨p,vs,rfl,n,aL,r.same (aW h _)⟩
def MF{pos:Pos}(h:qz X es f):cg X (.Tuple es x1 pos) (ba f):=by
 intro kt s σ H Q I ⟨Z,O,E,hq⟩;refine J2 h kt s σ H Q I ?_
 obtain⟨Z1,O1,E1,h1⟩:=fF E hq;refine⟨Z1,O1,E1,Post.mono h1 λts H1 s1 q vs r=>?_⟩
 obtain⟨t',r',s',E',q'⟩:=q vs r;unfold kK at q'
 split at q'
 ·rename_i hz
  refine⟨by rw[<-r'.length];exact hz,λp hp=>?_⟩
  exact q' _ (aW hp _) _ (ik hp (E'.fresh hp) r')
 ·exact q'.elim
def ML{pos:Pos}(h:qz X es f):cg X (.List es pos) (gq f):=by
 intro kt s σ H Q I ⟨Z,O,E,hq⟩;refine J6 h kt s σ H Q I ?_
 obtain⟨Z1,O1,E1,h1⟩:=fF E hq;refine⟨Z1,O1,E1,Post.mono h1 λts H1 s1 q vs r=>?_⟩
 obtain⟨t',r',s',E',q'⟩:=q vs r;unfold jg at q'
 split at q'
 ·rename_i hz
  refine⟨by rw[<-r'.length];exact hz,λp hp=>?_⟩
  exact q' _ (aW hp _) _ (jv hp (E'.fresh hp) r')
 ·exact q'.elim
def OpT(X:Cx)(f:Px->Px->Sem Px)(g:T->T->Rs T):Prop:=
 ∀(kt:Uf)(s:Pz)(σ:L2.St)(H:Hp)(O:Ow)(x y:T)(vx vy:V)(ux uy:Px)(Q:VK),Inv X kt σ H s->(∀p,H p=ZB->¬ O p)->Rep X.K O H x vx->Rep X.K O H y vy->RelV vx ux->RelV vy uy →
  Post X H (g x y) (λt H'=>∀v,Rep X.K O H' t v->Q v H')->ZJ (ZK X.prog X.w) X.A (f ux uy) (EP X kt σ Q) X.xe s
def o2(g:T->T->Rs T)(fa fb:Y2)(Z:En):Rs T:=do
 let x <-fa Z
 let y <-fb Z
 g x y
variable {a b c:ZG}{fa fb fc:Y2}
def MR{op:Xy}(ho:OpT X (Rt op) g)(ha:cg X a fa)(hb:cg X b fb):cg X (.BinOp a op b pos) (o2 g fa fb):=by
 intro kt s σ H Q I ⟨Z,O,E,hq⟩
 have h1:=a6 E hq;refine wpAny_BinOp (bV (ha kt s σ H _ I h1) λv s1 hh_=>?_)
 obtain⟨x,H1,I1,r1,t,rt,s',E',q1⟩:=hh_
 have h2:=a6 (f:=fb) E' q1;refine bV (hb kt s1 σ H1 _ I1 h2) λu s2 hh_=>?_
 obtain⟨y,H2,I2,r2,t2,rt2,s'',E'',q2⟩:=hh_;exact ho kt s2 σ H2 O t t2 x y v u Q I2 (λp=>E''.fresh) (rt.same s'') rt2 r1 r2 q2
def MQ(ho:OpT X (QC op) g)(ha:cg X a fa)(hb:cg X b fb)(hm:autoParam (SZ op b=ZD) u_):cg X (.Compare a [op] [b] pos) (o2 g fa fb):=by
 intro kt s σ H Q I ⟨Z,O,E,hq⟩
 have h1:=a6 E hq;refine wpAny_Compare1 (bV (ha kt s σ H _ I h1) λv s1 ⟨x,H1,I1,r1,t,rt,s',E',q1⟩=>?_) hm
 have h2:=a6 (f:=fb) E' q1;refine bV (hb kt s1 σ H1 _ I1 h2) λu s2 hh_=>?_
 obtain⟨y,H2,I2,r2,t2,rt2,s'',E'',q2⟩:=hh_;exact ho kt s2 σ H2 O t t2 x y v u Q I2 (λp=>E''.fresh) (rt.same s'') rt2 r1 r2 q2
def OpT.of{f:Px->Px->Sem Px}{r:R2}(h:oP X f r)
  (w:∀(H:Hp)(O:Ow)(x y:T)(vx vy:V)(Q:VK),(∀p,H p=ZB->¬ O p)->Rep X.K O H x vx->Rep X.K O H y vy->Post X H (g x y) (λt H'=>∀v,Rep X.K O H' t v->Q v H')->r vx vy H Q):OpT X f g:=
 λkt s σ H O x y vx vy ux uy Q I hf rx ry r1 r2 hp=>h kt s σ H vx vy ux uy Q I r1 r2 (w H O x y vx vy Q hf rx ry hp)
def iC:T->T->Rs T
 |.int i,.int j=>.ok (.int (i - j))
 |_,_=>.bad
def gR:OpT X (Rt .Sub) iC:=OpT.of Kc λH O x y vx vy Q hf rx ry hp=>by
 unfold iC at hp
 split at hp
 ·exact⟨_,_,Rep.AC.mp rx,Rep.AC.mp ry,hp H (Same.refl H) _ (Rep.GT _)⟩
 ·exact hp.elim
def lZ:T->T->Rs T
 |.int i,.int j=>if 0<j/\j<1073741824 then .ok (.int (i / j))else .bad
 |_,_=>.bad
def lR:T->T->Rs T
 |.int i,.int j=>if 0<j then .ok (.int (i % j))else .bad
 |_,_=>.bad
def oq:OpT X (Rt .FloorDiv) lZ:=OpT.of GL λH O x y vx vy Q hf rx ry hp=>by
 unfold lZ at hp
 split at hp
 ·split at hp
  ·rename_i h
   exact⟨_,_,Rep.AC.mp rx,Rep.AC.mp ry,h,hp H (Same.refl H) _ (Rep.GT _)⟩
  ·exact hp.elim
 ·exact hp.elim
def kY:OpT X (Rt .Mod) lR:=OpT.of Kf λH O x y vx vy Q hf rx ry hp=>by
 unfold lR at hp
 split at hp
 ·split at hp
  ·rename_i h
   exact⟨_,_,Rep.AC.mp rx,Rep.AC.mp ry,h,hp H (Same.refl H) _ (Rep.GT _)⟩
  ·exact hp.elim
 ·exact hp.elim
def CW:oP X (Rt .Add) (λx y H Q=>∃a b ys,x=.ref a/\y=.ref b/\SqT X.K H a []/\SqT X.K H b ys/\Q (.ref b) H):=by
 intro kt s σ H x y v u Q I rx ry h;obtain⟨a,b,ys,rfl,rfl,ha,hb,q⟩:=h;cases rx;cases ry;obtain⟨its,r1,p1,_⟩:=I.tuple ha;obtain⟨its2,r2,p2,_⟩:=I.tuple hb;obtain⟨⟨cls,dd,data,sl⟩,ho,hc,n,hd⟩:=id p1;obtain⟨⟨cls2,dd2,data2,sl2⟩,ho2,hc2,n2,hd2⟩:=id p2;simp only at hc hd hc2 hd2;subst hc hd hc2 hd2
 have e:its=[]:=by cases r1;rfl
 subst e;exact HT_concat0 ho ho2 ⟨.ref b,H,I,rfl,q⟩
where
 HT_concat0 {prog:Qg} {w:QP} {A:Qq} {E:WP} {s:Pz} {t b:ZE} {ws:Array Px} {n n2:Nat} {dd dd2:Option ZE} {sl sl2:Array (Option Px)} {Q:WP}
   (ho:s.heap.get? t=ZA {cls:=.type "tuple",dict:=dd,data:=.seq (([]:List Px).toArray) n,slots:=sl}) (ho2:s.heap.get? b=ZA {cls:=.type "tuple",dict:=dd2,data:=.seq ws n2,slots:=sl2}) (h:Q (.ref b) s):
   ZJ (ZK prog w) A (Rt .Add (.ref t) (.ref b)) Q E s:=
  Xc ⟨_,ho,rfl⟩ ⟨_,ho2,rfl⟩ Vg Ws Tw Th (S6 _ _)
   (tuple_addW0 t b _ _ n n2 dd dd2 sl sl2 (by simp)) ⟨ho,ho2,h⟩
def aS:T->T->Rs T
 |.int i,.int j=>.ok (.int (i+j))
 |.str i,.str j=>if i.length+j.length<=ZI then .ok (.str (i++j))else .bad
 |.tup l,.tup m=>kK (l++m)
 |.lst l,.lst m=>jg (l++m)
 |_,_=>.bad
def aN:OpT X (Rt .Add) aS:=by
 intro kt s σ H O x y vx vy ux uy Q I hf rx ry r1 r2 hp;unfold aS at hp
 split at hp
 ·exact Ki kt s σ H vx vy ux uy Q I r1 r2 ⟨_,_,Rep.AC.mp rx,Rep.AC.mp ry,hp H (Same.refl H) _ (Rep.GT _)⟩
 ·split at hp
  ·rename_i h
   exact yb kt s σ H vx vy ux uy Q I r1 r2 ⟨_,_,Rep.IR.mp rx,Rep.IR.mp ry,h,hp H (Same.refl H) _ (Rep.Po _)⟩
  ·exact hp.elim
 ·rename_i l m
  unfold kK at hp
  split at hp
  ·rename_i h
   obtain⟨a,vs,e1,n1,q1,z1⟩:=Rep.Fk.mp rx;obtain⟨b,ws,e2,n2,q2,z2⟩:=Rep.Fk.mp ry
   have hl1:=z1.length
   have hl2:=z2.length;rw[PK]at h
   cases vs with
   |nil=>
    have e:l=[]:=by cases l with
     |nil=>rfl
     |cons _ _=>simp at hl1
    subst e
    exact CW kt s σ H vx vy ux uy Q I r1 r2 ⟨a,b,ws,e1,e2,SqT.of q1,SqT.of q2,hp H (Same.refl H) _ (Rep.Fk.mpr ⟨b,ws,rfl,n2,q2,z2⟩)⟩
   |cons v0 vr=>
    refine GN kt s σ H vx vy ux uy Q I r1 r2 ⟨a,b,v0::vr,ws,e1,e2,SqT.of q1,SqT.of q2,by simp,by omega,λhw=>?_,λ_ p hpn=>?_⟩
    ·subst hw
     have e:m=[]:=by cases m with
      |nil=>rfl
      |cons _ _=>simp at hl2
     subst e;rw[Ql]at hp;exact hp H (Same.refl H) _ (Rep.Fk.mpr ⟨a,_,rfl,n1,q1,z1⟩)
    ·exact hp _ (aW hpn _) _ (ik hpn (hf p hpn) (z1.append z2))
  ·exact hp.elim
 ·rename_i l m
  unfold jg at hp
  split at hp
  ·rename_i h
   obtain⟨a,vs,e1,n1,q1,z1⟩:=Rep.Do.mp rx;obtain⟨b,ws,e2,n2,q2,z2⟩:=Rep.Do.mp ry
   have hl1:=z1.length
   have hl2:=z2.length;rw[PK]at h;exact Kh kt s σ H vx vy ux uy Q I r1 r2 ⟨a,b,vs,ws,e1,e2,q1,q2,by omega,λp hpn=>hp _ (aW hpn _) _ (jv hpn (hf p hpn) (z1.append z2))⟩
  ·exact hp.elim
 ·exact hp.elim
def yk:T->T->Rs T
 |.int i,.int j=>if (-(2 ^ 64)<i/\i<2 ^ 64)\/(-(2 ^ 64)<j/\j<2 ^ 64)then .ok (.int (i*j))else .bad
 |.lst l,.int k=>if -(2 ^ 63)<=k/\k<2 ^ 63/\l.length*k.toNat<=ZI then .ok (.lst (Qe k.toNat l).flatten)else .bad
 |_,_=>.bad
theorem Reps.rep(h:Reps K O H l vs):∀k:Nat,Reps K O H (Qe k l).flatten (Qe k vs).flatten
 |0=>Reps.GM
 |k+1=>by rw[Ry,Ry,Sk,Sk];exact h.append (h.rep k)
def J9:OpT X (Rt .Mult) yk:=by
 intro kt s σ H O x y vx vy ux uy Q I hf rx ry r1 r2 hp;unfold yk at hp
 split at hp
 ·split at hp
  ·rename_i h
   exact Ke kt s σ H vx vy ux uy Q I r1 r2 ⟨_,_,Rep.AC.mp rx,Rep.AC.mp ry,h,hp H (Same.refl H) _ (Rep.GT _)⟩
  ·exact hp.elim
 ·split at hp
  ·rename_i l k h
   obtain⟨a,vs,e1,n1,q1,z1⟩:=Rep.Do.mp rx
   have hl1:=z1.length;exact Kd kt s σ H vx vy ux uy Q I r1 r2 ⟨a,k,vs,e1,Rep.AC.mp ry,q1,h.1,h.2.1,by rw[<-hl1];exact h.2.2,λp hpn=>hp _ (aW hpn _) _ (jv hpn (hf p hpn) (z1.rep _))⟩
  ·exact hp.elim
 ·exact hp.elim
def lb:T->Rs T
 |.int i=>.ok (.int (-i))
 |_=>.bad
def o1(g:T->Rs T)(fa:Y2)(Z:En):Rs T:=fa Z >>= g
def MK(ha:cg X a fa):cg X (.UnaryOp .USub a pos) (o1 lb fa):=by
 intro kt s σ H Q I ⟨Z,O,E,hq⟩;refine MV Jb ha kt s σ H Q I ?_
 obtain⟨Z1,O1,E1,h1⟩:=a6 E hq;refine⟨Z1,O1,E1,Post.mono h1 λts H1 s1 q vs r=>?_⟩
 obtain⟨t',r',s',E',q'⟩:=q vs r;unfold lb at q'
 split at q'
 ·exact⟨_,Rep.AC.mp r',q' H1 (Same.refl H1) _ (Rep.GT _)⟩
 ·exact q'.elim
def xj(p:Int->Int->Bool):T->T->Rs T
 |.int i,.int j=>.ok (.bl (p i j))
 |_,_=>.bad
def ub{p:Int->Int->Bool}(h:oP X (QC op) (Ic λi j=>.bl (p i j))):OpT X (QC op) (xj p):=OpT.of h λH O x y vx vy Q hf rx ry hp=>by
 unfold xj at hp
 split at hp
 ·exact⟨_,_,Rep.AC.mp rx,Rep.AC.mp ry,hp H (Same.refl H) _ (Rep.bl_ _)⟩
 ·exact hp.elim
abbrev G3:=xj λi j=>decide (i<j)
abbrev Nm:=xj λi j=>decide (i<=j)
abbrev NK:=xj λi j=>decide (j<i)
def vR:OpT X (QC .Lt) G3:=ub M0
def zK:OpT X (QC .LtE) Nm:=ub M4
def Ii:OpT X (QC .Gt) NK:=ub M5
def T.isN:T->Bool
 |.non=>ZC
 |_=>ZD
def Rep.isN{t:T}(r:Rep K O H t v):decide (v=.non)=t.isN:=by
 cases t with
 |non=>rw[Rep.On.mp r];rfl
 |bl _=>rw[Rep.FS.mp r];rfl
 |int _=>rw[Rep.AC.mp r];rfl
 |str _=>rw[Rep.IR.mp r];rfl
 |tup _=>obtain⟨a,vs,e,_⟩:=Rep.Fk.mp r;rw[e];rfl
 |lst _=>obtain⟨a,vs,e,_⟩:=Rep.Do.mp r;rw[e];rfl
 |scr _=>unfold Rep at r;obtain⟨a,e,_⟩:=r;rw[e];rfl
 |dct _ _=>obtain⟨a,_,e,_⟩:=Rep.GE.mp r;rw[e];rfl
 |ob _ _ _=>obtain⟨a,_,_,e,_⟩:=Rep.Oq.mp r;rw[e];rfl
def kz:T->T->Rs T
 |x,.non=>.ok (.bl x.isN)
 |_,_=>.bad
def jy:T->T->Rs T
 |x,.non=>.ok (.bl (!x.isN))
 |_,_=>.bad
def rQ:OpT X (QC .Is) kz:=OpT.of Kg λH O x y vx vy Q hf rx ry hp=>by
 unfold kz at hp
 split at hp
 ·exact⟨Rep.On.mp ry,hp H (Same.refl H) _ (by rw[rx.isN];exact Rep.bl_ _)⟩
 ·exact hp.elim
def lN:OpT X (QC .IsNot) jy:=OpT.of GK λH O x y vx vy Q hf rx ry hp=>by
 unfold jy at hp
 split at hp
 ·exact⟨Rep.On.mp ry,hp H (Same.refl H) _ (by rw[rx.isN];exact Rep.bl_ _)⟩
 ·exact hp.elim
end
open PySem.SeqAt
mutual
def ReV(s:Pz):T->Px->Prop
 |.non,u=>u=.none
 |.bl b,u=>u=.bool b
 |.int i,u=>∃t,u=.int i t
 |.str x,u=>∃t,u=.str x t
 |.tup l,u=>∃a its,u=.ref a/\s.heap.IsTuple a (W2 its)/\ReVs s l its
 |.lst l,u=>∃a its,u=.ref a/\s.heap.IsList a (W2 its)/\ReVs s l its
 |.scr l,u=>∃a its,u=.ref a/\s.heap.IsList a (W2 its)/\R0 its l
 |.dct _ _,_=>False
 |.ob _ _ _,_=>False
def ReVs(s:Pz):List T->List Px->Prop
 |[],us=>us=[]
 |t::r,us=>∃u ws,us=u::ws/\ReV s t u/\ReVs s r ws
end
def ReVs.Da:ReVs s [] us↔us=[]:=by unfold ReVs;exact SC
def ReVs.me{t:T}:ReVs s (t::l) us↔ ∃u ws,us=u::ws/\ReV s t u/\ReVs s l ws:=by
 constructor
 ·intro h;unfold ReVs at h;exact h
 ·intro h;unfold ReVs;exact h
theorem ReVs.length:∀{l:List T}{us:List Px},ReVs s l us->l.length=us.length
 |[],us,r=>by rw[ReVs.Da.mp r];rfl
 |t::l,us,r=>by
  obtain⟨v,ws,rfl,_,q⟩:=ReVs.me.mp r;simp[q.length]
theorem ReVs.get:∀{l:List T}{us:List Px}{i:Nat}{t:T},ReVs s l us->l[i]?=ZA t->∃v,us[i]?=ZA v/\ReV s t v
 |[],_,_,_,_,e=>by simp at e
 |t::l,vs,i,u,r,e=>by
  obtain⟨v,ws,rfl,p,q⟩:=ReVs.me.mp r
  cases i with
  |zero=>simp at e;subst e;exact⟨v,rfl,p⟩
  |succ i=>
   obtain⟨z,e1,e2⟩:=q.get (i:=i) (t:=u) (by simpa using e)
   exact⟨z,by simpa using e1,e2⟩
mutual
def T.nd:T->Bool
 |.dct _ _=>ZD
 |.ob _ _ _=>ZD
 |.tup l=>nds l
 |.lst l=>nds l
 |_=>ZC
def nds:List T->Bool
 |[] =>ZC
 |t::l=>t.nd&&nds l
end
def v9{t:T}(h:nds (t::l)=ZC):t.nd=ZC/\nds l=ZC:=by unfold nds at h;exact QR.mp h
section
variable {kt:Uf}
mutual
theorem Rep.val(I:Inv X kt σ H s):∀{t:T}{v:V}{u:Px},t.nd=ZC->Rep X.K O H t v->RelV v u->ReV s t u
 |.non,v,u,hn,r,q=>by cases Rep.On.mp r;unfold ReV;exact q
 |.bl b,v,u,hn,r,q=>by cases Rep.FS.mp r;unfold ReV;exact q
 |.int b,v,u,hn,r,q=>by cases Rep.AC.mp r;unfold ReV;exact q
 |.str b,v,u,hn,r,q=>by cases Rep.IR.mp r;unfold ReV;exact q
 |.tup l,v,u,hn,r,q=>by
  obtain⟨a,vs,rfl,_,z,w⟩:=Rep.Fk.mp r;cases q;obtain⟨its,rv,p,_⟩:=I.tuple (SqT.of z);unfold ReV
  exact⟨a,its,rfl,p,Reps.val I (by unfold T.nd at hn;exact hn) w rv⟩
 |.lst l,v,u,hn,r,q=>by
  obtain⟨a,vs,rfl,_,z,w⟩:=Rep.Do.mp r;cases q;obtain⟨its,rv,p,_⟩:=I.list (SqL.of z);unfold ReV
  exact⟨a,its,rfl,p.isList,Reps.val I (by unfold T.nd at hn;exact hn) w rv⟩
 |.scr l,v,u,hn,r,q=>by
  unfold Rep at r;obtain⟨a,rfl,_,z⟩:=r;cases q;obtain⟨its,rv,p,_⟩:=I.list z;unfold ReV
  exact⟨a,its,rfl,p.isList,yG rv⟩
 |.dct _ _,v,u,hn,r,q=>by cases hn
 |.ob _ _ _,v,u,hn,r,q=>by cases hn
theorem Reps.val(I:Inv X kt σ H s):∀{l:List T}{vs:List V}{us:List Px},nds l=ZC->Reps X.K O H l vs->Vals vs us->ReVs s l us
 |[],vs,us,hn,r,q=>by
  cases Reps.Da.mp r;cases q
  exact ReVs.Da.mpr rfl
 |t::l,vs,us,hn,r,q=>by
  obtain⟨v,ws,rfl,p,z⟩:=Reps.me.mp r
  cases q with
  |cons q1 q2=>exact ReVs.me.mpr ⟨_,_,rfl,Rep.val I (v9 hn).1 p q1,Reps.val I (v9 hn).2 z q2⟩
end
end
mutual
def T.dep:T->Nat
 |.tup l=>deps l+1
 |.lst l=>deps l+1
 |.scr _=>1
 |_=>0
def deps:List T->Nat
 |[] =>0
 |t::l=>max t.dep (deps l)
end
def HD(i:Int):T->Bool
 |.int j=>i == j
 |.bl b=>i == (if b then 1 else 0)
 |_=>ZD
def kM:List Int->List T->Bool
 |[],[] =>ZC
 |i::r,t::l=>HD i t&&kM r l
 |_,_=>ZD
mutual
def aX:T->T->Bool
 |.non,.non=>ZC
 |.bl a,.bl b=>a == b
 |.bl a,.int b=>(if a then 1 else 0) == b
 |.int a,.bl b=>a == (if b then 1 else 0)
 |.int a,.int b=>a == b
 |.str a,.str b=>a == b
 |.tup l,.tup m=>beqTs l m
 |.lst l,.lst m=>beqTs l m
 |.lst l,.scr m=>beqTs l (m.map .int)
 |.scr l,.lst m=>kM l m
 |.scr l,.scr m=>l == m
 |_,_=>ZD
def beqTs:List T->List T->Bool
 |[],[] =>ZC
 |t::l,u::m=>aX t u&&beqTs l m
 |_,_=>ZD
end
def qy(n:Nat)(e:Nat->Bool):(Q2 (n+1)).all e=(e 0&&(Q2 n).all λj=>e (j+1)):=by
 rw[List.range_succ_eq_map,Ug,W3];rfl
theorem m4:∀(l m:List T)(e:Nat->Bool),(∀(j:Nat) t u,l[j]?=ZA t->m[j]?=ZA u->e j=aX t u) →
  beqTs l m=((Q2 (min l.length m.length)).all e&&l.length == m.length)
 |[],[],_,_=>by simp[beqTs]
 |[],_::_,_,_=>by simp[beqTs]
 |_::_,[],_,_=>by simp[beqTs]
 |t::l,u::m,e,h=>by
  have ih:=m4 l m (λj=>e (j+1)) λj t' u' h1 h2=>h (j+1) t' u' (by simpa using h1) (by simpa using h2)
  rw[beqTs,ih]
  have h0:=h 0 t u rfl rfl;simp only[PH];rw[Nat.succ_min_succ,qy,h0,Bool.and_assoc]
  congr 2
  simp
theorem sQ:∀{l m:List T},l.length≠m.length->beqTs l m=ZD
 |[],[],h=>absurd rfl h
 |[],_::_,_=>by simp[beqTs]
 |_::_,[],_=>by simp[beqTs]
 |t::l,u::m,h=>by
  rw[beqTs,sQ (l:=l) (m:=m) (by intro z;exact h (by simp[z]))]
  simp
theorem jP:∀{l:List T}{i:Nat}{t:T},l[i]?=ZA t->t.dep<=deps l
 |[],_,_,e=>by simp at e
 |t::l,0,u,e=>by simp at e;subst e;unfold deps;exact Nat.le_max_left _ _
 |t::l,i+1,u,e=>by
  have:=jP (l:=l) (i:=i) (t:=u) (by simpa using e)
  unfold deps;exact Qn this (Nat.le_max_right _ _)
def jK{x y:List Px}(h:s.heap.IsTuple a x.toArray)(h':s.heap.IsTuple a y.toArray):x=y:=by
 obtain⟨o,e,_,n,d⟩:=h;obtain⟨o',e',_,n',d'⟩:=h';rw[e]at e';cases e';rw[d]at d';injection d' with d1 _
 simpa using congrArg Vm d1
def de{x y:List Px}(h:s.heap.IsList a x.toArray)(h':s.heap.IsList a y.toArray):x=y:=by
 obtain⟨o,e,_,n,d⟩:=h;obtain⟨o',e',_,n',d'⟩:=h';rw[e]at e';cases e';rw[d]at d';injection d' with d1 _
 simpa using congrArg Vm d1
variable{k:Tok}
def BE{t:T}(r:ReV s t (.int i k)):HD i t=ZC:=by
 cases t with
 |non=>unfold ReV at r;cases r
 |bl b=>unfold ReV at r;cases r
 |int j=>unfold ReV at r;obtain⟨t,e⟩:=r;injection e with e1 _;subst e1;simp[HD]
 |str x=>unfold ReV at r;obtain⟨t,e⟩:=r;cases e
 |tup l=>unfold ReV at r;obtain⟨a,its,e,_⟩:=r;cases e
 |lst l=>unfold ReV at r;obtain⟨a,its,e,_⟩:=r;cases e
 |scr l=>unfold ReV at r;obtain⟨a,its,e,_⟩:=r;cases e
 |dct _ _=>unfold ReV at r;exact r.elim
 |ob _ _ _=>unfold ReV at r;exact r.elim
theorem qw:∀{ns:List Int}{us:List Px}{l:List T},R0 us ns->ReVs s l us->kM ns l=ZC
 |[],us,l,h,r=>by
  cases h
  cases l with
  |nil=>rfl
  |cons t l=>obtain⟨_,_,e,_⟩:=ReVs.me.mp r;cases e
 |n::ns,us,l,h,r=>by
  cases h with
  |cons a b hh=>
   cases l with
   |nil=>have:=ReVs.Da.mp r;cases this
   |cons t l=>
    obtain⟨u,ws,e,p,q⟩:=ReVs.me.mp r;injection e with e1 e2
    subst e1 e2;rw[kM,BE p,qw hh q];rfl
theorem d8:∀{us:List Px}{ns:List Int},R0 us ns->ReVs s (ns.map T.int) us
 |_,_,.nil=>ReVs.Da.mpr rfl
 |_,_,.cons n t h=>ReVs.me.mpr ⟨_,_,rfl,by unfold ReV;exact⟨_,rfl⟩,d8 h⟩
theorem jL:∀{us:List Px}{ns ms:List Int},R0 us ns->R0 us ms->ns=ms
 |_,_,_,.nil,.nil=>rfl
 |_,_,_,.cons n t h,.cons _ _ h'=>by rw[jL h h']
mutual
theorem ReV.refl{s:Pz}:∀{t u:T}{v:Px},ReV s t v->ReV s u v->aX t u=ZC
 |.non,u,v,r,q=>by
  unfold ReV at r;subst r
  cases u <;> (unfold ReV at q) <;> first|rfl| (cases q;done)| (obtain⟨_,e⟩:=q;cases e;done)| (obtain⟨_,_,e,_⟩:=q;cases e;done)
 |.bl b,u,v,r,q=>by
  unfold ReV at r;subst r
  cases u <;> (unfold ReV at q) <;> first| (cases q;done)| (cases q;simp[aX];done)| (obtain⟨_,e⟩:=q;cases e;done)| (obtain⟨_,_,e,_⟩:=q;cases e;done)
 |.int b,u,v,r,q=>by
  unfold ReV at r;obtain⟨k,rfl⟩:=r
  cases u <;> (unfold ReV at q) <;> first| (cases q;done)| (obtain⟨_,e⟩:=q;cases e;simp[aX];done)| (obtain⟨_,e⟩:=q;cases e;done)| (obtain⟨_,_,e,_⟩:=q;cases e;done)
 |.str b,u,v,r,q=>by
  unfold ReV at r;obtain⟨k,rfl⟩:=r
  cases u <;> (unfold ReV at q) <;> first| (cases q;done)| (obtain⟨_,e⟩:=q;cases e;simp[aX];done)| (obtain⟨_,e⟩:=q;cases e;done)| (obtain⟨_,_,e,_⟩:=q;cases e;done)
 |.tup l,u,v,r,q=>by
  unfold ReV at r;obtain⟨a,its,rfl,h1,h2⟩:=r
  cases u with
  |non=>unfold ReV at q;cases q
  |dct _ _=>unfold ReV at q;exact q.elim
  |ob _ _ _=>unfold ReV at q;exact q.elim
  |bl _=>unfold ReV at q;cases q
  |int _=>unfold ReV at q;obtain⟨_,e⟩:=q;cases e
  |str _=>unfold ReV at q;obtain⟨_,e⟩:=q;cases e
  |tup m=>
   unfold ReV at q;obtain⟨a',its',e,h1',h2'⟩:=q;injection e with e;subst e
   have:=jK h1 h1';subst this;unfold aX
   exact ReVs.refl h2 h2'
  |lst m=>unfold ReV at q;obtain⟨a',its',e,h1',h2'⟩:=q;injection e with e;subst e;exact absurd rfl (ne_of_list_tuple h1' h1)
  |scr m=>unfold ReV at q;obtain⟨a',its',e,h1',h2'⟩:=q;injection e with e;subst e;exact absurd rfl (ne_of_list_tuple h1' h1)
 |.lst l,u,v,r,q=>by
  unfold ReV at r;obtain⟨a,its,rfl,h1,h2⟩:=r
  cases u with
  |non=>unfold ReV at q;cases q
  |dct _ _=>unfold ReV at q;exact q.elim
  |ob _ _ _=>unfold ReV at q;exact q.elim
  |bl _=>unfold ReV at q;cases q
  |int _=>unfold ReV at q;obtain⟨_,e⟩:=q;cases e
  |str _=>unfold ReV at q;obtain⟨_,e⟩:=q;cases e
  |lst m=>
   unfold ReV at q;obtain⟨a',its',e,h1',h2'⟩:=q;injection e with e;subst e
   have:=de h1 h1';subst this;unfold aX
   exact ReVs.refl h2 h2'
  |tup m=>unfold ReV at q;obtain⟨a',its',e,h1',h2'⟩:=q;injection e with e;subst e;exact absurd rfl (ne_of_list_tuple h1 h1')
  |scr m=>
   unfold ReV at q;obtain⟨a',its',e,h1',h2'⟩:=q;injection e with e;subst e
   have:=de h1 h1';subst this;unfold aX
   exact ReVs.refl h2 (d8 h2')
 |.scr l,u,v,r,q=>by
  unfold ReV at r;obtain⟨a,its,rfl,h1,h2⟩:=r
  cases u with
  |non=>unfold ReV at q;cases q
  |dct _ _=>unfold ReV at q;exact q.elim
  |ob _ _ _=>unfold ReV at q;exact q.elim
  |bl _=>unfold ReV at q;cases q
  |int _=>unfold ReV at q;obtain⟨_,e⟩:=q;cases e
  |str _=>unfold ReV at q;obtain⟨_,e⟩:=q;cases e
  |lst m=>
   unfold ReV at q;obtain⟨a',its',e,h1',h2'⟩:=q;injection e with e;subst e
   have:=de h1 h1';subst this;unfold aX
   exact qw h2 h2'
  |tup m=>unfold ReV at q;obtain⟨a',its',e,h1',h2'⟩:=q;injection e with e;subst e;exact absurd rfl (ne_of_list_tuple h1 h1')
  |scr m=>
   unfold ReV at q;obtain⟨a',its',e,h1',h2'⟩:=q;injection e with e;subst e
   have:=de h1 h1';subst this;unfold aX
   have:=jL h2 h2'
   simp[this]
 |.dct _ _,u,v,r,q=>by unfold ReV at r;exact r.elim
 |.ob _ _ _,u,v,r,q=>by unfold ReV at r;exact r.elim
theorem ReVs.refl{s:Pz}:∀{l m:List T}{us:List Px},ReVs s l us->ReVs s m us->beqTs l m=ZC
 |[],m,us,r,q=>by
  cases ReVs.Da.mp r
  cases m with
  |nil=>simp[beqTs]
  |cons _ _=>obtain⟨_,_,e,_⟩:=ReVs.me.mp q;cases e
 |t::l,m,us,r,q=>by
  obtain⟨v,ws,rfl,p,z⟩:=ReVs.me.mp r
  cases m with
  |nil=>cases ReVs.Da.mp q
  |cons u m=>
   obtain⟨v',ws',e,p',z'⟩:=ReVs.me.mp q;injection e with e1 e2
   subst e1 e2;rw[beqTs,ReV.refl p p',ReVs.refl z z'];rfl
end
theorem qv:∀(l:List Int)(m:List T),kM l m=beqTs (l.map T.int) m
 |[],[] =>by simp[kM,beqTs]
 |[],_::_=>by simp[kM,beqTs]
 |_::_,[] =>by simp[kM,beqTs]
 |i::l,t::m=>by
  rw[kM,PF,beqTs,qv l m]
  congr 1
  cases t <;> simp[HD,aX]
theorem tO:∀(l m:List Int),(l == m)=beqTs (l.map T.int) (m.map T.int)
 |[],[] =>by simp[beqTs]
 |[],_::_=>by simp[beqTs]
 |_::_,[] =>by simp[beqTs]
 |i::l,t::m=>by
  rw[PF,PF,beqTs,<-tO l m];simp[aX]
theorem f9:∀(l:List Int),deps (l.map T.int)=0
 |[] =>rfl
 |i::l=>by rw[PF,deps,f9 l];simp[T.dep]
def j5:T->T->Prop
 |.tup _,.tup _=>False
 |.lst _,.lst _=>False
 |.lst _,.scr _=>False
 |.scr _,.lst _=>False
 |.scr _,.scr _=>False
 |_,_=>True
def wX(A:Qq)(s:Pz)(x y:T)(u v:Px)(hn:j5 x y)(hu:A.units<cLine)(rx:ReV s x u)(ry:ReV s y v):EqAt A s u v (aX x y)/\RcAt A s u v (aX x y)/\RcNeAt A s u v (!aX x y):=by
 match x,y,hn,rx,ry with
 |.dct _ _,_,_,rx,_=>exact(by unfold ReV at rx;exact rx:False).elim
 |.ob _ _ _,_,_,rx,_=>exact(by unfold ReV at rx;exact rx:False).elim
 |_,.dct _ _,_,_,ry=>exact(by unfold ReV at ry;exact ry:False).elim
 |_,.ob _ _ _,_,_,ry=>exact(by unfold ReV at ry;exact ry:False).elim
 |.non,.non,hn,rx,ry=>
  obtain rfl:u=Qx:=by unfold ReV at rx;exact rx
  obtain rfl:v=Qx:=by unfold ReV at ry;exact ry
  exact⟨EqAt.same _,RcAt.none_none ,RcNeAt.none_none ⟩
 |.non,.bl b2,hn,rx,ry=>
  obtain rfl:u=Qx:=by unfold ReV at rx;exact rx
  obtain rfl:v=Q7 b2:=by unfold ReV at ry;exact ry
  exact⟨EqAt.none_bool b2,RcAt.none_bool b2,RcNeAt.none_bool b2⟩
 |.non,.int i2,hn,rx,ry=>
  obtain rfl:u=Qx:=by unfold ReV at rx;exact rx
  obtain⟨k2,rfl⟩:∃k,v=Rl i2 k:=by unfold ReV at ry;exact ry
  exact⟨EqAt.none_int i2 k2,RcAt.none_int i2 k2,RcNeAt.none_int i2 k2⟩
 |.non,.str x2,hn,rx,ry=>
  obtain rfl:u=Qx:=by unfold ReV at rx;exact rx
  obtain⟨k2,rfl⟩:∃k,v=Rv x2 k:=by unfold ReV at ry;exact ry
  exact⟨EqAt.none_str x2 k2,RcAt.none_str x2 k2,RcNeAt.none_str x2 k2⟩
 |.non,.tup l2,hn,rx,ry=>
  obtain rfl:u=Qx:=by unfold ReV at rx;exact rx
  unfold ReV at ry;obtain⟨a2,us2,rfl,h2,q2⟩:=ry
  exact⟨EqAt.none_tuple h2 hu,RcAt.none_tuple h2 hu,RcNeAt.none_tuple h2 hu⟩
 |.non,.lst l2,hn,rx,ry=>
  obtain rfl:u=Qx:=by unfold ReV at rx;exact rx
  unfold ReV at ry;obtain⟨a2,us2,rfl,h2,q2⟩:=ry
  exact⟨EqAt.none_list h2 hu,RcAt.none_list h2 hu,RcNeAt.none_list h2 hu⟩
 |.non,.scr l2,hn,rx,ry=>
  obtain rfl:u=Qx:=by unfold ReV at rx;exact rx
  unfold ReV at ry;obtain⟨a2,us2,rfl,h2,q2⟩:=ry
  exact⟨EqAt.none_list h2 hu,RcAt.none_list h2 hu,RcNeAt.none_list h2 hu⟩
 |.bl b1,.non,hn,rx,ry=>
  obtain rfl:u=Q7 b1:=by unfold ReV at rx;exact rx
  obtain rfl:v=Qx:=by unfold ReV at ry;exact ry
  exact⟨EqAt.bool_none b1,RcAt.bool_none b1,RcNeAt.bool_none b1⟩
 |.bl b1,.bl b2,hn,rx,ry=>
  obtain rfl:u=Q7 b1:=by unfold ReV at rx;exact rx
  obtain rfl:v=Q7 b2:=by unfold ReV at ry;exact ry
  exact⟨EqAt.bool_bool b1 b2,RcAt.bool_bool b1 b2,RcNeAt.bool_bool b1 b2⟩
 |.bl b1,.int i2,hn,rx,ry=>
  obtain rfl:u=Q7 b1:=by unfold ReV at rx;exact rx
  obtain⟨k2,rfl⟩:∃k,v=Rl i2 k:=by unfold ReV at ry;exact ry
  exact⟨EqAt.bool_int b1 i2 k2,RcAt.bool_int b1 i2 k2,RcNeAt.bool_int b1 i2 k2⟩
 |.bl b1,.str x2,hn,rx,ry=>
  obtain rfl:u=Q7 b1:=by unfold ReV at rx;exact rx
  obtain⟨k2,rfl⟩:∃k,v=Rv x2 k:=by unfold ReV at ry;exact ry
  exact⟨EqAt.bool_str b1 x2 k2,RcAt.bool_str b1 x2 k2,RcNeAt.bool_str b1 x2 k2⟩
 |.bl b1,.tup l2,hn,rx,ry=>
  obtain rfl:u=Q7 b1:=by unfold ReV at rx;exact rx
  unfold ReV at ry;obtain⟨a2,us2,rfl,h2,q2⟩:=ry
  exact⟨EqAt.bool_tuple b1 h2 hu,RcAt.bool_tuple b1 h2 hu,RcNeAt.bool_tuple b1 h2 hu⟩
 |.bl b1,.lst l2,hn,rx,ry=>
  obtain rfl:u=Q7 b1:=by unfold ReV at rx;exact rx
  unfold ReV at ry;obtain⟨a2,us2,rfl,h2,q2⟩:=ry
  exact⟨EqAt.bool_list b1 h2 hu,RcAt.bool_list b1 h2 hu,RcNeAt.bool_list b1 h2 hu⟩
 |.bl b1,.scr l2,hn,rx,ry=>
  obtain rfl:u=Q7 b1:=by unfold ReV at rx;exact rx
  unfold ReV at ry;obtain⟨a2,us2,rfl,h2,q2⟩:=ry
  exact⟨EqAt.bool_list b1 h2 hu,RcAt.bool_list b1 h2 hu,RcNeAt.bool_list b1 h2 hu⟩
 |.int i1,.non,hn,rx,ry=>
  obtain⟨k1,rfl⟩:∃k,u=Rl i1 k:=by unfold ReV at rx;exact rx
  obtain rfl:v=Qx:=by unfold ReV at ry;exact ry
  exact⟨EqAt.int_none i1 k1,RcAt.int_none i1 k1,RcNeAt.int_none i1 k1⟩
 |.int i1,.bl b2,hn,rx,ry=>
  obtain⟨k1,rfl⟩:∃k,u=Rl i1 k:=by unfold ReV at rx;exact rx
  obtain rfl:v=Q7 b2:=by unfold ReV at ry;exact ry
  exact⟨EqAt.int_bool i1 k1 b2,RcAt.int_bool i1 k1 b2,RcNeAt.int_bool i1 k1 b2⟩
 |.int i1,.int i2,hn,rx,ry=>
  obtain⟨k1,rfl⟩:∃k,u=Rl i1 k:=by unfold ReV at rx;exact rx
  obtain⟨k2,rfl⟩:∃k,v=Rl i2 k:=by unfold ReV at ry;exact ry
  exact⟨EqAt.int_int i1 k1 i2 k2,RcAt.int_int i1 k1 i2 k2,RcNeAt.int_int i1 k1 i2 k2⟩
 |.int i1,.str x2,hn,rx,ry=>
  obtain⟨k1,rfl⟩:∃k,u=Rl i1 k:=by unfold ReV at rx;exact rx
  obtain⟨k2,rfl⟩:∃k,v=Rv x2 k:=by unfold ReV at ry;exact ry
  exact⟨EqAt.int_str i1 k1 x2 k2,RcAt.int_str i1 k1 x2 k2,RcNeAt.int_str i1 k1 x2 k2⟩
 |.int i1,.tup l2,hn,rx,ry=>
  obtain⟨k1,rfl⟩:∃k,u=Rl i1 k:=by unfold ReV at rx;exact rx
  unfold ReV at ry;obtain⟨a2,us2,rfl,h2,q2⟩:=ry
  exact⟨EqAt.int_tuple i1 k1 h2 hu,RcAt.int_tuple i1 k1 h2 hu,RcNeAt.int_tuple i1 k1 h2 hu⟩
 |.int i1,.lst l2,hn,rx,ry=>
  obtain⟨k1,rfl⟩:∃k,u=Rl i1 k:=by unfold ReV at rx;exact rx
  unfold ReV at ry;obtain⟨a2,us2,rfl,h2,q2⟩:=ry
  exact⟨EqAt.int_list i1 k1 h2 hu,RcAt.int_list i1 k1 h2 hu,RcNeAt.int_list i1 k1 h2 hu⟩
 |.int i1,.scr l2,hn,rx,ry=>
  obtain⟨k1,rfl⟩:∃k,u=Rl i1 k:=by unfold ReV at rx;exact rx
  unfold ReV at ry;obtain⟨a2,us2,rfl,h2,q2⟩:=ry
  exact⟨EqAt.int_list i1 k1 h2 hu,RcAt.int_list i1 k1 h2 hu,RcNeAt.int_list i1 k1 h2 hu⟩
 |.str x1,.non,hn,rx,ry=>
  obtain⟨k1,rfl⟩:∃k,u=Rv x1 k:=by unfold ReV at rx;exact rx
  obtain rfl:v=Qx:=by unfold ReV at ry;exact ry
  exact⟨EqAt.str_none x1 k1,RcAt.str_none x1 k1,RcNeAt.str_none x1 k1⟩
 |.str x1,.bl b2,hn,rx,ry=>
  obtain⟨k1,rfl⟩:∃k,u=Rv x1 k:=by unfold ReV at rx;exact rx
  obtain rfl:v=Q7 b2:=by unfold ReV at ry;exact ry
  exact⟨EqAt.str_bool x1 k1 b2,RcAt.str_bool x1 k1 b2,RcNeAt.str_bool x1 k1 b2⟩
 |.str x1,.int i2,hn,rx,ry=>
  obtain⟨k1,rfl⟩:∃k,u=Rv x1 k:=by unfold ReV at rx;exact rx
  obtain⟨k2,rfl⟩:∃k,v=Rl i2 k:=by unfold ReV at ry;exact ry
  exact⟨EqAt.str_int x1 k1 i2 k2,RcAt.str_int x1 k1 i2 k2,RcNeAt.str_int x1 k1 i2 k2⟩
 |.str x1,.str x2,hn,rx,ry=>
  obtain⟨k1,rfl⟩:∃k,u=Rv x1 k:=by unfold ReV at rx;exact rx
  obtain⟨k2,rfl⟩:∃k,v=Rv x2 k:=by unfold ReV at ry;exact ry
  exact⟨EqAt.str_str x1 k1 x2 k2,RcAt.str_str x1 k1 x2 k2,RcNeAt.str_str x1 k1 x2 k2⟩
 |.str x1,.tup l2,hn,rx,ry=>
  obtain⟨k1,rfl⟩:∃k,u=Rv x1 k:=by unfold ReV at rx;exact rx
  unfold ReV at ry;obtain⟨a2,us2,rfl,h2,q2⟩:=ry
  exact⟨EqAt.str_tuple x1 k1 h2 hu,RcAt.str_tuple x1 k1 h2 hu,RcNeAt.str_tuple x1 k1 h2 hu⟩
 |.str x1,.lst l2,hn,rx,ry=>
  obtain⟨k1,rfl⟩:∃k,u=Rv x1 k:=by unfold ReV at rx;exact rx
  unfold ReV at ry;obtain⟨a2,us2,rfl,h2,q2⟩:=ry
  exact⟨EqAt.str_list x1 k1 h2 hu,RcAt.str_list x1 k1 h2 hu,RcNeAt.str_list x1 k1 h2 hu⟩
 |.str x1,.scr l2,hn,rx,ry=>
  obtain⟨k1,rfl⟩:∃k,u=Rv x1 k:=by unfold ReV at rx;exact rx
  unfold ReV at ry;obtain⟨a2,us2,rfl,h2,q2⟩:=ry
  exact⟨EqAt.str_list x1 k1 h2 hu,RcAt.str_list x1 k1 h2 hu,RcNeAt.str_list x1 k1 h2 hu⟩
 |.tup l1,.non,hn,rx,ry=>
  unfold ReV at rx;obtain⟨a1,us1,rfl,h1,q1⟩:=rx;obtain rfl:v=Qx:=by unfold ReV at ry;exact ry
  exact⟨EqAt.tuple_none h1 hu,RcAt.tuple_none h1 hu,RcNeAt.tuple_none h1 hu⟩
 |.tup l1,.bl b2,hn,rx,ry=>
  unfold ReV at rx;obtain⟨a1,us1,rfl,h1,q1⟩:=rx;obtain rfl:v=Q7 b2:=by unfold ReV at ry;exact ry
  exact⟨EqAt.tuple_bool b2 h1 hu,RcAt.tuple_bool b2 h1 hu,RcNeAt.tuple_bool b2 h1 hu⟩
 |.tup l1,.int i2,hn,rx,ry=>
  unfold ReV at rx;obtain⟨a1,us1,rfl,h1,q1⟩:=rx;obtain⟨k2,rfl⟩:∃k,v=Rl i2 k:=by unfold ReV at ry;exact ry
  exact⟨EqAt.tuple_int i2 k2 h1 hu,RcAt.tuple_int i2 k2 h1 hu,RcNeAt.tuple_int i2 k2 h1 hu⟩
 |.tup l1,.str x2,hn,rx,ry=>
  unfold ReV at rx;obtain⟨a1,us1,rfl,h1,q1⟩:=rx;obtain⟨k2,rfl⟩:∃k,v=Rv x2 k:=by unfold ReV at ry;exact ry
  exact⟨EqAt.tuple_str x2 k2 h1 hu,RcAt.tuple_str x2 k2 h1 hu,RcNeAt.tuple_str x2 k2 h1 hu⟩
 |.tup _,.tup _,hn,_,_=>exact hn.elim
 |.tup l1,.lst l2,hn,rx,ry=>
  unfold ReV at rx;obtain⟨a1,us1,rfl,h1,q1⟩:=rx;unfold ReV at ry;obtain⟨a2,us2,rfl,h2,q2⟩:=ry
  exact⟨EqAt.tuple_list h1 h2 hu,RcAt.tuple_list h1 h2 hu,RcNeAt.tuple_list h1 h2 hu⟩
 |.tup l1,.scr l2,hn,rx,ry=>
  unfold ReV at rx;obtain⟨a1,us1,rfl,h1,q1⟩:=rx;unfold ReV at ry;obtain⟨a2,us2,rfl,h2,q2⟩:=ry
  exact⟨EqAt.tuple_list h1 h2 hu,RcAt.tuple_list h1 h2 hu,RcNeAt.tuple_list h1 h2 hu⟩
 |.lst l1,.non,hn,rx,ry=>
  unfold ReV at rx;obtain⟨a1,us1,rfl,h1,q1⟩:=rx;obtain rfl:v=Qx:=by unfold ReV at ry;exact ry
  exact⟨EqAt.list_none h1 hu,RcAt.list_none h1 hu,RcNeAt.list_none h1 hu⟩
 |.lst l1,.bl b2,hn,rx,ry=>
  unfold ReV at rx;obtain⟨a1,us1,rfl,h1,q1⟩:=rx;obtain rfl:v=Q7 b2:=by unfold ReV at ry;exact ry
  exact⟨EqAt.list_bool b2 h1 hu,RcAt.list_bool b2 h1 hu,RcNeAt.list_bool b2 h1 hu⟩
 |.lst l1,.int i2,hn,rx,ry=>
  unfold ReV at rx;obtain⟨a1,us1,rfl,h1,q1⟩:=rx;obtain⟨k2,rfl⟩:∃k,v=Rl i2 k:=by unfold ReV at ry;exact ry
  exact⟨EqAt.list_int i2 k2 h1 hu,RcAt.list_int i2 k2 h1 hu,RcNeAt.list_int i2 k2 h1 hu⟩
 |.lst l1,.str x2,hn,rx,ry=>
  unfold ReV at rx;obtain⟨a1,us1,rfl,h1,q1⟩:=rx;obtain⟨k2,rfl⟩:∃k,v=Rv x2 k:=by unfold ReV at ry;exact ry
  exact⟨EqAt.list_str x2 k2 h1 hu,RcAt.list_str x2 k2 h1 hu,RcNeAt.list_str x2 k2 h1 hu⟩
 |.lst l1,.tup l2,hn,rx,ry=>
  unfold ReV at rx;obtain⟨a1,us1,rfl,h1,q1⟩:=rx;unfold ReV at ry;obtain⟨a2,us2,rfl,h2,q2⟩:=ry
  exact⟨EqAt.list_tuple h1 h2 hu,RcAt.list_tuple h1 h2 hu,RcNeAt.list_tuple h1 h2 hu⟩
 |.lst _,.lst _,hn,_,_=>exact hn.elim
 |.lst _,.scr _,hn,_,_=>exact hn.elim
 |.scr l1,.non,hn,rx,ry=>
  unfold ReV at rx;obtain⟨a1,us1,rfl,h1,q1⟩:=rx;obtain rfl:v=Qx:=by unfold ReV at ry;exact ry
  exact⟨EqAt.list_none h1 hu,RcAt.list_none h1 hu,RcNeAt.list_none h1 hu⟩
 |.scr l1,.bl b2,hn,rx,ry=>
  unfold ReV at rx;obtain⟨a1,us1,rfl,h1,q1⟩:=rx;obtain rfl:v=Q7 b2:=by unfold ReV at ry;exact ry
  exact⟨EqAt.list_bool b2 h1 hu,RcAt.list_bool b2 h1 hu,RcNeAt.list_bool b2 h1 hu⟩
 |.scr l1,.int i2,hn,rx,ry=>
  unfold ReV at rx;obtain⟨a1,us1,rfl,h1,q1⟩:=rx;obtain⟨k2,rfl⟩:∃k,v=Rl i2 k:=by unfold ReV at ry;exact ry
  exact⟨EqAt.list_int i2 k2 h1 hu,RcAt.list_int i2 k2 h1 hu,RcNeAt.list_int i2 k2 h1 hu⟩
 |.scr l1,.str x2,hn,rx,ry=>
  unfold ReV at rx;obtain⟨a1,us1,rfl,h1,q1⟩:=rx;obtain⟨k2,rfl⟩:∃k,v=Rv x2 k:=by unfold ReV at ry;exact ry
  exact⟨EqAt.list_str x2 k2 h1 hu,RcAt.list_str x2 k2 h1 hu,RcNeAt.list_str x2 k2 h1 hu⟩
 |.scr l1,.tup l2,hn,rx,ry=>
  unfold ReV at rx;obtain⟨a1,us1,rfl,h1,q1⟩:=rx;unfold ReV at ry;obtain⟨a2,us2,rfl,h2,q2⟩:=ry
  exact⟨EqAt.list_tuple h1 h2 hu,RcAt.list_tuple h1 h2 hu,RcNeAt.list_tuple h1 h2 hu⟩
 |.scr _,.lst _,hn,_,_=>exact hn.elim
 |.scr _,.scr _,hn,_,_=>exact hn.elim
def Hm:∀(n:Nat)(A:Qq)(s:Pz)(x y:T)(u v:Px),(x.dep<=n\/y.dep<=n)->A.units+n<cLine->ReV s x u->ReV s y v->EqAt A s u v (aX x y)/\RcAt A s u v (aX x y)/\RcNeAt A s u v (!aX x y):=by
 intro n
 induction n with
 |zero=>
  intro A s x y u v hd hu rx ry
  exact wX A s x y u v (by cases x <;> cases y <;> simp_all [j5,T.dep]) (by omega) rx ry
 |succ n ih=>
  intro A s x y u v hd hu rx ry
  have hin:A.in1.units+n<cLine:=by show A.units+1+n<cLine;omega
  have items:∀(l m:List T)(us vs:List Px),(deps l<=n\/deps m<=n)->ReVs s l us->ReVs s m vs->∃e:Nat->Bool,(∀j (h1:j<us.toArray.size) (h2:j<vs.toArray.size),EqAt A.in1 s us.toArray[j] vs.toArray[j] (e j)) ∧
    (∀(j:Nat) t u,l[j]?=ZA t->m[j]?=ZA u->e j=aX t u):=λl m us vs hd r1 r2=>by
   refine⟨λj=>aX (l.getD j .non) (m.getD j .non),λj h1 h2=>?_,λj t u e1 e2=>by simp[List.getD,e1,e2]⟩
   have l1:=r1.length
   have l2:=r2.length
   have h1':j<l.length:=by rw[l1];simpa using h1
   have h2':j<m.length:=by rw[l2];simpa using h2
   have e1:l[j]?=ZA l[j]:=by simp
   have e2:m[j]?=ZA m[j]:=by simp
   obtain⟨u1,z1,w1⟩:=r1.get e1;obtain⟨u2,z2,w2⟩:=r2.get e2
   have q1:us.toArray[j]=u1:=by
    have:us[j]?=ZA us.toArray[j]:=by simp
    rw[z1]at this;exact(Qu this).symm
   have q2:vs.toArray[j]=u2:=by
    have:vs[j]?=ZA vs.toArray[j]:=by simp
    rw[z2]at this;exact(Qu this).symm
   rw[q1,q2]
   have g1:l.getD j .non=l[j]:=by simp[List.getD,e1]
   have g2:m.getD j .non=m[j]:=by simp[List.getD,e2]
   show EqAt A.in1 s u1 u2 (aX (l.getD j .non) (m.getD j .non))
   rw[g1,g2];refine(ih A.in1 s l[j] m[j] u1 u2 ?_ hin w1 w2).1
   rcases hd with hd|hd
   ·exact .inl (Qn (jP e1) hd)
   ·exact .inr (Qn (jP e2) hd)
  have lists:∀(l m:List T)(a b:ZE)(us vs:List Px),(deps l<=n\/deps m<=n)->ReVs s l us->ReVs s m vs->s.heap.IsList a us.toArray->s.heap.IsList b vs.toArray →
    EqAt A s (.ref a) (.ref b) (beqTs l m)/\RcAt A s (.ref a) (.ref b) (beqTs l m)/\RcNeAt A s (.ref a) (.ref b) (!beqTs l m):=λl m a b us vs hd r1 r2 h1 h2=>by
   have l1:=r1.length
   have l2:=r2.length
   have key:RcAt A s (.ref a) (.ref b) (beqTs l m)/\RcNeAt A s (.ref a) (.ref b) (!beqTs l m):=by
    by_cases hl:l.length=m.length
    ·obtain⟨e,he,hb⟩:=items l m us vs hd r1 r2
     have q:=m4 l m e hb
     have q2:beqTs l m=(Q2 us.toArray.size).all e:=by
      rw[q,hl,W4];simp[l2.symm,hl.symm,l1]
     rw[q2]
     have hsz:us.toArray.size=vs.toArray.size:=by simp;omega
     exact⟨RcAt.lists h1 h2 hsz (by omega) he,RcNeAt.lists h1 h2 hsz (by omega) he⟩
    ·rw[sQ hl]
     have hsz:(us.toArray.size != vs.toArray.size)=ZC:=by simp;omega
     exact⟨RcAt.lists_lengths h1 h2 hsz (by omega),RcNeAt.lists_lengths h1 h2 hsz (by omega)⟩
   refine⟨?_,key⟩
   by_cases hab:a=b
   ·subst hab
    have:=de h1 h2;subst this;rw[ReVs.refl r1 r2];exact EqAt.same _
   ·exact EqAt.of_refs hab key.1
  cases x with
  |tup l=>
   cases y with
   |tup m=>
    unfold ReV at rx ry;obtain⟨a,us,rfl,h1,r1⟩:=rx;obtain⟨b,vs,rfl,h2,r2⟩:=ry
    have hd':deps l<=n\/deps m<=n:=by
     simp only[T.dep]at hd;omega
    have l1:=r1.length
    have l2:=r2.length;obtain⟨e,he,hb⟩:=items l m us vs hd' r1 r2
    have q:=m4 l m e hb
    have q2:beqTs l m=((Q2 (min us.toArray.size vs.toArray.size)).all e&&us.toArray.size == vs.toArray.size):=by
     rw[q];simp[l1,l2]
    have key:RcAt A s (.ref a) (.ref b) (beqTs l m)/\RcNeAt A s (.ref a) (.ref b) (!beqTs l m):=by
     rw[q2];exact⟨RcAt.tuples h1 h2 (by omega) he,RcNeAt.tuples h1 h2 (by omega) he⟩
    unfold aX;refine⟨?_,key⟩
    by_cases hab:a=b
    ·subst hab
     have:=jK h1 h2;subst this;rw[ReVs.refl r1 r2];exact EqAt.same _
    ·exact EqAt.of_refs hab key.1
   |_=>exact wX A s _ _ u v (by simp[j5]) (by omega) rx ry
  |lst l=>
   cases y with
   |lst m=>
    unfold ReV at rx ry;obtain⟨a,us,rfl,h1,r1⟩:=rx;obtain⟨b,vs,rfl,h2,r2⟩:=ry;unfold aX
    exact lists l m a b us vs (by simp only[T.dep]at hd;omega) r1 r2 h1 h2
   |scr m=>
    unfold ReV at rx ry;obtain⟨a,us,rfl,h1,r1⟩:=rx;obtain⟨b,vs,rfl,h2,r2⟩:=ry;unfold aX
    exact lists l (m.map T.int) a b us vs (by rw[f9];omega) r1 (d8 r2) h1 h2
   |_=>exact wX A s _ _ u v (by simp[j5]) (by omega) rx ry
  |scr l=>
   cases y with
   |lst m=>
    unfold ReV at rx ry;obtain⟨a,us,rfl,h1,r1⟩:=rx;obtain⟨b,vs,rfl,h2,r2⟩:=ry;unfold aX;rw[qv]
    exact lists (l.map T.int) m a b us vs (by rw[f9];omega) (d8 r1) r2 h1 h2
   |scr m=>
    unfold ReV at rx ry;obtain⟨a,us,rfl,h1,r1⟩:=rx;obtain⟨b,vs,rfl,h2,r2⟩:=ry;unfold aX;rw[tO]
    exact lists (l.map T.int) (m.map T.int) a b us vs (by rw[f9];omega) (d8 r1) (d8 r2) h1 h2
   |_=>exact wX A s _ _ u v (by simp[j5]) (by omega) rx ry
  |_=>exact wX A s _ _ u v (by simp[j5]) (by omega) rx ry
mutual
def T.nf:T->T
 |.tup l=>.tup (nfs l)
 |.lst l=>.lst (nfs l)
 |.scr l=>.lst (l.map .int)
 |.non=>.non
 |.bl b=>.bl b
 |.int b=>.int b
 |.str b=>.str b
 |.dct a b=>.dct a b
 |.ob a b c=>.ob a b c
def nfs:List T->List T
 |[] =>[]
 |t::l=>t.nf::nfs l
end
theorem v7:∀(l:List Int),nfs (l.map T.int)=l.map T.int
 |[] =>rfl
 |i::l=>by rw[PF,nfs,v7 l];simp[T.nf]
mutual
theorem md:∀(t x:T),aX t.nf x=aX t x
 |.non,x=>by simp[T.nf]
 |.bl _,x=>by simp[T.nf]
 |.int _,x=>by simp[T.nf]
 |.str _,x=>by simp[T.nf]
 |.tup l,x=>by cases x <;> simp[T.nf,aX,beqTs_nf l]
 |.lst l,x=>by cases x <;> simp[T.nf,aX,beqTs_nf l]
 |.scr l,x=>by cases x <;> simp[T.nf,aX,qv,tO]
 |.dct _ _,x=>by simp[T.nf]
 |.ob _ _ _,x=>by simp[T.nf]
theorem beqTs_nf:∀(l m:List T),beqTs (nfs l) m=beqTs l m
 |[],m=>by simp[nfs]
 |t::l,m=>by cases m <;> simp[nfs,beqTs,md t,beqTs_nf l]
end
def K9{t:T}(r:ReV s t (.int i k)):t.nf=.int i:=by
 cases t with
 |non=>unfold ReV at r;cases r
 |bl b=>unfold ReV at r;cases r
 |int j=>unfold ReV at r;obtain⟨t,e⟩:=r;injection e with e1 _;subst e1;rfl
 |str x=>unfold ReV at r;obtain⟨t,e⟩:=r;cases e
 |tup l=>unfold ReV at r;obtain⟨a,its,e,_⟩:=r;cases e
 |lst l=>unfold ReV at r;obtain⟨a,its,e,_⟩:=r;cases e
 |scr l=>unfold ReV at r;obtain⟨a,its,e,_⟩:=r;cases e
 |dct _ _=>unfold ReV at r;exact r.elim
 |ob _ _ _=>unfold ReV at r;exact r.elim
theorem z9:∀{l:List T}{us:List Px}{ns:List Int},ReVs s l us->R0 us ns->nfs l=ns.map T.int
 |[],us,ns,r,h=>by cases ReVs.Da.mp r;cases h;rfl
 |t::l,us,ns,r,h=>by
  obtain⟨u,ws,rfl,p,q⟩:=ReVs.me.mp r
  cases h with
  |cons a b hh=>rw[nfs,K9 p,z9 q hh];rfl
mutual
theorem ReV.nf{s:Pz}:∀{t u:T}{v:Px},ReV s t v->ReV s u v->t.nf=u.nf
 |.non,u,v,r,q=>by
  unfold ReV at r;subst r
  cases u <;> (unfold ReV at q) <;> first|rfl| (cases q;done)| (obtain⟨_,e⟩:=q;cases e;done)| (obtain⟨_,_,e,_⟩:=q;cases e;done)
 |.bl b,u,v,r,q=>by
  unfold ReV at r;subst r
  cases u <;> (unfold ReV at q) <;> first| (cases q;done)| (cases q;rfl)| (obtain⟨_,e⟩:=q;cases e;done)| (obtain⟨_,_,e,_⟩:=q;cases e;done)
 |.int b,u,v,r,q=>by
  unfold ReV at r;obtain⟨k,rfl⟩:=r
  cases u <;> (unfold ReV at q) <;> first| (cases q;done)| (obtain⟨_,e⟩:=q;cases e;done)| (obtain⟨_,e⟩:=q;cases e;rfl)| (obtain⟨_,_,e,_⟩:=q;cases e;done)
 |.str b,u,v,r,q=>by
  unfold ReV at r;obtain⟨k,rfl⟩:=r
  cases u <;> (unfold ReV at q) <;> first| (cases q;done)| (obtain⟨_,e⟩:=q;cases e;done)| (obtain⟨_,e⟩:=q;cases e;rfl)| (obtain⟨_,_,e,_⟩:=q;cases e;done)
 |.tup l,u,v,r,q=>by
  unfold ReV at r;obtain⟨a,its,rfl,h1,h2⟩:=r
  cases u with
  |non=>unfold ReV at q;cases q
  |dct _ _=>unfold ReV at q;exact q.elim
  |ob _ _ _=>unfold ReV at q;exact q.elim
  |bl _=>unfold ReV at q;cases q
  |int _=>unfold ReV at q;obtain⟨_,e⟩:=q;cases e
  |str _=>unfold ReV at q;obtain⟨_,e⟩:=q;cases e
  |tup m=>
   unfold ReV at q;obtain⟨a',its',e,h1',h2'⟩:=q;injection e with e;subst e
   have:=jK h1 h1';subst this;unfold T.nf
   rw[ReVs.nf h2 h2']
  |lst m=>unfold ReV at q;obtain⟨a',its',e,h1',h2'⟩:=q;injection e with e;subst e;exact absurd rfl (ne_of_list_tuple h1' h1)
  |scr m=>unfold ReV at q;obtain⟨a',its',e,h1',h2'⟩:=q;injection e with e;subst e;exact absurd rfl (ne_of_list_tuple h1' h1)
 |.lst l,u,v,r,q=>by
  unfold ReV at r;obtain⟨a,its,rfl,h1,h2⟩:=r
  cases u with
  |non=>unfold ReV at q;cases q
  |dct _ _=>unfold ReV at q;exact q.elim
  |ob _ _ _=>unfold ReV at q;exact q.elim
  |bl _=>unfold ReV at q;cases q
  |int _=>unfold ReV at q;obtain⟨_,e⟩:=q;cases e
  |str _=>unfold ReV at q;obtain⟨_,e⟩:=q;cases e
  |lst m=>
   unfold ReV at q;obtain⟨a',its',e,h1',h2'⟩:=q;injection e with e;subst e
   have:=de h1 h1';subst this;unfold T.nf
   rw[ReVs.nf h2 h2']
  |tup m=>unfold ReV at q;obtain⟨a',its',e,h1',h2'⟩:=q;injection e with e;subst e;exact absurd rfl (ne_of_list_tuple h1 h1')
  |scr m=>
   unfold ReV at q;obtain⟨a',its',e,h1',h2'⟩:=q;injection e with e;subst e
   have:=de h1 h1';subst this;unfold T.nf
   rw[ReVs.nf h2 (d8 h2'),v7]
 |.scr l,u,v,r,q=>by
  unfold ReV at r;obtain⟨a,its,rfl,h1,h2⟩:=r
  cases u with
  |non=>unfold ReV at q;cases q
  |dct _ _=>unfold ReV at q;exact q.elim
  |ob _ _ _=>unfold ReV at q;exact q.elim
  |bl _=>unfold ReV at q;cases q
  |int _=>unfold ReV at q;obtain⟨_,e⟩:=q;cases e
  |str _=>unfold ReV at q;obtain⟨_,e⟩:=q;cases e
  |lst m=>
   unfold ReV at q;obtain⟨a',its',e,h1',h2'⟩:=q;injection e with e;subst e
   have:=de h1 h1';subst this
   have z:=z9 h2' h2;unfold T.nf
   rw[z]
  |tup m=>unfold ReV at q;obtain⟨a',its',e,h1',h2'⟩:=q;injection e with e;subst e;exact absurd rfl (ne_of_list_tuple h1 h1')
  |scr m=>
   unfold ReV at q;obtain⟨a',its',e,h1',h2'⟩:=q;injection e with e;subst e
   have:=de h1 h1';subst this
   rw[jL h2 h2']
 |.dct _ _,u,v,r,q=>by unfold ReV at r;exact r.elim
 |.ob _ _ _,u,v,r,q=>by unfold ReV at r;exact r.elim
theorem ReVs.nf{s:Pz}:∀{l m:List T}{us:List Px},ReVs s l us->ReVs s m us->nfs l=nfs m
 |[],m,us,r,q=>by
  cases ReVs.Da.mp r
  cases m with
  |nil=>rfl
  |cons _ _=>obtain⟨_,_,e,_⟩:=ReVs.me.mp q;cases e
 |t::l,m,us,r,q=>by
  obtain⟨v,ws,rfl,p,z⟩:=ReVs.me.mp r
  cases m with
  |nil=>cases ReVs.Da.mp q
  |cons u m=>
   obtain⟨v',ws',e,p',z'⟩:=ReVs.me.mp q;injection e with e1 e2
   subst e1 e2;rw[nfs,nfs,ReV.nf p p',ReVs.nf z z']
end
variable{x y:T}
section
variable {a b c:ZG}{fa fb fc:Y2}
def gj(x y:T):Bool:=(decide (x.dep<=60)||decide (y.dep<=60))&&(x.nd&&y.nd)
def kn(x y:T):Rs T:=if gj x y=ZC then .ok (.bl (aX x y))else .bad
def v8(x y:T):Rs T:=if gj x y=ZC then .ok (.bl (!aX x y))else .bad
def iu(h:x.dep<=60)(hx:x.nd=ZC)(hy:y.nd=ZC):gj x y=ZC:=by unfold gj;rw[decide_eq_true h,hx,hy];rfl
def D9(h:y.dep<=60)(hx:x.nd=ZC)(hy:y.nd=ZC):gj x y=ZC:=by unfold gj;rw[decide_eq_true h,hx,hy,W5];rfl
def kl(h:gj x y=ZC):x.nd=ZC/\y.nd=ZC:=by
 unfold gj at h;exact QR.mp (QR.mp h).2
def sh(h:gj x y=ZC):x.dep<=60\/y.dep<=60:=by
 unfold gj at h
 replace h:=(QR.mp h).1
 rcases Bool.or_eq_true_iff.mp h with h|h
 ·exact .inl (of_decide_eq_true h)
 ·exact .inr (of_decide_eq_true h)
def jx(hu:X.A.units+60<cLine):OpT X (QC .Eq) kn:=by
 intro kt s σ H O x y vx vy ux uy Q I hf rx ry r1 r2 hp;unfold kn at hp
 split at hp
 ·rename_i h
  have z:=Hm 60 X.A s x y ux uy (sh h) hu (Rep.val I (kl h).1 rx r1) (Rep.val I (kl h).2 ry r2);exact z.2.1 _ _ _ _ ⟨.bl _,H,I,rfl,hp H (Same.refl H) _ (Rep.bl_ _)⟩
 ·exact hp.elim
def CV(hu:X.A.units+60<cLine):OpT X (QC .NotEq) v8:=by
 intro kt s σ H O x y vx vy ux uy Q I hf rx ry r1 r2 hp;unfold v8 at hp
 split at hp
 ·rename_i h
  have z:=Hm 60 X.A s x y ux uy (sh h) hu (Rep.val I (kl h).1 rx r1) (Rep.val I (kl h).2 ry r2);exact z.2.2 _ _ _ _ ⟨.bl _,H,I,rfl,hp H (Same.refl H) _ (Rep.bl_ _)⟩
 ·exact hp.elim
def T.items:T->Option (List T)
 |.tup l=>ZA l
 |.lst l=>ZA l
 |.scr l=>ZA (l.map T.int)
 |_=>ZB
def fg(x:T)(l:List T):Bool:=l.any λy=>aX y x
def IB(x y:T):Rs T:=match y.items with
 |some l=>if (x.dep<=60\/deps l<=60)/\x.nd=ZC/\y.nd=ZC then .ok (.bl (fg x l))else .bad
 |none=>.bad
def fN(x y:T):Rs T:=match y.items with
 |some l=>if (x.dep<=60\/deps l<=60)/\x.nd=ZC/\y.nd=ZC then .ok (.bl (!fg x l))else .bad
 |none=>.bad
def zO(rx:ReV s x ux)(hu:A.units+60<cLine)(hd:x.dep<=60\/deps l<=60)(r:ReVs s l us):
  ∃e:Px->Bool,(∀y∈us,EqAt A s y ux (e y))/\us.any e=fg x l:=by
 classical
 have ex:∀y∈us,∃t∈l,ReV s t y:=λy hy=>by
  obtain⟨i,hi,rfl⟩:=RQ hy
  have hl:=r.length
  have e1:l[i]?=ZA l[i]:=by simp
  obtain⟨u,q1,q2⟩:=r.get e1
  have:us[i]?=ZA us[i]:=by simp
  rw[this]at q1;cases q1;exact⟨l[i],QU _,q2⟩
 let e:Px->Bool:=λy=>decide (∃t∈l,ReV s t y/\aX t x=ZC)
 have dep:∀t∈l,t.dep<=60\/x.dep<=60:=λt ht=>by
  rcases hd with h|h
  ·exact .inr h
  ·obtain⟨i,hi,rfl⟩:=RQ ht
   exact .inl (Qn (jP (i:=i) (by simp)) h)
 have uniq:∀y t t',ReV s t y->ReV s t' y->aX t x=aX t' x:=λy t t' z z'=>by
  rw[<-md t,<-md t',ReV.nf z z']
 have agree:∀y t,t∈l->ReV s t y->e y=aX t x:=λy t h z=>by
  show decide (∃t∈l,ReV s t y/\aX t x=ZC)=aX t x
  cases q:aX t x with
  |true=>exact decide_eq_true ⟨t,h,z,q⟩
  |false=>
   refine decide_eq_false ?_
   rintro ⟨t',h',z',q'⟩
   rw[<-uniq y t t' z z',q]at q';cases q'
 refine⟨e,λy hy=>?_,?_⟩
 ·obtain⟨t,h,z⟩:=ex y hy
  rw[agree y t h z];exact(Hm 60 A s t x y ux (dep t h) hu z rx).1
 ·have go:∀(l':List T)(us':List Px),(∀t∈l',t∈l)->ReVs s l' us'->us'.any e=l'.any λy=>aX y x:=by
   intro l'
   induction l' with
   |nil=>intro us' _ r';rw[ReVs.Da.mp r'];rfl
   |cons t l' ih=>
    intro us' sub r';obtain⟨u,ws,rfl,p,q⟩:=ReVs.me.mp r';rw[Sw,Sw,ih ws (λt ht=>sub t (Pw _ ht)) q,agree u t (sub t PB) p]
  exact go l us (λ_ h=>h) r
def se{u:Px}(r:ReV s y u)(h:y.items=ZA l):∃a us,u=.ref a/\ReVs s l us/\(s.heap.IsTuple a us.toArray\/s.heap.IsList a us.toArray):=by
 cases y with
 |tup m=>cases h;unfold ReV at r;obtain⟨a,us,e,h1,h2⟩:=r;exact⟨a,us,e,h2,.inl h1⟩
 |lst m=>cases h;unfold ReV at r;obtain⟨a,us,e,h1,h2⟩:=r;exact⟨a,us,e,h2,.inr h1⟩
 |scr m=>cases h;unfold ReV at r;obtain⟨a,us,e,h1,h2⟩:=r;exact⟨a,us,e,d8 h2,.inr h1⟩
 |_=>cases h
def Ih(hu:X.A.units+61<cLine):OpT X (QC .In) IB:=by
 intro kt s σ H O x y vx vy ux uy Q I hf rx ry r1 r2 hp;unfold IB at hp
 split at hp
 ·rename_i l hl
  split at hp
  ·rename_i hd3
   obtain⟨hd,hnx,hny⟩:=hd3;obtain⟨a,us,rfl,rs,hh⟩:=se (Rep.val I hny ry r2) hl;obtain⟨e,he,ha⟩:=zO (A:=X.A.in1) (Rep.val I hnx rx r1) (by show X.A.units+1+60<cLine;omega) hd rs
   have q:=hp H (Same.refl H) _ (Rep.bl_ (fg x l))
   have he':∀y,y∈us.toArray->EqAt X.A.in1 s y ux (e y):=λy hy=>he y (by simpa using hy)
   have ha':us.toArray.any e=fg x l:=by simpa using ha
   rcases hh with hh|hh
   ·exact in_tupleAt e hh he' (by rw[ha'];exact⟨.bl _,H,I,rfl,q⟩)
   ·exact in_listAt e hh he' (by rw[ha'];exact⟨.bl _,H,I,rfl,q⟩)
  ·exact hp.elim
 ·exact hp.elim
def pz(hu:X.A.units+61<cLine):OpT X (QC .NotIn) fN:=by
 intro kt s σ H O x y vx vy ux uy Q I hf rx ry r1 r2 hp;unfold fN at hp
 split at hp
 ·rename_i l hl
  split at hp
  ·rename_i hd3
   obtain⟨hd,hnx,hny⟩:=hd3;obtain⟨a,us,rfl,rs,hh⟩:=se (Rep.val I hny ry r2) hl;obtain⟨e,he,ha⟩:=zO (A:=X.A.in1) (Rep.val I hnx rx r1) (by show X.A.units+1+60<cLine;omega) hd rs
   have q:=hp H (Same.refl H) _ (Rep.bl_ (!fg x l))
   have he':∀y,y∈us.toArray->EqAt X.A.in1 s y ux (e y):=λy hy=>he y (by simpa using hy)
   have ha':us.toArray.any e=fg x l:=by simpa using ha
   rcases hh with hh|hh
   ·exact notIn_tupleAt e hh he' (by rw[ha'];exact⟨.bl _,H,I,rfl,q⟩)
   ·exact notIn_listAt e hh he' (by rw[ha'];exact⟨.bl _,H,I,rfl,q⟩)
  ·exact hp.elim
 ·exact hp.elim
def ch(g g':T->T->Rs T)(fa fb fc:Y2)(Z:En):Rs T:=do
 let x <-fa Z
 let y <-fb Z
 let z <-g x y
 match z with
 |.bl ZC=>do
  let w <-fc Z
  g' y w
 |.bl ZD=>.ok (.bl ZD)
 |_=>.bad
def Gp{op':X2}{g g':T->T->Rs T}(ho:OpT X (QC op) g)(ho':OpT X (QC op') g')(ha:cg X a fa)(hb:cg X b fb)(hc:cg X c fc)
  (hm:autoParam (lastMarks [op,op'] [b,c]=ZD) w_):cg X (.Compare a [op,op'] [b,c] pos) (ch g g' fa fb fc):=by
 intro kt s σ H Q I ⟨Z,O,E,hq⟩
 have h1:=a6 E hq;refine Compare_chain (bV (ha kt s σ H _ I h1) λv s1 ⟨x,H1,I1,r1,t,rt,s',E',q1⟩=>chain_link ?_) hm
 have h2:=a6 (f:=fb) E' q1;refine bV (hb kt s1 σ H1 _ I1 h2) λu s2 hh_=>?_
 obtain⟨y,H2,I2,r2,t2,rt2,s'',E'',q2⟩:=hh_
 refine bV (ho kt s2 σ H2 O t t2 x y v u (λv' H'=>∃t',Rep X.K O H' t' v'/\Same H2 H'/\Post X H' (match t' with
  |.bl ZC=>fc Z >>= λw=>g' t2 w
  |.bl ZD=>.ok (.bl ZD)
  |_=>.bad) (λt H'=>∀v,Rep X.K O H' t v->Q v H')) I2 (λp=>E''.fresh) (rt.same s'') rt2 r1 r2 (Post.mono q2.bind λt' H' s3 q v rv=>⟨t',rv,s3,q⟩)) λd s3 ⟨z,H3,I3,r3,t3,rt3,sm3,q3⟩=>?_
 have E3:=E''.same sm3
 split at q3
 ·cases Rep.FS.mp rt3
  cases r3;refine Rn (ite_tt (chain_last ?_))
  have h4:=a6 (f:=fc) E3 q3;refine bV (hc kt s3 σ H3 _ I3 h4) λw' s4 ⟨z',H4,I4,r4,t4,rt4,s4',E4,q4⟩=>?_
  exact ho' kt s4 σ H4 O t2 t4 y z' u w' Q I4 (λp=>E4.fresh) ((rt2.same sm3).same s4') rt4 r2 r4 q4
 ·cases Rep.FS.mp rt3
  cases r3;refine Rn (ite_ff ⟨.bl ZD,H3,I3,rfl,q3 H3 (Same.refl H3) _ (Rep.bl_ ZD)⟩)
 ·exact q3.elim
def tb(f:Y2)(Z:En):Rs Bool:=do
 let x <-f Z
 match x with
 |.bl k=>.ok k
 |_=>.bad
def bt(f:Y3)(Z:En):Rs T:=do
 let k <-f Z
 .ok (.bl k)
def Ju{f:Y2}(h:cg X e f)(he:autoParam (∀whole,isTrue e X.env whole=(do let v <-whole;standAt e.pos;holding [v] (truthy v))) t_):ve X e (tb f):=by
 intro kt s σ H Q I ⟨Z,O,E,hq⟩;refine JT h he kt s σ H Q I ?_
 obtain⟨Z1,O1,E1,h1⟩:=a6 E hq;refine⟨Z1,O1,E1,Post.mono h1 λts H1 s1 q vs r=>?_⟩
 obtain⟨t',r',s',E',q'⟩:=q vs r
 split at q'
 ·exact⟨_,Rep.FS.mp r',q' H1 (Same.refl H1)⟩
 ·exact q'.elim
def Jw{g:T->T->Rs T}(ho:OpT X (QC op) g)(ha:cg X a fa)(hb:cg X b fb)(hm:autoParam (SZ op b=ZD) u_):ve X (.Compare a [op] [b] pos) (tb (o2 g fa fb)):=by
 intro kt s σ H Q I ⟨Z,O,E,hq⟩
 have hq':Post X H (o2 g fa fb Z) λt H'=>∀v,Rep X.K O H' t v->∃k,v=.bl k/\Q k H':=Post.mono hq.bind λt H' s' q v r=>by
  split at q
  ·exact⟨_,Rep.FS.mp r,q H' (Same.refl H')⟩
  ·exact q.elim
 have h1:=a6 E hq';refine wpAny_isTrue_Compare1 (bV (ha kt s σ H _ I h1) λv s1 ⟨x,H1,I1,r1,t,rt,s',E',q1⟩=>?_) hm
 have h2:=a6 (f:=fb) E' q1;refine bV (hb kt s1 σ H1 _ I1 h2) λu s2 hh_=>?_
 obtain⟨y,H2,I2,r2,t2,rt2,s'',E'',q2⟩:=hh_;refine bV (ho kt s2 σ H2 O t t2 x y v u _ I2 (λp=>E''.fresh) (rt.same s'') rt2 r1 r2 q2) λd s3 hh_=>?_
 obtain⟨z,H3,I3,r3,k,e,q3⟩:=hh_;subst e;cases r3;exact Rn ⟨H3,I3,q3⟩
def kC(f g:Y3)(Z:En):Rs Bool:=do
 let k <-f Z
 if k then g Z else .ok ZD
def qH(f g:Y3)(Z:En):Rs Bool:=do
 let k <-f Z
 if k then .ok ZC else g Z
def du(f:Y3)(Z:En):Rs Bool:=do
 let k <-f Z
 .ok (!k)
variable {f g:Y3}{bM:List ZG}
abbrev IL(X:Cx)(e:ZG)(f:Y3):Prop:=PW X e (BL X f)
def F4(ha:ve X a f):IL X (.BoolOp .And [a] pos) f:=Gs ha
def Js(ha:ve X a f):IL X (.BoolOp .Or [a] pos) f:=JR ha
def Jt(ha:ve X a f)(hb:IL X (.BoolOp .And (b::bM) pos) g):IL X (.BoolOp .And (a::b::bM) pos) (kC f g):=by
 intro wh kt s σ H Q I ⟨Z,O,E,hq⟩;refine JS ha hb wh kt s σ H Q I ?_
 obtain⟨Z1,O1,E1,h1⟩:=lH E hq;refine⟨Z1,O1,E1,Post.mono h1 λk H1 s1 q=>?_⟩
 obtain⟨s',E',q'⟩:=q
 cases k with
 |true=>rw[if_pos rfl];exact⟨Z,O,E',by simpa using q'⟩
 |false=>rw[if_neg P6];exact q' H1 (Same.refl H1)
def Mz(ha:ve X a f)(hb:IL X (.BoolOp .Or (b::bM) pos) g):IL X (.BoolOp .Or (a::b::bM) pos) (qH f g):=by
 intro wh kt s σ H Q I ⟨Z,O,E,hq⟩;refine MT ha hb wh kt s σ H Q I ?_
 obtain⟨Z1,O1,E1,h1⟩:=lH E hq;refine⟨Z1,O1,E1,Post.mono h1 λk H1 s1 q=>?_⟩
 obtain⟨s',E',q'⟩:=q
 cases k with
 |true=>rw[if_pos rfl];exact q' H1 (Same.refl H1)
 |false=>rw[if_neg P6];exact⟨Z,O,E',by simpa using q'⟩
def qt_w(h:IL X e f):ve X e f:=h.pt
def Jv(ha:ve X a f):ve X (.UnaryOp .Not a pos) (du f):=by
 intro kt s σ H Q I ⟨Z,O,E,hq⟩;refine JU ha kt s σ H Q I ?_
 obtain⟨Z1,O1,E1,h1⟩:=lH E hq;exact⟨Z1,O1,E1,Post.mono h1 λk H1 s1 ⟨s',E',q'⟩=>q' H1 (Same.refl H1)⟩
def cY(f g:Y2)(Z:En):Rs T:=do
 let x <-f Z
 match x with
 |.bl ZC=>g Z
 |.bl ZD=>.ok (.bl ZD)
 |_=>.bad
def Fc(f g:Y2)(Z:En):Rs T:=do
 let x <-f Z
 match x with
 |.bl ZC=>.ok (.bl ZC)
 |.bl ZD=>g Z
 |_=>.bad
def GS:T->Rs T
 |.bl k=>.ok (.bl (!k))
 |_=>.bad
def MH{op}(h:cg X a fa):cg X (.BoolOp op [a] pos) fa:=CM h
def MS(ha:cg X a fa)(hb:cg X (.BoolOp .And (b::bM) pos) fb):cg X (.BoolOp .And (a::b::bM) pos) (cY fa fb):=by
 intro kt s σ H Q I ⟨Z,O,E,hq⟩;refine CT ha hb kt s σ H Q I ?_
 obtain⟨Z1,O1,E1,h1⟩:=a6 E hq;refine⟨Z1,O1,E1,Post.mono h1 λts H1 s1 q vs r=>?_⟩
 obtain⟨t',r',s',E',q'⟩:=q vs r
 split at q'
 ·exact⟨ZC,Rep.FS.mp r',by rw[if_pos rfl];exact⟨Z,O,E',q'⟩⟩
 ·exact⟨ZD,Rep.FS.mp r',by rw[if_neg P6];exact q' H1 (Same.refl H1) _ (Rep.bl_ ZD)⟩
 ·exact q'.elim
def q_or(ha:cg X a fa)(hb:cg X (.BoolOp .Or (b::bM) pos) fb):cg X (.BoolOp .Or (a::b::bM) pos) (Fc fa fb):=by
 intro kt s σ H Q I ⟨Z,O,E,hq⟩;refine MW ha hb kt s σ H Q I ?_
 obtain⟨Z1,O1,E1,h1⟩:=a6 E hq;refine⟨Z1,O1,E1,Post.mono h1 λts H1 s1 q vs r=>?_⟩
 obtain⟨t',r',s',E',q'⟩:=q vs r
 split at q'
 ·exact⟨ZC,Rep.FS.mp r',by rw[if_pos rfl];exact q' H1 (Same.refl H1) _ (Rep.bl_ ZC)⟩
 ·exact⟨ZD,Rep.FS.mp r',by rw[if_neg P6];exact⟨Z,O,E',q'⟩⟩
 ·exact q'.elim
def MI(ha:cg X a fa):cg X (.UnaryOp .Not a pos) (o1 GS fa):=by
 intro kt s σ H Q I ⟨Z,O,E,hq⟩;refine J4 ha kt s σ H Q I ?_
 obtain⟨Z1,O1,E1,h1⟩:=a6 E hq;refine⟨Z1,O1,E1,Post.mono h1 λts H1 s1 q vs r=>?_⟩
 obtain⟨t',r',s',E',q'⟩:=q vs r;unfold GS at q'
 split at q'
 ·exact⟨_,Rep.FS.mp r',q' H1 (Same.refl H1) _ (Rep.bl_ _)⟩
 ·exact q'.elim
def Ff(f:Y3)(fa fb:Y2)(Z:En):Rs T:=do
 let k <-f Z
 if k then fa Z else fb Z
def q_if(hc:ve X c f)(ha:cg X a fa)(hb:cg X b fb):cg X (.IfExp c a b pos) (Ff f fa fb):=by
 intro kt s σ H Q I ⟨Z,O,E,hq⟩;refine CP hc ha hb kt s σ H Q I ?_
 obtain⟨Z1,O1,E1,h1⟩:=lH E hq;refine⟨Z1,O1,E1,Post.mono h1 λk H1 s1 q=>?_⟩
 obtain⟨s',E',q'⟩:=q
 cases k with
 |true=>rw[if_pos rfl];exact⟨Z,O,E',by simpa using q'⟩
 |false=>rw[if_neg P6];exact⟨Z,O,E',by simpa using q'⟩
end
end Tr
namespace HT
open PySem PyProof.Rows
def kD{t:ZE}{items:Array Px}{Q:Bool->Pz->Prop}(ht:XY s.heap t items)(h:Q ZC s):ZJ (ZK prog w) A (UA (.ref t)) Q E s:=by
 unfold UA;refine PD (TZ ht.typeIs (PX ?_))
 exact h
def getItem_tuple_whole{t sl:ZE}{items:Array Px}(ht:XY s.heap t items)(hs:s.heap.IsSliceOf sl vl vu .none)(pl:Wt vl lo)(pu:Wt vu hi)
  (hw:sIx items.size 0 lo=0/\sIx items.size items.size hi=items.size) (h:Q (.ref t) s):ZJ (ZK prog w) A (getItem (.ref t) (.ref sl)) Q E s:=by
 obtain⟨os,hos,hcs,hds⟩:=id hs
 have hTs:s.TypeIs (.ref sl) "slice":=⟨os,hos,hcs⟩;unfold getItem
 try with_reducible refine Tu ?_
 first|refine PD (PX ?_)|skip
 refine PD (WR ht.typeIs (by decide) ?_)
 refine PD (RL (name:=PV "__getitem__") ht.typeIs QY
  (Sx QY ht.typeIs V5 ?_ (Wu _ _)))
 show ZJ _ _ (Uz (.ref t) >>= _) _ _ s
 refine PD (Wv ht ?_)
 refine PD (TZ hTs ?_)
 rw[if_pos (by decide)]
 refine PD (ij hs pl pu ?_)
 have hyes:(((sIx items.size 0 lo:Nat):Int) == 0&&(1:Int) == 1&&(sIx items.size items.size hi - sIx items.size 0 lo) == items.size)=ZC:=by
  rw[hw.1,hw.2];simp
 show ZJ _ _ (if (((sIx items.size 0 lo:Nat):Int) == 0&&(1:Int) == 1&&(sIx items.size items.size hi - sIx items.size 0 lo) == items.size)=ZC then _ else _) _ _ s
 rw[if_pos hyes]
 first
  |refine PD (kD ht ?_)
  |refine kD ht ?_
 try rw[if_pos rfl]
 first
  |exact PD (Ul (PX ⟨_,rfl,PX h⟩))
  |exact PD (Ul (PD (PX (PX ⟨_,rfl,PX h⟩))))
end HT
variable{i:Nat}
namespace Tr
open PySem PySem.Spec PyProof.Rows L2
variable{H:Hp}{O:Ow}{X:Cx}{Z:En}{e:ZG}{es:List ZG}{fa fb fc:Y2}{l:List T}{p pos:Pos}{v:V}{vs:List V}{x:Str}{σ:L2.St}
section
variable {a b c:ZG}
theorem Reps.atI{i:Int}{t:T}(r:Reps K O H l vs)(e:L2.atI l i=ZA t):∃v,L2.atI vs i=ZA v/\Rep K O H t v:=by
 unfold L2.atI at e ⊢;rw[r.length]at e
 cases q:ixN vs.length i with
 |none=>rw[q]at e;cases e
 |some j=>
  rw[q]at e;obtain⟨v,e1,e2⟩:=r.get (i:=j) (t:=t) e;exact⟨v,e1,e2⟩
def aR(x y:T):Rs T:=match x.items,y with
 |some l,.int i=>match L2.atI l i with
  |some t=>.ok t
  |none=>.bad
 |_,_=>.bad
def q_ix(ha:cg X a fa)(hb:cg X b fb)(hs:autoParam (Ay b) x_):cg X (.Subscript a b pos) (o2 aR fa fb):=by
 intro kt s σ H Q I ⟨Z,O,E,hq⟩
 have h1:=a6 E hq;refine Subscript_ (bV (ha kt s σ H _ I h1) λv s1 hh_=>?_)
 obtain⟨x,H1,I1,r1,t,rt,s',E',q1⟩:=hh_
 have h2:=a6 (f:=fb) E' q1;refine bV (hb kt s1 σ H1 _ I1 h2) λu s2 hh_=>?_
 obtain⟨y,H2,I2,r2,t2,rt2,s'',E'',q2⟩:=hh_
 have rt':=rt.same s'';unfold aR at q2
 split at q2
 ·rename_i l i hl
  split at q2
  ·rename_i z hz
   have hy:=Rep.AC.mp rt2;refine K6 a b kt s2 σ H2 x y v u Q I2 r1 r2 ?_ (hs _ _)
   cases t with
   |tup m=>
    cases hl;obtain⟨p,vs,e,n,q,rr⟩:=Rep.Fk.mp rt';obtain⟨w,ew,rw'⟩:=rr.atI hz
    exact .inr (.inl ⟨p,vs,i,w,e,hy,SqT.of q,ew,q2 H2 (Same.refl H2) _ rw'⟩)
   |lst m=>
    cases hl;obtain⟨p,vs,e,n,q,rr⟩:=Rep.Do.mp rt';obtain⟨w,ew,rw'⟩:=rr.atI hz
    exact .inl ⟨p,vs,i,w,e,hy,SqL.of q,ew,q2 H2 (Same.refl H2) _ rw'⟩
   |scr m=>
    cases hl;unfold Rep at rt';obtain⟨p,e,n,q⟩:=rt';obtain⟨w,ew,rw'⟩:=(Reps.ints (K:=X.K) (O:=O) (H:=H2) (ns:=m)).atI hz
    exact .inl ⟨p,_,i,w,e,hy,q,ew,q2 H2 (Same.refl H2) _ rw'⟩
   |_=>cases hl
  ·exact q2.elim
 ·exact q2.elim
def iw(l:List T)(lo hi:Option Int):List T:=(l.drop (HT.sIx l.length 0 lo)).take (HT.sIx l.length l.length hi - HT.sIx l.length 0 lo)
def Reps.cut(r:Reps K O H l vs)(lo hi:Option Int):Reps K O H (iw l lo hi) (xh vs lo hi):=by
 unfold iw xh;rw[r.length];exact(r.drop _).take _
def By(h:HT.sIx l.length 0 lo=0/\HT.sIx l.length l.length hi=l.length):iw l lo hi=l:=by
 unfold iw;rw[h.1,h.2];simp
def sl_tup_whole:SlR X (λx lo hi H Q=>∃a xs,x=.ref a/\SqT X.K H a xs/\(HT.sIx xs.length 0 lo=0/\HT.sIx xs.length xs.length hi=xs.length)/\Q (.ref a) H):=by
 intro kt s σ H x v vl vu lo hi sl Q I rx hs pl pu h;obtain⟨a,xs,rfl,hx,hw,q⟩:=h;cases rx;obtain⟨its,r,ht,hz⟩:=I.tuple hx
 have hlen:its.toArray.size=xs.length:=by rw[PY];exact r.length.symm
 refine⟨"tuple",_,QY.lookup,ht.typeIs,?_⟩
 exact HT.getItem_tuple_whole ht hs pl pu (by rw[hlen];exact hw) ⟨.ref a,H,I,rfl,q⟩
def pN(_:En):Rs (Option Int):=.ok ZB
def pS(f:Y2)(Z:En):Rs (Option Int):=do
 let x <-f Z
 match x with
 |.int i=>.ok (ZA i)
 |_=>.bad
def tPO(X:Cx)(f:En->Rs (Option Int)):TO:=λσ H Q=>∃Z O,EnvO X.K O H Z σ/\Post X H (f Z) λb H'=>Q b H'
abbrev N3(X:Cx)(e:Option ZG)(f:En->Rs (Option Int)):Prop:=PO X e (tPO X f)
def Gd:N3 X ZB pN:=by
 intro kt s σ H Q I ⟨Z,O,E,hq⟩;exact Gy kt s σ H Q I (hq H (Same.refl H))
def Gb(ha:cg X a fa):N3 X (ZA a) (pS fa):=by
 intro kt s σ H Q I ⟨Z,O,E,hq⟩;refine Gx ha kt s σ H Q I ?_
 obtain⟨Z1,O1,E1,h1⟩:=a6 E hq;refine⟨Z1,O1,E1,Post.mono h1 λts H1 s1 q vs r=>?_⟩
 obtain⟨t',r',s',E',q'⟩:=q vs r
 split at q'
 ·exact⟨_,Rep.AC.mp r',q' H1 (Same.refl H1)⟩
 ·exact q'.elim
def slT(x:T)(lo hi:Option Int):Rs T:=match x with
 |.tup l=>.ok (.tup (iw l lo hi))
 |.lst l=>.ok (.lst (iw l lo hi))
 |_=>.bad
def sl(fe:Y2)(fl fu:En->Rs (Option Int))(Z:En):Rs T:=do
 let x <-fe Z
 let l <-fl Z
 let u <-fu Z
 slT x l u
def vq{f:En->Rs (Option Int)}{k:Option Int->Rs α}{Q:α->Hp->Prop}(E:EnvO X.K O H Z σ)(h:Post X H (f Z >>= k) Q):
  tPO X f σ H λb H'=>Same H H'/\EnvO X.K O H' Z σ/\Post X H' (k b) Q:=
 ⟨Z,O,E,Post.mono h.bind λt H' s q=>⟨s,E.same s,q⟩⟩
def Gk{lo hi:Option ZG}{p2:Pos}{fl fu:En->Rs (Option Int)}(ha:cg X a fa)(hl:N3 X lo fl)(hu:N3 X hi fu):cg X (.Subscript a (.Slice lo hi ZB p2) pos) (sl fa fl fu):=by
 intro kt s σ H Q I ⟨Z,O,E,hq⟩;refine CL (sl_tup.or (sl_tup_whole.or FV)) ha hl hu kt s σ H Q I ?_
 obtain⟨Z1,O1,E1,h1⟩:=a6 E hq;refine⟨Z1,O1,E1,Post.mono h1 λts H1 s1 q vs r=>?_⟩
 obtain⟨t',r',s',E',q'⟩:=q vs r;obtain⟨Z2,O2,E2,h2⟩:=vq E' q';refine⟨Z2,O2,E2,Post.mono h2 λo1 H2 s2 q=>?_⟩
 obtain⟨s2',E2',q2⟩:=q;obtain⟨Z3,O3,E3,h3⟩:=vq E2' q2;refine⟨Z3,O3,E3,Post.mono h3 λo2 H3 s3 q=>?_⟩
 obtain⟨s3',E3',q3⟩:=q
 have rt:=(r'.same s2').same s3';unfold slT at q3
 split at q3
 ·rename_i l
  obtain⟨p,ws,e,n,q,rr⟩:=Rep.Fk.mp rt
  have hlen:=rr.length
  by_cases hw:HT.sIx ws.length 0 o1=0/\HT.sIx ws.length ws.length o2=ws.length
  ·refine .inr (.inl ⟨p,ws,e,SqT.of q,hw,?_⟩)
   rw[<-hlen]at hw;refine q3 H3 (Same.refl H3) _ ?_
   rw[By hw];exact Rep.Fk.mpr ⟨p,ws,rfl,n,q,rr⟩
  ·exact .inl ⟨p,ws,e,SqT.of q,hw,λp' hp=>q3 _ (aW hp _) _ (ik hp (E3'.fresh hp) (rr.cut o1 o2))⟩
 ·rename_i l
  obtain⟨p,ws,e,n,q,rr⟩:=Rep.Do.mp rt;exact .inr (.inr ⟨p,ws,e,SqL.of q,λp' hp=>q3 _ (aW hp _) _ (jv hp (E3'.fresh hp) (rr.cut o1 o2))⟩)
 ·exact q3.elim
def CallT(X:Cx)(f:Px)(g:List T->Rs T):Prop:=
 ∀(kt:Uf)(s:Pz)(σ:L2.St)(H:Hp)(O:Ow)(ts:List T)(vs:List V)(us:List Px)(Q:VK),Inv X kt σ H s->(∀p,H p=ZB->¬ O p)->Reps X.K O H ts vs->Vals vs us →
  Post X H (g ts) (λt H'=>∀v,Rep X.K O H' t v->Q v H')->ZJ (ZK X.prog X.w) X.A (call f us) (EP X kt σ Q) X.xe s
def CallT.of{r:List V->Hp->VK->Prop}(h:CallR X f r){g:List T->Rs T}
  (w:∀(H:Hp)(O:Ow)(ts:List T)(vs:List V)(Q:VK),(∀p,H p=ZB->¬ O p)->Reps X.K O H ts vs->Post X H (g ts) (λt H'=>∀v,Rep X.K O H' t v->Q v H')->r vs H Q):CallT X f g:=
 λkt s σ H O ts vs us Q I hf rs rv hp=>h kt s σ H vs us Q I rv (w H O ts vs Q hf rs hp)
def cl(g:List T->Rs T)(fs:Y0)(Z:En):Rs T:=fs Z >>= g
variable {fs:Y0}{id:String}{g:List T->Rs T}
def Gq(hc:CallT X (.builtin id) g)(hm:X.mg x=ZB)(hv:Qw x=ZA (.builtin id))(ha:qz X (e::es) fs)(hg:autoParam (Gl X x) u_)(hn:autoParam (x≠ "__name__") s_)(hdb:autoParam ((x == ("__debug__" : Str))=ZD) s_)
  (he:autoParam (PR (e::es) X.env=(ZD,eval e X.env)::PR es X.env) u_) (hpl:autoParam ((backTo pos (PR es X.env)).any (·.1)=ZD) u_):cg X (.Call (.Name x p) (e::es) [] pos) (cl g fs):=by
 intro kt s σ H Q I ⟨Z,O,E,hq⟩;refine Q1 (fO I hg hm hv ?_ hn hdb)
 have h1:=fF E hq;exact RG (bV (ha pos kt s σ H _ I h1) λus s1 ⟨vs,H1,I1,r1,ts,rs,s',E',q1⟩=>hc kt s1 σ H1 O ts vs us Q I1 (λp=>E'.fresh) rs r1 q1) he hpl
def CA(hc:CallT X (.type Ty) g)(hm:X.mg x=ZB)(hv:Qw x=ZA (.type Ty))(ha:qz X (e::es) fs)(hg:autoParam (Gl X x) u_)(hn:autoParam (x≠ "__name__") s_)(hdb:autoParam ((x == ("__debug__" : Str))=ZD) s_)
  (he:autoParam (PR (e::es) X.env=(ZD,eval e X.env)::PR es X.env) u_) (hpl:autoParam ((backTo pos (PR es X.env)).any (·.1)=ZD) u_):cg X (.Call (.Name x p) (e::es) [] pos) (cl g fs):=by
 intro kt s σ H Q I ⟨Z,O,E,hq⟩;refine Q1 (fO I hg hm hv ?_ hn hdb)
 have h1:=fF E hq;exact QV (bV (ha pos kt s σ H _ I h1) λus s1 ⟨vs,H1,I1,r1,ts,rs,s',E',q1⟩=>hc kt s1 σ H1 O ts vs us Q I1 (λp=>E'.fresh) rs r1 q1) he hpl
def Reps.one{t:T}(r:Reps K O H [t] vs):∃v,vs=[v]/\Rep K O H t v:=by
 obtain⟨v,ws,rfl,p,q⟩:=Reps.me.mp r;cases Reps.Da.mp q;exact⟨v,rfl,p⟩
def Rep.sq{t:T}(r:Rep K O H t v)(h:t.items=ZA l):∃a vs,v=.ref a/\¬ O a/\Reps K O H l vs/\(SqL K H a vs\/SqT K H a vs):=by
 cases t with
 |tup m=>cases h;obtain⟨a,vs,e,n,q,z⟩:=Rep.Fk.mp r;exact⟨a,vs,e,n,z,.inr (SqT.of q)⟩
 |lst m=>cases h;obtain⟨a,vs,e,n,q,z⟩:=Rep.Do.mp r;exact⟨a,vs,e,n,z,.inl (SqL.of q)⟩
 |scr m=>cases h;unfold Rep at r;obtain⟨a,e,n,q⟩:=r;exact⟨a,_,e,n,Reps.ints,.inl q⟩
 |_=>cases h
def cQ:List T->Rs T
 |[.str x] =>if x.length<=ZI then .ok (.int x.length)else .bad
 |[x] =>match x.items with
  |some l=>.ok (.int l.length)
  |none=>.bad
 |_=>.bad
def cv:CallT X (.builtin "len") cQ:=CallT.of (call_len_seq.or uU) λH O ts vs Q hf rs hp=>by
 unfold cQ at hp
 split at hp
 ·obtain⟨v,rfl,r⟩:=rs.one
  split at hp
  ·rename_i h
   exact .inr ⟨_,by rw[Rep.IR.mp r],h,hp H (Same.refl H) _ (Rep.GT _)⟩
  ·exact hp.elim
 ·obtain⟨v,rfl,r⟩:=rs.one
  split at hp
  ·rename_i l hl
   obtain⟨a,vs,rfl,n,z,q⟩:=r.sq hl;exact .inl ⟨a,vs,rfl,q,hp H (Same.refl H) _ (by rw[<-z.length];exact Rep.GT _)⟩
  ·exact hp.elim
 ·exact hp.elim
def gO:List T->Rs T
 |[.tup l] =>.ok (.tup l)
 |[.lst l] =>.ok (.tup l)
 |_=>.bad
def jQ:CallT X (.type "tuple") gO:=CallT.of rk λH O ts vs Q hf rs hp=>by
 unfold gO at hp
 split at hp
 ·obtain⟨v,rfl,r⟩:=rs.one
  obtain⟨a,ws,rfl,n,q,z⟩:=Rep.Fk.mp r;exact⟨a,ws,rfl,.inr ⟨SqT.of q,hp H (Same.refl H) _ (Rep.Fk.mpr ⟨a,ws,rfl,n,q,z⟩)⟩⟩
 ·obtain⟨v,rfl,r⟩:=rs.one
  obtain⟨a,ws,rfl,n,q,z⟩:=Rep.Do.mp r;exact⟨a,ws,rfl,.inl ⟨SqL.of q,λl hl=>hp _ (aW hl _) _ (ik hl (hf l hl) z)⟩⟩
 ·exact hp.elim
def DS:List T->Rs T
 |[.int i] =>.ok (.int i)
 |[.bl k] =>.ok (.int (if k then 1 else 0))
 |_=>.bad
def LD:CallT X (.type "int") DS:=CallT.of BD λH O ts vs Q hf rs hp=>by
 unfold DS at hp
 split at hp
 ·obtain⟨v,rfl,r⟩:=rs.one
  exact .inl ⟨_,by rw[Rep.AC.mp r],hp H (Same.refl H) _ (Rep.GT _)⟩
 ·obtain⟨v,rfl,r⟩:=rs.one
  exact .inr ⟨_,by rw[Rep.FS.mp r],hp H (Same.refl H) _ (Rep.GT _)⟩
 ·exact hp.elim
def qu:List T->Option (List Bool)
 |[] =>ZA []
 |.bl k::r=>(qu r).map (k:: ·)
 |_=>ZB
def rq:List T->Rs T
 |[.lst l] =>match qu l with
  |some ks=>.ok (.bl (ks.all λk=>k))
  |none=>.bad
 |_=>.bad
theorem qt:∀{l:List T}{ks:List Bool}{vs:List V}{us:List Px},qu l=ZA ks->Reps K O H l vs->Vals vs us->us=ks.map Q7
 |[],ks,vs,us,e,r,v=>by cases e;cases Reps.Da.mp r;cases v;rfl
 |t::l,ks,vs,us,e,r,v=>by
  obtain⟨w,ws,rfl,p,q⟩:=Reps.me.mp r
  cases t with
  |bl k=>
   unfold qu at e
   cases z:qu l with
   |none=>rw[z]at e;cases e
   |some ks'=>
    rw[z]at e;cases e
    cases v with
    |cons v1 v2=>
     cases Rep.FS.mp p;cases v1
     rw[qt z q v2];rfl
  |_=>cases e
def uS(hc:X.calm=ZC):CallT X (.builtin "all") rq:=by
 intro kt s σ H O ts vs us Q I hf rs rv hp;unfold rq at hp
 split at hp
 ·obtain⟨v,rfl,r⟩:=rs.one
  split at hp
  ·rename_i ks hk
   obtain⟨a,ws,rfl,n,q,z⟩:=Rep.Do.mp r;obtain⟨u,rfl,ru⟩:=jm rv;cases ru;obtain⟨its,r',pl,hz⟩:=I.list (SqL.of q)
   have hits:=qt hk z r';refine call_all_walk (UZ pl.isList ?_)
   have hne:a≠s.heap.objs.size:=λe=>by
    obtain⟨o,ho,_⟩:=pl.isList;rw[e]at ho;exact absurd (PU ho) (Qm _)
   refine⟨s.heap.objs.size,_,_,_,_,_,λi=>(ks[i]?).getD ZC,rfl,Walks.list (A:=X.A.in1) (I.ok.hd hc) s.heap.objs.size a hne its.toArray,⟨⟨_,Qc _ rfl,rfl,rfl⟩,?_⟩,?_,?_⟩
   ·obtain⟨o,ho,hh⟩:=pl.isList
    exact⟨o,PN _ ho,hh⟩
   ·intro i v s' Q' E' hP hQ'
    subst hits
    dsimp only at hQ'
    have hP':(ks.map Q7)[i]?=ZA v:=by simpa using hP
    rw[P9]at hP'
    cases e:ks[i]? with
    |none=>rw[e]at hP';cases hP'
    |some k=>
     rw[e]at hP' hQ';cases hP';exact Rn hQ'
   ·intro h' tk hk'
    have hlen:its.toArray.size=ks.length:=by rw[hits];simp
    have e:((Q2 its.toArray.size).all λi=>(ks[i]?).getD ZC)=(ks.all λk=>k):=by
     rw[hlen];rw[SH,Qk,Qk]
     constructor
     ·intro h x hx
      obtain⟨i,hi,rfl⟩:=RQ hx
      have:=h i (Ro.mpr hi)
      simpa [hi]using this
     ·intro h i hi
      have hi':=Ro.mp hi
      have:=h ks[i] (QU hi')
      simpa [hi']using this
    rw[e]
    have I1:Inv X kt σ H {s with heap:=s.heap.push {cls:=.type "list_iterator",data:=.fields #[.ref a,.int 0 0]}}:=I.kept (t':=s.toks) λb o e=>PN _ e
    have I2:Inv X kt σ H {s with heap:=h',toks:=tk}:=by
     have:=I1.turned (h':=h') (t':=tk) (it:=s.heap.objs.size) (λb o hb e=>hk' b o (by simpa using hb) e) (I.hok.fresh (PP _))
      (Ss I.lt) (.inr I.sz) (λx c e z=>?_) (λp hp z=>?_)
     ·exact this
     ·obtain⟨v,q⟩:=I.cell x c e
      exact absurd (PQ q.lt (Tc z.symm)) (Qm _)
     ·exact absurd (PQ (PU (I.pin p hp).1) (Tc z.symm)) (Qm _)
    exact⟨.bl _,H,I2,rfl,hp H (Same.refl H) _ (Rep.bl_ _)⟩
  ·exact hp.elim
 ·exact hp.elim
end
def T.ty:T->Option String
 |.non=>ZA "NoneType"
 |.bl _=>ZA "bool"
 |.int _=>ZA "int"
 |.str _=>ZA "str"
 |.tup _=>ZA "tuple"
 |.lst _=>ZA "list"
 |.scr _=>ZB
 |.dct _ _=>ZB
 |.ob _ _ _=>ZB
def wQ(i b t l s:Bool)(Ty:String):Option Bool:=match Ty with
 | "int" =>ZA i| "bool" =>ZA b| "tuple" =>ZA t| "list" =>ZA l| "str" =>ZA s
 |_=>ZB
def z7(n Ty:String):Option Bool:=match n with
 | "NoneType" =>wQ ZD ZD ZD ZD ZD Ty
 | "bool" =>wQ ZC ZC ZD ZD ZD Ty
 | "int" =>wQ ZC ZD ZD ZD ZD Ty
 | "str" =>wQ ZD ZD ZD ZD ZC Ty
 | "tuple" =>wQ ZD ZD ZC ZD ZD Ty
 | "list" =>wQ ZD ZD ZD ZC ZD Ty
 |_=>ZB
def Bo(K:Pv){n:String}(h:z7 n Ty=ZA b):PySem.W.kitOne K (.type n) (.type Ty)=ZA b:=by
 unfold z7 at h
 split at h <;> first| (cases h;done)| (unfold wQ at h;split at h <;> first| (cases h;done)| (cases h;kernel_rfl))
def Hi(Ty:String)(t:T):Rs T:=match t.ty with
 |some n=>match z7 n Ty with
  |some b=>.ok (.bl b)
  |none=>.bad
 |none=>.bad
def Rep.Pr{t:T}{n:String}(r:Rep K O H t v)(h:t.ty=ZA n):m5 K H v (.type n):=by
 cases t with
 |non=>cases h;cases Rep.On.mp r;exact .non
 |bl b=>cases h;cases Rep.FS.mp r;exact .bl b
 |int b=>cases h;cases Rep.AC.mp r;exact .int b
 |str b=>cases h;cases Rep.IR.mp r;exact .str b
 |tup l=>cases h;obtain⟨a,vs,rfl,_,q,_⟩:=Rep.Fk.mp r;exact .tup q
 |lst l=>cases h;obtain⟨a,vs,rfl,_,q,_⟩:=Rep.Do.mp r;exact .lst q
 |scr l=>cases h
 |dct _ _=>cases h
 |ob _ _ _=>cases h
variable{H':Hp}{M:Mn}{O':Ow}{g:T->En->Rs En}{gs:List T->En->Rs En}{iter tg:ZG}{kt:Uf}{ps:List Str}
section
variable {a b c:ZG}{fs:Y0}{p2:Pos}
def fP:Qw "isinstance" =ZA (.builtin "isinstance"):=by decide+kernel
def MM{tn:Str}(hm:X.mg "isinstance" =ZB)(hmt:X.mg tn=ZB)(hv:Qw tn=ZA (.type Ty))(ha:cg X a fa)(hg:autoParam (Gl X "isinstance") u_)(hgt:autoParam (Gl X tn) u_)
  (hn:autoParam (tn≠ "__name__") s_) (hd:autoParam ((tn == ("__debug__" : Str))=ZD) s_)
  (he:autoParam (PR [a,.Name tn p2] X.env=(ZD,eval a X.env)::PR [.Name tn p2] X.env) u_) (hpl:autoParam ((backTo pos (PR [.Name tn p2] X.env)).any (·.1)=ZD) u_)
  (hs:autoParam (PR [.Name tn p2] X.env=(ZD,eval (.Name tn p2) X.env)::PR [] X.env) u_):
  cg X (.Call (.Name "isinstance" p) [a,.Name tn p2] [] pos) (o1 (Hi Ty) fa):=by
 intro kt s σ H Q I ⟨Z,O,E,hq⟩;refine Q1 (fO I hg hm fP ?_ (by decide) (by decide))
 have hA:PA X [a,.Name tn p2] (oX (tP X fa) (oX (tC (.ty Ty)) FO)):=cS ha (cS (zG (v:=.ty Ty) hgt hmt hv rfl hn hd) fM hs) he;obtain⟨Z1,O1,E1,h1⟩:=a6 E hq;refine RG (bV (hA pos kt s σ H (λvs H'=>∃v t,vs=[v,.ty Ty]/\Rep X.K O H' t v/\Post X H' (Hi Ty t) (λt H'=>∀v,Rep X.K O H' t v->Q v H')) I ?_) λus s1 ⟨vs,H1,I1,r1,v,t,e1,rt,q⟩=>?_) he hpl
 ·refine⟨Z1,O1,E1,Post.mono h1 λts H1 s1 q vs r=>?_⟩
  obtain⟨t',r',s',E',q'⟩:=q vs r;exact⟨vs,t',rfl,r',q'⟩
 ·subst e1
  obtain⟨u,w',rfl,ru,rw'⟩:=zd r1;cases rw';unfold Hi at q
  split at q
  ·rename_i n hn'
   split at q
   ·rename_i bb hb
    exact Bm I1 ru (rt.Pr hn') (Bo _ hb) λtk=>⟨.bl bb,H1,I1.tok _,rfl,q H1 (Same.refl H1) _ (Rep.bl_ _)⟩
   ·exact q.elim
  ·exact q.elim
def spP(K:Pv)(n:Nat)(g:List T->Rs T):Sp:=λvs H Q _=>∃ts O,Reps K O H ts vs/\(∀a,O a->Mtb H a)/\ts.length=n ∧
 match g ts with
 |.ok t=>∀v H',Same H H'->Rep K O H' t v->Q v H'
 |_=>False
def RzC(P:Qg)(w:QP)(mg:WF)(outer:List Env)(H:Hp)(s:Pz)(c:Str)(ev:Px)(s':Pz):Prop:=
 ∃e T C H',ev=.ref e/\mg c=ZA (.ref C)/\s'.os=s.os/\U7 s'.gens/\Un (oG outer) [] H H' s.heap s'.heap/\HOk P w H' s'.heap/\Same H H'/\H' e=ZB/\s.heap.get? e=ZB/\LW s'.heap C e (ZA T)/\H' T=ZB/\s.heap.get? T=ZB
def FnX(P:Qg)(w:QP)(K:Pv)(mg:WF)(base:ZH)(k:Nat)(f:ZE)(fd:Q0)(ps:List Str)(n:Nat)(g:List T->Rs T):Prop:=
 ∀(A:Qq)(outer:List Env)(s:Pz)(H:Hp)(args:Args)(us:List Px)(vs:List V)(O:Ow)(ts:List T)(c:Str)(R:Wp->Pz->Prop),Room k A->Env0 P w K mg base A outer s H->VC s fd args (ps.zip us)->Vals vs us →
  Reps K O H ts vs->(∀a,O a->Mtb H a)->ts.length=n->g ts=.err c->(∀ev s',RzC P w mg outer H s c ev s'->R (.error ev) s')->ZL (ZK P w) A (.call (.ref f) args) R s
structure Fp (P:Qg)(w:QP)(K:Pv)(mg:WF)(base:ZH)(k:Nat)(f:ZE)(fd:Q0)(ps:List Str)(n:Nat)(g:List T->Rs T):Prop where
 h:qB P w K mg base CX0 k f fd ps (spP K n g)
 x:FnX P w K mg base k f fd ps n g
def CZ{h:ZH}{a:ZE}{o:HO}(x:ObjOk P w H h a o):∃u,h.get? a=ZA u:=by
 cases o with
 |lst xs=>obtain⟨_,_,_,_,e⟩:=x;exact⟨_,e⟩
 |tup xs=>obtain⟨_,_,_,ob,e,_⟩:=x;exact⟨_,e⟩
 |dK kvs=>obtain⟨_,_,_,_,o,_,_,e,_⟩:=x;exact⟨_,e⟩
 |dT kvs=>obtain⟨_,_,_,_,o,_,_,e,_⟩:=x;exact⟨_,e⟩
 |set S n=>obtain⟨o,_,_,_,e,_⟩:=x;exact⟨_,e⟩
 |ins C dx fs=>obtain⟨_,_,_,e,_⟩:=x;exact⟨_,e⟩
 |own y=>obtain⟨_,e⟩:=x;exact⟨_,e⟩
 |xd fs=>obtain⟨_,⟨_,_,_,e,_⟩,_⟩:=x;exact⟨_,e⟩
 |rng lo hi=>obtain⟨_,_,_,e⟩:=x;exact⟨_,e⟩
 |frz ob u=>obtain⟨e,_⟩:=x;exact⟨_,e⟩
 |tbl ps=>exact⟨_,(show h.get? a=ZA _ from x)⟩
 |met f y=>exact⟨_,(show h.get? a=ZA _ from x)⟩
 |ext φ=>obtain⟨_,⟨_,e⟩,_⟩:=x;exact⟨_,e⟩
def jz(I:Inv X kt σ H s){e:ZE}(n:s.heap.get? e=ZB):H e=ZB:=by
 cases z:H e with
 |none=>rfl
 |some o=>
  obtain⟨o',ho'⟩:=CZ (I.hok e o z);rw[n]at ho';cases ho'
def fm(I:Inv X kt σ H s)(hex:X.ex=[]){e:ZE}(n:s.heap.get? e=ZB):X.s₀.heap.get? e=ZB:=by
 cases z:X.s₀.heap.get? e with
 |none=>rfl
 |some o=>
  obtain⟨o',ho'⟩:=I.base.there e o z (by rw[hex];simp)
  rw[n]at ho';cases ho'
def JQ{f:ZE}{g:List T->Rs T}(F:Fp X.prog X.w X.K X.mg X.base k f fd ps n g)(hr:Room k X.A)(hm:X.mg x=ZA (.ref f))(hk:R7 X.K (.ref f)=ZC)(hb:Binds X.K fd ps [])(hps:ps.length=n)
  (hl:∀Z ts,fs Z=.ok ts->ts.length=n) (ha:qz X (e::es) fs) (hg:autoParam (Gl X x) u_) (hdb:autoParam ((x == ("__debug__" : Str))=ZD) s_) (he:autoParam (PR (e::es) X.env=(ZD,eval e X.env)::PR es X.env) u_) (hpl:autoParam ((backTo pos (PR es X.env)).any (·.1)=ZD) u_):
  cg X (.Call (.Name x p) (e::es) [] pos) (cl g fs):=by
 intro kt s σ H Q I ⟨Z,O,E,hq⟩
 have hq':Post X H (fs Z >>= g) λt H'=>∀v,Rep X.K O H' t v->Q v H':=hq
 cases q:fs Z with
 |bad=>rw[q]at hq';exact hq'.elim
 |err c=>
  rw[q]at hq';refine zE (E:=E0) F.h hr hg hm hk hb .nil zH ha hdb he hpl kt s σ H Q I ⟨Z,O,E,?_⟩
  rw[q]
  exact hq'
 |ok ts=>
  rw[q]at hq'
  have hq2:Post X H (g ts) λt H'=>∀v,Rep X.K O H' t v->Q v H':=hq'
  cases q2:g ts with
  |bad=>rw[q2]at hq2;exact hq2.elim
  |ok t=>
   rw[q2]at hq2;refine zE (E:=E0) F.h hr hg hm hk hb .nil zH ha hdb he hpl kt s σ H Q I ⟨Z,O,E,?_⟩
   rw[q];intro H1 s1 vs rs;rw[Ql];refine⟨ts,O,rs,(E.same s1).mtb,hl Z ts q,?_⟩
   rw[q2]
   exact λv H' s2 r=>hq2 H' (s1.trans s2) v r
  |err c=>
   rw[q2]at hq2;refine Q1 (gH I hg hm ?_ hdb)
   refine R3 (h₀:=X.base) I.ok.mod.kin hk (bV (ha pos kt s σ H (λvs H'=>Same H H'/\Reps X.K O H' ts vs) I ⟨Z,O,E,?_⟩) (λus s1 ⟨vs,H1,I1,r,sm,rs⟩=>⟨I1.kIn,?_⟩)) he hpl
   ·rw[q];exact λH' sm vs rs=>⟨sm,rs⟩
   ·have hlen:us.length=ps.length:=by rw[<-r.length,<-rs.length,hl Z ts q,hps]
    have hb':=hb s1 us I1.kIn (by rw[Ql];exact hlen)
    rw[Ql]at hb';refine U0 (SN (F.x X.A X.stack s1 H1 ⟨us,[]⟩ us vs O ts c (λr s'=>match r with|.error ev=>X.xe ev s'|_=>False) hr I1.OQ hb' r rs (E.same sm).mtb (hl Z ts q) q2 λev s' w=>?_) λr s' hq=>?_)
    ·obtain⟨ea,T,C,H',rfl,hmc,ho,hbare,hun,hok,sm2,hea,heo,fl,hT,hTo⟩:=w
     have I2:Inv X kt σ H' s':=I1.OJ ho hun hok hbare (λb z=>absurd z (by simp))
     exact hq2 kt _ _ ⟨ea,ZA T,C,σ,H',rfl,hmc,I2,λb o q _=>sm2 b o (sm b o q),hea,λhex=>fm I1 hex heo,fl,(λt zt=>by cases zt;exact⟨hT,λhex=>fm I1 hex hTo⟩),λpp hpp=>⟨λzz=>(by have:=(I1.pin pp hpp).1;rw[zz,heo]at this;cases this),λzz=>(by cases zz;have:=(I1.pin pp hpp).1;rw[hTo]at this;cases this)⟩⟩
    ·cases r with
     |error ev=>exact hq
     |ok fl=>exact hq.elim
def BN(X:Cx)(g:T->En->Rs En):TG:=λv σ H Q=>∃Z O M t,EnvM X.K O M H Z σ/\Rep X.K O H t v/\match g t Z with
 |.ok Z'=>∀σ',EnvM X.K O M H Z' σ'->Q σ' H
 |_=>False
abbrev Fo(X:Cx)(tg:ZG)(g:T->En->Rs En):Prop:=PG X tg (BN X g)
def tPGs(X:Cx)(g:List T->En->Rs En):HJ:=λvs σ H Q=>∃Z O M ts,EnvM X.K O M H Z σ/\Reps X.K O H ts vs/\match g ts Z with
 |.ok Z'=>∀σ',EnvM X.K O M H Z' σ'->Q σ' H
 |_=>False
abbrev EY(X:Cx)(tg:List ZG)(g:List T->En->Rs En):Prop:=PGs X tg (tPGs X g)
def PG.imp{t t':TG}(h:PG X e t)(w:∀v σ H Q,t' v σ H Q->t v σ H Q):PG X e t':=λkt s σ H v u Q I r q=>h kt s σ H v u Q I r (w v σ H Q q)
def PGs.imp{e:List ZG}{t t':HJ}(h:PGs X e t)(w:∀v σ H Q,t' v σ H Q->t v σ H Q):PGs X e t':=λkt s σ H v u Q I r q=>h kt s σ H v u Q I r (w v σ H Q q)
def gN(i:Nat)(t:T)(Z:En):Rs En:=if i<Z.length then .ok (Z.set i (.va t))else .bad
def EnvM.set{t:T}(E:EnvM K O M H Z σ)(hi:i<Z.length)(r:Rep K O H t v):EnvM K O M H (Z.set i (.va t)) (σ.set i (ZA v)) where
 len:=by rw[Qr,Qr];exact E.len
 val:=λj u e=>by
  by_cases hj:i=j
  ·subst hj
   rw[P4 hi]at e
   cases e;exact⟨v,P4 (by rw[<-E.len];exact hi),r⟩
  ·rw[P3 hj]at e
   obtain⟨w,e1,e2⟩:=E.val j u e;exact⟨w,by rw[P3 hj];exact e1,e2⟩
 own:=λj o e=>by
  by_cases hj:i=j
  ·subst hj
   rw[P4 hi]at e
   cases e
  ·rw[P3 hj]at e
   obtain⟨w,e1,e2⟩:=E.own j o e;exact⟨w,by rw[P3 hj];exact e1,e2⟩
 sub:=E.sub
 dis:=E.dis
 trk:=E.trk
def Gi(i:Nat)(hN:X.N.Nodup)(hi:autoParam (X.N[i]?=ZA x) u_)(hx:autoParam (Loc X.env.scope x) y_)(hf:autoParam (X.fn x=ZC\/X.env.scope.names.lookup x=ZA .local) r_):Fo X (.Name x pos) (gN i):=
 PG.imp (zy hN hi hx hf) λv σ H Q hh_=>by
  obtain⟨Z,O,M,t,E,r,h⟩:=hh_;unfold gN at h
  split at h
  ·rename_i Z' e
   split at e
   ·rename_i hl
    cases e;exact h _ (E.set hl r)
   ·cases e
  ·exact h.elim
def Fg(ts:List T)(Z:En):Rs En:=match ts with
 |[] =>.ok Z
 |_=>.bad
def wK(g:T->En->Rs En)(gs:List T->En->Rs En)(ts:List T)(Z:En):Rs En:=match ts with
 |t::r=>do
  let Z1 <-g t Z
  gs r Z1
 |[] =>.bad
def Gh:EY X [] Fg:=PGs.imp GC λvs σ H Q hh_=>by
 obtain⟨Z,O,M,ts,E,r,h⟩:=hh_;unfold Fg at h
 cases ts with
 |nil=>exact⟨Reps.Da.mp r,h σ E⟩
 |cons _ _=>exact h.elim
def Cw(h1:Fo X e g)(h2:EY X es gs)
  (hs:autoParam ((RA (e::es) X.env).map (·.2)=assign e X.env::(RA es X.env).map (·.2)) u_):EY X (e::es) (wK g gs):=
 PGs.imp (CK h1 h2 hs) λvs σ H Q hh_=>by
  obtain⟨Z,O,M,ts,E,r,h⟩:=hh_
  cases ts with
  |nil=>exact h.elim
  |cons t ts=>
   obtain⟨v,ws,rfl,p,q⟩:=Reps.me.mp r;refine⟨v,ws,rfl,Z,O,M,t,E,p,?_⟩
   unfold wK at h
   cases e1:g t Z with
   |bad=>simp[e1]at h
   |err c=>simp[e1]at h
   |ok Z1=>
    intro σ1 E1;refine⟨Z1,O,M,ts,E1,q,?_⟩
    simp only[e1,ax]at h
    cases e2:gs ts Z1 with
    |bad=>simp[e2]at h
    |err c=>simp[e2]at h
    |ok Z2=>
     simp only[e2]at h;exact λσ2 E2=>h σ2 E2
def gT(n:Nat)(gs:List T->En->Rs En)(t:T)(Z:En):Rs En:=match t with
 |.tup l=>if l.length=n then gs l Z else .bad
 |_=>.bad
def JM(hc:X.calm=ZC)(h:EY X es gs)(hn:autoParam ((RA es X.env).length=n) u_)(hst:autoParam ((RA es X.env).findIdx? (·.1)=ZB) u_):Fo X (.Tuple es k pos) (gT n gs):=
 PG.imp (J1 hc h hn hst) λv σ H Q hh_=>by
  obtain⟨Z,O,M,t,E,r,h⟩:=hh_;unfold gT at h
  cases t with
  |tup l=>
   obtain⟨a,vs,rfl,n',q,z⟩:=Rep.Fk.mp r
   by_cases hl:l.length=n
   ·simp only[if_pos hl]at h
    exact⟨a,vs,rfl,SqT.of q,by rw[<-z.length];exact hl,Z,O,M,l,E,z,h⟩
   ·simp only[if_neg hl]at h
  |_=>exact h.elim
def SqL.nn{a:ZE}(q:SqL K H a vs):¬ Nw K H a:=λ⟨h1,h2⟩=>by
 rcases q with(q|⟨o,q⟩)|⟨o,_,_,q,_⟩
 ·rw[h1]at q;cases q
 ·rw[h1]at q;cases q
 ·rw[h2]at q;cases q
mutual
theorem Rep.more{K:Pv}{O O':Ow}{H:Hp}(sub:∀a,O' a->O a\/Nw K H a):∀{t:T}{v:V},Rep K O H t v->Rep K O' H t v
 |.non,_,r=>by unfold Rep at r ⊢;exact r
 |.bl _,_,r=>by unfold Rep at r ⊢;exact r
 |.int _,_,r=>by unfold Rep at r ⊢;exact r
 |.str _,_,r=>by unfold Rep at r ⊢;exact r
 |.tup l,_,r=>by
  unfold Rep at r ⊢;obtain⟨a,vs,e,n,q,z⟩:=r
  exact⟨a,vs,e,λp=>(sub a p).elim n λw=>(by rw[w.1]at q;cases q),q,Reps.more sub z⟩
 |.lst l,_,r=>by
  unfold Rep at r ⊢;obtain⟨a,vs,e,n,q,z⟩:=r
  exact⟨a,vs,e,λp=>(sub a p).elim n λw=>(by rw[w.1]at q;cases q),q,Reps.more sub z⟩
 |.scr l,_,r=>by
  unfold Rep at r ⊢;obtain⟨a,e,n,q⟩:=r
  exact⟨a,e,λp=>(sub a p).elim n λw=>Tr.SqL.nn q w,q⟩
 |.dct ks ts,_,r=>by
  unfold Rep at r ⊢;obtain⟨a,kvs,e,n,q,k,z⟩:=r
  exact⟨a,kvs,e,λp=>(sub a p).elim n λw=>(by rcases q with q|⟨_,q⟩ <;> rw[w.1]at q <;> cases q),q,k,Reps.more sub z⟩
 |.ob C ns ts,_,r=>by
  unfold Rep at r ⊢;obtain⟨a,dx,fs,e,n,q,k,z⟩:=r;exact⟨a,dx,fs,e,⟨⟨λp=>(sub a p).elim n.1.1 λw=>(by rw[w.1]at q;cases q),λp=>(sub dx p).elim n.1.2.1 λw=>(by have:=n.1.2.2;rw[w.1]at this;cases this),n.1.2.2⟩,n.2⟩,q,k,Reps.more sub z⟩
theorem Reps.more{K:Pv}{O O':Ow}{H:Hp}(sub:∀a,O' a->O a\/Nw K H a):∀{l:List T}{vs:List V},Reps K O H l vs->Reps K O' H l vs
 |[],_,r=>by unfold Reps at r ⊢;exact r
 |t::l,_,r=>by
  unfold Reps at r ⊢;obtain⟨v,ws,e,p,q⟩:=r;exact⟨v,ws,e,Rep.more sub p,Reps.more sub q⟩
end
def Rep.move{P:Ow}{t:T}(hP:∀a,P a->O a\/Nw K H a)(hO:∀a,O' a->O a\/Nw K H a)(h:SameO P H H')(r:Rep K O H t v):Rep K O' H' t v:=
 Rep.less (O:=λa=>O' a\/P a) (λ_ z=>.inl z) (Rep.keep h (λ_ z=>.inr z) (Rep.more (λa z=>z.elim (hO a) (hP a)) r))
def Reps.move{P:Ow}{t:List T}{v:List V}(hP:∀a,P a->O a\/Nw K H a)(hO:∀a,O' a->O a\/Nw K H a)(h:SameO P H H')(r:Reps K O H t v):Reps K O' H' t v:=
 Reps.less (O:=λa=>O' a\/P a) (λ_ z=>.inl z) (Reps.keep h (λ_ z=>.inr z) (Reps.more (λa z=>z.elim (hO a) (hP a)) r))
def ItT(K:Pv)(O:Ow)(H:Hp)(ts:List T)(J:It):Prop:=∀(P O':Ow),(∀a,P a->O a\/Nw K H a)->(∀a,O' a->O a\/Nw K H a)->∀(i:Nat)(Hc:Hp),SameO P H Hc->(∀a,O' a->∃o,Hc a=ZA o) →
 (ts.length<=i->J.stop i Hc)/\(∀t,ts[i]?=ZA t->J.go i Hc/\∀x Hc',J.yld i Hc x Hc'->Same Hc Hc'/\Rep K O' Hc' t x)
def tPI(X:Cx)(f:Y0):TI:=λσ H R=>∃Z O,EnvO X.K O H Z σ/\Post X H (f Z) λts H'=>∀J,ItT X.K O H' ts J->R J H'
abbrev BH(X:Cx)(tg iter:ZG)(f:Y0):Prop:=PI X tg iter (tPI X f)
def PI.imp{t t':TI}(h:PI X tg iter t)(w:∀σ H R,t' σ H R->t σ H R):PI X tg iter t':=λkt s σ H R I q=>h kt s σ H R I (w σ H R q)
def iL(f:Y2)(Z:En):Rs (List T):=do
 let x <-f Z
 match x with
 |.lst l=>.ok l
 |_=>.bad
def iT(f:Y2)(Z:En):Rs (List T):=do
 let x <-f Z
 match x with
 |.tup l=>.ok l
 |_=>.bad
def zp(ha:cg X a fa):BH X tg a (iL fa):=PI.imp (zx ha) λσ H R hh_=>by
 obtain⟨Z,O,E,h⟩:=hh_;obtain⟨Z1,O1,E1,h1⟩:=a6 E h;refine⟨Z1,O1,E1,Post.mono h1 λts H1 s1 q vs r=>?_⟩
 obtain⟨t',r',s',E',q'⟩:=q vs r
 split at q'
 ·rename_i l
  obtain⟨a,ws,rfl,n,q,z⟩:=Rep.Do.mp r';refine⟨a,rfl,⟨ws,SqL.of q⟩,q' H1 (Same.refl H1) _ λP O' hP hO i Hc hs ht=>?_⟩
  have hnP:¬ P a:=λz=>(hP a z).elim n λw=>by rw[w.1]at q;cases q
  refine⟨λhi=>⟨ws,SqL.of (hs _ _ q hnP),by rw[<-z.length];exact hi⟩,λt ht'=>?_⟩
  obtain⟨v,e1,e2⟩:=z.get ht';refine⟨⟨ws,v,SqL.of (hs _ _ q hnP),e1⟩,λx Hc' y=>?_⟩
  obtain⟨e,y⟩:=y;subst e
  have:=y ws (SqL.of (hs _ _ q hnP));rw[e1]at this;cases this;exact⟨Same.refl _,e2.move hP hO hs⟩
 ·exact q'.elim
def JJ(ha:cg X a fa):BH X tg a (iT fa):=PI.imp (J0 ha) λσ H R hh_=>by
 obtain⟨Z,O,E,h⟩:=hh_;obtain⟨Z1,O1,E1,h1⟩:=a6 E h;refine⟨Z1,O1,E1,Post.mono h1 λts H1 s1 q vs r=>?_⟩
 obtain⟨t',r',s',E',q'⟩:=q vs r
 split at q'
 ·rename_i l
  obtain⟨a,ws,rfl,n,q,z⟩:=Rep.Fk.mp r';refine⟨a,rfl,⟨ws,SqT.of q⟩,q' H1 (Same.refl H1) _ λP O' hP hO i Hc hs ht=>?_⟩
  have hnP:¬ P a:=λz=>(hP a z).elim n λw=>by rw[w.1]at q;cases q
  refine⟨λhi=>⟨ws,SqT.of (hs _ _ q hnP),by rw[<-z.length];exact hi⟩,λt ht'=>?_⟩
  obtain⟨v,e1,e2⟩:=z.get ht';refine⟨⟨ws,v,SqT.of (hs _ _ q hnP),e1⟩,λx Hc' y=>?_⟩
  obtain⟨e,y⟩:=y;subst e
  have:=y ws (SqT.of (hs _ _ q hnP));rw[e1]at this;cases this;exact⟨Same.refl _,e2.move hP hO hs⟩
 ·exact q'.elim
def rng(lo hi:Int):List T:=(Q2 (hi - lo).toNat).map λ(k:Nat)=>T.int (lo+(k:Int))
def yH(i:Int):Bool:=decide (-(2 ^ 62)<=i)&&decide (i<2 ^ 62)
def iR(f:Y0)(Z:En):Rs (List T):=do
 let x <-f Z
 match x with
 |[.int j] =>if yH j then .ok (rng 0 j)else .bad
 |[.int i,.int j] =>if yH i&&yH j then .ok (rng i j)else .bad
 |_=>.bad
def ki{i:Int}(h:yH i=ZC): -(2 ^ 62)<=i/\i<2 ^ 62:=by
 unfold yH at h;rw[PC]at h;exact⟨of_decide_eq_true h.1,of_decide_eq_true h.2⟩
def oB(lo hi:Int):ItT K O H (rng lo hi) (Itr lo (hi - lo).toNat):=λP O' hP hO i Hc hs ht=>by
 refine⟨λh=>?_,λt h=>?_⟩
 ·show(hi - lo).toNat<=i
  unfold rng at h;rw[Py,Sn]at h;exact h
 ·unfold rng at h
  rw[P9]at h
  by_cases hi':i<(hi - lo).toNat
  ·rw[List.getElem?_range hi']at h
   cases h;refine⟨hi',λx Hc' y=>?_⟩
   obtain⟨e,y⟩:=y;subst e y;exact⟨Same.refl _,Rep.GT _⟩
  ·rw[TM (by simpa using hi')]at h
   cases h
def AX(hm:X.mg "range" =ZB)(ha:qz X [a] fs)(hg:autoParam (Gl X "range") u_)(hs:autoParam (PR [a] X.env=[(ZD,eval a X.env)]) u_):BH X tg (.Call (.Name "range" p) [a] [] pos) (iR fs):=by
 intro kt s σ H R I ⟨Z,O,E,h⟩
 have h1:=fF E h;refine Call_ (fO I hg hm boot_range (QV (bV (ha pos kt s σ H _ I h1) λus s1 ⟨vs,H1,I1,r1,ts,rs,s',E',q1⟩=>?_) hs rfl))
 split at q1
 ·obtain⟨v,rfl,r⟩:=rs.one
  split at q1
  ·rename_i j hj
   obtain⟨b1,b2⟩:=ki hj;cases Rep.AC.mp r
   cases r1 with
   |cons r rr=>
    cases rr;obtain⟨t,rfl⟩:=r;exact call_range_1 (lL I1 (by omega) (by omega) b1 b2 (q1 H1 (Same.refl H1) _ (oB 0 j)))
  ·exact q1.elim
 ·obtain⟨v,ws,rfl,p1,q⟩:=Reps.me.mp rs
  obtain⟨v2,rfl,r⟩:=q.one
  split at q1
  ·rename_i i j hj
   rw[PC]at hj;obtain⟨b1,b2⟩:=ki hj.1;obtain⟨b3,b4⟩:=ki hj.2;cases Rep.AC.mp p1;cases Rep.AC.mp r
   cases r1 with
   |cons r rr=>
    cases rr with
    |cons r' rr=>
     cases rr;obtain⟨t,rfl⟩:=r;obtain⟨t',rfl⟩:=r';exact call_range_2 (lL I1 b1 b2 b3 b4 (q1 H1 (Same.refl H1) _ (oB i j)))
  ·exact q1.elim
 ·exact q1.elim
def AW(hm:X.mg "range" =ZB)(ha:qz X [a,b] fs)(hg:autoParam (Gl X "range") u_)(hs:autoParam (PR [a,b] X.env=[(ZD,eval a X.env),(ZD,eval b X.env)]) u_)(hs2:autoParam (PR [b] X.env=[(ZD,eval b X.env)]) u_):
  BH X tg (.Call (.Name "range" p) [a,b] [] pos) (iR fs):=by
 intro kt s σ H R I ⟨Z,O,E,h⟩
 have h1:=fF E h;refine Call_ (fO I hg hm boot_range (QV (bV (ha pos kt s σ H _ I h1) λus s1 ⟨vs,H1,I1,r1,ts,rs,s',E',q1⟩=>?_) (by rw[hs,hs2]) (by rw[hs2];rfl)))
 split at q1
 ·obtain⟨v,rfl,r⟩:=rs.one
  split at q1
  ·rename_i j hj
   obtain⟨b1,b2⟩:=ki hj;cases Rep.AC.mp r
   cases r1 with
   |cons r rr=>
    cases rr;obtain⟨t,rfl⟩:=r;exact call_range_1 (lL I1 (by omega) (by omega) b1 b2 (q1 H1 (Same.refl H1) _ (oB 0 j)))
  ·exact q1.elim
 ·obtain⟨v,ws,rfl,p1,q⟩:=Reps.me.mp rs
  obtain⟨v2,rfl,r⟩:=q.one
  split at q1
  ·rename_i i j hj
   rw[PC]at hj;obtain⟨b1,b2⟩:=ki hj.1;obtain⟨b3,b4⟩:=ki hj.2;cases Rep.AC.mp p1;cases Rep.AC.mp r
   cases r1 with
   |cons r rr=>
    cases rr with
    |cons r' rr=>
     cases rr;obtain⟨t,rfl⟩:=r;obtain⟨t',rfl⟩:=r';exact call_range_2 (lL I1 b1 b2 b3 b4 (q1 H1 (Same.refl H1) _ (oB i j)))
  ·exact q1.elim
 ·exact q1.elim
end
variable{B:Ow}{D:oa}{N':List Str}{Q:VK}{body:List ZF}{f:Y3}{fe:Y2}{fi:Y0}{ifs:List ZG}{st:ZF}{tgt:T->En->Rs En}
section
variable {a b c:ZG}{fs:Y0}{p2:Pos}
def bN(src:List (Option Nat))(Z:En):En:=src.map λo=>match o with
 |some i=>match Z[i]? with
  |some (.va t)=>.va t
  |_=>.em
 |none=>.em
def dM(tgt:T->En->Rs En)(fc:Y3)(fe:Y2):List T->Y0
 |[],_=>.ok []
 |t::r,Z=>do
  let Z1 <-tgt t Z
  let k <-fc Z1
  if k then do
   let y <-fe Z1
   let ys <-dM tgt fc fe r Z1
   .ok (y::ys)
  else dM tgt fc fe r Z1
def fL(fi:Y0)(src:List (Option Nat))(tgt:T->En->Rs En)(fc:Y3)(fe:Y2)(Z:En):Rs T:=do
 let ts <-fi Z
 if ts.length<=ZI then match dM tgt fc fe ts (bN src Z)with
  |.ok ys=>.ok (.lst ys)
  |_=>.bad
 else .bad
def bT(_:En):Rs Bool:=.ok ZC
def tP0(K:Pv)(f:Y2):TE:=λσ H Q=>∃Z O,EnvO K O H Z σ/\match f Z with
 |.ok t=>∀H',Same H H'->∀v,Rep K O H' t v->Q v H'
 |_=>False
def tPT0(K:Pv)(f:Y3):TT:=λσ H Q=>∃Z O,EnvO K O H Z σ/\match f Z with
 |.ok t=>∀H',Same H H'->Q t H'
 |_=>False
def tP0.up{f:Y2}(h:tP0 X.K f σ H Q):tP X f σ H Q:=by
 obtain⟨Z,O,E,h⟩:=h;refine⟨Z,O,E,?_⟩
 cases q:f Z with
 |ok t=>rw[q]at h;exact h
 |err c=>rw[q]at h;exact h.elim
 |bad=>rw[q]at h;exact h.elim
def tPT0.up{Q:Bool->Hp->Prop}(h:tPT0 X.K f σ H Q):BL X f σ H Q:=by
 obtain⟨Z,O,E,h⟩:=h;refine⟨Z,O,E,?_⟩
 cases q:f Z with
 |ok t=>rw[q]at h;exact h
 |err c=>rw[q]at h;exact h.elim
 |bad=>rw[q]at h;exact h.elim
def Gf:Az X [] (BL X bT):=λkt s σ H Q I ⟨Z,O,E,h⟩=>zw kt s σ H Q I (h H (Same.refl H))
def Ge(h:ve X c f):Az X [c] (BL X f):=GA h
abbrev noM:Mn:=λ_ _=>False
def Bh{src:List (Option Nat)}{o:OT}(e:(bN src Z)[j]?=ZA (.ow o)):False:=by
 unfold bN at e;rw[P9]at e
 cases q:src[j]? with
 |none=>rw[q]at e;cases e
 |some o'=>
  rw[q]at e
  cases o' with
  |none=>cases e
  |some i=>
   have e':(match Z[i]? with|some (Sl.va t)=>Sl.va t|_=>Sl.em)=Sl.ow o:=Qu e
   split at e' <;> cases e'
def wz(E:EnvO K O H Z σ)(src:List (Option Nat)):EnvM K O noM H (bN src Z) (fD src σ) where
 len:=by unfold bN fD;rw[Py,Py]
 val:=λj t e=>by
  unfold bN at e;unfold fD;rw[P9]at e ⊢
  cases q:src[j]? with
  |none=>rw[q]at e;cases e
  |some o=>
   rw[q]at e
   cases o with
   |none=>cases e
   |some i=>
    have e':(match Z[i]? with|some (Sl.va t)=>Sl.va t|_=>Sl.em)=Sl.va t:=Qu e
    cases q2:Z[i]? with
    |none=>rw[q2]at e';cases e'
    |some z=>
     rw[q2]at e'
     cases z with
     |em=>cases e'
     |ow l=>cases e'
     |va t'=>
      cases e';obtain⟨v,e1,e2⟩:=E.val i _ q2;exact⟨v,by simp[e1],e2⟩
 own:=λj o e=>(Bh e).elim
 sub:=λ_ _ z=>z.elim
 dis:=λ_ _ _ z=>z.elim
 trk:=E.mtb
def ORep.no{o:OT}(r:ORep K O kI H o v):False:=by
 cases o with
 |lst l=>obtain⟨a,_,_,e,_⟩:=r;exact(e a).mpr rfl
 |dct ks ts=>obtain⟨a,_,_,e,_⟩:=r;exact(e a).mpr rfl
 |dd ks rows=>obtain⟨a,_,_,_,e,_⟩:=r;exact(e a).mpr (.inl rfl)
 |ob C ns ls=>obtain⟨a,_,_,_,e,_⟩:=r;exact(e a).mpr (.inl rfl)
 |ll ls=>obtain⟨a,_,_,e,_⟩:=r;exact(e a).mpr (.inl rfl)
theorem EnvM.move{P:Ow}(E:EnvM K O noM H Z σ)(hP:∀a,P a->O a\/Nw K H a)(hO:∀a,O' a->O a\/Nw K H a)(h:SameO P H H')(trk:∀a,O' a->Mtb H' a):EnvM K O' noM H' Z σ where
 len:=E.len
 val:=λi t e=>let ⟨v,e1,e2⟩:=E.val i t e;⟨v,e1,e2.move hP hO h⟩
 own:=λi o e=>let ⟨_,_,r⟩:=E.own i o e;r.no.elim
 sub:=λ_ _ z=>z.elim
 dis:=λ_ _ _ z=>z.elim
 trk:=trk
def KL(fi:Y0)(src:List (Option Nat))(tgt:T->En->Rs En)(fc:Y3)(fe:Y2)(Z:En):Rs (List T):=fi Z >>= λts=>if ts.length<=ZI then(match dM tgt fc fe ts (bN src Z)with|.ok ys=>Rs.ok ys|_=>.bad)else .bad
def wy{src:List (Option Nat)}{fc:Y3}:fL fi src tgt fc fe Z=KL fi src tgt fc fe Z >>= λl=>.ok (.lst l):=by
 unfold fL KL
 cases fi Z with
 |bad=>rfl
 |err c=>rfl
 |ok ts=>
  rw[ax,ax]
  by_cases hz:ts.length<=ZI
  ·rw[if_pos hz,if_pos hz]
   cases dM tgt fc fe ts (bN src Z) <;> rfl
  ·rw[if_neg hz,if_neg hz];rfl
def wu{src:List (Option Nat)}{fc:Y3}(E:EnvO X.K O H Z σ)
  (hq1:Post X H (KL fi src tgt fc fe Z) λall H1=>∀D ys H',Nw X.K H1 D->Same H1 H'->H' D=ZA (.lst ys)->Reps X.K (λa=>O a\/a=D) H' all ys->Q (.ref D) H'):Mc X.K (tPI X fi) src (BN X tgt) (tPT0 X.K fc) (tP0 X.K fe) σ H Q:=by
 unfold KL at hq1;refine⟨Z,O,E,Post.mono hq1.bind λts H1 s1 q1 J hJ D hD hK=>?_⟩
 have E1:=E.same s1
 by_cases hz:ts.length<=ZI
 ·rw[if_pos hz]at q1
  cases hall:dM tgt fc fe ts (bN src Z)with
  |bad=>rw[hall]at q1;exact q1.elim
  |err c=>rw[hall]at q1;exact q1.elim
  |ok all=>
   rw[hall]at q1
   have q2:∀D ys H',Nw X.K H1 D->Same H1 H'->H' D=ZA (.lst ys)->Reps X.K (λa=>O a\/a=D) H' all ys->Q (.ref D) H':=q1 H1 (Same.refl H1)
   have nD:Nw X.K H1 D:=⟨hD,hK⟩
   let O':Ow:=λa=>O a\/a=D
   have subO:∀a,O' a->O a\/Nw X.K H1 a:=λa z=>z.elim .inl λw=>.inr (w▸nD)
   refine⟨λi m σ' ys H'=>m=ts.length - i/\i<=ts.length/\ys.length<=i/\H' D=ZA (.lst ys)/\SameO (λa=>a=D) (upd H1 D (.lst [])) H' ∧
    ∃Z' yts zs,EnvM X.K O' noM H' Z' σ'/\Reps X.K O' H' yts ys/\dM tgt fc fe (ts.drop i) Z'=.ok zs/\yts++zs=all,⟨ts.length,?_⟩,?_⟩
   ·have sN:Same H1 (upd H1 D (.lst [])):=aW hD _
    refine⟨by omega,QQ _,PP _,aL,λb o e _=>e,bN src Z,[],all,?_,Reps.GM,by simpa using hall,rfl⟩
    have E2:EnvM X.K O noM H1 (bN src Z) (fD src σ):=wz E1 src
    exact E2.move (P:=λa=>a=D) (λa z=>.inr (z▸nD)) subO (λb o e _=>sN b o e) λa z=>by
     rcases z with z|z
     ·exact(E1.mtb a z).same sN
     ·rw[z];exact .inl ⟨_,aL⟩
   ·rintro i m σ' ys H' ⟨rfl,hi',hyl,hDl,hsm,Z',yts,zs,E',ry,hl,hyz⟩
    refine⟨hDl,?_⟩
    have sm1:SameO (λa=>a=D) H1 H':=λb o e nb=>hsm b o (by rw[aH nb];exact e) nb
    have it:=hJ (λa=>a=D) O' (λa z=>.inr (z▸nD)) subO i H' sm1 (λa z=>(E'.trk a z).some)
    by_cases hlt:i<ts.length
    ·refine .inr ?_
     have hti:ts[i]?=ZA ts[i]:=by simp
     obtain⟨go,yl⟩:=it.2 ts[i] hti;refine⟨go,by omega,λxx Hc y=>?_⟩
     obtain⟨sc,rx⟩:=yl xx Hc y
     have Ec:=E'.same sc;rw[Rh hlt]at hl;unfold dM at hl;refine⟨Z',O',noM,ts[i],Ec,rx,?_⟩
     cases e1:tgt ts[i] Z' with
     |bad=>rw[e1]at hl;cases hl
     |err cc=>rw[e1]at hl;cases hl
     |ok Z1=>
      rw[e1,ax]at hl;intro σ1 Eg;refine⟨Z1,O',⟨noM,Eg⟩,?_⟩
      cases e2:fc Z1 with
      |bad=>rw[e2]at hl;cases hl
      |err cc=>rw[e2]at hl;cases hl
      |ok k=>
       rw[e2,ax]at hl;intro H3 s3
       have E3:=Eg.same s3
       have tot:Same H' H3:=sc.trans s3
       have D3:H3 D=ZA (.lst ys):=tot _ _ hDl
       have sm3:SameO (λa=>a=D) (upd H1 D (.lst [])) H3:=λb o e nb=>tot _ _ (hsm b o e nb)
       cases k with
       |false=>
        refine L2.iteF ?_
        have hl':dM tgt fc fe (ts.drop (i+1)) Z1=.ok zs:=by simpa using hl
        exact⟨ts.length - (i+1),by omega,rfl,hlt,by omega,D3,sm3,Z1,yts,zs,E3,ry.same tot,hl',hyz⟩
       |true=>
        refine L2.iteT ?_
        have hl':(fe Z1 >>= λy=>dM tgt fc fe (ts.drop (i+1)) Z1 >>= λys=>Rs.ok (y::ys))=.ok zs:=by simpa using hl
        refine⟨Z1,O',⟨noM,E3⟩,?_⟩
        cases e3:fe Z1 with
        |bad=>rw[e3]at hl';cases hl'
        |err cc=>rw[e3]at hl';cases hl'
        |ok yt=>
         rw[e3,ax]at hl'
         cases e4:dM tgt fc fe (ts.drop (i+1)) Z1 with
         |bad=>rw[e4]at hl';cases hl'
         |err cc=>rw[e4]at hl';cases hl'
         |ok zs'=>
          rw[e4,ax]at hl'
          have hzs:yt::zs'=zs:=by injection hl'
          intro H4 s4 v rv
          have D4:H4 D=ZA (.lst ys):=s4 _ _ D3
          have E4:=E3.same s4
          have tot4:Same H' H4:=tot.trans s4
          have smD:SameO (λa=>a=D) H4 (upd H4 D (.lst (ys++[v]))):=λb o e nb=>by rw[aH nb];exact e
          have inO:∀a,a=D->O' a\/Nw X.K H4 a:=λa z=>.inl (.inr z)
          refine⟨D4,ts.length - (i+1),by omega,rfl,hlt,?_,aL,λb o e nb=>smD b o (s4 _ _ (sm3 b o e nb)) nb,Z1,yts++[yt],zs',?_,?_,e4,?_⟩
          ·rw[PK,QN];omega
          ·exact E4.move inO (λa z=>.inl z) smD λaa z=>by
            by_cases hz:aa=D
            ·rw[hz];exact .inl ⟨_,aL⟩
            ·unfold Mtb;rw[aH hz];exact E4.trk aa z
          ·have r1:Reps X.K O' H4 (yts++[yt]) (ys++[v]):=(ry.same tot4).append (Reps.Gc rv Reps.GM)
           exact r1.move inO (λa z=>.inl z) smD
          ·rw[Qy,Vo,hzs];exact hyz
    ·refine .inl ⟨it.1 (by omega),?_⟩
     have hi2:i=ts.length:=by omega
     subst hi2;rw[T3]at hl
     have hzs:zs=[]:=by unfold dM at hl;injection hl with hl;exact hl.symm
     subst hzs;rw[Ql]at hyz;subst hyz
     have sF:Same H1 H':=λb o e=>sm1 b o e λz=>by rw[z,hD]at e;cases e
     exact q2 D ys H' nD sF hDl ry
 ·rw[if_neg hz]at q1
  exact q1.elim
def zV{src:List (Option Nat)}{fc:Y3}(h0:tP X (fL fi src tgt fc fe) σ H Q):Mc X.K (tPI X fi) src (BN X tgt) (tPT0 X.K fc) (tP0 X.K fe) σ H Q:=by
 obtain⟨Z,O,E,hq⟩:=h0;refine wu E ?_
 have e:fL fi src tgt fc fe Z=KL fi src tgt fc fe Z >>= λl=>.ok (.lst l):=wy
 rw[e]at hq
 cases q:KL fi src tgt fc fe Z with
 |bad=>rw[q]at hq;exact hq.elim
 |err c=>rw[q]at hq;exact hq
 |ok l=>
  rw[q,ax]at hq;intro H1 s1 D ys H' nD sD eD rD;exact hq H' (s1.trans sD) _ (Rep.Do.mpr ⟨D,ys,rfl,λz=>(E.same s1).fresh nD.1 z,eD,rD.less λa z=>.inl z⟩)
def q_lc{elt:ZG}{src:List (Option Nat)}{fc:Y3}
  (hc:X.calm=ZC) (S:LcScope X scope N' src) (hi:BH X tg iter fi)
  (block:∀cl C s₀ H₀ fp,Fo (bx X scope cl N' C s₀ H₀ fp) tg tgt/\Az (bx X scope cl N' C s₀ H₀ fp) ifs (BL (bx X scope cl N' C s₀ H₀ fp) fc)/\cg (bx X scope cl N' C s₀ H₀ fp) elt fe)
  (hs:autoParam (∀x,Qp iter X.env x=pure x) t_):
  cg X (.ListComp elt [⟨tg,iter,ifs,0⟩] scope pos) (fL fi src tgt fc fe):=by
 have hPG:∀cl C s₀ H₀ fp,PG (bx X scope cl N' C s₀ H₀ fp) tg (BN X tgt):=λcl C s₀ H₀ fp=>(block cl C s₀ H₀ fp).1
 have hPI:∀cl C s₀ H₀ fp,Az (bx X scope cl N' C s₀ H₀ fp) ifs (tPT0 X.K fc):=λcl C s₀ H₀ fp kt s σ H Q I h=>(block cl C s₀ H₀ fp).2.1 kt s σ H Q I (tPT0.up (X:=bx X scope cl N' C s₀ H₀ fp) h)
 have hPE:∀cl C s₀ H₀ fp,PE (bx X scope cl N' C s₀ H₀ fp) elt (tP0 X.K fe):=λcl C s₀ H₀ fp kt s σ H Q I h=>(block cl C s₀ H₀ fp).2.2 kt s σ H Q I (tP0.up (X:=bx X scope cl N' C s₀ H₀ fp) h)
 exact PE.imp (zB (g:=BN X tgt) (tc:=tPT0 X.K fc) (te:=tP0 X.K fe) hc S hi (λcl C s₀ H₀ fp=>⟨hPG cl C s₀ H₀ fp,hPI cl C s₀ H₀ fp,hPE cl C s₀ H₀ fp⟩) hs) λσ H Q h=>zV h
inductive Fl where
 |nx (Z:En)|rt (t:T)|bk (Z:En)|ct (Z:En)
abbrev Y1:=En->Rs Fl
def OO(B:Ow)(M:Mn):Ow:=λa=>B a\/M.u a
structure Ev (K:Pv)(B:Ow)(M:Mn)(H:Hp)(Z:En)(σ:L2.St):Prop where
 env:EnvM K (OO B M) M H Z σ
 mine:∀a,M.u a->¬ B a
theorem Ev.same(h:Same H H')(e:Ev K B M H Z σ):Ev K B M H' Z σ:=⟨e.env.same h,e.mine⟩
def Ev.o(e:Ev K B M H Z σ):EnvO K (OO B M) H Z σ:=⟨M,e.env⟩
def PostF(X:Cx)(B P:Ow)(H:Hp)(r:Rs Fl)(D:oa):Prop:=match r with
 |.ok (.nx Z')=>∀σ' H' M',SameO P H H'->Ev X.K B M' H' Z' σ'->(∀a,M'.u a->P a\/Nw X.K H a)->D.nx σ' H'
 |.ok (.rt t)=>∀v H',SameO P H H'->Rep X.K B H' t v->D.rt v H'
 |.ok (.bk Z')=>∀σ' H' M',SameO P H H'->Ev X.K B M' H' Z' σ'->(∀a,M'.u a->P a\/Nw X.K H a)->D.bk σ' H'
 |.ok (.ct Z')=>∀σ' H' M',SameO P H H'->Ev X.K B M' H' Z' σ'->(∀a,M'.u a->P a\/Nw X.K H a)->D.ct σ' H'
 |.err c=>XA X P H c
 |.bad=>False
def N7(X:Cx)(F:Y1):TS:=λD σ H=>∃Z B M,Ev X.K B M H Z σ/\PostF X B M.u H (F Z) D
abbrev mh(X:Cx)(s:ZF)(F:Y1):Prop:=PS X s (N7 X F)
abbrev mf(X:Cx)(s:List ZF)(F:Y1):Prop:=PSs X s (N7 X F)
theorem PostF.later{P P1:Ow}{H1:Hp}{r:Rs Fl}(h:PostF X B P H r D)(s:SameO P H H1)(sub:∀a,P1 a->P a\/Nw X.K H a):PostF X B P1 H1 r D:=by
 have back:∀a,P1 a\/Nw X.K H1 a->P a\/Nw X.K H a:=λa z=>z.elim (sub a) (fz s)
 cases r with
 |bad=>exact h
 |err c=>exact XA.later h s sub
 |ok f=>
  cases f with
  |nx Z'=>exact λσ' H' M' s' E' o'=>h σ' H' M' (s.trans s' sub) E' λa z=>back a (o' a z)
  |rt t=>exact λv H' s' r=>h v H' (s.trans s' sub) r
  |bk Z'=>exact λσ' H' M' s' E' o'=>h σ' H' M' (s.trans s' sub) E' λa z=>back a (o' a z)
  |ct Z'=>exact λσ' H' M' s' E' o'=>h σ' H' M' (s.trans s' sub) E' λa z=>back a (o' a z)
def PostF.xa{P:Ow}{c:Str}(h:PostF X B P H (.err c) D):XA X kI H c:=XA.later (P:=P) h (λ_ _ e _=>e) λ_ z=>z.elim
def sN(Z:En):Rs Fl:=.ok (.nx Z)
def aF(F G:Y1)(Z:En):Rs Fl:=do
 let f <-F Z
 match f with
 |.nx Z'=>G Z'
 |f=>.ok f
def JA:mf X [] sN:=PSs.imp zr λD σ H ⟨Z,B,M,E,h⟩=>h σ H M (λ_ _ e _=>e) E λa z=>.inl z
def Ga{bM:List ZF}{F G:Y1}(h1:mh X st F)(h2:mf X bM G):mf X (st::bM) (aF F G):=PSs.imp (pk h1 h2) λD σ H hh_=>by
 obtain⟨Z,B,M,E,h⟩:=hh_;refine⟨Z,B,M,E,?_⟩
 unfold aF at h
 cases q:F Z with
 |bad=>rw[q]at h;exact h.elim
 |err c=>rw[q]at h;exact h
 |ok f=>
  rw[q,ax]at h
  cases f with
  |nx Z'=>exact λσ' H' M' s' E' o'=>⟨Z',B,M',E',h.later s' o'⟩
  |rt t=>exact h
  |bk Z'=>exact h
  |ct Z'=>exact h
def Jz{F:Y1}(h:mh X st F):mf X [st] F:=oo h
def aM(f:Y2)(Z:En):Rs Fl:=do
 let t <-f Z
 .ok (.rt t)
def Jx(ha:cg X a fa):mh X (.Return (ZA a) pos) (aM fa):=PS.imp (xZ ha) λD σ H hh_=>by
 obtain⟨Z,B,M,E,h⟩:=hh_;refine⟨Z,OO B M,E.o,?_⟩
 unfold aM at h
 cases q:fa Z with
 |bad=>rw[q]at h;exact h.elim
 |err c=>rw[q]at h;exact PostF.xa h
 |ok t=>
  rw[q,ax]at h;exact λH' s v r=>h v H' (SameO.of s) (r.less λ_ z=>.inl z)
def gC(f:Y3)(F G:Y1)(Z:En):Rs Fl:=do
 let k <-f Z
 if k then F Z else G Z
def MC{A B:List ZF}{F G:Y1}(hc:ve X c f)(ha:mf X A F)(hb:mf X B G):mh X (.If c A B pos) (gC f F G):=PS.imp (CD hc ha hb) λD σ H hh_=>by
 obtain⟨Z,B,M,E,h⟩:=hh_;refine⟨Z,OO B M,E.o,?_⟩
 unfold gC at h
 cases q:f Z with
 |bad=>rw[q]at h;exact h.elim
 |err c=>rw[q]at h;exact PostF.xa h
 |ok k=>
  rw[q,ax]at h;intro H' s
  have E':Ev X.K B M H' Z σ:=E.same s
  cases k with
  |true=>refine L2.iteT ?_;exact⟨Z,B,M,E',PostF.later (by simpa using h) (SameO.of s) λa z=>.inl z⟩
  |false=>refine L2.iteF ?_;exact⟨Z,B,M,E',PostF.later (by simpa using h) (SameO.of s) λa z=>.inl z⟩
def dq(f:Y2)(g:T->En->Rs En)(Z:En):Rs Fl:=do
 let t <-f Z
 match g t Z with
 |.ok Z'=>.ok (.nx Z')
 |_=>.bad
variable{f:Y2}
def Co(E:Ev X.K B M H Z σ)(h:PostF X B M.u H (dq f g Z) D):FP (tP X f) (BN X g) D σ H:=by
 refine⟨Z,OO B M,E.o,?_⟩
 unfold dq at h
 cases q:f Z with
 |bad=>rw[q]at h;exact h.elim
 |err c=>rw[q]at h;exact PostF.xa h
 |ok t=>
  rw[q,ax]at h;intro H' s v r;refine⟨Z,OO B M,M,t,E.env.same s,r,?_⟩
  cases q2:g t Z with
  |bad=>rw[q2]at h;exact h.elim
  |err c=>rw[q2]at h;exact h.elim
  |ok Z'=>
   rw[q2]at h;exact λσ' E'=>h σ' H' M (SameO.of s) ⟨E',E.mine⟩ λa z=>.inl z
def zg{Q':VK}(h:tP X f σ H Q)(w:∀v H',Q v H'->Q' v H'):tP X f σ H Q':=by
 obtain⟨Z,O,E,q⟩:=h;exact⟨Z,O,E,Post.mono q λt H' _ z v r=>w v H' (z v r)⟩
def MB{elt:ZG}{spos py:Pos}{src:List (Option Nat)}{fc:Y3}(i:Nat){y:Str}
  (hc:X.calm=ZC) (S:LcScope X scope N' src) (hi:BH X tg iter fi)
  (block:∀cl C s₀ H₀ fp,Fo (bx X scope cl N' C s₀ H₀ fp) tg tgt/\Az (bx X scope cl N' C s₀ H₀ fp) ifs (BL (bx X scope cl N' C s₀ H₀ fp) fc)/\cg (bx X scope cl N' C s₀ H₀ fp) elt fe)
  (hN:X.N.Nodup) (hiy:autoParam (X.N[i]?=ZA y) u_) (hy:autoParam (Loc X.env.scope y) y_) (hsw:autoParam (Qt (.ListComp elt [⟨tg,iter,ifs,0⟩] scope pos) (ZA (.Name y py)) spos.line X.env=pure ZC) u_)
  (hf:autoParam (X.fn y=ZC\/X.env.scope.names.lookup y=ZA .local) r_) (hs:autoParam (∀x,Qp iter X.env x=pure x) t_):
  mh X (.Assign [.Name y py] (.ListComp elt [⟨tg,iter,ifs,0⟩] scope pos) spos) (dq (fL fi src tgt fc fe) (gN i)):=by
 have hPG:∀cl C s₀ H₀ fp,PG (bx X scope cl N' C s₀ H₀ fp) tg (BN X tgt):=λcl C s₀ H₀ fp=>(block cl C s₀ H₀ fp).1
 have hPI:∀cl C s₀ H₀ fp,Az (bx X scope cl N' C s₀ H₀ fp) ifs (tPT0 X.K fc):=λcl C s₀ H₀ fp kt s σ H Q I h=>(block cl C s₀ H₀ fp).2.1 kt s σ H Q I (tPT0.up (X:=bx X scope cl N' C s₀ H₀ fp) h)
 have hPE:∀cl C s₀ H₀ fp,PE (bx X scope cl N' C s₀ H₀ fp) elt (tP0 X.K fe):=λcl C s₀ H₀ fp kt s σ H Q I h=>(block cl C s₀ H₀ fp).2.2 kt s σ H Q I (tP0.up (X:=bx X scope cl N' C s₀ H₀ fp) h)
 refine PS.imp (Ie (g:=BN X tgt) (tc:=tPT0 X.K fc) (te:=tP0 X.K fe) (i:=i) hc S hi (λcl C s₀ H₀ fp=>⟨hPG cl C s₀ H₀ fp,hPI cl C s₀ H₀ fp,hPE cl C s₀ H₀ fp⟩) hN hiy hy hsw hf hs) λD σ H ⟨Z,B,M,E,h⟩=>zV (zg (Co E h) λv H' z=>?_)
 obtain⟨Z',O,M',t,E',r,q⟩:=z;unfold gN at q
 split at q
 ·rename_i Z2 e
  split at e
  ·rename_i hl
   cases e;exact q _ (E'.set hl r)
  ·cases e
 ·exact q.elim
def JH(ha:cg X a fa)(hg:Fo X tg g)(hs:autoParam (Wn [tg] a pos.line X.env=pure ZD) u_)(hw:autoParam (Wo [tg] a X.env=pure ZB) u_)
  (h1:autoParam ((RA [tg] X.env).map (·.2)=[assign tg X.env]) u_):mh X (.Assign [tg] a pos) (dq fa g):=PS.imp (JX ha hg hs hw h1) λD σ H ⟨Z,B,M,E,h⟩=>Co E h
def ng(f:Y2)(Z:En):Rs Fl:=do
 let _ <-f Z
 .ok (.nx Z)
def F9(ha:cg X a fa)(hs:autoParam (Qt a ZB pos.line X.env=pure ZD) u_):mh X (.Expr a pos) (ng fa):=PS.imp (iH ha hs) λD σ H hh_=>by
 obtain⟨Z,B,M,E,h⟩:=hh_;refine⟨Z,OO B M,E.o,?_⟩
 unfold ng at h
 cases q:fa Z with
 |bad=>rw[q]at h;exact h.elim
 |err c=>rw[q]at h;exact PostF.xa h
 |ok t=>
  rw[q,ax]at h;exact λH' s v r=>h σ H' M (SameO.of s) (E.same s) λa z=>.inl z
def bq(g:T->En->Rs En)(F:Y1):List T->Y1
 |[],Z=>.ok (.nx Z)
 |t::r,Z=>do
  let Z1 <-g t Z
  let f <-F Z1
  match f with
  |.nx Z2=>bq g F r Z2
  |.ct Z2=>bq g F r Z2
  |.bk Z2=>.ok (.nx Z2)
  |.rt t=>.ok (.rt t)
def gP(fi:Y0)(g:T->En->Rs En)(F:Y1)(Z:En):Rs Fl:=do
 let ts <-fi Z
 match bq g F ts Z with
 |.ok f=>.ok f
 |_=>.bad
def mG{t:Sem α}{Q:α->Pz->Prop}(h:ZJ (ZK P w) A t Q (λ_ _=>False) s):ZJ (ZK P w) A t Q E s:=Rm h (λ_ _ q=>q) λ_ _ z=>z.elim
def zu{wi:TI}{g:TG}{tb:TS}(hc:X.calm=ZC)(hi:PI X tg iter wi)(hg:PG X.nox tg g)(hb:PSs X.nox body tb)
  (hs:autoParam (∀x,Qp iter X.env x=pure x) t_):PS X (.For tg iter body [] pos) (tFor wi g tb):=by
 intro kt s σ H D I h;refine wpAny_For (bV (hi kt s σ H _ I h) λv s1 h1=>bV h1 λitv s2 h2=>?_) hs
 obtain⟨it,fp,tn,J,H2,e,I2,T,st2,f2,W,⟨m0,w0⟩,turn⟩:=h2;subst e
 have stat:∀{H':Hp},(∀b∈fp,H' b=ZB)->∀b∈fp,qA X kt H' b:=λhn b hb=>⟨hn b hb,(f2 b hb).2⟩
 refine codeAny_forLoop_any (λn s'=>∃i σ' H',Inv X kt σ' H' s'/\tn i s'.heap/\(∀b∈fp,H' b=ZB)/\W i n σ' H') ?_ m0 ⟨0,σ,H2,I2,st2,λb hb=>(f2 b hb).1,w0⟩
 rintro n s3 ⟨i,σ3,H3,I3,st3,fr3,w3⟩
 rcases turn i n σ3 H3 w3 with⟨stop,qn⟩|⟨go,N,hN,step⟩
 ·refine mG (bV (T.done X.nox rfl rfl rfl hc i kt s3 σ3 H3 _ (I3.FB _) (stat fr3) st3 stop) λr s4 ⟨hr,I4⟩=>?_)
  subst hr;exact To ⟨σ3,H3,I4.FB _,qn⟩
 ·refine mG (bV (T.item X.nox rfl rfl rfl hc i kt s3 σ3 H3 _ (I3.FB _) (stat fr3) st3 go) λr s4 ⟨u,hr,h4⟩=>?_)
  subst hr;refine mG (bV h4 λ_ s5 hh_=>?_)
  obtain⟨x,H5,I5,r5,y5,st5,fr5⟩:=hh_
  have I5':=Inv.pinned (X:=X.nox) I5 (stat fr5) (T.obj _ _ st5);refine mG (bV (hg _ s5 σ3 H5 x u _ I5' r5 (step x H5 y5)) λ_ s6 hh_=>?_)
  obtain⟨σ6,H6,I6,q6⟩:=hh_;refine mG (bV (hb _ s6 σ6 H6 _ I6 q6) λf s7 q7=>?_)
  have again:∀{σ7:L2.St}{H7:Hp},Inv X.nox (kt++pv fp s5.heap) σ7 H7 s7->N σ7 H7->∃m,m<n/\∃i σ' H',Inv X kt σ' H' s7/\tn i s7.heap/\(∀b∈fp,H' b=ZB)/\W i m σ' H':=λ{σ7 H7} I7 n7=>by
   obtain⟨m',hm,w7⟩:=hN σ7 H7 n7;refine⟨m',hm,i+1,σ7,H7,(Inv.Ot (X:=X.nox) I7).FB _,T.keep _ _ _ st5 λb hb o e=>(I7.pin (b,o) (Qd _ (Qd _ (iK hb e)))).1,λb hb=>?_,w7⟩
   obtain⟨o,e,d⟩:=T.obj _ _ st5 b hb;exact(I7.pin (b,o) (Qd _ (Qd _ (iK hb e)))).2.1
  cases f with
  |next=>obtain⟨σ7,H7,I7,n7⟩:=q7;exact again I7 n7
  |cont=>obtain⟨σ7,H7,I7,n7⟩:=q7;exact again I7 n7
  |brk=>obtain⟨σ7,H7,I7,q7⟩:=q7;exact⟨σ7,H7,(Inv.Ot (X:=X.nox) I7).FB _,q7⟩
  |ret v=>obtain⟨x7,σ7,H7,I7,r7,q7⟩:=q7;exact⟨x7,σ7,H7,(Inv.Ot (X:=X.nox) I7).FB _,r7,q7⟩
def JC{F:Y1}(hc:X.calm=ZC)(hi:BH X tg iter fi)(hg:Fo X.nox tg g)(hb:mf X.nox body F)
  (hs:autoParam (∀x,Qp iter X.env x=pure x) t_):mh X (.For tg iter body [] pos) (gP fi g F):=PS.imp (zu hc hi hg hb hs) λD σ H hh_=>by
 obtain⟨Z,B,M,E,h⟩:=hh_;refine⟨Z,OO B M,E.o,?_⟩
 unfold gP at h
 cases q:fi Z with
 |bad=>rw[q]at h;exact h.elim
 |err c=>rw[q]at h;exact PostF.xa h
 |ok ts=>
  rw[q,ax]at h
  cases qq:bq g F ts Z with
  |bad=>rw[qq]at h;exact h.elim
  |err c=>rw[qq]at h;exact h.elim
  |ok fin=>
  rw[qq]at h;intro H1 s1 J hJ
  have E1:Ev X.K B M H1 Z σ:=E.same s1
  have h1:PostF X B M.u H1 (.ok fin) D:=PostF.later h (SameO.of s1) λa z=>.inl z
  refine⟨λi m σ' H'=>m=ts.length - i/\i<=ts.length/\SameO M.u H1 H'/\∃Z' M',Ev X.K B M' H' Z' σ'/\(∀a,M'.u a->M.u a\/Nw X.K H1 a)/\bq g F (ts.drop i) Z'=.ok fin,
   ⟨ts.length,by omega,QQ _,λ_ _ e _=>e,Z,M,E1,λa z=>.inl z,by simpa using qq⟩,?_⟩
  rintro i m σ' H' ⟨rfl,hi',sm,Z',M',E',ow,hl⟩
  have it:=hJ M.u (OO B M') (λa z=>.inl (.inr z)) (λa z=>z.elim (λw=>.inl (.inl w)) λw=>(ow a w).elim (λy=>.inl (.inr y)) .inr) i H' sm (λa z=>(E'.env.trk a z).some)
  by_cases hlt:i<ts.length
  ·have hti:ts[i]?=ZA ts[i]:=by simp
   obtain⟨go,yl⟩:=it.2 ts[i] hti;rw[Rh hlt]at hl;unfold bq at hl;refine .inr ⟨go,λσ2 H2=>∃m',m'<ts.length - i/\(m'=ts.length - (i+1)/\i+1<=ts.length/\SameO M.u H1 H2/\∃Z2 M2,Ev X.K B M2 H2 Z2 σ2/\(∀a,M2.u a->M.u a\/Nw X.K H1 a)/\bq g F (ts.drop (i+1)) Z2=.ok fin),λσ2 H2 z=>z,λx Hc y=>?_⟩
   obtain⟨sc,rx⟩:=yl x Hc y;refine⟨Z',OO B M',M',ts[i],E'.env.same sc,rx,?_⟩
   cases e1:g ts[i] Z' with
   |bad=>rw[e1]at hl;cases hl
   |err cc=>rw[e1]at hl;cases hl
   |ok Z1=>
    rw[e1,ax]at hl;intro σ1 Eg
    have E2:Ev X.K B M' Hc Z1 σ1:=⟨Eg,E'.mine⟩;refine⟨Z1,B,M',E2,?_⟩
    have smc:SameO M.u H1 Hc:=λb o e n=>sc _ _ (sm b o e n)
    have onward:∀{σ3:L2.St}{H3:Hp}{Z3:En}{M3:Mn},SameO M'.u Hc H3->Ev X.K B M3 H3 Z3 σ3->(∀a,M3.u a->M'.u a\/Nw X.K Hc a)->bq g F (ts.drop (i+1)) Z3=.ok fin →
      ∃m',m'<ts.length - i/\(m'=ts.length - (i+1)/\i+1<=ts.length/\SameO M.u H1 H3/\∃Z2 M2,Ev X.K B M2 H3 Z2 σ3/\(∀a,M2.u a->M.u a\/Nw X.K H1 a)/\bq g F (ts.drop (i+1)) Z2=.ok fin):=
     λ{σ3 H3 Z3 M3} s3 E3 o3 p3=>⟨_,by omega,rfl,hlt,smc.trans s3 ow,Z3,M3,E3,λa z=>(o3 a z).elim (ow a) (fz smc),p3⟩
    cases e2:F Z1 with
    |bad=>rw[e2]at hl;cases hl
    |err cc=>rw[e2]at hl;cases hl
    |ok f=>
     rw[e2,ax]at hl
     cases f with
     |nx Z2=>exact λσ3 H3 M3 s3 E3 o3=>onward s3 E3 o3 hl
     |ct Z2=>exact λσ3 H3 M3 s3 E3 o3=>onward s3 E3 o3 hl
     |bk Z2=>
      cases hl
      exact λσ3 H3 M3 s3 E3 o3=>h1 σ3 H3 M3 (smc.trans s3 ow) E3 λa z=>(o3 a z).elim (ow a) (fz smc)
     |rt t=>
      cases hl;exact λv H3 s3 r=>h1 v H3 (smc.trans s3 ow) r
  ·refine .inl ⟨it.1 (by omega),?_⟩
   have hi2:i=ts.length:=by omega
   subst hi2;rw[T3]at hl;cases hl;exact h1 σ' H' M' sm E' ow
def bL(c:Y3)(F:Y1):Nat->Y1
 |0,_=>.bad
 |n+1,Z=>match c Z with
  |.ok ZD=>.ok (.nx Z)
  |.ok ZC=>match F Z with
   |.ok (.nx Z')=>bL c F n Z'
   |.ok (.ct Z')=>bL c F n Z'
   |.ok (.bk Z')=>.ok (.nx Z')
   |.ok (.rt t)=>.ok (.rt t)
   |_=>.bad
  |_=>.bad
def Cq{fc:Y3}{F:Y1}(n:Nat)(hc:ve X.nox c fc)(hb:mf X.nox body F):mh X (.While c body [] pos) (bL fc F n):=by
 have base:PS X.nox (.While c body [] pos) (xM (BL X.nox fc) (N7 X.nox F)):=CC PassesOwn.never hc hb;intro kt s σ H D I ⟨Z,B,M,E,h⟩
 cases qq:bL fc F n Z with
 |bad=>rw[qq]at h;exact h.elim
 |err c=>
  exfalso
  have:∀n Z,bL fc F n Z≠ .err c:=by
   intro n
   induction n with
   |zero=>intro Z z;cases z
   |succ n ih=>
    intro Z z;unfold bL at z
    split at z
    ·cases z
    ·split at z <;> first|exact ih _ z|cases z
    ·cases z
  exact this n Z qq
 |ok fin=>
  rw[qq]at h
  have goal:xM (BL X.nox fc) (N7 X.nox F) D σ H:=by
   refine⟨λm σ' H'=>SameO M.u H H'/\∃Z' M',Ev X.K B M' H' Z' σ'/\(∀a,M'.u a->M.u a\/Nw X.K H a)/\bL fc F m Z'=.ok fin,⟨n,λ_ _ e _=>e,Z,M,E,λa z=>.inl z,qq⟩,?_⟩
   rintro m σ' H' ⟨sm,Z',M',E',ow,hl⟩
   cases m with
   |zero=>cases hl
   |succ m=>
    refine⟨Z',OO B M',E'.o,?_⟩
    unfold bL at hl
    cases e1:fc Z' with
    |bad=>rw[e1]at hl;cases hl
    |err cc=>rw[e1]at hl;cases hl
    |ok k=>
     rw[e1]at hl;intro H2 s2
     have E2:Ev X.K B M' H2 Z' σ':=E'.same s2
     have sm2:SameO M.u H H2:=λb o e n=>s2 _ _ (sm b o e n)
     cases k with
     |false=>
      cases hl;refine L2.iteF ?_
      exact h σ' H2 M' sm2 E2 ow
     |true=>
      refine L2.iteT ?_
      refine⟨λσ3 H3=>SameO M.u H H3/\∃Z3 M3,Ev X.K B M3 H3 Z3 σ3/\(∀a,M3.u a->M.u a\/Nw X.K H a)/\bL fc F m Z3=.ok fin,λσ3 H3 z=>⟨m,Va m,z⟩,Z',B,M',E2,?_⟩
      have hl':(match F Z' with|.ok (.nx Z')=>bL fc F m Z'|.ok (.ct Z')=>bL fc F m Z'|.ok (.bk Z')=>.ok (.nx Z')|.ok (.rt t)=>.ok (.rt t)|_=>.bad)=.ok fin:=hl
      cases e2:F Z' with
      |bad=>rw[e2]at hl';cases hl'
      |err cc=>rw[e2]at hl';cases hl'
      |ok f=>
       rw[e2]at hl'
       cases f with
       |nx Z2=>exact λσ3 H3 M3 s3 E3 o3=>⟨sm2.trans s3 ow,Z2,M3,E3,λa z=>(o3 a z).elim (ow a) (fz sm2),hl'⟩
       |ct Z2=>exact λσ3 H3 M3 s3 E3 o3=>⟨sm2.trans s3 ow,Z2,M3,E3,λa z=>(o3 a z).elim (ow a) (fz sm2),hl'⟩
       |bk Z2=>
        cases hl'
        exact λσ3 H3 M3 s3 E3 o3=>h σ3 H3 M3 (sm2.trans s3 ow) E3 λa z=>(o3 a z).elim (ow a) (fz sm2)
       |rt t=>
        cases hl';exact λv H3 s3 r=>h v H3 (sm2.trans s3 ow) r
  refine mG (bV (base kt s σ H D (I.FB _) goal) λf s' q=>?_)
  cases f with
  |next=>obtain⟨σ7,H7,I7,n7⟩:=q;exact⟨σ7,H7,I7.FB _,n7⟩
  |cont=>obtain⟨σ7,H7,I7,n7⟩:=q;exact⟨σ7,H7,I7.FB _,n7⟩
  |brk=>obtain⟨σ7,H7,I7,n7⟩:=q;exact⟨σ7,H7,I7.FB _,n7⟩
  |ret v=>obtain⟨x7,σ7,H7,I7,r7,q7⟩:=q;exact⟨x7,σ7,H7,I7.FB _,r7,q7⟩
def HY(Z:En):Rs Fl:=.ok (.ct Z)
end
def bK(F:Y1)(Z:En):Rs T:=do
 let f <-F Z
 match f with
 |.nx _=>.ok .non
 |.rt t=>.ok t
 |_=>.bad
def aT(n:Nat)(ts:List T):En:=ts.map Sl.va++Qe (n - ts.length) Sl.em
variable{ts:List T}
def AQ{o:OT}(e:(aT n ts)[i]?=ZA (.ow o)):False:=by
 unfold aT at e
 by_cases hi:i<ts.length
 ·rw[Qo (by simpa using hi),P9,P5 hi]at e
  cases e
 ·rw[Rr (by simpa using hi),QK]at e
  split at e <;> cases e
variable{N:List Str}
def rJ(r:Reps K O H ts vs)(hl:ts.length<=N.length)(trk:∀a,O a->Mtb H a):Ev K O noM H (aT N.length ts) (start N vs):=by
 have hlen:=r.length
 have sub:∀a,OO O noM a->O a:=λa z=>z.elim id λ⟨_,w⟩=>w.elim
 refine⟨⟨by unfold aT L2.start;simp;omega,λi t e=>?_,λi o e=>(AQ e).elim,λ_ _ z=>z.elim,λ_ _ _ z=>z.elim,λa z=>trk a (sub a z)⟩,λa ⟨_,z⟩=>z.elim⟩
 unfold aT at e;unfold L2.start
 by_cases hi:i<ts.length
 ·rw[Qo (by simpa using hi),P9,P5 hi]at e
  have e':ts[i]=t:=by injection e with e;injection e
  obtain⟨v,e1,e2⟩:=r.get (i:=i) (t:=t) (by rw[<-e'];simp)
  refine⟨v,?_,e2.less sub⟩
  rw[Qo (by simp;omega),P9,e1];rfl
 ·rw[Rr (by simpa using hi),QK]at e
  split at e <;> cases e
section
variable {mg:WF}{base:ZH}
def NN{qual:Str}{f:ZE}{g:List T->Rs T}(Fn:L2.Fun K x qual st f fd)(S:bo N ps (ao st))(hn:ps.length=n)
  (hbody:∀(cdv:Px)(A:Qq)(outer:List Env)(s:Pz)(H:Hp)(E:XK),Room k (A.deeper (envOfC qual (ao st) s.heap.objs.size f cdv)) →
   ∃F,mf (gu CX0 P w K mg base N qual (ao st) f cdv A outer s H E).nox (bJ st) F/\∀ts,ts.length=n->∀t,g ts=.ok t->bK F (aT N.length ts)=.ok t):qB P w K mg base CX0 (k+1) f fd ps (spP K n g):=by
 have hpl:ps.length<=N.length:=by have:=congrArg Sa S.pre;rw[Ri]at this;omega
 refine Fn.ok S (λvs H Q E h=>?_) (λcdv A outer s H vs Q E hr h=>?_)
 ·obtain⟨ts,O,r,_,hl,_⟩:=h
  rw[<-r.length,hl,hn]
 ·obtain⟨ts,O,r,trk,hl,h⟩:=h
  obtain⟨F,hF,hv⟩:=hbody cdv A outer s H E hr;refine⟨_,hF,aT N.length ts,O,noM,rJ r (by omega) trk,?_⟩
  have no:∀a,¬noM.u a:=λa ⟨_,z⟩=>z
  cases q:g ts with
  |bad=>rw[q]at h;exact h.elim
  |err c=>rw[q]at h;exact h.elim
  |ok t=>
   rw[q]at h
   have hb:=hv ts hl t q;unfold bK at hb
   cases q2:F (aT N.length ts)with
   |bad=>rw[q2]at hb;cases hb
   |err c=>rw[q2]at hb;cases hb
   |ok fl=>
    rw[q2,ax]at hb
    have sameOf:∀H',SameO noM.u H H'->Same H H':=λH' s b o e=>s b o e (no b)
    cases fl with
    |nx Z'=>cases hb;exact λσ' H' M' s' E' o'=>h .non H' (sameOf H' s') Rep.OU
    |rt t'=>cases hb;exact λv H' s' r'=>h v H' (sameOf H' s') r'
    |bk Z'=>cases hb
    |ct Z'=>cases hb
end
end Tr
namespace Enu
open PySem
open AutoSeq1 (wpAny_loadPart')
variable{its:Array Px}
def FI{it tt:ZE}{x:Px}(hi:s.heap.IsTupleIter it tt k)(ht:s.heap.IsTuple tt its)(hx:its[k]?=ZA x)
  (hQ:∀h',h'.IsTupleIter it tt (k+1)->Ta it s.heap h'->Q x {s with heap:=h'}):ZJ (ZK prog w) A (R9 (.ref it)) Q E s:=by
 obtain⟨ob,g1,g2,g3⟩:=id hi;obtain⟨ot,k1,_,m,k3⟩:=ht;unfold R9;refine PD (RL (name:=PV "__next__") hi.typeIs RZ (Sx RZ hi.typeIs Ut ?_ (Uh _)))
 show ZJ (ZK prog w) _ (field (.ref it) 0 >>= _) _ _ s
 refine PD (Sd g1 g3 (x:=.ref tt) rfl ?_)
 show ZJ (ZK prog w) _ (if (P7 tt == Qx)=ZC then _ else _) _ _ s
 rw[if_neg (show ¬((P7 tt == Qx)=ZC)by exact P6)]
 show ZJ (ZK prog w) _ (field (.ref it) 1 >>= _) _ _ s
 refine PD (Sd g1 g3 (x:=.int k 0) rfl ?_)
 show ZJ (ZK prog w) _ (seqItems? (.ref tt) >>= _) _ _ s
 refine PD (VV k1 k3 ?_)
 simp only[hx,Rx];refine PD (VW g1 g3 (by simp) (PX ⟨x,rfl,PX (hQ _ ?_ (VX ..))⟩))
 refine⟨_,TN _ g1 (TQ (R5 g3 _)),(Obj.cls_mapFields ..).trans g2,?_⟩
 rw[R5 g3];simp[rawInt]
def tupStop{it tt:ZE}(hh:A.handled=ZB)(hi:s.heap.IsTupleIter it tt k)(ht:s.heap.IsTuple tt its)(hx:its[k]?=ZB)
  (hE:∀h' e,Heap.ExtBut it s.heap h'->(∃o,h'.get? e=ZA o/\o.cls=.type "StopIteration")->E (.ref e) {s with heap:=h'}):ZJ (ZK prog w) A (R9 (.ref it)) Q E s:=by
 obtain⟨ob,g1,g2,g3⟩:=id hi;obtain⟨ot,k1,_,m,k3⟩:=ht;unfold R9;refine PD (RL (name:=PV "__next__") hi.typeIs RZ (Sx RZ hi.typeIs Ut ?_ (Uh _)))
 show ZJ (ZK prog w) _ (field (.ref it) 0 >>= _) _ _ s
 refine PD (Sd g1 g3 (x:=.ref tt) rfl ?_)
 show ZJ (ZK prog w) _ (if (P7 tt == Qx)=ZC then _ else _) _ _ s
 rw[if_neg (show ¬((P7 tt == Qx)=ZC)by exact P6)]
 show ZJ (ZK prog w) _ (field (.ref it) 1 >>= _) _ _ s
 refine PD (Sd g1 g3 (x:=.int k 0) rfl ?_)
 show ZJ (ZK prog w) _ (seqItems? (.ref tt) >>= _) _ _ s
 refine PD (VV k1 k3 ?_)
 simp only[hx,Rx];refine PD (Ul (PD (VW g1 g3 (by simp) ?_)))
 show ZJ (ZK prog w) _ (newExc (.type "StopIteration") [] >>= _) _ _ _
 refine PD ?_
 simp only[newTuple,newExc];refine PD (RC ?_ (by size_fits))
 refine PD (m:=firstArgMember _ _) (wpAny_of_eq (a:=Qx) (by first| (simp only[firstArgMember];rfl)|rfl) ?_)
 refine RC ?_ (by size_fits)
 simp only[raiseNew];refine PD (wpAny_handled ?_)
 first|rw[hh]|rw[show A.in1.handled=ZB from hh]
 refine PD (PX (wpAny_throw ?_))
 refine hE _ _ (((VX ..).extBut.push _).push _) ⟨_,Qc _ rfl,rfl⟩
def tupDraws(hh:A.handled=ZB)(it tt:ZE)(hne:tt≠it)(its:Array Px):
  Draws prog w A it [it,tt] its.size (λi v=>its[i]?=ZA v) (λi h=>h.IsTupleIter it tt i/\h.IsTuple tt its) where
 live:=λ_ _ st=>by obtain⟨o,ho,_⟩:=st.1;exact⟨o,ho⟩
 frame:=λ_ _ _ st hk=>by
  obtain⟨⟨o,e,r⟩,⟨o',e',r'⟩⟩:=st;exact⟨⟨o,hk it (by simp) o e,r⟩,⟨o',hk tt (by simp) o' e',r'⟩⟩
 item:=λi s Q E hi st hQ=>by
  refine FI st.1 st.2 (x:=its[i]) (by simp[hi]) λh' hit' hs'=>?_
  obtain⟨o',e',r'⟩:=st.2;exact hQ _ h' s.toks (by simp[hi]) ⟨hit',⟨o',(hs'.2 tt hne).trans e',r'⟩⟩ hs'
 done:=λs Q E st hE=>tupStop hh st.1 st.2 (by simp) hE
def newT(l:ZE)(items:Array Px)(n:Nat)(dct:Option ZE)(sl:Array (Option Px)):
  Meets (Builtin.«enumerate.__new__» ⟨[.type "enumerate",.ref l],[]⟩) (λ_ R s=>s.heap.get? l=ZA {cls:=.type "tuple",dict:=dct,data:=.seq items n,slots:=sl} ∧
   R (.ok (.ret (.ref (s.heap.push {cls:=.type "tuple_iterator",data:=.fields #[.ref l,.int 0 0]}).objs.size)))
    {s with heap:=(s.heap.push {cls:=.type "tuple_iterator",data:=.fields #[.ref l,.int 0 0]}).push {cls:=.type "enumerate",data:=.fields #[.none,.bool ZD,.ref s.heap.objs.size,rawInt 0,.none,.none]}}):=
 .of_wp λprog w A R s h=>by
  obtain⟨hp,g,d,tk,os⟩:=s;obtain⟨hl,h⟩:=h
  have hsub:=sub_enumerate
  have hT:Heap.IsTuple (Shared.heap ⟨hp,g,d,tk,os⟩) l items:=⟨_,hl,rfl,n,rfl⟩
  wp_walk using Rq hl
  refine wpAny_stack_any λst=>PX ?_
  split
  ·rename_i c _ _ _ _ _
   cases (c == Si "enumerate")
   ·wp_walk using Rq hl,Ts hT
    exact⟨_,rfl,h⟩
   ·wp_walk using Rq hl,Ts hT
    exact⟨_,rfl,h⟩
  ·wp_walk using Rq hl,Ts hT
   exact⟨_,rfl,h⟩
def callT{l:ZE}{items:Array Px}(hL:s.heap.IsTuple l items)
  (h:∀h',IsEnum h' (s.heap.objs.size+1) s.heap.objs.size 0 .none->h'.IsTupleIter s.heap.objs.size l 0->h'.objs.size=s.heap.objs.size+2 →
   (∀b o,s.heap.get? b=ZA o->h'.get? b=ZA o)->Q (.ref (s.heap.objs.size+1)) {s with heap:=h'}):ZJ (ZK prog w) A (call (.type "enumerate") [.ref l]) Q E s:=by
 obtain⟨⟨cc,dc,dd,ss⟩,hl,hc,n,hd⟩:=hL
 replace hc:cc=.type "tuple":=hc
 replace hd:dd=.seq items n:=hd
 subst hc hd;refine callType_new F.called_enumerate (by decide) (F.typeCall_enumerate_1 _) (F.newCall_enumerate_1 _) (λobj=>F.args_object_init_2 obj _) F.entry_enumerate_new (newT l items n dc ss) ⟨hl,?_⟩
 have hz:(s.heap.push {cls:=.type "tuple_iterator",data:=.fields #[.ref l,.int 0 0]}).objs.size=s.heap.objs.size+1:=RM ..
 show _/\_
 rw[hz]
 have he:IsEnum ((s.heap.push {cls:=.type "tuple_iterator",data:=.fields #[.ref l,.int 0 0]}).push
   {cls:=.type "enumerate",data:=.fields #[.none,.bool ZD,.ref s.heap.objs.size,rawInt 0,.none,.none]}) (s.heap.objs.size+1) s.heap.objs.size 0 .none:=by
  have q:=Qc (s.heap.push {cls:=.type "tuple_iterator",data:=.fields #[.ref l,.int 0 0]})
   (o:={cls:=.type "enumerate",data:=.fields #[.none,.bool ZD,.ref s.heap.objs.size,rawInt 0,.none,.none]}) rfl
  rw[hz]at q;exact q
 refine⟨⟨_,he,rfl⟩,h _ he ⟨_,PN _ (Qc _ rfl),rfl,rfl⟩ (by rw[RM,hz]) λb o x=>PN _ (PN _ x)⟩
end Enu
namespace L2
open PySem PySem.Spec PyProof.Rows
variable{X:Cx}{fp:List ZE}{h':ZH}
section
variable {kt:Uf}{σ:L2.St}{H:Hp}
def Inv.OW{Tp:ZE}{xs:List V}(I:Inv X kt σ H s)(hf:∀b∈fp,qA X kt H b)(k:∀b o,b∉fp->s.heap.get? b=ZA o->h'.get? b=ZA o)
  (ht:∀b∈fp,∃o,h'.get? b=ZA o) (hT:s.heap.objs.size<=Tp) (new:ObjOk X.prog X.w (upd H Tp (.tup xs)) h' Tp (.tup xs)):Inv X kt σ (upd H Tp (.tup xs)) {s with heap:=h',toks:=t'}:=by
 have hn:H Tp=ZB:=I.hok.fresh hT
 have v8:∀b o,s.heap.get? b=ZA o->b≠Tp:=λb o e=>QJ (PQ (PU e) hT)
 have nf:∀b u,H b=ZA u->b∉fp:=λb u e z=>by rw[(hf b z).1]at e;cases e
 refine I.step (g':=s.gens) (d':=s.drawn) (ch:=fp) (λb hb=>⟨(hf b hb).2.2.2.1,(hf b hb).2.1,(hf b hb).2.2.2.2.1,(hf b hb).2.2.2.2.2⟩) (λb o _ _ hc e _=>k b o hc e) (λb o _ _ hc e _=>⟨o.slots,k b o hc e⟩)
  (λb o _ e n=>by rw[aH (v8 b o e)];exact n) (λb o hc e=>⟨o,k b o hc e⟩) (λb ys e=>by rw[aH (ck e hn)];exact e) (λb o u e=>by rw[aH (ck e hn)];exact e)
  (λb ps e=>⟨#[],by rw[aH (ck e hn),e];simp⟩) (λm hm=>?_) (λb u e=>?_) I.bare
 ·obtain⟨o,es,ep,ho,r⟩:=hm
  exact⟨o,es,ep,k _ o (λz=>(hf _ z).2.1 rfl) ho,r⟩
 ·by_cases hb:b=Tp
  ·subst hb;rw[aL]at e;cases e;exact new
  ·rw[aH hb]at e
   refine(I.hok b u e).OA (λc v hc q=>k c v ?_ q) (λc q=>by rw[aH (ck q hn)];exact q) λc ys q=>by rw[aH (ck q hn)];exact q
   rcases hc with z|z
   ·rw[z];exact nf b u e
   ·exact nf c _ z
def Inv.OI(I:Inv X kt σ H s)(hf:∀b∈fp,qA X kt H b)(k:∀b o,b∉fp->s.heap.get? b=ZA o->h'.get? b=ZA o):Inv X kt σ H {s with heap:=h',toks:=t'}:=by
 have nf:∀b u,H b=ZA u->b∉fp:=λb u e z=>by rw[(hf b z).1]at e;cases e
 refine I.step (g':=s.gens) (d':=s.drawn) (ch:=fp) (λb hb=>⟨(hf b hb).2.2.2.1,(hf b hb).2.1,(hf b hb).2.2.2.2.1,(hf b hb).2.2.2.2.2⟩) (λb o _ _ hc e _=>k b o hc e) (λb o _ _ hc e _=>⟨o.slots,k b o hc e⟩)
  (λb o _ e n=>n) (λb o hc e=>⟨o,k b o hc e⟩) (λb ys e=>e) (λb o u e=>e)
  (λb ps e=>⟨#[],by rw[e];simp⟩) (λm hm=>?_) (λb u e=>?_) I.bare
 ·obtain⟨o,es,ep,ho,r⟩:=hm
  exact⟨o,es,ep,k _ o (λz=>(hf _ z).2.1 rfl) ho,r⟩
 ·refine(I.hok b u e).OA (λc v hc q=>k c v ?_ q) (λc q=>q) λc ys q=>q
  rcases hc with z|z
  ·rw[z];exact nf b u e
  ·exact nf c _ z
end
def Fh(K:Pv)(H:Hp)(a:ZE)(tt:Bool)(xs:List V):Prop:=if tt then SqT K H a xs else SqL K H a xs
def Oo(K:Pv)(a:ZE)(tt:Bool):It:=
 ⟨λi H=>∃xs x,Fh K H a tt xs/\xs[i]?=ZA x,λi H x H'=>∃p v,x=.ref p/\H p=ZB/\H'=upd H p (.tup [.int (i:Nat),v])/\∀xs,Fh K H a tt xs->xs[i]?=ZA v,λi H=>∃xs,Fh K H a tt xs/\xs.length<=i⟩
def itAt(tt:Bool)(h:ZH)(it a:ZE)(i:Nat):Prop:=if tt then h.IsTupleIter it a i else h.IsListIter it a i
variable{h:ZH}
def itAt.obj{it a:ZE}(st:itAt tt h it a i):∃o,h.get? it=ZA o/\∀v,o.data≠ .cell v:=by
 cases tt with
 |true=>obtain⟨o,e,c,d⟩:=(show h.IsTupleIter it a i from st);exact⟨o,e,λv z=>by rw[d]at z;cases z⟩
 |false=>obtain⟨o,e,c,d⟩:=(show h.IsListIter it a i from st);exact⟨o,e,λv z=>by rw[d]at z;cases z⟩
def itAt.keep{it a:ZE}(st:itAt tt h it a i)(k:∀o,h.get? it=ZA o->h'.get? it=ZA o):itAt tt h' it a i:=by
 cases tt with
 |true=>obtain⟨o,e,r⟩:=(show h.IsTupleIter it a i from st);exact(show h'.IsTupleIter it a i from⟨o,k o e,r⟩)
 |false=>obtain⟨o,e,r⟩:=(show h.IsListIter it a i from st);exact(show h'.IsListIter it a i from⟨o,k o e,r⟩)
variable{elts:List ZG}{pos:Pos}
def AJ(tt:Bool)(a e it:ZE)(hei:e≠it):
  BF P w K (.Tuple elts kk pos) (Oo K a tt) [e,it] e (λi h=>(∃old,IsEnum h e it i old)/\itAt tt h it a i) where
 mem:=by simp
 obj:=λi h st b hb=>by
  obtain⟨⟨old,he⟩,hi⟩:=st;rcases PJ.mp hb with rfl|hb
  ·exact⟨_,he,λv z=>by have z':XD _=Data.cell v:=z;cases z'⟩
  ·rw[PL.mp hb];exact hi.obj
 keep:=λi h h' st k=>by
  obtain⟨⟨old,he⟩,hi⟩:=st;exact⟨⟨old,k e (by simp) _ he⟩,hi.keep λo q=>k it (by simp) o q⟩
 item:=by
  intro X hP hw hK hc i kt s σ H E I hf st hg;subst hP hw hK;obtain⟨xs,x,hq,hx⟩:=hg;obtain⟨⟨old,he⟩,hi⟩:=st
  have key:∀(its:List Px),Vals xs its->(∀ys,Fh X.K H a tt ys->ys=xs)->∀(fp0:List ZE)(St:Nat->ZH->Prop),Draws X.prog X.w X.A.in1 it fp0 its.toArray.size (λi v=>its.toArray[i]?=ZA v) St->e∉fp0->it∈fp0->St i s.heap →
    (∀h',St (i+1) h'->itAt tt h' it a (i+1)) →
    ZJ (ZK X.prog X.w) X.A (pyNext (.ref e)) (λr s1=>∃u,r=ZA u/\ZJ (ZK X.prog X.w) X.A (Tq (.Tuple elts kk pos) (.ref e) u) (λ_ s2=>∃x' H',Inv X kt σ H' s2/\RelV x' u/\(Oo X.K a tt).yld i H x' H' ∧
     ((∃old,IsEnum s2.heap e it (i+1:Nat) old)/\itAt tt s2.heap it a (i+1))/\∀b∈ [e,it],H' b=ZB) E s1) E s:=by
   intro its rv uniq fp0 St D hef hif hst hnext;obtain⟨u,hu,ru⟩:=rv.get hx
   have hlt:i<its.toArray.size:=by
    have:=(PM.mp hu).1
    simpa using this
   have W:=WalksT.enumerateD D e hei hef hif;refine W.item i s _ _ hlt ⟨⟨old,he⟩,hst⟩ λTp vals h1 tk hPt hTsz hTup hMid hk=>⟨.ref Tp,rfl,?_⟩
   refine W.go elts kk pos i Tp {s with heap:=h1,toks:=tk} _ _ hMid λh2 hst2 hk2=>?_
   obtain⟨t,x',hPx,hvals⟩:=hPt;subst hvals
   have hxe:x'=u:=by
    have h1':its.toArray[i]?=ZA x':=hPx
    have h2':its.toArray[i]?=ZA u:=by simpa using hu
    rw[h1']at h2';exact Qu h2'
   subst hxe
   have hTw:=W.apart i Tp h1 hMid;obtain⟨oT,eT,rT⟩:=hTup
   have eT2:h2.get? Tp=ZA oT:=hk2 Tp oT hTw eT
   have kAll:∀b o,b∉ [e,it]->s.heap.get? b=ZA o->h2.get? b=ZA o:=λb o hb q=>hk2 b o hb (hk b o hb q)
   obtain⟨⟨old2,he2⟩,hs2⟩:=hst2
   have hit2:=hnext h2 hs2
   have there:∀b∈ [e,it],∃o,h2.get? b=ZA o:=λb hb=>by
    rcases PJ.mp hb with rfl|hb
    ·exact⟨_,he2⟩
    ·rw[PL.mp hb];obtain⟨o,q,_⟩:=hit2.obj;exact⟨o,q⟩
   have hn:H Tp=ZB:=I.hok.fresh hTsz
   have new:ObjOk X.prog X.w (upd H Tp (.tup [.int (i:Nat),x])) h2 Tp (.tup [.int (i:Nat),x]):=
    ⟨by show 2<=ZI;decide,[.int (i:Nat) t,x'],.cons ⟨t,rfl⟩ (.cons ru .nil),⟨oT,eT2,rT⟩⟩
   have I2:=I.OW (t':=tk) hf kAll there hTsz new;refine⟨.ref Tp,_,I2,rfl,⟨Tp,x,rfl,hn,rfl,λys hy=>by rw[uniq ys hy];exact hx⟩,⟨⟨old2,he2⟩,hit2⟩,λb hb=>?_⟩
   have hbT:b≠Tp:=λz=>by
    obtain⟨o,q⟩:∃o,s.heap.get? b=ZA o:=by
     rcases PJ.mp hb with rfl|hb
     ·exact⟨_,he⟩
     ·rw[PL.mp hb];obtain⟨o,q,_⟩:=hi.obj;exact⟨o,q⟩
    exact absurd (PQ (PU q) hTsz) (by rw[z];exact Qm _)
   rw[aH hbT];exact(hf b hb).1
  have hne:∀b∈ [e,it],a≠b:=λb hb z=>by
   have hb':=(hf b hb).1;rw[<-z]at hb'
   have hbs:=hf b hb
   cases tt with
   |true=>
    have hq':SqT X.K H a xs:=hq;rcases hq' with(q|⟨o,q⟩)|⟨o,its,n,q,_⟩
    ·rw[hb']at q;cases q
    ·rw[hb']at q;cases q
    ·rcases hbs.2.2.2.1 with z1|z1
     ·exact I.ok.noex a o (I.ok.mod.kin a o q) (z▸z1)
     ·exact absurd (PQ (PU (I.ok.bs a o (I.ok.mod.kin a o q)).1) (z▸z1)) (Qm _)
   |false=>
    have hq':SqL X.K H a xs:=hq;rcases hq' with(q|⟨o,q⟩)|⟨o,its,n,q,_⟩
    ·rw[hb']at q;cases q
    ·rw[hb']at q;cases q
    ·rcases hbs.2.2.2.1 with z1|z1
     ·exact I.ok.noex a o (I.ok.mod.kin a o q) (z▸z1)
     ·exact absurd (PQ (PU (I.ok.bs a o (I.ok.mod.kin a o q)).1) (z▸z1)) (Qm _)
  have hea:e≠a:=λz=>hne e (by simp) z.symm
  have hia:it≠a:=λz=>hne it (by simp) z.symm
  cases tt with
  |true=>
   have hq':SqT X.K H a xs:=hq;obtain⟨its,rv,p,hz⟩:=I.tuple hq'
   exact key its rv (λys hy=>I.OH hy hq') _ _ (Enu.tupDraws (A:=X.A.in1) (I.ok.hd hc) it a (Sv hia) its.toArray) (by simp[hei,hea]) (by simp) ⟨hi,p⟩ λh' z=>z.1
  |false=>
   have hq':SqL X.K H a xs:=hq;obtain⟨its,rv,p,hz⟩:=I.list hq';exact key its rv (λys hy=>I.OB hy hq') _ _ (Draws.list (A:=X.A.in1) (I.ok.hd hc) it a (Sv hia) its.toArray) (by simp[hei,hea]) (by simp) ⟨hi,p.isList⟩ λh' z=>z.1
 done:=by
  intro X hP hw hK hc i kt s σ H E I hf st hg;subst hP hw hK;obtain⟨xs,hq,hx⟩:=hg;obtain⟨⟨old,he⟩,hi⟩:=st
  have fin:∀h',Heap.ExtBut it s.heap h'->(ZB:Option Px)=ZB/\Inv X kt σ H {s with heap:=h'}:=λh' eb=>⟨rfl,I.OI (t':=s.toks) hf λb o hb q=>eb b o (λz=>hb (by simp[z])) q⟩
  cases tt with
  |true=>
   have hq':SqT X.K H a xs:=hq;obtain⟨its,rv,p,hz⟩:=I.tuple hq'
   have hl:=rv.length
   have hnone:its.toArray[i]?=ZB:=by simp;omega
   have hT:s.TypeIs (.ref e) "enumerate":=⟨_,he,rfl⟩;unfold pyNext;refine PD (wpAny_attempt (RL (name:=PV "__next__") hT Vp (Sx Vp hT F.entry_enumerate_next ?_ (F.args_enumerate_next_1 _))))
   show ZJ (ZK X.prog X.w) _ (field (.ref e) 2 >>= _) _ _ _
   refine PD (Sd he rfl (x:=.ref it) rfl ?_)
   refine PD (Enu.tupStop (I.ok.hd hc) hi p hnone λh' x he' hx'=>?_)
   obtain⟨o,ho,hcl⟩:=hx'
   exact PD (wpAny_isInstance (T:="StopIteration") (b:=ZC) ⟨o,ho,hcl⟩ isSubtype_stop (PX (fin h' he')))
  |false=>
   have hq':SqL X.K H a xs:=hq;obtain⟨its,rv,p,hz⟩:=I.list hq'
   have hl:=rv.length
   have hnone:its.toArray[i]?=ZB:=by simp;omega
   exact wpAny_pyNext_enum_end (I.ok.hd hc) he hi p.isList hnone fin
 self:=λ_ _ _ _ _ st h=>by
  obtain⟨⟨old,he⟩,_⟩:=st;exact WS he h
section
variable {tpos:Pos}
def qr:Qw "enumerate" =ZA (.type "enumerate"):=by decide+kernel
def iEnu(K:Pv)(tl:TA):TI:=λσ H R=>tl σ H λvs H1=>∃a tt,vs=[.ref a]/\(∃xs,Fh K H1 a tt xs)/\R (Oo K a tt) H1
def GB{l:ZG}{tl:TA}{p:Pos}(hg:Gl X "enumerate")(hm:X.mg "enumerate" =ZB)(hl:PA X [l] tl)(hs:autoParam (PR [l] X.env=[(ZD,eval l X.env)]) u_):PI X (.Tuple elts kk tpos) (.Call (.Name "enumerate" p) [l] [] pos) (iEnu X.K tl):=by
 intro kt s σ H R I h;refine Call_ (fO I hg hm qr (QV (bV (hl pos kt s σ H _ I h) λus s1 ⟨vs,H1,I1,r1,q1⟩=>?_) hs rfl))
 obtain⟨a,tt,e,⟨xs,hq⟩,q⟩:=q1;subst e;obtain⟨u,rfl,ru⟩:=jm r1;cases ru
 have fin:∀h',IsEnum h' (s1.heap.objs.size+1) s1.heap.objs.size 0 .none->itAt tt h' s1.heap.objs.size a 0->h'.objs.size=s1.heap.objs.size+2->(∀b o,s1.heap.get? b=ZA o->h'.get? b=ZA o) →
   ZJ (ZK X.prog X.w) X.A (pyIter (.ref (s1.heap.objs.size+1))) (PIE X kt σ (.Tuple elts kk tpos) R) X.xe {s1 with heap:=h'}:=λh' he hi hsz hk=>by
  refine WS he ?_
  have I2:Inv X kt σ H1 {s1 with heap:=h'}:=I1.kept (t':=s1.toks) hk
  refine⟨s1.heap.objs.size+1,[s1.heap.objs.size+1,s1.heap.objs.size],_,_,H1,rfl,I2,AJ tt a (s1.heap.objs.size+1) s1.heap.objs.size (Nat.succ_ne_self _),⟨⟨_,he⟩,hi⟩,λb hb=>?_,q⟩
  rcases PJ.mp hb with rfl|hb
  ·exact I1.OL (by omega) (I1.hok.fresh (by omega))
  ·rw[PL.mp hb];exact I1.OL (PP _) (I1.hok.fresh (PP _))
 cases tt with
 |true=>
  have hq':SqT X.K H1 a xs:=hq;obtain⟨its,rv,pl,hz⟩:=I1.tuple hq'
  exact Enu.callT pl λh' he hi hsz hk=>fin h' he hi hsz hk
 |false=>
  have hq':SqL X.K H1 a xs:=hq;obtain⟨its,rv,pl,hz⟩:=I1.list hq';exact call_enumerate_list pl.isList λh' he hi hsz hk=>fin h' he hi hsz hk
end
end L2
namespace Tr
open PySem PySem.Spec PyProof.Rows L2
section
variable {X:Cx}{a:ZG}{fa:Y2}{fs:Y0}{p pos:Pos}
def iS(f:Y2)(Z:En):Rs (List T):=do
 let x <-f Z
 match x with
 |.lst l=>.ok l
 |.tup l=>.ok l
 |_=>.bad
def JK{tg:ZG}(ha:cg X a fa):BH X tg a (iS fa):=by
 intro kt s σ H R I ⟨Z,O,E,h⟩;unfold iS at h
 cases q:fa Z with
 |bad=>rw[q]at h;exact h.elim
 |err c=>exact zp ha kt s σ H R I ⟨Z,O,E,by unfold iL;rw[q]at h ⊢;exact h⟩
 |ok x=>
  rw[q,ax]at h
  cases x with
  |lst l=>exact zp ha kt s σ H R I ⟨Z,O,E,by unfold iL;rw[q];exact h⟩
  |tup l=>exact JJ ha kt s σ H R I ⟨Z,O,E,by unfold iT;rw[q];exact h⟩
  |_=>exact h.elim
def dg:Nat->List T->List T
 |_,[] =>[]
 |n,t::r=>.tup [.int n,t] ::dg (n+1) r
theorem sy:∀(l:List T)(n i:Nat),(dg n l)[i]?=(l[i]?).map λt=>T.tup [.int ((n+i:Nat):Int),t]
 |[],n,i=>by simp[dg]
 |t::l,n,0=>by simp[dg]
 |t::l,n,i+1=>by
  rw[dg,Rc,sy l (n+1) i,Rc]
  congr 2
  funext t
  congr 4
  omega
theorem sv:∀(l:List T)(n:Nat),(dg n l).length=l.length
 |[],n=>rfl
 |t::l,n=>by rw[dg,PH,PH,sv l]
def iE(f:Y0)(Z:En):Rs (List T):=do
 let xs <-f Z
 match xs with
 |[x] =>match x.items with
  |some l=>.ok (dg 0 l)
  |none=>.bad
 |_=>.bad
def Gg{elts:List ZG}{tpos:Pos}(hm:X.mg "enumerate" =ZB)(ha:qz X [a] fs)(hg:autoParam (Gl X "enumerate") u_)(hs:autoParam (PR [a] X.env=[(ZD,eval a X.env)]) u_):
  BH X (.Tuple elts kk tpos) (.Call (.Name "enumerate" p) [a] [] pos) (iE fs):=PI.imp (GB hg hm ha hs) λσ H R hh_=>by
 obtain⟨Z,O,E,h⟩:=hh_;obtain⟨Z1,O1,E1,h1⟩:=fF E h;refine⟨Z1,O1,E1,Post.mono h1 λts H1 s1 q vs r=>?_⟩
 obtain⟨t',r',s',E',q'⟩:=q vs r
 split at q'
 ·rename_i x0
  obtain⟨v,rfl,rv⟩:=r'.one
  split at q'
  ·rename_i l hl
   have main:∀(aa:ZE)(tt:Bool)(ws:List V),v=.ref aa->¬ O aa->Reps X.K O H1 l ws->Fh X.K H1 aa tt ws->(∀P Hc,SameO P H1 Hc->¬ P aa->Fh X.K Hc aa tt ws)->¬ Nw X.K H1 aa →
     ∃a tt,[v]=[V.ref a]/\(∃xs,Fh X.K H1 a tt xs)/\R (Oo X.K a tt) H1:=λaa tt ws e n z sq mv nn=>by
    refine⟨aa,tt,by rw[e],⟨ws,sq⟩,q' H1 (Same.refl H1) _ λP O' hP hO i Hc hsm htr=>?_⟩
    have hnP:¬ P aa:=λy=>(hP aa y).elim n nn
    have sqc:=mv P Hc hsm hnP;refine⟨λhi=>⟨ws,sqc,by rw[<-z.length,<-sv l 0];exact hi⟩,λt ht=>?_⟩
    rw[sy]at ht
    cases e1:l[i]? with
    |none=>rw[e1]at ht;cases ht
    |some t0=>
     rw[e1]at ht;cases ht;obtain⟨v0,f1,f2⟩:=z.get e1;refine⟨⟨ws,v0,sqc,f1⟩,λx Hc' y=>?_⟩
     obtain⟨pp,vv,e2,hpn,e3,hy⟩:=y
     have:=hy ws sqc;rw[f1]at this;cases this;subst e2 e3;refine⟨aW hpn _,ik hpn (λzz=>?_) (Reps.Gc (by simpa using Rep.GT _) (Reps.Gc (f2.move hP hO hsm) Reps.GM))⟩
     obtain⟨o,w⟩:=htr pp zz;rw[hpn]at w;cases w
   cases x0 with
   |tup m=>
    cases hl;obtain⟨aa,ws,e,n,qq,z⟩:=Rep.Fk.mp rv
    exact main aa ZC ws e n z (show SqT X.K H1 aa ws from SqT.of qq) (λP Hc hsm hn=>show SqT X.K Hc aa ws from SqT.of (hsm _ _ qq hn)) λw=>by rw[w.1]at qq;cases qq
   |lst m=>
    cases hl;obtain⟨aa,ws,e,n,qq,z⟩:=Rep.Do.mp rv
    exact main aa ZD ws e n z (show SqL X.K H1 aa ws from SqL.of qq) (λP Hc hsm hn=>show SqL X.K Hc aa ws from SqL.of (hsm _ _ qq hn)) λw=>by rw[w.1]at qq;cases qq
   |scr m=>
    cases hl;unfold Rep at rv;obtain⟨aa,e,n,qq⟩:=rv
    exact main aa ZD _ e n Reps.ints (show SqL X.K H1 aa _ from qq) (λP Hc hsm hn=>show SqL X.K Hc aa _ from Tr.SqL.keep hsm hn qq) (Tr.SqL.nn qq)
   |_=>cases hl
  ·exact q'.elim
 ·exact q'.elim
end
end Tr
namespace Tm
open PySem PyProof.Rows
def mH:fillsNumberSlot (.type "tuple") "mul" =pure ZD:=
 PySem.fillsNumberSlot_seq (id:="tuple.__mul__") (r:=ZA (.builtin "tuple.__rmul__")) Vb.lookup (by decide+kernel) WH.lookup (by decide+kernel)
def tR:seqRepeat? (.type "tuple")=pure (ZA (.builtin "tuple.__mul__")):=by
 unfold seqRepeat?;rw[Xl (T:="tuple") (name:="__mul__") (id:="tuple.__mul__") Vb.lookup (by decide+kernel),Xl (T:="tuple") (name:="__rmul__") (id:="tuple.__rmul__") WH.lookup (by decide+kernel)]
 rfl
def xY(a:Int)(t:Tok)(l:ZE)(items:Array Px)(n:Nat)(dd:Option ZE)(sl:Array (Option Px)):
  Meets (Builtin.«int.__rmul__» ⟨[.int a t,.ref l],[]⟩) (λ_ R s=>s.heap.get? l=ZA {cls:=.type "tuple",dict:=dd,data:=.seq items n,slots:=sl}/\R (.ok (.ret VL)) s):=
 .of_wp λprog w A R s h=>by obtain⟨hp,g,d,tk,os⟩:=s;obtain⟨hl,h⟩:=h;wp_walk;exact⟨_,rfl,h⟩
open AutoSeq1 (wpAny_loadPart')
def Dj(l:ZE)(items:Array Px)(n:Nat)(dd:Option ZE)(sl:Array (Option Px))(x:Int)(u:Tok)(h1:1<x)(h2:x<2 ^ 31)(hne:items.isEmpty=ZD)(hz:items.size*x.toNat<=ZI)
  (hz2:(UT (λa b=>a++b) #[] (Qe x.toNat items)).size<=ZI):
  Meets (Builtin.«tuple.__mul__» ⟨[.ref l,.int x u],[]⟩) (λ_ R s=>s.heap.get? l=ZA {cls:=.type "tuple",dict:=dd,data:=.seq items n,slots:=sl} ∧
   R (.ok (.ret (P7 s.heap.objs.size))) {s with heap:=s.heap.push {cls:=Si "tuple",data:=Data.seq (UT (λa b=>a++b) #[] (Qe x.toNat items))}}):=
 .of_wp λprog w A R s h=>by
  obtain⟨hp,g,d,tk,os⟩:=s;obtain⟨hl,h⟩:=h
  have hT:XY hp l items:=⟨_,hl,rfl,n,rfl⟩
  have hx:((items.size:Nat):Int)*x=((items.size*x.toNat:Nat):Int):=by
   have e:x=((x.toNat:Nat):Int):=by omega
   rw[Int.natCast_mul,<-e]
  wp_walk using Rq hl
  rw[if_neg (by simp;omega)]
  refine PD (Wv (s:=⟨hp,g,d,tk,os⟩) hT ?_)
  dsimp only
  rw[if_neg (by rw[hne];simp;omega),if_neg (by rw[hne];simp;omega),hx,if_neg (by have:(ZI:Nat)<=1000000000:=(by decide);omega),if_neg (by unfold Builtin.Tuple.tupleTooMany;rw[decide_eq_true_iff];omega)]
  refine PD (m:=RI _) (RC ?_ hz2)
  exact PX ⟨_,rfl,h⟩
def mul_tuple{t:ZE}{k:Int}{tk:Tok}(ht:XY s.heap t vs.toArray)(h1:1<k)(h2:k<2 ^ 31)(hv:vs≠ [])(hz:vs.length*k.toNat<=ZI)
  (h:Q (.ref s.heap.objs.size) {s with heap:=s.heap.push {cls:=.type "tuple",data:=.seq (Qe k.toNat vs).flatten.toArray}}):
  ZJ (ZK prog w) A (Rt .Mult (.ref t) (.int k tk)) Q E s:=by
 obtain⟨⟨cls,dd,data,sl⟩,ho,hc,n,hd⟩:=id ht;simp only at hc hd;subst hc hd
 have e:UT (λa b=>a++b) #[] (Qe k.toNat vs.toArray)=(Qe k.toNat vs).flatten.toArray:=by
  have q:=L2.foldl_rep vs k.toNat []
  simpa using q
 refine UO (T:="tuple") (U:="int") (by decide) ⟨_,ho,rfl⟩ (λs'=>VI s' k tk) mH XG Us tR Xi.lookup
  (Tf Us (VI s k tk) Xj (WE _ _) (xY k tk t vs.toArray n dd sl)
   ⟨ho,rfl,⟨_,ho,rfl⟩,Tf Vb ⟨_,ho,rfl⟩ F.entry_tuple_mul (F.args_tuple_mul_2 _ _) (Dj t vs.toArray n dd sl k tk h1 h2 (by simpa using hv) (by simpa using hz) (by rw[e,PY,L2.len_rep,W1];exact hz)) ⟨ho,?_⟩⟩)
 rw[e];exact h
end Tm
variable{Q:Option Px->Pz->Prop}{d:XZ}
namespace Tr
open PySem PySem.Spec PyProof.Rows L2
variable{X:Cx}
def cP(x y:T):Rs T:=match x,y with
 |.tup l,.int k=>if 1<k/\k<2 ^ 31/\l≠ []/\l.length*k.toNat<=ZI then .ok (.tup (Qe k.toNat l).flatten)else .bad
 |x,y=>yk x y
instance (l:List T):Decidable (l≠ []):=by cases l <;> simp <;> infer_instance
def dQ:OpT X (Rt .Mult) cP:=by
 intro kt s σ H O x y vx vy ux uy Q I hf rx ry r1 r2 hp;unfold cP at hp
 split at hp
 ·rename_i l k
  split at hp
  ·rename_i h
   obtain⟨a,vs,e1,n1,q1,z1⟩:=Rep.Fk.mp rx;subst e1;cases Rep.AC.mp ry;cases r1;obtain⟨tk,rfl⟩:=r2;obtain⟨its,rv,pl,hz⟩:=I.tuple (SqT.of q1)
   have hl1:=z1.length
   have hl2:=rv.length
   have hne:its≠ []:=λz=>h.2.2.1 (List.eq_nil_of_length_eq_zero (by rw[hl1,hl2,z];rfl))
   refine Tm.mul_tuple pl h.1 h.2.1 hne (by rw[<-hl2,<-hl1];exact h.2.2.2) ?_
   have hn:=I.hok.fresh (PP _);refine⟨.ref _,_,I.laid (t':=s.toks) (o:=.tup (Qe k.toNat vs).flatten) (λb ob q=>PN _ q) (PP _) ?_,rfl,hp _ (aW hn _) _ (ik hn (hf _ hn) (z1.rep _))⟩
   refine⟨?_,_,rv.rep k.toNat,XE _ _⟩
   rw[len_rep,W1,<-hl1];exact h.2.2.2
  ·exact hp.elim
 ·exact J9 kt s σ H O _ _ vx vy ux uy Q I hf rx ry r1 r2 hp
def G8(outer:List (Str×SX))(N:List Str)(names:List (Str×SX))(N':List Str)(src:List (Option Nat)):Bool:=
 names.all (λy=>y.2 != .cell||names.lookup y.1 == ZA .cell)&&names.all (λy=>y.2 != .local||names.lookup y.1 == ZA .local)&&src.length == N'.length&&
 (Q2 N'.length).all (λj=>match src[j]? with
  |some (ZA i)=>match N'[j]? with
   |some x=>N[i]? == ZA x&&names.lookup x == ZA .free
   |none=>ZC
  |_=>ZC)&&
 names.all (λy=>y.2 != .free||(outer.lookup y.1 == ZA .cell||outer.lookup y.1 == ZA .free))
variable{N N':List Str}
theorem LcScope.by{src:List (Option Nat)}{names:List (Str×SX)}(hN:X.N=N)(hs:X.env.scope.names=names)(hk:scope.kind=.function)(h:G8 names N scope.names N' src=ZC):LcScope X scope N' src:=by
 unfold G8 at h;simp only[PC]at h;obtain⟨⟨⟨⟨h1,h2⟩,h3⟩,h4⟩,h5⟩:=h
 have a1:=Qk.mp h1
 have a2:=Qk.mp h2
 have a4:=Qk.mp h4
 have a5:=Qk.mp h5;refine⟨hk,λy hy hl=>by have:=a1 y hy;rw[hl]at this;simpa using this,λy hy hl=>?_,by simpa using h3,λj i x e1 e2=>?_,λx hx=>?_⟩
 ·have:=a2 y hy
  rw[hl]at this
  simpa using this
 ·have hj:j<N'.length:=(PM.mp e2).1
  have:=a4 j (Ro.mpr hj);rw[e1]at this;simp only[e2]at this;rw[PC]at this;rw[hN];exact⟨by simpa using this.1,by simpa using this.2⟩
 ·have:=a5 _ hx
  simp only[bne_self_eq_false,Wf,XI]at this
  show X.env.scope.names.lookup x=_\/X.env.scope.names.lookup x=_
  rw[hs];rcases this with z|z
  ·exact .inl (by simpa using z)
  ·exact .inr (by simpa using z)
def a9:ZG->Bool
 |.Starred .. =>ZD
 |_=>ZC
def br:List ZG->Bool
 |[] =>ZC
 |e::r=>a9 e&&br r
variable{e:ZG}{env:Env}{es:List ZG}
def aU(h:a9 e=ZC):PR (e::es) env=(ZD,eval e env)::PR es env:=by
 cases e <;> first|rfl|cases h
theorem eE{pos:Pos}{env:Env}:∀{es:List ZG},br es=ZC->(backTo pos (PR es env)).any (·.1)=ZD
 |[],_=>rfl
 |e::r,h=>by
  unfold br at h;rw[PC]at h;rw[aU h.1]
  have ih:=eE (pos:=pos) (env:=env) h.2
  show(ZD||(backTo pos (PR r env)).any (·.1))=ZD
  rw[ih];rfl
variable{f fa:Y2}{g:List T->Rs T}{pos:Pos}{ps:List Str}{x:Str}
section
variable {a b:ZG}{fs:Y0}{p p2:Pos}
def qa_c{g:Y0}(he:cg X e f)(hr:qz X es g)(hn:autoParam (a9 e=ZC) u_):qz X (e::es) (ae f g):=Gj he hr (aU hn)
def q_cB{id:String}(hc:CallT X (.builtin id) g)(hm:X.mg x=ZB)(hv:Qw x=ZA (.builtin id))(ha:qz X (e::es) fs)(hn:autoParam (br (e::es)=ZC) u_)(hg:autoParam (Gl X x) u_)(h1:autoParam (x≠ "__name__") s_)(h2:autoParam ((x == ("__debug__" : Str))=ZD) s_):
  cg X (.Call (.Name x p) (e::es) [] pos) (cl g fs):=by
 unfold br at hn;rw[PC]at hn;exact Gq hc hm hv ha hg h1 h2 (aU hn.1) (eE hn.2)
def q_cT(hc:CallT X (.type Ty) g)(hm:X.mg x=ZB)(hv:Qw x=ZA (.type Ty))(ha:qz X (e::es) fs)(hn:autoParam (br (e::es)=ZC) u_)(hg:autoParam (Gl X x) u_)(h1:autoParam (x≠ "__name__") s_)(h2:autoParam ((x == ("__debug__" : Str))=ZD) s_):
  cg X (.Call (.Name x p) (e::es) [] pos) (cl g fs):=by
 unfold br at hn;rw[PC]at hn;exact CA hc hm hv ha hg h1 h2 (aU hn.1) (eE hn.2)
def q_c{f:ZE}(F:Fp X.prog X.w X.K X.mg X.base k f fd ps n g)(hr:Room k X.A)(hm:X.mg x=ZA (.ref f))(hk:R7 X.K (.ref f)=ZC)(hb:Binds X.K fd ps [])
  (hl:∀Z ts,fs Z=.ok ts->ts.length=n) (ha:qz X (e::es) fs) (hps:autoParam (ps.length=n) u_) (hn:autoParam (br (e::es)=ZC) u_) (hg:autoParam (Gl X x) u_) (h2:autoParam ((x == ("__debug__" : Str))=ZD) s_):cg X (.Call (.Name x p) (e::es) [] pos) (cl g fs):=by
 unfold br at hn;rw[PC]at hn;exact JQ F hr hm hk hb hps hl ha hg h2 (aU hn.1) (eE hn.2)
def q_is{tn:Str}(hm:X.mg "isinstance" =ZB)(hmt:X.mg tn=ZB)(hv:Qw tn=ZA (.type Ty))(ha:cg X a fa)(hn:autoParam (a9 a=ZC) u_)(hg:autoParam (Gl X "isinstance") u_)(hgt:autoParam (Gl X tn) u_)
  (h1:autoParam (tn≠ "__name__") s_) (h2:autoParam ((tn == ("__debug__" : Str))=ZD) s_):cg X (.Call (.Name "isinstance" p) [a,.Name tn p2] [] pos) (o1 (Hi Ty) fa):=
 MM hm hmt hv ha hg hgt h1 h2 (aU hn) (eE rfl) (aU rfl)
end
def xr(Z:En)(ts:List T)(h:ai Z=.ok ts):ts.length=0:=by cases h;rfl
def xq{g:Y0}(hg:∀Z ts,g Z=.ok ts->ts.length=n)(Z:En)(ts:List T)(h:ae f g Z=.ok ts):ts.length=n+1:=by
 unfold ae at h
 cases q:f Z with
 |bad=>rw[q]at h;cases h
 |err c=>rw[q]at h;cases h
 |ok t=>
  rw[q,ax]at h
  cases q2:g Z with
  |bad=>rw[q2]at h;cases h
  |err c=>rw[q2]at h;cases h
  |ok r=>
   rw[q2,ax]at h;cases h;rw[PH,hg Z r q2]
def lY(h:Room k A):A.units+60<cLine:=by have:=h.un;omega
def yI(h:Room k A):A.units+61<cLine:=by have:=h.un;omega
structure Fn (K:Pv)(mg:WF)(x:Str)(st:ZF)(ps:List Str)(f:ZE)(fd:Q0):Prop where
 fn:L2.Fun K x x st f fd
 bd:Binds K fd ps []
 mg:mg x=ZA (.ref f)
def val(n m:Nat)(F:Y1)(ts:List T):Rs T:=if ts.length=n then bK F (aT m ts)else .bad
variable{ts:List T}
def IZ{F:Y1}{t:T}(h:val n m F ts=.ok t):bK F (aT m ts)=.ok t:=by
 unfold val at h
 split at h
 ·exact h
 ·cases h
variable{H:Hp}{a:ZE}
def sp_script{E:XK}(hS:SqL K H a (ns.map V.int))(h:g [.scr ns]=.ok (.bl ZC)):spP K 1 g [.ref a] H (λv _=>v=.bl ZC) E:=by
 refine⟨[.scr ns],λ_=>False,Reps.Gc ?_ Reps.GM,λ_ z=>z.elim,rfl,?_⟩
 ·unfold Rep;exact⟨a,rfl,λz=>z,hS⟩
 ·rw[h];exact λv H' _ r=>Rep.FS.mp r
def vH{l:List α}{z:α}(h:l[i]?=ZA z):l.set i z=l:=by
 obtain⟨hi,rfl⟩:=PM.mp h
 exact Vq hi
def Mn.set(M:Mn)(i:Nat)(m:Ow):Mn:=λj=>if j=i then m else M j
variable{M:Mn}{m:Ow}
def Mn.FM(h:(M.set i m).u a):m a\/M.u a:=by
 obtain⟨j,h⟩:=h;unfold Mn.set at h
 by_cases z:j=i
 ·rw[if_pos z]at h;exact .inl h
 ·rw[if_neg z]at h;exact .inr ⟨j,h⟩
def Mn.KF:M.set i m i=m:=by unfold Mn.set;rw[if_pos rfl]
def Mn.Os(h:j≠i):M.set i m j=M j:=by unfold Mn.set;rw[if_neg h]
variable{H':Hp}{O O':Ow}
theorem RowsR.move{P:Ow}(hP:∀a,P a->O a\/Nw K H a)(hO:∀a,O' a->O a\/Nw K H a)(h:SameO P H H'):∀{rs:List (List T×List T)}{as:List ZE},(∀b∈as,¬P b)->RowsR K O H rs as->RowsR K O' H' rs as
 |[],_,_,r=>r
 |_::_,_,hb,⟨b,bs,kvs,e1,e2,e3,e4,e5⟩=>by
  subst e1;exact⟨b,bs,kvs,rfl,h _ _ e2 (hb b PB),e3,e4.move hP hO h,e5.move hP hO h λc hc=>hb c (Pw _ hc)⟩
theorem LsR.move{P:Ow}(hP:∀a,P a->O a\/Nw K H a)(hO:∀a,O' a->O a\/Nw K H a)(h:SameO P H H'):∀{rs:List (List T)}{as:List ZE},(∀b∈as,¬P b)->LsR K O H rs as->LsR K O' H' rs as
 |[],_,_,r=>r
 |_::_,_,hb,⟨b,bs,vs,e1,e2,e4,e5⟩=>by
  subst e1;exact⟨b,bs,vs,rfl,h _ _ e2 (hb b PB),e4.move hP hO h,e5.move hP hO h λc hc=>hb c (Pw _ hc)⟩
variable{v:V}
theorem ORep.move{P M:Ow}{o:OT}(hP:∀a,P a->O a\/Nw K H a)(hO:∀a,O' a->O a\/Nw K H a)(h:SameO P H H')(hM:∀a,M a->¬ P a)(r:ORep K O M H o v):ORep K O' M H' o v:=by
 cases o with
 |lst l=>obtain⟨a,vs,e1,e2,e3,e4⟩:=r;exact⟨a,vs,e1,e2,h _ _ e3 (hM a ((e2 a).mpr rfl)),e4.move hP hO h⟩
 |dct ks ts=>obtain⟨a,kvs,e1,e2,e3,e4,e5⟩:=r;exact⟨a,kvs,e1,e2,h _ _ e3 (hM a ((e2 a).mpr rfl)),e4,e5.move hP hO h⟩
 |dd ks rows=>
  obtain⟨a,kvs,as,e1,e2,e3,e4,e5,e6,e7,e8⟩:=r
  exact⟨a,kvs,as,e1,e2,e3,e4,h _ _ e5 (hM a ((e2 a).mpr (.inl rfl))),e6,e7,e8.move hP hO h λb hb=>hM b ((e2 b).mpr (.inr hb))⟩
 |ob C ns ls=>
  obtain⟨a,dx,as,e1,e2,e3,e4,e5,e6,e7,e8⟩:=r
  exact⟨a,dx,as,e1,e2,e3,h _ _ e4 (hM a ((e2 a).mpr (.inl rfl))),h _ _ e5 (hM dx ((e2 dx).mpr (.inr (.inl rfl)))),e6,e7,e8.move hP hO h λb hb=>hM b ((e2 b).mpr (.inr (.inr hb)))⟩
 |ll ls=>
  obtain⟨a,as,e1,e2,e3,e4,e5,e6⟩:=r;exact⟨a,as,e1,e2,e3,e4,h _ _ e5 (hM a ((e2 a).mpr (.inl rfl))),e6.move hP hO h λb hb=>hM b ((e2 b).mpr (.inr hb))⟩
theorem RowsR.mtb:∀{rs:List (List T×List T)}{as:List ZE},RowsR K O H rs as->∀b∈as,∃kvs,H b=ZA (.dT kvs)
 |[],_,r,b,hb=>by unfold RowsR at r;subst r;simp at hb
 |_::_,_,⟨b0,bs,kvs,e1,e2,e3,e4,e5⟩,b,hb=>by
  subst e1;rcases PJ.mp hb with rfl|hb
  ·exact⟨kvs,e2⟩
  ·exact e5.mtb b hb
theorem LsR.mtb:∀{rs:List (List T)}{as:List ZE},LsR K O H rs as->∀b∈as,∃vs,H b=ZA (.lst vs)
 |[],_,r,b,hb=>by unfold LsR at r;subst r;simp at hb
 |_::_,_,⟨b0,bs,kvs,e1,e2,e4,e5⟩,b,hb=>by
  subst e1;rcases PJ.mp hb with rfl|hb
  ·exact⟨kvs,e2⟩
  ·exact e5.mtb b hb
def LO(H:Hp)(a:ZE):Prop:=(∃vs,H a=ZA (.lst vs))\/∃o,H a=ZA o/\isO o=ZC
def OT.isD:OT->Bool
 |.lst _=>ZD
 |.ob _ _ _=>ZD
 |.ll _=>ZD
 |_=>ZC
def ORep.kind{M:Ow}{o:OT}(r:ORep K O M H o v):∀a,M a->if o.isD then ∃kvs,H a=ZA (.dT kvs)else LO H a:=λa z=>by
 cases o with
 |lst l=>obtain⟨b,vs,e1,e2,e3,e4⟩:=r;cases (e2 a).mp z;exact .inl ⟨vs,e3⟩
 |dct ks ts=>obtain⟨b,kvs,e1,e2,e3,e4,e5⟩:=r;cases (e2 a).mp z;exact⟨kvs,e3⟩
 |dd ks rows=>
  obtain⟨b,kvs,as,e1,e2,e3,e4,e5,e6,e7,e8⟩:=r
  rcases(e2 a).mp z with z|z
  ·cases z;exact⟨kvs,e5⟩
  ·exact e8.mtb a z
 |ob C ns ls=>
  obtain⟨b,dx,as,e1,e2,e3,e4,e5,e6,e7,e8⟩:=r
  rcases(e2 a).mp z with z|z|z
  ·cases z;exact .inr ⟨_,e4,rfl⟩
  ·cases z;exact .inr ⟨_,e5,rfl⟩
  ·exact .inl (e8.mtb a z)
 |ll ls=>
  obtain⟨b,as,e1,e2,e3,e4,e5,e6⟩:=r
  rcases(e2 a).mp z with z|z
  ·cases z;exact .inl ⟨_,e5⟩
  ·exact .inl (e6.mtb a z)
def ORep.mtb{M:Ow}{o:OT}(r:ORep K O M H o v)(a:ZE)(z:M a):Mtb H a:=by
 have:=r.kind a z
 split at this
 ·exact .inr (.inl this)
 ·exact this.imp_right .inr
theorem vK:∀{rs:List (List T×List T)}{as:List ZE},(∀b∈as,¬O b)->RowsR K O H rs as->Reps K O H (rs.map λr=>T.dct r.1 r.2) (as.map V.ref)
 |[],_,_,r=>by unfold RowsR at r;subst r;exact Reps.GM
 |_::_,_,hn,⟨b,bs,kvs,e1,e2,e3,e4,e5⟩=>by
  subst e1;exact Reps.Gc (Rep.GE.mpr ⟨b,kvs,rfl,hn b PB,.inl e2,e3,e4⟩) (vK (λc hc=>hn c (Pw _ hc)) e5)
theorem RowsR.less(sub:∀a,O' a->O a):∀{rs:List (List T×List T)}{as:List ZE},RowsR K O H rs as->RowsR K O' H rs as
 |[],_,r=>r
 |_::_,_,⟨b,bs,kvs,e1,e2,e3,e4,e5⟩=>⟨b,bs,kvs,e1,e2,e3,e4.less sub,e5.less sub⟩
theorem LsR.less(sub:∀a,O' a->O a):∀{rs:List (List T)}{as:List ZE},LsR K O H rs as->LsR K O' H rs as
 |[],_,r=>r
 |_::_,_,⟨b,bs,kvs,e1,e2,e4,e5⟩=>⟨b,bs,kvs,e1,e2,e4.less sub,e5.less sub⟩
theorem LsR.rep:∀{rs:List (List T)}{as:List ZE},(∀b∈as,¬O b)->LsR K O H rs as->Reps K O H (rs.map T.lst) (as.map V.ref)
 |[],_,_,r=>by unfold LsR at r;subst r;exact Reps.GM
 |_::_,_,hn,⟨b,bs,kvs,e1,e2,e4,e5⟩=>by
  subst e1;exact Reps.Gc (Rep.Do.mpr ⟨b,kvs,rfl,hn b PB,e2,e4⟩) (LsR.rep (λc hc=>hn c (Pw _ hc)) e5)
theorem oj:∀{l:List α}{m:List β},l.length=m.length->(l.zip m).map (·.1)=l
 |[],[],_=>rfl
 |a::l,b::m,h=>by
  have h':l.length=m.length:=by simpa using h
  show a::(l.zip m).map (·.1)=_
  rw[oj h']
theorem tf:∀{l:List α}{m:List β},l.length=m.length->(l.zip m).map (·.2)=m
 |[],[],_=>rfl
 |a::l,b::m,h=>by
  have h':l.length=m.length:=by simpa using h
  show b::(l.zip m).map (·.2)=_
  rw[tf h']
theorem ORep.rep{M:Ow}{o:OT}(sub:∀a,O' a->O a)(hn:∀a,M a->¬ O' a)(r:ORep K O M H o v):Rep K O' H o.view v:=by
 cases o with
 |lst l=>obtain⟨a,vs,e1,e2,e3,e4⟩:=r;exact Rep.Do.mpr ⟨a,vs,e1,hn a ((e2 a).mpr rfl),e3,e4.less sub⟩
 |dct ks ts=>obtain⟨a,kvs,e1,e2,e3,e4,e5⟩:=r;exact Rep.GE.mpr ⟨a,kvs,e1,hn a ((e2 a).mpr rfl),.inl e3,e4,e5.less sub⟩
 |dd ks rows=>
  obtain⟨a,kvs,as,e1,e2,e3,e4,e5,e6,e7,e8⟩:=r;refine Rep.GE.mpr ⟨a,kvs,e1,hn a ((e2 a).mpr (.inl rfl)),.inl e5,e6,?_⟩
  rw[e7]
  exact vK (λb hb=>hn b ((e2 b).mpr (.inr hb))) (e8.less sub)
 |ob C ns ls=>
  obtain⟨a,dx,as,e1,e2,e3,e4,e5,e6,e7,e8⟩:=r
  have hl:ns.length=(as.map V.ref).length:=by rw[Py];exact e6
  refine Rep.Oq.mpr ⟨a,dx,_,e1,⟨⟨hn a ((e2 a).mpr (.inl rfl)),hn dx ((e2 dx).mpr (.inr (.inl rfl))),e5⟩,as,tf hl,e3.1,e3.2.1,e3.2.2.1,e3.2.2.2,by rw[oj hl];exact e7⟩,e4,oj hl,?_⟩
  rw[tf hl]
  exact(e8.less sub).rep λb hb=>hn b ((e2 b).mpr (.inr (.inr hb)))
 |ll ls=>
  obtain⟨a,as,e1,e2,e3,e4,e5,e6⟩:=r;exact Rep.Do.mpr ⟨a,_,e1,hn a ((e2 a).mpr (.inl rfl)),e5,(e6.less sub).rep λb hb=>hn b ((e2 b).mpr (.inr hb))⟩
variable{B:Ow}{Z:En}{σ:L2.St}
section
variable {o o':OT}
def Ev.new(E:Ev K B M H Z σ)(hl:i<Z.length)(hm:∀a,m a->Nw K H a)(s:Same H H')(r:ORep K (OO B (M.set i m)) m H' o v):
  Ev K B (M.set i m) H' (Z.set i (.ow o)) (σ.set i (ZA v))/\∀a,(M.set i m).u a->M.u a\/Nw K H a:=by
 have hls:i<σ.length:=by rw[<-E.env.len];exact hl
 have sub:∀a,(M.set i m).u a->M.u a\/Nw K H a:=λa z=>(Mn.FM z).elim (λw=>.inr (hm a w)) .inl
 have subO:∀a,OO B (M.set i m) a->OO B M a\/Nw K H a:=λa z=>z.elim (λw=>.inl (.inl w)) λw=>(sub a w).elim (λy=>.inl (.inr y)) .inr
 have du:∀a,Nw K H a->¬ OO B M a:=λa w z=>by
  obtain⟨o,e⟩:=(E.env.trk a z).some;rw[w.1]at e;cases e
 refine⟨⟨⟨by rw[Qr,Qr];exact E.env.len,λj t e=>?_,λj o' e=>?_,λj a z=>.inr ⟨j,z⟩,λj k a z1 z2=>?_,λa z=>?_⟩,λa z=>?_⟩,sub⟩
 ·by_cases hj:i=j
  ·subst hj;rw[P4 hl]at e;cases e
  ·rw[P3 hj]at e
   obtain⟨w,e1,e2⟩:=E.env.val j t e;exact⟨w,by rw[P3 hj];exact e1,(e2.more subO).same s⟩
 ·by_cases hj:i=j
  ·subst hj
   rw[P4 hl]at e
   cases e;exact⟨v,P4 hls,by rw[Mn.KF];exact r⟩
  ·rw[P3 hj]at e
   obtain⟨w,e1,e2⟩:=E.env.own j o' e;refine⟨w,by rw[P3 hj];exact e1,?_⟩
   rw[Mn.Os (λz=>hj z.symm)]
   exact(e2.move (P:=kI) (λ_ z=>z.elim) subO (λb u q _=>q) λ_ _ z=>z).same s
 ·unfold Mn.set at z1 z2
  by_cases hj:j=i
  ·by_cases hk:k=i
   ·exact hj.trans hk.symm
   ·rw[if_pos hj]at z1;rw[if_neg hk]at z2
    exact(du a (hm a z1) (.inr ⟨k,z2⟩)).elim
  ·by_cases hk:k=i
   ·rw[if_neg hj]at z1;rw[if_pos hk]at z2
    exact(du a (hm a z2) (.inr ⟨j,z1⟩)).elim
   ·rw[if_neg hj]at z1;rw[if_neg hk]at z2
    exact E.env.dis j k a z1 z2
 ·rcases z with z|z
  ·exact(E.env.trk a (.inl z)).same s
  ·rcases Mn.FM z with w|w
   ·exact r.mtb a w
   ·exact(E.env.trk a (.inr w)).same s
 ·intro hb
  rcases Mn.FM z with w|w
  ·exact du a (hm a w) (.inl hb)
  ·exact E.mine a w hb
def Ev.put(E:Ev K B M H Z σ)(hi:Z[i]?=ZA (.ow o))(hs:σ[i]?=ZA (ZA v))(s:SameO (M i) H H')(r:ORep K (OO B M) (M i) H' o' v):Ev K B M H' (Z.set i (.ow o')) σ/\SameO M.u H H':=by
 have hl:i<Z.length:=(PM.mp hi).1
 have inO:∀a,M i a->OO B M a\/Nw K H a:=λa z=>.inl (.inr ⟨i,z⟩)
 have idO:∀a,OO B M a->OO B M a\/Nw K H a:=λa z=>.inl z
 refine⟨⟨⟨by rw[Qr];exact E.env.len,λj t e=>?_,λj o2 e=>?_,E.env.sub,E.env.dis,λa z=>?_⟩,E.mine⟩,λb u e n=>s b u e λz=>n ⟨i,z⟩⟩
 ·by_cases hj:i=j
  ·subst hj;rw[P4 hl]at e;cases e
  ·rw[P3 hj]at e
   obtain⟨w,e1,e2⟩:=E.env.val j t e;exact⟨w,e1,e2.move inO idO s⟩
 ·by_cases hj:i=j
  ·subst hj
   rw[P4 hl]at e
   cases e;exact⟨v,hs,r⟩
  ·rw[P3 hj]at e
   obtain⟨w,e1,e2⟩:=E.env.own j o2 e;exact⟨w,e1,e2.move inO idO s λa z y=>hj (E.env.dis i j a y z)⟩
 ·by_cases hz:M i a
  ·exact r.mtb a hz
  ·exact(E.env.trk a z).at λo e=>s _ _ e hz
def disown(i:Nat)(Z:En):En:=match Z[i]? with
 |some (.ow o)=>Z.set i (.va o.view)
 |_=>Z
theorem EnvM.disown(E:EnvM K O M H Z σ)(i:Nat)(sub:∀a,O' a->O a)(hn:∀a,M i a->¬ O' a)(hin:∀j a,j≠i->M j a->O' a):EnvM K O' (M.set i kI) H (disown i Z) σ:=by
 have base:EnvM K O' (M.set i kI) H (Z.set i (match Z[i]? with|some (.ow o)=>.va o.view|some x=>x|none=>.em)) σ:=by
  refine⟨by rw[Qr];exact E.len,λj t e=>?_,λj o e=>?_,λj a z=>?_,λj k a z1 z2=>?_,λa z=>E.trk a (sub a z)⟩
  ·by_cases hj:i=j
   ·subst hj
    by_cases hl:i<Z.length
    ·rw[P4 hl]at e
     cases q:Z[i]? with
     |none=>rw[q]at e;cases e
     |some z=>
      rw[q]at e
      cases z with
      |em=>cases e
      |va t'=>cases e;obtain⟨w,e1,e2⟩:=E.val i _ q;exact⟨w,e1,e2.less sub⟩
      |ow o=>cases e;obtain⟨w,e1,e2⟩:=E.own i _ q;exact⟨w,e1,e2.rep sub hn⟩
    ·rw[TM (by rw[Qr];omega)]at e;cases e
   ·rw[P3 hj]at e
    obtain⟨w,e1,e2⟩:=E.val j t e;exact⟨w,e1,e2.less sub⟩
  ·by_cases hj:i=j
   ·subst hj
    by_cases hl:i<Z.length
    ·rw[P4 hl]at e
     cases q:Z[i]? with
     |none=>rw[q]at e;cases e
     |some z=>
      rw[q]at e
      cases z with
      |em=>cases e
      |va t'=>cases e
      |ow o=>cases e
    ·rw[TM (by rw[Qr];omega)]at e;cases e
   ·rw[P3 hj]at e
    obtain⟨w,e1,e2⟩:=E.own j o e;refine⟨w,e1,?_⟩
    rw[Mn.Os (λz=>hj z.symm)]
    exact e2.move (P:=kI) (λ_ z=>z.elim) (λa z=>.inl (sub a z)) (λb u q _=>q) λ_ _ z=>z
  ·unfold Mn.set at z
   by_cases hj:j=i
   ·rw[if_pos hj]at z;exact z.elim
   ·rw[if_neg hj]at z;exact hin j a hj z
  ·unfold Mn.set at z1 z2
   by_cases hj:j=i
   ·rw[if_pos hj]at z1;exact z1.elim
   ·by_cases hk:k=i
    ·rw[if_pos hk]at z2;exact z2.elim
    ·rw[if_neg hj]at z1;rw[if_neg hk]at z2;exact E.dis j k a z1 z2
 unfold Tr.disown
 cases q:Z[i]? with
 |none=>rw[q,List.set_eq_of_length_le (List.getElem?_eq_none_iff.mp q)]at base;exact base
 |some z=>
  rw[q]at base
  cases z with
  |em=>rw[vH q]at base;exact base
  |va t=>rw[vH q]at base;exact base
  |ow o=>exact base
theorem Ev.disown(E:Ev K B M H Z σ)(i:Nat):Ev K B (M.set i kI) H (disown i Z) σ/\∀a,(M.set i kI).u a->M.u a:=by
 have sub:∀a,(M.set i kI).u a->M.u a:=λa z=>(Mn.FM z).elim (λw=>w.elim) id
 refine⟨⟨E.env.disown i (λa z=>z.elim .inl λw=>.inr (sub a w)) (λa z y=>?_) λj a hj z=>.inr ⟨j,by rw[Mn.Os hj];exact z⟩,λa z=>E.mine a (sub a z)⟩,sub⟩
 rcases y with y|⟨j,y⟩
 ·exact E.mine a ⟨i,z⟩ y
 ·unfold Mn.set at y
  by_cases hj:j=i
  ·rw[if_pos hj]at y;exact y
  ·rw[if_neg hj]at y;exact hj (E.env.dis j i a y z)
end
variable{apos cpos:Pos}{st:ZF}
section
variable {a:ZG}{p2 p3:Pos}
def Ev.subO(hm:∀a,m a->Nw K H a)(a:ZE)(z:OO B (M.set i m) a):OO B M a\/Nw K H a:=
 z.elim (λw=>.inl (.inl w)) λw=>(Mn.FM w).elim (λy=>.inr (hm a y)) λy=>.inl (.inr y)
def dF{H1:Hp}(s:Same H H1){a:ZE}(n:Nw K H1 a):Nw K H a:=(fz (SameO.of (P:=kI) s) n).elim (λz=>z.elim) id
def Ma(X:Cx)(t:TA):TE:=λσ H Q=>t σ H λxs H1=>xs.length<=ZI/\∀p,Nw X.K H1 p->Q (.ref p) (upd H1 p (.lst xs))
def tY{t:TA}(h:PA X es t):PE X (.List es pos) (Ma X t):=by
 intro kt s σ H Q I hq;refine Wq (bV (h pos kt s σ H _ I hq) λus s1 ⟨xs,H1,I1,r,z,q⟩=>⟨by rw[<-r.length];exact z,?_⟩)
 have hf:H1 s1.heap.objs.size=ZB:=I1.hok.fresh (PP _)
 have hk:X.K.lookup s1.heap.objs.size=ZB:=by
  cases q:X.K.lookup s1.heap.objs.size with
  |none=>rfl
  |some o=>exact absurd (PU (I1.kIn _ o q)) (Qm _)
 refine⟨.ref s1.heap.objs.size,upd H1 s1.heap.objs.size (.lst xs),I1.laid (t':=s1.toks) (λb u e=>PN _ e) (PP _) ?_,rfl,q _ ⟨hf,hk⟩⟩
 exact⟨z,us,0,r,Qc _ rfl⟩
def jd(i:Nat)(f:Y0)(Z:En):Rs Fl:=do
 let l <-f Z
 if i<Z.length/\l.length<=ZI then .ok (.nx (Z.set i (.ow (.lst l))))else .bad
def F6(i:Nat){f:Y0}(hN:X.N.Nodup)(ha:qz X es f)(hi:autoParam (X.N[i]?=ZA x) u_)(hx:autoParam (Loc X.env.scope x) y_)(hs:autoParam (Qt (.List es p2) (ZA (.Name x p3)) pos.line X.env=pure ZD) u_)
  (hf:autoParam (X.fn x=ZC\/X.env.scope.names.lookup x=ZA .local) r_):mh X (.Assign [.Name x p3] (.List es p2) pos) (jd i f):=PS.imp (pq hN hi hx (tY ha) hs hf) λD σ H hh_=>by
 obtain⟨Z,B,M,E,h⟩:=hh_;refine⟨Z,OO B M,E.o,?_⟩
 unfold jd at h
 cases q:f Z with
 |bad=>rw[q]at h;exact h.elim
 |err c=>rw[q]at h;exact PostF.xa h
 |ok l=>
  rw[q,ax]at h;intro H1 s1 vs rs
  by_cases hl:i<Z.length/\l.length<=ZI
  ·rw[if_pos hl]at h
   refine⟨by rw[<-rs.length];exact hl.2,λp hp=>?_⟩
   have hm:∀a,a=p->Nw X.K H1 a:=λa z=>z▸hp
   obtain⟨E2,sub⟩:=(E.same s1).new (m:=λa=>a=p) (o:=.lst l) (v:=.ref p) (H':=upd H1 p (.lst vs)) hl.1 hm (aW hp.1 _) ⟨p,vs,rfl,λb=>SC,aL,(rs.more (Ev.subO hm)).same (aW hp.1 _)⟩
   exact h _ _ _ (SameO.of (s1.trans (aW hp.1 _))) E2 λa z=>(sub a z).imp_right (dF s1)
  ·rw[if_neg hl]at h
   exact h.elim
def pf(i:Nat)(f:Y2)(Z:En):Rs Fl:=do
 let t <-f Z
 match t with
 |.lst l=>if i<Z.length then .ok (.nx (Z.set i (.ow (.lst l))))else .bad
 |_=>.bad
def JB{elt tg iter:ZG}{ifs:List ZG}{spos py:Pos}{src:List (Option Nat)}{fi:Y0}{tgt:T->En->Rs En}{fc:Y3}{fe:Y2}(i:Nat){y:Str}
  (hc:X.calm=ZC) (S:LcScope X scope N' src) (hi:BH X tg iter fi)
  (block:∀cl C s₀ H₀ fp,Fo (bx X scope cl N' C s₀ H₀ fp) tg tgt/\Az (bx X scope cl N' C s₀ H₀ fp) ifs (BL (bx X scope cl N' C s₀ H₀ fp) fc)/\cg (bx X scope cl N' C s₀ H₀ fp) elt fe)
  (hN:X.N.Nodup) (hiy:autoParam (X.N[i]?=ZA y) u_) (hy:autoParam (Loc X.env.scope y) y_) (hsw:autoParam (Qt (.ListComp elt [⟨tg,iter,ifs,0⟩] scope pos) (ZA (.Name y py)) spos.line X.env=pure ZC) u_)
  (hf:autoParam (X.fn y=ZC\/X.env.scope.names.lookup y=ZA .local) r_) (hs:autoParam (∀x,Qp iter X.env x=pure x) t_):
  mh X (.Assign [.Name y py] (.ListComp elt [⟨tg,iter,ifs,0⟩] scope pos) spos) (pf i (fL fi src tgt fc fe)):=by
 have hPG:∀cl C s₀ H₀ fp,PG (bx X scope cl N' C s₀ H₀ fp) tg (BN X tgt):=λcl C s₀ H₀ fp=>(block cl C s₀ H₀ fp).1
 have hPI:∀cl C s₀ H₀ fp,Az (bx X scope cl N' C s₀ H₀ fp) ifs (tPT0 X.K fc):=λcl C s₀ H₀ fp kt s σ H Q I h=>(block cl C s₀ H₀ fp).2.1 kt s σ H Q I (tPT0.up (X:=bx X scope cl N' C s₀ H₀ fp) h)
 have hPE:∀cl C s₀ H₀ fp,PE (bx X scope cl N' C s₀ H₀ fp) elt (tP0 X.K fe):=λcl C s₀ H₀ fp kt s σ H Q I h=>(block cl C s₀ H₀ fp).2.2 kt s σ H Q I (tP0.up (X:=bx X scope cl N' C s₀ H₀ fp) h)
 refine PS.imp (Ie (g:=BN X tgt) (tc:=tPT0 X.K fc) (te:=tP0 X.K fe) (i:=i) hc S hi (λcl C s₀ H₀ fp=>⟨hPG cl C s₀ H₀ fp,hPI cl C s₀ H₀ fp,hPE cl C s₀ H₀ fp⟩) hN hiy hy hsw hf hs) λD σ H ⟨Z,B,M,E,h⟩=>wu E.o ?_
 unfold pf at h;rw[wy]at h
 cases q:KL fi src tgt fc fe Z with
 |bad=>rw[q]at h;exact h.elim
 |err c=>rw[q]at h;exact PostF.xa h
 |ok l=>
  rw[q,ax,ax]at h;intro H1 s1 p ys H' nD sD eD rD
  by_cases hl:i<Z.length
  ·have h':PostF X B M.u H (.ok (.nx (Z.set i (.ow (.lst l))))) D:=by simpa [hl]using h
   have hm:∀a,a=p->Nw X.K H1 a:=λa z=>z▸nD
   obtain⟨E2,sub⟩:=(E.same s1).new (m:=λa=>a=p) (o:=.lst l) (v:=.ref p) (H':=H') hl hm sD ⟨p,ys,rfl,λb=>SC,eD,rD.less λa z=>z.elim (λw=>.inl (.inl w)) λw=>(Mn.FM w).elim .inr λw=>.inl (.inr w)⟩
   exact h' _ _ _ (SameO.of (s1.trans sD)) E2 λa z=>(sub a z).imp_right (dF s1)
  ·have h':PostF X B M.u H (.bad:Rs Fl) D:=by simpa [hl]using h
   exact h'.elim
def gQ(i:Nat)(f:Y2)(Z:En):Rs Fl:=match Z[i]? with
 |some (.ow (.lst l))=>f Z >>= λt=>if l.length<ZI then .ok (.nx (Z.set i (.ow (.lst (l++[t])))))else .bad
 |_=>.bad
def Ev.putL{o:OT}{l':List T}{b:ZE}{vs':List V}(E:Ev K B M H Z σ)(hi:Z[i]?=ZA (.ow o))(hs:σ[i]?=ZA (ZA (.ref b)))(hM:∀c,M i c↔c=b)(r:Reps K (OO B M) H l' vs'):
  Ev K B M (upd H b (.lst vs')) (Z.set i (.ow (.lst l'))) σ/\SameO M.u H (upd H b (.lst vs')):=by
 have sm:SameO (M i) H (upd H b (.lst vs')):=λc u e nb=>by rw[aH (λz=>nb ((hM c).mpr z))];exact e
 exact E.put hi hs sm ⟨b,vs',rfl,hM,aL,r.move (P:=M i) (λa z=>.inl (.inr ⟨i,z⟩)) (λa z=>.inl z) sm⟩
def JI(i:Nat)(ha:cg X a fa)(hN:autoParam (X.N[i]?=ZA x) u_)(hv:autoParam (jk X.env.scope x) v_)(hn:autoParam (a9 a=ZC) u_)
  (hbase:autoParam (Qj (.Name x p2) "append" X.env (eval (.Name x p2) X.env)=eval (.Name x p2) X.env) u_) (hline:autoParam ((apos.endLine == cpos.line)=ZC) u_)
  (hd:autoParam ((x == ("__debug__" : Str))=ZD) s_) (hcd:autoParam ((x == ("__classdict__" : Str))=ZD) s_)
  (hsw:autoParam (Qt (.Call (.Attribute (.Name x p2) "append" apos) [a] [] cpos) ZB pos.line X.env=pure ZD) u_):mh X (.Expr (.Call (.Attribute (.Name x p2) "append" apos) [a] [] cpos) pos) (gQ i fa):=by
 have h1:PR [a] X.env=(ZD,eval a X.env)::PR [] X.env:=aU hn;refine PS.imp (iH (zF Rb S8 S9 j8 (dt hN hv hd hcd) (cS ha fM h1) hbase ?_ hline h1 rfl) hsw) λD σ H ⟨Z,B,M,E,h⟩=>?_
 ·rw[h1];rfl
 unfold gQ at h
 split at h
 ·rename_i l hl
  obtain⟨v0,e1,b,vs,rfl,hM,e3,e4⟩:=E.env.own i _ hl;refine⟨.ref b,e1,.inl ⟨rfl,vs,SqL.of e3⟩,Z,OO B M,E.o,?_⟩
  cases q:fa Z with
  |bad=>rw[q]at h;exact h.elim
  |err c=>rw[q]at h;exact PostF.xa h
  |ok t=>
   rw[q,ax]at h
   split at h
   ·rename_i hz
    intro H1 s1 v r
    have e3':=s1 _ _ e3;refine⟨b,vs,v,rfl,rfl,e3',by rw[<-e4.length];exact hz,?_⟩
    obtain⟨g1,g2⟩:=(E.same s1).putL (l':=l++[t]) (vs':=vs++[v]) hl e1 hM ((e4.same s1).append (Reps.Gc r Reps.GM));exact h σ _ M (λc o e nb=>g2 c o (s1 _ _ e) nb) g1 λc z=>.inl z
   ·exact h.elim
 ·exact h.elim
def Lg(i:Nat)(l:List T)(Z:En):T->Rs Fl
 |.lst m=>if l.length+m.length<=ZI then .ok (.nx (Z.set i (.ow (.lst (l++m)))))else .bad
 |_=>.bad
def pj(i:Nat)(f:Y2)(Z:En):Rs Fl:=match Z[i]? with
 |some (.ow (.lst l))=>f Z >>= Lg i l Z
 |_=>.bad
def JD(i:Nat)(ha:cg X a fa)(hN:autoParam (X.N[i]?=ZA x) u_)(hv:autoParam (jk X.env.scope x) v_)(hn:autoParam (a9 a=ZC) u_)
  (hbase:autoParam (Qj (.Name x p2) "extend" X.env (eval (.Name x p2) X.env)=eval (.Name x p2) X.env) u_) (hline:autoParam ((apos.endLine == cpos.line)=ZC) u_)
  (hd:autoParam ((x == ("__debug__" : Str))=ZD) s_) (hcd:autoParam ((x == ("__classdict__" : Str))=ZD) s_)
  (hsw:autoParam (Qt (.Call (.Attribute (.Name x p2) "extend" apos) [a] [] cpos) ZB pos.line X.env=pure ZD) u_):mh X (.Expr (.Call (.Attribute (.Name x p2) "extend" apos) [a] [] cpos) pos) (pj i fa):=by
 have h1:PR [a] X.env=(ZD,eval a X.env)::PR [] X.env:=aU hn;refine PS.imp (iH (zF Rb PySem.F.slot_list_extend PySem.F.type_list_extend Bc (dt hN hv hd hcd) (cS ha fM h1) hbase ?_ hline h1 rfl) hsw) λD σ H ⟨Z,B,M,E,h⟩=>?_
 ·rw[h1];rfl
 unfold pj at h
 split at h
 ·rename_i l hl
  obtain⟨v0,e1,b,vs,rfl,hM,e3,e4⟩:=E.env.own i _ hl;refine⟨.ref b,e1,.inl ⟨rfl,vs,SqL.of e3⟩,Z,OO B M,E.o,?_⟩
  cases q:fa Z with
  |bad=>rw[q]at h;exact h.elim
  |err c=>rw[q]at h;exact PostF.xa h
  |ok t=>
   rw[q,ax]at h;unfold Lg at h
   split at h
   ·rename_i m
    split at h
    ·rename_i hz
     intro H1 s1 v r;obtain⟨c,ws,rfl,nO,hc,rm⟩:=Rep.Do.mp r
     have e3':=s1 _ _ e3;refine⟨b,c,vs,ws,rfl,rfl,e3',hc,by rw[<-e4.length,<-rm.length];exact hz,?_⟩
     obtain⟨g1,g2⟩:=(E.same s1).putL (l':=l++m) (vs':=vs++ws) hl e1 hM ((e4.same s1).append rm);exact h σ _ M (λc o e nb=>g2 c o (s1 _ _ e) nb) g1 λc z=>.inl z
    ·exact h.elim
   ·exact h.elim
 ·exact h.elim
def kS(i:Nat)(F:Y1)(Z:En):Rs Fl:=F (disown i Z)
def JF(i:Nat){F:Y1}(h:mh X st F):mh X st (kS i F):=PS.imp h λD σ H hh_=>by
 obtain⟨Z,B,M,E,q⟩:=hh_;obtain⟨E',sub⟩:=E.disown i;exact⟨disown i Z,B,_,E',PostF.later q (λ_ _ e _=>e) λa z=>.inl (sub a z)⟩
mutual
def T.nk(D:Bool):T->Bool
 |.scr _=>ZD
 |.dct _ ts=>!D&&nks D ts
 |.ob _ _ _=>ZD
 |.lst l=>D&&nks D l
 |.tup l=>nks D l
 |_=>ZC
def nks(D:Bool):List T->Bool
 |[] =>ZC
 |t::l=>t.nk D&&nks D l
end
mutual
theorem Rep.lend{K:Pv}{O O':Ow}{H:Hp}{D:Bool}(hk:∀a,O a->O' a\/if D then ∃kvs,Rd H a (.dT kvs)else LO H a):∀{t:T}{v:V},t.nk D=ZC->Rep K O' H t v->Rep K O H t v
 |.non,_,_,r=>by unfold Rep at r ⊢;exact r
 |.bl _,_,_,r=>by unfold Rep at r ⊢;exact r
 |.int _,_,_,r=>by unfold Rep at r ⊢;exact r
 |.str _,_,_,r=>by unfold Rep at r ⊢;exact r
 |.tup l,_,h,r=>by
  unfold Rep at r ⊢;unfold T.nk at h;obtain⟨a,vs,e,n,q,z⟩:=r;refine⟨a,vs,e,λp=>(hk a p).elim n λw=>?_,q,Reps.lend hk h z⟩
  split at w
  ·obtain⟨_,w|⟨_,w⟩⟩:=w <;> rw[q]at w <;> cases w
  ·rcases w with⟨_,w⟩|⟨_,w,y⟩ <;> rw[q]at w <;> cases w <;> cases y
 |.lst l,_,h,r=>by
  unfold Rep at r ⊢;unfold T.nk at h;rw[PC]at h;obtain⟨h1,h2⟩:=h;subst h1;obtain⟨a,vs,e,n,q,z⟩:=r;refine⟨a,vs,e,λp=>(hk a p).elim n λw=>?_,q,Reps.lend hk h2 z⟩
  rw[if_pos rfl]at w;obtain⟨_,w|⟨_,w⟩⟩:=w <;> rw[q]at w <;> cases w
 |.scr l,_,h,r=>by unfold T.nk at h;cases h
 |.dct ks ts,_,h,r=>by
  unfold Rep at r ⊢;unfold T.nk at h;rw[PC]at h;obtain⟨h1,h2⟩:=h
  cases D with
  |true=>cases h1
  |false=>
   obtain⟨a,kvs,e,n,q,k,z⟩:=r;refine⟨a,kvs,e,λp=>(hk a p).elim n λw=>?_,q,k,Reps.lend hk h2 z⟩
   rw[if_neg P6]at w;rcases w with⟨_,w⟩|⟨_,w,y⟩ <;> rcases q with q|⟨_,q⟩ <;> rw[q]at w <;> cases w <;> cases y
 |.ob _ _ _,_,h,r=>by unfold T.nk at h;cases h
theorem Reps.lend{K:Pv}{O O':Ow}{H:Hp}{D:Bool}(hk:∀a,O a->O' a\/if D then ∃kvs,Rd H a (.dT kvs)else LO H a):∀{l:List T}{vs:List V},nks D l=ZC->Reps K O' H l vs->Reps K O H l vs
 |[],_,_,r=>by unfold Reps at r ⊢;exact r
 |t::l,_,h,r=>by
  unfold Reps at r ⊢;unfold nks at h;rw[PC]at h;obtain⟨v,ws,e,p,q⟩:=r;exact⟨v,ws,e,Rep.lend hk h.1 p,Reps.lend hk h.2 q⟩
end
def ln(i:Nat)(f:Y2)(Z:En):Rs T:=match Z[i]? with
 |some (.ow o)=>f (disown i Z) >>= λt=>if t.nk o.isD=ZC then .ok t else .bad
 |_=>f Z
def BP(i:Nat)(f:Y3)(Z:En):Rs Bool:=f (disown i Z)
def sS(E:EnvM K O M H Z σ)(i:Nat):EnvM K (λa=>O a/\¬ M i a) (M.set i kI) H (disown i Z) σ:=
 E.disown i (λa z=>z.1) (λa z y=>y.2 z) λj a hj z=>⟨E.sub j a z,λy=>hj (E.dis j i a z y)⟩
def q_ln(i:Nat)(h:cg X e f):cg X e (ln i f):=PE.imp h λσ H Q ⟨Z,O,⟨M,E⟩,q⟩=>by
 unfold ln at q
 split at q
 ·rename_i o hi
  refine⟨disown i Z,_,⟨_,sS E i⟩,?_⟩
  obtain⟨w,e1,r⟩:=E.own i o hi;refine Post.mono (Post.bind q) λt H' s q2 v rv=>?_
  split at q2
  ·rename_i hk
   have kd:=(r.same s).kind;refine q2 H' (Same.refl _) v (Rep.lend (λa z=>?_) hk rv)
   by_cases hm:M i a
   ·refine .inr ?_
    have this:=kd a hm
    by_cases hD:o.isD=ZC
    ·rw[if_pos hD]at this ⊢;exact this.imp λ_ z=>.inl z
    ·rw[if_neg hD]at this ⊢;exact this
   ·exact .inl ⟨z,hm⟩
  ·exact q2.elim
 ·exact⟨Z,O,⟨M,E⟩,q⟩
def MA(i:Nat){f:Y3}(h:ve X e f):ve X e (BP i f):=PT.imp h λσ H Q ⟨Z,O,⟨M,E⟩,q⟩=>⟨disown i Z,_,⟨_,sS E i⟩,q⟩
end
def lq:List T->List T->List Key->Option T
 |k'::ks,v::vs,k=>if keyOf k'=ZA k then ZA v else lq ks vs k
 |_,_,_=>ZB
def gp(k v:T):List T->List T->List T×List T
 |k'::ks,v'::vs=>if keyOf k'=keyOf k then(k'::ks,v::vs)else(k'::(gp k v ks vs).1,v'::(gp k v ks vs).2)
 |_,_=>([k],[v])
def jO(x y:T):Rs T:=match x,keyOf y with
 |.dct ks vs,ZA k=>match lq ks vs k with
  |some t=>.ok t
  |none=>.bad
 |_,_=>.bad
def ji(x y:T):Rs T:=match x,keyOf y with
 |.dct ks vs,ZA k=>match lq ks vs k with
  |some t=>.ok t
  |none=>.ok .non
 |_,_=>.bad
def Ey(x y:T):Rs T:=match y,keyOf x with
 |.dct ks vs,ZA k=>.ok (.bl (lq ks vs k).isSome)
 |_,_=>.bad
def oD(g:T->T->Rs T)(fa fb:Y2)(Z:En):Rs T:=fa Z >>= λx=>match x with
 |.dct ks vs=>fb Z >>= g (.dct ks vs)
 |_=>.bad
def oL(g:T->T->Rs T)(fa fb:Y2)(Z:En):Rs T:=fa Z >>= λx=>match x with
 |.lst l=>fb Z >>= g (.lst l)
 |_=>.bad
def Ig:List T->Option (List (T×T))
 |[] =>ZA []
 |.tup [k,v] ::l=>match keyOf k,Ig l with
  |some _,ZA r=>ZA ((k,v)::r)
  |_,_=>ZB
 |_=>ZB
def gn:List (T×T)->List T×List T->List T×List T
 |[],d=>d
 | (k,v)::r,d=>gn r (gp k v d.1 d.2)
def l7:List T->Rs T
 |[.lst l] =>match Ig l with
  |some ps=>if l.length<=1000 then .ok (.dct (gn ps ([],[])).1 (gn ps ([],[])).2)else .bad
  |none=>.bad
 |_=>.bad
def rO(i:Nat)(f:Y2)(Z:En):Rs Fl:=f Z >>= λt=>l7 [t] >>= λd=>match d with
 |.dct ks vs=>if i<Z.length then .ok (.nx (Z.set i (.ow (.dct ks vs))))else .bad
 |_=>.bad
def AU(i:Nat)(fk fv:Y2)(Z:En):Rs Fl:=match Z[i]? with
 |some (.ow (.dct ks vs))=>fv Z >>= λv=>fk Z >>= λk=>match keyOf k with
  |some _=>if ks.length<1000 then .ok (.nx (Z.set i (.ow (.dct (gp k v ks vs).1 (gp k v ks vs).2))))else .bad
  |none=>.bad
 |_=>.bad
def je:List T->Option (List Int)
 |[] =>ZA []
 |.int i::l=>(je l).map (i:: ·)
 |_=>ZB
def yw(i:Int):List Int->Int
 |[] =>i
 |j::l=>yw (if j<i then j else i) l
def G0:List T->Rs T
 |[.lst l] =>match je l with
  |some (i::ns)=>.ok (.int (yw i ns))
  |_=>.bad
 |[.int i,.int j] =>.ok (.int (yw i [j]))
 |_=>.bad
def km(x:T):List T->Nat->Option Nat
 |[],_=>ZB
 |t::l,n=>if aX t x then ZA n else km x l (n+1)
def gF(y x:T):Rs T:=match y with
 |.lst l=>if (x.dep<=60\/deps l<=60)/\x.nd=ZC/\nds l=ZC then match km x l 0 with
   |some n=>.ok (.int n)
   |none=>.bad
  else .bad
 |_=>.bad
def ox(y x:T):Rs T:=match y with
 |.lst l=>if (x.dep<=60\/deps l<=60)/\x.nd=ZC/\nds l=ZC then .ok (.int (l.countP λt=>aX t x))else .bad
 |_=>.bad
def Cn(i:Nat)(f:Y2)(Z:En):Rs Fl:=match Z[i]? with
 |some (.va (.int a))=>f Z >>= λy=>match y with
  |.int b=>.ok (.nx (Z.set i (.va (.int (a+b)))))
  |_=>.bad
 |_=>.bad
def FU:Nat:=1000000000000
variable{h:ZH}
theorem gS{b b':ZH}:∀{l:List Env},h.FunFrames b l->(∀a∈l.filterMap (·.frame),b'.get? a=ZB)->h.FunFrames b' l
 |[],_,_=>trivial
 |env::bM,⟨hk,⟨L,o,hf,hn,ho,hd⟩,hr⟩,q=>by
  rw[Q8,hf]at q;exact⟨hk,⟨L,o,hf,q L PB,ho,hd⟩,gS hr λa ha=>q a (Pw _ ha)⟩
variable{C e:ZE}{M:X0}{outer:List Env}
structure E5 (fs:List ZE)(C e:ZE)(T:Option ZE)(h h':ZH)(T':ZE):Prop where
 flt:LW h' C e (ZA T')
 new:T=ZA T'\/h.get? T'=ZB
 keep:∀b o,b∉fs->b≠e->T≠ZA b->h.get? b=ZA o->h'.get? b=ZA o
 slot:∀b o,b∈fs->h.get? b=ZA o->∃sl,h'.get? b=ZA {o with slots:=sl}
def Du{base:ZH}{L:ZE}{T:Option ZE}{Q:Unit->Pz->Prop}(hfr:A.frames=ZA (env::outer))(hl:s.heap.FunFrames base (env::outer))(hf:env.frame=ZA L)
  (F:LW s.heap C e T) (h:∀h' T',E5 ((env::outer).filterMap (·.frame)) C e T s.heap h' T'->Q () {s with heap:=h'}):ZJ M A (leaving env (.ref e)) Q E s:=by
 generalize hB:Vk s.heap (e::(T.toList++(env::outer).filterMap (·.frame)))=B
 have bm:∀b,b∈e::(T.toList++(env::outer).filterMap (·.frame))->B.get? b=ZB:=λb m=>by rw[<-hB];exact T9 _ m
 have hl':s.heap.FunFrames B (env::outer):=gS hl λa ha=>bm a (Pw _ (Qd _ ha))
 have hst:B.StaysIn s.heap:=λb o q=>by rw[<-hB]at q;exact UH _ q
 have hen:B.get? e=ZB:=bm e PB
 have main:∀h',Heap.Left B (env::outer) e (.ref C) s.heap h'->Q () {s with heap:=h'}:=λh' ⟨x1,x2,⟨oe,vs,T',oT,ts,he,hc,hd,h1,hnT,hTe,hT,hdT,h3⟩,x4⟩=>by
  refine h h' T' ⟨⟨hTe,oe,vs,he,hc,hd,h1,oT,ts,hT,hdT,h3⟩,?_,λb o n1 n2 n3 q=>?_,λb o m q=>?_⟩
  ·cases q:s.heap.get? T' with
   |none=>exact .inr rfl
   |some o=>
    left
    by_cases z:T'∈e::(T.toList++(env::outer).filterMap (·.frame))
    ·rcases PJ.mp z with z|z
     ·exact absurd z hTe
     ·rcases PZ.mp z with z|z
      ·cases T with
       |none=>simp at z
       |some t=>simp at z;rw[z]
      ·obtain⟨_,o',ho',hnf⟩:=x2.mem z
       rw[hT]at ho';cases ho';exact absurd hdT (hnf ts)
    ·rw[<-hB,Su _ q z]at hnT;cases hnT
  ·refine x1 b o ?_
   rw[<-hB];refine Su _ q λz=>?_
   rcases PJ.mp z with z|z
   ·exact n2 z
   ·rcases PZ.mp z with z|z
    ·cases T with
     |none=>simp at z
     |some t=>simp at z;exact n3 (by rw[z])
    ·exact n1 z
  ·obtain⟨_,o',ho',hnf⟩:=hl.mem m
   rw[q]at ho';cases ho';exact x4 b o q hnf
 cases T with
 |none=>
  obtain⟨oe,vs,he,hc,hd,h1⟩:=F;refine wpAny_leaving_first hfr hl' hf he hst hen hd h1 λh' x=>main h' ?_
  rw[hc]at x;exact x
 |some t=>
  obtain⟨hte,oe,vs,he,hc,hd,h1,oT,ts,hT,hdT,h3⟩:=F;exact wpAny_leaving_next hfr hl' hf ⟨oe,vs,t,oT,ts,he,hc,hd,h1,bm t (Pw _ (Qb _ (by simp))),hte,hT,hdT,h3⟩ hst hen main
abbrev bmV:List Px:=[.type "ValueError",.type "Exception",.type "BaseException",.type "object"]
structure OwnExc (K:Pv)(C:ZE)(bm:List Px):Prop where
 at_:∀h:ZH,K.In h->∃nm q N bs hdct sn sub ab col dd k0 k1 k2 k3 k5 mN,h.get? C=ZA (Re nm q C N bs bm hdct sn sub ab col dd k0 k1 k2 k3 k5 "ValueError.__new__")/\h.Ns N mN/\mN "__init__" =ZB/\OwnTail h bmV bm
def OwnExc.base(O:OwnExc K C bm)(k:K.In h):bm.contains (.type "BaseException")=ZC:=by
 obtain⟨_,_,_,_,_,_,_,_,_,_,_,_,_,_,_,_,_,_,_,T⟩:=O.at_ h k;exact T.hasType (by decide)
def vJ(c:Str)(_:En):Rs Fl:=.err c
variable{c:Str}
def Cr{msg:Str}{np p1:Pos}(O:OwnExc X.K C bm)(hc:X.calm=ZC)(hm:X.mg c=ZA (.ref C))(hg:autoParam (Gl X c) u_)(hd:autoParam ((c == ("__debug__" : Str))=ZD) s_):
  mh X (.Raise (ZA (.Call (.Name c np) [.Constant (.str msg) j p1] [] cpos)) ZB pos) (vJ c):=by
 intro kt s σ H D I ⟨Z,B,M,E,k⟩
 have k:XA X M.u H c:=k;obtain⟨nm,q,N,bs,hdct,sn,sub,ab,col,dd,k0,k1,k2,k3,k5,mN,hC,hN,hni,T⟩:=O.at_ s.heap I.kIn;refine wpAny_Raise_call_subU (C:=C) (mN:=mN) (nm:=nm) (q:=q) (N:=N) (bs:=bs) (hdct:=hdct) (sn:=sn) (sub:=sub) (ab:=ab) (col:=col) (dd:=dd) (k0:=k0) (k1:=k1) (k2:=k2) (k3:=k3) (k5:=k5) UB (Bn:="ValueError") (by decide) UB (O.base I.kIn) (I.ok.hd hc) (by rfl) hni (gH I hg hm ⟨rfl,?_⟩ hd)
 show ZJ _ _ (evalArgs (.ref C) ZC ((ZD,eval (.Constant (.str msg) j p1) X.env)::backTo cpos (PR [] X.env)) []) _ _ s
 refine Sg (SD (Wa (SO ?_)))
 refine⟨rfl,by show 1<=ZI;decide,hC,hN,T,λh' e hm'=>k kt _ _ ?_⟩
 obtain⟨t,ht,ht2,ht3⟩:=hm'.there
 have I':Inv X kt σ H {s with heap:=h',toks:=s.toks+1}:=I.kept (t':=s.toks+1) λb o z=>hm'.keeps b o z
 refine⟨e,ZB,C,σ,H,rfl,hm,I',λb o z _=>z,?_,?_,⟨_,_,ht,rfl,rfl,rfl⟩,(λt z=>by cases z),λp hp=>⟨λz=>?_,λz=>by cases z⟩⟩
 ·exact jz I hm'.new
 ·exact λhex=>fm I hex hm'.new
 ·have:=(I.pin p hp).1
  rw[z,show s.heap.get? e=ZB from hm'.new]at this
  cases this
variable{f:ZE}{mg:WF}{qual:Str}
section
variable {base:ZH}
def Ld(Fn:L2.Fun K x qual st f fd)(S:bo N ps (ao st))(hn:ps.length=n)
  (hbody:∀(cdv:Px)(A:Qq)(outer:List Env)(s:Pz)(H:Hp)(E:XK),Room k (A.deeper (envOfC qual (ao st) s.heap.objs.size f cdv)) →
   ∃F,(∀xe,mf ((gu CX0 P w K mg base N qual (ao st) f cdv A outer s H E).FB xe) (bJ st) F)/\∀ts,ts.length=n->∀c,g ts=.err c->F (aT N.length ts)=.err c):FnX P w K mg base (k+1) f fd ps n g:=by
 intro A outer s H args us vs O ts c R hr e0 hb r rs trk hl hg hR
 have hpl:ps.length<=N.length:=by have:=congrArg Sa S.pre;rw[Ri]at this;omega
 obtain⟨oc,od,kV,doc,pm,an,cdv,ct,osl,rfl,lk,hcd⟩:=Fn.ex
 have hlen:vs.length=ps.length:=by rw[<-rs.length,hl,hn]
 have KX:K.In s.heap:=e0.mod.kin.keeps λb o e=>(e0.bs b o e).1
 have lim:s.heap.NoLimit:=e0.mod.nolimit.keeps λb o e=>(e0.bs b o e).1
 have hkind:∀y∈ps.zip us,(ao st).names.lookup y.1=ZA .local\/((ao st).names.lookup y.1=ZA .cell/\((Sr (s.heap.objs.size+1) (ao st).names []).lookup y.1).isSome=ZC):=λ⟨n,v⟩ hy=>by
  rcases S.par n (SI hy).1 with q|q
  ·exact .inl q
  ·exact .inr ⟨q,SA _ _ _ (.inl q)⟩
 refine TY hr.depth (KX _ _ lk) rfl S.co S.gen rfl (UI KX hcd) (hb _ _ _ _ ?_)
 refine S0 S.kind hkind λenv he s1 x=>?_
 subst he;refine⟨lim.keeps x.toInCall.keep,Xb ?_⟩
 obtain⟨F,hF,hv⟩:=hbody cdv A outer s H E0 (hr.deeper _)
 let xe:WP:=λev s'=>ZJ (ZK P w) (A.deeper (envOfC qual (ao st) s.heap.objs.size f cdv)) (leaving (envOfC qual (ao st) s.heap.objs.size f cdv) ev) (λ_ s''=>R (.error ev) s'') (λe' s''=>R (.error e') s'') s'
 have I:Inv ((gu CX0 P w K mg base N qual (ao st) f cdv A outer s H E0).FB xe) [] (start N vs) H s1:=(mV S hr.hd e0 hlen r x).FB _
 have no:∀a,¬noM.u a:=λa ⟨_,z⟩=>z
 refine Rm (hF xe [] s1 (start N vs) H {nx:=λ_ _=>False,rt:=λ_ _=>False,bk:=λ_ _=>False,ct:=λ_ _=>False} I ⟨aT N.length ts,O,noM,rJ rs (by omega) trk,?_⟩) (λfl s' z=>?_) λe s' hs=>hs
 rotate_left
 ·cases fl with
  |next=>obtain⟨_,_,_,z⟩:=z;exact z.elim
  |cont=>obtain⟨_,_,_,z⟩:=z;exact z.elim
  |brk=>obtain⟨_,_,_,z⟩:=z;exact z.elim
  |ret v=>obtain⟨_,_,_,_,_,z⟩:=z;exact z.elim
 rw[hv ts hl c hg];intro kt ev s' w'
 show ZJ _ _ _ _ _ _
 obtain⟨e,T,C,σ',H',rfl,hm,I',sm,he,heo,fl,hT,_⟩:=w'
 have heo:=heo rfl
 have hT:∀t,T=ZA t->H' t=ZB/\s.heap.get? t=ZB:=λt z=>⟨(hT t z).1,(hT t z).2 rfl⟩
 refine Du (base:=base) (outer:=outer) (L:=s.heap.objs.size) I'.ok.frames I'.stack rfl fl λh' T' g=>hR _ _ ?_
 have hex:((gu CX0 P w K mg base N qual (ao st) f cdv A outer s H E0).FB xe).ex=[]:=rfl
 have Tn:H' T'=ZB/\s.heap.get? T'=ZB:=by
  rcases g.new with z|z
  ·exact hT T' z
  ·exact⟨jz I' z,fm I' hex z⟩
 have out:∀b o,s.heap.get? b=ZA o->b≠s.heap.objs.size:=λb o q z=>by
  have:=PU q;rw[z]at this;exact absurd this (Qm _)
 have mem:∀b,b∈oG ((envOfC qual (ao st) s.heap.objs.size f cdv)::outer)->b=s.heap.objs.size\/b∈oG outer:=λb z=>by
  have z':b∈s.heap.objs.size::oG outer:=z;exact PJ.mp z'
 have ne:∀b o,s.heap.get? b=ZA o->b≠e/\T≠ZA b:=λb o q=>⟨λz=>(by subst z;rw[show s.heap.get? b=ZB from heo]at q;cases q),λz=>(by rw[show s.heap.get? b=ZB from(hT b z).2]at q;cases q)⟩
 have keepH:∀b u,H' b≠ZB->s'.heap.get? b=ZA u->h'.get? b=ZA u:=λb u hb q=>by
  refine g.keep b u (λz=>hb (I'.Ov b z)) (λz=>hb (by rw[z];exact he)) (λz=>hb (hT b z).1) q
 refine⟨e,T',C,H',rfl,hm,I'.os,I'.bare,⟨λb o q n hb hx=>?_,λb o q n hb hx=>?_,λb o q n hx=>I'.base.free b o q n hx,λb o q hx=>?_,I'.base.tups,I'.base.frzs,I'.base.tbls⟩,λa o q=>?_,λb o q=>sm b o q (no b),he,heo,g.flt,Tn.1,Tn.2⟩
 ·exact g.keep b o (λz=>(mem b z).elim (out b o q) hb) (ne b o q).1 (ne b o q).2 (I'.base.keep b o q n hb hx)
 ·obtain⟨sl,q1⟩:=I'.base.slot b o q n hb hx
  obtain⟨sl',q2⟩:=g.slot b _ (Pw _ hb) q1;exact⟨sl',q2⟩
 ·obtain⟨o',q1⟩:=I'.base.there b o q hx
  by_cases z:b∈oG ((envOfC qual (ao st) s.heap.objs.size f cdv)::outer)
  ·obtain⟨sl,q2⟩:=g.slot b o' z q1
   exact⟨_,q2⟩
  ·exact⟨o',g.keep b o' z (ne b o q).1 (ne b o q).2 q1⟩
 ·refine(I'.hok a o q).OA (λb u hb z=>keepH b u ?_ z) (λ_ z=>z) λ_ _ z=>z
  rcases hb with rfl|hb
  ·rw[q];simp
  ·rw[hb];simp
end
def FF{m:Nat}{F:Y1}(h:val n m F ts=.err c):F (aT m ts)=.err c:=by
 unfold val at h
 split at h
 ·unfold bK at h
  cases z:F (aT m ts)with
  |bad=>rw[z]at h;cases h
  |err c'=>rw[z]at h;cases h;rfl
  |ok f=>
   rw[z,ax]at h;cases f <;> cases h
 ·cases h
section
variable {base:ZH}
def Lf{F:Y1}(Fn:L2.Fun K x qual st f fd)(S:bo N ps (ao st))(hn:ps.length=n)
  (hbody:∀(cdv:Px)(A:Qq)(outer:List Env)(s:Pz)(H:Hp)(E:XK),Room k (A.deeper (envOfC qual (ao st) s.heap.objs.size f cdv)) →
   ∀xe,mf ((gu CX0 P w K mg base N qual (ao st) f cdv A outer s H E).FB xe) (bJ st) F):Fp P w K mg base (k+1) f fd ps n (val n N.length F):=
 ⟨NN Fn S hn λcdv A outer s H E hr=>⟨F,hbody cdv A outer s H E hr _,λts _ _ h=>IZ h⟩,Ld Fn S hn λcdv A outer s H E hr=>⟨F,hbody cdv A outer s H E hr,λts _ c h=>FF h⟩⟩
end
variable{kt:Uf}
section
variable {vs:List V}{Q:VK}
def Ms(F:Fp X.prog X.w X.K X.mg X.base k f fd ps n g)(hr:Room k X.A)(hb:Binds X.K fd ps [])(hps:ps.length=n)(I:Inv X kt σ H s)(r:Vals vs us)(rs:Reps X.K O H ts vs)(mt:∀a,O a->Mtb H a)(hl:ts.length=n)
  (hq:Post X H (g ts) λt H'=>∀v,Rep X.K O H' t v->Q v H'):ZJ (ZK X.prog X.w) X.A (call (.ref f) us) (EP X kt σ Q) X.xe s:=by
 cases q2:g ts with
 |bad=>rw[q2]at hq;exact hq.elim
 |ok t=>
  rw[q2]at hq;refine xX (E:=E0) (dvs:=[]) (ds:=[]) F.h hr hb .nil zH I r ⟨ts,O,by simpa using rs,mt,hl,?_⟩
  rw[q2]
  exact λv H' s2 rr=>hq H' s2 v rr
 |err c=>
  rw[q2]at hq
  have hlen:us.length=ps.length:=by rw[<-r.length,<-rs.length,hl,hps]
  have hb':=hb s us I.kIn (by rw[Ql];exact hlen)
  rw[Ql]at hb';refine U0 (SN (F.x X.A X.stack s H ⟨us,[]⟩ us vs O ts c (λr s'=>match r with|.error ev=>X.xe ev s'|_=>False) hr I.OQ hb' r rs mt hl q2 λev s' w=>?_) λr s' hq=>?_)
  ·obtain⟨ea,T,C,H',rfl,hmc,ho,hbare,hun,hok,sm2,hea,heo,fl,hT,hTo⟩:=w
   have I2:Inv X kt σ H' s':=I.OJ ho hun hok hbare (λb z=>absurd z (by simp))
   exact hq kt _ _ ⟨ea,ZA T,C,σ,H',rfl,hmc,I2,λb o q _=>sm2 b o q,hea,λhex=>fm I hex heo,fl,(λt zt=>by cases zt;exact⟨hT,λhex=>fm I hex hTo⟩),λpp hpp=>⟨λzz=>(by have:=(I.pin pp hpp).1;rw[zz,heo]at this;cases this),λzz=>(by cases zz;have:=(I.pin pp hpp).1;rw[hTo]at this;cases this)⟩⟩
  ·cases r with
   |error ev=>exact hq
   |ok fl=>exact hq.elim
end
section
variable {a:ZG}{p:Pos}
def MD:mh X (.Continue pos) HY:=PS.imp vO λD σ H ⟨Z,B,M,E,h⟩=>h σ H M (λ_ _ e _=>e) E λa z=>.inl z
def JG(i:Nat){pos':Pos}(hN:X.N.Nodup)(ha:cg X a fa)(hi:autoParam (X.N[i]?=ZA x) u_)(hx:autoParam (Loc X.env.scope x) y_)(hf:autoParam (X.fn x=ZC\/X.env.scope.names.lookup x=ZA .local) r_):
  mh X (.AugAssign (.Name x pos') .Add a pos) (Cn i fa):=PS.imp (JW hN hi hx ha K8 hf) λD σ H hh_=>by
 obtain⟨Z,B,M,E,h⟩:=hh_;unfold Cn at h
 split at h
 ·rename_i n e
  obtain⟨v,e1,r⟩:=E.env.val i _ e;cases Rep.AC.mp r
  have hl:i<Z.length:=(PM.mp e).1
  refine⟨.int n,e1,Z,OO B M,E.o,?_⟩
  cases q:fa Z with
  |bad=>rw[q]at h;exact h.elim
  |err c=>rw[q]at h;exact PostF.xa h
  |ok t=>
   rw[q,ax]at h
   cases t with
   |int m=>
    intro H1 s1 v rv;cases Rep.AC.mp rv
    exact⟨n,m,rfl,rfl,h _ _ M (SameO.of s1) ⟨(E.env.same s1).set hl (Rep.GT _),E.mine⟩ λa z=>.inl z⟩
   |_=>exact h.elim
 ·exact h.elim
end
inductive OTail (h:ZH):List Px->Prop
 |base:OTail h bmV
 |own {A:ZE} {c0:Px} {dd:Option ZE} {cd:ClassData} {sl:Array (Option Px)} {mA:WF} {tl:List Px} :
   h.get? A=ZA {cls:=c0,dict:=dd,data:=.cls cd,slots:=sl}->h.Ns cd.ns mA->(∀n∈calmNames,mA n=ZB)->OTail h tl->OTail h (.ref A::tl)
def OTail.tail(T:OTail h tl):OwnTail h bmV tl:=by
 induction T with
 |base=>exact .base
 |own hA hN hq _ ih=>exact .own hA hN (hq _ (.head _)) ih
variable{N:ZE}{dd:Option ZE}{g:Array Wm}{k0 y:Option Px}{nm q:Str}{sn:List Str}{vs:Array Px}
section
variable {t:Nat}
variable{n:Str}
def HH(hn:n∈calmNames)(T:OTail h tl)(hrest:XT bmV n=pure y)(hq:Q y ⟨h,g,d,t,os⟩):
  ZJ M A (XT tl n) Q E ⟨h,g,d,t,os⟩:=by
 induction T with
 |base=>rw[hrest];exact PX hq
 |own hA hN hni _ ih=>
  rw[Xr];refine PD (wpAny_classOwn_cls hA hN ?_)
  rw[hni n hn];exact ih
def Nc:mroOf (.type "ValueError")=pure bmV:=by rw[mroOf_type];kernel_rfl
variable {bs:List Px}{sub:List Px}{mN:WF}
def yu(hn:n∈calmNames)(hC:h.get? C=ZA (Re nm q C N bs bm hdct sn sub ab col dd k0 k1 k2 k3 k5 newId))(hN:h.Ns N mN)(hmN:∀n∈calmNames,mN n=ZB)(T:OTail h bm)
  (hB:TC (.type "ValueError") n=pure y) (hq:Q y ⟨h,g,d,t,os⟩):ZJ M A (TC (.ref C) n) Q E ⟨h,g,d,t,os⟩:=by
 have hrest:XT bmV n=pure y:=by rw[typeLookup_eq,Nc]at hB;exact hB
 rw[typeLookup_eq];refine PD (wpAny_mroOf_exc hC ?_)
 rw[Xr];refine PD (wpAny_classOwn_exc hC hN ?_)
 rw[hmN n hn];exact HH hn T hrest hq
def Dp:TC (.type "ValueError") "__class__" =pure (ZA (.builtin "object.__class__")):=by rw[Tv,R6];kernel_rfl
def yx:TC (.type "ValueError") "__getattr__" =pure ZB:=by rw[Tv,R6];kernel_rfl
def ga_V:Slot "ValueError" "__getattribute__" "BaseException.__getattribute__":=.of (owner:="BaseException") (n:="__getattribute__") (by rw[Tv,R6];kernel_rfl) (by decide+kernel) (by decide+kernel) (by decide+kernel) (by first|exact .inl (by decide+kernel)|exact .inr (by decide+kernel)) (by rw[isSubtype_type];kernel_rfl)
variable {o:Obj}
def HB(hC:h.get? C=ZA (Re nm q C N bs bm hdct sn sub ab col dd k0 k1 k2 k3 k5 newId))(T:OTail h bm)
  (hx:h.get? a=ZA o) (hc:o.cls=.ref C) (hq:R (.ok (.ret (.ref C))) ⟨h,g,d,t,os⟩):
  ZL (ZK prog w) A (.call (.builtin "getset_descriptor.__get__") ⟨[.builtin "object.__class__",.ref a,.ref C],[]⟩) R ⟨h,g,d,t,os⟩:=by
 have hT5:(⟨h,g,d,t,os⟩:Pz).TypeIs (.builtin "object.__class__") "getset_descriptor":=TR
 have hcB:(P7 C::bm).contains (.type (".".intercalate ("object.__class__".cutAt '.').dropLast))=ZC:=by
  rw[F.owner_object_class,QZ,T.tail.hasType (b:=ZC) (by decide)];rfl
 refine Ue Wg.plain F.entry_gs_get (Wg.check _ _ _ _ _ _ _ _ hT5 (F.args_gs_get _ _ _) ?_)
 repeat (any_goals (first|assumption| (with_reducible refine QH hx ?_;rw[hc])| (with_reducible refine RV hC ?_;rw[hcB])|wp_step))
 refine⟨Code.quiet_builtin _ (by decide+kernel),VF F.entry_object_class ?_⟩
 repeat (any_goals (first|assumption| (with_reducible refine QH hx ?_;rw[hc])|wp_step))
def DY{nameV:Px}{Q:Unit->Pz->Prop}(hC:h.get? C=ZA (Re nm q C N bs bm hdct sn sub ab col dd k0 k1 k2 k3 k5 newId))(T:OTail h bm)
  (hx:h.get? a=ZA o) (hc:o.cls=.ref C) (hq:Q () ⟨h,g,d,t,os⟩):ZJ M A (Xu "BaseException.__getattribute__" ⟨[.ref a,nameV],[]⟩) Q E ⟨h,g,d,t,os⟩:=by
 have hk:builtinKind "BaseException.__getattribute__" =ZA .slot:=by decide+kernel
 have hsplit:splitId "BaseException.__getattribute__" =ZA ("BaseException","__getattribute__"):=by decide+kernel
 have hcB:(P7 C::bm).contains (.type "BaseException")=ZC:=by rw[QZ,T.tail.hasType (b:=ZC) (by decide)];rfl
 have ha:=F.args_bexc_ga (.ref a) nameV;simp only[Xu,hk,hsplit];refine PD ?_
 ·unfold isInstance
  repeat (first| (with_reducible refine QH hx ?_;rw[hc])| (with_reducible refine RV hC ?_;rw[hcB])|wp_step)
  exact hq
def Bz{tk:Tok}{Q:Fin->Pz->Prop}(hC:h.get? C=ZA (Re nm q C N bs bm hdct sn sub ab col dd k0 k1 k2 k3 k5 newId))(hN:h.Ns N mN)
  (hmN:∀n∈calmNames,mN n=ZB) (T:OTail h bm) (hx:h.get? a=ZA o) (hc:o.cls=.ref C) (hd:o.data=.fields vs) (hq:Q (.done (.ret (.ref C))) ⟨h,g,d,t,os⟩):
  ZJ (ZK prog w) A (Builtin.«object.__getattribute__» ⟨[.ref a,.str "__class__" tk],[]⟩) Q E ⟨h,g,d,t,os⟩:=by
 have hT5:(⟨h,g,d,t,os⟩:Pz).TypeIs (.builtin "object.__class__") "getset_descriptor":=TR
 have f5:=TR
 have f6:=Wg.lookup
 have f7:=F.slot_gs_set.lookup
 have hmA:("__class__" : Str)∈calmNames:=.tail _ (.tail _ (.tail _ (.head _)))
 repeat (any_goals (first|assumption| (with_reducible refine QH hx ?_;rw[hc])|with_reducible refine yu hmA hC hN hmN T Dp ?_|wp_step))
 refine HB hC T hx hc ?_
 repeat (any_goals (first|assumption|wp_step))
def EE{tk:Tok}(hC:h.get? C=ZA (Re nm q C N bs bm hdct sn sub ab col dd k0 k1 k2 k3 k5 newId))(hN:h.Ns N mN)
  (hmN:∀n∈calmNames,mN n=ZB) (T:OTail h bm) (hx:h.get? a=ZA o) (hc:o.cls=.ref C) (hd:o.data=.fields vs) (hq:R (.ok (.ret (.ref C))) ⟨h,g,d,t,os⟩):
  ZL (ZK prog w) A (.call (.builtin "BaseException.__getattribute__") ⟨[.ref a,.str "__class__" tk],[]⟩) R ⟨h,g,d,t,os⟩:=
 Ue ga_V.plain F.entry_bexc_ga (DY hC T hx hc (Bz hC hN hmN T hx hc hd hq))
def LF{tk:Tok}{fill:Bool}{Q:WP}(hC:h.get? C=ZA (Re nm q C N bs bm hdct sn sub ab col dd k0 k1 k2 k3 k5 newId))(hN:h.Ns N mN)
  (hmN:∀n∈calmNames,mN n=ZB) (T:OTail h bm) (hx:h.get? a=ZA o) (hc:o.cls=.ref C) (hd:o.data=.fields vs) (hq:Q (.ref C) ⟨h,g,d,t,os⟩):
  ZJ (ZK prog w) A (getAttrBy (.ref a) (.str "__class__" tk) fill expr) Q E ⟨h,g,d,t,os⟩:=by
 have f3:=ga_V.bind (.ref a)
 have hx0:(expr&&onTheHeap (SQ "BaseException.__getattribute__"))=ZD:=by cases expr <;> rfl
 have hx2:(SQ "BaseException.__getattribute__" == SQ "object.__getattribute__")=ZD:=by decide+kernel
 have hx1:(onTheHeap (P7 C)&&SQ "BaseException.__getattribute__" == SQ "object.__getattribute__")=ZD:=by rw[hx2];rfl
 have hm1:("__getattribute__" : Str)∈calmNames:=.tail _ (.head _)
 have hm2:("__getattr__" : Str)∈calmNames:=.tail _ (.tail _ (.head _))
 repeat (any_goals (first|assumption| (with_reducible refine QH hx ?_;rw[hc])|with_reducible refine yu hm1 hC hN hmN T ga_V.lookup ?_|with_reducible refine yu hm2 hC hN hmN T yx ?_|wp_step))
 refine EE hC hN hmN T hx hc hd ?_
 repeat (any_goals (first|assumption|wp_step))
def EF(hC:h.get? C=ZA (Re nm q C N bs bm hdct sn sub ab col dd k0 k1 k2 k3 k5 newId))(hN:h.Ns N mN)
  (hmN:∀n∈calmNames,mN n=ZB) (T:OTail h bm) (hx:h.get? a=ZA o) (hc:o.cls=.ref C) (hd:o.data=.fields vs) (hq:Q (ZA (.ref C)) ⟨h,g,d,t+1,os⟩):
  ZJ (ZK prog w) A (getAttr? (.ref a) "__class__") Q E ⟨h,g,d,t,os⟩:=by
 unfold getAttr? getAttrBy?
 repeat (any_goals (first|assumption|with_reducible apply LF hC hN hmN T hx hc hd|wp_step))
end
variable{D:ZE}{Q:Fin->Pz->Prop}
section
variable {t:Nat}
variable {bs:List Px}{sub:List Px}{mN:WF}
variable {o:Obj}
def A7{dep:Int}{tk:Tok}(hx:h.get? a=ZA o)(hc:o.cls=.ref C)(hq:Q (.done (.ret (.bool ZC))) ⟨h,g,d,t,os⟩):
  ZJ (ZK prog w) A (Builtin.«isinstance.nested» ⟨[.ref a,.ref C,.int dep tk],[]⟩) Q E ⟨h,g,d,t,os⟩:=by
 have e:(P7 C == P7 C)=ZC:=by simp
 repeat (any_goals (first|assumption| (with_reducible refine QH hx ?_;rw[hc])|wp_step))
def Kt{dep:Int}{tk:Tok}(hC:h.get? C=ZA (Re nm q C N bs bm hdct sn sub ab col dd k0 k1 k2 k3 k5 newId))(T:OTail h bm)(hx:h.get? a=ZA o)(hc:o.cls=.ref C)
  (hq:Q (.done (.ret (.bool ZC))) ⟨h,g,d,t,os⟩):ZJ (ZK prog w) A (Builtin.«isinstance.nested» ⟨[.ref a,.type "ValueError",.int dep tk],[]⟩) Q E ⟨h,g,d,t,os⟩:=by
 have e:(P7 C == Si "ValueError")=ZD:=rfl
 have hty:typeOf (.type "ValueError")=pure (.type "type"):=by kernel_rfl
 have hcB:(P7 C::bm).contains (.type "ValueError")=ZC:=by rw[QZ,T.tail.hasType (b:=ZC) (by decide)];rfl
 repeat (any_goals (first|assumption| (with_reducible refine QH hx ?_;rw[hc])| (with_reducible refine RV hC ?_;rw[hcB])|wp_step))
def Dg{oD:Obj}{cD:ClassData}{dep:Int}{tk:Tok}(hC:h.get? C=ZA (Re nm q C N bs bm hdct sn sub ab col dd k0 k1 k2 k3 k5 newId))(hN:h.Ns N mN)(hmN:∀n∈calmNames,mN n=ZB)(T:OTail h bm)
  (hx:h.get? a=ZA o) (hc:o.cls=.ref C) (hd:o.data=.fields vs) (hD:h.get? D=ZA oD) (hDt:oD.cls=.type "type") (hDd:oD.data=.cls cD) (hne:(P7 C == P7 D)=ZD) (hnb:(P7 C::bm).contains (.ref D)=ZD)
  (hq:Q (.done (.ret (.bool ZD))) ⟨h,g,d,t+1,os⟩):ZJ (ZK prog w) A (Builtin.«isinstance.nested» ⟨[.ref a,.ref D,.int dep tk],[]⟩) Q E ⟨h,g,d,t,os⟩:=by
 repeat (any_goals (first|assumption| (with_reducible refine QH hx ?_;rw[hc])| (with_reducible refine QH hD ?_;rw[hDt])| (with_reducible refine QH hD ?_;rw[hDd])| (with_reducible refine QH hC ?_)| (with_reducible refine RV hC ?_;rw[hnb])|with_reducible refine EF hC hN hmN T hx hc hd ?_|wp_step))
end
structure OX (K:Pv)(C:ZE)(bm:List Px):Prop where
 at_:∀h:ZH,K.In h->∃nm q N bs hdct sn sub ab col dd k0 k1 k2 k3 k5 mN,h.get? C=ZA (Re nm q C N bs bm hdct sn sub ab col dd k0 k1 k2 k3 k5 "ValueError.__new__")/\h.Ns N mN/\(∀n∈calmNames,mN n=ZB)/\OTail h bm
def OX.own(O:OX K C bm):OwnExc K C bm:=⟨λh k=>by
 obtain⟨nm,q,N,bs,hdct,sn,sub,ab,col,dd,k0,k1,k2,k3,k5,mN,h1,h2,h3,h4⟩:=O.at_ h k;exact⟨nm,q,N,bs,hdct,sn,sub,ab,col,dd,k0,k1,k2,k3,k5,mN,h1,h2,h3 _ (.head _),h4.tail⟩⟩
variable{Q:VK}{oe:Obj}
section
variable {ev:Array Px}{bmD:List Px}
def DP(hp:(e,oe)∈X.pn)(hc:oe.cls=.ref C)(hd:oe.data=.fields ev)(OC:OX X.K C bm)(OD:OX X.K D bmD)(b:Bool)(hb:(decide (C=D))=b)(hnb:C≠D->bm.contains (.ref D)=ZD)
  (I:Inv X kt σ H s) (q:Q (.bl b) H):ZJ (ZK X.prog X.w) X.A (call (.builtin "isinstance") [.ref e,.ref D]) (EP X kt σ Q) X.xe s:=by
 have hx:s.heap.get? e=ZA oe:=(I.pin (e,oe) (Qb _ hp)).1;obtain⟨nm,qq,N,bs,hdct,sn,sub,ab,col,dd,k0,k1,k2,k3,k5,mN,hC,hN,hmN,T⟩:=OC.at_ s.heap I.kIn;obtain⟨nm',qq',N',bs',hdct',sn',sub',ab',col',dd',k0',k1',k2',k3',k5',mN',hD,_⟩:=OD.at_ s.heap I.kIn;obtain⟨h,g,d,t,os⟩:=s;refine Wx ?_ (by intro z;cases z)
 by_cases z:C=D
 ·subst z
  have:b=ZC:=by rw[<-hb];simp
  subst this;exact A7 hx hc ⟨.bl ZC,H,I,rfl,q⟩
 ·have:b=ZD:=by rw[<-hb];simp[z]
  subst this;refine Dg hC hN hmN T hx hc hd hD rfl rfl ?_ ?_ ⟨.bl ZD,H,I.tok _,rfl,q⟩
  ·rw[beq_eq_false_iff_ne];exact λy=>z (V9 y)
  ·rw[QZ,hnb z,Wc,beq_eq_false_iff_ne]
   exact λy=>z (V9 y).symm
def DQ(hp:(e,oe)∈X.pn)(hc:oe.cls=.ref C)(OC:OX X.K C bm)
  (I:Inv X kt σ H s) (q:Q (.bl ZC) H):ZJ (ZK X.prog X.w) X.A (call (.builtin "isinstance") [.ref e,.type "ValueError"]) (EP X kt σ Q) X.xe s:=by
 have hx:s.heap.get? e=ZA oe:=(I.pin (e,oe) (Qb _ hp)).1;obtain⟨nm,qq,N,bs,hdct,sn,sub,ab,col,dd,k0,k1,k2,k3,k5,mN,hC,hN,hmN,T⟩:=OC.at_ s.heap I.kIn;obtain⟨h,g,d,t,os⟩:=s;refine Wx ?_ (by intro z;cases z)
 exact Kt hC T hx hc ⟨.bl ZC,H,I,rfl,q⟩
end
def Ik{base:ZH}{L:ZE}{T:Option ZE}{Q:Unit->Pz->Prop}(hfr:A.frames=ZA (env::outer))(hl:s.heap.FunFrames base (env::outer))(hf:env.frame=ZA L)
  (F:LW s.heap C e T) (h:∀h' T',E5 ((env::outer).filterMap (·.frame)) C e T s.heap h' T'->Q () {s with heap:=h'}):
  ZJ M A (XS (.ref e) env) (λ_ s'=>ZJ M A (setFlight (.ref e) ZB) Q E s') E s:=by
 generalize hB:Vk s.heap (e::(T.toList++(env::outer).filterMap (·.frame)))=B
 have bm:∀b,b∈e::(T.toList++(env::outer).filterMap (·.frame))->B.get? b=ZB:=λb m=>by rw[<-hB];exact T9 _ m
 have hl':s.heap.FunFrames B (env::outer):=gS hl λa ha=>bm a (Pw _ (Qd _ ha))
 have hst:B.StaysIn s.heap:=λb o q=>by rw[<-hB]at q;exact UH _ q
 have hen:B.get? e=ZB:=bm e PB
 have main:∀h',Heap.Left B (env::outer) e (.ref C) s.heap h'->Q () {s with heap:=h'}:=λh' ⟨x1,x2,⟨oe,vs,T',oT,ts,he,hc,hd,h1,hnT,hTe,hT,hdT,h3⟩,x4⟩=>by
  refine h h' T' ⟨⟨hTe,oe,vs,he,hc,hd,h1,oT,ts,hT,hdT,h3⟩,?_,λb o n1 n2 n3 q=>?_,λb o m q=>?_⟩
  ·cases q:s.heap.get? T' with
   |none=>exact .inr rfl
   |some o=>
    left
    by_cases z:T'∈e::(T.toList++(env::outer).filterMap (·.frame))
    ·rcases PJ.mp z with z|z
     ·exact absurd z hTe
     ·rcases PZ.mp z with z|z
      ·cases T with
       |none=>simp at z
       |some t=>simp at z;rw[z]
      ·obtain⟨_,o',ho',hnf⟩:=x2.mem z
       rw[hT]at ho';cases ho';exact absurd hdT (hnf ts)
    ·rw[<-hB,Su _ q z]at hnT;cases hnT
  ·refine x1 b o ?_
   rw[<-hB];refine Su _ q λz=>?_
   rcases PJ.mp z with z|z
   ·exact n2 z
   ·rcases PZ.mp z with z|z
    ·cases T with
     |none=>simp at z
     |some t=>simp at z;exact n3 (by rw[z])
    ·exact n1 z
  ·obtain⟨_,o',ho',hnf⟩:=hl.mem m
   rw[q]at ho';cases ho';exact x4 b o q hnf
 cases T with
 |none=>
  obtain⟨oe,vs,he,hc,hd,h1⟩:=F;unfold XS;simp only[hf];refine PD (Sd he hd h1 ?_)
  rw[if_neg (by decide)]
  refine wpAny_newEntry hfr hl' hf he hst hen hd (Q3.mp h1).1 λh' x=>main h' ?_
  rw[hc]at x;exact x
 |some t=>
  obtain⟨hte,oe,vs,he,hc,hd,h1,oT,ts,hT,hdT,h3⟩:=F
  have hnT:B.get? t=ZB:=bm t (Pw _ (Qb _ (by simp)))
  unfold XS;simp only[hf];refine PD (Sd he hd h1 ?_)
  rw[if_pos (show(P7 t != Qx)=ZC from by simp)]
  refine PD (Sd hT hdT h3 ?_)
  rw[if_neg (show ¬((Qx == rawInt L)=ZC)from by simp[rawInt])]
  refine PD (VW hT hdT (Q3.mp h3).1 ?_)
  have other:∀b,b≠t->(s.heap.update t (Ui (·.setIfInBounds 3 Qx))).get? b=s.heap.get? b:=λb hb=>SB _ _ (Sv hb)
  have noRec:∀b o,s.heap.get? b=ZA o->(∀vs,o.data≠ .fields vs)->b≠t:=λb o hb hnf q=>by
   rw[q,hT]at hb;injection hb with hb;subst hb;exact hnf ts hdT
  refine wpAny_newEntry hfr (hl'.of_keeps λb o hb hnf=>⟨o,(other b (noRec b o hb hnf)).trans hb,rfl⟩) hf ((other e (Sv hte)).trans he)
   (λb o hbo=>(other b λq=>by rw[q,hnT]at hbo;cases hbo).trans (hst b o hbo)) hen hd (Q3.mp h1).1
   λh' x=>main h' ?_
  obtain⟨x1,x2,x3,x4⟩:=x;rw[hc]at x3;exact⟨x1,x2,x3,λb o hb hnf=>x4 b o ((other b (noRec b o hb hnf)).trans hb) hnf⟩
variable{h':ZH}
def Inv.gone{T':ZE}{T:Option ZE}(I:Inv X kt σ H s)(hst:X.stack=X.env::X.outer)(hfe:X.env.frame=ZA X.env.locals)(hcl:∀x c,X.env.cells.lookup x≠ZA c)(hex:X.ex=[])
  (g:E5 ((X.env::X.outer).filterMap (·.frame)) C e T s.heap h' T') (he:H e=ZB) (heo:X.s₀.heap.get? e=ZB) (hT:∀t,T=ZA t->H t=ZB/\X.s₀.heap.get? t=ZB) (hp:∀p∈X.pn++kt,p.1≠e/\T≠ZA p.1):
  Inv X kt σ H {s with heap:=h'}:=by
 have mem:∀b,b∈(X.env::X.outer).filterMap (·.frame)↔b=X.env.locals\/b∈X.fs:=λb=>by
  rw[Q8,hfe];exact PJ
 have out:∀b o,X.s₀.heap.get? b=ZA o->b≠X.env.locals:=λb o q z=>by
  have h1:=PU q
  have h2:=I.ok.above;rw[z]at h1;exact absurd (PQ h1 h2) (Qm _)
 have ne:∀b o,X.s₀.heap.get? b=ZA o->b≠e/\T≠ZA b:=λb o q=>⟨λz=>(by subst z;rw[heo]at q;cases q),λz=>(by rw[(hT b z).2]at q;cases q)⟩
 have fr:∀b,b∈(X.env::X.outer).filterMap (·.frame)->H b=ZB:=λb z=>I.Ov b (by rw[hst];exact z)
 have keepH:∀b u,H b≠ZB->s.heap.get? b=ZA u->h'.get? b=ZA u:=λb u hb q=>by
  refine g.keep b u (λz=>hb (fr b z)) (λz=>hb (by rw[z];exact he)) (λz=>hb (hT b z).1) q
 refine⟨I.ok,I.os,I.bare,⟨λb o q n hb hx=>?_,λb o q n hb hx=>?_,I.base.free,λb o q hx=>?_,I.base.tups,I.base.frzs,I.base.tbls⟩,?_,λx c z=>absurd z (hcl x c),I.free,I.freeC,λp hp'=>?_,λa o q=>?_,I.len⟩
 ·exact g.keep b o (λz=>((mem b).mp z).elim (out b o q) hb) (ne b o q).1 (ne b o q).2 (I.base.keep b o q n hb hx)
 ·obtain⟨sl,q1⟩:=I.base.slot b o q n hb hx
  obtain⟨sl',q2⟩:=g.slot b _ ((mem b).mpr (.inr hb)) q1;exact⟨sl',q2⟩
 ·obtain⟨o',q1⟩:=I.base.there b o q hx
  by_cases z:b∈(X.env::X.outer).filterMap (·.frame)
  ·obtain⟨sl,q2⟩:=g.slot b o' z q1
   exact⟨_,q2⟩
  ·exact⟨o',g.keep b o' z (ne b o q).1 (ne b o q).2 q1⟩
 ·obtain⟨m,⟨o,es,ep,ho,hd,r⟩,hl⟩:=I.loc
  obtain⟨sl,q2⟩:=g.slot X.env.locals o ((mem _).mpr (.inl rfl)) ho;refine⟨m,⟨_,es,ep,q2,hd,r⟩,λi x v a1 a2 a3=>?_⟩
  obtain⟨u,ru,lk⟩:=hl i x v a1 a2 a3;refine⟨u,ru,?_⟩
  rcases lk with z|⟨_,c,z,_⟩
  ·exact .inl z
  ·exact absurd z (hcl x c)
 ·obtain⟨b1,b2,b3,b4,b5⟩:=I.pin p hp'
  exact⟨g.keep p.1 p.2 (λz=>((mem _).mp z).elim b3 b4) (hp p hp').1 (hp p hp').2 b1,b2,b3,b4,b5⟩
 ·refine(I.hok a o q).OA (λb u hb z=>keepH b u ?_ z) (λ_ z=>z) λ_ _ z=>z
  rcases hb with rfl|hb
  ·rw[q];simp
  ·rw[hb];simp
variable{dd':Option ZE}{sn':List Str}
section
variable {t:Nat}
variable {bs:List Px}{sub:List Px}
variable {nm' q':Str}{N':ZE}{bm':List Px}{k0' k1' k2' k3' k5':Option Px}{newId':String}
def rX{Q:Bool->Pz->Prop}(hC:h.get? C=ZA (Re nm q C N bs bm hdct sn sub ab col dd k0 k1 k2 k3 k5 newId))(hD:h.get? D=ZA (Re nm' q' D N' bs' bm' hdct' sn' sub' ab' col' dd' k0' k1' k2' k3' k5' newId'))
  (he:h.get? e=ZA oe) (hcls:oe.cls=.ref C) (hb:bm'.contains (.type "BaseException")=ZC) (hin:(P7 C::bm).contains (.ref D)=ZC) (hq:Q ZC ⟨h,g,d,t,os⟩):ZJ M A (excMatches (.ref e) (.ref D)) Q E ⟨h,g,d,t,os⟩:=by
 have hcB:(P7 D::bm').contains (.type "BaseException")=ZC:=by rw[QZ,hb,W5]
 have f:=tc_notTuple;unfold excMatches
 repeat (first| (with_reducible refine QH he ?_;rw[hcls])|with_reducible refine QH hD ?_| (with_reducible refine RV hD ?_;rw[hcB])| (with_reducible refine RV hC ?_;rw[hin])|wp_step)
 exact hq
end
abbrev uQ(X:Cx)(e:ZE)(oe:Obj):Cx:={X with A:=X.A.mark (ZA (.ref e)),calm:=ZD,pn:=(e,oe)::X.pn,xe:=λ_ _=>False}
def oC(I:Inv X kt σ H s)(he:s.heap.get? e=ZA oe)(hH:H e=ZB)(hne:e≠X.env.locals)(hf:e∉X.fs)(hc:∀v,oe.data≠ .cell v):Inv (uQ X e oe) kt σ H s:=by
 have ok:=I.ok;refine⟨⟨ok.mod,ok.kind,ok.glob,ok.blt,ok.above,ok.inj,ok.has,ok.cab,(λz=>by cases z),?_,ok.stk,ok.exf,ok.bs,ok.bsz,ok.noex,ok.exfs,ok.funs,ok.frf⟩,I.os,I.bare,I.base,I.loc,I.cell,I.free,I.freeC,λp hp=>?_,I.hok,I.len⟩
 ·exact ok.frames
 ·rcases PJ.mp (show p∈(e,oe)::(X.pn++kt)from hp)with z|z
  ·subst z;exact⟨he,hH,hne,hf,hc⟩
  ·exact I.pin p z
def z8(ok:X.Ok)(I:Inv (uQ X e oe) kt σ H s):Inv X kt σ H s:=
 ⟨ok,I.os,I.bare,I.base,I.loc,I.cell,I.free,I.freeC,λp hp=>I.pin p (Pw _ hp),I.hok,I.len⟩
def Inv.forget{tk:Nat}{m:WF}(I:Inv X kt σ H s)(hcl:∀x c,X.env.cells.lookup x≠ZA c)(hn:h'.Ns X.env.locals m)(hs:Ta X.env.locals s.heap h'):Inv X kt (Qe X.N.length ZB) H {s with heap:=h',toks:=tk}:=by
 have out:∀b o,X.s₀.heap.get? b=ZA o->b≠X.env.locals:=λb o q z=>by
  have h1:=PU q
  have h2:=I.ok.above;rw[z]at h1;exact absurd (PQ h1 h2) (Qm _)
 have kp:∀b o,b≠X.env.locals->s.heap.get? b=ZA o->h'.get? b=ZA o:=λb o n q=>hs.extBut b o n q
 refine⟨I.ok,I.os,I.bare,⟨λb o q n hb hx=>kp b o (out b o q) (I.base.keep b o q n hb hx),λb o q n hb hx=>?_,I.base.free,λb o q hx=>?_,I.base.tups,I.base.frzs,I.base.tbls⟩,⟨m,hn,λi x v a1 a2 a3=>?_⟩,λx c z=>absurd z (hcl x c),I.free,I.freeC,λp hp=>?_,λa o q=>?_,by simp⟩
 ·obtain⟨sl,q1⟩:=I.base.slot b o q n hb hx
  exact⟨sl,kp b _ (out b o q) q1⟩
 ·obtain⟨o',q1⟩:=I.base.there b o q hx
  exact⟨o',kp b o' (out b o q) q1⟩
 ·rw[QK]at a2
  split at a2 <;> cases a2
 ·obtain⟨b1,b2,b3,b4,b5⟩:=I.pin p hp
  exact⟨kp p.1 p.2 b3 b1,b2,b3,b4,b5⟩
 ·have nl:∀b u,H b=ZA u->b≠X.env.locals:=λb u q z=>by rw[z,I.free]at q;cases q
  refine(I.hok a o q).OA (λb u hb z=>kp b u ?_ z) (λ_ z=>z) λ_ _ z=>z
  rcases hb with rfl|hb
  ·exact nl _ _ q
  ·exact nl _ _ hb
def Inv.OZ(kt:Uf)(I:Inv X kt σ H s):Inv {X with pn:=X.pn++kt} [] σ H s:=
 ⟨⟨I.ok.mod,I.ok.kind,I.ok.glob,I.ok.blt,I.ok.above,I.ok.inj,I.ok.has,I.ok.cab,I.ok.hd,I.ok.frames,I.ok.stk,I.ok.exf,I.ok.bs,I.ok.bsz,I.ok.noex,I.ok.exfs,I.ok.funs,I.ok.frf⟩,I.os,I.bare,I.base,I.loc,I.cell,I.free,I.freeC,λp hp=>I.pin p (by rw[Ql]at hp;exact hp),I.hok,I.len⟩
def Inv.O5{pins1:Uf}{xe:WP}(I:Inv {X with pn:=X.pn++kt,xe:=xe} pins1 σ H s):Inv X kt σ H s:=
 ⟨⟨I.ok.mod,I.ok.kind,I.ok.glob,I.ok.blt,I.ok.above,I.ok.inj,I.ok.has,I.ok.cab,I.ok.hd,I.ok.frames,I.ok.stk,I.ok.exf,I.ok.bs,I.ok.bsz,I.ok.noex,I.ok.exfs,I.ok.funs,I.ok.frf⟩,I.os,I.bare,I.base,I.loc,I.cell,I.free,I.freeC,λp hp=>I.pin p (Qb _ hp),I.hok,I.len⟩
def LK:Qw "ValueError" =ZA (.type "ValueError"):=by decide+kernel
def M9{ob:Px}{oe:Option ZE}{es:Array DictEntry}{oz:Array (Option Px)}(r:K.lookup N=ZA ⟨ob,oe,.dict es n,oz⟩)(s:(es.toList.all λe=>Cd e.key)=ZC)
  (u0:S7 K N "__init__" =ZA ZB) (u1:S7 K N "__getattribute__" =ZA ZB) (u2:S7 K N "__getattr__" =ZA ZB) (u3:S7 K N "__class__" =ZA ZB):
  ∀h:ZH,K.In h->∃mN,h.Ns N mN/\∀n∈calmNames,mN n=ZB:=λh k=>by
 refine⟨nsFind es,⟨_,es,n,k _ _ r,rfl,λe he=>?_,λ_=>rfl⟩,λx hx=>?_⟩
 ·have:=Qk.mp s e (by simpa using he)
  cases q:e.key <;> rw[q]at this <;> first|exact⟨_,_,rfl⟩|cases this
 ·have key:∀x,S7 K N x=ZA ZB->nsFind es x=ZB:=λx u=>by
   unfold S7 at u;rw[r]at u;simp only at u
   split at u
   ·cases u
   ·rename_i he
    unfold nsFind findBy;rw[<-Wb,he];rfl
  unfold calmNames at hx;simp only[PJ,Ra,or_false]at hx;rcases hx with rfl|rfl|rfl|rfl
  ·exact key _ u0
  ·exact key _ u1
  ·exact key _ u2
  ·exact key _ u3
section
variable {bs:List Px}{sub:List Px}
variable {nm' q':Str}{N':ZE}{k0' k1' k2' k3' k5':Option Px}
def GI(w:K.lookup C=ZA (Re nm q C N bs bmV hdct sn sub ab col dd k0 k1 k2 k3 k5 "ValueError.__new__"))(ns:∀h:ZH,K.In h->∃mN,h.Ns N mN/\∀n∈calmNames,mN n=ZB):OX K C bmV:=⟨λh k=>by
 obtain⟨mN,h1,h2⟩:=ns h k;exact⟨nm,q,N,bs,hdct,sn,sub,ab,col,dd,k0,k1,k2,k3,k5,mN,k _ _ w,h1,h2,.base⟩⟩
def CU(w:K.lookup C=ZA (Re nm q C N bs (.ref D::bmV) hdct sn sub ab col dd k0 k1 k2 k3 k5 "ValueError.__new__"))(ns:∀h:ZH,K.In h->∃mN,h.Ns N mN/\∀n∈calmNames,mN n=ZB)
  (wD:K.lookup D=ZA (Re nm' q' D N' bs' bmV hdct' sn' sub' ab' col' dd' k0' k1' k2' k3' k5' "ValueError.__new__")) (nsD:∀h:ZH,K.In h->∃mN,h.Ns N' mN/\∀n∈calmNames,mN n=ZB):OX K C (.ref D::bmV):=⟨λh k=>by
 obtain⟨mN,h1,h2⟩:=ns h k;obtain⟨mD,d1,d2⟩:=nsD h k;exact⟨nm,q,N,bs,hdct,sn,sub,ab,col,dd,k0,k1,k2,k3,k5,mN,k _ _ w,h1,h2,.own (k _ _ wD) d1 d2 .base⟩⟩
end
end Tr
variable{Q:WP}
namespace L2
open PySem PySem.Spec PyProof.Rows
variable{y:V}
section
variable {κ:Type}[DecidableEq κ]
def kr(kvs:List (κ×V))(k:κ):Option V:=(kvs.find? λkv=>decide (kv.1=k)).map (·.2)
def eg(kvs:List (κ×V))(k:κ)(v:V):List (κ×V):=
 if (kvs.any λkv=>decide (kv.1=k))=ZC then kvs.map (λkv=>if kv.1=k then(kv.1,v)else kv)else kvs++[(k,v)]
def B3{k:κ}:kr ([]:List (κ×V)) k=ZB:=rfl
def lF{p:κ×V}{r:List (κ×V)}{k:κ}(e:p.1=k):kr (p::r) k=ZA p.2:=by simp[kr,So,e]
def lG{p:κ×V}{r:List (κ×V)}{k:κ}(e:¬ p.1=k):kr (p::r) k=kr r k:=by simp[kr,So,e]
theorem vk(k:κ):∀kvs:List (κ×V),(kvs.any λkv=>decide (kv.1=k))=(kr kvs k).isSome
 |[] =>rfl
 |p::r=>by
  rw[Sw]
  by_cases e:p.1=k
  ·simp only[lF e,decide_eq_true e,W6,We]
  ·rw[lG e,decide_eq_false e,Wf];exact vk k r
def gG(kvs:List (κ×V))(k:κ)(v:V):(eg kvs k v).length<=kvs.length+1:=by
 unfold eg;split
 ·rw[Py];omega
 ·rw[PK,PH,RP];omega
def RelO.Oy{o:Option V}{u:Option Px}(r:RelO o u):o.isSome=u.isSome:=by
 cases o with
 |none=>cases u with
  |none=>rfl
  |some _=>exact(show False from r).elim
 |some _=>cases u with
  |none=>exact(show False from r).elim
  |some _=>rfl
def RelO.getD{o:Option V}{u:Option Px}{d:V}{d':Px}(r:RelO o u)(rd:RelV d d'):RelV (o.getD d) (u.getD d'):=by
 cases o with
 |none=>cases u with
  |none=>exact rd
  |some _=>exact(show False from r).elim
 |some _=>cases u with
  |none=>exact(show False from r).elim
  |some _=>exact r
def KV.val{kvs:List (κ×V)}{vs:List (κ×Px)}(r:KV kvs vs)(k:κ):RelO (kr kvs k) (valueAt vs k):=by
 unfold KV at r
 induction r with
 |nil=>exact Sj
 |@cons p q ps qs h t ih=>
  obtain⟨h1,h2⟩:=h
  by_cases e:p.1=k
  ·have e':q.1=k:=h1.symm.trans e
   have b:valueAt (q::qs) k=ZA q.2:=by simp[valueAt,So,e']
   rw[lF e,b];exact h2
  ·have e':¬ q.1=k:=λz=>e (h1.trans z)
   have b:valueAt (q::qs) k=valueAt qs k:=by simp[valueAt,So,e']
   rw[lG e,b];exact ih
def KV.any{kvs:List (κ×V)}{vs:List (κ×Px)}(r:KV kvs vs)(k:κ):(kvs.any λkv=>decide (kv.1=k))=vs.any λkv=>decide (kv.1=k):=by
 unfold KV at r
 induction r with
 |nil=>rfl
 |cons h t ih=>rw[Sw,Sw,ih,h.1]
def KV.Pa{kvs:List (κ×V)}{vs:List (κ×Px)}(r:KV kvs vs)(k:κ){u:Px}(ry:RelV y u):
  KV (kvs.map λkv=>if kv.1=k then(kv.1,y)else kv) (vs.map λkv=>if kv.1=k then(kv.1,u)else kv):=by
 unfold KV at r ⊢
 induction r with
 |nil=>exact .nil
 |@cons p q ps qs h t ih=>
  rw[PF,PF];refine .cons ?_ ih
  obtain⟨h1,h2⟩:=h
  by_cases e:p.1=k
  ·rw[if_pos e,if_pos (h1.symm.trans e)];exact⟨h1,ry⟩
  ·rw[if_neg e,if_neg (λz=>e (h1.trans z))];exact⟨h1,h2⟩
def KV.put{kvs:List (κ×V)}{vs:List (κ×Px)}(r:KV kvs vs)(k:κ){u:Px}(ry:RelV y u):KV (eg kvs k y) (stored vs k u):=by
 unfold eg stored;rw[r.any k]
 by_cases e:(vs.any λkv=>decide (kv.1=k))=ZC
 ·rw[if_pos e,if_pos e];exact r.Pa k ry
 ·rw[if_neg e,if_neg e];exact Paired.snoc r ⟨rfl,ry⟩
def KV.length{kvs:List (κ×V)}{vs:List (κ×Px)}(r:KV kvs vs):kvs.length=vs.length:=U4 r
end
def wJ{k:Key}{u:Px}(r:RelV (kV k) u):(cT P w).is k u=ZC:=by
 cases k with
 |inl i=>obtain⟨t,e⟩:=(show ∃t,u=Rl i t from r);subst e;exact wc P w i t
 |inr x=>obtain⟨t,e⟩:=(show ∃t,u=Rv x t from r);subst e;exact wb P w x t
theorem sf:∀{ks:List Key}{us:List Px},Vals (ks.map kV) us->ItemsAre (cT P w) ks us
 |[],_,r=>by rw[TL]at r;cases r;exact .nil
 |k::ks,_,r=>by
  rw[PF]at r
  cases r with
  |cons h t=>exact .cons (wJ h) (sf t)
abbrev KT(H:Hp):List (List Key×V)->List (List Key×ZE×Px)->Prop:=X1 λp q=>p.1=q.1/\H q.2.1=ZA (.tup (p.1.map kV))/\RelV p.2 q.2.2
variable{H:Hp}{kvs:List (List Key×V)}{xs:List (List Key×ZE×Px)}
def KT.val(r:KT H kvs xs)(k:List Key):RelO (kr kvs k) ((atKey xs k).map (·.2)):=by
 induction r with
 |nil=>exact Sj
 |@cons p q ps qs h t ih=>
  obtain⟨h1,_,h2⟩:=h
  by_cases e:p.1=k
  ·have e':q.1=k:=h1.symm.trans e
   have b:atKey (q::qs) k=ZA q.2:=by simp[atKey,So,e']
   rw[lF e,b];exact h2
  ·have e':¬ q.1=k:=λz=>e (h1.trans z)
   have b:atKey (q::qs) k=atKey qs k:=by simp[atKey,So,e']
   rw[lG e,b];exact ih
def KT.Pa(r:KT H kvs xs)(k:List Key){u:Px}(ry:RelV y u):
  KT H (kvs.map λkv=>if kv.1=k then(kv.1,y)else kv) (xs.map (putAt k u)):=by
 induction r with
 |nil=>exact .nil
 |@cons p q ps qs h t ih=>
  rw[PF,PF];refine .cons ?_ ih
  obtain⟨h1,h2,h3⟩:=h;unfold putAt
  by_cases e:p.1=k
  ·rw[if_pos e,if_pos (h1.symm.trans e)];exact⟨h1,h2,ry⟩
  ·rw[if_neg e,if_neg (λz=>e (h1.trans z))];exact⟨h1,h2,h3⟩
variable{b:ZE}
def KT.put(r:KT H kvs xs)(k:List Key){u:Px}(hb:H b=ZA (.tup (k.map kV)))(ry:RelV y u):
  KT H (eg kvs k y) (storedH xs k b u):=by
 have e:(kvs.any λkv=>decide (kv.1=k))=(atKey xs k).isSome:=by
  rw[vk,(r.val k).Oy,WI]
 unfold eg storedH;rw[e]
 by_cases q:(atKey xs k).isSome=ZC
 ·rw[if_pos q,if_pos q];exact r.Pa k ry
 ·rw[if_neg q,if_neg q];exact Paired.snoc r ⟨rfl,hb,ry⟩
variable{H':Hp}
def KT.keeps(r:KT H kvs xs)(ht:∀b ys,H b=ZA (.tup ys)->H' b=ZA (.tup ys)):KT H' kvs xs:=
 Paired.O6 r λ_ _ z=>⟨z.1,ht _ _ z.2.1,z.2.2⟩
variable{a:ZE}
section
variable {h:ZH}
def vN{u:HO}(ok:HOk P w H h)(e:Rd H a u):ObjOk P w H h a u:=e.ok ok
def sI{kvs:List (Key×V)}(ok:HOk P w H h)(e:Rd H a (.dK kvs)):kvs.length<=ZI/\(a == SY)=ZD/\∃vs,KV kvs vs/\h.DictOf (cT P w) a vs:=
 show ObjOk P w H h a (.dK kvs)from vN ok e
def NX{kvs:List (Key×V)}(ok:HOk P w H h)(e:H a=ZA (.dK kvs)):kvs.length<=ZI/\(a == SY)=ZD/\∃vs,KV kvs vs/\h.DictOf (cT P w) a vs:=sI ok (.inl e)
def key_of{ks:List Key}(ok:HOk P w H h)(e:H a=ZA (.tup (ks.map kV))):(UY (cT P w)).is h ks a:=by
 obtain⟨_,its,r,o,h1,h2,n,h3⟩:=(show ObjOk P w H h a (.tup (ks.map kV))from ok a _ e)
 exact⟨o,its.toArray,n,h1,h2,h3,by simpa using sf r⟩
def sC(ok:HOk P w H h)(e:Rd H a (.dT kvs)):kvs.length<=ZI/\(a == SY)=ZD ∧
  ∃xs,KT H kvs xs/\h.DictOfH (UY (cT P w)) a xs:=by
 obtain⟨z,y,xs,r,o,es,ep,h1,h2,h3,h4,h5⟩:=(show ObjOk P w H h a (.dT kvs)from vN ok e)
 refine⟨z,y,xs,r,o,es,ep,h1,h2,h3,h4,λx hx=>?_,h5⟩
 have all:∀{l:List (List Key×V)}{m:List (List Key×ZE×Px)},KT H l m->∀x∈m,(UY (cT P w)).is h x.1 x.2.1:=by
  intro l m q
  induction q with
  |nil=>intro x hx;exact nomatch hx
  |@cons p q ps qs hq t ih=>
   intro x hx;rcases PJ.mp hx with e|hx
   ·subst e
    exact key_of ok (by rw[<-hq.1];exact hq.2.1)
   ·exact ih x hx
 exact all r x hx
def Et(ok:HOk P w H h)(e:H a=ZA (.dT kvs)):kvs.length<=ZI/\(a == SY)=ZD ∧
  ∃xs,KT H kvs xs/\h.DictOfH (UY (cT P w)) a xs:=sC ok (.inl e)
end
def DGet(H:Hp)(a:ZE)(y:V)(r:Option V):Prop:=
 (∃kvs k,Rd H a (.dK kvs)/\y=kV k/\r=kr kvs k)\/∃kvs k b,Rd H a (.dT kvs)/\y=.ref b/\H b=ZA (.tup (k.map kV))/\r=kr kvs k
def DPut(H:Hp)(a:ZE)(y v:V)(H':Hp):Prop:=
 (∃kvs k,H a=ZA (.dK kvs)/\y=kV k/\kvs.length<ZI/\H'=upd H a (.dK (eg kvs k v))) ∨
 ∃kvs k b,H a=ZA (.dT kvs)/\y=.ref b/\H b=ZA (.tup (k.map kV))/\kvs.length<ZI/\H'=upd H a (.dT (eg kvs k v))
def DPut.t{k:List Key}{v:V}(e:H a=ZA (.dT kvs))(eb:H b=ZA (.tup (k.map kV)))(hl:kvs.length<ZI):
  DPut H a (.ref b) v (upd H a (.dT (eg kvs k v))):=.inr ⟨kvs,k,b,e,rfl,eb,hl,rfl⟩
variable{X:Cx}{h':ZH}{kt:Uf}{σ:St}
section
variable {v:V}{u r:Px}{o:Option V}
def Inv.big(I:Inv X kt σ H s):SY<s.heap.objs.size:=by
 have h:Qv<s.heap.objs.size:=(I.mod.glob.keeps I.bk).lt;exact Vn (by decide) h
def Bx(hu:A.units+1<cLine)(I:Inv X kt σ H s)(g:DGet H a y (ZA v))(ry:RelV y u)(h:∀w' s',Inv X kt σ H s'->RelV v w'->Q w' s'):
  ZJ (ZK X.prog X.w) A (getItem (.ref a) u) Q E s:=by
 rcases g with⟨kvs,k,e,ey,l⟩|⟨kvs,k,b,e,ey,eb,l⟩
 ·subst ey
  obtain⟨z,hd,vs,rel,dd⟩:=sI I.hok e;obtain⟨w',hw,rw'⟩:=RelO.some_of (v:=v) (o:=valueAt vs k) (by rw[l];exact rel.val k)
  exact wpAny_getItem_of (wJ ry) dd.mapOf hw (h w' _ (I.tok _) rw')
 ·subst ey
  cases (show u=P7 b from ry)
  obtain⟨z,hd,xs,rel,dd⟩:=sC I.hok e;obtain⟨w',hw,rw'⟩:=RelO.some_of (v:=v) (o:=(atKey xs k).map (·.2)) (by rw[l];exact rel.val k)
  obtain⟨p,hp,hp2⟩:=RY.mp hw;refine wpAny_getItem_heap (SF hu) (key_of I.hok eb) dd hp ?_
  rw[hp2];exact h w' _ (I.tok _) rw'
def d_in(hu:A.units+1<cLine)(I:Inv X kt σ H s)(g:DGet H a y o)(ry:RelV y u)(h:∀s',Inv X kt σ H s'->Q (.bool o.isSome) s'):
  ZJ (ZK X.prog X.w) A (QC .In u (.ref a)) Q E s:=by
 rcases g with⟨kvs,k,e,ey,l⟩|⟨kvs,k,b,e,ey,eb,l⟩
 ·subst ey
  obtain⟨z,hd,vs,rel,dd⟩:=sI I.hok e;refine wpAny_in_of (wJ ry) hd dd.mapOf ?_
  rw[<-(rel.val k).Oy,<-l];exact h _ (I.tok _)
 ·subst ey
  cases (show u=P7 b from ry)
  obtain⟨z,hd,xs,rel,dd⟩:=sC I.hok e;refine wpAny_in_heap (SF hu) (key_of I.hok eb) hd dd ?_
  have q:=(rel.val k).Oy;rw[WI]at q;rw[<-q,<-l];exact h _ (I.tok _)
def uP{ob:HO}(I:Inv X kt σ H s)(mu:N4 (H a))(hs:Ta a s.heap h')(he:∃q,h'.get? a=ZA q)(new:ObjOk X.prog X.w (upd H a ob) h' a ob):
  Inv X kt σ (upd H a ob) {s with heap:=h',toks:=t'}:=
 I.write (x:=a) (e:=a) mu (.inl rfl) (λb q hb z=>(hs.2 b hb).trans z) he new
def Ly{kvs:List (Key×V)}{vs:List (Key×Px)}(z:kvs.length<=ZI)(hd:(a == SY)=ZD)(rel:KV kvs vs)(dd:h'.DictOf (cT P w) a vs):
  ObjOk P w H' h' a (.dK kvs):=⟨z,hd,vs,rel,dd⟩
def Bw{Q:Unit->Pz->Prop}(hu:A.units+1<cLine)(I:Inv X kt σ H s)(g:DPut H a y v H')(ry:RelV y u)(rv:RelV v r)(h:∀s',Inv X kt σ H' s'->Q () s'):
  ZJ (ZK X.prog X.w) A (setItem (.ref a) u r) Q E s:=by
 rcases g with⟨kvs,k,e,ey,l,eH⟩|⟨kvs,k,b,e,ey,eb,l,eH⟩
 ·subst ey eH
  obtain⟨z,hd,vs,rel,dd⟩:=NX I.hok e
  have hz:vs.length<=ZI:=by rw[<-rel.length];exact z
  have hl:(eg kvs k v).length<=ZI:=by have:=gG kvs k v;omega
  refine wpAny_setItem_pairs (hsz:=hz) (wJ ry) dd λh' dd' hs=>h _ ?_
  have he:∃q,h'.get? a=ZA q:=let ⟨q,_,_,hq,_⟩:=dd';⟨q,hq⟩
  exact uP I (by rw[e];exact Sj) hs he (Ly hl hd (rel.put k rv) dd')
 ·subst ey eH
  cases (show u=P7 b from ry)
  obtain⟨z,hd,xs,rel,dd⟩:=Et I.hok e
  have hz:xs.length<=ZI:=by rw[<-U4 rel];exact z
  have hl:(eg kvs k v).length<=ZI:=by have:=gG kvs k v;omega
  refine wpAny_setItem_heap (hsz:=hz) (SF hu) (key_of I.hok eb) dd λh' dd' hs=>h _ ?_
  obtain⟨q,es,ep,hq,h2,h3,h4,_,h5⟩:=dd';refine uP I (by rw[e];exact Sj) hs ⟨q,hq⟩ ⟨hl,hd,_,(rel.put k eb rv).keeps λc ys ec=>?_,q,es,ep,hq,h2,h3,h4,h5⟩
  rw[aH (pU ec e (λz=>nomatch z))]
  exact ec
end
def HN(i:ZG):Prop:=∀ov iv,V6 i ZD ov iv=operate [ov,iv] (getItem ov iv)
variable{pos:Pos}{value:ZG}
def FQ{env:Env}{slice:ZG}{T id:String}
  (hl:TC (.type T) "__getitem__" =pure (ZA (.builtin id))) (hs:HN slice)
  (h:ZJ (ZK prog w) A (eval value env) (λo s₁=>ZJ (ZK prog w) A (eval slice env) (λi s₂=>s₂.TypeIs o T/\ZJ (ZK prog w) A (getItem o i) Q E s₂) E s₁) E s):
  ZJ (ZK prog w) A (eval (.Subscript value slice pos) env) Q E s:=by
 refine Subscript_ (Rm h (λo s₁ h₁=>Rm h₁ (λi s₂ h₂=>?_) λ_ _ x=>x) λ_ _ x=>x)
 obtain⟨hT,h₂⟩:=h₂;unfold Ww;refine PD ?_
 rw[getitemInPython_of_ne hT.not_modules];refine PD (wpAny_specialOf hT hl ?_)
 have fin:ZJ (ZK prog w) A (V6 slice ZD o i) (λr s₃=>ZJ (ZK prog w) A (letTemporaryGo value o r >>= λ_=>pure r) Q E s₃) E s₂:=by
  rw[hs o i];exact wpAny_operating (Rm h₂ (λr s₃ h₃=>PD (wpAny_letTemporaryGo (PX h₃))) λ_ _ x=>x)
 first
  |exact PX (PD fin)
  |exact PD (PX (PD fin))
  |exact PD fin
def xc{o:Option V}(I:Inv X kt σ H s)(g:DGet H a y o):s.TypeIs (.ref a) "dict":=by
 rcases g with⟨kvs,k,e,_,_⟩|⟨kvs,k,b,e,_,_,_⟩
 ·obtain⟨_,_,vs,_,dd⟩:=sI I.hok e
  exact dd.typeIs
 ·obtain⟨_,_,xs,_,dd⟩:=sC I.hok e
  exact dd.typeIs
def Mf(td ty:TE):TE:=λσ H Q=>td σ H λx H1=>ty σ H1 λy H2=>∃a v,x=.ref a/\DGet H2 a y (ZA v)/\Q v H2
def Mr(td ty tv:TE):TS:=λD σ H=>tv σ H λv H1=>td σ H1 λx H2=>ty σ H2 λy H3=>∃a H4,x=.ref a/\DPut H3 a y v H4/\D.nx σ H4
section
variable {o i e:ZG}{pos' tpos:Pos}{td ty tv:TE}
def GG(hu:X.A.units+1<cLine)(ho:PE X o td)(hi:PE X i ty)(hs:HN i):PE X (.Subscript o i pos) (Mf td ty):=by
 intro kt s σ H Q I h;refine FQ PySem.F.slot_dict_getitem.lookup hs (bV (ho kt s σ H _ I h) λu s1 ⟨x,H1,I1,rx,q1⟩=>bV (hi kt s1 σ H1 _ I1 q1) λiv s2 hh_=>?_)
 obtain⟨y,H2,I2,ry,a,v,ex,g,q2⟩:=hh_;subst ex;obtain rfl:u=P7 a:=rx;exact⟨xc I2 g,Bx hu I2 g ry λw' s3 I3 rw'=>⟨v,H2,I3,rw',q2⟩⟩
def Gv(hu:X.A.units+1<cLine)(ho:PE X o td)(hi:PE X i ty)(hv:PE X value tv)(hs:Qt value (ZA (.Subscript o i pos')) pos.line X.env=pure ZD):
  PS X (.Assign [.Subscript o i pos'] value pos) (Mr td ty tv):=by
 intro kt s σ H D I h;refine wpAny_Assign_Subscript (bV (hv kt s σ H _ I h) λr s1 ⟨v,H1,I1,rv,q1⟩=>bV (ho kt s1 σ H1 _ I1 q1) λu s2 ⟨x,H2,I2,rx,q2⟩=>bV (hi kt s2 σ H2 _ I2 q2) λiv s3 ⟨y,H3,I3,ry,a,H4,ex,g,q3⟩=>?_) hs
 subst ex;obtain rfl:u=P7 a:=rx;exact Bw hu I3 g ry rv λs4 I4=>⟨σ,H4,I4,q3⟩
end
def Eu(h:ZH)(hb:SY<h.objs.size):ObjOk P w H (h.push {cls:=.type "dict",data:=.dict #[]}) h.objs.size (.dT []):=
 ⟨QQ _,beq_eq_false_iff_ne.mpr (Sv (QJ hb)),[],.nil,_,#[],0,Qc _ rfl,⟨rfl,rfl,rfl⟩,rfl,rfl,RE⟩
structure M1 (X:Cx)(o:ZG)(m:Str)(apos:Pos)(e:ZG)(cpos:Pos):Prop where
 base:Qj o m X.env (eval o X.env)=eval o X.env
 few:((backTo cpos (PR [e] X.env)).all (λx=>!x.1)&&(TJ cpos (Se [] X.env)).all (λx=>x.1.isSome)
  &&decide (([e]:List ZG).length+([]:List XR).length+(if ([]:List XR).isEmpty then 0 else 1)<30))=ZC
 line:(apos.endLine == cpos.line)=ZC
 trees:backTo cpos (PR [e] X.env)=[(ZD,eval e X.env)]
structure M2 (X:Cx)(o:ZG)(m:Str)(apos:Pos)(e f:ZG)(cpos:Pos):Prop where
 base:Qj o m X.env (eval o X.env)=eval o X.env
 few:((backTo cpos (PR [e,f] X.env)).all (λx=>!x.1)&&(TJ cpos (Se [] X.env)).all (λx=>x.1.isSome)
  &&decide (([e,f]:List ZG).length+([]:List XR).length+(if ([]:List XR).isEmpty then 0 else 1)<30))=ZC
 line:(apos.endLine == cpos.line)=ZC
 trees:backTo cpos (PR [e,f] X.env)=[(ZD,eval e X.env),(ZD,eval f X.env)]
def IsD(H:Hp)(a:ZE):Prop:=(∃kvs,Rd H a (.dK kvs))\/∃kvs,Rd H a (.dT kvs)
def K7(I:Inv X kt σ H s)(d:IsD H a):
  s.TypeIs (.ref a) "dict"/\(∀b,P7 a=.ref b->∃ob,s.heap.get? b=ZA ob/\ob.dict=ZB)/\(a == SY)=ZD:=by
 rcases d with⟨kvs,e⟩|⟨kvs,e⟩
 ·obtain⟨_,hd,vs,_,dd⟩:=sI I.hok e
  refine⟨dd.typeIs,λb q=>?_,hd⟩
  cases q;obtain⟨ob,_,_,h1,h2,_⟩:=dd;exact⟨ob,h1,h2.2.1⟩
 ·obtain⟨_,hd,xs,_,dd⟩:=sC I.hok e
  refine⟨dd.typeIs,λb q=>?_,hd⟩
  cases q;obtain⟨ob,_,_,h1,h2,_⟩:=dd;exact⟨ob,h1,h2.2.1⟩
section
variable {d:V}{u r:Px}{o:Option V}
def LA(hu:A.units+1<cLine)(I:Inv X kt σ H s)(g:DGet H a y o)(ry:RelV y u)(h:∀w' s',Inv X kt σ H s'->RelV (o.getD .non) w'->Q w' s'):
  ZJ (ZK X.prog X.w) A (call (.builtin "dict.get") [.ref a,u]) Q E s:=by
 rcases g with⟨kvs,k,e,ey,l⟩|⟨kvs,k,b,e,ey,eb,l⟩
 ·subst ey
  obtain⟨z,hd,vs,rel,dd⟩:=sI I.hok e;refine call_meetsIn TK dd.typeIs Vh (U1 _ _) (meets_dict_get (cT X.prog X.w) a (wJ ry) hd) ⟨_,dd.mapOf,h _ _ (I.tok _) ?_⟩
  rw[l];exact(rel.val k).getD rfl
 ·subst ey
  cases (show u=P7 b from ry)
  obtain⟨z,hd,xs,rel,dd⟩:=sC I.hok e;refine call_meetsIn TK dd.typeIs Vh (U1 _ _) (meetsH_dict_get (UY (cT X.prog X.w)) a b hd) ⟨SF hu,k,xs,key_of I.hok eb,dd,h _ _ (I.tok _) ?_⟩
  rw[l];exact(rel.val k).getD rfl
end
def Jg(td ty:TE):TE:=λσ H Q=>td σ H λx H1=>∃a,x=.ref a/\IsD H1 a/\ty σ H1 λy H2=>∃o,DGet H2 a y o/\Q (o.getD .non) H2
section
variable {o e f:ZG}{apos cpos:Pos}{td ty tx:TE}
def CS(hu:X.A.units+1<cLine)(ho:PE X o td)(he:PE X e ty)(m:M1 X o "get" apos e cpos):PE X (.Call (.Attribute o "get" apos) [e] [] cpos) (Jg td ty):=by
 intro kt s σ H Q I h;refine wpAny_Call_method m.base m.few m.line PySem.F.plainAttrs_dict TK PySem.F.type_dict_get (bV (ho kt s σ H _ I h) λu s1 hh_=>?_)
 obtain⟨x,H1,I1,rx,a,ex,d,q1⟩:=hh_;subst ex;obtain rfl:u=P7 a:=rx;obtain⟨t1,t2,_⟩:=K7 I1 d;refine⟨t1,t2,?_⟩
 rw[m.trees];refine RX rfl (Sg (SD (bV (he kt s1 σ H1 _ I1 q1) λiv s2 ⟨y,H2,I2,ry,ov,g,q2⟩=>SO ?_)))
 exact LA hu I2 g ry λw' s3 I3 rw'=>⟨_,H2,I3,rw',q2⟩
end
end L2
namespace Tr
open PySem PySem.Spec PyProof.Rows L2
variable{H:Hp}{a:ZE}{k:List Key}{kvs:List (List Key×V)}
def DGet.Pb{b:ZE}(e:Rd H a (.dT kvs))(eb:H b=ZA (.tup (k.map kV))):DGet H a (.ref b) (kr kvs k):=.inr ⟨kvs,k,b,e,rfl,eb,rfl⟩
def IC{k:Nat}(h:Room k A):A.units+1<cLine:=by have:=h.un;omega
variable{O:Ow}
theorem p8:∀{l:List T}{vs:List V}{k:List Key},p9 l=ZA k->Reps K O H l vs->vs=k.map kV
 |[],vs,k,h,r=>by cases Reps.Da.mp r;cases h;rfl
 |t::l,vs,k,h,r=>by
  obtain⟨v,ws,rfl,p,q⟩:=Reps.me.mp r;unfold p9 at h
  cases e1:Iq t with
  |none=>rw[e1]at h;cases h
  |some a=>
   cases e2:p9 l with
   |none=>rw[e1,e2]at h;cases h
   |some b=>
    rw[e1,e2]at h;cases h;rw[p8 e2 q,PF]
    congr 1
    cases t with
    |int i=>cases e1;exact Rep.AC.mp p
    |str x=>cases e1;exact Rep.IR.mp p
    |_=>cases e1
variable{v:V}
def lW{y:T}(h:keyOf y=ZA k)(r:Rep K O H y v):∃b,v=.ref b/\H b=ZA (.tup (k.map kV)):=by
 cases y with
 |tup l=>
  obtain⟨a,vs,e1,_,e3,e4⟩:=Rep.Fk.mp r;rw[p8 h e4]at e3
  exact⟨a,e1,e3⟩
 |_=>cases h
theorem l8:∀{ks ts:List T}{kvs:List (List Key×V)},ks.map keyOf=kvs.map (λp=>ZA p.1)->Reps K O H ts (kvs.map (·.2))->match lq ks ts k with
  |some t=>∃v,kr kvs k=ZA v/\Rep K O H t v
  |none=>kr kvs k=ZB
 |[],ts,kvs,h,r=>by
  cases kvs with
  |nil=>unfold lq;exact B3
  |cons _ _=>cases h
 |k'::ks,ts,kvs,h,r=>by
  cases kvs with
  |nil=>cases h
  |cons p kvs=>
   rw[PF,PF]at h;injection h with h1 h2
   rw[PF]at r
   cases ts with
   |nil=>have:=Reps.Da.mp r;cases this
   |cons t ts=>
    obtain⟨v,ws,e,q1,q2⟩:=Reps.me.mp r;injection e with e1 e2
    subst e1 e2;unfold lq
    by_cases hk:keyOf k'=ZA k
    ·rw[if_pos hk]
     rw[h1]at hk;injection hk with hk
     exact⟨_,lF hk,q1⟩
    ·rw[if_neg hk]
     have hk2:¬ p.1=k:=λz=>hk (by rw[h1,z])
     rw[lG hk2];exact l8 h2 q2
def tT [DecidableEq κ]{k:κ}{p:κ×V}{r:List (κ×V)}(h:¬ p.1=k):eg (p::r) k v=p::eg r k v:=by
 unfold eg;rw[Sw,decide_eq_false h,Wf]
 by_cases q:(r.any λkv=>decide (kv.1=k))=ZC
 ·rw[if_pos q,if_pos q,PF,if_neg h]
 ·rw[if_neg q,if_neg q];rfl
def tU [DecidableEq κ]{k:κ}{p:κ×V}{r:List (κ×V)}(h:p.1=k)(hn:∀q∈r,q.1≠k):eg (p::r) k v=(p.1,v)::r:=by
 unfold eg;rw[Sw,decide_eq_true h,W6,if_pos rfl,PF,if_pos h]
 congr 1
 conv=>rhs;rw[<-List.map_id r]
 exact Q4 λq hq=>if_neg (hn q hq)
theorem ql{kT vT:T}(hk:keyOf kT=ZA k)(hv:Rep K O H vT v):∀{ks ts:List T}{kvs:List (List Key×V)},ks.map keyOf=kvs.map (λp=>ZA p.1)->Reps K O H ts (kvs.map (·.2))->(kvs.map (·.1)).Nodup →
  (gp kT vT ks ts).1.map keyOf=(eg kvs k v).map (λp=>ZA p.1)/\Reps K O H (gp kT vT ks ts).2 ((eg kvs k v).map (·.2))
 |[],ts,kvs,h,r,_=>by
  cases kvs with
  |nil=>
   unfold gp;refine⟨?_,Reps.Gc hv Reps.GM⟩
   simp[eg,hk]
  |cons _ _=>cases h
 |k'::ks,ts,kvs,h,r,hn=>by
  cases kvs with
  |nil=>cases h
  |cons p kvs=>
   rw[PF,PF]at h;injection h with h1 h2
   rw[PF]at r;rw[PF]at hn;obtain⟨n1,n2⟩:=Qh.mp hn
   cases ts with
   |nil=>have:=Reps.Da.mp r;cases this
   |cons t ts=>
    obtain⟨v',ws,e,q1,q2⟩:=Reps.me.mp r;injection e with e1 e2
    subst e1 e2;unfold gp
    by_cases hz:keyOf k'=keyOf kT
    ·rw[if_pos hz]
     have hp:p.1=k:=by rw[hz,hk]at h1;injection h1 with h1;exact h1.symm
     rw[tU hp λq hq z=>n1 (by rw[hp,<-z];exact V0 hq)]
     exact⟨by rw[PF,PF,h1,h2],Reps.Gc hv q2⟩
    ·rw[if_neg hz]
     have hp:¬ p.1=k:=λz=>hz (by rw[h1,z,hk])
     obtain⟨a1,a2⟩:=ql hk hv h2 q2 n2;rw[tT hp];exact⟨by rw[PF,PF,h1,a1],Reps.Gc q1 a2⟩
def HP{xs:List (List Key×ZE×Px)}(rel:KT H kvs xs):kvs.map (·.1)=xs.map (·.1):=by
 induction rel with
 |nil=>rfl
 |cons h t ih=>rw[PF,PF,ih,h.1]
variable{X:Cx}
def EB{kt:Uf}{σ:L2.St}(I:Inv X kt σ H s)(e:H a=ZA (.dT kvs)):(kvs.map (·.1)).Nodup/\kvs.length<=ZI:=by
 obtain⟨z,_,xs,rel,_,_,_,_,_,_,_,_,hn⟩:=Et I.hok e;rw[HP rel];exact⟨hn,z⟩
variable{a b:ZG}{fa fb:Y2}{pos:Pos}
def MP(hu:X.A.units+1<cLine)(ha:cg X a fa)(hb:cg X b fb)(hs:autoParam (HN b) x_):cg X (.Subscript a b pos) (o2 jO fa fb):=by
 refine PE.imp (GG hu ha hb hs) λσ H Q ⟨Z,O,E,hq⟩=>?_
 obtain⟨Z1,O1,E1,h1⟩:=a6 E hq;refine⟨Z1,O1,E1,Post.mono h1 λt H1 s1 q v r=>?_⟩
 obtain⟨t',r',s',E',q'⟩:=q v r;obtain⟨Z2,O2,E2,h2⟩:=a6 (f:=fb) E' q';refine⟨Z2,O2,E2,Post.mono h2 λt2 H2 s2 q2 v2 r2=>?_⟩
 obtain⟨t2',r2',s2',E2',q2'⟩:=q2 v2 r2
 have r'':=r'.same s2';unfold jO at q2'
 split at q2'
 ·rename_i ks vs k hk
  split at q2'
  ·rename_i x hx
   obtain⟨a,kvs,e1,e2,e3,e4,e5⟩:=Rep.GE.mp r'';obtain⟨b,f1,f2⟩:=lW hk r2'
   have g:=l8 (k:=k) e4 e5;rw[hx]at g;obtain⟨w,g1,g2⟩:=g;exact⟨a,w,e1,by rw[f1,<-g1];exact DGet.Pb e3 f2,q2' H2 (Same.refl H2) w g2⟩
  ·exact q2'.elim
 ·exact q2'.elim
open PySem.SeqAt
variable{x:T}
def we(rx:ReV s x ux)(hu:A.units+60<cLine){l:List T}(hd:x.dep<=60\/deps l<=60)(r:ReVs s l us):
  ∃e:Px->Bool,(∀y∈us,EqAt A s y ux (e y))/\us.map e=l.map λt=>aX t x:=by
 classical
 have ex:∀y∈us,∃t∈l,ReV s t y:=λy hy=>by
  obtain⟨i,hi,rfl⟩:=RQ hy
  have hl:=r.length
  have e1:l[i]?=ZA l[i]:=by simp
  obtain⟨u,q1,q2⟩:=r.get e1
  have:us[i]?=ZA us[i]:=by simp
  rw[this]at q1;cases q1;exact⟨l[i],QU _,q2⟩
 let e:Px->Bool:=λy=>decide (∃t∈l,ReV s t y/\aX t x=ZC)
 have dep:∀t∈l,t.dep<=60\/x.dep<=60:=λt ht=>by
  rcases hd with h|h
  ·exact .inr h
  ·obtain⟨i,hi,rfl⟩:=RQ ht
   exact .inl (Qn (jP (i:=i) (by simp)) h)
 have uniq:∀y t t',ReV s t y->ReV s t' y->aX t x=aX t' x:=λy t t' z z'=>by
  rw[<-md t,<-md t',ReV.nf z z']
 have agree:∀y t,t∈l->ReV s t y->e y=aX t x:=λy t h z=>by
  show decide (∃t∈l,ReV s t y/\aX t x=ZC)=aX t x
  cases q:aX t x with
  |true=>exact decide_eq_true ⟨t,h,z,q⟩
  |false=>
   refine decide_eq_false ?_
   rintro ⟨t',h',z',q'⟩
   rw[<-uniq y t t' z z',q]at q';cases q'
 refine⟨e,λy hy=>?_,?_⟩
 ·obtain⟨t,h,z⟩:=ex y hy
  rw[agree y t h z];exact(Hm 60 A s t x y ux (dep t h) hu z rx).1
 ·have go:∀(l':List T)(us':List Px),(∀t∈l',t∈l)->ReVs s l' us'->us'.map e=l'.map λy=>aX y x:=by
   intro l'
   induction l' with
   |nil=>intro us' _ r';rw[ReVs.Da.mp r'];rfl
   |cons t l' ih=>
    intro us' sub r';obtain⟨u,ws,rfl,p,q⟩:=ReVs.me.mp r';rw[PF,PF,ih ws (λt ht=>sub t (Pw _ ht)) q,agree u t (sub t PB) p]
  exact go l us (λ_ h=>h) r
theorem qj:∀{l:List T}{n k:Nat},km x l n=ZA k->n<=k/\(l.map λt=>aX t x)[k - n]?=ZA ZC/\∀m,m<k - n->(l.map λt=>aX t x)[m]?=ZA ZD
 |[],n,k,h=>by cases h
 |t::l,n,k,h=>by
  unfold km at h
  cases q:aX t x with
  |true=>
   rw[q,if_pos rfl]at h;cases h;refine⟨PP _,?_,λm hm=>by omega⟩
   rw[TU,PF,q];rfl
  |false=>
   rw[q,if_neg (by decide)]at h
   obtain⟨h1,h2,h3⟩:=qj h
   have e:k - n=(k - (n+1))+1:=by omega
   refine⟨by omega,?_,λm hm=>?_⟩
   ·rw[e,PF,Rc];exact h2
   ·cases m with
    |zero=>rw[PF,q];rfl
    |succ m=>rw[PF,Rc];exact h3 m (by omega)
section
variable {apos cpos:Pos}
def Cy(hu:X.A.units+61<cLine)(ha:cg X a fa)(hb:cg X b fb)(hn:autoParam (a9 b=ZC) u_)
  (hbase:autoParam (Qj a "index" X.env (eval a X.env)=eval a X.env) u_) (hline:autoParam ((apos.endLine == cpos.line)=ZC) u_):cg X (.Call (.Attribute a "index" apos) [b] [] cpos) (oL gF fa fb):=by
 have hs:PR [b] X.env=(ZD,eval b X.env)::PR [] X.env:=aU hn;intro kt s σ H Q I ⟨Z,O,E,hq⟩;refine Tz hbase (by rw[hs];rfl) hline rfl (bV (ha kt s σ H _ I (a6 E hq)) λv s1 hh_=>?_)
 obtain⟨x,H1,I1,r1,t,rt,s',E',q1⟩:=hh_
 cases t with
 |lst l=>
  obtain⟨c,vs,e1,e2,e3,e4⟩:=Rep.Do.mp rt;subst e1;obtain rfl:v=P7 c:=r1;obtain⟨h1,h2⟩:=tD I1 (show RelV (.ref c) (.ref c)from rfl) (.inl ⟨rfl,vs,SqL.of e3⟩)
  refine⟨_,_,Rb,PySem.F.slot_list_index,PySem.F.type_list_index,h1,h2,?_⟩
  rw[hs];refine RX rfl (Sg (SD (bV (hb kt s1 σ H1 _ I1 (a6 (f:=fb) E' q1)) λu s2 ⟨y,H2,I2,r2,t2,rt2,s'',E'',q2⟩=>SO ?_)))
  unfold gF at q2
  split at q2
  ·rename_i l' heq
   cases heq
   split at q2
   ·rename_i hd3
    obtain⟨hd,hnx,hny⟩:=hd3
    split at q2
    ·rename_i k hk
     have rv:=Rep.val I2 (show(T.lst l).nd=ZC by unfold T.nd;exact hny) (rt.same s'') (show RelV (.ref c) (.ref c)from rfl)
     unfold ReV at rv;obtain⟨c',us,ec,hl,rs⟩:=rv;cases ec;obtain⟨⟨cls,dd,data,sl⟩,ho,hc,n,hdd⟩:=id hl;simp only at hc hdd;subst hc hdd;obtain⟨e,he,ha⟩:=we (A:=X.A.in1) (Rep.val I2 hnx rt2 r2) (by show X.A.units+1+60<cLine;omega) hd rs
     obtain⟨_,k1,k2⟩:=qj hk;rw[Td]at k1 k2;rw[<-ha]at k1 k2
     have hkl:k<us.length:=by have:=(PM.mp k1).1;rwa [Py]at this
     have hz:us.length<=ZI:=by
      have z:=(I2.Ox (s'' _ _ e3)).1
      have h3:=rs.length
      have h4:=e4.length;omega
     refine Tf F.slot_list_index ⟨_,ho,rfl⟩ F.entry_list_index (F.args_list_index_2 _ _) (list_indexAt c us.toArray n dd sl u e k (by simpa using hkl) (by rw[RB]at hz;omega) ?_ ?_) ⟨ho,λy hy=>he y (by simpa using hy),?_⟩
     ·have:=(PM.mp k1).2
      rw[T4]at this
      simpa using this
     ·intro m hm hmk
      have:=(PM.mp (k2 m hmk)).2
      rw[T4]at this
      simpa using this
     ·exact⟨.int _,H2,I2.tok _,⟨_,rfl⟩,q2 H2 (Same.refl H2) _ (Rep.GT _)⟩
    ·exact q2.elim
   ·exact q2.elim
  ·rename_i hno
   exact(hno l rfl).elim
 |_=>exact q1.elim
def Cz(hu:X.A.units+61<cLine)(ha:cg X a fa)(hb:cg X b fb)(hn:autoParam (a9 b=ZC) u_)
  (hbase:autoParam (Qj a "count" X.env (eval a X.env)=eval a X.env) u_) (hline:autoParam ((apos.endLine == cpos.line)=ZC) u_):cg X (.Call (.Attribute a "count" apos) [b] [] cpos) (oL ox fa fb):=by
 have hs:PR [b] X.env=(ZD,eval b X.env)::PR [] X.env:=aU hn;intro kt s σ H Q I ⟨Z,O,E,hq⟩;refine Tz hbase (by rw[hs];rfl) hline rfl (bV (ha kt s σ H _ I (a6 E hq)) λv s1 hh_=>?_)
 obtain⟨x,H1,I1,r1,t,rt,s',E',q1⟩:=hh_
 cases t with
 |lst l=>
  obtain⟨c,vs,e1,e2,e3,e4⟩:=Rep.Do.mp rt;subst e1;obtain rfl:v=P7 c:=r1;obtain⟨h1,h2⟩:=tD I1 (show RelV (.ref c) (.ref c)from rfl) (.inl ⟨rfl,vs,SqL.of e3⟩)
  refine⟨_,_,Rb,PySem.F.slot_list_count,PySem.F.type_list_count,h1,h2,?_⟩
  rw[hs];refine RX rfl (Sg (SD (bV (hb kt s1 σ H1 _ I1 (a6 (f:=fb) E' q1)) λu s2 ⟨y,H2,I2,r2,t2,rt2,s'',E'',q2⟩=>SO ?_)))
  unfold ox at q2
  split at q2
  ·rename_i l' heq
   cases heq
   split at q2
   ·rename_i hd3
    obtain⟨hd,hnx,hny⟩:=hd3
    have rv:=Rep.val I2 (show(T.lst l).nd=ZC by unfold T.nd;exact hny) (rt.same s'') (show RelV (.ref c) (.ref c)from rfl)
    unfold ReV at rv;obtain⟨c',us,ec,hl,rs⟩:=rv;cases ec;obtain⟨⟨cls,dd,data,sl⟩,ho,hc,n,hdd⟩:=id hl;simp only at hc hdd;subst hc hdd;obtain⟨e,he,ha⟩:=we (A:=X.A.in1) (Rep.val I2 hnx rt2 r2) (by show X.A.units+1+60<cLine;omega) hd rs
    have hc:us.toArray.toList.countP e=l.countP λt=>aX t t2:=by
     have h1:(us.map e).countP id=us.countP e:=by rw[Vr];rfl
     have h2:(l.map λt=>aX t t2).countP id=l.countP λt=>aX t t2:=by rw[Vr];rfl
     rw[<-h2,<-ha,h1]
    refine Tf F.slot_list_count ⟨_,ho,rfl⟩ F.entry_list_count (F.args_list_count_2 _ _) (list_countAt c us.toArray n dd sl u e) ⟨ho,λy hy=>he y (by simpa using hy),?_⟩
    rw[hc];exact⟨.int _,H2,I2.tok _,⟨_,rfl⟩,q2 H2 (Same.refl H2) _ (Rep.GT _)⟩
   ·exact q2.elim
  ·rename_i hno
   exact(hno l rfl).elim
 |_=>exact q1.elim
def JP(hu:X.A.units+1<cLine)(ha:cg X a fa)(hb:cg X b fb)(hn:autoParam (a9 b=ZC) u_)
  (hbase:autoParam (Qj a "get" X.env (eval a X.env)=eval a X.env) u_) (hline:autoParam ((apos.endLine == cpos.line)=ZC) u_):cg X (.Call (.Attribute a "get" apos) [b] [] cpos) (oD ji fa fb):=by
 have hs:PR [b] X.env=(ZD,eval b X.env)::PR [] X.env:=aU hn;refine PE.imp (CS hu ha hb ⟨hbase,by rw[hs];rfl,hline,by rw[hs];rfl⟩) λσ H Q ⟨Z,O,E,hq⟩=>?_
 obtain⟨Z1,O1,E1,h1⟩:=a6 E hq;refine⟨Z1,O1,E1,Post.mono h1 λt H1 s1 q v r=>?_⟩
 obtain⟨t',r',s',E',q'⟩:=q v r
 cases t' with
 |dct ks vs=>
  obtain⟨c,kvs,e1,e2,e3,e4,e5⟩:=Rep.GE.mp r';refine⟨c,e1,.inr ⟨kvs,e3⟩,?_⟩
  obtain⟨Z2,O2,E2,h2⟩:=a6 (f:=fb) E' q';refine⟨Z2,O2,E2,Post.mono h2 λt2 H2 s2 q2 v2 r2=>?_⟩
  obtain⟨t2',r2',s2',E2',q2'⟩:=q2 v2 r2;unfold ji at q2'
  split at q2'
  ·rename_i ks' vs' k heq hk
   cases heq;obtain⟨b,f1,f2⟩:=lW hk r2'
   have g:=l8 (k:=k) e4 (e5.same s2');refine⟨kr kvs k,by rw[f1];exact DGet.Pb (Rd.O0 (P:=kI) (SameO.of s2') (λz=>z) e3) f2,?_⟩
   cases hx:lq ks vs k with
   |some z=>
    rw[hx]at g q2';obtain⟨w,g1,g2⟩:=g;rw[g1]
    exact q2' H2 (Same.refl H2) w g2
   |none=>
    rw[hx]at g q2';rw[g];exact q2' H2 (Same.refl H2) .non Rep.OU
  ·exact q2'.elim
 |_=>exact q'.elim
def Kb(hu:X.A.units+1<cLine):OpT X (QC .In) Ey:=by
 intro kt s σ H O x y vx vy ux uy Q I hf rx ry r1 r2 hp;unfold Ey at hp
 split at hp
 ·rename_i ks vs k hk
  obtain⟨c,kvs,e1,e2,e3,e4,e5⟩:=Rep.GE.mp ry;obtain⟨b,f1,f2⟩:=lW hk rx;subst e1 f1;obtain rfl:uy=P7 c:=r2
  have g:=l8 (k:=k) e4 e5
  have hsome:(lq ks vs k).isSome=(kr kvs k).isSome:=by
   cases hx:lq ks vs k with
   |some z=>rw[hx]at g;obtain⟨w,g1,_⟩:=g;rw[g1];rfl
   |none=>rw[hx]at g;rw[g];rfl
  refine d_in hu I (DGet.Pb e3 f2) r1 λs' I'=>⟨.bl _,H,I',rfl,?_⟩
  rw[<-hsome];exact hp H (Same.refl H) _ (Rep.bl_ _)
 ·exact hp.elim
end
section
variable {c:ZG}{fc:Y2}{p2 p3 p4:Pos}{x:Str}
def Jy(i:Nat)(hu:X.A.units+1<cLine)(hb:cg X b fb)(hc:cg X c fc)(hN:autoParam (X.N[i]?=ZA x) u_)(hv:autoParam (jk X.env.scope x) v_)
  (hd:autoParam ((x == ("__debug__" : Str))=ZD) s_) (hcd:autoParam ((x == ("__classdict__" : Str))=ZD) s_)
  (hs:autoParam (Qt c (ZA (.Subscript (.Name x p2) b p3)) pos.line X.env=pure ZD) u_):mh X (.Assign [.Subscript (.Name x p2) b p3] c pos) (AU i fb fc):=by
 intro kt s σ H D I ⟨Z,B,M,E,h⟩;refine Gv hu (dt hN hv hd hcd) hb hc hs kt s σ H D I ?_
 unfold AU at h
 split at h
 ·rename_i ks vs hl
  obtain⟨v0,e1,d,kvs,rfl,hM,e3,e4,e5⟩:=E.env.own i _ hl;obtain⟨nd,nz⟩:=EB I e3;refine⟨Z,OO B M,E.o,?_⟩
  cases q:fc Z with
  |bad=>rw[q]at h;exact h.elim
  |err c=>rw[q]at h;exact PostF.xa h
  |ok vT=>
   rw[q,ax]at h;intro H1 s1 v r;refine⟨.ref d,e1,Z,OO B M,(E.same s1).o,?_⟩
   have h1:=h.later (SameO.of s1) (P1:=M.u) λa z=>.inl z
   cases q2:fb Z with
   |bad=>rw[q2]at h1;exact h1.elim
   |err c=>rw[q2]at h1;exact PostF.xa h1
   |ok kT=>
    rw[q2,ax]at h1;intro H2 s2 y ry
    cases q3:keyOf kT with
    |none=>rw[q3]at h1;exact h1.elim
    |some k=>
     rw[q3]at h1
     have h2:=h1.later (SameO.of s2) (P1:=M.u) λa z=>.inl z
     have hlen:ks.length=kvs.length:=by have:=congrArg Sa e4;simpa using this
     by_cases hz:ks.length<1000
     ·simp only[if_pos hz]at h2
      obtain⟨kb,f1,f2⟩:=lW q3 ry
      have e3':=s2 _ _ (s1 _ _ e3);obtain⟨g1,g2⟩:=ql q3 (r.same s2) e4 ((e5.same s1).same s2) nd;refine⟨d,upd H2 d (.dT (eg kvs k v)),rfl,by rw[f1];exact DPut.t e3' f2 (by rw[RB];omega),?_⟩
      have sm:SameO (M i) H2 (upd H2 d (.dT (eg kvs k v))):=λc u e nb=>by rw[aH (λz=>nb ((hM c).mpr z))];exact e
      obtain⟨g3,g4⟩:=((E.same s1).same s2).put (o':=.dct (gp kT vT ks vs).1 (gp kT vT ks vs).2) hl e1 sm ⟨d,_,rfl,hM,aL,g1,g2.move (P:=M i) (λa z=>.inl (.inr ⟨i,z⟩)) (λa z=>.inl z) sm⟩
      exact h2 σ _ M g4 g3 λc z=>.inl z
     ·simp only[if_neg hz]at h2
      exact h2.elim
 ·exact h.elim
end
end Tr
namespace PySem
open Sem (wp)
namespace F
def lk_list_keys:TC (.type "list") "keys" =pure ZB:=by rw[Tv,R6];kernel_rfl
def lk_list_getattr:TC (.type "list") "__getattr__" =pure ZB:=by rw[Tv,R6];kernel_rfl
end F
section
variable {h:ZH}{g:Array Wm}{t:Nat}{a:ZE}{its:Array Px}
def nY{tk:Tok}{Q:Fin->Pz->Prop}(hx:h.get? a=ZA {cls:=.type "list",data:=.seq its n})(hh:A.handled=ZB)
  (hq:∀h' tk' e,XJ h h' e (.ref a) "keys"->E (.ref e) ⟨h',g,d,tk',os⟩):
  ZJ (ZK prog w) A (Builtin.«object.__getattribute__» ⟨[.ref a,.str "keys" tk],[]⟩) Q E ⟨h,g,d,t,os⟩:=by
 have hT:(⟨h,g,d,t,os⟩:Pz).TypeIs (.ref a) "list":=⟨_,hx,rfl⟩
 have f4:=F.lk_list_keys
 repeat (any_goals (first|assumption|wp_step))
 exact wpAny_raiseAttrError hh (λh' tk e hx=>hq h' tk e hx) (attrMsg_fits (by decide+kernel) (by rw[RB];decide))
def p6{tk:Tok}(hx:h.get? a=ZA {cls:=.type "list",data:=.seq its n})(hh:A.handled=ZB)
  (hq:∀h' tk' e,XJ h h' e (.ref a) "keys"->R (.error (.ref e)) ⟨h',g,d,tk',os⟩):
  ZL (ZK prog w) A (.call (.builtin "list.__getattribute__") ⟨[.ref a,.str "keys" tk],[]⟩) R ⟨h,g,d,t,os⟩:=
 Ue Sq.plain F.entry_list_ga (Sq.check _ _ _ _ _ _ _ _ (show(⟨h,g,d,t,os⟩:Pz).TypeIs (.ref a) "list" from⟨_,hx,rfl⟩) (F.args_list_getattribute_2 _ _) (nY hx hh hq))
def p7{Q:Option Px->Pz->Prop}(hx:h.get? a=ZA {cls:=.type "list",data:=.seq its n})(hh:A.handled=ZB)
  (hq:∀h' tk',(∀b o,h.get? b=ZA o->h'.get? b=ZA o)->Q ZB ⟨h',g,d,tk',os⟩):ZJ (ZK prog w) A (getAttr? (.ref a) "keys") Q E ⟨h,g,d,t,os⟩:=by
 have hT:∀tk,(⟨h,g,d,tk,os⟩:Pz).TypeIs (.ref a) "list":=λ_=>⟨_,hx,rfl⟩
 have f1:=sub_AttributeError
 have f2:=Sq.lookup
 have f3:=Sq.bind (.ref a)
 have f5:=F.lk_list_getattr;unfold getAttr? getAttrBy? getAttrBy
 repeat (any_goals (first|assumption|exact hT _|wp_step))
 refine p6 hx hh λh' tk' e hx'=>?_
 obtain⟨t',u',he⟩:=hx'.there
 repeat (any_goals (first|assumption|exact hT _|wp_step))
 exact hq _ _ hx'.keeps
end
end PySem
namespace PySem.F
def entry_dict_update_loop:entryFor table "dict.update.loop" =ZA Builtin.«dict.update.loop»:=entryFor_of_tree (by kernel_rfl)
def plain_dict_update_loop:plainId "dict.update.loop" =ZC:=by decide+kernel
end PySem.F
variable{Q:Option Nat->Ux->Prop}
namespace Tr
open PySem PySem.Spec PyProof.Rows L2
def jw(kvs:List (List Key×V)):List (List Key×V)->List (List Key×V)
 |[] =>kvs
 |p::ps=>jw (eg kvs p.1 p.2) ps
def PairsAt(H:Hp):List V->List (List Key×V)->Prop
 |[],ps=>ps=[]
 |x::xs,ps=>∃b kb p r,ps=p::r/\x=.ref b/\H b=ZA (.tup [.ref kb,p.2])/\H kb=ZA (.tup (p.1.map kV))/\PairsAt H xs r
variable{H:Hp}{d:ZE}{kvs:List (List Key×V)}
theorem PairsAt.upd{o:HO}(hd:H d=ZA (.dT kvs)):∀{xs:List V}{ps:List (List Key×V)},PairsAt H xs ps->PairsAt (L2.upd H d o) xs ps
 |[],_,h=>h
 |x::xs,_,⟨b,kb,p,r,e1,e2,e3,e4,e5⟩=>⟨b,kb,p,r,e1,e2,by rw[aH (pU e3 hd (λz=>nomatch z))];exact e3,by rw[aH (pU e4 hd (λz=>nomatch z))];exact e4,e5.upd hd⟩
def tu{a b:HO}:upd (upd H d a) d b=upd H d b:=by
 funext c
 by_cases h:c=d
 ·rw[h,aL,aL]
 ·rw[aH h,aH h,aH h]
variable{X:Cx}{kt:Uf}{xs:List V}{σ:L2.St}
section
variable {res:Px}{R:Wp->Pz->Prop}{l it:ZE}
def Bv(hh:A.handled=ZB)(hu:A.units+3<cLine):∀(k i:Nat)(s:Pz)(H:Hp)(kvs ps:List (List Key×V)),xs.length - i=k->i<=xs.length->H l=ZA (.lst xs)->H d=ZA (.dT kvs)->kvs.length+(xs.length - i)<=1000->Inv X kt σ H s->s.heap.IsListIter it l i->qA X kt H it->PairsAt H (xs.drop i) ps →
  (∀s',Inv X kt σ (upd H d (.dT (jw kvs ps))) s'->R (.ok (.ret res)) s')->ZL (ZK X.prog X.w) A (.builtin "dict.update.loop" ⟨[.ref d,.ref it,rawInt i,res],[]⟩) R s:=by
 intro k
 induction k with
 |zero=>
  intro i s H kvs ps hk hi hl hd hz I hit hf hp hR;refine VF F.entry_dict_update_loop ?_
  rw[VM F.plain_dict_update_loop _];obtain⟨z,its,n,r,hlen,e⟩:=I.Ox hl
  have hL:s.heap.IsList l its.toArray:=⟨_,e,rfl,n,rfl⟩
  show ZJ _ A.in1 (pyNext (.ref it) >>= _) _ _ s
  refine PD (VB hh hit hL (by simp;omega) λh' hm=>?_)
  show ZJ _ _ (Builtin.Dict.addKeywords d [] >>= _) _ _ _
  refine PD (PX (PX ?_))
  have hnil:xs.drop i=[]:=Tx (by omega)
  rw[hnil]at hp;unfold PairsAt at hp;subst hp
  have e2:upd H d (.dT (jw kvs []))=H:=by
   funext b
   by_cases hb:b=d
   ·rw[hb,aL,hd];rfl
   ·rw[aH hb]
  rw[e2]at hR
  exact hR _ (I.OI (fp:=[it]) (t':=s.toks) (λb hb=>by rw[PL.mp hb];exact hf) λb o hb eb=>hm b o (λz=>hb (by rw[z];exact PL.mpr rfl)) eb)
 |succ k ih=>
  intro i s H kvs ps hk hi hl hd hz I hit hf hp hR;refine VF F.entry_dict_update_loop ?_
  rw[VM F.plain_dict_update_loop _];obtain⟨z,its,n,r,hlen,e⟩:=I.Ox hl
  have hL:s.heap.IsList l its.toArray:=⟨_,e,rfl,n,rfl⟩
  have hlt:i<xs.length:=by omega
  have hlt':i<its.length:=by omega
  show ZJ _ A.in1 (pyNext (.ref it) >>= _) _ _ s
  refine PD (Vi hit hL (x:=its[i]) (by simp[hlt']) λh' hit' hm=>?_)
  have I1:Inv X kt σ H {s with heap:=h'}:=I.OI (fp:=[it]) (t':=s.toks) (λb hb=>by rw[PL.mp hb];exact hf) λb o hb eb=>(hm.2 b (λz=>hb (by rw[z];exact PL.mpr rfl))).trans eb
  have hdrop:xs.drop i=xs[i] ::xs.drop (i+1):=Rh hlt;rw[hdrop]at hp;obtain⟨b,kb,p,r',rfl,ex,hb,hkb,hp'⟩:=hp
  have rx:RelV xs[i] its[i]:=by
   obtain⟨u,q1,q2⟩:=r.get (P5 hlt)
   rw[P5 hlt']at q1
   cases q1;exact q2
  rw[ex]at rx
  have eu:its[i]=P7 b:=rx;rw[eu];obtain⟨z2,its2,r2,ob,hob1,hob2,nb,hob3⟩:=(show ObjOk X.prog X.w H h' b (.tup [.ref kb,p.2])from I1.hok b _ hb)
  obtain⟨u1,us1,q1,rfl⟩:∃u1 us1,RelV (V.ref kb) u1/\its2=u1::us1:=by cases r2 with|cons a b=>exact⟨_,_,a,rfl⟩
  cases r2 with
  |cons ra rb=>
   obtain⟨u2,q2,rfl⟩:∃u2,RelV p.2 u2/\us1=[u2]:=by cases rb with|cons a b=>cases b;exact⟨_,a,rfl⟩
   obtain rfl:u1=P7 kb:=q1
   show ZJ _ A.in1 (holding [P7 b] _ >>= _) _ _ _
   refine PD (Tu ?_)
   refine PD (wpAny_tryCatch ?_)
   unfold Builtin.Dict.pairItems;refine PD (TZ (s:={s with heap:=h'}) (T:="tuple") ⟨ob,hob1,hob2⟩ ?_)
   rw[if_pos (by decide)]
   refine PD (VV (s:={s with heap:=h'}) hob1 hob3 (PX ?_))
   show ZJ _ _ (holding [P7 kb,u2] (dictSet d (.ref kb) u2)) _ _ _
   refine Tu ?_
   obtain⟨zz,hds,xs2,rel,dd⟩:=Et I1.hok hd
   have hzl:xs2.length<=ZI:=by rw[<-U4 rel];exact zz
   have hkl:kvs.length<ZI:=by rw[RB];omega
   have hl2:(eg kvs p.1 p.2).length<=ZI:=by have:=gG kvs p.1 p.2;omega
   refine wpAny_dictSet_heap (hsz:=hzl) (SF (by show A.units+1<cLine;omega)) (key_of I1.hok hkb) dd λh2 dd2 hs2=>?_
   obtain⟨q,es,ep,hq,h22,h3,h4,_,h5⟩:=dd2
   have I2:Inv X kt σ (upd H d (.dT (eg kvs p.1 p.2))) {s with heap:=h2,toks:=s.toks+(UY (cT X.prog X.w)).draws p.1}:=
    uP (s:={s with heap:=h'}) I1 (by rw[hd];exact Sj) hs2 ⟨q,hq⟩ ⟨hl2,hds,_,(rel.put p.1 hkb q2).keeps λc ys ec=>by rw[aH (pU ec hd (λz=>nomatch z))];exact ec,q,es,ep,hq,h22,h3,h4,h5⟩
   have hld:l≠d:=pU hl hd (λz=>nomatch z)
   have hitd:it≠d:=λz=>by have:=hf.1;rw[z,hd]at this;cases this
   have hcast:(i:Int)+1=((i+1:Nat):Int):=by omega
   refine PX ⟨plainId_quiet F.plain_dict_update_loop _,?_⟩
   rw[hcast];refine ih (i+1) _ (upd H d (.dT (eg kvs p.1 p.2))) (eg kvs p.1 p.2) r' (by omega) (by omega) (by rw[aH hld];exact hl) aL (by have:=gG kvs p.1 p.2;omega) I2 ?_ ⟨by rw[aH hitd];exact hf.1,hf.2⟩ (hp'.upd hd) λs' I'=>?_
   ·obtain⟨oi,ho1,ho2,ho3⟩:=hit'
    exact⟨oi,(hs2.2 it hitd).trans ho1,ho2,ho3⟩
   ·rw[tu]at I'
    exact hR s' I'
end
theorem PairsAt.same{H':Hp}(s:Same H H'):∀{xs:List V}{ps:List (List Key×V)},PairsAt H xs ps->PairsAt H' xs ps
 |[],_,h=>h
 |x::xs,_,⟨b,kb,p,r,e1,e2,e3,e4,e5⟩=>⟨b,kb,p,r,e1,e2,s _ _ e3,s _ _ e4,e5.same s⟩
section
variable {l:ZE}{ps:List (List Key×V)}
def xf{Q:WP}(hh:A.handled=ZB)(hu:A.units+8<cLine)(I:Inv X kt σ H s)(hl:H l=ZA (.lst xs))(hz:xs.length<=1000)(hp:PairsAt H xs ps)
  (h:∀p s',Nw X.K H p->Inv X kt σ (upd H p (.dT (jw [] ps))) s'->Q (.ref p) s'):ZJ (ZK X.prog X.w) A (call (.type "dict") [.ref l]) Q E s:=by
 have hk:X.K.lookup s.heap.objs.size=ZB:=by
  cases q:X.K.lookup s.heap.objs.size with
  |none=>rfl
  |some o=>exact absurd (PU (I.kIn _ o q)) (Qm _)
 have hn:H s.heap.objs.size=ZB:=I.hok.fresh (PP _)
 have hlp:l≠s.heap.objs.size:=λz=>by rw[z,hn]at hl;cases hl
 refine callType_codes (Q₁:=λobj s₁=>obj=.ref s.heap.objs.size/\s₁= {s with heap:=s.heap.push {cls:=.type "dict",data:=.dict #[]}}) F.kt_called_dict (F.kt_typeCall_dict_1 _) F.entry_dict_init (kt_code_dict_new _ ⟨rfl,rfl⟩) ?_
 rintro obj s₁ ⟨rfl,rfl⟩
 have I1:Inv X kt σ (upd H s.heap.objs.size (.dT [])) {s with heap:=s.heap.push {cls:=.type "dict",data:=.dict #[]}}:=I.laid (a:=s.heap.objs.size) (o:=.dT []) (t':=s.toks) (λ_ _ q=>PN _ q) (PP _) (Eu s.heap I.big)
 have hT:({s with heap:=s.heap.push {cls:=.type "dict",data:=.dict #[]}}:Pz).TypeIs (.ref s.heap.objs.size) "dict":=⟨_,Qc _ rfl,rfl⟩
 have hl1:upd H s.heap.objs.size (.dT []) l=ZA (.lst xs):=by rw[aH hlp];exact hl
 obtain⟨z,its,n,r,hlen,e⟩:=I1.Ox hl1;refine⟨hT,F.args_dict_init_2 _ _,?_⟩
 unfold Builtin.«dict.__init__»;refine PD ?_
 unfold Builtin.Dict.selfAndRest;refine PD (wpAny_notOrdered_dict hT ?_)
 show ZJ _ _ (pure (s.heap.objs.size,[P7 l])) _ _ _
 refine PX ?_
 show ZJ _ _ (U2 "dict.__init__" s.heap.objs.size (.ref l) [] .none) _ _ _
 unfold U2;refine PD (TZ (T:="list") ⟨_,e,rfl⟩ ?_)
 rw[if_pos (by decide)]
 refine PD (p7 e hh λh' tk' kp=>?_)
 have I2:Inv X kt σ (upd H s.heap.objs.size (.dT [])) {s with heap:=h',toks:=tk'}:=I1.kept (t':=tk') kp
 rw[if_pos (by rfl)]
 refine PD (Ul ?_)
 have eL:({s with heap:=h',toks:=tk'}:Pz).heap.IsList l its.toArray:=⟨_,kp _ _ e,rfl,n,rfl⟩
 refine PD (UZ eL ?_)
 have I3:Inv X kt σ (upd H s.heap.objs.size (.dT [])) {s with heap:=h'.push {cls:=.type "list_iterator",data:=.fields #[.ref l,.int 0 0]},toks:=tk'}:=I2.kept (t':=tk') λb u q=>PN _ q
 have hpl:s.heap.objs.size<h'.objs.size:=PU (kp _ _ (Qc _ rfl))
 have hni:upd H s.heap.objs.size (.dT []) h'.objs.size=ZB:=by
  rw[aH (Ss hpl)];exact I.hok.fresh (RH hpl)
 have hp1:PairsAt (upd H s.heap.objs.size (.dT [])) xs ps:=hp.same (aW hn _);refine PX ⟨plainId_quiet F.plain_dict_update_loop _,?_⟩
 refine Bv (A:=A.in1) (X:=X) (kt:=kt) (σ:=σ) (l:=l) (xs:=xs) (it:=h'.objs.size) hh (by show A.units+1+3<cLine;omega) xs.length 0 _ (upd H s.heap.objs.size (.dT [])) [] ps (by omega) (QQ _) hl1 aL (by simp;omega) I3 ⟨_,Qc _ rfl,rfl,rfl⟩ (I2.OL (PP _) hni) hp1 λs' I'=>?_
 rw[tu]at I';exact⟨rfl,h _ _ ⟨hn,hk⟩ I'⟩
end
def hu8(h:Room k A):A.units+8<cLine:=by have:=h.un;omega
def yg{k:List Key}{v:V}(h:(kvs.map (·.1)).Nodup):((eg kvs k v).map (·.1)).Nodup:=by
 unfold eg
 by_cases a:(kvs.any λkv=>decide (kv.1=k))=ZC
 ·rw[if_pos a,SL]
  have:((λx=>x.1)∘λkv:List Key×V=>if kv.1=k then(kv.1,v)else kv)=λx=>x.1:=by
   funext x
   show(if x.1=k then(x.1,v)else x).1=x.1
   by_cases e:x.1=k
   ·rw[if_pos e]
   ·rw[if_neg e]
  rw[this];exact h
 ·rw[if_neg a,Q6,Qs]
  refine⟨h,by simp,λx hx y hy=>?_⟩
  simp only[PF,TL,PL]at hy;subst hy;intro z;subst z;obtain⟨p,hp,e⟩:=Qa.mp hx;exact a (T5.mpr ⟨p,hp,decide_eq_true e⟩)
def Ol(K:Pv)(O:Ow)(H:Hp):List (T×T)->List (List Key×V)->Prop
 |[],ps=>ps=[]
 |a::l,ps=>∃p r,ps=p::r/\keyOf a.1=ZA p.1/\Rep K O H a.2 p.2/\Ol K O H l r
variable{O:Ow}
theorem mY:∀{l:List (T×T)}{ps:List (List Key×V)}{ks ts:List T}{kvs:List (List Key×V)},Ol K O H l ps->ks.map keyOf=kvs.map (λp=>ZA p.1)->Reps K O H ts (kvs.map (·.2))->(kvs.map (·.1)).Nodup →
  (gn l (ks,ts)).1.map keyOf=(jw kvs ps).map (λp=>ZA p.1)/\Reps K O H (gn l (ks,ts)).2 ((jw kvs ps).map (·.2))
 |[],ps,ks,ts,kvs,h,h1,h2,hn=>by unfold Ol at h;subst h;exact⟨h1,h2⟩
 | (a,b)::l,ps,ks,ts,kvs,h,h1,h2,hn=>by
  obtain⟨p,r,rfl,e1,e2,e3⟩:=h;obtain⟨g1,g2⟩:=ql (vT:=b) e1 e2 h1 h2 hn
  show(gn l (gp a b ks ts)).1.map keyOf=(jw (eg kvs p.1 p.2) r).map (λp=>ZA p.1)/\Reps K O H (gn l (gp a b ks ts)).2 ((jw (eg kvs p.1 p.2) r).map (·.2))
  exact mY (l:=l) e3 g1 g2 (yg hn)
theorem tV:∀{l:List T}{tps:List (T×T)}{xs:List V},Ig l=ZA tps->Reps K O H l xs->∃ps,PairsAt H xs ps/\Ol K O H tps ps
 |[],tps,xs,h,r=>by cases Reps.Da.mp r;cases h;exact⟨[],rfl,rfl⟩
 |t::l,tps,xs,h,r=>by
  obtain⟨v,ws,rfl,p,q⟩:=Reps.me.mp r;unfold Ig at h
  split at h
  ·rename_i heq;cases heq
  ·rename_i k v' l' heq
   cases heq
   split at h
   ·rename_i kk rr hk hr
    cases h;obtain⟨ps,g1,g2⟩:=tV hr q;obtain⟨b,vs,e1,e2,e3,e4⟩:=Rep.Fk.mp p;obtain⟨u1,us1,rfl,f1,f2⟩:=Reps.me.mp e4;obtain⟨u2,us2,rfl,f3,f4⟩:=Reps.me.mp f2;cases Reps.Da.mp f4;obtain⟨kb,f5,f6⟩:=lW hk f1;subst f5;exact⟨(kk,u2)::ps,⟨b,kb,(kk,u2),ps,rfl,e1,e3,f6,g1⟩,⟨(kk,u2),ps,rfl,hk,f3,g2⟩⟩
   ·cases h
  ·cases h
section
variable {e:ZG}{f:Y2}{x y:Str}{p pos p2 p3:Pos}
def HA(hu:X.A.units+8<cLine)(hc:X.calm=ZC):CallT X (.type "dict") l7:=by
 intro kt s σ H O ts vs us Q I hf rs rv hp;unfold l7 at hp
 split at hp
 ·rename_i l
  obtain⟨v,rfl,r⟩:=rs.one;obtain⟨a,xs,rfl,e2,e3,e4⟩:=Rep.Do.mp r;obtain⟨u,rfl,ru⟩:=rv.one;obtain rfl:u=P7 a:=ru
  split at hp
  ·rename_i tps hps
   by_cases hz:l.length<=1000
   ·rw[if_pos hz]at hp
    obtain⟨ps,g1,g2⟩:=tV hps e4;refine xf (I.ok.hd hc) hu I e3 (by rw[<-e4.length];exact hz) g1 λq s' nw I'=>⟨.ref q,_,I',rfl,hp _ (aW nw.1 _) _ ?_⟩
    obtain⟨k1,k2⟩:=mY (ks:=[]) (ts:=[]) (kvs:=[]) g2 rfl Reps.GM RE;exact Rep.GE.mpr ⟨q,_,rfl,hf q nw.1,.inl aL,k1,k2.same (aW nw.1 _)⟩
   ·rw[if_neg hz]at hp;exact hp.elim
  ·exact hp.elim
 ·exact hp.elim
def Jf(X:Cx)(f:Y2):TE:=λσ H Q=>tP X f σ H λv H'=>∃a xs ps,v=.ref a/\H' a=ZA (.lst xs)/\xs.length<=1000/\PairsAt H' xs ps/\∀q,Nw X.K H' q->Q (.ref q) (upd H' q (.dT (jw [] ps)))
def CQ(hu:X.A.units+8<cLine)(hc:X.calm=ZC)(hm:X.mg "dict" =ZB)(ha:cg X e f)(hg:Gl X "dict")(hs:a9 e=ZC):PE X (.Call (.Name "dict" p) [e] [] pos) (Jf X f):=by
 have h1:PR [e] X.env=(ZD,eval e X.env)::PR [] X.env:=aU hs;intro kt s σ H Q I hq;refine Q1 (fO I hg hm (show Qw "dict" =ZA (.type "dict")by decide+kernel) ?_ (by decide) (by decide))
 refine QV (bV (cS (te:=tP X f) ha fM h1 pos kt s σ H (λxs H'=>∃v,xs=[v]/\∃a xs ps,v=.ref a/\H' a=ZA (.lst xs)/\xs.length<=1000/\PairsAt H' xs ps/\∀q,Nw X.K H' q->Q (.ref q) (upd H' q (.dT (jw [] ps)))) I ?_) λus s1 hh=>?_) h1 rfl
 ·obtain⟨Z,O,E,h⟩:=hq
  exact⟨Z,O,E,Post.mono h λt H' _ g v r=>⟨v,rfl,g v r⟩⟩
 ·obtain⟨vs,H1,I1,r1,v,rfl,a,xs,ps,ev,e1,e2,e3,e4⟩:=hh
  subst ev;obtain⟨u,rfl,ru⟩:=r1.one;obtain rfl:u=P7 a:=ru;exact xf (I1.ok.hd hc) hu I1 e1 e2 e3 λq s' nw I'=>⟨.ref q,_,I',rfl,e4 q nw⟩
def F7(i:Nat)(hu:X.A.units+8<cLine)(hc:X.calm=ZC)(hm:X.mg "dict" =ZB)(hN:X.N.Nodup)(ha:cg X e f)(hst:autoParam (a9 e=ZC) u_)(hg:autoParam (Gl X "dict") u_)(hi:autoParam (X.N[i]?=ZA x) u_)(hx:autoParam (Loc X.env.scope x) y_)(hs:autoParam (Qt (.Call (.Name "dict" p) [e] [] p2) (ZA (.Name x p3)) pos.line X.env=pure ZD) u_)
  (hf:autoParam (X.fn x=ZC\/X.env.scope.names.lookup x=ZA .local) r_):mh X (.Assign [.Name x p3] (.Call (.Name "dict" p) [e] [] p2) pos) (rO i f):=PS.imp (pq hN hi hx (CQ hu hc hm ha hg hst) hs hf) λD σ H hh_=>by
 obtain⟨Z,B,M,E,h⟩:=hh_;refine⟨Z,OO B M,E.o,?_⟩
 unfold rO at h
 cases q:f Z with
 |bad=>rw[q]at h;exact h.elim
 |err c=>rw[q]at h;exact PostF.xa h
 |ok t=>
  rw[q,ax]at h;intro H1 s1 v r
  have h1:=h.later (SameO.of s1) (P1:=M.u) λa z=>.inl z
  cases t with
  |lst l=>
   obtain⟨a,xs,rfl,e2,e3,e4⟩:=Rep.Do.mp r;unfold l7 at h1
   split at h1
   ·rename_i l' heq
    cases heq
    split at h1
    ·rename_i tps hps
     by_cases hz:l.length<=1000
     ·rw[if_pos hz,ax]at h1
      obtain⟨ps,g1,g2⟩:=tV hps e4;refine⟨a,xs,ps,rfl,e3,by rw[<-e4.length];exact hz,g1,λnd nw=>?_⟩
      by_cases hl:i<Z.length
      ·simp only[if_pos hl]at h1
       have hm:∀a,a=nd->Nw X.K H1 a:=λa z=>z▸nw
       obtain⟨k1,k2⟩:=mY (ks:=[]) (ts:=[]) (kvs:=[]) g2 rfl Reps.GM RE;obtain⟨E2,sub⟩:=(E.same s1).new (m:=λa=>a=nd) (o:=.dct (gn tps ([],[])).1 (gn tps ([],[])).2) (v:=.ref nd) (H':=upd H1 nd (.dT (jw [] ps))) hl hm (aW nw.1 _) ⟨nd,_,rfl,λb=>SC,aL,k1,(k2.more (Ev.subO hm)).same (aW nw.1 _)⟩
       exact h1 _ _ _ (SameO.of (aW nw.1 _)) E2 sub
      ·simp only[if_neg hl]at h1;exact h1.elim
     ·rw[if_neg hz]at h1;exact h1.elim
    ·exact h1.elim
   ·rename_i hno
    exact(hno l rfl).elim
  |_=>exact h1.elim
end
theorem gc:∀{l:List T}{ns:List Int}{xs:List V}{us:List Px},je l=ZA ns->Reps K O H l xs->Vals xs us->R0 us ns
 |[],ns,xs,us,h,r,v=>by cases Reps.Da.mp r;cases v;cases h;exact .nil
 |t::l,ns,xs,us,h,r,v=>by
  obtain⟨w,ws,rfl,p,q⟩:=Reps.me.mp r
  cases v with
  |cons v1 v2=>
   cases t with
   |int i=>
    unfold je at h;obtain⟨m,h1,rfl⟩:=RY.mp h;cases Rep.AC.mp p;obtain⟨k,rfl⟩:=v1
    exact .cons _ _ (gc h1 q v2)
   |_=>cases h
theorem rY:∀(l:List Int)(i:Int),yw i l∈i::l/\∀a∈i::l,yw i l<=a
 |[],i=>⟨PB,λa h=>by cases PL.mp h;exact RS _⟩
 |j::l,i=>by
  obtain⟨h1,h2⟩:=rY l (if j<i then j else i)
  unfold yw
  have h3:=h2 _ PB;refine⟨?_,λa ha=>?_⟩
  ·rcases PJ.mp h1 with e|e
   ·rw[e]
    by_cases h:j<i
    ·rw[if_pos h];simp
    ·rw[if_neg h];simp
   ·exact Pw _ (Pw _ e)
  ·rcases PJ.mp ha with rfl|ha
   ·by_cases h:j<a
    ·rw[if_pos h]at h3 ⊢;omega
    ·rw[if_neg h]at h3 ⊢;omega
   ·rcases PJ.mp ha with rfl|ha
    ·by_cases h:a<i
     ·rw[if_pos h]at h3 ⊢;omega
     ·rw[if_neg h]at h3 ⊢;omega
    ·exact h2 a (Pw _ ha)
def LC(hc:X.calm=ZC):CallT X (.builtin "min") G0:=by
 intro kt s σ H O ts vs us Q I hf rs rv hp;unfold G0 at hp
 split at hp
 ·rename_i l
  obtain⟨v,rfl,r⟩:=rs.one
  split at hp
  ·rename_i i ns hk
   obtain⟨a,ws,rfl,n,q,z⟩:=Rep.Do.mp r;obtain⟨u,rfl,ru⟩:=jm rv;cases ru;obtain⟨its,r',pl,hz⟩:=I.list (SqL.of q)
   have hi:=gc hk z r';obtain⟨xs,e⟩:=hi.allInts.items
   have hns:i::ns=xs.toList.map (·.1):=by rw[<-hi.numsOf,<-nums_intItems,<-e]
   have hl:s.heap.IsList a (intItems xs):=by rw[<-e];exact pl.isList
   have hsz:0<xs.size:=by
    have h3:=congrArg Sa hns;rw[PH,Py]at h3;rw[<-Q9];omega
   refine min_intList (I.ok.hd hc) hl hsz λv h' tk hv hk'=>?_
   obtain⟨t,rfl⟩:=intItems_at hv;obtain⟨h1,h2⟩:=argBest_lt (numAt xs) (xs.size - 1);refine⟨.int _,H,I.kept (t':=tk) hk',⟨_,rfl⟩,?_⟩
   have eM:numAt xs (argBest (λi j=>decide (numAt xs i<numAt xs j)) (xs.size - 1))=yw i ns:=by
    obtain⟨g1,g2⟩:=rY ns i
    have m1:numAt xs (argBest (λi j=>decide (numAt xs i<numAt xs j)) (xs.size - 1))∈i::ns:=by
     rw[hns,numAt_eq];exact PySem.getD_mem (by rw[Py,Q9];omega)
    have k1:=g2 _ m1;rw[hns]at g1;obtain⟨j,hj,ej⟩:=mem_getD g1;rw[Py,Q9]at hj;rw[<-numAt_eq]at ej
    have k2:=h2 j (by omega)
    rw[ej]at k2;exact Int.le_antisymm k2 k1
   rw[eM];exact hp H (Same.refl H) _ (Rep.GT _)
  ·exact hp.elim
 ·rename_i i j
  obtain⟨v,ws,rfl,p,q⟩:=Reps.me.mp rs;obtain⟨v2,rfl,p2⟩:=q.one;cases Rep.AC.mp p;cases Rep.AC.mp p2;refine BB hc kt s σ H _ us Q I rv ⟨i,j,rfl,?_⟩
  exact hp H (Same.refl H) _ (Rep.GT _)
 ·exact hp.elim
def Be(x y:T):Rs T:=match x,y with
 |.tup l,.tup m=>match je l,je m with
  |some ns,ZA ms=>.ok (.bl (cu ns ms))
  |_,_=>.bad
 |x,y=>G3 x y
def rowsT:List T->Option (List (List Int))
 |[] =>ZA []
 |.tup l::r=>match je l,rowsT r with
  |some ns,ZA k=>if ns=[]then ZB else ZA (ns::k)
  |_,_=>ZB
 |_=>ZB
def ou(a b:List Int):Bool:=!cu b a
def vE:List T->Rs T
 |[.lst l] =>match rowsT l with
  |some k=>if k.length<64 then .ok (.lst ((k.mergeSort ou).map λns=>.tup (ns.map .int)))else .bad
  |none=>.bad
 |_=>.bad
theorem jG:∀l,cu l l=ZD
 |[] =>rfl
 |a::l=>by unfold cu;rw[if_pos rfl];exact jG l
theorem lU:∀a b c,cu a b=ZC->cu b c=ZC->cu a c=ZC
 |[],[],_,h,_=>absurd h (by simp[cu])
 |_::_,[],_,h,_=>absurd h (by simp[cu])
 |[],_::_,[],_,h=>absurd h (by simp[cu])
 |[],_::_,_::_,_,_=>rfl
 |_::_,_::_,[],_,h=>absurd h (by simp[cu])
 |x::a,y::b,z::c,h,g=>by
  unfold cu at h g ⊢
  by_cases e:x=y
  ·subst e
   rw[if_pos rfl]at h
   by_cases e2:x=z
   ·rw[if_pos e2]at g ⊢;exact lU a b c h g
   ·rw[if_neg e2]at g ⊢;exact g
  ·rw[if_neg e]at h
   by_cases e2:y=z
   ·subst e2;rw[if_neg e];exact h
   ·rw[if_neg e2]at g
    have h1:=of_decide_eq_true h
    have h2:=of_decide_eq_true g;rw[if_neg (by omega)]
    exact decide_eq_true (by omega)
theorem lV:∀a b,cu a b=ZD->cu b a=ZD->a=b
 |[],[],_,_=>rfl
 |[],_::_,h,_=>absurd h (by simp[cu])
 |_::_,[],_,h=>absurd h (by simp[cu])
 |x::a,y::b,h,g=>by
  unfold cu at h g
  by_cases e:x=y
  ·subst e
   rw[if_pos rfl]at h g;rw[lV a b h g]
  ·rw[if_neg e]at h
   rw[if_neg (λz=>e z.symm)]at g
   have h1:=of_decide_eq_false h
   have h2:=of_decide_eq_false g;omega
def wo(a b c:List Int)(h:cu a c=ZC):cu a b=ZC\/cu b c=ZC:=by
 cases h1:cu a b with
 |true=>exact .inl rfl
 |false=>
  cases h2:cu b a with
  |true=>exact .inr (lU _ _ _ h2 h)
  |false=>rw[<-lV _ _ h1 h2];exact .inr h
def KJ(a b c:List Int)(h:ou a b=ZC)(g:ou b c=ZC):ou a c=ZC:=by
 unfold ou at*
 cases z:cu c a with
 |false=>rfl
 |true=>
  rcases wo c b a z with y|y
  ·rw[y]at g;cases g
  ·rw[y]at h;cases h
def G7(a b:List Int):(ou a b||ou b a)=ZC:=by
 unfold ou
 cases z:cu b a with
 |false=>rfl
 |true=>
  cases y:cu a b with
  |false=>rfl
  |true=>have:=lU _ _ _ z y;rw[jG]at this;cases this
def Dv(a b:List Int)(h:ou a b=ZC)(g:ou b a=ZC):a=b:=by
 unfold ou at h g;refine lV a b ?_ ?_
 ·cases z:cu a b with
  |false=>rfl
  |true=>rw[z]at g;cases g
 ·cases z:cu b a with
  |false=>rfl
  |true=>rw[z]at h;cases h
def Cm{k m:List (List Int)}(p:m.Perm k)(s:m.Pairwise (λa b=>ou a b=ZC)):m=k.mergeSort ou:=
 List.Perm.eq_of_pairwise (le:=λa b=>ou a b=ZC) (λa b _ _ h g=>Dv a b h g) s (List.pairwise_mergeSort KJ G7 k) (p.trans (S4 k ou).symm)
theorem zQ:∀(l m:List Int),HT.lexLt l m=cu l m
 |[],[] =>rfl
 |[],_::_=>rfl
 |_::_,[] =>rfl
 |a::l,b::m=>by
  rw[HT.lexLt_cons,zQ l m]
  rfl
def Ka(hu:X.A.units<cLine):OpT X (QC .Lt) Be:=by
 intro kt s σ H O x y vx vy ux uy Q I hf rx ry r1 r2 hp;unfold Be at hp
 split at hp
 ·rename_i l m
  split at hp
  ·rename_i ns ms h1 h2
   obtain⟨a,vs,rfl,_,e3,e4⟩:=Rep.Fk.mp rx;obtain⟨b,ws,rfl,_,g3,g4⟩:=Rep.Fk.mp ry;obtain rfl:ux=P7 a:=r1;obtain rfl:uy=P7 b:=r2;obtain⟨its,v1,t1,_⟩:=I.tuple (SqT.of e3);obtain⟨its2,v2,t2,_⟩:=I.tuple (SqT.of g3);refine HT.lt_tupInts t1 t2 (by simpa using gc h1 e4 v1) (by simpa using gc h2 g4 v2) hu ⟨.bl _,H,I,rfl,?_⟩
   rw[zQ];exact hp H (Same.refl H) _ (Rep.bl_ _)
  ·exact hp.elim
 ·exact vR kt s σ H O x y vx vy ux uy Q I hf rx ry r1 r2 hp
structure SrtB (k0:VJ)(o:Array XU)(st:Ux):Prop where
 p:(arrOf st).Perm o
 k:kindOf st=k0
 f:U8 st=ZB
 e:S3 st= #[]
def SrtB.len{o:Array XU}(b:SrtB k0 o st):(arrOf st).size=o.size:=b.p.size_eq
variable{xs:Array XU}
def SrtB.arr{o:Array XU}(b:SrtB k0 o st)(h:xs.Perm (arrOf st)):SrtB k0 o (setArr st xs):=⟨h.trans b.p,b.k,b.f,b.e⟩
def xt(κ:KeyKind)(k0:VJ)(prog:Qg)(w:QP)(A:Qq)(s:Pz):Prop:=
 ∀(E:WP)(x y:Px)(a b:κ.α)(Q:Bool->Pz->Prop),κ.keyOf x=ZA a->κ.keyOf y=ZA b->Q (κ.blt a b) s->ZJ (ZK prog w) A (keyLt' k0 x y) Q E s
abbrev gk(κ:KeyKind)(st:Ux)(i:Nat):κ.α:=KK κ (arrOf st) i
variable{κ:KeyKind}
def FH(h:Rw κ xs n)(hl:κ.kle (KK κ xs (n - 1)) (KK κ xs n)):Rw κ xs (n+1):=λi j le lt=>by
 rcases Te j n with z|z
 ·exact h i j le z
 ·obtain rfl:j=n:=by omega
  rcases Te i j with y|y
  ·exact T6 (h i (j - 1) (by omega) (by omega)) hl
  ·rw[show i=j by omega];exact SM _
def oN(h:V7 κ xs n)(hl:κ.kle (KK κ xs n) (KK κ xs (n - 1))):V7 κ xs (n+1):=λi j le lt=>by
 rcases Te j n with z|z
 ·exact h i j le z
 ·obtain rfl:j=n:=by omega
  rcases Te i j with y|y
  ·exact T6 hl (h i (j - 1) (by omega) (by omega))
  ·rw[show i=j by omega];exact SM _
def B7(h:n<=1):Rw κ xs n:=λi j le lt=>by rw[show i=j by omega];exact SM _
def Lx(h:n<=1):V7 κ xs n:=λi j le lt=>by rw[show i=j by omega];exact SM _
section
variable {o:Array XU}
def HX(b:SrtB k0 o st)(ks:KeysOf κ o)(hi:i<o.size):∃z,(arrOf st)[i]?=ZA z/\κ.keyOf z.1=ZA (gk κ st i):=by
 have h1:i<(arrOf st).size:=b.len▸hi;obtain⟨a,ha⟩:=ks _ ((UE.mp b.p).mem_iff.mp (Array.getElem_mem_toList h1))
 have e:=getElem?_pos (arrOf st) i h1
 refine⟨_,e,?_⟩
 show _=ZA (KK κ (arrOf st) i)
 unfold KK;rw[e,ha];simp[ha]
def vF(c:xt κ k0 prog w A s)(ks:KeysOf κ o)(b:SrtB k0 o st){Q:Option Bool->Ux->Prop}(hi:i<o.size)(hj:j<o.size)(q:Q (ZA (κ.blt (gk κ st i) (gk κ st j))) st):
  wpS (ZK prog w) A E s (ltAt' i j) Q st:=by
 obtain⟨⟨x,x2⟩,e1,k1⟩:=HX b ks hi;obtain⟨⟨y,y2⟩,e2,k2⟩:=HX b ks hj;rw[ltAt'_eq];refine Q5 (XW ?_)
 dsimp only
 rw[elem'_eq,elem'_eq,e1,e2];refine Q5 (RF (Q5 (RF ?_)))
 rw[lt'_eq];refine Q5 (XW ?_)
 rw[b.k];exact Q5 (wpS_lift (wpAny_attempt (c _ x y _ _ _ k1 k2 ⟨rfl,RF q⟩)))
def HW{Q:AscSt->Ux->Prop}(c:xt κ k0 prog w A s)(ks:KeysOf κ o)(b:SrtB k0 o st)(hm:m<=o.size)(h1:1<=a)(h2:a<=m)(so:Rw κ (arrOf st) a)
  (q:∀n,a<=n->n<=m->Rw κ (arrOf st) n->(n≠m->κ.klt (gk κ st n) (gk κ st (n - 1)))->Q (ZB,n) st):wpS (ZK prog w) A E s (ascLoop a m) Q st:=by
 unfold ascLoop;refine T1 (I:=λn r st'=>r=(ZB,n)/\st'=st/\Rw κ (arrOf st) n) (λn r st' l1 l2 hI=>?_) (λr st' hI=>?_) ⟨rfl,rfl,so⟩
 ·obtain⟨rfl,rfl,sn⟩:=hI
  refine Q5 (vF c ks b (PQ l2 hm) (SE (WJ _ _) (PQ l2 hm)) ?_)
  cases z:κ.blt (gk κ st' n) (gk κ st' (n - 1))with
  |true=>exact RF (q n l1 (RH l2) sn λ_=>z)
  |false=>exact RF ⟨rfl,rfl,FH sn z⟩
 ·obtain⟨rfl,rfl,sn⟩:=hI
  have e:max a m=m:=T7 h2;rw[e]at sn ⊢;exact q m h2 (PP _) sn λh=>absurd rfl h
def tL{Q:Unit->Ux->Prop}(b:SrtB k0 o st)(q:∀st',SrtB k0 o st'->arrOf st'=mirror (arrOf st) i j ((j - i) / 2)->Q () st'):wpS (ZK prog w) A E s (reverseSlice' i j) Q st:=by
 rw[reverseSlice'_eq];exact WT (q _ (b.arr (mirror_perm _ _ _ _)) rfl)
abbrev EW(κ:KeyKind)(k0:VJ)(o:Array XU)(m:Nat)(Q:Option Nat->Ux->Prop):Prop:=∀n st',SrtB k0 o st'->1<=n->n<=m->Rw κ (arrOf st') n->Q (ZA n) st'
def zi(c:xt κ k0 prog w A s)(ks:KeysOf κ o)(b:SrtB k0 o st)(hm:m<=o.size)(h1:1<=n)(h2:n<=m)(dn:V7 κ (arrOf st) n)(q:EW κ k0 o m Q):
  wpS (ZK prog w) A E s (tail3 n m) Q st:=by
 unfold tail3;refine Q5 (tL b λst' b' e=>Q5 (HW c ks b' hm h1 h2 (λi j le lt=>?_) λk l1 l2 so _=>RF (q k st' b' (by omega) l2 so)))
 have hz:n<=(arrOf st).size:=by rw[b.len];omega
 rw[e,KK_mirror hz,KK_mirror hz,if_pos ⟨QQ _,by omega⟩,if_pos ⟨QQ _,by omega⟩]
 exact dn _ _ (by omega) (by omega)
def uc(g1:k - 1<=i)(g2:i<k):i=k - 1:=Vs (Ua g2) g1
def Mo{Q:DescSt->Ux->Prop}(c:xt κ k0 prog w A s)(ks:KeysOf κ o)(b:SrtB k0 o st)(hm:m<=o.size)(h1:1<=n)(h2:n<=m)(dn:V7 κ (arrOf st) n)
  (q:∀k r st',SrtB k0 o st'->n<=k->k<=m->V7 κ (arrOf st') k->r+1<=k->(∀i,k - (r+1)<=i->i<k->gk κ st' i=gk κ st' (k - 1))->Q (ZB,k,r) st'):wpS (ZK prog w) A E s (descLoop n m) Q st:=by
 unfold descLoop
 refine T1 (I:=λk c st'=>∃r,c=(ZB,k,r)/\SrtB k0 o st'/\V7 κ (arrOf st') k/\r+1<=k/\∀i,k - (r+1)<=i->i<k->gk κ st' i=gk κ st' (k - 1)) (λk r st' l1 l2 hI=>?_) (λr st' hI=>?_)
  ⟨0,rfl,b,dn,h1,λi g1 g2=>by rw[uc g1 g2]⟩
 ·obtain⟨r,rfl,b',d',hr,eq⟩:=hI
  dsimp only
  have kk:=PQ l2 hm
  have kp:k - 1<o.size:=SE (WJ _ _) kk
  have hz:k<=(arrOf st').size:=by rw[b'.len];exact RH kk
  refine Q5 (vF c ks b' kk kp ?_)
  cases z:κ.blt (gk κ st' k) (gk κ st' (k - 1))with
  |true=>
   have d2:=oN d' (UV z)
   show wpS _ _ _ _ (if r > 0 then _ else _) _ _
   by_cases hr0:r > 0
   ·rw[if_pos hr0]
    refine Q5 (tL b' λst2 b2 e2=>RF ⟨0,rfl,b2,λi j le lt=>?_,Vc (QQ _),λi g1 g2=>by rw[uc g1 g2]⟩)
    rw[e2,RW hz eq,RW hz eq];exact d2 i j le lt
   ·rw[if_neg hr0]
    exact RF ⟨0,rfl,b',d2,Vc (QQ _),λi g1 g2=>by rw[uc g1 g2]⟩
  |false=>
   refine Q5 (vF c ks b' kp kk ?_)
   cases y:κ.blt (gk κ st' (k - 1)) (gk κ st' k)with
   |true=>exact RF (q k r st' b' l1 (RH l2) d' hr eq)
   |false=>
    refine RF ⟨r+1,rfl,b',oN d' y,Vc hr,λi g1 g2=>?_⟩
    have e:gk κ st' k=gk κ st' (k - 1):=V1 y z;rw[Nat.add_sub_cancel];rcases Te i k with g3|g3
    ·rw[e];exact eq i (by rw[Nat.add_sub_add_right]at g1;exact g1) g3
    ·rw[Vs (SR g2) g3]
 ·obtain⟨r,rfl,b',d',hr,eq⟩:=hI
  have e:max n m=m:=T7 h2;rw[e]at d' hr eq ⊢;exact q m r st' b' h2 (PP _) d' hr eq
def zj(c:xt κ k0 prog w A s)(ks:KeysOf κ o)(b:SrtB k0 o st)(hm:m<=o.size)(h2:n+1<=m)(dn:V7 κ (arrOf st) (n+1))(q:EW κ k0 o m Q):
  wpS (ZK prog w) A E s (descPart n m) Q st:=by
 unfold descPart;refine Q5 (wpS_lift (Ul ⟨rfl,Q5 (Mo c ks b hm (by omega) h2 dn λk r st' b' l1 l2 d' hr eq=>?_)⟩))
 dsimp only
 have hz:k<=(arrOf st').size:=by rw[b'.len];omega
 by_cases hr0:r > 0
 ·rw[if_pos hr0]
  refine Q5 (tL b' λst2 b2 e2=>zi c ks b2 hm (by omega) l2 (λi j le lt=>?_) q)
  rw[e2,RW hz eq,RW hz eq];exact d' i j le lt
 ·rw[if_neg hr0]
  exact zi c ks b' hm (by omega) l2 d' q
def Jj(c:xt κ k0 prog w A s)(ks:KeysOf κ o)(b:SrtB k0 o st)(hm:m<=o.size)(h1:1<=m)(q:EW κ k0 o m Q):wpS (ZK prog w) A E s (countRun' 0 m) Q st:=by
 rw[countRun0_eq];refine Q5 (HW c ks b hm (PP 1) h1 (B7 (PP 1)) λn l1 l2 so lt=>?_)
 dsimp only
 by_cases e:n=m
 ·rw[if_pos (beq_iff_eq.mpr e)]
  exact RF (q n st b l1 l2 so)
 rw[if_neg (λz=>e (beq_iff_eq.mp z))]
 have fall:=UV (lt e)
 by_cases g:n > 1
 ·rw[if_pos g]
  refine Q5 (vF c ks b (by omega) (by omega) ?_)
  cases z:κ.blt (gk κ st 0) (gk κ st (n - 1))with
  |true=>exact RF (q n st b l1 l2 so)
  |false=>
   have all:∀k,0<=k->k<n->gk κ st k=gk κ st (n - 1):=λk _ hk=>
    V1 (so k (n - 1) (by omega) (by omega)) (T6 (show κ.kle (gk κ st (n - 1)) (gk κ st 0)from z) (so 0 k (by omega) hk))
   have hz:n<=(arrOf st).size:=by rw[b.len];omega
   refine Q5 (tL b λst2 b2 e2=>zj c ks b2 hm (by omega) (oN (λi j le lt=>?_) ?_) q)
   ·rw[e2,RW hz all,RW hz all]
    show κ.kle (gk κ st j) (gk κ st i)
    rw[all i (QQ _) (by omega),all j (QQ _) (by omega)]
    exact SM _
   ·rw[e2,RW hz all,RW hz all]
    exact fall
 ·rw[if_neg g]
  exact zj c ks b hm (by omega) (oN (Lx (by omega)) fall) q
def Ky{u:Nat}(h:l<u):l<=(l+u) / 2/\(l+u) / 2<u:=⟨by omega,by omega⟩
def La(hk:k<xs.size)(lk:l<=k)(so:Rw κ xs k)(lo:∀i,i<l->κ.kle (KK κ xs i) (KK κ xs k))(hi:∀i,l<=i->i<k->κ.klt (KK κ xs k) (KK κ xs i)):Rw κ (bubble xs k (k - l)) (k+1):=λi j le lt=>by
 rw[KK_bubble hk (WJ _ _),KK_bubble hk (WJ _ _),Nat.sub_sub_self lk]
 have lt:=SR lt;rcases WK i l with i1|i1|i1
 ·rw[if_neg (QJ i1),if_neg λz=>Nat.lt_asymm z.1 i1]
  rcases WK j l with j1|j1|j1
  ·rw[if_neg (QJ j1),if_neg λz=>Nat.lt_asymm z.1 j1];exact so _ _ le (PQ j1 lk)
  ·rw[if_pos j1];exact lo i i1
  ·rw[if_neg (Ss j1),if_pos ⟨j1,lt⟩];exact so _ _ (Ua (Vn i1 j1)) (PQ (Ub j1) lt)
 ·rw[if_pos i1]
  rcases Nat.lt_or_eq_of_le (i1▸le:l<=j)with j1|j1
  ·rw[if_neg (Ss j1),if_pos ⟨j1,lt⟩];exact UV (hi _ (Ua j1) (PQ (Ub j1) lt))
  ·rw[if_pos j1.symm];exact SM _
 ·have j1:=PQ i1 le
  rw[if_neg (Ss i1),if_pos ⟨i1,Qn le lt⟩,if_neg (Ss j1),if_pos ⟨j1,lt⟩];exact so _ _ (Nat.sub_le_sub_right le 1) (PQ (Ub j1) lt)
def Jk{Q:Bool->Ux->Prop}(c:xt κ k0 prog w A s)(ks:KeysOf κ o)(b:SrtB k0 o st)(h1:1<=n)(hn:n<=o.size)(ha:a<=n)(so:Rw κ (arrOf st) a)
  (q:∀st',SrtB k0 o st'->Rw κ (arrOf st') n->Q ZC st'):wpS (ZK prog w) A E s (binarySort' 0 n a) Q st:=by
 rw[binarySort'_eq];simp only[W7];refine Q5 (T1 (I:=λk r st'=>r=(ZB,())/\SrtB k0 o st'/\Rw κ (arrOf st') k) (λk r st1 l1 l2 hI=>?_) (λr st1 hI=>?_) ⟨rfl,b,?_⟩)
 ·obtain⟨rfl,b1,so1⟩:=hI
  have hk:k<o.size:=PQ l2 hn
  refine Q5 (wpS_mono (T1 (I:=λx r st2=>st2=st1/\∃l u,r=(ZB,l,u)/\l<=u/\u<=k/\u<=k+l - x/\(∀i,i<l->κ.kle (gk κ st1 i) (gk κ st1 k))/\∀i,u<=i->i<k->κ.klt (gk κ st1 k) (gk κ st1 i))
   (Q:=λr st2=>st2=st1/\∃l u,r=(ZB,l,u)/\l<=k/\(∀i,i<l->κ.kle (gk κ st1 i) (gk κ st1 k))/\∀i,l<=i->i<k->κ.klt (gk κ st1 k) (gk κ st1 i)) (λx r st2 y1 y2 hJ=>?stp) (λr st2 hJ=>?fin) ⟨rfl,0,k,rfl,QQ _,PP _,PP _,λi hi=>absurd hi (XM _),λi g1 g2=>absurd g2 (Nat.not_lt.mpr g1)⟩) λr st2 hJ=>?pst)
  case stp=>
   obtain⟨rfl,l,u,rfl,lu,uk,mz,lo,hi⟩:=hJ
   dsimp only
   by_cases g:l ≥ u
   ·rw[if_pos g]
    exact RF ⟨rfl,l,u,rfl,Qn lu uk,lo,λi g1 g2=>hi i (Qn g g1) g2⟩
   ·rw[if_neg g]
    have hm:=Ky (Nat.lt_of_not_le g)
    generalize (l+u) / 2=m at hm ⊢
    have mk:m<k:=PQ hm.2 uk;refine Q5 (vF c ks b1 hk (Vn mk hk) ?_)
    have am:u<=k+(m+1) - (x+1)/\m<=k+l - (x+1):=by
     clear lo hi so so1 q ks c b b1 hn ha h1
     omega
    cases z:κ.blt (gk κ st2 k) (gk κ st2 m)with
    |true=>exact RF ⟨rfl,l,m,rfl,hm.1,RH mk,am.2,lo,λi g1 g2=>KeyOrd.klt_of_klt_of_kle z (so1 _ i g1 g2)⟩
    |false=>exact RF ⟨rfl,m+1,u,rfl,hm.2,uk,am.1,λi g1=>T6 (so1 i m (SR g1) mk) z,hi⟩
  case fin=>
   obtain⟨rfl,l,u,rfl,lu,uk,mz,lo,hi⟩:=hJ
   have e:u<=l:=by
    clear lo hi so so1 q ks c b b1 hn ha h1
    omega
   exact⟨rfl,l,u,rfl,Qn lu uk,lo,λi g1 g2=>hi i (Qn e g1) g2⟩
  case pst=>
   obtain⟨rfl,l,u,rfl,lk,lo,hi⟩:=hJ
   dsimp only
   rw[moveDown'_eq];exact Q5 (WT (RF ⟨rfl,b1.arr (bubble_perm _ _ _),La (by rw[b1.len];exact hk) lk so1 lo hi⟩))
 ·obtain⟨rfl,b1,so1⟩:=hI
  rw[T7 (Nat.max_le.mpr ⟨ha,h1⟩)]at so1;exact RF (q st1 b1 so1)
 ·rcases Nat.le_total a 1 with g|g
  ·rw[T7 g];exact B7 (PP 1)
  ·rw[Nat.max_eq_left g];exact so
def Jl{Q:Unit->Ux->Prop}(c:xt κ k0 prog w A s)(ks:KeysOf κ o)(b:SrtB k0 o st)(h2:2<=o.size)(h64:o.size<64)
  (q:∀st',(arrOf st').Perm o->U8 st'=ZB->Rw κ (arrOf st') o.size->Q () st'):wpS (ZK prog w) A E s sortRuns' Q st:=by
 rw[sortRuns'_eq];refine Q5 (XW ?_)
 dsimp only
 have hmr:minRun' o.size o.size 0=o.size:=by
  cases hz:o.size with
  |zero=>omega
  |succ f=>rw[minRun'_succ,if_pos (by omega)]
 simp only[b.len,hmr]
 refine Q5 (wpS_mono (T1 (I:=λx r st1=>(x=0/\r=(ZB,0)/\SrtB k0 o st1)\/(x≠0/\r=(ZB,o.size)/\(arrOf st1).Perm o/\U8 st1=ZB/\(S3 st1).size=1/\Rw κ (arrOf st1) o.size))
  (Q:=λr st1=>r=(ZB,o.size)/\(arrOf st1).Perm o/\U8 st1=ZB/\(S3 st1).size=1/\Rw κ (arrOf st1) o.size) (λx r st1 l1 l2 hI=>?stp) (λr st1 hI=>?fin) (.inl ⟨rfl,rfl,b⟩)) λr st1 hI=>?pst)
 case stp=>
  rcases hI with⟨rfl,rfl,b1⟩|⟨_,rfl,hI⟩
  ·dsimp only
   rw[if_neg (by omega)]
   simp only[Td,W4,W7];refine Q5 (Jj c ks b1 (PP _) (by omega) λn st2 b2 n1 n2 so2=>?_)
   dsimp only
   have fin:∀st3,SrtB k0 o st3->Rw κ (arrOf st3) o.size->(arrOf (WU st3 ((S3 st3).push (0,o.size,0)))).Perm o/\U8 (WU st3 ((S3 st3).push (0,o.size,0)))=ZB ∧
     (S3 (WU st3 ((S3 st3).push (0,o.size,0)))).size=1/\Rw κ (arrOf (WU st3 ((S3 st3).push (0,o.size,0)))) o.size:=λst3 b3 so3=>⟨b3.p,b3.f,by
    show((S3 st3).push _).size=1
    rw[b3.e];rfl,so3⟩
   by_cases g:n<o.size
   ·rw[if_pos g]
    refine Q5 (wpS_lift (Ul ⟨rfl,Q5 (Jk c ks b2 (TB h2) (PP _) n2 so2 λst3 b3 so3=>?_)⟩))
    simp only[Bool.not_true,R4,if_false];refine Q5 (XW ?_)
    rw[show(S3 st3).back?=ZB by rw[b3.e];rfl]
    exact Q5 (WT (RF (.inr ⟨by omega,rfl,fin st3 b3 so3⟩)))
   ·rw[if_neg g]
    obtain rfl:n=o.size:=by omega
    refine Q5 (XW ?_)
    rw[show(S3 st2).back?=ZB by rw[b2.e];rfl]
    exact Q5 (WT (RF (.inr ⟨by omega,rfl,fin st2 b2 so2⟩)))
  ·dsimp only
   rw[if_pos (PP _)];exact RF ⟨rfl,hI⟩
 case fin=>
  rcases hI with⟨h,_,_⟩|⟨_,hI⟩
  ·omega
  ·exact hI
 case pst=>
  obtain⟨rfl,hp,hf,he,hs⟩:=hI
  dsimp only
  refine Q5 (wpS_mono (T1 (I:=λ_ r st2=>st2=st1/\r=(ZB,())) (Q:=λr st2=>st2=st1/\r=(ZB,())) (λx r st2 _ _ hJ=>?stp) (λ_ _ h=>h) ⟨rfl,rfl⟩) λr st2 hJ=>?pst)
  case stp=>
   obtain⟨rfl,rfl⟩:=hJ;refine Q5 (XW ?_)
   rw[if_pos (Tc he)];exact RF ⟨rfl,rfl⟩
  case pst=>
   obtain⟨rfl,rfl⟩:=hJ;exact RF (q _ hp hf hs)
end
def RowV(h:ZH)(v:Px)(ns:List Int):Prop:=∃a its,v=.ref a/\h.IsTuple a its/\R0 its.toList ns/\ns≠ []
variable{h:ZH}
def RowV.inj{ms:List Int}(r:RowV h v ns)(q:RowV h v ms):ns=ms:=by
 obtain⟨a,its,rfl,⟨o,e,_,n,d⟩,i,_⟩:=r;obtain⟨b,jts,eb,⟨o',e',_,n',d'⟩,j,_⟩:=q;cases eb;rw[e]at e';cases e';rw[d]at d';cases d';rw[<-i.nums,<-j.nums]
def qx:Px->V
 |.ref a=>.ref a
 |_=>.non
theorem j4:∀{m:List T}{ns:List Int},je m=ZA ns->m=ns.map .int
 |[],ns,h=>by cases h;rfl
 |t::m,ns,h=>by
  cases t with
  |int i=>
   unfold je at h;obtain⟨k,h1,rfl⟩:=RY.mp h
   rw[j4 h1];rfl
  |_=>cases h
variable (R:RK)
variable {R:RK}
theorem RK.key_of(r:R.V h v ns):R.key h v=ZA ns:=by
 unfold RK.key
 have e:∃ns,R.V h v ns:=⟨ns,r⟩;rw[dif_pos e,R.inj e.choose_spec r]
theorem RK.OS(e:R.key h v=ZA ns):R.V h v ns:=by
 unfold RK.key at e
 split at e
 ·rename_i g
  cases e;exact g.choose_spec
 ·cases e
def RK.kind(R:RK)(h:ZH):PyProof.Rows.KeyKind:={α:=List Int,blt:=cu,irrefl:=jG,trans:=lU,negTrans:=wo,total:=lV,keyOf:=R.key h,dflt:=[]}
def RK.row(R:RK)(h:ZH)(v:Px):List Int:=(R.key h v).getD []
theorem RK.OG(r:R.V h v ns):R.row h v=ns:=by unfold RK.row;rw[RK.key_of r];rfl
theorem Lc(v:Px):firstOfTuple' v=(typeOf v >>= λt=>if t != .type "tuple" then pure ZB else Builtin.List.listItems v >>= λxs=>pure xs[0]?):=rfl
theorem Ae:∀{vs:List Px}{Q:List (Option Px)->Pz->Prop},(∀v∈vs,∃ns,R.V s.heap v ns)->(∀us ns,R0 us ns->us.length=vs.length->Q (us.map ZA) s)->ZJ (ZK prog w) A (vs.mapM firstOfTuple') Q E s
 |[],Q,_,q=>by
  rw[List.mapM_nil]
  exact PX (q [] [] .nil rfl)
 |v::vs,Q,h,q=>by
  rw[List.mapM_cons,Lc];obtain⟨ns,r⟩:=h _ PB;obtain⟨a,its,n,o,m,t,rfl,e,hc,d,e0⟩:=R.fst r;refine PD (PD (TZ (T:="tuple") ⟨o,e,hc⟩ ?_))
  rw[if_neg (by decide+kernel)]
  refine PD (listItems_at e d (PX ?_))
  rw[e0];exact PD (Ae (λv hv=>h v (Pw _ hv)) λus ns j hl=>PX (q (.int m t::us) (m::ns) (.cons m t j) (by rw[PH,PH,hl])))
theorem kk3{Q:VJ->Pz->Prop}(hv:∀v∈vs,∃ns,R.V s.heap v ns)(ne:vs≠ [])(q:Q (tuples' ZC) s):ZJ (ZK prog w) A (keyKind' vs.toArray) Q E s:=by
 rw[keyKind'_eq,WL];refine PD ?_
 rw[map_eq_pure_bind];refine PD (Ae hv λus ns i hl=>PX ?_)
 rw[if_pos (by simp)]
 refine PD (Ul ?_)
 have ef:(us.map ZA).toArray.filterMap id=us.toArray:=by simp
 rw[ef,oneTypeOnly'_eq,WL,mapM_typeOf_ints i]
 cases i with
 |nil=>exact absurd (List.length_eq_zero_iff.mp hl.symm) ne
 |@cons m t us' ns' i'=>
  simp only[map_pure,pure_bind]
  have hall:((Xx (λ_=>Si "int") (Rl m t::us')).toArray.all λx=>x == Si "int")=ZC:=by
   simp only[List.all_toArray,W3,Qk];intro _ _;rfl
  rw[show(Xx (λ_=>Si "int") (Rl m t::us')).toArray[0]?=ZA (Si "int")by simp]
  simp only[hall,if_true,pure_bind];exact PX q
theorem out3{o:Array XU}(hp:xs.Perm o)(hs:Rw (R.kind h) xs o.size):xs.toList.Perm o.toList/\(xs.toList.map λp=>R.row h p.1).Pairwise (λa b=>ou a b=ZC):=by
 refine⟨UE.mp hp,?_⟩
 rw[UN];intro i j hi hj hij
 have hi':i<xs.size:=by simpa using hi
 have hj':j<xs.size:=by simpa using hj
 have z:cu (KK (R.kind h) xs j) (KK (R.kind h) xs i)=ZD:=hs i j (RH hij) (by rw[<-hp.size_eq];exact hj')
 have g:∀k (hk:k<xs.size),KK (R.kind h) xs k=R.row h xs[k].1:=λk hk=>by unfold KK;rw[getElem?_pos xs k hk];rfl
 rw[g i hi',g j hj']at z;simp only[T4,Array.getElem_toList];unfold ou;rw[z];rfl
theorem run3{ks:List Px}{Q:Ux->Pz->Prop}(hu:A.units+60<cLine)(hl:ks.length=vs.length)(hk:∀v∈ks,∃ns,R.V s.heap v ns)(h2:2<=vs.length)(h64:vs.length<64)
  (q:∀st',U8 st'=ZB->(arrOf st').toList.Perm (ks.zip vs)->((arrOf st').toList.map λp=>R.row s.heap p.1).Pairwise (λa b=>ou a b=ZC)->Q st' s):
  ZJ (ZK prog w) A ((sortRuns').run (SortSt.mk' (tuples' ZC) (ks.toArray.zip vs.toArray) #[] 7 ZB)) (λr s'=>Q r.2 s') E s:=by
 have hz:(ks.toArray.zip vs.toArray).size=vs.length:=by simp[hl]
 have hz2:(ks.toArray.zip vs.toArray).toList=ks.zip vs:=by simp
 have kso:PyProof.Rows.KeysOf (R.kind s.heap) (ks.toArray.zip vs.toArray):=λp hp=>by
  rw[hz2]at hp;obtain⟨ns,r⟩:=hk p.1 (SI hp).1;exact⟨ns,RK.key_of r⟩
 refine Rm (Jl (κ:=R.kind s.heap) (k0:=tuples' ZC) (o:=ks.toArray.zip vs.toArray) (st:=SortSt.mk' (tuples' ZC) (ks.toArray.zip vs.toArray) #[] 7 ZB)
  (Q:=λ_ st'=>(arrOf st').Perm (ks.toArray.zip vs.toArray)/\U8 st'=ZB/\Rw (R.kind s.heap) (arrOf st') (ks.toArray.zip vs.toArray).size) (λE x y a b Q hx hy q=>R.lt hu (RK.OS hx) (RK.OS hy) q) kso ⟨Array.Perm.refl _,rfl,rfl,rfl⟩
  (by rw[hz];omega) (by rw[hz];exact h64) λst' a1 a2 a3=>⟨a1,a2,a3⟩) ?_ λ_ _ e=>e
 rintro ⟨⟨⟩,st'⟩ s' ⟨rfl,hp,hf,hs⟩
 obtain⟨g1,g2⟩:=out3 hp hs;exact q st' hf (by rw[<-hz2];exact g1) g2
theorem ls3{a:ZE}{h0:ZH}{P:Fin->Pz->Prop}(hu:A.units+60<cLine)(ho:s.heap.get? a=ZA (seqObj "list" vs.toArray n))(ext:∀b o,h0.get? b=ZA o->b≠a/\s.heap.get? b=ZA o)(hv:∀v∈vs,∃ns,R.V h0 v ns)(h64:vs.length<64)
  (q:∀out:Array Px,out.toList.Perm vs->(out.toList.map (R.row h0)).Pairwise (λa b=>ou a b=ZC)->P (.done (.ret .none)) {s with heap:=sortedHeap s.heap a vs out}):
  ZJ (ZK prog w) A (Builtin.«list.sort» ⟨[.ref a],[]⟩) P E s:=by
 rw[list_sort_plain]
 have ha:=PU ho;refine PD (listItems_at ho rfl (PD (Wz ho rfl ?_)))
 have ho1:=get?_update_seq ho (λ_=>#[])
 generalize hm:(if (#[]:Array Px).size == vs.toArray.size then n else n+1)=m at ho1
 refine PD (XX ho1 rfl (PD (wpAny_newTuple (PD (wpAny_newList (Tu ?_))))))
 generalize hh:((s.heap.update a (Uk λ_=>#[])).push (seqObj "tuple" vs.toArray 0)).push (seqObj "list" #[] 0)=h6
 have old:∀b,b<s.heap.objs.size->h6.get? b=(s.heap.update a (Uk λ_=>#[])).get? b:=λb hb=>by
  rw[<-hh,UW _ _ _ (by rw[size_push',Vd];exact QJ (UU hb)),UW _ _ _ (by rw[Vd];exact QJ hb)]
 have ho6:h6.get? a=ZA (seqObj "list" #[] m):=(old a ha).trans ho1
 have hrow:∀v ns,R.V h0 v ns->R.V h6 v ns:=λv ns r=>R.on r λb o e=>by
  obtain⟨nb,e'⟩:=ext b o e;rw[old b (PU e'),V2 _ _ _ _ nb]
  exact e'
 have hv6:∀v∈vs,∃ns,R.V h6 v ns:=λv hm=>let ⟨ns,r⟩:=hv v hm;⟨ns,hrow v ns r⟩
 have hrk:∀v∈vs,R.row h6 v=R.row h0 v:=λv hm=>by
  obtain⟨ns,r⟩:=hv v hm;rw[RK.OG r,RK.OG (hrow v ns r)]
 have fin:∀xs:Array XU,xs.toList.Perm (vs.zip vs)->(xs.toList.map λp=>R.row h6 p.1).Pairwise (λa b=>ou a b=ZC)->(xs.map (·.2)).size<=ZI+1/\P (.done (.ret .none)) {s with heap:=h6.update a (Uk λ_=>xs.map (·.2))}:=λxs hp hs=>by
  have e:(xs.map (·.2)).toList=xs.toList.map (·.1):=by
   rw[Array.toList_map];exact Q4 λp hp'=>(mem_zip_self (hp.mem_iff.mp hp')).1.symm
  have g1:(xs.map (·.2)).toList.Perm vs:=by
   rw[e]
   have:=hp.map (·.1)
   rwa [List.map_fst_zip (PP _)]at this
  refine⟨?_,?_⟩
  ·have:=g1.length_eq
   rw[Q9]at this;rw[this,RB];omega
  ·have g2:((xs.map (·.2)).toList.map (R.row h0)).Pairwise (λa b=>ou a b=ZC):=by
    rw[Q4 λv hm=>(hrk v (g1.mem_iff.mp hm)).symm,e,SL]
    exact hs
   have:=q _ g1 g2;unfold sortedHeap at this;rw[hh]at this;exact this
 show ZJ (ZK prog w) A _ P E {s with heap:=h6}
 dsimp only
 by_cases h2:vs.toArray.size<2
 ·rw[if_pos h2,if_pos h2]
  obtain⟨f1,f2⟩:=fin (pairsOf vs) (by rw[pairsOf_toList]) (by
   have:(pairsOf vs).toList.length<=1:=by rw[pairsOf_toList,XN,W4];rw[PY]at h2;omega
   generalize (pairsOf vs).toList=l at this
   cases l with
   |nil=>exact UR
   |cons x r=>cases r with
    |nil=>exact List.pairwise_singleton _ _
    |cons y r=>simp at this)
  refine PD (PX ?_)
  rw[StateT.run_pure];refine PD (PX ?_)
  dsimp only
  refine PD (XX ho6 rfl (PD (Wz ho6 rfl ?_ (hsz2:=f1))))
  simp only[bne_self_eq_false,R4,if_false];exact PX f2
 ·rw[if_neg h2,if_neg h2]
  rw[PY]at h2;refine PD (kk3 (R:=R) hv6 (λz=>by subst z;exact h2 (by decide)) ?_)
  refine PD (Rm (run3 (R:=R) (s:={s with heap:=h6}) (Q:=λst' s'=>s'= {s with heap:=h6}/\U8 st'=ZB/\(arrOf st').toList.Perm (vs.zip vs)/\((arrOf st').toList.map λp=>R.row h6 p.1).Pairwise (λa b=>ou a b=ZC)) hu rfl hv6 (by omega) h64 λst' hf hp hs=>⟨rfl,hf,hp,hs⟩) (λr s' z=>?_) λ_ _ e=>e)
  obtain⟨es,hf,hp,hs⟩:=z;subst es;obtain⟨f1,f2⟩:=fin _ hp hs;refine PD (XX ho6 rfl (PD (Wz ho6 rfl ?_ (hsz2:=f1))))
  rw[hf];simp only[bne_self_eq_false,R4,if_false];exact PX f2
theorem FR{I:ZE}{Q:WP}(hu:A.units+65<cLine)(hc:∀A':Qq,A'.handled=A.handled->ZJ (ZK prog w) A' (collect (.ref I)) (λvs s1=>(∀v∈vs,∃ns,R.V s1.heap v ns)/\vs.length<64 ∧
   ∀out:Array Px,out.toList.Perm vs->(out.toList.map (R.row s1.heap)).Pairwise (λa b=>ou a b=ZC)->Q (.ref s1.heap.objs.size) {s1 with heap:=sortedHeap (s1.heap.push (seqObj "list" vs.toArray 0)) s1.heap.objs.size vs out}) E s):
  ZJ (ZK prog w) A (call (.builtin "sorted") [.ref I]) Q E s:=by
 refine Calls.call_function_entry kind_sorted plain_sorted entry_sorted (args_sorted1 _) ?_
 unfold Builtin.«sorted»;refine PD (m:=checkCount "sorted" 1 1 _) (PX (PD (Rm (hc _ ?_) (λvs s1 ⟨hv,h64,q⟩=>PD (wpAny_newList ?_)) λ_ _ e=>e)))
 ·rfl
 have hoL:(s1.heap.push (seqObj "list" vs.toArray 0)).get? s1.heap.objs.size=ZA (seqObj "list" vs.toArray 0):=Qc _ rfl
 show ZJ (ZK prog w) _ _ _ _ {s1 with heap:=s1.heap.push (seqObj "list" vs.toArray 0)}
 refine PD (Tu (Sx slot_list_sort ⟨_,hoL,rfl⟩ entry_list_sort (ls3 (R:=R) (h0:=s1.heap) (s:={s1 with heap:=s1.heap.push (seqObj "list" vs.toArray 0)}) ?_ hoL (λb o e=>⟨QJ (PU e),PN _ e⟩) hv h64 λout g1 g2=>⟨_,rfl,?_⟩) (args_list_sort _)))
 ·show A.units+1+1+60<cLine
  omega
 exact PX ⟨_,rfl,q out g1 g2⟩
end Tr
namespace L2
open PySem PySem.Spec PyProof.Rows
def wQ{b:Nat}:b∈ [n+4,n,n+1,n+2,n+3] ↔n<=b/\b<n+5:=by
 simp only[PJ,Ra,or_false];omega
end L2
namespace Tr
open PySem PySem.Spec PyProof.Rows L2
def Wk(K:Pv)(O:Ow)(H1:Hp)(l:List T)(v:V):Prop:=∃(aa:ZE)(tt:Bool)(ws:List V),v=.ref aa/\¬ O aa/\Reps K O H1 l ws/\Fh K H1 aa tt ws/\(∀P Hc,SameO P H1 Hc->¬ P aa->Fh K Hc aa tt ws)/\¬ Nw K H1 aa
def c0(g:List T->Rs T)(_:En):Rs T:=match g []with
 |.ok t=>.ok t
 |_=>.bad
section
variable {X:Cx}{a b c:ZG}{fa fb fc:Y2}{pos p2 p3:Pos}{x:Str}
def xm:CallR X (.type "list") (λxs H Q=>∃p ys,xs=[.ref p]/\SqL X.K H p ys/\∀l,Nw X.K H l->Q (.ref l) (upd H l (.lst ys))):=by
 intro kt s σ H xs us Q I r h;obtain⟨p,ys,rfl,hq,q⟩:=h;obtain⟨u,rfl,rx⟩:=jm r;cases rx;obtain⟨its,r',pl,hz⟩:=I.list hq
 have hlen:=r'.length;obtain⟨o,ho,hc,n,hd⟩:=pl.isList
 have hk:X.K.lookup s.heap.objs.size=ZB:=by
  cases q:X.K.lookup s.heap.objs.size with
  |none=>rfl
  |some o=>exact absurd (PU (I.kIn _ o q)) (Qm _)
 exact call_list_seq p (.inl rfl) ho hc hd (λh' c' kp e=>⟨.ref s.heap.objs.size,_,I.laid (t':=s.toks) kp (PP _) (show ObjOk X.prog X.w _ h' _ (.lst ys)from⟨hz,its,c',r',e⟩),rfl,q _ ⟨I.hok.fresh (PP _),hk⟩⟩) (by simp only[PY] <;> omega)
end
end Tr
namespace PySem
open Sem (wp)
open L2 (itAt)
structure PW (prog:Qg)(w:QP)(A:Qq)(I:ZE)(T:String)(fp wr:List ZE)(n:Nat)(R:Nat->Px->Px->Prop)(St:Nat->Option ZE->ZH->Prop):Prop where
 sub:∀b∈wr,b∈fp
 ty:∀i o (s:Pz),St i o s.heap->s.TypeIs (.ref I) T
 frame:∀i o h h',St i o h->(∀b∈fp,∀ob,h.get? b=ZA ob->h'.get? b=ZA ob)->St i o h'
 item:∀i o (s:Pz) (Q:Option Px->Pz->Prop) (E:WP),i<n->St i o s.heap->(∀t,o=ZA t->∃ob,s.heap.get? t=ZA ob) →
  (∀p h' tk x y,R i x y->s.heap.objs.size<=p->IsPair h' p x y->St (i+1) (ZA (o.getD p)) h'->(∀b ob,b∉wr->s.heap.get? b=ZA ob->h'.get? b=ZA ob)->Q (ZA (.ref p)) {s with heap:=h',toks:=tk})->ZJ (ZK prog w) A (pyNext (.ref I)) Q E s
 done:∀o (s:Pz) (Q:Option Px->Pz->Prop) (E:WP),St n o s.heap->(∀t,o=ZA t->∃ob,s.heap.get? t=ZA ob)->(∀h' tk,(∀b ob,b∉wr->s.heap.get? b=ZA ob->h'.get? b=ZA ob)->Q ZB {s with heap:=h',toks:=tk})->ZJ (ZK prog w) A (pyNext (.ref I)) Q E s
 self:∀i o (s:Pz) (Q:WP) (E:WP),St i o s.heap->Q (.ref I) s->ZJ (ZK prog w) A (pyIter (.ref I)) Q E s
end PySem
variable{Q:Bool->Pz->Prop}
namespace Tr
open PySem PySem.Spec PyProof.Rows L2 PySem.W
def Dq(t u:Int)(a b:List Int):cu (t::a) (u::b)=if t=u then cu a b else decide (t<u):=rfl
theorem G9{a b:Int}{t u:Tok}(h:Q (decide (a<b)) s):∀k,ZJ (ZK prog w) A (oneLt' k (.int a t) (.int b u)) Q E s
 |true=>oneLt_int h
 |false=>by
  rw[oneLt'_eq];simp only[R4,if_false];exact PD (wpAny_lt_int (show ZJ (ZK prog w) A (truthOfDropped (.bool (decide (a<b)))) Q E s from Rn h))
theorem wB{fin:Bool}:∀{xs:List Px}{ns:List Int}(_:R0 xs ns){ys:List Px}{ms:List Int}(_:R0 ys ms)(i:Nat),fin=decide (xs.length<ys.length)->Q (cu ns ms) s->KatLex prog w A b fin Q (xs.zip ys) i s
 |_,_,.nil,_,_,.nil,i,hf,q=>kat_nil (by subst hf;exact q)
 |_,_,.nil,_,_,.cons _ _ _,i,hf,q=>kat_nil (by rw[hf,decide_eq_true (by simp)];exact q)
 |_,_,.cons _ _ _,_,_,.nil,i,hf,q=>kat_nil (by rw[hf,decide_eq_false (by simp)];exact q)
 |_,_,.cons n t r,_,_,.cons m u r2,i,hf,q=>by
  rw[Dq]at q;refine kat_cons (Xp ?_)
  by_cases z:n=m
  ·rw[beq_iff_eq.mpr z]
   rw[if_pos z]at q;exact kat_yes (wB r r2 (i+1) (by rw[hf];simp) q)
  ·rw[beq_eq_false_iff_ne.mpr z]
   rw[if_neg z]at q;exact kat_no (G9 q _)
def rkR:RK where
 V:=RowV
 inj:=RowV.inj
 on:=λ⟨a,its,e,⟨o,ho,hc⟩,i,ne⟩ up=>⟨a,its,e,⟨o,up _ _ ho,hc⟩,i,ne⟩
 fst:=λ⟨a,its,e,⟨o,ho,hc,n,hd⟩,i,ne⟩=>by
  obtain⟨xs⟩:=its
  cases i with
  |nil=>exact absurd rfl ne
  |cons m t r=>exact⟨a,_,n,o,m,t,e,ho,hc,hd,rfl⟩
 lt:=λ{prog w A s E x y a b Q} hu ⟨xa,xi,ex,⟨xo,xp,_,xn,xd⟩,xi',_⟩ ⟨ya,yi,ey,⟨yo,yp,_,yn,yd⟩,yi',_⟩ q=>by
  subst ex ey;exact kat_lt xp xd yp yd (wB xi' yi' 0 (by rw[Q9,Q9]) q)
variable{H:Hp}{O:Ow}{X:Cx}{h:ZH}{kt:Uf}{σ:L2.St}
theorem vL(I:Inv X kt σ H s):∀{l:List T}{k:List (List Int)}{vs:List V}{us:List Px},rowsT l=ZA k->Reps X.K O H l vs->Vals vs us →
  us.map (rkR.row s.heap)=k/\∀u∈us,RowV s.heap u (rkR.row s.heap u)/\RelV (qx u) u/\Rep X.K O H (.tup ((rkR.row s.heap u).map .int)) (qx u)
 |[],k,vs,us,h,r,v=>by
  cases Reps.Da.mp r;cases v;cases h
  exact⟨rfl,λu hu=>by cases hu⟩
 |t::l,k,vs,us,h,r,v=>by
  obtain⟨x,xs,rfl,p,q⟩:=Reps.me.mp r
  cases v with
  |@cons _ u _ us' v1 v2=>
   cases t with
   |tup m=>
    unfold rowsT at h
    split at h
    ·rename_i ns k' h1 h2
     by_cases ne:ns=[]
     ·rw[if_pos ne]at h;cases h
     ·rw[if_neg ne]at h;cases h
      obtain⟨e1,e2⟩:=vL I h2 q v2;obtain⟨a,ws,rfl,_,g3,g4⟩:=Rep.Fk.mp p;obtain rfl:u=P7 a:=v1;obtain⟨its,w1,t1,_⟩:=I.tuple (SqT.of g3)
      have hi:=gc h1 g4 w1;obtain⟨o,ho,hc,n,hd⟩:=t1
      have row:RowV s.heap (.ref a) ns:=⟨a,_,rfl,⟨o,ho,hc,n,hd⟩,by simpa using hi,ne⟩
      have em:m=ns.map .int:=j4 h1;subst em;refine⟨by rw[PF,e1,RK.OG (R:=rkR) row],λu hu=>?_⟩
      rcases PJ.mp hu with rfl|hu
      ·rw[RK.OG (R:=rkR) row];exact⟨row,rfl,p⟩
      ·exact e2 u hu
    ·cases h
   |_=>cases h
theorem oU:∀{us:List Px},(∀u∈us,RelV (qx u) u/\Rep K O H (.tup ((rkR.row h u).map .int)) (qx u))->Vals (us.map qx) us/\Reps K O H (us.map λu=>.tup ((rkR.row h u).map .int)) (us.map qx)
 |[],_=>⟨.nil,Reps.GM⟩
 |u::us,hu=>by
  obtain⟨h1,h2⟩:=hu u PB;obtain⟨g1,g2⟩:=oU λv hv=>hu v (Pw _ hv)
  exact⟨.cons h1 g1,Reps.me.mpr ⟨_,_,rfl,h2,g2⟩⟩
def yP(hu:X.A.units+70<cLine):CallT X (.builtin "sorted") vE:=by
 intro kt s σ H O ts vs us Q I hf rs rv hp;unfold vE at hp
 split at hp
 ·rename_i l
  obtain⟨v,rfl,r⟩:=rs.one
  split at hp
  ·rename_i k hk
   by_cases h64:k.length<64
   ·rw[if_pos h64]at hp
    obtain⟨a,ws,rfl,n,q,z⟩:=Rep.Do.mp r;obtain⟨u,rfl,ru⟩:=jm rv;obtain rfl:u=P7 a:=ru;obtain⟨its,r',pl,hz⟩:=I.list (SqL.of q);obtain⟨e1,e2⟩:=vL I hk z r'
    have hz1:((s.heap.push (seqObj "list" #[] 0)).update s.heap.objs.size (Uk (· ++its.toArray))).objs.size=s.heap.objs.size+1:=by rw[Vd,RM]
    have keep:∀b o,s.heap.get? b=ZA o->((s.heap.push (seqObj "list" #[] 0)).update s.heap.objs.size (Uk (· ++its.toArray))).get? b=ZA o:=λb o e=>by
     have nb:b≠s.heap.objs.size:=QJ (PU e);rw[V2 _ _ _ _ nb,UW _ _ _ nb]
     exact e
    refine FR (R:=rkR) (by omega) λA' _=>collect_list pl.isList ⟨λv hv=>⟨_,rkR.on (e2 v hv).1 keep⟩,by rw[<-Py (rkR.row s.heap),e1];exact h64,λout g1 g2=>?_⟩ (by rw[<-Py (rkR.row s.heap),e1,RB];omega)
    rw[Q4 λv hm=>show _=rkR.row s.heap v from RK.OG (R:=rkR) (rkR.on (e2 v (g1.mem_iff.mp hm)).1 keep)]at g2
    dsimp only
    rw[hz1]
    have g3:=Cm (e1▸g1.map (rkR.row s.heap)) g2;obtain⟨k1,k2⟩:=oU (us:=out.toList) (K:=X.K) (O:=O) (H:=H) (h:=s.heap) λu hu=>(e2 u (g1.mem_iff.mp hu)).2
    obtain⟨e,he⟩:=sortedAll_at s.heap its out
    have hfr:H (s.heap.objs.size+1)=ZB:=I.hok.fresh (Nat.le_succ _);refine⟨.ref (s.heap.objs.size+1),_,I.laid (t':=s.toks) (λ_ _=>sortedAll_old) (Nat.le_succ _) (show ObjOk X.prog X.w _ _ _ (.lst (out.toList.map qx))from⟨?_,out.toList,e,k1,he⟩),rfl,hp _ (aW hfr _) _ ?_⟩
    ·rw[Py,g1.length_eq,<-Py (rkR.row s.heap),e1,RB];omega
    ·have:=jv (p:=s.heap.objs.size+1) hfr (hf _ hfr) k2
     rw[<-g3,SL];exact this
   ·rw[if_neg h64]at hp;exact hp.elim
  ·exact hp.elim
 ·exact hp.elim
inductive Fx where
 |nx (Z:En)|rt (t:T) (Z:En)
def kA{α:Type}(f:Str):List Str->List α->Option α
 |n::ns,l::ls=>if n=f then ZA l else kA f ns ls
 |_,_=>ZB
def jM(f:Str)(l':List T):List Str->List (List T)->List (List T)
 |n::ns,l::ls=>if n=f then l'::ls else l::jM f l' ns ls
 |_,ls=>ls
def n5(c f:Str):T->Rs T
 |.ob c' ns ts=>if c'=c then(match kA f ns ts with|some t=>.ok t|none=>.bad)else .bad
 |_=>.bad
def nj(c m:Str)(g:List T->Rs T)(fo:Y2)(fs:Y0)(Z:En):Rs T:=do
 let o <-fo Z
 match o with
 |.ob c' ns ts=>if c'=c/\ns.contains m=ZD then fs Z >>= λl=>g (.ob c' ns ts::l)else .bad
 |_=>.bad
def xP(f:Y2)(Z:En):Rs (T×En):=f Z >>= λt=>.ok (t,Z)
def xH(i:Nat)(c f:Str)(fa:Y2)(Z:En):Rs (T×En):=match Z[i]? with
 |some (.ow (.ob c' ns ls))=>if c'=c then(match kA f ns ls with
  |some l=>fa Z >>= λt=>if l.length<ZI then .ok (.non,Z.set i (.ow (.ob c' ns (jM f (l++[t]) ns ls))))else .bad
  |none=>.bad)else .bad
 |_=>.bad
def FE(i:Nat)(c f:Str)(Z:En):Rs (T×En):=match Z[i]? with
 |some (.ow (.ob c' ns ls))=>if c'=c then(match kA f ns ls with
  |some l=>(match l.getLast? with
   |some t=>.ok (t,Z.set i (.ow (.ob c' ns (jM f l.dropLast ns ls))))
   |none=>.bad)
  |none=>.bad)else .bad
 |_=>.bad
def B1(i:Nat)(Z:En):Rs (T×OT)->Rs (T×En)
 |.ok p=>.ok (p.1,Z.set i (.ow p.2))
 |.err c=>.err c
 |.bad=>.bad
def d7(i:Nat)(c m:Str)(g:List Sl->Rs (T×OT))(fs:Y0)(Z:En):Rs (T×En):=match Z[i]? with
 |some (.ow (.ob c' ns ls))=>if c'=c/\ns.contains m=ZD then fs Z >>= λts=>B1 i Z (g (.ow (.ob c' ns ls)::ts.map Sl.va))else .bad
 |_=>.bad
def xG(i:Nat)(g:List Sl->Rs (T×OT))(fs:Y0)(Z:En):Rs (T×En):=match Z[i]? with
 |some (.ow o)=>fs Z >>= λts=>B1 i Z (g (ts.map Sl.va++[.ow o]))
 |_=>.bad
def fj(n:Nat)(sls:List Sl):En:=sls++Qe (n - sls.length) Sl.em
def qS(j:Nat):Fx->Rs (T×OT)
 |.nx Z=>match Z[j]? with
  |some (.ow o)=>.ok (.non,o)
  |_=>.bad
 |.rt t Z=>match Z[j]? with
  |some (.ow o)=>.ok (t,o)
  |_=>.bad
def hW(n j m:Nat)(F:En->Rs Fx)(sls:List Sl):Rs (T×OT):=if sls.length=n then F (fj m sls) >>= qS j else .bad
def Na{α:Type}:Rs α->Rs α
 |.err _=>.bad
 |r=>r
def mN(Z:En):Rs Fx:=.ok (.nx Z)
def jE(F G:En->Rs Fx)(Z:En):Rs Fx:=match F Z with
 |.ok (.nx Z')=>Na (G Z')
 |r=>r
def xy(x:En->Rs (T×En))(Z:En):Rs Fx:=x Z >>= λp=>.ok (.nx p.2)
def lS(x:En->Rs (T×En))(Z:En):Rs Fx:=x Z >>= λp=>.ok (.rt p.1 p.2)
def Fe(i:Nat)(x:En->Rs (T×En))(Z:En):Rs Fx:=x Z >>= λp=>if i<p.2.length then .ok (.nx (p.2.set i (.va p.1)))else .bad
def Bd(f:Y3)(F G:En->Rs Fx)(Z:En):Rs Fx:=f Z >>= λk=>if k then F Z else G Z
def KC(c:Str)(_:En):Rs Fx:=.err c
def wg(i:Nat)(c f:Str)(fs:Y0)(Z:En):Rs Fx:=match Z[i]? with
 |some (.ow (.ob c' ns ls))=>fs Z >>= λl=>if c'=c/\l.length<=ZI/\ns.length<1000 then
   .ok (.nx (Z.set i (.ow (if ns.contains f then .ob c' ns (jM f l ns ls)else .ob c' (ns++[f]) (ls++[l])))))else .bad
 |_=>.bad
def pW(F:En->Rs Fx)(h:Str->Rs T)(Z:En):Rs Fx:=match F Z with
 |.err c=>(match h c with
  |.ok t=>.ok (.rt t Z)
  |_=>.bad)
 |r=>r
def uH(c:Str)(t:T)(d:Str):Rs T:=if d=c then .ok t else .bad
def xW(x:En->Rs (T×En))(Z:En):Rs Fl:=x Z >>= λp=>.ok (.nx p.2)
def ph(i:Nat)(c:Str)(g:List Sl->Rs (T×OT))(fs:Y0)(Z:En):Rs Fl:=fs Z >>= λts=>Na (g (.ow (.ob c [] [])::ts.map Sl.va)) >>= λp=>match p.1 with
 |.non=>if i<Z.length then .ok (.nx (Z.set i (.ow p.2)))else .bad
 |_=>.bad
def DU(f:Y0)(Z:En):Rs (List T):=f Z >>= λx=>match x with
 |[.lst l] =>.ok l.reverse
 |_=>.bad
abbrev one(j:Nat)(m:Ow):Mn:=noM.set j m
abbrev BM(B m:Ow):Ow:=λa=>B a\/m a
variable{a:ZE}{m:Ow}
def one_u:(one j m).u a↔m a:=⟨λz=>(Mn.FM z).elim id λ⟨_,w⟩=>w.elim,λz=>⟨j,by unfold one;rw[Mn.KF];exact z⟩⟩
variable{B:Ow}
def one_oo:OO B (one j m) a↔BM B m a:=or_congr SC one_u
variable{M:Mn}{Z:En}{o':OT}{v:V}
section
variable {H':Hp}{o:OT}
def Ev.old(E:Ev K B M H Z σ)(w:Nw K H a):¬ OO B M a:=λz=>by
 obtain⟨o,e⟩:=(E.env.trk a z).some;rw[w.1]at e;cases e
def Ev.back(E:Ev K B M H Z σ)(hi:Z[i]?=ZA (.ow o))(hs:σ[i]?=ZA (ZA v))(s:SameO (M i) H H')(r:ORep K (OO B (M.set i m)) m H' o' v)(hm:∀a,m a->M i a\/Nw K H a):
  Ev K B (M.set i m) H' (Z.set i (.ow o')) σ/\SameO M.u H H'/\∀a,(M.set i m).u a->M.u a\/Nw K H a:=by
 have hl:i<Z.length:=(PM.mp hi).1
 have sub:∀a,(M.set i m).u a->M.u a\/Nw K H a:=λa z=>(Mn.FM z).elim (λw=>(hm a w).imp_left λy=>⟨i,y⟩) .inl
 have subO:∀a,OO B (M.set i m) a->OO B M a\/Nw K H a:=λa z=>z.elim (λw=>.inl (.inl w)) λw=>(sub a w).elim (λy=>.inl (.inr y)) .inr
 have inO:∀a,M i a->OO B M a\/Nw K H a:=λa z=>.inl (.inr ⟨i,z⟩)
 refine⟨⟨⟨by rw[Qr];exact E.env.len,λj t e=>?_,λj o2 e=>?_,λj a z=>.inr ⟨j,z⟩,λj k a z1 z2=>?_,λa z=>?_⟩,λa z hb=>?_⟩,λb u e n=>s b u e λz=>n ⟨i,z⟩,sub⟩
 ·by_cases hj:i=j
  ·subst hj;rw[P4 hl]at e;cases e
  ·rw[P3 hj]at e
   obtain⟨w,e1,e2⟩:=E.env.val j t e;exact⟨w,e1,e2.move inO subO s⟩
 ·by_cases hj:i=j
  ·subst hj
   rw[P4 hl]at e
   cases e;exact⟨v,hs,by rw[Mn.KF];exact r⟩
  ·rw[P3 hj]at e
   obtain⟨w,e1,e2⟩:=E.env.own j o2 e;refine⟨w,e1,?_⟩
   rw[Mn.Os (λz=>hj z.symm)]
   exact e2.move inO subO s λa z y=>hj (E.env.dis i j a y z)
 ·unfold Mn.set at z1 z2
  by_cases hj:j=i
  ·by_cases hk:k=i
   ·exact hj.trans hk.symm
   ·rw[if_pos hj]at z1;rw[if_neg hk]at z2
    exact(hm a z1).elim (λw=>(hk (E.env.dis k i a z2 w)).elim) λw=>(E.old w (.inr ⟨k,z2⟩)).elim
  ·by_cases hk:k=i
   ·rw[if_neg hj]at z1;rw[if_pos hk]at z2
    exact(hm a z2).elim (λw=>(hj (E.env.dis j i a z1 w)).elim) λw=>(E.old w (.inr ⟨j,z1⟩)).elim
   ·rw[if_neg hj]at z1;rw[if_neg hk]at z2
    exact E.env.dis j k a z1 z2
 ·rcases z with z|⟨j,z⟩
  ·exact(E.env.trk a (.inl z)).at λo e=>s _ _ e λw=>E.mine a ⟨i,w⟩ z
  ·unfold Mn.set at z
   by_cases hj:j=i
   ·rw[if_pos hj]at z;exact r.mtb a z
   ·rw[if_neg hj]at z
    exact(E.env.trk a (.inr ⟨j,z⟩)).at λo e=>s _ _ e λw=>hj (E.env.dis j i a z w)
 ·rcases Mn.FM z with w|w
  ·exact(hm a w).elim (λy=>E.mine a ⟨i,y⟩ hb) λy=>E.old y (.inl hb)
  ·exact E.mine a w hb
end
variable{apos cpos p3 pos:Pos}{c x:Str}{e:ZG}{es:List ZG}{fa:Y2}{l:List T}
section
variable {a:ZG}{fs:Y0}{p2:Pos}{f:Str}
def PostX(X:Cx)(B P:Ow)(σ:L2.St)(H:Hp)(r:Rs (T×En))(Q:VK):Prop:=match r with
 |.ok p=>∀v H' M',SameO P H H'->Ev X.K B M' H' p.2 σ->(∀a,M'.u a->P a\/Nw X.K H a)->Rep X.K (OO B M') H' p.1 v->Q v H'
 |.err c=>XA X kI H c
 |.bad=>False
def tX(X:Cx)(f:En->Rs (T×En)):TE:=λσ H Q=>∃Z B M,Ev X.K B M H Z σ/\PostX X B M.u σ H (f Z) Q
abbrev Fi(X:Cx)(e:ZG)(f:En->Rs (T×En)):Prop:=PE X e (tX X f)
def IX(h:cg X a fa):Fi X a (xP fa):=PE.imp h λσ H Q hh_=>by
 obtain⟨Z,B,M,E,q⟩:=hh_;refine⟨Z,OO B M,E.o,?_⟩
 unfold xP at q
 cases z:fa Z with
 |bad=>rw[z]at q;exact q
 |err c=>rw[z]at q;exact q
 |ok t=>
  rw[z,ax]at q;exact λH' s v r=>q v H' M (SameO.of s) (E.same s) (λ_ w=>.inl w) r
theorem DX:∀{fs:List (Str×V)}{ts:List T}{t:T},kA f (fs.map (·.1)) ts=ZA t->Reps K O H ts (fs.map (·.2))->∃v,fs.lookup f=ZA v/\Rep K O H t v
 |[],ts,t,h,_=>by cases h
 | (n,w)::fs,[],t,h,_=>by cases h
 | (n,w)::fs,u::ts,t,h,r=>by
  obtain⟨w',ws,e,p,q⟩:=Reps.me.mp r;cases e
  have h':(if n=f then ZA u else kA f (fs.map (·.1)) ts)=ZA t:=h
  rw[QF]
  by_cases z:n=f
  ·subst z
   rw[if_pos rfl]at h';cases h';exact⟨w,by rw[beq_self_eq_true],p⟩
  ·rw[if_neg z]at h'
   rw[beq_eq_false_iff_ne.mpr (Sv z)];exact DX h' q
def MO(hc:Cls X.K (bP X.K c))(hn:NoAttr X.K (bP X.K c) f)(ha:cg X a fa)(hb:autoParam (Qj a f X.env (eval a X.env)=eval a X.env) u_):cg X (.Attribute a f pos) (o1 (n5 c f) fa):=PE.imp (x8 ha hb) λσ H Q hh_=>by
 obtain⟨Z,O,E,h⟩:=hh_;refine zg (a6 (k:=n5 c f) E h) λv H' ⟨t,r,s,E',q⟩=>?_
 cases t with
 |ob c' ns ts=>
  unfold n5 at q
  dsimp only at q
  split at q
  ·rename_i hcc
   subst hcc;obtain⟨b,dx,fs,e1,e2,e3,e4,e5⟩:=Rep.Oq.mp r;subst e4
   split at q
   ·rename_i t ht
    obtain⟨w,l1,l2⟩:=DX ht e5;exact⟨b,_,dx,fs,w,e1,e3,hc,hn,l1,q H' (Same.refl _) w l2⟩
   ·exact q.elim
  ·exact q.elim
 |_=>exact q.elim
theorem yK:∀{ns:List Str}{as:List ZE}{ls:List (List T)}{l:List T},kA f ns ls=ZA l->LsR K O H ls as->ns.length=as.length->as.Nodup →
  ∃b vs,(ns.zip (as.map V.ref)).lookup f=ZA (.ref b)/\b∈as/\H b=ZA (.lst vs)/\Reps K O H l vs/\∀(l':List T)(vs':List V),O b->Reps K O H l' vs'->LsR K O (upd H b (.lst vs')) (jM f l' ns ls) as
 |[],as,ls,l,h,_,_,_=>by cases ls <;> cases h
 |n::ns,[],ls,l,h,_,hl,_=>by cases hl
 |n::ns,b::as,[],l,h,_,_,_=>by cases h
 |n::ns,b::as,u::ls,l,h,r,hl,nd=>by
  obtain⟨b',bs,vs,e1,e2,e3,e4⟩:=r;cases e1
  have nb:b∉as:=(Qh.mp nd).1
  have h':(if n=f then ZA u else kA f ns ls)=ZA l:=h
  show ∃c ws,((n,V.ref b)::ns.zip (as.map V.ref)).lookup f=_/\_
  rw[QF]
  have keep:∀(c:ZE)(vs':List V),O c->∀{t:List T}{ws:List V},Reps K O H t ws->Reps K O (upd H c (.lst vs')) t ws:=λc vs' hc t ws q=>Reps.keep (P:=λa=>a=c) (λd o e n=>by rw[aH n];exact e) (λa z=>z▸hc) q
  by_cases z:n=f
  ·subst z
   rw[if_pos rfl]at h';cases h';refine⟨b,vs,by rw[beq_self_eq_true],PB,e2,e3,λl' vs' ob rl=>?_⟩
   show LsR K O _ (if n=n then l'::ls else _) _
   rw[if_pos rfl];refine⟨b,as,vs',rfl,aL,keep _ _ ob rl,?_⟩
   clear h hl nd e3 e2
   induction ls generalizing as with
   |nil=>exact e4
   |cons w ls ih=>
    obtain⟨c,cs,ws,f1,f2,f3,f4⟩:=e4;subst f1;exact⟨c,cs,ws,rfl,by rw[aH (λy=>nb (by rw[<-y];exact PB))];exact f2,keep _ _ ob f3,ih cs f4 λy=>nb (Pw _ y)⟩
  ·rw[if_neg z]at h'
   rw[beq_eq_false_iff_ne.mpr (Sv z)];obtain⟨d,ws,g1,g2,g3,g4,g5⟩:=yK h' e4 (by simpa using hl) (Qh.mp nd).2
   refine⟨d,ws,g1,Pw _ g2,g3,g4,λl' vs' od rl=>?_⟩
   show LsR K O _ (if n=f then l'::ls else u::jM f l' ns ls) _
   rw[if_neg z];exact⟨b,as,vs,rfl,by rw[aH (λy=>nb (by rw[y];exact g2))];exact e2,keep _ _ od e3,g5 l' vs' od rl⟩
def Ev.putF{ns:List Str}{ls:List (List T)}(E:Ev K B M H Z σ)(hi:Z[i]?=ZA (.ow (.ob c ns ls)))(hf:kA f ns ls=ZA l):
  ∃p dx fs b vs,σ[i]?=ZA (ZA (.ref p))/\H p=ZA (.ins (bP K c) dx fs)/\fs.lookup f=ZA (.ref b)/\H b=ZA (.lst vs)/\Reps K (OO B M) H l vs/\∀(l':List T)(vs':List V),Reps K (OO B M) H l' vs' →
   Ev K B M (upd H b (.lst vs')) (Z.set i (.ow (.ob c ns (jM f l' ns ls)))) σ/\SameO M.u H (upd H b (.lst vs')):=by
 obtain⟨v0,s0,p,dx,as,e1,e2,⟨n1,n2,n3,n4⟩,e4,e5,e6,e7,e8⟩:=E.env.own i _ hi;subst e1;obtain⟨b,vs,g1,g2,g3,g4,g5⟩:=yK hf e8 e6 n4
 have Mb:M i b:=(e2 b).mpr (.inr (.inr g2));refine⟨p,dx,_,b,vs,s0,e4,g1,g3,g4,λl' vs' rl=>?_⟩
 have sm:SameO (M i) H (upd H b (.lst vs')):=λd u e nb=>by rw[aH (λz=>nb (by rw[z];exact Mb))];exact e
 refine E.put hi s0 sm ⟨p,dx,as,rfl,e2,⟨n1,n2,n3,n4⟩,?_,?_,e6,e7,g5 l' vs' (.inr ⟨i,Mb⟩) rl⟩
 ·rw[aH (pU e4 g3 (λz=>nomatch z))];exact e4
 ·rw[aH (pU e5 g3 (λz=>nomatch z))];exact e5
def L0(i:Nat)(hc:Cls X.K (bP X.K c))(hn:NoAttr X.K (bP X.K c) f)(ha:cg X a fa)(hN:autoParam (X.N[i]?=ZA x) u_)(hv:autoParam (jk X.env.scope x) v_)(hs:autoParam (a9 a=ZC) u_)
  (hb1:autoParam (Qj (.Name x p2) f X.env (eval (.Name x p2) X.env)=eval (.Name x p2) X.env) u_)
  (hbase:autoParam (Qj (.Attribute (.Name x p2) f p3) "append" X.env (eval (.Attribute (.Name x p2) f p3) X.env)=eval (.Attribute (.Name x p2) f p3) X.env) u_) (hline:autoParam ((apos.endLine == cpos.line)=ZC) u_)
  (hd:autoParam ((x == ("__debug__" : Str))=ZD) s_) (hcd:autoParam ((x == ("__classdict__" : Str))=ZD) s_):Fi X (.Call (.Attribute (.Attribute (.Name x p2) f p3) "append" apos) [a] [] cpos) (xH i c f fa):=by
 have h1:PR [a] X.env=(ZD,eval a X.env)::PR [] X.env:=aU hs;refine PE.imp (zF Rb S8 S9 j8 (x8 (dt hN hv hd hcd) hb1) (cS ha fM h1) hbase (by rw[h1];rfl) hline h1 rfl) λσ H Q ⟨Z,B,M,E,h⟩=>?_
 unfold xH at h
 split at h
 ·rename_i c' ns ls hl
  split at h
  ·rename_i hcc
   subst hcc
   split at h
   ·rename_i l hf
    obtain⟨p,dx,fs,b,vs,s0,e1,e2,e3,e4,k⟩:=E.putF hl hf;refine⟨.ref p,s0,p,_,dx,fs,.ref b,rfl,e1,hc,hn,e2,.inl ⟨rfl,vs,SqL.of e3⟩,Z,OO B M,E.o,?_⟩
    cases q:fa Z with
    |bad=>rw[q]at h;exact h.elim
    |err c=>rw[q]at h;exact h
    |ok t=>
     rw[q,ax]at h
     split at h
     ·rename_i hz
      intro H1 s1 v r;obtain⟨p',dx',fs',b',vs',s0',e1',e2',e3',e4',k'⟩:=(E.same s1).putF hl hf;cases s0.symm.trans s0'
      have z1:=(s1 _ _ e1).symm.trans e1';cases z1;cases e2.symm.trans e2'
      have z3:=(s1 _ _ e3).symm.trans e3';cases z3;obtain⟨g1,g2⟩:=k' (l++[t]) (vs++[v]) (e4'.append (Reps.Gc r Reps.GM));exact⟨b,vs,v,rfl,rfl,e3',by rw[<-e4.length];exact hz,h .non _ M (λc o e nb=>g2 c o (s1 _ _ e) nb) g1 (λc z=>.inl z) Rep.OU⟩
     ·exact h.elim
   ·exact h.elim
  ·exact h.elim
 ·exact h.elim
def LY(i:Nat)(hc:Cls X.K (bP X.K c))(hn:NoAttr X.K (bP X.K c) f)(hN:autoParam (X.N[i]?=ZA x) u_)(hv:autoParam (jk X.env.scope x) v_)
  (hb1:autoParam (Qj (.Name x p2) f X.env (eval (.Name x p2) X.env)=eval (.Name x p2) X.env) u_)
  (hbase:autoParam (Qj (.Attribute (.Name x p2) f p3) "pop" X.env (eval (.Attribute (.Name x p2) f p3) X.env)=eval (.Attribute (.Name x p2) f p3) X.env) u_) (hline:autoParam ((apos.endLine == cpos.line)=ZC) u_)
  (hd:autoParam ((x == ("__debug__" : Str))=ZD) s_) (hcd:autoParam ((x == ("__classdict__" : Str))=ZD) s_):Fi X (.Call (.Attribute (.Attribute (.Name x p2) f p3) "pop" apos) [] [] cpos) (FE i c f):=by
 refine PE.imp (J7 Rb PySem.F.slot_list_pop PySem.F.type_list_pop Kx (x8 (dt hN hv hd hcd) hb1) hbase hline) λσ H Q ⟨Z,B,M,E,h⟩=>?_
 unfold FE at h
 split at h
 ·rename_i c' ns ls hl
  split at h
  ·rename_i hcc
   subst hcc
   split at h
   ·rename_i l hf
    split at h
    ·rename_i t ht
     obtain⟨p,dx,fs,b,vs,s0,e1,e2,e3,e4,k⟩:=E.putF hl hf
     have hlen:=e4.length
     have hne:l≠ []:=λz=>by rw[z]at ht;cases ht
     rw[List.getLast?_eq_getElem?]at ht
     obtain⟨w,w1,w2⟩:=e4.get ht;rw[hlen]at w1;obtain⟨g1,g2⟩:=k l.dropLast vs.dropLast (by rw[Vt,Vt,hlen];exact e4.take _)
     refine⟨.ref p,s0,p,_,dx,fs,.ref b,rfl,e1,hc,hn,e2,.inl ⟨rfl,vs,SqL.of e3⟩,b,vs,w,rfl,rfl,e3,w1,?_⟩
     refine h w _ M g2 g1 (λc z=>.inl z) (w2.keep (P:=λa=>a=b) (λd o e n=>by rw[aH n];exact e) λa z=>?_)
     obtain⟨v0,s1,p',dx',as,f1,f2,f3,f4,f5,f6,f7,f8⟩:=E.env.own i _ hl;rw[f1]at s1;cases s0.symm.trans s1;cases e1.symm.trans f4;obtain⟨b2,vs2,y1,y2,_⟩:=yK hf f8 f6 f3.2.2.2;rw[e2]at y1;cases y1;exact .inr ⟨i,(f2 a).mpr (.inr (.inr (z▸y2)))⟩
    ·exact h.elim
   ·exact h.elim
  ·exact h.elim
 ·exact h.elim
end
variable{m:Str}
theorem lT:∀{fs:List (Str×V)},(fs.map (·.1)).contains m=ZD->fs.lookup m=ZB
 |[],_=>rfl
 | (n,v)::fs,h=>by
  rw[PF,QZ,VN]at h;rw[QF,h.1];exact lT h.2
variable{f:ZE}{fo:Y2}{ps:List Str}
section
variable {o:ZG}{fs:Y0}{p2:Pos}
def Gm{pl:Sem Bool}{g:List T->Rs T}(hc:Cls X.K (bP X.K c))(hm:uZ X.K (bP X.K c) m f)(F:Fp X.prog X.w X.K X.mg X.base k f fd ps 1 g)(hr:Room k X.A)(hb:Binds X.K fd ps [])(hps:ps.length=1)(ho:cg X o fo)
  (ht:eval (.Call (.Attribute o m apos) [] [] pos) X.env=(do
   let ov <-eval o X.env
   standAt apos.atName
   let (f,first) <-holding [ov] (Tt ov m pl)
   U9 pos f first (backTo pos (PR [] X.env)) (TJ pos (Se [] X.env))):=by rfl):cg X (.Call (.Attribute o m apos) [] [] pos) (nj c m g fo ai):=by
 intro kt s σ H Q I ⟨Z,O,E,hq⟩;refine SG (pl:=pl) (bV (ho kt s σ H _ I (a6 E hq)) λu s1 ⟨v,H1,I1,rx,t,r,sm,E1,q⟩=>?_) ht
 cases t with
 |ob c' ns ts=>
  dsimp only at q
  split at q
  ·rename_i hcc
   obtain⟨h1,h2⟩:=hcc;subst h1;obtain⟨p,dx,fs',rfl,n,e3,e4,e5⟩:=Rep.Oq.mp r;obtain rfl:u=.ref p:=rx;subst e4;refine iP I1 e3 hc hm (lT h2) ?_
   exact VY (first:=[.ref p]) I1.kIn hm.kp (Ms (us:=[.ref p]) (vs:=[.ref p]) F hr hb hps I1 (.cons rfl .nil) (Reps.Gc r Reps.GM) E1.mtb rfl q)
  ·exact q.elim
 |_=>exact q.elim
end
def spE(K:Pv)(n j:Nat)(g:List Sl->Rs (T×OT)):Sp:=λvs H Q _=>∃sls B m v,Ev K B (one j m) H sls (vs.map ZA)/\sls.length=n/\vs[j]?=ZA v ∧
 match g sls with
 |.ok p=>∀u H' m',SameO m H H'->ORep K (BM B m') m' H' p.2 v->(∀a,m' a->m a\/Nw K H a)->Rep K (BM B m') H' p.1 u->Q u H'
 |_=>False
def FnXE(P:Qg)(w:QP)(K:Pv)(mg:WF)(base:ZH)(k:Nat)(f:ZE)(fd:Q0)(ps:List Str)(n j:Nat)(g:List Sl->Rs (T×OT)):Prop:=
 ∀(A:Qq)(outer:List Env)(s:Pz)(H:Hp)(args:Args)(us:List Px)(vs:List V)(B m:Ow)(sls:List Sl)(c:Str)(R:Wp->Pz->Prop),Room k A->Env0 P w K mg base A outer s H->VC s fd args (ps.zip us)->Vals vs us →
  Ev K B (one j m) H sls (vs.map ZA)->sls.length=n->g sls=.err c->(∀ev s',RzC P w mg outer H s c ev s'->R (.error ev) s')->ZL (ZK P w) A (.call (.ref f) args) R s
structure E6 (P:Qg)(w:QP)(K:Pv)(mg:WF)(base:ZH)(k:Nat)(f:ZE)(fd:Q0)(ps:List Str)(n j:Nat)(g:List Sl->Rs (T×OT)):Prop where
 h:qB P w K mg base CX0 k f fd ps (spE K n j g)
 x:FnXE P w K mg base k f fd ps n j g
variable{sls:List Sl}{ts:List T}{v0:V}{vs:List V}
section
variable {H':Hp}{o:OT}{m:Ow}
abbrev BC(B:Ow)(M:Mn)(i:Nat):Ow:=λa=>OO B M a/\¬ M i a
def yS:OO (BC B M i) (one j (M i)) a->OO B M a:=λz=>(one_oo.mp z).elim (λw=>w.1) λw=>.inr ⟨i,w⟩
def Ev.args{ws:List V}(E:Ev K B M H Z σ)(hi:Z[i]?=ZA (.ow o))(hs:σ[i]?=ZA (ZA v0))(hl:sls.length=ws.length)(hj:sls[j]?=ZA (.ow o))(hw:ws[j]?=ZA v0)
  (ho:∀(k:Nat)(o':OT),sls[k]?=ZA (Sl.ow o')->k=j) (hv:∀(k:Nat)(t:T),sls[k]?=ZA (Sl.va t)->∃w,ws[k]?=ZA w/\Rep K (OO B M) H t w):Ev K (BC B M i) (one j (M i)) H sls (ws.map ZA):=by
 obtain⟨v',s',r⟩:=E.env.own i o hi;rw[hs]at s';cases s';refine⟨⟨by rw[Py];exact hl,λk t e=>?_,λk o' e=>?_,λk a z=>.inr ⟨k,z⟩,λk k' a z1 z2=>?_,λa z=>E.env.trk a (yS z)⟩,λa z y=>y.2 (one_u.mp z)⟩
 ·obtain⟨w,e1,e2⟩:=hv k t e
  exact⟨w,by rw[P9,e1];rfl,e2.less λa z=>yS z⟩
 ·have hk:=ho k o' e
  subst hk;rw[hj]at e;cases e;refine⟨v0,by rw[P9,hw];rfl,?_⟩
  rw[show one k (M i) k=M i from Mn.KF]
  exact r.move (P:=kI) (λ_ z=>z.elim) (λa z=>.inl (yS z)) (λb u q _=>q) λ_ _ z=>z
 ·unfold one Mn.set at z1 z2
  by_cases h1:k=j
  ·by_cases h2:k'=j
   ·exact h1.trans h2.symm
   ·rw[if_neg h2]at z2;exact z2.elim
  ·rw[if_neg h1]at z1;exact z1.elim
def Ev.ret{t:T}{u:V}(E:Ev K B M H Z σ)(hi:Z[i]?=ZA (.ow o))(hs:σ[i]?=ZA (ZA v0))(s:SameO (M i) H H')(r:ORep K (BM (BC B M i) m) m H' o' v0)(hm:∀a,m a->M i a\/Nw K H a)(rt:Rep K (BM (BC B M i) m) H' t u):
  Ev K B (M.set i m) H' (Z.set i (.ow o')) σ/\SameO M.u H H'/\(∀a,(M.set i m).u a->M.u a\/Nw K H a)/\Rep K (OO B (M.set i m)) H' t u:=by
 have sub:∀a,OO B (M.set i m) a->BM (BC B M i) m a:=λa z=>by
  rcases z with z|⟨k,z⟩
  ·exact .inl ⟨.inl z,λw=>E.mine a ⟨i,w⟩ z⟩
  ·unfold Mn.set at z
   by_cases hk:k=i
   ·rw[if_pos hk]at z;exact .inr z
   ·rw[if_neg hk]at z;exact .inl ⟨.inr ⟨k,z⟩,λw=>hk (E.env.dis k i a z w)⟩
 obtain⟨g1,g2,g3⟩:=E.back hi hs s (r.move (P:=kI) (λ_ z=>z.elim) (λa z=>.inl (sub a z)) (λb u q _=>q) λ_ _ z=>z) hm
 exact⟨g1,g2,g3,rt.less sub⟩
end
variable{H1:Hp}{Q:VK}{g:List Sl->Rs (T×OT)}
section
variable {m:Ow}
def IK(X:Cx)(B m:Ow)(v:V)(H:Hp)(r:Rs (T×OT))(Q:VK):Prop:=match r with
 |.ok p=>∀u H' m',SameO m H H'->ORep X.K (BM B m') m' H' p.2 v->(∀a,m' a->m a\/Nw X.K H a)->Rep X.K (BM B m') H' p.1 u->Q u H'
 |.err c=>XA X kI H c
 |.bad=>False
def Ia(F:E6 X.prog X.w X.K X.mg X.base k f fd ps n j g)(hr:Room k X.A)(hb:Binds X.K fd ps [])(hps:ps.length=n)(I:Inv X kt σ H s)(r:Vals vs us)(Ea:Ev X.K B (one j m) H sls (vs.map ZA))(hl:sls.length=n)(hv:vs[j]?=ZA v)
  (hq:IK X B m v H (g sls) Q):ZJ (ZK X.prog X.w) X.A (call (.ref f) us) (EP X kt σ Q) X.xe s:=by
 cases q2:g sls with
 |bad=>rw[q2]at hq;exact hq.elim
 |ok p=>
  rw[q2]at hq;refine xX (E:=E0) (dvs:=[]) (ds:=[]) F.h hr hb .nil zH I r ⟨sls,B,m,v,by simpa using Ea,hl,by simpa using hv,?_⟩
  rw[q2]
  exact hq
 |err c=>
  rw[q2]at hq
  have hlen:us.length=ps.length:=by rw[<-r.length,hps,<-hl,Ea.env.len,Py]
  have hb':=hb s us I.kIn (by rw[Ql];exact hlen)
  rw[Ql]at hb';refine U0 (SN (F.x X.A X.stack s H ⟨us,[]⟩ us vs B m sls c (λr s'=>match r with|.error ev=>X.xe ev s'|_=>False) hr I.OQ hb' r Ea hl q2 λev s' w=>?_) λr s' hq=>?_)
  ·obtain⟨ea,T,C,H',rfl,hmc,ho,hbare,hun,hok,sm2,hea,heo,fl,hT,hTo⟩:=w
   have I2:Inv X kt σ H' s':=I.OJ ho hun hok hbare (λb z=>absurd z (by simp))
   exact hq kt _ _ ⟨ea,ZA T,C,σ,H',rfl,hmc,I2,λb o q _=>sm2 b o q,hea,λhex=>fm I hex heo,fl,(λt zt=>by cases zt;exact⟨hT,λhex=>fm I hex hTo⟩),λpp hpp=>⟨λzz=>(by have:=(I.pin pp hpp).1;rw[zz,heo]at this;cases this),λzz=>(by cases zz;have:=(I.pin pp hpp).1;rw[hTo]at this;cases this)⟩⟩
  ·cases r with
   |error ev=>exact hq
   |ok fl=>exact hq.elim
def CH{o:OT}{H0:Hp}{P0:Ow}(E:Ev X.K B M H Z σ)(hi:Z[i]?=ZA (.ow o))(hs:σ[i]?=ZA (ZA v0)){r:Rs (T×OT)}(h:PostX X B M.u σ H (B1 i Z r) Q):IK X (BC B M i) (M i) v0 H r Q:=by
 cases r with
 |bad=>exact h
 |err c=>exact h
 |ok p=>
  intro u H' m' s r hm rt;obtain⟨g1,g2,g3,g4⟩:=E.ret hi hs s r hm rt;exact h u H' _ g2 g1 g3 g4
theorem PostX.later{P:Ow}{r:Rs (T×En)}(h:PostX X B P σ H r Q)(s:Same H H1):PostX X B P σ H1 r Q:=by
 cases r with
 |bad=>exact h
 |err c=>exact XA.later h (SameO.of s) λ_ z=>z.elim
 |ok p=>exact λv H' M' s' E' o' r'=>h v H' M' (λb o e nb=>s' b o (s _ _ e) nb) E' (λa z=>(o' a z).imp_right (dF s)) r'
def yM{o:OT}(h:(Sl.ow o::ts.map Sl.va)[k]?=ZA (.ow o')):k=0:=by
 cases k with
 |zero=>rfl
 |succ k=>
  rw[Rc,P9]at h
  cases z:ts[k]? <;> rw[z]at h <;> cases h
def yL{o:OT}(r:Reps K O H ts vs){t:T}(h:(Sl.ow o::ts.map Sl.va)[k]?=ZA (.va t)):∃w,(v0::vs)[k]?=ZA w/\Rep K O H t w:=by
 cases k with
 |zero=>cases h
 |succ k=>
  rw[Rc,P9]at h
  cases z:ts[k]? with
  |none=>rw[z]at h;cases h
  |some u=>
   rw[z]at h;cases h;exact r.get z
end
variable{a:ZG}{p:Pos}{y:Str}
section
variable {fs:Y0}{p2:Pos}
def IY{pl:Sem Bool}(i:Nat)(hc:Cls X.K (bP X.K c))(hm:uZ X.K (bP X.K c) m f)(F:E6 X.prog X.w X.K X.mg X.base k f fd ps n 0 g)(hr:Room k X.A)(hb:Binds X.K fd ps [])(hps:ps.length=n)(hl:∀Z ts,fs Z=.ok ts->ts.length+1=n)(ha:qz X (e::es) fs)
  (hN:autoParam (X.N[i]?=ZA x) u_) (hv:autoParam (jk X.env.scope x) v_) (hd:autoParam ((x == ("__debug__" : Str))=ZD) s_) (hcd:autoParam ((x == ("__classdict__" : Str))=ZD) s_)
  (hst:autoParam (PR (e::es) X.env=(ZD,eval e X.env)::PR es X.env) u_) (hpl:autoParam ((backTo pos (PR es X.env)).any (·.1)=ZD) u_)
  (ht:eval (.Call (.Attribute (.Name x p2) m apos) (e::es) [] pos) X.env=(do
   let ov <-eval (.Name x p2) X.env
   standAt apos.atName
   let (f,first) <-holding [ov] (Tt ov m pl)
   U9 pos f first (backTo pos (PR (e::es) X.env)) (TJ pos (Se [] X.env))):=by rfl):
  Fi X (.Call (.Attribute (.Name x p2) m apos) (e::es) [] pos) (d7 i c m g fs):=by
 intro kt s σ H Q I ⟨Z,B,M,E,h⟩;unfold d7 at h
 split at h
 ·rename_i c' ns ls hi
  split at h
  ·rename_i hcc
   obtain⟨h1,h2⟩:=hcc;subst h1;obtain⟨v0,s0,q,dx,as,e1,e2,e3,e4,e5,e6,e7,e8⟩:=E.env.own i _ hi;subst e1;refine SG (pl:=pl) (bV (dt (pos:=p2) hN hv hd hcd kt s σ H (λv H'=>v=.ref q/\H'=H) I ⟨_,s0,rfl,rfl⟩) λu s1 ⟨v,H1,I1,rx,ev,eH⟩=>?_) ht
   subst ev eH;obtain rfl:u=.ref q:=rx;refine iP I1 e4 hc hm (lT (by rw[oj (by rw[Py];exact e6)];exact h2)) ?_
   refine R3 (first:=[.ref q]) (h₀:=X.base) I.ok.mod.kin hm.kp (bV (ha pos kt s1 σ H1 (λvs H2=>∃ts,fs Z=.ok ts/\Same H1 H2/\Reps X.K (OO B M) H2 ts vs) I1 ⟨Z,OO B M,E.o,?_⟩) λus s2 ⟨vs,H2,I2,r,ts,q1,sm,rs⟩=>⟨I2.kIn,?_⟩) hst hpl
   ·cases z:fs Z with
    |bad=>rw[z]at h;exact h.elim
    |err c=>rw[z]at h;exact h
    |ok ts=>exact λH' s' vs rs=>⟨ts,rfl,s',rs⟩
   ·rw[q1,ax]at h
    have E2:=E.same sm;refine Ia (us:=.ref q::us) (vs:=.ref q::vs) (v:=.ref q) F hr hb hps I2 (.cons rfl r) (E2.args (o:=.ob c' ns ls) hi s0 (by rw[PH,PH,Py,rs.length]) rfl rfl (λk o' z=>yM z) λk t z=>yL rs z) ?_ rfl (CH (H0:=H1) (P0:=kI) E2 hi s0 (h.later sm))
    rw[PH,Py];exact hl Z ts q1
  ·exact h.elim
 ·exact h.elim
def L6(X:Cx)(i:Nat)(f:Y0):TA:=λσ H Q=>∃Z B M v0,Ev X.K B M H Z σ/\σ[i]?=ZA (ZA v0)/\Post X H (f Z) λts H'=>∀vs,Reps X.K (OO B M) H' ts vs->Q (vs++[v0]) H'
def JY(i:Nat)(hN:autoParam (X.N[i]?=ZA x) u_)(hv:autoParam (jk X.env.scope x) v_)(hd:autoParam ((x == ("__debug__" : Str))=ZD) s_)(hcd:autoParam ((x == ("__classdict__" : Str))=ZD) s_):PA X [.Name x p2] (L6 X i ai):=
 PA.imp (cS (dt (pos:=p2) hN hv hd hcd) fM rfl) λσ H Q ⟨Z,B,M,v0,E,s0,h⟩=>⟨v0,s0,h H (Same.refl _) [] Reps.GM⟩
def Gz(ha:cg X a fa)(hb:PA X es (L6 X i fs))(he:autoParam (PR (a::es) X.env=(ZD,eval a X.env)::PR es X.env) u_):PA X (a::es) (L6 X i (ae fa fs)):=
 PA.imp (cS ha hb he) λσ H Q hh_=>by
  obtain⟨Z,B,M,v0,E,s0,h⟩:=hh_;refine⟨Z,OO B M,E.o,?_⟩
  unfold ae at h
  cases z:fa Z with
  |bad=>rw[z]at h;exact h.elim
  |err c=>rw[z]at h;exact h
  |ok t=>
   rw[z,ax]at h;intro H1 s1 v r;refine⟨Z,B,M,v0,E.same s1,s0,?_⟩
   refine Post.mono (Post.bind (h.later s1)) λts H2 s2 q vs rs=>?_
   exact q H2 (Same.refl _) (v::vs) (Reps.Gc (r.same s2) rs)
def KG{o:OT}(h:(ts.map Sl.va++[Sl.ow o])[k]?=ZA (.ow o')):k=ts.length:=by
 by_cases hk:k<ts.length
 ·rw[Qo (by simpa using hk),P9,P5 hk]at h;cases h
 ·have h2:=(PM.mp h).1
  simp at h2;omega
def KD{o:OT}(r:Reps K O H ts vs){t:T}(h:(ts.map Sl.va++[Sl.ow o])[k]?=ZA (.va t)):∃w,(vs++[v0])[k]?=ZA w/\Rep K O H t w:=by
 by_cases hk:k<ts.length
 ·rw[Qo (by simpa using hk),P9]at h
  cases z:ts[k]? with
  |none=>rw[z]at h;cases h
  |some u=>
   rw[z]at h;cases h;obtain⟨w,e1,e2⟩:=r.get z;exact⟨w,by rw[Qo (by rw[<-r.length];exact hk)];exact e1,e2⟩
 ·rw[Rr (by simpa using hk)]at h
  cases z:k - (ts.map Sl.va).length <;> rw[z]at h <;> cases h
def LZ(i:Nat)(F:E6 X.prog X.w X.K X.mg X.base k f fd ps n j g)(hr:Room k X.A)(hm:X.mg y=ZA (.ref f))(hk:R7 X.K (.ref f)=ZC)(hb:Binds X.K fd ps [])(hps:ps.length=n)(hjn:j+1=n)(hl:∀Z ts,fs Z=.ok ts->ts.length=j)(ha:PA X (e::es) (L6 X i fs))
  (hg:autoParam (Gl X y) u_) (hdb:autoParam ((y == ("__debug__" : Str))=ZD) s_) (he:autoParam (PR (e::es) X.env=(ZD,eval e X.env)::PR es X.env) u_) (hpl:autoParam ((backTo pos (PR es X.env)).any (·.1)=ZD) u_):
  Fi X (.Call (.Name y p) (e::es) [] pos) (xG i g fs):=by
 intro kt s σ H Q I ⟨Z,B,M,E,h⟩;unfold xG at h
 split at h
 ·rename_i o hi
  obtain⟨v0,s0,r0⟩:=E.env.own i _ hi;refine Q1 (gH I hg hm ?_ hdb)
  refine R3 (h₀:=X.base) I.ok.mod.kin hk (bV (ha pos kt s σ H (λws H2=>∃ts vs,ws=vs++[v0]/\fs Z=.ok ts/\Same H H2/\Reps X.K (OO B M) H2 ts vs) I ⟨Z,B,M,v0,E,s0,?_⟩) λus s2 ⟨ws,H2,I2,r,ts,vs,e1,q1,sm,rs⟩=>⟨I2.kIn,?_⟩) he hpl
  ·cases z:fs Z with
   |bad=>rw[z]at h;exact h.elim
   |err c=>rw[z]at h;exact h
   |ok ts=>exact λH' s' vs rs=>⟨ts,vs,rfl,rfl,s',rs⟩
  ·subst e1
   rw[q1,ax]at h
   have E2:=E.same sm
   have hj:=hl Z ts q1
   have hlen:=rs.length;subst hj;refine Ia (v:=v0) F hr hb hps I2 r (E2.args (o:=o) hi s0 (by simp[hlen]) (by simp) (by rw[hlen];simp) (λk o' z=>KG z) λk t z=>KD rs z) (by simpa using hjn) (by rw[hlen];simp) (CH (H0:=H) (P0:=kI) E2 hi s0 (h.later sm))
 ·exact h.elim
end
variable{fb:Y2}
section
variable {b c:ZG}{x y:En->Rs (T×En)}{fs:Y0}{p2:Pos}{bM:List ZG}
variable {f g:En->Rs (Bool×En)}
def JE(ha:Fi X a x)(hs:autoParam (Qt a ZB pos.line X.env=pure ZD) u_):mh X (.Expr a pos) (xW x):=PS.imp (iH ha hs) λD σ H hh_=>by
 obtain⟨Z,B,M,E,h⟩:=hh_;refine⟨Z,B,M,E,?_⟩
 unfold xW at h
 cases z:x Z with
 |bad=>rw[z]at h;exact h.elim
 |err c=>rw[z]at h;exact PostF.xa h
 |ok p=>rw[z,ax]at h;exact λv H' M' s' E' o' r=>h σ H' M' s' E' o'
end
def PostM(X:Cx)(B P:Ow)(j:Nat)(σ:L2.St)(H:Hp)(r:Rs Fx)(D:oa):Prop:=match r with
 |.ok (.nx Z')=>∀σ' H' M',SameO P H H'->Ev X.K B M' H' Z' σ'->(∀a,M'.u a->P a\/Nw X.K H a)->σ'[j]?=σ[j]?->D.nx σ' H'
 |.ok (.rt t Z')=>∀v σ' H' M',SameO P H H'->Ev X.K B M' H' Z' σ'->(∀a,M'.u a->P a\/Nw X.K H a)->σ'[j]?=σ[j]?->Rep X.K (OO B M') H' t v->D.rt v H'
 |.err c=>XA X kI H c
 |.bad=>False
def tPM(X:Cx)(j:Nat)(F:En->Rs Fx):TS:=λD σ H=>∃Z B M,Ev X.K B M H Z σ/\PostM X B M.u j σ H (F Z) D
abbrev Fj(X:Cx)(j:Nat)(s:ZF)(F:En->Rs Fx):Prop:=PS X s (tPM X j F)
abbrev Fm(X:Cx)(j:Nat)(s:List ZF)(F:En->Rs Fx):Prop:=PSs X s (tPM X j F)
variable{D:oa}{G:En->Rs Fx}{r:Rs Fx}{st:ZF}
section
variable {c:ZG}{x:En->Rs (T×En)}{fs:Y0}{p2:Pos}
def PostM.later{P P1:Ow}{σ1:L2.St}(h:PostM X B P j σ H (Na r) D)(s:SameO P H H1)(sub:∀a,P1 a->P a\/Nw X.K H a)(hj:σ1[j]?=σ[j]?):PostM X B P1 j σ1 H1 r D:=by
 have back:∀a,P1 a\/Nw X.K H1 a->P a\/Nw X.K H a:=λa z=>z.elim (sub a) (fz s)
 cases r with
 |bad=>exact h
 |err c=>exact h.elim
 |ok f=>
  cases f with
  |nx Z'=>exact λσ' H' M' s' E' o' k=>h σ' H' M' (s.trans s' sub) E' (λa z=>back a (o' a z)) (k.trans hj)
  |rt t Z'=>exact λv σ' H' M' s' E' o' k r=>h v σ' H' M' (s.trans s' sub) E' (λa z=>back a (o' a z)) (k.trans hj) r
def PostM.same{P:Ow}(h:PostM X B P j σ H r D)(s:Same H H1):PostM X B P j σ H1 r D:=by
 cases r with
 |err c=>exact XA.later h (SameO.of s) λ_ z=>z.elim
 |bad=>exact h
 |ok f=>exact PostM.later (r:=.ok f) h (SameO.of s) (λa z=>.inl z) rfl
def Ni:Fm X j [] mN:=PSs.imp zr λD σ H ⟨Z,B,M,E,h⟩=>h σ H M (λ_ _ e _=>e) E (λa z=>.inl z) rfl
def Nh{F:En->Rs Fx}(h:Fj X j st F):Fm X j [st] F:=oo h
def KA{bM:List ZF}{F:En->Rs Fx}(h1:Fj X j st F)(h2:Fm X j bM G):Fm X j (st::bM) (jE F G):=PSs.imp (pk h1 h2) λD σ H hh_=>by
 obtain⟨Z,B,M,E,h⟩:=hh_;refine⟨Z,B,M,E,?_⟩
 unfold jE at h
 cases q:F Z with
 |bad=>rw[q]at h;exact h.elim
 |err c=>rw[q]at h;exact h
 |ok f=>
  rw[q]at h
  cases f with
  |nx Z'=>exact λσ' H' M' s' E' o' k=>⟨Z',B,M',E',PostM.later h s' o' k⟩
  |rt t Z'=>exact h
def m_ex(ha:Fi X a x)(hs:autoParam (Qt a ZB pos.line X.env=pure ZD) u_):Fj X j (.Expr a pos) (xy x):=PS.imp (iH ha hs) λD σ H hh_=>by
 obtain⟨Z,B,M,E,h⟩:=hh_;refine⟨Z,B,M,E,?_⟩
 unfold xy at h
 cases z:x Z with
 |bad=>rw[z]at h;exact h.elim
 |err c=>rw[z]at h;exact h
 |ok p=>rw[z,ax]at h;exact λv H' M' s' E' o' r=>h σ H' M' s' E' o' rfl
def Ng(ha:Fi X a x):Fj X j (.Return (ZA a) pos) (lS x):=PS.imp (xZ ha) λD σ H hh_=>by
 obtain⟨Z,B,M,E,h⟩:=hh_;refine⟨Z,B,M,E,?_⟩
 unfold lS at h
 cases z:x Z with
 |bad=>rw[z]at h;exact h.elim
 |err c=>rw[z]at h;exact h
 |ok p=>rw[z,ax]at h;exact λv H' M' s' E' o' r=>h v σ H' M' s' E' o' rfl r
def m_as(i:Nat){n:Str}(hij:i≠j)(hN:X.N.Nodup)(ha:Fi X a x)(hi:autoParam (X.N[i]?=ZA n) u_)(hx:autoParam (Loc X.env.scope n) y_)(hs:autoParam (Qt a (ZA (.Name n p3)) pos.line X.env=pure ZD) u_)
  (hf:autoParam (X.fn n=ZC\/X.env.scope.names.lookup n=ZA .local) r_):Fj X j (.Assign [.Name n p3] a pos) (Fe i x):=PS.imp (pq hN hi hx ha hs hf) λD σ H hh_=>by
 obtain⟨Z,B,M,E,h⟩:=hh_;refine⟨Z,B,M,E,?_⟩
 unfold Fe at h
 cases z:x Z with
 |bad=>rw[z]at h;exact h.elim
 |err c=>rw[z]at h;exact h
 |ok p=>
  rw[z,ax]at h;intro v H' M' s' E' o' r
  by_cases hl:i<p.2.length
  ·rw[if_pos hl]at h
   exact h _ H' M' s' ⟨E'.env.set hl r,E'.mine⟩ o' (P3 hij)
  ·rw[if_neg hl]at h;exact h.elim
def m_if{f:Y3}{A C:List ZF}{F:En->Rs Fx}(hc:ve X c f)(ha:Fm X j A F)(hb:Fm X j C G):Fj X j (.If c A C pos) (Bd f F G):=PS.imp (CD hc ha hb) λD σ H hh_=>by
 obtain⟨Z,B,M,E,h⟩:=hh_;refine⟨Z,OO B M,E.o,?_⟩
 unfold Bd at h
 cases q:f Z with
 |bad=>rw[q]at h;exact h.elim
 |err c=>rw[q]at h;exact h
 |ok k=>
  rw[q,ax]at h;intro H' s
  have E':Ev X.K B M H' Z σ:=E.same s
  cases k with
  |true=>refine L2.iteT ?_;exact⟨Z,B,M,E',PostM.same (by simpa using h) s⟩
  |false=>refine L2.iteF ?_;exact⟨Z,B,M,E',PostM.same (by simpa using h) s⟩
def Ev.blank(E:Ev K B M H Z σ):Ev K (OO B M) noM H (Qe σ.length .em) σ:=
 ⟨⟨by simp,λi t e=>(by rw[QK]at e;split at e <;> cases e),λi o e=>(by rw[QK]at e;split at e <;> cases e),λ_ _ z=>z.elim,λ_ _ _ z=>z.elim,λa z=>E.env.trk a (z.elim id λ⟨_,w⟩=>w.elim)⟩,λa ⟨_,z⟩=>z.elim⟩
def Nk{c:Str}(h:mh X st (vJ c)):Fj X j st (KC c):=PS.imp h λD σ H hh_=>by
 obtain⟨Z,B,M,E,q⟩:=hh_;refine⟨_,_,_,E.blank,?_⟩
 exact XA.later (P:=kI) q (λ_ _ e _=>e) λ_ ⟨_,z⟩=>z.elim
end
variable{b:ZE}
theorem rP{f:Str}{b:ZE}:∀{ns:List Str}{as:List ZE},ns.length=as.length->ns.contains f=ZC->∃as1 d as2,as=as1++d::as2/\putF f (.ref b) (ns.zip (as.map V.ref))=ns.zip ((as1++b::as2).map V.ref) ∧
  ∀{O:Ow}{H:Hp}{ls:List (List T)}{l:List T}{vs:List V},H b=ZA (.lst vs)->Reps K O H l vs->LsR K O H ls as->LsR K O H (jM f l ns ls) (as1++b::as2)
 |[],as,_,h=>by cases h
 |n::ns,[],hl,_=>by cases hl
 |n::ns,d::as,hl,h=>by
  by_cases z:n=f
  ·subst z
   refine⟨[],d,as,rfl,?_,λ{O H ls l vs} e1 e2 r=>?_⟩
   ·show(if n=n then(n,V.ref b)::_ else _)=_
    rw[if_pos rfl];rfl
   ·cases ls with
    |nil=>cases (show d::as=[]from r)
    |cons u ls=>
     obtain⟨b',bs,ws,f1,f2,f3,f4⟩:=r;cases f1
     show LsR K O H (if n=n then l::ls else _) _
     rw[if_pos rfl];exact⟨b,as,vs,rfl,e1,e2,f4⟩
  ·have h':ns.contains f=ZC:=by
    rw[QZ,XI]at h;rcases h with h|h
    ·exact absurd (eq_of_beq h).symm z
    ·exact h
   obtain⟨as1,d',as2,g1,g2,g3⟩:=rP (f:=f) (b:=b) (by simpa using hl) h'
   refine⟨d::as1,d',as2,by rw[g1];rfl,?_,λ{O H ls l vs} e1 e2 r=>?_⟩
   ·show(if n=f then _ else(n,V.ref d)::putF f (.ref b) (ns.zip (as.map V.ref)))=_
    rw[if_neg z,g2];rfl
   ·cases ls with
    |nil=>cases (show d::as=[]from r)
    |cons u ls=>
     obtain⟨b',bs,ws,f1,f2,f3,f4⟩:=r;cases f1
     show LsR K O H (if n=f then _ else u::jM f l ns ls) _
     rw[if_neg z];exact⟨d,_,ws,rfl,f2,f3,g3 e1 e2 f4⟩
theorem zq{f:Str}:∀{ns:List Str}{as:List ZE},ns.length=as.length->ns.contains f=ZD->putF f (.ref b) (ns.zip (as.map V.ref))=(ns++[f]).zip ((as++[b]).map V.ref)
 |[],[],_,_=>rfl
 |n::ns,[],hl,_=>by cases hl
 |n::ns,d::as,hl,h=>by
  rw[QZ,VN]at h
  show(if n=f then _ else(n,V.ref d)::putF f (.ref b) (ns.zip (as.map V.ref)))=_
  rw[if_neg (λz=>by rw[z,beq_self_eq_true]at h;exact Bool.noConfusion h.1),zq (by simpa using hl) h.2];rfl
theorem LsR.app(e1:H b=ZA (.lst vs))(e2:Reps K O H l vs):∀{ls:List (List T)}{as:List ZE},LsR K O H ls as->LsR K O H (ls++[l]) (as++[b])
 |[],as,r=>by cases (show as=[]from r);exact⟨b,[],vs,rfl,e1,e2,rfl⟩
 |u::ls,as,⟨d,ds,ws,f1,f2,f3,f4⟩=>by subst f1;exact⟨d,ds++[b],ws,rfl,f2,f3,LsR.app e1 e2 f4⟩
section
variable {fs:Y0}{p2 p4:Pos}
def Nj(i:Nat){n f:Str}(hc:Cls X.K (bP X.K c))(hn:NoAttr X.K (bP X.K c) f)(ha:qz X es fs)(hN:autoParam (X.N[i]?=ZA n) u_)(hv:autoParam (jk X.env.scope n) v_)
  (hd:autoParam ((n == ("__debug__" : Str))=ZD) s_) (hcd:autoParam ((n == ("__classdict__" : Str))=ZD) s_) (hs:autoParam (Qt (.List es p4) (ZA (.Attribute (.Name n p2) f p3)) pos.line X.env=pure ZD) u_):
  Fj X j (.Assign [.Attribute (.Name n p2) f p3] (.List es p4) pos) (wg i c f fs):=PS.imp (JV (dt hN hv hd hcd) (tY ha) hs) λD σ H hh_=>by
 obtain⟨Z,B,M,E,h⟩:=hh_;unfold wg at h
 split at h
 ·rename_i c' ns ls hi
  refine⟨Z,OO B M,E.o,?_⟩
  cases z:fs Z with
  |bad=>rw[z]at h;exact h.elim
  |err c=>rw[z]at h;exact h
  |ok l=>
   rw[z,ax]at h;intro H1 s1 vs rs
   split at h
   ·rename_i hcc
    obtain⟨h1,h2,h3⟩:=hcc;subst h1;refine⟨by rw[<-rs.length];exact h2,λb hb=>?_⟩
    have E1:=E.same s1;obtain⟨v0,s0,p,dx,as,e1,e2,⟨n1,n2,n3,n4⟩,e4,e5,e6,e7,e8⟩:=E1.env.own i _ hi;subst e1
    have nb:∀{d:ZE}{o:HO},H1 d=ZA o->d≠b:=λe z=>by rw[z,hb.1]at e;cases e
    have mb:∀a,M i a->a≠b:=λa w=>nb (E1.env.trk a (.inr ⟨i,w⟩)).some.choose_spec
    have pb:p≠b:=nb e4
    have hbas:b∉as:=λw=>mb b ((e2 b).mpr (.inr (.inr w))) rfl
    have sm1:Same H1 (upd H1 b (.lst vs)):=aW hb.1 _;refine⟨_,s0,p,_,dx,_,rfl,sm1 _ _ e4,hc,hn,by rw[XN,Py,<-e6];simpa using h3,?_⟩
    have key:∀(ns':List Str)(as':List ZE)(ls':List (List T)),putF f (.ref b) (ns.zip (as.map V.ref))=ns'.zip (as'.map V.ref)->ns'.length=as'.length->ns'.Nodup->as'.Nodup->(∀a,a∈as'->a=b\/a∈as) →
      (∀{O:Ow}{H:Hp},H b=ZA (.lst vs)->Reps X.K O H l vs->LsR X.K O H ls as->LsR X.K O H ls' as')->PostM X B M.u j σ H (.ok (.nx (Z.set i (.ow (.ob c' ns' ls'))))) D->D.nx σ (upd (upd H1 b (.lst vs)) p (.ins (bP X.K c') dx (putF f (.ref b) (ns.zip (as.map V.ref))))):=λns' as' ls' k1 k2 k3 k4 k5 k6 k7=>by
     rw[k1]
     generalize hm:(λa=>a=p\/a=dx\/a∈as':Ow)=m
     have hsub:∀a,m a->M i a\/Nw X.K H1 a:=λa w=>by
      subst hm;rcases w with w|w|w
      ·exact .inl ((e2 a).mpr (.inl w))
      ·exact .inl ((e2 a).mpr (.inr (.inl w)))
      ·exact(k5 a w).elim (λy=>.inr (y▸hb)) λy=>.inl ((e2 a).mpr (.inr (.inr y)))
     have hO:∀a,OO B (M.set i m) a->OO B M a\/Nw X.K H1 a:=λa w=>w.elim (λy=>.inl (.inl y)) λy=>(Mn.FM y).elim (λq=>(hsub a q).imp_left λt=>.inr ⟨i,t⟩) λq=>.inl (.inr q)
     have sm2:SameO (λa=>a=p) (upd H1 b (.lst vs)) (upd (upd H1 b (.lst vs)) p (.ins (bP X.K c') dx (ns'.zip (as'.map V.ref)))):=λd o e ne=>by rw[aH ne];exact e
     have smi:SameO (M i) H1 (upd (upd H1 b (.lst vs)) p (.ins (bP X.K c') dx (ns'.zip (as'.map V.ref)))):=λd o e ne=>sm2 d o (sm1 _ _ e) λw=>ne ((e2 d).mpr (.inl w))
     have nin:∀a∈as',a≠p:=λa ha w=>(k5 a ha).elim (λy=>pb (w▸y)) λy=>n1 (w▸y)
     have rp:∀{t:List T}{ws:List V},Reps X.K (OO B M) H1 t ws->Reps X.K (OO B (M.set i m)) (upd (upd H1 b (.lst vs)) p (.ins (bP X.K c') dx (ns'.zip (as'.map V.ref)))) t ws:=λr=>r.move (P:=M i) (λa w=>.inl (.inr ⟨i,w⟩)) hO smi
     have smp:SameO (λa=>a=p) H1 (upd (upd H1 b (.lst vs)) p (.ins (bP X.K c') dx (ns'.zip (as'.map V.ref)))):=λd o e ne=>sm2 d o (sm1 _ _ e) ne
     have fin:=k6 (O:=OO B (M.set i m)) (H:=upd (upd H1 b (.lst vs)) p (.ins (bP X.K c') dx (ns'.zip (as'.map V.ref)))) (by rw[aH (Sv pb)];exact aL) (rp rs) (e8.move (P:=λa=>a=p) (λa w=>.inl (.inr ⟨i,(e2 a).mpr (.inl w)⟩)) hO smp λd hd w=>n1 (w▸hd))
     have ndx:dx∉as':=λw=>(k5 dx w).elim (nb e5) n2
     obtain⟨g1,g2,g3⟩:=E1.back (m:=m) (o':=.ob c' ns' ls') hi s0 smi ⟨p,dx,as',rfl,λd=>by subst hm;exact SC,⟨λw=>nin p w rfl,ndx,n3,k4⟩,aL,by rw[aH n3];exact sm1 _ _ e5,k2,k3,fin⟩ hsub
     exact k7 σ _ _ (λd o e ne=>g2 d o (s1 _ _ e) ne) g1 (λa w=>(g3 a w).imp_right (dF s1)) rfl
    cases hf:ns.contains f with
    |true=>
     rw[hf,if_pos rfl]at h;obtain⟨as1,d,as2,q1,q2,q3⟩:=rP (K:=X.K) (f:=f) (b:=b) e6 hf;subst q1;refine key ns (as1++b::as2) (jM f l ns ls) q2 (by rw[e6];simp) e7 ?_ (λa w=>?_) (λa1 a2 a3=>q3 a1 a2 a3) h
     ·rw[Qs]at n4 ⊢
      obtain⟨m1,m2,m3⟩:=n4
      have nb1:b∉as1:=λw=>hbas (Qb _ w)
      have nb2:b∉as2:=λw=>hbas (Qd _ (Pw _ w))
      refine⟨m1,Qh.mpr ⟨nb2,(Qh.mp m2).2⟩,λu hu w hw=>?_⟩
      rcases PJ.mp hw with hw|hw
      ·exact λy=>nb1 (by rw[<-hw,<-y];exact hu)
      ·exact m3 u hu w (Pw _ hw)
     ·rcases PZ.mp w with w|w
      ·exact .inr (Qb _ w)
      ·rcases PJ.mp w with w|w
       ·exact .inl w
       ·exact .inr (Qd _ (Pw _ w))
    |false=>
     rw[hf,if_neg P6]at h;refine key (ns++[f]) (as++[b]) (ls++[l]) (zq e6 hf) (by simp[e6]) ?_ ?_ (λa w=>?_) (λa1 a2 a3=>LsR.app a1 a2 a3) h
     ·rw[Qs]
      refine⟨e7,by simp,λu hu w hw y=>?_⟩
      rw[PL.mp hw]at y
      have:ns.contains f=ZC:=by rw[List.contains_iff_mem,<-y];exact hu
      rw[hf]at this;cases this
     ·rw[Qs]
      exact⟨n4,by simp,λu hu w hw y=>hbas (by rw[<-PL.mp hw,<-y];exact hu)⟩
     ·rcases PZ.mp w with w|w
      ·exact .inr w
      ·exact .inl (PL.mp w)
   ·exact h.elim
 ·exact h.elim
end
variable{N:List Str}
def oY(E:Ev K B M H sls (vs.map ZA))(hl:sls.length<=N.length):Ev K B M H (fj N.length sls) (start N vs):=by
 have hlen:sls.length=vs.length:=by rw[E.env.len,Py]
 have low:∀(i:Nat)(z:Sl),(fj N.length sls)[i]?=ZA z->z=.em\/(sls[i]?=ZA z/\(start N vs)[i]?=(vs.map ZA)[i]?):=λi z e=>by
  unfold fj at e;unfold L2.start
  by_cases hi:i<sls.length
  ·rw[Qo hi]at e
   exact .inr ⟨e,Qo (by rw[Py,<-hlen];exact hi)⟩
  ·rw[Rr (by omega),QK]at e
   split at e
   ·cases e;exact .inl rfl
   ·cases e
 refine⟨⟨by unfold fj L2.start;simp;omega,λi t e=>?_,λi o e=>?_,E.env.sub,E.env.dis,E.env.trk⟩,E.mine⟩
 ·rcases low i _ e with z|⟨e1,e2⟩
  ·cases z
  ·rw[e2];exact E.env.val i t e1
 ·rcases low i _ e with z|⟨e1,e2⟩
  ·cases z
  ·rw[e2];exact E.env.own i o e1
def GJ{f:Fx}{p:T×OT}(h:qS j f=.ok p):(∃Z,f=.nx Z/\p.1=.non/\Z[j]?=ZA (.ow p.2))\/∃Z,f=.rt p.1 Z/\Z[j]?=ZA (.ow p.2):=by
 cases f with
 |nx Z=>
  unfold qS at h
  dsimp only at h
  split at h
  ·rename_i o e;cases h;exact .inl ⟨Z,rfl,rfl,e⟩
  ·cases h
 |rt t Z=>
  unfold qS at h
  dsimp only at h
  split at h
  ·rename_i o e;cases h;exact .inr ⟨Z,rfl,e⟩
  ·cases h
variable{mg:WF}{qual:Str}
section
variable {base:ZH}
def NM{F:En->Rs Fx}(Fn:L2.Fun K x qual st f fd)(S:bo N ps (ao st))(hn:ps.length=n)
  (hbody:∀(cdv:Px)(A:Qq)(outer:List Env)(s:Pz)(H:Hp)(E:XK),Room k (A.deeper (envOfC qual (ao st) s.heap.objs.size f cdv)) →
   Fm (gu CX0 P w K mg base N qual (ao st) f cdv A outer s H E).nox j (bJ st) F):qB P w K mg base CX0 (k+1) f fd ps (spE K n j (hW n j N.length F)):=by
 have hpl:ps.length<=N.length:=by have:=congrArg Sa S.pre;rw[Ri]at this;omega
 refine Fn.ok S (λvs H Q E h=>?_) (λcdv A outer s H vs Q E hr h=>?_)
 ·obtain⟨sls,B,m,v,Ea,hl,_⟩:=h
  rw[<-Py (as:=vs) (f:=ZA),<-Ea.env.len,hl,hn]
 ·obtain⟨sls,B,m,v,Ea,hl,hv,h⟩:=h
  refine⟨_,hbody cdv A outer s H E hr,fj N.length sls,B,one j m,oY Ea (by omega),?_⟩
  have hjs:(start N vs)[j]?=ZA (ZA v):=by
   unfold L2.start;rw[Qo (by rw[Py];exact(PM.mp hv).1),P9,hv];rfl
  unfold hW at h;rw[if_pos hl]at h
  have fin:∀{p:T×OT}{Z':En}{σ':L2.St}{H':Hp}{M':Mn}{u:V},(∀u H' m',SameO m H H'->ORep K (BM B m') m' H' p.2 v->(∀a,m' a->m a\/Nw K H a)->Rep K (BM B m') H' p.1 u->Q u H')->Z'[j]?=ZA (.ow p.2) →
    SameO (one j m).u H H'->Ev K B M' H' Z' σ'->(∀a,M'.u a->(one j m).u a\/Nw K H a)->σ'[j]?=(start N vs)[j]?->Rep K (OO B M') H' p.1 u->Q u H':=λ{p Z' σ' H' M' u} h hj s' E' o' k r=>by
   obtain⟨v',e1,e2⟩:=E'.env.own j _ hj;rw[k,hjs]at e1;cases e1
   have sub:∀a,BM B (M' j) a->OO B M' a:=λa z=>z.imp_right λy=>⟨j,y⟩
   exact h u H' (M' j) (λb o e n=>s' b o e λz=>n (one_u.mp z)) (e2.move (P:=kI) (λ_ z=>z.elim) (λa z=>.inl (sub a z)) (λb u q _=>q) λ_ _ z=>z) (λa z=>(o' a ⟨j,z⟩).imp_left one_u.mp) (r.less sub)
  cases q:F (fj N.length sls)with
  |bad=>rw[q]at h;exact h.elim
  |err c=>rw[q]at h;exact h.elim
  |ok fl=>
   rw[q,ax]at h
   cases q2:qS j fl with
   |bad=>rw[q2]at h;exact h.elim
   |err c=>rw[q2]at h;exact h.elim
   |ok p=>
    rw[q2]at h;rcases GJ q2 with⟨Z',rfl,e1,e2⟩|⟨Z',rfl,e2⟩
    ·exact λσ' H' M' s' E' o' k=>fin h e2 s' E' o' k (by rw[e1];exact Rep.OU)
    ·exact λu σ' H' M' s' E' o' k r=>fin h e2 s' E' o' k r
def Hk(Fn:L2.Fun K x qual st f fd)(S:bo N ps (ao st)){outer:List Env}{args:Args}
  (hr:Room (k+1) A) (e0:Env0 P w K mg base A outer s H) (hb:VC s fd args (ps.zip us)) (r:Vals vs us) (hlen:vs.length=ps.length) (hR:∀ev s',RzC P w mg outer H s c ev s'->R (.error ev) s')
  (hbody:∀cdv,Room k (A.deeper (envOfC qual (ao st) s.heap.objs.size f cdv))->∀xe,∃t,PSs ((gu CX0 P w K mg base N qual (ao st) f cdv A outer s H E0).FB xe) (bJ st) t ∧
   (XA ((gu CX0 P w K mg base N qual (ao st) f cdv A outer s H E0).FB xe) kI H c->t {nx:=λ_ _=>False,rt:=λ_ _=>False,bk:=λ_ _=>False,ct:=λ_ _=>False} (start N vs) H)):
  ZL (ZK P w) A (.call (.ref f) args) R s:=by
 obtain⟨oc,od,kV,doc,pm,an,cdv,ct,osl,rfl,lk,hcd⟩:=Fn.ex
 have KX:K.In s.heap:=e0.mod.kin.keeps λb o e=>(e0.bs b o e).1
 have lim:s.heap.NoLimit:=e0.mod.nolimit.keeps λb o e=>(e0.bs b o e).1
 have hkind:∀y∈ps.zip us,(ao st).names.lookup y.1=ZA .local\/((ao st).names.lookup y.1=ZA .cell/\((Sr (s.heap.objs.size+1) (ao st).names []).lookup y.1).isSome=ZC):=λ⟨n,v⟩ hy=>by
  rcases S.par n (SI hy).1 with q|q
  ·exact .inl q
  ·exact .inr ⟨q,SA _ _ _ (.inl q)⟩
 refine TY hr.depth (KX _ _ lk) rfl S.co S.gen rfl (UI KX hcd) (hb _ _ _ _ ?_)
 refine S0 S.kind hkind λenv he s1 x=>?_
 subst he;refine⟨lim.keeps x.toInCall.keep,Xb ?_⟩
 let xe:WP:=λev s'=>ZJ (ZK P w) (A.deeper (envOfC qual (ao st) s.heap.objs.size f cdv)) (leaving (envOfC qual (ao st) s.heap.objs.size f cdv) ev) (λ_ s''=>R (.error ev) s'') (λe' s''=>R (.error e') s'') s'
 obtain⟨t,ht,hgo⟩:=hbody cdv (hr.deeper _) xe
 have I:Inv ((gu CX0 P w K mg base N qual (ao st) f cdv A outer s H E0).FB xe) [] (start N vs) H s1:=(mV S hr.hd e0 hlen r x).FB _;refine Rm (ht [] s1 (start N vs) H _ I (hgo ?_)) (λfl s' z=>?_) λe s' hs=>hs
 rotate_left
 ·cases fl with
  |next=>obtain⟨_,_,_,z⟩:=z;exact z.elim
  |cont=>obtain⟨_,_,_,z⟩:=z;exact z.elim
  |brk=>obtain⟨_,_,_,z⟩:=z;exact z.elim
  |ret v=>obtain⟨_,_,_,_,_,z⟩:=z;exact z.elim
 intro kt ev s' w'
 show ZJ _ _ _ _ _ _
 obtain⟨e,T,C,σ',H',rfl,hm,I',sm,he,heo,fl,hT,_⟩:=w'
 have heo:=heo rfl
 have hT:∀t,T=ZA t->H' t=ZB/\s.heap.get? t=ZB:=λt z=>⟨(hT t z).1,(hT t z).2 rfl⟩
 refine Du (base:=base) (outer:=outer) (L:=s.heap.objs.size) I'.ok.frames I'.stack rfl fl λh' T' g=>hR _ _ ?_
 have hex:((gu CX0 P w K mg base N qual (ao st) f cdv A outer s H E0).FB xe).ex=[]:=rfl
 have Tn:H' T'=ZB/\s.heap.get? T'=ZB:=by
  rcases g.new with z|z
  ·exact hT T' z
  ·exact⟨jz I' z,fm I' hex z⟩
 have out:∀b o,s.heap.get? b=ZA o->b≠s.heap.objs.size:=λb o q z=>by
  have:=PU q;rw[z]at this;exact absurd this (Qm _)
 have mem:∀b,b∈oG ((envOfC qual (ao st) s.heap.objs.size f cdv)::outer)->b=s.heap.objs.size\/b∈oG outer:=λb z=>by
  have z':b∈s.heap.objs.size::oG outer:=z;exact PJ.mp z'
 have ne:∀b o,s.heap.get? b=ZA o->b≠e/\T≠ZA b:=λb o q=>⟨λz=>(by subst z;rw[show s.heap.get? b=ZB from heo]at q;cases q),λz=>(by rw[show s.heap.get? b=ZB from(hT b z).2]at q;cases q)⟩
 have keepH:∀b u,H' b≠ZB->s'.heap.get? b=ZA u->h'.get? b=ZA u:=λb u hb q=>by
  refine g.keep b u (λz=>hb (I'.Ov b z)) (λz=>hb (by rw[z];exact he)) (λz=>hb (hT b z).1) q
 refine⟨e,T',C,H',rfl,hm,I'.os,I'.bare,⟨λb o q n hb hx=>?_,λb o q n hb hx=>?_,λb o q n hx=>I'.base.free b o q n hx,λb o q hx=>?_,I'.base.tups,I'.base.frzs,I'.base.tbls⟩,λa o q=>?_,λb o q=>sm b o q λz=>z,he,heo,g.flt,Tn.1,Tn.2⟩
 ·exact g.keep b o (λz=>(mem b z).elim (out b o q) hb) (ne b o q).1 (ne b o q).2 (I'.base.keep b o q n hb hx)
 ·obtain⟨sl,q1⟩:=I'.base.slot b o q n hb hx
  obtain⟨sl',q2⟩:=g.slot b _ (Pw _ hb) q1;exact⟨sl',q2⟩
 ·obtain⟨o',q1⟩:=I'.base.there b o q hx
  by_cases z:b∈oG ((envOfC qual (ao st) s.heap.objs.size f cdv)::outer)
  ·obtain⟨sl,q2⟩:=g.slot b o' z q1
   exact⟨_,q2⟩
  ·exact⟨o',g.keep b o' z (ne b o q).1 (ne b o q).2 q1⟩
 ·refine(I'.hok a o q).OA (λb u hb z=>keepH b u ?_ z) (λ_ z=>z) λ_ _ z=>z
  rcases hb with rfl|hb
  ·rw[q];simp
  ·rw[hb];simp
def B4{m:Nat}{F:En->Rs Fx}(h:hW n j m F sls=.err c):F (fj m sls)=.err c:=by
 unfold hW at h
 split at h
 ·cases z:F (fj m sls)with
  |bad=>rw[z]at h;cases h
  |err c'=>rw[z]at h;cases h;rfl
  |ok f=>
   rw[z,ax]at h;cases f <;> unfold qS at h <;> dsimp only at h <;> split at h <;> cases h
 ·cases h
def D7{F:En->Rs Fx}(Fn:L2.Fun K x qual st f fd)(S:bo N ps (ao st))(hn:ps.length=n)
  (hbody:∀(cdv:Px)(A:Qq)(outer:List Env)(s:Pz)(H:Hp)(E:XK),Room k (A.deeper (envOfC qual (ao st) s.heap.objs.size f cdv)) →
   ∀xe,Fm ((gu CX0 P w K mg base N qual (ao st) f cdv A outer s H E).FB xe) j (bJ st) F):E6 P w K mg base (k+1) f fd ps n j (hW n j N.length F):=
 ⟨NM Fn S hn λcdv A outer s H E hr=>hbody cdv A outer s H E hr _,λA outer s H args us vs B m sls c R hr e0 hb r Ea hl hg hR=>by
  have hpl:ps.length<=N.length:=by have:=congrArg Sa S.pre;rw[Ri]at this;omega
  refine Hk Fn S hr e0 hb r ?_ hR λcdv hr' xe=>⟨_,hbody cdv A outer s H E0 hr' xe,λxa=>⟨fj N.length sls,B,one j m,oY Ea (by omega),?_⟩⟩
  ·rw[<-Py (as:=vs) (f:=ZA),<-Ea.env.len,hl,hn]
  ·rw[B4 hg];exact xa⟩
end
variable{spos:Pos}
def AV(M:Mk X.K (bP X.K c) f)(F:E6 X.prog X.w X.K X.mg X.base k f fd ps n 0 g)(hr:Room (k+1) X.A)(hb:Binds X.K fd ps [])(hn:ts.length+1=n)(hps:ps.length=n)(I:Inv X kt σ H s)(r:Vals vs us)(rs:Reps X.K O H ts vs)(mt:∀a,O a->Mtb H a){o:OT}
  (hg:g (.ow (.ob c [] [])::ts.map Sl.va)=.ok (.non,o)) (h:∀p H' m,Same H H'->ORep X.K (BM O m) m H' o (.ref p)->(∀a,m a->Nw X.K H a)->Q (.ref p) H'):ZJ (ZK X.prog X.w) X.A (call (.ref (bP X.K c)) us) (EP X kt σ Q) X.xe s:=by
 have nk:∀q,s.heap.objs.size<=q->X.K.lookup q=ZB:=λq hq=>by
  cases z:X.K.lookup q with
  |none=>rfl
  |some o=>exact absurd (PU (I.kIn _ o z)) (Nat.not_lt.mpr hq)
 generalize hp:s.heap.objs.size+1=p
 have np:Nw X.K H p:=⟨I.hok.fresh (by omega),nk p (by omega)⟩
 generalize hd:s.heap.objs.size=dx at hp
 have nd:Nw X.K H dx:=⟨I.hok.fresh (by omega),nk dx (by omega)⟩
 have ne:dx≠p:=by omega
 have sm0:Same H (upd (upd H dx (.own p)) p (.ins (bP X.K c) dx [])):=λb o e=>by
  rw[aH (λz=>by rw[z,np.1]at e;cases e),aH (λz=>by rw[z,nd.1]at e;cases e)];exact e
 have hm:∀a,(λa=>a=p\/a=dx:Ow) a->Nw X.K H a:=λa z=>z.elim (λy=>y▸np) λy=>y▸nd
 have subO:∀a,OO O (one 0 λa=>a=p\/a=dx) a->O a\/Nw X.K H a:=λa z=>(one_oo.mp z).imp_right (hm a)
 have hlen:=rs.length
 have Ea:Ev X.K O (one 0 λa=>a=p\/a=dx) (upd (upd H dx (.own p)) p (.ins (bP X.K c) dx [])) (.ow (.ob c [] [])::ts.map Sl.va) ((V.ref p::vs).map ZA):=by
  refine⟨⟨by simp[hlen],λi t e=>?_,λi o' e=>?_,λi a z=>.inr ⟨i,z⟩,λi k a z1 z2=>?_,λa z=>?_⟩,λa z y=>?_⟩
  ·obtain⟨w,e1,e2⟩:=yL (v0:=V.ref p) rs e
   exact⟨w,by rw[P9,e1];rfl,(e2.more subO).same sm0⟩
  ·have hi:=yM e
   subst hi;cases e;refine⟨.ref p,rfl,p,dx,[],rfl,λb=>?_,⟨by simp,by simp,ne,by simp⟩,aL,?_,rfl,by simp,rfl⟩
   ·rw[show one 0 (λa=>a=p\/a=dx) 0=_ from Mn.KF];simp
   ·rw[aH ne];exact aL
  ·unfold one Mn.set at z1 z2
   by_cases h1:i=0
   ·by_cases h2:k=0
    ·rw[h1,h2]
    ·rw[if_neg h2]at z2;exact z2.elim
   ·rw[if_neg h1]at z1;exact z1.elim
  ·rcases one_oo.mp z with y|y|y
   ·exact(mt a y).same sm0
   ·rw[y];exact .inr (.inr ⟨_,aL,rfl⟩)
   ·rw[y];exact .inr (.inr ⟨_,by rw[aH ne];exact aL,rfl⟩)
  ·obtain⟨o,e⟩:=(mt a y).some
   rw[(hm a (one_u.mp z)).1]at e;cases e
 have hq:spE X.K n 0 g (.ref p::(vs++[])) (upd (upd H dx (.own p)) p (.ins (bP X.K c) dx [])) (λv H2=>v=.non/\Q (.ref p) H2) E0:=by
  refine⟨_,O,_,.ref p,by rw[Ql];exact Ea,by simp[hn],rfl,?_⟩
  rw[hg];intro u H' m' s' ro hm' rt;refine⟨Rep.On.mp rt,h p H' m' (λb o e=>s' b o (sm0 _ _ e) λz=>?_) ro λa z=>?_⟩
  ·rw[(hm b z).1]at e;cases e
  ·rcases hm' a z with y|y
   ·exact hm a y
   ·exact dF sm0 y
 have I2:=Inv.made (C:=bP X.K c) I;rw[hd,hp]at I2
 have r2:Vals (V.ref p::(vs++[])) (P7 p::(us++[])):=.cons rfl (r.append .nil)
 have hl:(P7 p::us++[]).length=ps.length:=by rw[Ql,PH,<-r.length,<-hlen,hps,hn]
 refine U0 (Dl (f:=f) I.kIn M.makes M.init (beq_iff_eq.mp M.fn) ?_)
 rw[hd,hp]
 have hb2:=hb _ (P7 p::us) I2.kIn hl;rw[Xm]at hb2;refine SN (F.h.run _ X.stack _ _ ⟨P7 p::us,[]⟩ (P7 p::(us++[])) _ _ E0 (hr.make (bP X.K c) us []) (I2.OQ.make (bP X.K c) us []) hb2 r2 hq) λr s' hq'=>?_
 cases r with
 |error e=>exact hq'.elim
 |ok fl=>
  cases fl with
  |ret u=>
   obtain⟨v,H',I3,rv,ev,q3⟩:=I2.after hq';subst ev
   exact⟨rv,⟨V.ref p,H',I3,rfl,q3⟩⟩
  |next=>exact Rf hq'
  |brk=>exact Rf hq'
  |cont=>exact Rf hq'
def F8(i:Nat){fs:Y0}{n0:Str}(M:Mk X.K (bP X.K c) f)(F:E6 X.prog X.w X.K X.mg X.base k f fd ps n 0 g)(hr:Room (k+1) X.A)(hm:X.mg c=ZA (.ref (bP X.K c)))(hb:Binds X.K fd ps [])(hps:ps.length=n)
  (hl:∀Z ts,fs Z=.ok ts->ts.length+1=n) (hN:X.N.Nodup) (ha:qz X (e::es) fs) (hi:autoParam (X.N[i]?=ZA n0) u_) (hx:autoParam (Loc X.env.scope n0) y_)
  (hs:autoParam (Qt (.Call (.Name c p) (e::es) [] pos) (ZA (.Name n0 p3)) spos.line X.env=pure ZD) u_) (hf:autoParam (X.fn n0=ZC\/X.env.scope.names.lookup n0=ZA .local) r_)
  (hg:autoParam (Gl X c) u_) (hdb:autoParam ((c == ("__debug__" : Str))=ZD) s_) (he:autoParam (PR (e::es) X.env=(ZD,eval e X.env)::PR es X.env) u_) (hpl:autoParam ((backTo pos (PR es X.env)).any (·.1)=ZD) u_):
  mh X (.Assign [.Name n0 p3] (.Call (.Name c p) (e::es) [] pos) spos) (ph i c g fs):=by
 let te:TE:=λσ H Q=>∃Z B M',Ev X.K B M' H Z σ/\(∀c,fs Z=.err c->XA X kI H c)/\fs Z≠ .bad/\(∀ts,fs Z=.ok ts->∃o,g (.ow (.ob c [] [])::ts.map Sl.va)=.ok (.non,o)/\∀q H1 H' m,Same H H1->Same H1 H'->ORep X.K (BM (OO B M') m) m H' o (.ref q)->(∀a,m a->Nw X.K H1 a)->Q (.ref q) H')
 have pe:PE X (.Call (.Name c p) (e::es) [] pos) te:=by
  intro kt s σ H Q I ⟨Z,B,M',E,h1,h2,h3⟩;refine Q1 (gH I hg hm ?_ hdb)
  refine R3 (h₀:=X.base) I.ok.mod.kin M.kp (bV (ha pos kt s σ H (λvs H2=>∃ts,fs Z=.ok ts/\Same H H2/\Reps X.K (OO B M') H2 ts vs) I ⟨Z,OO B M',E.o,?_⟩) λus s1 ⟨vs,H1,I1,r,ts,q1,sm,rs⟩=>⟨I1.kIn,?_⟩) he hpl
  ·cases z:fs Z with
   |bad=>exact(h2 z).elim
   |err c=>exact h1 c z
   |ok ts=>exact λH' s' vs rs=>⟨ts,rfl,s',rs⟩
  ·obtain⟨o,hgo,hq⟩:=h3 ts q1
   exact AV M F hr hb (hl Z ts q1) hps I1 r rs (E.same sm).env.trk hgo λq H' m s' ro hm'=>hq q H1 H' m sm s' ro hm'
 refine PS.imp (pq hN hi hx pe hs hf) λD σ H ⟨Z,B,M',E,h⟩=>?_
 unfold ph at h;refine⟨Z,B,M',E,λc z=>?_,λz=>?_,λts z=>?_⟩
 ·rw[z]at h;exact PostF.xa h
 ·rw[z]at h;exact h
 ·rw[z,ax]at h
  cases z2:g (.ow (.ob c [] [])::ts.map Sl.va)with
  |bad=>rw[z2]at h;exact h.elim
  |err c=>rw[z2]at h;exact h.elim
  |ok q=>
   rw[z2]at h
   replace h:PostF X B M'.u H (match q.1 with
    |.non=>if i<Z.length then .ok (.nx (Z.set i (.ow q.2)))else .bad
    |_=>.bad) D:=h
   obtain⟨t,o⟩:=q
   cases t with
   |non=>
    dsimp only at h
    refine⟨o,rfl,λq H1 H' m s1 s' ro hm'=>?_⟩
    by_cases hl:i<Z.length
    ·rw[if_pos hl]at h
     obtain⟨E2,sub⟩:=(E.same s1).new (m:=m) (o:=o) (v:=.ref q) hl hm' s' (ro.move (P:=kI) (λ_ z=>z.elim) (λa z=>.inl (z.elim (λw=>.inl (.inl w)) λw=>(Mn.FM w).elim .inr λy=>.inl (.inr y))) (λb u q _=>q) λ_ _ z=>z)
     exact h _ _ _ (SameO.of (s1.trans s')) E2 λa z=>(sub a z).imp_right (dF s1)
    ·rw[if_neg hl]at h;exact h.elim
   |_=>exact h.elim
variable{b0:ZF}{body suite:List ZF}{ce:Str}{hpos np:Pos}
def ET(X:Cx)(suite:List ZF)(CE:ZE)(h:Str->Rs T):Prop:=
 ∀(c:Str)(C:ZE)(t:T),X.mg c=ZA (.ref C)->h c=.ok t->∃bm,OX X.K C bm/\(P7 C::bm).contains (.ref CE)=ZC/\∀(e:ZE)(oe:Obj),mf (uQ X e oe) suite (aM (cn t))
def Kz{F:En->Rs Fx}{h:Str->Rs T}{CE:ZE}(hst:X.stack=X.env::X.outer)(hfe:X.env.frame=ZA X.env.locals)(hcl:∀x c,X.env.cells.lookup x≠ZA c)(hex:X.ex=[])
  (hm:X.mg ce=ZA (.ref CE)) (OE:OX X.K CE bmE)
  (hb:∀pn xe,Fm {X with pn:=pn,xe:=xe} j body F) (hs:ET X (b0::suite) CE h) (hg:autoParam (Gl X ce) u_) (hd:autoParam ((ce == ("__debug__" : Str))=ZD) s_):
  Fj X j (.Try body [.ExceptHandler (ZA (.Name ce np)) ZB (b0::suite) hpos] [] [] pos) (pW F h):=by
 intro kt s σ H D I ⟨Z,B,M,E,hq⟩;refine Xv ?_
 unfold pW at hq
 cases q:F Z with
 |bad=>rw[q]at hq;exact hq.elim
 |ok fl=>
  rw[q]at hq;refine Rm (hb X.pn (λ_ _=>False) kt s σ H D (I.FB _) ⟨Z,B,M,E,by rw[q];cases fl <;> exact hq⟩) (λf s1 r=>?_) (λe s1 z=>z.elim)
  cases f with
  |next=>obtain⟨σ7,H7,I7,q7⟩:=r;exact To ⟨σ7,H7,I7.FB _,q7⟩
  |ret u=>obtain⟨x7,σ7,H7,I7,r7,q7⟩:=r;exact⟨x7,σ7,H7,I7.FB _,r7,q7⟩
  |brk=>obtain⟨σ7,H7,I7,q7⟩:=r;exact⟨σ7,H7,I7.FB _,q7⟩
  |cont=>obtain⟨σ7,H7,I7,q7⟩:=r;exact⟨σ7,H7,I7.FB _,q7⟩
 |err c=>
  rw[q]at hq
  cases q2:h c with
  |bad=>simp only[q2]at hq;exact hq.elim
  |err c'=>simp only[q2]at hq;exact hq.elim
  |ok t=>
   simp only[q2]at hq
   have hq':∀v H',Same H H'->Rep X.K (OO B M) H' t v->D.rt v H':=λv H' s' r=>hq v σ H' M (SameO.of s') (E.same s') (λa z=>.inl z) rfl r
   refine Rm (hb (X.pn++kt) _ [] s σ H {nx:=λ_ _=>False,rt:=λ_ _=>False,bk:=λ_ _=>False,ct:=λ_ _=>False} ((Tr.Inv.OZ kt I).FB _) ⟨Z,B,M,E,?_⟩) (λfl s' z=>?_) λ_ _ z=>z
   rotate_left
   ·cases fl with
    |next=>obtain⟨_,_,_,z⟩:=z;exact z.elim
    |cont=>obtain⟨_,_,_,z⟩:=z;exact z.elim
    |brk=>obtain⟨_,_,_,z⟩:=z;exact z.elim
    |ret v=>obtain⟨_,_,_,_,_,z⟩:=z;exact z.elim
   rw[q];intro pins1 ev s1 w;obtain⟨e,T,C,σ1,H1,rfl,hmc,I1,smn,he,heo,fl,hT,hpp⟩:=w
   have sm:Same H H1:=λb o z=>smn b o z λy=>y
   have I1:Inv X kt σ1 H1 s1:=Tr.Inv.O5 (X:=X) I1
   have hpp:∀p∈X.pn++kt,p.1≠e/\T≠ZA p.1:=λp hp=>hpp p (Qb _ hp)
   have heo:=heo hex
   have hT:∀t,T=ZA t->H1 t=ZB/\X.s₀.heap.get? t=ZB:=λt z=>⟨(hT t z).1,(hT t z).2 hex⟩
   show ZJ _ _ _ _ _ _
   have hfr:X.A.frames=ZA (X.env::X.outer):=by rw[<-hst];exact I1.ok.frames
   have hstk:s1.heap.FunFrames X.base (X.env::X.outer):=by rw[<-hst];exact I1.stack
   refine Ik hfr hstk hfe fl λh' T' g=>?_
   have I2:=Inv.gone I1 hst hfe hcl hex g he heo hT hpp
   have Tn:H1 T'=ZB/\X.s₀.heap.get? T'=ZB/\∀p∈X.pn++kt,p.1≠T':=by
    rcases g.new with z|z
    ·exact⟨(hT T' z).1,(hT T' z).2,λp hp y=>(hpp p hp).2 (by rw[z,y])⟩
    ·exact⟨jz I1 z,fm I1 hex z,λp hp y=>by have:=(I1.pin p hp).1;rw[y,z]at this;cases this⟩
   obtain⟨bm,OC,hin,run⟩:=hs c C t hmc q2;obtain⟨hTe,oe,ev,hoe,hoc,hod,h1,oT,ts,hoT,hdT,h3⟩:=g.flt
   have nfr:∀b o vs,h'.get? b=ZA o->o.data=.fields vs->b∉(X.env::X.outer).filterMap (·.frame):=λb o vs hb hd z=>by
    have:=I2.stack;rw[hst]at this;obtain⟨_,o',ho',hnf⟩:=this.mem z;rw[show h'.get? b=ZA o' from ho']at hb
    cases hb;exact hnf vs hd
   have hel:e≠X.env.locals:=λz=>nfr e oe ev hoe hod (by rw[Q8,hfe];exact z▸PB)
   have hef:e∉X.fs:=λz=>nfr e oe ev hoe hod (by rw[Q8,hfe];exact Pw _ z)
   have hcell:∀v,oe.data≠ .cell v:=λv z=>by rw[hod]at z;cases z
   have I3:Inv (uQ X e oe) kt σ1 H1 {s1 with heap:=h'}:=oC I2 hoe he hel hef hcell
   refine V8 (VG (gH (X:=uQ X e oe) I3 hg hm ?_ hd)) (by intro z;cases z)
   obtain⟨nm,qq,N,bs,hdct,sn,sub,ab,col,dd,k0,k1,k2,k3,k5,mN,hC,_⟩:=OC.at_ h' I3.kIn;obtain⟨nm',qq',N',bs',hdct',sn',sub',ab',col',dd',k0',k1',k2',k3',k5',mN',hD,_,_,TD⟩:=OE.at_ h' I3.kIn;refine rX hC hD hoe hoc (TD.tail.hasType (by decide)) hin (codeAny_handlers_suite ?_)
   refine VR hoe hod h1 hoT hdT (Q3.mp h3).1 ?_
   generalize hU:h'.update T' (Ui (·.setIfInBounds 3 Qx))=h2
   have kp:∀b,b≠T'->h2.get? b=h'.get? b:=λb hb=>by rw[<-hU];exact SB _ _ (Sv hb)
   have hT2:h2.get? T'=ZA (Ui (·.setIfInBounds 3 Qx) oT):=by rw[<-hU];exact TN _ hoT (TQ (R5 hdT _))
   have hoe2:h2.get? e=ZA oe:=(kp e (Sv hTe)).trans hoe
   have g2:E5 ((X.env::X.outer).filterMap (·.frame)) C e (ZA T') h' h2 T':=⟨⟨hTe,oe,ev,hoe2,hoc,hod,h1,_,_,hT2,R5 hdT _,by simp[(Q3.mp h3).1]⟩,.inl rfl,λb o _ _ n3 q=>(kp b λz=>n3 (by rw[z])).trans q,λb o m q=>⟨o.slots,(kp b λz=>nfr T' oT ts hoT hdT (z▸m)).trans q⟩⟩
   have I4:Inv X kt σ1 H1 {s1 with heap:=h2}:=Inv.gone (s:={s1 with heap:=h'}) I2 hst hfe hcl hex g2 he heo (λt z=>by cases z;exact⟨Tn.1,Tn.2.1⟩) λp hp=>⟨(hpp p hp).1,λz=>Tn.2.2 p hp (Qu z).symm⟩
   have I5:Inv (uQ X e oe) kt σ1 H1 {s1 with heap:=h2}:=oC I4 hoe2 he hel hef hcell
   have Eb:=(E.same sm).blank;obtain⟨Zb,hρb⟩:∃Zb:En,Zb=Qe σ1.length Sl.em:=⟨_,rfl⟩
   have E1:Ev X.K (OO B M) noM H1 Zb σ1:=by
    subst hρb;exact⟨⟨by simp,λi t e=>(by rw[QK]at e;split at e <;> cases e),λi o e=>(by rw[QK]at e;split at e <;> cases e),λ_ _ z=>z.elim,λ_ _ _ z=>z.elim,Eb.env.trk⟩,λa ⟨_,z⟩=>z.elim⟩
   refine Rm (run e oe kt _ σ1 H1 {nx:=λ_ _=>False,rt:=λv H'=>Same H1 H'/\Rep X.K (OO B M) H' t v} I5 ⟨Zb,OO B M,noM,E1,λv H' s' r=>⟨λb o z=>s' b o z λ⟨_,y⟩=>y,r⟩⟩) (λf s4 r=>?_) λ_ _ z=>z.elim
   cases f with
   |next=>obtain⟨_,_,_,z⟩:=r;exact z.elim
   |brk=>obtain⟨_,_,_,z⟩:=r;exact z.elim
   |cont=>obtain⟨_,_,_,z⟩:=r;exact z.elim
   |ret u=>
    obtain⟨v,σ',H',I7,rv,s',rt⟩:=r;exact⟨v,_,H',z8 I.ok I7,rv,hq' v H' (λb o y=>s' b o (sm b o y)) rt⟩
structure QE (X:Cx)(e:ZG)(f:Y2):Prop where
 h:cg X e f
structure QA (X:Cx)(e:List ZG)(f:Y0):Prop where
 h:qz X e f
structure QT (X:Cx)(e:ZG)(f:Y3):Prop where
 h:ve X e f
structure QW (X:Cx)(e:ZG)(f:Y3):Prop where
 h:IL X e f
structure QS (X:Cx)(e:ZF)(f:Y1):Prop where
 h:mh X e f
structure yX (X:Cx)(e:List ZF)(f:Y1):Prop where
 h:mf X e f
structure QG (X:Cx)(e:ZG)(f:T->En->Rs En):Prop where
 h:Fo X e f
structure Oj (X:Cx)(e:List ZG)(f:List T->En->Rs En):Prop where
 h:EY X e f
structure QI (X:Cx)(t e:ZG)(f:Y0):Prop where
 h:BH X t e f
structure QO (X:Cx)(e:Option ZG)(f:En->Rs (Option Int)):Prop where
 h:N3 X e f
structure LV (X:Cx)(e:List ZG)(f:Y3):Prop where
 h:Az X e (BL X f)
def af(i:Nat)(hN:autoParam ((Cx.N X)[i]?=ZA x) u_)(hv:autoParam (jk (RT (Cx.env X)) x) v_)(hd:autoParam ((x == PV "__debug__")=ZD) s_)(hcd:autoParam ((x == PV "__classdict__")=ZD) s_):QE X (Qz x pos) (vr i):=
 ⟨ME (i:=i) (hN:=hN) (hv:=hv) (hd:=hd) (hcd:=hcd)⟩
def aj{i:Int}:QE X (U5 (Const.int i) j pos) (cn (T.int i)):=
 ⟨MN ⟩
def lE{i:Bool}:QE X (U5 (Const.bool i) j pos) (cn (T.bl i)):=
 ⟨q_bl ⟩
def cy:QE X (U5 Const.none j pos) (cn T.non):=
 ⟨MJ ⟩
def sY{i:Str}:QE X (U5 (Const.str i) j pos) (cn (T.str i)):=
 ⟨MG ⟩
def Fy{i:Int}{u:Px}(hm:Cx.mg X x=ZA u)(r:L2.RelV (V.int i) u)(hg:autoParam (Gl X x) u_)(hd:autoParam ((x == PV "__debug__")=ZD) s_):QE X (Qz x pos) (cn (T.int i)):=
 ⟨JO (hm:=hm) (r:=r) (hg:=hg) (hd:=hd)⟩
def ah:QA X [] ai:=
 ⟨JN ⟩
def ag{f:Y2}{g:Y0}(he:QE X e f)(hr:QA X es g)(hn:autoParam (a9 e=ZC) u_):QA X (e::es) (ae f g):=
 ⟨qa_c (he:=he.h) (hr:=hr.h) (hn:=hn)⟩
variable{f:Y0}
def a8(h:QA X es f):QE X (Expr.Tuple es x1 pos) (ba f):=
 ⟨MF (h:=h.h)⟩
def iz(h:QA X es f):QE X (Expr.List es pos) (gq f):=
 ⟨ML (h:=h.h)⟩
variable{b:ZG}{g:T->T->Rs T}
def ay{op:Xy}(ho:OpT X (Rt op) g)(ha:QE X a fa)(hb:QE X b fb):QE X (Expr.BinOp a op b pos) (o2 g fa fb):=
 ⟨MR (ho:=ho) (ha:=ha.h) (hb:=hb.h)⟩
def iA(ho:OpT X (QC op) g)(ha:QE X a fa)(hb:QE X b fb)(hm:autoParam (SZ op b=ZD) u_):QE X (W8 a [op] [b] pos) (o2 g fa fb):=
 ⟨MQ (ho:=ho) (ha:=ha.h) (hb:=hb.h) (hm:=hm)⟩
def jl(ha:QE X a fa):QE X (W9 UnaryOp.USub a pos) (o1 lb fa):=
 ⟨MK (ha:=ha.h)⟩
variable{c:ZG}
def vh{fc:Y2}{op':X2}{g':T->T->Rs T}(ho:OpT X (QC op) g)(ho':OpT X (QC op') g')(ha:QE X a fa)(hb:QE X b fb)(hc:QE X c fc)(hm:autoParam (lastMarks [op,op'] [b,c]=ZD) w_):QE X (W8 a [op,op'] [b,c] pos) (ch g g' fa fb fc):=
 ⟨Gp (ho:=ho) (ho':=ho') (ha:=ha.h) (hb:=hb.h) (hc:=hc.h) (hm:=hm)⟩
def dD{f:Y2}(h:QE X e f)(he:autoParam (∀(whole:Sem Px),PySem.isTrue e (Cx.env X) whole=(do let v <-whole;standAt (Expr.pos e);holding [v] (truthy v))) t_):QT X e (tb f):=
 ⟨Ju (h:=h.h) (he:=he)⟩
def bc(ho:OpT X (QC op) g)(ha:QE X a fa)(hb:QE X b fb)(hm:autoParam (SZ op b=ZD) u_):QT X (W8 a [op] [b] pos) (tb (o2 g fa fb)):=
 ⟨Jw (ho:=ho) (ha:=ha.h) (hb:=hb.h) (hm:=hm)⟩
variable{f:Y3}
def vf(ha:QT X a f):QW X (Sb VH [a] pos) f:=
 ⟨F4 (ha:=ha.h)⟩
def og(ha:QT X a f):QW X (Sb Wh [a] pos) f:=
 ⟨Js (ha:=ha.h)⟩
def sW{g:Y3}{bM:List ZG}(ha:QT X a f)(hb:QW X (Sb VH (b::bM) pos) g):QW X (Sb VH (a::b::bM) pos) (kC f g):=
 ⟨Jt (ha:=ha.h) (hb:=hb.h)⟩
def sV{g:Y3}{bM:List ZG}(ha:QT X a f)(hb:QW X (Sb Wh (b::bM) pos) g):QW X (Sb Wh (a::b::bM) pos) (qH f g):=
 ⟨Mz (ha:=ha.h) (hb:=hb.h)⟩
def rA(h:QW X e f):QT X e f:=
 ⟨qt_w (h:=h.h)⟩
def fw(ha:QT X a f):QT X (W9 UnaryOp.Not a pos) (du f):=
 ⟨Jv (ha:=ha.h)⟩
def eh{op:BoolOp}(h:QE X a fa):QE X (Sb op [a] pos) fa:=
 ⟨MH (h:=h.h)⟩
def dW{bM:List ZG}(ha:QE X a fa)(hb:QE X (Sb VH (b::bM) pos) fb):QE X (Sb VH (a::b::bM) pos) (cY fa fb):=
 ⟨MS (ha:=ha.h) (hb:=hb.h)⟩
def HS{bM:List ZG}(ha:QE X a fa)(hb:QE X (Sb Wh (b::bM) pos) fb):QE X (Sb Wh (a::b::bM) pos) (Fc fa fb):=
 ⟨q_or (ha:=ha.h) (hb:=hb.h)⟩
def IT(ha:QE X a fa):QE X (W9 UnaryOp.Not a pos) (o1 GS fa):=
 ⟨MI (ha:=ha.h)⟩
def y8(hc:QT X c f)(ha:QE X a fa)(hb:QE X b fb):QE X (Expr.IfExp c a b pos) (Ff f fa fb):=
 ⟨q_if (hc:=hc.h) (ha:=ha.h) (hb:=hb.h)⟩
def aA(ha:QE X a fa)(hb:QE X b fb)(hs:autoParam (Ay b) x_):QE X (TH a b pos) (o2 aR fa fb):=
 ⟨q_ix (ha:=ha.h) (hb:=hb.h) (hs:=hs)⟩
def g9:QO X ZB pN:=
 ⟨Gd ⟩
def g8(ha:QE X a fa):QO X (ZA a) (pS fa):=
 ⟨Gb (ha:=ha.h)⟩
def hV{lo hi:Option ZG}{p2:Pos}{fl fu:En->Rs (Option Int)}(ha:QE X a fa)(hl:QO X lo fl)(hu:QO X hi fu):QE X (TH a (Expr.Slice lo hi ZB p2) pos) (sl fa fl fu):=
 ⟨Gk (ha:=ha.h) (hl:=hl.h) (hu:=hu.h)⟩
variable{g:List T->Rs T}
def cE{fs:Y0}{id:String}(hc:CallT X (SQ id) g)(hm:Cx.mg X x=ZB)(hv:Qw x=ZA (SQ id))(ha:QA X (e::es) fs)(hn:autoParam (br (e::es)=ZC) u_)(hg:autoParam (Gl X x) u_)(h1:autoParam (x≠PV "__name__") s_)(h2:autoParam ((x == PV "__debug__")=ZD) s_):QE X (RU (Qz x p) (e::es) [] pos) (cl g fs):=
 ⟨q_cB (hc:=hc) (hm:=hm) (hv:=hv) (ha:=ha.h) (hn:=hn) (hg:=hg) (h1:=h1) (h2:=h2)⟩
def oR{fs:Y0}(hc:CallT X (Si Ty) g)(hm:Cx.mg X x=ZB)(hv:Qw x=ZA (Si Ty))(ha:QA X (e::es) fs)(hn:autoParam (br (e::es)=ZC) u_)(hg:autoParam (Gl X x) u_)(h1:autoParam (x≠PV "__name__") s_)(h2:autoParam ((x == PV "__debug__")=ZD) s_):QE X (RU (Qz x p) (e::es) [] pos) (cl g fs):=
 ⟨q_cT (hc:=hc) (hm:=hm) (hv:=hv) (ha:=ha.h) (hn:=hn) (hg:=hg) (h1:=h1) (h2:=h2)⟩
def zq_c{fs:Y0}{f:ZE}(F:Fp (Cx.prog X) (Cx.w X) (Cx.K X) (Cx.mg X) (Cx.base X) k f fd ps n g)(hr:Room k (Cx.A X))(hm:Cx.mg X x=ZA (P7 f))(hk:W.keepIn (Cx.K X) (P7 f)=ZC)(hb:L2.Binds (Cx.K X) fd ps [])(hl:∀(Z:En)(ts:List T),fs Z=Rs.ok ts->Sa ts=n)(ha:QA X (e::es) fs)(hps:autoParam (Sa ps=n) u_)(hn:autoParam (br (e::es)=ZC) u_)(hg:autoParam (Gl X x) u_)(h2:autoParam ((x == PV "__debug__")=ZD) s_):QE X (RU (Qz x p) (e::es) [] pos) (cl g fs):=
 ⟨q_c (F:=F) (hr:=hr) (hm:=hm) (hk:=hk) (hb:=hb) (hl:=hl) (ha:=ha.h) (hps:=hps) (hn:=hn) (hg:=hg) (h2:=h2)⟩
def BX{p2:Pos}{tn:Str}(hm:Cx.mg X (PV "isinstance")=ZB)(hmt:Cx.mg X tn=ZB)(hv:Qw tn=ZA (Si Ty))(ha:QE X a fa)(hn:autoParam (a9 a=ZC) u_)(hg:autoParam (Gl X (PV "isinstance")) u_)(hgt:autoParam (Gl X tn) u_)(h1:autoParam (tn≠PV "__name__") s_)(h2:autoParam ((tn == PV "__debug__")=ZD) s_):QE X (RU (Qz (PV "isinstance") p) [a,Qz tn p2] [] pos) (o1 (Hi Ty) fa):=
 ⟨q_is (hm:=hm) (hmt:=hmt) (hv:=hv) (ha:=ha.h) (hn:=hn) (hg:=hg) (hgt:=hgt) (h1:=h1) (h2:=h2)⟩
def aq(i:Nat)(hN:Tb (Cx.N X))(hi:autoParam ((Cx.N X)[i]?=ZA x) u_)(hx:autoParam (L2.Loc (RT (Cx.env X)) x) y_)(hf:autoParam (Cx.fn X x=ZC\/Rj x (Uu (RT (Cx.env X)))=ZA NameKind.local) r_):QG X (Qz x pos) (gN i):=
 ⟨Gi (i:=i) (hN:=hN) (hi:=hi) (hx:=hx) (hf:=hf)⟩
def lC:Oj X [] Fg:=
 ⟨Gh ⟩
variable{g:T->En->Rs En}{gs:List T->En->Rs En}
def d6(h1:QG X e g)(h2:Oj X es gs)(hs:autoParam (Xx (λx=>Prod.snd x) (RA (e::es) (Cx.env X))=assign e (Cx.env X)::Xx (λx=>Prod.snd x) (RA es (Cx.env X))) u_):Oj X (e::es) (wK g gs):=
 ⟨Cw (h1:=h1.h) (h2:=h2.h) (hs:=hs)⟩
def oh(hc:Cx.calm X=ZC)(h:Oj X es gs)(hn:autoParam (Sa (RA es (Cx.env X))=n) u_)(hst:autoParam (List.findIdx? (λx=>Prod.fst x) (RA es (Cx.env X))=ZB) u_):QG X (Expr.Tuple es k pos) (gT n gs):=
 ⟨JM (hc:=hc) (h:=h.h) (hn:=hn) (hst:=hst)⟩
variable{tg:ZG}
def cL{fs:Y0}(hm:Cx.mg X (PV "range")=ZB)(ha:QA X [a] fs)(hg:autoParam (Gl X (PV "range")) u_)(hs:autoParam (PR [a] (Cx.env X)=[(ZD,eval a (Cx.env X))]) u_):QI X tg (RU (Qz (PV "range") p) [a] [] pos) (iR fs):=
 ⟨AX (hm:=hm) (ha:=ha.h) (hg:=hg) (hs:=hs)⟩
def xE{fs:Y0}(hm:Cx.mg X (PV "range")=ZB)(ha:QA X [a,b] fs)(hg:autoParam (Gl X (PV "range")) u_)(hs:autoParam (PR [a,b] (Cx.env X)=[(ZD,eval a (Cx.env X)),(ZD,eval b (Cx.env X))]) u_)(hs2:autoParam (PR [b] (Cx.env X)=[(ZD,eval b (Cx.env X))]) u_):QI X tg (RU (Qz (PV "range") p) [a,b] [] pos) (iR fs):=
 ⟨AW (hm:=hm) (ha:=ha.h) (hg:=hg) (hs:=hs) (hs2:=hs2)⟩
def bQ:LV X [] bT:=
 ⟨Gf ⟩
def BV(h:QT X c f):LV X [c] f:=
 ⟨Ge (h:=h.h)⟩
variable{N':List Str}{elt iter:ZG}{fc:Y3}{fe:Y2}{fi:Y0}{ifs:List ZG}{tgt:T->En->Rs En}
def LX{src:List (Option Nat)}(hc:Cx.calm X=ZC)(S:LcScope X scope N' src)(hi:QI X tg iter fi)(block:∀(cl:List (Str×ZE))(C:ZE)(s₀:Pz)(H₀:Hp)(fp:List ZE),QG (bx X scope cl N' C s₀ H₀ fp) tg tgt/\LV (bx X scope cl N' C s₀ H₀ fp) ifs fc/\QE (bx X scope cl N' C s₀ H₀ fp) elt fe)(hs:autoParam (∀(x:Px),Qp iter (Cx.env X) x=pure x) t_):QE X (SS elt [{target:=tg,iter:=iter,ifs:=ifs,is_async:=0}] scope pos) (fL fi src tgt fc fe):=
 ⟨q_lc (hc:=hc) (S:=S) (hi:=hi.h) (block:=λa1 a2 a3 a4 a5=>⟨(block a1 a2 a3 a4 a5).1.h,(block a1 a2 a3 a4 a5).2.1.h,(block a1 a2 a3 a4 a5).2.2.h⟩) (hs:=hs)⟩
def bW:yX X [] sN:=
 ⟨JA ⟩
def ak{bM:List ZF}{F G:Y1}(h1:QS X st F)(h2:yX X bM G):yX X (st::bM) (aF F G):=
 ⟨Ga (h1:=h1.h) (h2:=h2.h)⟩
def ar{F:Y1}(h:QS X st F):yX X [st] F:=
 ⟨Jz (h:=h.h)⟩
def aC(ha:QE X a fa):QS X (Stmt.Return (ZA a) pos) (aM fa):=
 ⟨Jx (ha:=ha.h)⟩
def cV{A B:List ZF}{F G:Y1}(hc:QT X c f)(ha:yX X A F)(hb:yX X B G):QS X (Stmt.If c A B pos) (gC f F G):=
 ⟨MC (hc:=hc.h) (ha:=ha.h) (hb:=hb.h)⟩
def IQ{py:Pos}{src:List (Option Nat)}(i:Nat)(hc:Cx.calm X=ZC)(S:LcScope X scope N' src)(hi:QI X tg iter fi)(block:∀(cl:List (Str×ZE))(C:ZE)(s₀:Pz)(H₀:Hp)(fp:List ZE),QG (bx X scope cl N' C s₀ H₀ fp) tg tgt/\LV (bx X scope cl N' C s₀ H₀ fp) ifs fc/\QE (bx X scope cl N' C s₀ H₀ fp) elt fe)(hN:Tb (Cx.N X))(hiy:autoParam ((Cx.N X)[i]?=ZA y) u_)(hy:autoParam (L2.Loc (RT (Cx.env X)) y) y_)(hsw:autoParam (Qt (SS elt [{target:=tg,iter:=iter,ifs:=ifs,is_async:=0}] scope pos) (ZA (Qz y py)) (SU spos) (Cx.env X)=pure ZC) u_)(hf:autoParam (Cx.fn X y=ZC\/Rj y (Uu (RT (Cx.env X)))=ZA NameKind.local) r_)(hs:autoParam (∀(x:Px),Qp iter (Cx.env X) x=pure x) t_):QS X (Uv [Qz y py] (SS elt [{target:=tg,iter:=iter,ifs:=ifs,is_async:=0}] scope pos) spos) (dq (fL fi src tgt fc fe) (gN i)):=
 ⟨MB (i:=i) (hc:=hc) (S:=S) (hi:=hi.h) (block:=λa1 a2 a3 a4 a5=>⟨(block a1 a2 a3 a4 a5).1.h,(block a1 a2 a3 a4 a5).2.1.h,(block a1 a2 a3 a4 a5).2.2.h⟩) (hN:=hN) (hiy:=hiy) (hy:=hy) (hsw:=hsw) (hf:=hf) (hs:=hs)⟩
def y6{py:Pos}{src:List (Option Nat)}(i:Nat)(hc:Cx.calm X=ZC)(S:LcScope X scope N' src)(hi:QI X tg iter fi)(block:∀(cl:List (Str×ZE))(C:ZE)(s₀:Pz)(H₀:Hp)(fp:List ZE),QG (bx X scope cl N' C s₀ H₀ fp) tg tgt/\LV (bx X scope cl N' C s₀ H₀ fp) ifs fc/\QE (bx X scope cl N' C s₀ H₀ fp) elt fe)(hN:Tb (Cx.N X))(hiy:autoParam ((Cx.N X)[i]?=ZA y) u_)(hy:autoParam (L2.Loc (RT (Cx.env X)) y) y_)(hsw:autoParam (Qt (SS elt [{target:=tg,iter:=iter,ifs:=ifs,is_async:=0}] scope pos) (ZA (Qz y py)) (SU spos) (Cx.env X)=pure ZC) u_)(hf:autoParam (Cx.fn X y=ZC\/Rj y (Uu (RT (Cx.env X)))=ZA NameKind.local) r_)(hs:autoParam (∀(x:Px),Qp iter (Cx.env X) x=pure x) t_):QS X (Uv [Qz y py] (SS elt [{target:=tg,iter:=iter,ifs:=ifs,is_async:=0}] scope pos) spos) (pf i (fL fi src tgt fc fe)):=
 ⟨JB (i:=i) (hc:=hc) (S:=S) (hi:=hi.h) (block:=λa1 a2 a3 a4 a5=>⟨(block a1 a2 a3 a4 a5).1.h,(block a1 a2 a3 a4 a5).2.1.h,(block a1 a2 a3 a4 a5).2.2.h⟩) (hN:=hN) (hiy:=hiy) (hy:=hy) (hsw:=hsw) (hf:=hf) (hs:=hs)⟩
def aO(ha:QE X a fa)(hg:QG X tg g)(hs:autoParam (Wn [tg] a (SU pos) (Cx.env X)=pure ZD) u_)(hw:autoParam (Wo [tg] a (Cx.env X)=pure ZB) u_)(h1:autoParam (Xx (λx=>Prod.snd x) (RA [tg] (Cx.env X))=[assign tg (Cx.env X)]) u_):QS X (Uv [tg] a pos) (dq fa g):=
 ⟨JH (ha:=ha.h) (hg:=hg.h) (hs:=hs) (hw:=hw) (h1:=h1)⟩
def bD(ha:QE X a fa)(hs:autoParam (Qt a ZB (SU pos) (Cx.env X)=pure ZD) u_):QS X (Stmt.Expr a pos) (ng fa):=
 ⟨F9 (ha:=ha.h) (hs:=hs)⟩
def dE{F:Y1}(hc:Cx.calm X=ZC)(hi:QI X tg iter fi)(hg:QG (Cx.nox X) tg g)(hb:yX (Cx.nox X) body F)(hs:autoParam (∀(x:Px),Qp iter (Cx.env X) x=pure x) t_):QS X (Stmt.For tg iter body [] pos) (gP fi g F):=
 ⟨JC (hc:=hc) (hi:=hi.h) (hg:=hg.h) (hb:=hb.h) (hs:=hs)⟩
def rB{F:Y1}(n:Nat)(hc:QT (Cx.nox X) c fc)(hb:yX (Cx.nox X) body F):QS X (Stmt.While c body [] pos) (bL fc F n):=
 ⟨Cq (n:=n) (hc:=hc.h) (hb:=hb.h)⟩
def cR(ha:QE X a fa):QI X tg a (iS fa):=
 ⟨JK (ha:=ha.h)⟩
def lA{fs:Y0}{elts:List ZG}{tpos:Pos}(hm:Cx.mg X (PV "enumerate")=ZB)(ha:QA X [a] fs)(hg:autoParam (Gl X (PV "enumerate")) u_)(hs:autoParam (PR [a] (Cx.env X)=[(ZD,eval a (Cx.env X))]) u_):QI X (Expr.Tuple elts kk tpos) (RU (Qz (PV "enumerate") p) [a] [] pos) (iE fs):=
 ⟨Gg (hm:=hm) (ha:=ha.h) (hg:=hg) (hs:=hs)⟩
def g7{p2:Pos}(i:Nat){f:Y0}(hN:Tb (Cx.N X))(ha:QA X es f)(hi:autoParam ((Cx.N X)[i]?=ZA x) u_)(hx:autoParam (L2.Loc (RT (Cx.env X)) x) y_)(hs:autoParam (Qt (Expr.List es p2) (ZA (Qz x p3)) (SU pos) (Cx.env X)=pure ZD) u_)(hf:autoParam (Cx.fn X x=ZC\/Rj x (Uu (RT (Cx.env X)))=ZA NameKind.local) r_):QS X (Uv [Qz x p3] (Expr.List es p2) pos) (jd i f):=
 ⟨F6 (i:=i) (hN:=hN) (ha:=ha.h) (hi:=hi) (hx:=hx) (hs:=hs) (hf:=hf)⟩
def fU{p2:Pos}(i:Nat)(ha:QE X a fa)(hN:autoParam ((Cx.N X)[i]?=ZA x) u_)(hv:autoParam (jk (RT (Cx.env X)) x) v_)(hn:autoParam (a9 a=ZC) u_)(hbase:autoParam (Qj (Qz x p2) (PV "append") (Cx.env X) (eval (Qz x p2) (Cx.env X))=eval (Qz x p2) (Cx.env X)) u_)(hline:autoParam ((U6 apos == SU cpos)=ZC) u_)(hd:autoParam ((x == PV "__debug__")=ZD) s_)(hcd:autoParam ((x == PV "__classdict__")=ZD) s_)(hsw:autoParam (Qt (RU (Sz (Qz x p2) (PV "append") apos) [a] [] cpos) ZB (SU pos) (Cx.env X)=pure ZD) u_):QS X (Stmt.Expr (RU (Sz (Qz x p2) (PV "append") apos) [a] [] cpos) pos) (gQ i fa):=
 ⟨JI (i:=i) (ha:=ha.h) (hN:=hN) (hv:=hv) (hn:=hn) (hbase:=hbase) (hline:=hline) (hd:=hd) (hcd:=hcd) (hsw:=hsw)⟩
def sX{p2:Pos}(i:Nat)(ha:QE X a fa)(hN:autoParam ((Cx.N X)[i]?=ZA x) u_)(hv:autoParam (jk (RT (Cx.env X)) x) v_)(hn:autoParam (a9 a=ZC) u_)(hbase:autoParam (Qj (Qz x p2) (PV "extend") (Cx.env X) (eval (Qz x p2) (Cx.env X))=eval (Qz x p2) (Cx.env X)) u_)(hline:autoParam ((U6 apos == SU cpos)=ZC) u_)(hd:autoParam ((x == PV "__debug__")=ZD) s_)(hcd:autoParam ((x == PV "__classdict__")=ZD) s_)(hsw:autoParam (Qt (RU (Sz (Qz x p2) (PV "extend") apos) [a] [] cpos) ZB (SU pos) (Cx.env X)=pure ZD) u_):QS X (Stmt.Expr (RU (Sz (Qz x p2) (PV "extend") apos) [a] [] cpos) pos) (pj i fa):=
 ⟨JD (i:=i) (ha:=ha.h) (hN:=hN) (hv:=hv) (hn:=hn) (hbase:=hbase) (hline:=hline) (hd:=hd) (hcd:=hcd) (hsw:=hsw)⟩
def fy(i:Nat){F:Y1}(h:QS X st F):QS X st (kS i F):=
 ⟨JF (i:=i) (h:=h.h)⟩
def lD(i:Nat){f:Y2}(h:QE X e f):QE X e (ln i f):=
 ⟨q_ln (i:=i) (h:=h.h)⟩
def xC(i:Nat)(h:QT X e f):QT X e (BP i f):=
 ⟨MA (i:=i) (h:=h.h)⟩
def IS:QS X (Stmt.Continue pos) HY:=
 ⟨MD ⟩
def Fv(i:Nat){pos':Pos}(hN:Tb (Cx.N X))(ha:QE X a fa)(hi:autoParam ((Cx.N X)[i]?=ZA x) u_)(hx:autoParam (L2.Loc (RT (Cx.env X)) x) y_)(hf:autoParam (Cx.fn X x=ZC\/Rj x (Uu (RT (Cx.env X)))=ZA NameKind.local) r_):QS X (Stmt.AugAssign (Qz x pos') Operator.Add a pos) (Cn i fa):=
 ⟨JG (i:=i) (hN:=hN) (ha:=ha.h) (hi:=hi) (hx:=hx) (hf:=hf)⟩
variable{C:ZE}
def gZ{c:Str}{msg:Str}{p1:Pos}(O:OX X.K C bm)(hm:X.mg c=ZA (.ref C))(hc:autoParam (X.calm=ZC) u_)(hg:autoParam (Gl X c) u_)(hd:autoParam ((c == ("__debug__" : Str))=ZD) s_):
  QS X (.Raise (ZA (.Call (.Name c np) [.Constant (.str msg) j p1] [] cpos)) ZB pos) (vJ c):=⟨Cr O.own hc hm hg hd⟩
def tj{base:ZH}{f:ZE}{F:Y1}(Fn:L2.Fun K x qual st f fd)(S:bo N ps (ao st))(hn:ps.length=n)
  (hbody:∀(cdv:Px)(A:Qq)(outer:List Env)(s:Pz)(H:Hp)(E:XK),Room k (A.deeper (envOfC qual (ao st) s.heap.objs.size f cdv)) →
   ∀xe,yX ((gu CX0 P w K mg base N qual (ao st) f cdv A outer s H E).FB xe) (bJ st) F):Fp P w K mg base (k+1) f fd ps n (val n N.length F):=Lf Fn S hn λcdv A outer s H E hr xe=>(hbody cdv A outer s H E hr xe).h
def sZ(hu:TV (Cx.A X)+1<cLine)(ha:QE X a fa)(hb:QE X b fb)(hs:autoParam (HN b) x_):QE X (TH a b pos) (o2 jO fa fb):=
 ⟨MP (hu:=hu) (ha:=ha.h) (hb:=hb.h) (hs:=hs)⟩
def y9(hu:TV (Cx.A X)+1<cLine)(ha:QE X a fa)(hb:QE X b fb)(hn:autoParam (a9 b=ZC) u_)(hbase:autoParam (Qj a (PV "get") (Cx.env X) (eval a (Cx.env X))=eval a (Cx.env X)) u_)(hline:autoParam ((U6 apos == SU cpos)=ZC) u_):QE X (RU (Sz a (PV "get") apos) [b] [] cpos) (oD ji fa fb):=
 ⟨JP (hu:=hu) (ha:=ha.h) (hb:=hb.h) (hn:=hn) (hbase:=hbase) (hline:=hline)⟩
def AF(hu:TV (Cx.A X)+61<cLine)(ha:QE X a fa)(hb:QE X b fb)(hn:autoParam (a9 b=ZC) u_)(hbase:autoParam (Qj a (PV "index") (Cx.env X) (eval a (Cx.env X))=eval a (Cx.env X)) u_)(hline:autoParam ((U6 apos == SU cpos)=ZC) u_):QE X (RU (Sz a (PV "index") apos) [b] [] cpos) (oL gF fa fb):=
 ⟨Cy (hu:=hu) (ha:=ha.h) (hb:=hb.h) (hn:=hn) (hbase:=hbase) (hline:=hline)⟩
def AG(hu:TV (Cx.A X)+61<cLine)(ha:QE X a fa)(hb:QE X b fb)(hn:autoParam (a9 b=ZC) u_)(hbase:autoParam (Qj a (PV "count") (Cx.env X) (eval a (Cx.env X))=eval a (Cx.env X)) u_)(hline:autoParam ((U6 apos == SU cpos)=ZC) u_):QE X (RU (Sz a (PV "count") apos) [b] [] cpos) (oL ox fa fb):=
 ⟨Cz (hu:=hu) (ha:=ha.h) (hb:=hb.h) (hn:=hn) (hbase:=hbase) (hline:=hline)⟩
def BU{f:Y2}{p2:Pos}(i:Nat)(hu:TV (Cx.A X)+8<cLine)(hc:Cx.calm X=ZC)(hm:Cx.mg X (PV "dict")=ZB)(hN:Tb (Cx.N X))(ha:QE X e f)(hst:autoParam (a9 e=ZC) u_)(hg:autoParam (Gl X (PV "dict")) u_)(hi:autoParam ((Cx.N X)[i]?=ZA x) u_)(hx:autoParam (L2.Loc (RT (Cx.env X)) x) y_)(hs:autoParam (Qt (RU (Qz (PV "dict") p) [e] [] p2) (ZA (Qz x p3)) (SU pos) (Cx.env X)=pure ZD) u_)(hf:autoParam (Cx.fn X x=ZC\/Rj x (Uu (RT (Cx.env X)))=ZA NameKind.local) r_):QS X (Uv [Qz x p3] (RU (Qz (PV "dict") p) [e] [] p2) pos) (rO i f):=
 ⟨F7 (i:=i) (hu:=hu) (hc:=hc) (hm:=hm) (hN:=hN) (ha:=ha.h) (hst:=hst) (hg:=hg) (hi:=hi) (hx:=hx) (hs:=hs) (hf:=hf)⟩
def Ft{fc:Y2}{p2:Pos}(i:Nat)(hu:TV (Cx.A X)+1<cLine)(hb:QE X b fb)(hc:QE X c fc)(hN:autoParam ((Cx.N X)[i]?=ZA x) u_)(hv:autoParam (jk (RT (Cx.env X)) x) v_)(hd:autoParam ((x == PV "__debug__")=ZD) s_)(hcd:autoParam ((x == PV "__classdict__")=ZD) s_)(hs:autoParam (Qt c (ZA (TH (Qz x p2) b p3)) (SU pos) (Cx.env X)=pure ZD) u_):QS X (Uv [TH (Qz x p2) b p3] c pos) (AU i fb fc):=
 ⟨Jy (i:=i) (hu:=hu) (hb:=hb.h) (hc:=hc.h) (hN:=hN) (hv:=hv) (hd:=hd) (hcd:=hcd) (hs:=hs)⟩
def hu0(h:Room k A):A.units<cLine:=by have:=h.un;omega
def D5(h:ZH):(wN h).In h:=by
 have key:∀(l:List Nat)(a:ZE)(o:Obj),(l.filterMap λa=>(h.get? a).map λo=>(a,o)).lookup a=ZA o->h.get? a=ZA o:=by
  intro l
  induction l with
  |nil=>intro a o e;cases e
  |cons b r ih=>
   intro a o e
   cases hb:h.get? b with
   |none=>rw[List.filterMap_cons_none (by rw[hb];rfl)]at e;exact ih a o e
   |some ob=>
    rw[List.filterMap_cons_some (b:=(b,ob)) (by rw[hb];rfl),QF]at e
    cases q:a == b with
    |true=>rw[q]at e;cases e;rw[eq_of_beq q];exact hb
    |false=>rw[q]at e;exact ih a o e
 exact λa o e=>key _ a o e
variable{K:Frag}{n:Str}
def ID(e:obF K n=exF n st):∃f fd,nsIn K Qv n=ZA (ZA (.ref f))/\L2.Fun K n n st f fd:=by
 unfold obF at e
 split at e
 ·rename_i f hf
  split at e
  ·rename_i oc od d sl hl
   cases d;unfold exF at e;simp only[US,U3]at e;obtain⟨h1,h2,h3,h4,h5,h6,h7,h8,h9,h10,h11⟩:=e;subst h1 h2 h3 h4 h5 h6 h7 h8 h9;exact⟨f,_,hf,D1 hl h10 h11⟩
  ·cases e
 ·cases e
def pK{N:ZE}(e:M7 K N n=ZC):nsIn K N n=ZA ZB:=by
 unfold M7 at e
 split at e
 ·assumption
 ·cases e
def Ko{i:Int}(e:Od K n=ZA i):∃t,nsIn K Qv n=ZA (ZA (.int i t)):=by
 unfold Od at e
 split at e
 ·rename_i i' t h;cases e;exact⟨t,h⟩
 ·cases e
def oV:∀{l:List Px},zf l=ZC->l=bmV:=by
 intro l e;unfold zf at e
 split at e
 ·simp only[PC,beq_iff_eq]at e
  obtain⟨⟨⟨h1,h2⟩,h3⟩,h4⟩:=e;subst h1 h2 h3 h4;rfl
 ·cases e
def iI{D:Option ZE}(e:GQ K D n=ZA C):nsIn K Qv n=ZA (ZA (.ref C)) ∧
  ∃nm q N bs bm hd sn su ab co dd k0 k1 k2 k3 k5,under D bm=ZC/\K.lookup C=ZA (Re nm q C N bs bm hd sn su ab co dd k0 k1 k2 k3 k5 "ValueError.__new__")/\∀h:ZH,K.In h->∃mN,h.Ns N mN/\∀n∈calmNames,mN n=ZB:=by
 unfold GQ at e
 split at e
 ·rename_i C' hC
  split at e
  ·rename_i t dd c k0 k1 k2 k3 b k5 hl
   split at e
   ·rename_i E m ob oe es ep oz hm hN
    split at e
    ·rename_i hq
     cases e;simp only[PC,beq_iff_eq,WM]at hq;obtain⟨⟨⟨⟨⟨⟨h1,h2⟩,h3⟩,h4⟩,h5⟩,h6⟩,h7⟩:=hq
     have z:=Qk.mp h5;refine⟨hC,c.name,c.qualname,c.ns,c.bases,m,c.hasDict,c.slotNames,c.subclasses,c.abstract,c.collection,dd,k0,k1,k2,k3,k5,h7,?_,M9 hN h4 (pK (z _ (.head _))) (pK (z _ (.tail _ (.head _)))) (pK (z _ (.tail _ (.tail _ (.head _))))) (pK (z _ (.tail _ (.tail _ (.tail _ (.head _))))))⟩
     rw[hl];cases c;simp only at hm h3;subst h1 h2 hm h3 h6
     rfl
    ·cases e
   ·cases e
  ·cases e
 ·cases e
def ox0(e:GQ K ZB n=ZA C):OX K C bmV:=by
 obtain⟨_,_,_,_,_,_,_,_,_,_,_,_,_,_,_,_,_,hu,hl,hn⟩:=iI e;cases oV hu;exact GI hl hn
def MZ{D:ZE}(e:GQ K (ZA D) n=ZA C)(d:GQ K ZB m=ZA D):OX K C (.ref D::bmV):=by
 obtain⟨_,_,_,_,_,bm,_,_,_,_,_,_,_,_,_,_,_,hu,hl,hn⟩:=iI e;obtain⟨_,_,_,_,_,_,_,_,_,_,_,_,_,_,_,_,_,hu',hl',hn'⟩:=iI d;cases oV hu';unfold under at hu;simp only at hu
 split at hu
 ·rw[PC]at hu
  cases eq_of_beq hu.1;cases oV hu.2;exact CU hl hn hl' hn'
 ·cases hu
def ix{o:Option α}{r:List (Option α)}{l:List α}(e:yU (o::r)=ZA l):∃a l',o=ZA a/\l=a::l'/\yU r=ZA l':=by
 cases o with
 |none=>cases e
 |some a=>
  unfold yU at e
  split at e
  ·rename_i l' h;cases e;exact⟨a,l',rfl,rfl,h⟩
  ·cases e
def EO{l:List α}(e:yU ([]:List (Option α))=ZA l):l=[]:=by cases e;rfl
theorem rR:∀{l:List ZE},uv l=ZC->l.Nodup
 |[],_=>.nil
 |a::r,h=>by
  unfold uv at h;rw[PC]at h;refine Qh.mpr ⟨λhm=>?_,rR h.2⟩
  have:=Qk.mp h.1 a hm
  simp at this
def Kl{es:List Str}(e:Ob K (m::es)=ZC):∃D l,GQ K ZB m=ZA D/\yU (es.map (GQ K (ZA D)))=ZA l/\(l++[D]).Nodup:=by
 rw[Ob]at e
 split at e
 ·rename_i D hD
  split at e
  ·rename_i l hl;exact⟨D,l,hD,hl,rR e⟩
  ·cases e
 ·cases e
section
variable {S:BK}{top:Nat->ZF}
theorem mM{f g:α->β}:∀{l:List α}(j:Nat){a:α},l.map f=l.map g->l[j]?=ZA a->f a=g a
 |[],_,_,_,q=>by cases q
 |b::l,0,a,e,q=>by cases q;exact(List.cons.inj e).1
 |b::l,j+1,a,e,q=>mM (l:=l) j (List.cons.inj e).2 q
def k_fn(j:Nat)(X:K.In h)(G:h.Ns Qv mg)(e:ur S K=tq S top)(q:S.tab[j]?=ZA (n,i))
  (hb:∀(kV doc pm:Px)(an:Option ZE)(cdv ct:Px)(us:List Px),us.length=ps.length->Wr (fnOf n n (fE (top i)) (bJ (top i)) (ao (top i)) .none kV doc pm an cdv ct) ⟨us,[]⟩=pure (ps.zip us)):
  ∃f fd,Fn K mg n (top i) ps f fd:=by
 obtain⟨f,fd,h1,h2⟩:=ID (mM j (congrArg (·.1) e) q)
 exact⟨f,fd,h2,h2.binds hb,mg_of X G h1⟩
def Nz(j:Nat){fa:ZE}(X:K.In h)(G:h.Ns Qv mg)(e:ur S K=tq S top)(q:S.tab[j]?=ZA (n,i))(hfa:mg n=ZA (.ref fa))
  (hb:∀(kV doc pm:Px)(an:Option ZE)(cdv ct u:Px),Wr (fnOf n n (fE (top i)) (bJ (top i)) (ao (top i)) .none kV doc pm an cdv ct) ⟨[u],[]⟩=pure [(x,u)]):
  ∃fd,Fn K mg n (top i) [x] fa fd/\∀(s:Pz)(u:Px),VC s fd ⟨[u],[]⟩ [(x,u)]:=by
 obtain⟨f,fd,h1,h2⟩:=ID (mM j (congrArg (·.1) e) q)
 have z:=hfa.symm.trans (mg_of X G h1);cases z
 have hh:=h2;obtain⟨oc,od,kV,doc,pm,an,cdv,ct,osl,rfl,lk,hcd⟩:=hh.ex;exact⟨_,⟨h2,.all λus hl=>match us,hl with|[u],_=>hb kV doc pm an cdv ct u,mg_of X G h1⟩,λs u=>.of_eq (hb kV doc pm an cdv ct u)⟩
def eO(j:Nat)(X:K.In h)(G:h.Ns Qv mg)(e:ur S K=tq S top)(q:S.zs[j]?=ZA n):mg n=ZB:=
 mg_none_of X G (pK (Qk.mp (congrArg (·.2.1) e:S.zs.all (M7 K Qv)=ZC) n (Sf q)))
def r9(j:Nat){i:Int}(X:K.In h)(G:h.Ns Qv mg)(e:ur S K=tq S top)(q:S.cs[j]?=ZA (n,i)):∃t,mg n=ZA (.int i t):=by
 obtain⟨t,ht⟩:=Ko (mM (f:=λc=>Od K c.1) (g:=λc=>ZA c.2) j (congrArg (·.2.2.1) e) q)
 exact⟨t,mg_of X G ht⟩
def ND(e:ur S K=tq S top):Ob K S.es=ZC:=congrArg (·.2.2.2) e
end
variable{loose:List Str}
def left_of{p:Qg}{Xt:Pz->Bool}{Yf:Pz->α}{Ya:QP->α}{N:Nat}{g0:Bool}
  (e:opening p=plainProg p.main.scope.names) (hN:Nat.ble 600 N=ZC) (f:∀s,fenceModules? p s=ZA s)
  (h:∀(w:QP)(os:T8),(topFrom Wl p w N ⟨boot_heap w.params,⟨[]⟩,boot_drawn,boot_toks,os⟩).map (λs=>(openSeen q loose (VA p.main.body) Xt g0 s,Yf s))=ZA (openGood q loose,Ya w)):
  LeftO p q loose Xt Yf Ya N g0:=λw=>by
 obtain⟨⟨h0,gs,d,k,os⟩,e1,e2⟩:=RY.mp (boot_open e hN f w);simp only[U3]at e2;obtain⟨rfl,rfl,rfl,rfl⟩:=e2;unfold openEnds;rw[e1];exact h w os
structure Cl (P:Qg)(w:QP)(K:Frag)(mg:WF)(base:ZH)(k:Nat)(x:Str)(n:Nat)(m:List T->Rs T):Prop where
 ex:∃f fd ps,mg x=ZA (.ref f)/\keepIn K (.ref f)=ZC/\Binds K fd ps []/\ps.length=n/\Fp P w K mg base k f fd ps n m
abbrev fh(K:Frag)(mg:WF)(x:Str)(st:ZF)(ps:List Str):Prop:=∃f fd,Fn K mg x st ps f fd
variable{n:Nat}
section
variable {base:ZH}{F:Y1}
def NY(H:fh K mg x st ps)(S:bo N ps (ao st))(hn:ps.length=n)
  (hbody:∀(f:ZE)(cdv:Px)(A:Qq)(outer:List Env)(s:Pz)(H:Hp)(E:XK),Room k (A.deeper (envOfC x (ao st) s.heap.objs.size f cdv)) →
   ∀xe,yX ((gu CX0 P w K mg base N x (ao st) f cdv A outer s H E).FB xe) (bJ st) F):Cl P w K mg base (k+1) x n (val n N.length F):=by
 obtain⟨f,fd,h⟩:=H;exact⟨f,fd,ps,h.mg,h.fn.kp,h.bd,hn,tj h.fn S hn (hbody f)⟩
end
variable{g:List T->Rs T}
section
variable {fs:Y0}
def aK(c:Cl X.prog X.w X.K X.mg X.base k x n g)(hr:Room k' X.A)(ha:QA X (e::es) fs)(hk:autoParam (k<=k') s_)(hl:∀(Z:En)(ts:List T),fs Z=.ok ts->ts.length=n:=by repeat first|exact xr|refine xq ?_)
  (hn:autoParam (br (e::es)=ZC) u_) (hg:autoParam (Gl X x) u_) (h2:autoParam ((x == PV "__debug__")=ZD) s_):QE X (.Call (.Name x p) (e::es) [] pos) (cl g fs):=by
 obtain⟨f,fd,ps,h1,h3,h4,h5,h6⟩:=c.ex;exact zq_c h6 (hr.mono hk) h1 h3 h4 hl ha h5 hn hg h2
def qI{i:Int}(h:∃t,X.mg x=ZA (.int i t))(hg:autoParam (Gl X x) u_)(hd:autoParam ((x == PV "__debug__")=ZD) s_):QE X (.Name x pos) (cn (.int i)):=by
 obtain⟨t,h⟩:=h;exact Fy h ⟨_,rfl⟩ hg hd
end
def G1{q:Str}(e:M8 K C m q=NP m q st):∃f fd,uZ K C m f/\L2.Fun K m q st f fd:=by
 unfold M8 at e
 split at e
 ·rename_i f hf
  split at e
  ·rename_i oc od d sl hl
   cases d;unfold NP at e;simp only[US,U3]at e;obtain⟨h1,h2,h3,h4,h5,h6,h7,h8,h9,h10,h11,h12⟩:=e;subst h1 h2 h3 h4 h5 h6 h7 h8 h9;exact⟨f,_,⟨hf,h12,h11⟩,D1 hl h10 h11⟩
  ·cases e
 ·cases e
def GV{f:Str}(e:Kq K C f=ZC):NoAttr K C f:=by
 unfold Kq at e
 split at e
 ·assumption
 ·cases e
def FZ(e:Jo K C=ZC):findIn K (.ref C) "__setattr__" =ZA (ZA (.builtin "object.__setattr__")):=by
 unfold Jo at e
 split at e
 ·rename_i b h;rw[h,eq_of_beq e]
 ·cases e
structure qF (K:Frag)(mg:WF)(c:Str):Prop where
 cl:Cls K (bP K c)
 mg:mg c=ZA (.ref (bP K c))
 mks:makesIn K (bP K c)=ZC
 kp:keepIn K (.ref (bP K c))=ZC
abbrev n6(K:Frag)(c m q:Str)(st:ZF)(ps:List Str):Prop:=∃f fd,uZ K (bP K c) m f/\L2.Fun K m q st f fd/\Binds K fd ps []
section
variable {top:Nat->ZF}{A:HR}
def NH(X:K.In h)(G:h.Ns Qv mg)(e:Oc K A=Of top A):qF K mg A.c/\(∀f∈A.as,NoAttr K (bP K A.c) f)/\A.ms.map (λ(m:Str×Str×Nat)=>M8 K (bP K A.c) m.1 m.2.1)=A.ms.map (λ(m:Str×Str×Nat)=>NP m.1 m.2.1 (cU (top A.i) m.2.2)):=by
 unfold Oc at e
 split at e
 ·rename_i C hC
  unfold Of at e;simp only[US,U3]at e;obtain⟨e1,e2⟩:=e
  have hc:bP K A.c=C:=by unfold bP;rw[hC]
  unfold IG at e1;simp only[PC]at e1;obtain⟨⟨⟨⟨⟨⟨h1,h2⟩,h3⟩,h4⟩,h5⟩,h6⟩,h7⟩:=e1;rw[hc];exact⟨⟨by rw[hc];exact⟨h1,h2,h3,FZ h4⟩,by rw[hc];exact mg_of X G hC,by rw[hc];exact h5,by rw[hc];exact h6⟩,λf hf=>GV (Qk.mp h7 f hf),e2⟩
 ·cases e
def iO(j:Nat){q:Str}(e:A.ms.map (λ(m:Str×Str×Nat)=>M8 K (bP K A.c) m.1 m.2.1)=A.ms.map (λ(m:Str×Str×Nat)=>NP m.1 m.2.1 (cU (top A.i) m.2.2)))(z:A.ms[j]?=ZA (m,q,i))
  (hb:∀(kV doc pm:Px)(an:Option ZE)(cdv ct:Px)(us:List Px),us.length=ps.length->Wr (fnOf m q (fE (cU (top A.i) i)) (bJ (cU (top A.i) i)) (ao (cU (top A.i) i)) .none kV doc pm an cdv ct) ⟨us,[]⟩=pure (ps.zip us)):
  n6 K A.c m q (cU (top A.i) i) ps:=by
 obtain⟨f,fd,h1,h2⟩:=G1 (mM j e z);exact⟨f,fd,h1,h2,h2.binds hb⟩
end
def hookC(S:xw)(top:Nat->ZF):Hook:=
 ⟨_,λs=>C4 S (wN s.heap),λ_=>B5 S top,λ_ h=>∃K:Frag,K.In h/\C4 S K=B5 S top,λ_ s e=>⟨_,D5 s.heap,e⟩,λ_ _ _ ⟨K,a,b⟩ k=>⟨K,a.keeps k,b⟩⟩
def walk_c{l:OpenLaw}{XP:(WF)->ZH->Prop}{d:DefRec}{S:xw}{top:Nat->ZF}{CX:Fq}{sp:Frag->Sp}
  (hn:l.most=ZA n) (hn2:n<=ZI) (hdf:d.params.defaults=[]) (hr:Room k callerA)
  (F:∀(w:QP)(K:Frag)(mg:WF)(fa:ZE)(h:ZH),K.In h->C4 S K=B5 S top->h.Ns Qv mg->mg d.name=ZA (.ref fa) →
   ∃fd:Q0,(∀(s:Pz)(u:Px),VC s fd ⟨[u],[]⟩ [(x,u)])/\∀base:ZH,K.In base->base.Ns Qv mg->qB l.prog w K mg base CX k fa fd [x] (sp K))
  (hsp:∀(K:Frag)(H:Hp)(a:ZE)(ns:List Int),ns.length<=n->LN H->SqL K H a (ns.map V.int)->sp K [.ref a] H (λv _=>v=.bl ZC) λ_ _ _=>False)
  (hCX:∀(H:Hp)(s:Pz)(e:Px)(s':Pz),CX [] H s (λ_ _ _=>False) e s'->False):
  WalkO q loose XP (hookC S top).says l.row.toRowW d [] (λf vs=>PySem.call f vs):=by
 refine Att.attach_call hn hdf λw s₀ s₁ mg mb fa o pm cd doc a vs ns G Y ho hd hcd hmg hobj hints hlen hg=>?_
 obtain⟨K,KX,e⟩:=Y;obtain⟨fd,hb,hF⟩:=F w K mg fa _ KX e G.T.g hmg;exact Dw KX G.T.g G.T.b G.T.builtins G.T.nolimit hg hobj hints (Qn hlen hn2) hr hF hb (λH hO hS=>hsp K H a ns hlen hO hS) λH e s'=>hCX H s₁ e s'
structure Ml (P:Qg)(w:QP)(K:Frag)(mg:WF)(base:ZH)(k:Nat)(c m:Str)(g:List T->Rs T):Prop where
 ex:∃f fd ps,uZ K (bP K c) m f/\Binds K fd ps []/\ps.length=1/\Fp P w K mg base k f fd ps 1 g
structure Mm (P:Qg)(w:QP)(K:Frag)(mg:WF)(base:ZH)(k:Nat)(c m:Str)(n:Nat)(g:List Sl->Rs (T×OT)):Prop where
 ex:∃f fd ps,uZ K (bP K c) m f/\Binds K fd ps []/\ps.length=n/\E6 P w K mg base k f fd ps n 0 g
structure Ce (P:Qg)(w:QP)(K:Frag)(mg:WF)(base:ZH)(k:Nat)(x:Str)(n j:Nat)(g:List Sl->Rs (T×OT)):Prop where
 ex:∃f fd ps,mg x=ZA (.ref f)/\keepIn K (.ref f)=ZC/\Binds K fd ps []/\ps.length=n/\E6 P w K mg base k f fd ps n j g
structure QX (X:Cx)(e:ZG)(f:En->Rs (T×En)):Prop where
 h:Fi X e f
structure QL (X:Cx)(i:Nat)(e:List ZG)(f:Y0):Prop where
 h:PA X e (L6 X i f)
structure QM (X:Cx)(j:Nat)(e:ZF)(f:En->Rs Fx):Prop where
 h:Fj X j e f
structure HM (X:Cx)(j:Nat)(e:List ZF)(f:En->Rs Fx):Prop where
 h:Fm X j e f
section
variable {base:ZH}{c q:Str}
def Dk{F:Y1}(H:n6 K c m q st ps)(S:bo N ps (ao st))(hn:ps.length=1)
  (hbody:∀(f:ZE)(cdv:Px)(A:Qq)(outer:List Env)(s:Pz)(H:Hp)(E:XK),Room k (A.deeper (envOfC q (ao st) s.heap.objs.size f cdv)) →
   ∀xe,yX ((gu CX0 P w K mg base N q (ao st) f cdv A outer s H E).FB xe) (bJ st) F):Ml P w K mg base (k+1) c m (val 1 N.length F):=by
 obtain⟨f,fd,h1,h2,h3⟩:=H;exact⟨f,fd,ps,h1,h3,hn,tj h2 S hn (hbody f)⟩
def rW{F:En->Rs Fx}(H:n6 K c m q st ps)(S:bo N ps (ao st))(hn:ps.length=n)
  (hbody:∀(f:ZE)(cdv:Px)(A:Qq)(outer:List Env)(s:Pz)(H:Hp)(E:XK),Room k (A.deeper (envOfC q (ao st) s.heap.objs.size f cdv)) →
   ∀xe,HM ((gu CX0 P w K mg base N q (ao st) f cdv A outer s H E).FB xe) 0 (bJ st) F):Mm P w K mg base (k+1) c m n (hW n 0 N.length F):=by
 obtain⟨f,fd,h1,h2,h3⟩:=H;exact⟨f,fd,ps,h1,h3,hn,D7 h2 S hn λcdv A outer s H E hr xe=>(hbody f cdv A outer s H E hr xe).h⟩
def NZ{F:En->Rs Fx}(H:fh K mg x st ps)(S:bo N ps (ao st))(hn:ps.length=n)
  (hbody:∀(f:ZE)(cdv:Px)(A:Qq)(outer:List Env)(s:Pz)(H:Hp)(E:XK),Room k (A.deeper (envOfC x (ao st) s.heap.objs.size f cdv)) →
   ∀xe,HM ((gu CX0 P w K mg base N x (ao st) f cdv A outer s H E).FB xe) j (bJ st) F):Ce P w K mg base (k+1) x n j (hW n j N.length F):=by
 obtain⟨f,fd,h⟩:=H;exact⟨f,fd,ps,h.mg,h.fn.kp,h.bd,hn,D7 h.fn S hn λcdv A outer s H E hr xe=>(hbody f cdv A outer s H E hr xe).h⟩
end
variable{s:ZF}
section
variable {o:ZG}{bM:List ZG}{fs:Y0}{p2 p4:Pos}{n cn' f:Str}{l:Nat}{ge:List Sl->Rs (T×OT)}{ex ey:En->Rs (T×En)}{tx ty:En->Rs (Bool×En)}
def iy(h:QE X a fa):QX X a (xP fa):=⟨IX h.h⟩
def oQ(C:qF X.K X.mg m)(hn:NoAttr X.K (bP X.K m) f)(ha:QE X a fa)(hb:autoParam (Qj a f X.env (eval a X.env)=eval a X.env) u_):QE X (.Attribute a f pos) (o1 (n5 m f) fa):=⟨MO C.cl hn ha.h hb⟩
def fV{pl:Sem Bool}(C:qF X.K X.mg n)(M:Ml X.prog X.w X.K X.mg X.base k n m g)(hr:Room k' X.A)(ho:QE X o fo)(hk:autoParam (k<=k') s_)
  (ht:eval (.Call (.Attribute o m apos) [] [] pos) X.env=(do
   let ov <-eval o X.env
   standAt apos.atName
   let (f,first) <-holding [ov] (Tt ov m pl)
   U9 pos f first (backTo pos (PR [] X.env)) (TJ pos (Se [] X.env))):=by rfl):QE X (.Call (.Attribute o m apos) [] [] pos) (nj n m g fo ai):=by
 obtain⟨f,fd,ps,h1,h2,h3,h4⟩:=M.ex;exact⟨Gm (pl:=pl) C.cl h1 h4 (hr.mono hk) h2 h3 ho.h ht⟩
def BQ(i:Nat)(C:qF X.K X.mg m)(hn:NoAttr X.K (bP X.K m) f)(ha:QE X a fa)(hN:autoParam (X.N[i]?=ZA x) u_)(hv:autoParam (jk X.env.scope x) v_)(hs:autoParam (a9 a=ZC) u_)
  (hb1:autoParam (Qj (.Name x p2) f X.env (eval (.Name x p2) X.env)=eval (.Name x p2) X.env) u_)
  (hbase:autoParam (Qj (.Attribute (.Name x p2) f p3) "append" X.env (eval (.Attribute (.Name x p2) f p3) X.env)=eval (.Attribute (.Name x p2) f p3) X.env) u_) (hline:autoParam ((apos.endLine == cpos.line)=ZC) u_)
  (hd:autoParam ((x == ("__debug__" : Str))=ZD) s_) (hcd:autoParam ((x == ("__classdict__" : Str))=ZD) s_):QX X (.Call (.Attribute (.Attribute (.Name x p2) f p3) "append" apos) [a] [] cpos) (xH i m f fa):=⟨L0 i C.cl hn ha.h hN hv hs hb1 hbase hline hd hcd⟩
def IM(i:Nat)(C:qF X.K X.mg m)(hn:NoAttr X.K (bP X.K m) f)(hN:autoParam (X.N[i]?=ZA x) u_)(hv:autoParam (jk X.env.scope x) v_)
  (hb1:autoParam (Qj (.Name x p2) f X.env (eval (.Name x p2) X.env)=eval (.Name x p2) X.env) u_)
  (hbase:autoParam (Qj (.Attribute (.Name x p2) f p3) "pop" X.env (eval (.Attribute (.Name x p2) f p3) X.env)=eval (.Attribute (.Name x p2) f p3) X.env) u_) (hline:autoParam ((apos.endLine == cpos.line)=ZC) u_)
  (hd:autoParam ((x == ("__debug__" : Str))=ZD) s_) (hcd:autoParam ((x == ("__classdict__" : Str))=ZD) s_):QX X (.Call (.Attribute (.Attribute (.Name x p2) f p3) "pop" apos) [] [] cpos) (FE i m f):=⟨LY i C.cl hn hN hv hb1 hbase hline hd hcd⟩
def KI{fs:Y0}(h:∀(Z:En)(ts:List T),fs Z=.ok ts->ts.length=l)(Z:En)(ts:List T)(z:fs Z=.ok ts):ts.length+1=l+1:=congrArg (· +1) (h Z ts z)
def jX{pl:Sem Bool}(i:Nat)(C:qF X.K X.mg n)(M:Mm X.prog X.w X.K X.mg X.base k n m (l+1) ge)(hr:Room k' X.A)(ha:QA X (e::es) fs)(hk:autoParam (k<=k') s_)(hl:∀(Z:En)(ts:List T),fs Z=.ok ts->ts.length=l:=by repeat first|exact xr|refine xq ?_)
  (hN:autoParam (X.N[i]?=ZA x) u_) (hv:autoParam (jk X.env.scope x) v_) (hd:autoParam ((x == ("__debug__" : Str))=ZD) s_) (hcd:autoParam ((x == ("__classdict__" : Str))=ZD) s_)
  (hns:autoParam (br (e::es)=ZC) u_)
  (ht:eval (.Call (.Attribute (.Name x p2) m apos) (e::es) [] pos) X.env=(do
   let ov <-eval (.Name x p2) X.env
   standAt apos.atName
   let (f,first) <-holding [ov] (Tt ov m pl)
   U9 pos f first (backTo pos (PR (e::es) X.env)) (TJ pos (Se [] X.env))):=by rfl):QX X (.Call (.Attribute (.Name x p2) m apos) (e::es) [] pos) (d7 i n m ge fs):=by
 obtain⟨f,fd,ps,h1,h2,h3,h4⟩:=M.ex
 have hn2:a9 e=ZC/\br es=ZC:=QR.mp hns;exact⟨IY (pl:=pl) i C.cl h1 h4 (hr.mono hk) h2 h3 (KI hl) ha.h hN hv hd hcd (aU hn2.1) (eE hn2.2) ht⟩
def Fz(i:Nat)(hN:autoParam (X.N[i]?=ZA x) u_)(hv:autoParam (jk X.env.scope x) v_)(hd:autoParam ((x == ("__debug__" : Str))=ZD) s_)(hcd:autoParam ((x == ("__classdict__" : Str))=ZD) s_):QL X i [.Name x p2] ai:=⟨JY i hN hv hd hcd⟩
def vi(ha:QE X a fa)(hb:QL X i es fs)(hn:autoParam (a9 a=ZC) u_):QL X i (a::es) (ae fa fs):=⟨Gz ha.h hb.h (aU hn)⟩
def IP(M:Ce X.prog X.w X.K X.mg X.base k y (l+1) l ge)(hr:Room k' X.A)(ha:QL X i (e::es) fs)(hk:autoParam (k<=k') s_)(hl:∀(Z:En)(ts:List T),fs Z=.ok ts->ts.length=l:=by repeat first|exact xr|refine xq ?_)
  (hg:autoParam (Gl X y) u_) (hdb:autoParam ((y == ("__debug__" : Str))=ZD) s_) (hns:autoParam (br (e::es)=ZC) u_):QX X (.Call (.Name y p) (e::es) [] pos) (xG i ge fs):=by
 obtain⟨f,fd,ps,h1,h0,h2,h3,h4⟩:=M.ex
 have hn2:a9 e=ZC/\br es=ZC:=QR.mp hns;exact⟨LZ i h4 (hr.mono hk) h1 h0 h2 h3 rfl hl ha.h hg hdb (aU hn2.1) (eE hn2.2)⟩
def Fu(ha:QX X a ex)(hs:autoParam (Qt a ZB pos.line X.env=pure ZD) u_):QS X (.Expr a pos) (xW ex):=⟨JE ha.h hs⟩
def vg(i:Nat)(hN:X.N.Nodup)(C:qF X.K X.mg m)(M:Mm X.prog X.w X.K X.mg X.base k m "__init__" (l+1) ge)(hr:Room k' X.A)(ha:QA X (e::es) fs)(hk:autoParam (k+1<=k') s_)(hl:∀(Z:En)(ts:List T),fs Z=.ok ts->ts.length=l:=by repeat first|exact xr|refine xq ?_)
  (hi:autoParam (X.N[i]?=ZA n) u_) (hx:autoParam (Loc X.env.scope n) y_) (hs:autoParam (Qt (.Call (.Name m p) (e::es) [] pos) (ZA (.Name n p3)) spos.line X.env=pure ZD) u_) (hf:autoParam (X.fn n=ZC\/X.env.scope.names.lookup n=ZA .local) r_)
  (hg:autoParam (Gl X m) u_) (hdb:autoParam ((m == ("__debug__" : Str))=ZD) s_) (hns:autoParam (br (e::es)=ZC) u_):QS X (.Assign [.Name n p3] (.Call (.Name m p) (e::es) [] pos) spos) (ph i m ge fs):=by
 obtain⟨f,fd,ps,h1,h2,h3,h4⟩:=M.ex
 have hn2:a9 e=ZC/\br es=ZC:=QR.mp hns;exact⟨F8 i ⟨C.mks,h1.at_,h1.fn,C.kp⟩ h4 (hr.mono hk) C.mg h2 h3 (KI hl) hN ha.h hi hx hs hf hg hdb (aU hn2.1) (eE hn2.2)⟩
def B0:HM X j [] mN:=⟨Ni⟩
def et{F:En->Rs Fx}(h:QM X j s F):HM X j [s] F:=⟨Nh h.h⟩
def eC{ss:List ZF}{F:En->Rs Fx}(h1:QM X j s F)(h2:HM X j ss G):HM X j (s::ss) (jE F G):=⟨KA h1.h h2.h⟩
def rC(ha:QX X a ex)(hs:autoParam (Qt a ZB pos.line X.env=pure ZD) u_):QM X j (.Expr a pos) (xy ex):=⟨m_ex ha.h hs⟩
def oS(ha:QX X a ex):QM X j (.Return (ZA a) pos) (lS ex):=⟨Ng ha.h⟩
def vj(i:Nat)(hN:X.N.Nodup)(ha:QX X a ex)(hij:autoParam (i≠j) s_)(hi:autoParam (X.N[i]?=ZA n) u_)(hx:autoParam (Loc X.env.scope n) y_)(hs:autoParam (Qt a (ZA (.Name n p3)) pos.line X.env=pure ZD) u_)
  (hf:autoParam (X.fn n=ZC\/X.env.scope.names.lookup n=ZA .local) r_):QM X j (.Assign [.Name n p3] a pos) (Fe i ex):=⟨m_as i hij hN ha.h hi hx hs hf⟩
def za{t:Y3}{A C:List ZF}{F:En->Rs Fx}(hc:QT X c t)(ha:HM X j A F)(hb:HM X j C G):QM X j (.If c A C pos) (Bd t F G):=⟨m_if hc.h ha.h hb.h⟩
def IV{d:Str}(h:QS X s (vJ d)):QM X j s (KC d):=⟨Nk h.h⟩
def xF(i:Nat)(C:qF X.K X.mg m)(hn:NoAttr X.K (bP X.K m) f)(ha:QA X es fs)(hN:autoParam (X.N[i]?=ZA n) u_)(hv:autoParam (jk X.env.scope n) v_)
  (hd:autoParam ((n == ("__debug__" : Str))=ZD) s_) (hcd:autoParam ((n == ("__classdict__" : Str))=ZD) s_) (hs:autoParam (Qt (.List es p4) (ZA (.Attribute (.Name n p2) f p3)) pos.line X.env=pure ZD) u_):
  QM X j (.Assign [.Attribute (.Name n p2) f p3] (.List es p4) pos) (wg i m f fs):=⟨Nj i C.cl hn ha.h hN hv hd hcd hs⟩
def AN{c:Str}{t:T}(hm:X.mg c=ZA (.ref C))(O:OX X.K C bm)(h:∀e oe,yX (uQ X e oe) suite (aM (cn t))):ET X suite C (uH c t):=λd D u hd hu=>by
 unfold uH at hu
 split at hu
 ·rename_i z
  cases hu;subst z;cases hm.symm.trans hd;exact⟨bm,O,by simp,λe oe=>(h e oe).h⟩
 ·cases hu
def FD{F:En->Rs Fx}{CE:ZE}{t:T}(hm:X.mg ce=ZA (.ref CE))(OE:OX X.K CE bmE)
  (hb:∀pn xe,HM {X with pn:=pn,xe:=xe} j body F) (hs:∀e oe,yX (uQ X e oe) (b0::suite) (aM (Tr.cn t))) (hst:autoParam (X.stack=X.env::X.outer) u_) (hfe:autoParam (X.env.frame=ZA X.env.locals) u_) (hcl:∀x c,X.env.cells.lookup x≠ZA c) (hex:autoParam (X.ex=[]) u_)
  (hg:autoParam (Gl X ce) u_) (hd:autoParam ((ce == ("__debug__" : Str))=ZD) s_):
  QM X j (.Try body [.ExceptHandler (ZA (.Name ce np)) ZB (b0::suite) hpos] [] [] pos) (pW F (uH ce t)):=⟨Kz hst hfe hcl hex hm OE (λpn xe=>(hb pn xe).h) (AN hm OE hs) hg hd⟩
end
theorem Ev.one{K:Pv}{B':Ow}{m:Ow}{o:OT}(hlen:Z.length=σ.length)(hv:∀(k:Nat)(t:T),Z[k]?=ZA (.va t)->∃v,σ[k]?=ZA (ZA v)/\Rep K (BM B m) H t v)
  (ho:∀(k:Nat)(o':OT),Z[k]?=ZA (.ow o')->k=j/\∃v,σ[k]?=ZA (ZA v)/\ORep K (BM B m) m H o' v) (mt:∀a,BM B m a->Mtb H a) (hm:∀a,m a->¬ B a):Ev K B (one j m) H Z σ:=by
 refine⟨⟨hlen,λk t e=>?_,λk o' e=>?_,λk a z=>.inr ⟨k,z⟩,λk k' a z1 z2=>?_,λa z=>mt a (one_oo.mp z)⟩,λa z=>hm a (one_u.mp z)⟩
 ·obtain⟨v,e1,e2⟩:=hv k t e
  exact⟨v,e1,e2.less λa z=>one_oo.mp z⟩
 ·obtain⟨hk,v,e1,e2⟩:=ho k o' e
  subst hk;refine⟨v,e1,?_⟩
  rw[show Tr.one k m k=m from Mn.KF]
  exact e2.move (P:=kI) (λ_ z=>z.elim) (λa z=>.inl (one_oo.mp z)) (λb u q _=>q) λ_ _ z=>z
 ·unfold Tr.one Mn.set at z1 z2
  by_cases h1:k=j
  ·by_cases h2:k'=j
   ·exact h1.trans h2.symm
   ·rw[if_neg h2]at z2;exact z2.elim
  ·rw[if_neg h1]at z1;exact z1.elim
end Tr
namespace L2
open PySem PySem.Spec PyProof.Rows
def Itv(K:Pv)(a:ZE)(n:Nat):It:=
 ⟨λi H=>i<n/\∃xs,SqL K H a xs/\xs.length=n,λi H x H'=>H'=H/\∀xs,SqL K H a xs->xs[n - 1 - i]?=ZA x,λi H=>n<=i⟩
def Cb{tg:ZG}(a it:ZE)(n:Nat):BF P w K tg (Itv K a n) [it] it (λi h=>i<=n/\h.IsRevIter it a ((n:Int) - 1 - (i:Int))) where
 mem:=by simp
 obj:=λi h st b hb=>by
  have e:b=it:=by simpa using hb
  subst e;obtain⟨_,o,e,c,d⟩:=st;exact⟨o,e,λv z=>by rw[d]at z;cases z⟩
 keep:=λi h h' st k=>⟨st.1,st.2.at λo e=>k it (by simp) o e⟩
 item:=by
  intro X hP hw hK hc i kt s σ H E I hf st hg;subst hP hw hK;obtain⟨hlt,xs,hq,hn⟩:=hg;obtain⟨its,rv,p,hz⟩:=I.list hq
  have hx:xs[n - 1 - i]?=ZA xs[n - 1 - i]:=P5 (by omega)
  obtain⟨u,hu,ru⟩:=rv.get hx;obtain⟨f0,f1,f2,f3,f4,f5⟩:=hf it (by simp)
  have e1:(n:Int) - 1 - (i:Int)=((n - 1 - i:Nat):Int):=by omega
  have st:=st.2;rw[e1]at st;refine wpAny_pyNext_rev_item st p.isList (x:=u) (by simpa using hu) λh' st' sb=>?_
  have I1:Inv X kt σ H {s with heap:=h'}:=I.turned (t':=s.toks) (λb o hb e=>(sb.2 b hb).trans e) f0 f1 f3 f4 f5
  have e2:((n - 1 - i:Nat):Int) - 1=(n:Int) - 1 - ((i+1:Nat):Int):=by omega
  rw[e2]at st';obtain⟨o,e,c,d⟩:=id st';exact⟨u,rfl,Aa (s:={s with heap:=h'}) e c d (by decide) ⟨_,H,I1,ru,⟨rfl,λys hy=>by rw[I.OB hy hq];exact hx⟩,⟨hlt,st'⟩,λb hb=>(hf b hb).1⟩⟩
 done:=by
  intro X hP hw hK hc i kt s σ H E I hf st hg;subst hP hw hK
  have hg:n<=i:=hg;obtain⟨hle,st⟩:=st
  have hin:i=n:=Vs hle hg;subst hin;obtain⟨f0,f1,f2,f3,f4,f5⟩:=hf it (by simp)
  have e1:(i:Int) - 1 - (i:Int)= -1:=by omega
  rw[e1]at st;exact wpAny_pyNext_rev_end (I.ok.hd hc) st λh' eb=>⟨rfl,I.turned (t':=s.toks) (λb o hb e=>eb b o hb e) f0 f1 f3 f4 f5⟩
 self:=λ_ _ _ _ _ st h=>VS st.2 h
end L2
namespace Tr
open PySem PySem.Spec PyProof.Rows L2
variable{X:Cx}{a tg:ZG}{p pos:Pos}
section
variable {fs:Y0}
def rn:Qw "reversed" =ZA (.type "reversed"):=by decide+kernel
def JL(hm:X.mg "reversed" =ZB)(ha:qz X [a] fs)(hg:autoParam (Gl X "reversed") u_)(hs:autoParam (PR [a] X.env=[(ZD,eval a X.env)]) u_):BH X tg (.Call (.Name "reversed" p) [a] [] pos) (DU fs):=by
 intro kt s σ H R I ⟨Z,O,E,h⟩
 have h1:=fF E h;refine Call_ (fO I hg hm rn (QV (bV (ha pos kt s σ H _ I h1) λus s1 ⟨vs,H1,I1,r1,ts,rs,s',E',q1⟩=>?_) hs rfl))
 split at q1
 ·rename_i l
  obtain⟨v,rfl,r⟩:=rs.one;obtain⟨b,ws,rfl,n,q,z⟩:=Rep.Do.mp r;obtain⟨u,rfl,ru⟩:=jm r1;cases ru;obtain⟨its,rv,pl,hz⟩:=I1.list (SqL.of q);refine call_reversed_list pl.isList ?_
  have hl1:its.length=ws.length:=rv.length.symm
  have hl2:l.length=ws.length:=z.length
  have hit:(s1.heap.push (revObj b ((its.toArray.size:Int) - 1))).IsRevIter s1.heap.objs.size b ((ws.length:Int) - 1 - ((0:Nat):Int)):=by
   refine⟨_,Qc _ rfl,rfl,?_⟩
   show XD #[.ref b,rawInt ((its.toArray.size:Int) - 1)]=_
   rw[PY,hl1];simp
  refine VS (s:={s1 with heap:=s1.heap.push (revObj b ((its.toArray.size:Int) - 1))}) hit ?_
  refine⟨s1.heap.objs.size,[s1.heap.objs.size],_,_,H1,rfl,I1.kept (t':=s1.toks) λb o e=>PN _ e,Cb b _ ws.length,⟨QQ _,hit⟩,λc hb=>?_,?_⟩
  ·have e:c=s1.heap.objs.size:=by simpa using hb
   subst e;exact I1.OL (PP _) (I1.hok.fresh (PP _))
  ·refine q1 H1 (Same.refl H1) _ λP O' hP hO i Hc hs ht=>?_
   have hnP:¬ P b:=λw=>(hP b w).elim n λw=>by rw[w.1]at q;cases q
   have hc:=hs _ _ q hnP;refine⟨λhi=>?_,λt ht'=>?_⟩
   ·rw[List.length_reverse,hl2]at hi
    exact hi
   ·have hi:i<l.length:=by have:=(PM.mp ht').1;simpa using this
    rw[List.getElem?_reverse hi,show l.length - 1 - i=ws.length - 1 - i by omega]at ht'
    obtain⟨v,e1,e2⟩:=z.get ht';refine⟨⟨by omega,ws,SqL.of hc,rfl⟩,λx Hc' y=>?_⟩
    obtain⟨e,y⟩:=y;subst e
    have:=y ws (SqL.of hc);rw[e1]at this;cases this;exact⟨Same.refl _,e2.move hP hO hs⟩
 ·exact q1.elim
def Fw(hm:X.mg "reversed" =ZB)(ha:QA X [a] fs)(hn:autoParam (a9 a=ZC) u_)(hg:autoParam (Gl X "reversed") u_):QI X tg (.Call (.Name "reversed" p) [a] [] pos) (DU fs):=⟨JL hm ha.h hg (aU hn)⟩
end
variable{fa:Y2}{p3:Pos}{x:Str}
section
variable {p2:Pos}
def My(K:Pv):R2:=λx y H Q=>∃c d vs ws,x=.ref c/\y=.ref d/\H c=ZA (.lst vs)/\H d=ZA (.lst ws)/\vs.length+ws.length<=ZI/\∀p,Nw K H p->Q (.ref p) (upd H p (.lst (vs++ws)))
def GO:oP X (Rt .Add) (My X.K):=by
 intro kt s σ H vx vy ux uy Q I r1 r2 ⟨c,d,vs,ws,e1,e2,h1,h2,hz,q⟩
 have hk:X.K.lookup s.heap.objs.size=ZB:=by
  cases z:X.K.lookup s.heap.objs.size with
  |none=>rfl
  |some o=>exact absurd (PU (I.kIn _ o z)) (Qm _)
 subst e1;subst e2;cases r1;cases r2;obtain⟨_,is1,_,s1,l1,g1⟩:=I.Ox h1;obtain⟨_,is2,_,s2,l2,g2⟩:=I.Ox h2;refine Xg g1 g2 ?_ (by rw[PY,PY];omega)
 rw[show is1.toArray++is2.toArray=(is1++is2).toArray by simp]
 exact⟨.ref _,_,I.OY (t':=s.toks) (s1.append s2) (by rw[PK];omega),rfl,q _ ⟨I.fresh,hk⟩⟩
end
mutual
def noL:T->Bool
 |.non=>ZC
 |.bl _=>ZC
 |.int _=>ZC
 |.str _=>ZC
 |.tup l=>noLs l
 |_=>ZD
def noLs:List T->Bool
 |[] =>ZC
 |t::r=>noL t&&noLs r
end
def vc:Sl->Sl
 |.va t=>if noL t=ZC then .va t else .em
 |_=>.em
def strip(Z:En):En:=Z.map vc
variable{H H':Hp}{O O':Ow}{Z:En}{e:ZG}{f:Y2}{l:List T}{v:V}{σ:L2.St}
mutual
theorem Rep.Oz(hO:∀a xs,H a=ZA (.tup xs)->¬ O a->¬ O' a):∀{t:T}{v:V},noL t=ZC->Rep K O H t v->Rep K O' H t v
 |.non,v,_,r=>by unfold Rep at r ⊢;exact r
 |.bl _,v,_,r=>by unfold Rep at r ⊢;exact r
 |.int _,v,_,r=>by unfold Rep at r ⊢;exact r
 |.str _,v,_,r=>by unfold Rep at r ⊢;exact r
 |.tup l,v,n,r=>by
  obtain⟨a,vs,e,no,q,z⟩:=Rep.Fk.mp r
  exact Rep.Fk.mpr ⟨a,vs,e,hO a vs q no,q,Reps.Oz hO (by unfold noL at n;exact n) z⟩
 |.lst _,v,n,_=>by unfold noL at n;cases n
 |.scr _,v,n,_=>by unfold noL at n;cases n
 |.dct _ _,v,n,_=>by unfold noL at n;cases n
 |.ob _ _ _,v,n,_=>by unfold noL at n;cases n
theorem Reps.Oz(hO:∀a xs,H a=ZA (.tup xs)->¬ O a->¬ O' a):∀{ts:List T}{vs:List V},noLs ts=ZC->Reps K O H ts vs->Reps K O' H ts vs
 |[],vs,_,r=>Reps.Da.mpr (Reps.Da.mp r)
 |t::l,vs,n,r=>by
  obtain⟨v,ws,e,r1,r2⟩:=Reps.me.mp r;unfold noLs at n;rw[PC]at n;exact Reps.me.mpr ⟨v,ws,e,Rep.Oz hO n.1 r1,Reps.Oz hO n.2 r2⟩
end
def yr(O:Ow)(H:Hp):Ow:=λa=>O a\/∃xs,H a=ZA (.lst xs)
def G4(a:ZE)(xs:List V)(q:H a=ZA (.tup xs))(n:¬ O a):¬ yr O H a:=λz=>z.elim n λ⟨ys,e⟩=>by rw[q]at e;cases e
theorem EnvO.strip(E:EnvO K O H Z σ):EnvO K (yr O H) H (strip Z) σ:=by
 have at_:∀(i:Nat)(s:Sl),(Tr.strip Z)[i]?=ZA s->∃s0,Z[i]?=ZA s0/\vc s0=s:=λi s e=>by
  unfold Tr.strip at e;rw[P9]at e
  cases q:Z[i]? with
  |none=>rw[q]at e;cases e
  |some s0=>rw[q]at e;exact⟨s0,rfl,Qu e⟩
 refine⟨λ_ _=>False,?_,λi t e=>?_,λi o e=>?_,λ_ _ z=>z.elim,λ_ _ _ z=>z.elim,λa z=>z.elim (E.mtb a) λq=>.inl q⟩
 ·unfold Tr.strip;rw[Py];exact E.len
 ·obtain⟨s0,e0,e1⟩:=at_ i _ e
  cases s0 with
  |em=>cases e1
  |ow o=>cases e1
  |va t'=>
   replace e1:(if noL t'=ZC then Sl.va t' else Sl.em)=_:=e1
   by_cases hn:noL t'=ZC
   ·rw[if_pos hn]at e1
    cases e1;obtain⟨v,e2,r⟩:=E.val i t e0;exact⟨v,e2,Rep.Oz G4 hn r⟩
   ·rw[if_neg hn]at e1;cases e1
 ·obtain⟨s0,e0,e1⟩:=at_ i _ e
  cases s0 with
  |em=>cases e1
  |ow o=>cases e1
  |va t'=>
   replace e1:(if noL t'=ZC then Sl.va t' else Sl.em)=_:=e1
   by_cases hn:noL t'=ZC
   ·rw[if_pos hn]at e1;cases e1
   ·rw[if_neg hn]at e1;cases e1
def Ks(s:Same H H')(r:Rep K (yr O H) H' (.lst l) v):∃a vs,v=.ref a/\H a=ZB/\H' a=ZA (.lst vs)/\Reps K (yr O H) H' l vs:=by
 obtain⟨a,vs,e,n,q,z⟩:=Rep.Do.mp r;refine⟨a,vs,e,?_,q,z⟩
 cases hq:H a with
 |none=>rfl
 |some o=>
  have:=s a o hq;rw[q]at this;cases this;exact absurd (.inr ⟨vs,hq⟩) n
def HV(X:Cx)(f:Y2):TE:=λσ H Q=>∃Z O,EnvO X.K O H Z σ/\Post X H (f (strip Z)) λt H'=>∃l,t=.lst l/\∀a ws,Nw X.K H a->H' a=ZA (.lst ws)->Reps X.K (yr O H) H' l ws->Q (.ref a) H'
def x6(he:cg X e f):PE X e (HV X f):=by
 intro kt s σ H Q I ⟨Z,O,E,hq⟩;refine bV (he kt s σ H (λv H'=>∃a,v=.ref a/\(∃ws,H' a=ZA (.lst ws))/\(X.K.lookup a=ZB->Q v H')) I ⟨strip Z,yr O H,E.strip,Post.mono hq λt H' sm ⟨l,e,q⟩ v r=>?_⟩) λv s1 ⟨x,H1,I1,r1,a,e1,⟨ws,e3⟩,q⟩=>⟨x,H1,I1,r1,q ?_⟩
 ·subst e
  obtain⟨a,ws,ev,hn,h',z⟩:=Ks sm r;exact⟨a,ev,⟨ws,h'⟩,λhk=>by subst ev;exact q a ws ⟨hn,hk⟩ h' z⟩
 ·cases hk:X.K.lookup a with
  |none=>rfl
  |some o=>
   have:=(I1.bs a o (I1.mod.kin a o hk)).2;rw[e3]at this;cases this
def Ba:En->Rs (List (List T)):=λ_=>.ok []
def pV(f:Y2)(fs:En->Rs (List (List T)))(Z:En):Rs (List (List T)):=f Z >>= λt=>match t with
 |.lst l=>fs Z >>= λls=>.ok (l::ls)
 |_=>.bad
variable{es:List ZG}
theorem LsR.Oz(hO:∀a xs,H a=ZA (.tup xs)->¬ O a->¬ O' a):∀{ls:List (List T)}{as:List ZE},ls.all noLs=ZC->LsR K O H ls as->LsR K O' H ls as
 |[],_,_,r=>r
 |l::ls,_,n,⟨b,bs,vs,e1,e2,e3,e4⟩=>by
  rw[Ug,PC]at n;exact⟨b,bs,vs,e1,e2,Reps.Oz hO n.1 e3,LsR.Oz hO n.2 e4⟩
theorem LsR.OP:∀{ls:List (List T)}{as:List ZE},LsR K O H ls as->as.length=ls.length
 |[],_,r=>by unfold LsR at r;subst r;rfl
 |l::ls,_,⟨b,bs,vs,e1,e2,e3,e4⟩=>by subst e1;rw[PH,PH,e4.OP]
def wj(s:Same H H')(a:ZE)(z:yr O H a):yr O H' a:=z.imp_right λ⟨xs,e⟩=>⟨xs,s _ _ e⟩
def L9(X:Cx)(f:En->Rs (List (List T))):TA:=λσ H Q=>∃Z O,EnvO X.K O H Z σ/\Post X H (f (strip Z)) λls H'=>∀as:List ZE,as.Nodup->(∀b∈as,Nw X.K H b)->LsR X.K (yr O H) H' ls as->Q (as.map V.ref) H'
def Kv:PA X [] (L9 X Ba):=PA.imp fM λσ H Q ⟨Z,O,E,hq⟩=>hq H (Same.refl H) [] RE (λb hb=>by cases hb) rfl
def GY{fs:En->Rs (List (List T))}(he:cg X e f)(hr:PA X es (L9 X fs))(hs:autoParam (PR (e::es) X.env=(ZD,eval e X.env)::PR es X.env) u_):PA X (e::es) (L9 X (pV f fs)):=
 PA.imp (cS (x6 he) hr hs) λσ H Q hh_=>by
  obtain⟨Z,O,E,hq⟩:=hh_;refine⟨Z,O,E,?_⟩
  unfold pV at hq;refine Post.mono hq.bind λt H1 s1 q=>?_
  cases t with
  |lst l=>
   refine⟨l,rfl,λa ws nw ea ra=>⟨Z,O,E.same s1,?_⟩⟩
   refine Post.mono (Post.bind q) λls H2 s2 q2 as nd na ras=>?_
   have hne:a∉as:=λz=>by have:=(na a z).1;rw[ea]at this;cases this
   refine q2 H2 (Same.refl H2) (a::as) (Qh.mpr ⟨hne,nd⟩) (λb hb=>?_) ⟨a,as,ws,rfl,s2 _ _ ea,ra.same s2,ras.less (wj s1)⟩
   rcases PJ.mp hb with rfl|hb
   ·exact nw
   ·exact dF s1 (na b hb)
  |_=>exact q.elim
def kU(i:Nat)(f:Y2)(Z:En):Rs Fl:=match Z[i]? with
 |some (.ow (.ll ls))=>f (strip Z) >>= λt=>match t with
  |.lst l=>if ls.length<ZI/\noLs l=ZC then .ok (.nx (Z.set i (.ow (.ll (ls++[l])))))else .bad
  |_=>.bad
 |_=>.bad
variable{B m:Ow}{M:Mn}
section
variable {o o':OT}
def Ev.grow(E:Ev K B M H Z σ)(hi:Z[i]?=ZA (.ow o))(hs:σ[i]?=ZA (ZA v))(hm:∀a,m a->M i a\/Nw K H a)(hm':∀a,M i a->m a)(s:SameO (M i) H H')(r:ORep K (OO B (M.set i m)) m H' o' v):
  Ev K B (M.set i m) H' (Z.set i (.ow o')) σ/\SameO M.u H H'/\∀a,(M.set i m).u a->M.u a\/Nw K H a:=by
 have hl:i<Z.length:=(PM.mp hi).1
 have sub:∀a,(M.set i m).u a->M.u a\/Nw K H a:=λa z=>(Mn.FM z).elim (λw=>(hm a w).imp_left λy=>⟨i,y⟩) .inl
 have subO:∀a,OO B (M.set i m) a->OO B M a\/Nw K H a:=λa z=>z.elim (λw=>.inl (.inl w)) λw=>(sub a w).elim (λy=>.inl (.inr y)) .inr
 have inO:∀a,M i a->OO B M a\/Nw K H a:=λa z=>.inl (.inr ⟨i,z⟩)
 have du:∀a,Nw K H a->¬ OO B M a:=λa w z=>by
  obtain⟨o,e⟩:=(E.env.trk a z).some;rw[w.1]at e;cases e
 have at_:∀a,OO B M a->¬ M i a->Mtb H' a:=λa z n=>(E.env.trk a z).at λo e=>s a o e n
 refine⟨⟨⟨by rw[Qr];exact E.env.len,λj t e=>?_,λj o2 e=>?_,λj a z=>.inr ⟨j,z⟩,λj k a z1 z2=>?_,λa z=>?_⟩,λa z=>?_⟩,λb u e n=>s b u e λz=>n ⟨i,z⟩,sub⟩
 ·by_cases hj:i=j
  ·subst hj;rw[P4 hl]at e;cases e
  ·rw[P3 hj]at e
   obtain⟨w,e1,e2⟩:=E.env.val j t e;exact⟨w,e1,e2.move inO subO s⟩
 ·by_cases hj:i=j
  ·subst hj
   rw[P4 hl]at e
   cases e;exact⟨v,hs,by rw[Mn.KF];exact r⟩
  ·rw[P3 hj]at e
   obtain⟨w,e1,e2⟩:=E.env.own j o2 e;refine⟨w,e1,?_⟩
   rw[Mn.Os (λz=>hj z.symm)]
   exact e2.move inO subO s λa z y=>hj (E.env.dis i j a y z)
 ·unfold Mn.set at z1 z2
  by_cases hj:j=i
  ·by_cases hk:k=i
   ·exact hj.trans hk.symm
   ·rw[if_pos hj]at z1;rw[if_neg hk]at z2
    exact(hm a z1).elim (λy=>hj.trans (E.env.dis i k a y z2)) λw=>(du a w (.inr ⟨k,z2⟩)).elim
  ·by_cases hk:k=i
   ·rw[if_neg hj]at z1;rw[if_pos hk]at z2
    exact(hm a z2).elim (λy=>(E.env.dis j i a z1 y).trans hk.symm) λw=>(du a w (.inr ⟨j,z1⟩)).elim
   ·rw[if_neg hj]at z1;rw[if_neg hk]at z2
    exact E.env.dis j k a z1 z2
 ·rcases z with z|z
  ·exact at_ a (.inl z) λy=>E.mine a ⟨i,y⟩ z
  ·rcases Mn.FM z with w|w
   ·exact r.mtb a w
   ·by_cases hy:M i a
    ·exact r.mtb a (hm' a hy)
    ·exact at_ a (.inr w) hy
 ·intro hb
  rcases Mn.FM z with w|w
  ·exact(hm a w).elim (λy=>E.mine a ⟨i,y⟩ hb) λy=>du a y (.inl hb)
  ·exact E.mine a w hb
theorem LsR.snoc{a:ZE}{ws:List V}(ea:H a=ZA (.lst ws))(r:Reps K O H l ws):∀{ls:List (List T)}{as:List ZE},LsR K O H ls as->LsR K O H (ls++[l]) (as++[a])
 |[],_,z=>by unfold LsR at z;subst z;exact⟨a,[],ws,rfl,ea,r,rfl⟩
 |l0::ls,_,⟨b,bs,vs,e1,e2,e3,e4⟩=>by subst e1;exact⟨b,bs++[a],vs,rfl,e2,e3,LsR.snoc ea r e4⟩
end
variable{apos cpos:Pos}
section
variable {p2:Pos}
def Cv(i:Nat)(ha:cg X a fa)(hN:autoParam (X.N[i]?=ZA x) u_)(hv:autoParam (jk X.env.scope x) v_)(hn:autoParam (a9 a=ZC) u_)
  (hbase:autoParam (Qj (.Name x p2) "append" X.env (eval (.Name x p2) X.env)=eval (.Name x p2) X.env) u_) (hline:autoParam ((apos.endLine == cpos.line)=ZC) u_)
  (hd:autoParam ((x == ("__debug__" : Str))=ZD) s_) (hcd:autoParam ((x == ("__classdict__" : Str))=ZD) s_)
  (hsw:autoParam (Qt (.Call (.Attribute (.Name x p2) "append" apos) [a] [] cpos) ZB pos.line X.env=pure ZD) u_):mh X (.Expr (.Call (.Attribute (.Name x p2) "append" apos) [a] [] cpos) pos) (kU i fa):=by
 have h1:PR [a] X.env=(ZD,eval a X.env)::PR [] X.env:=aU hn;refine PS.imp (iH (zF Rb S8 S9 j8 (dt hN hv hd hcd) (cS (x6 ha) fM h1) hbase ?_ hline h1 rfl) hsw) λD σ H ⟨Z,B,M,E,h⟩=>?_
 ·rw[h1];rfl
 unfold kU at h
 split at h
 ·rename_i ls hl
  obtain⟨v0,e1,b,as,rfl,hM,hba,nd,e3,e4⟩:=E.env.own i _ hl;refine⟨.ref b,e1,.inl ⟨rfl,as.map V.ref,SqL.of e3⟩,Z,OO B M,E.o,?_⟩
  cases q:fa (strip Z)with
  |bad=>rw[q]at h;exact h.elim
  |err c=>rw[q]at h;exact PostF.xa h
  |ok t=>
   rw[q,ax]at h
   cases t with
   |lst l=>
    dsimp only at h
    by_cases hz:ls.length<ZI/\noLs l=ZC
    ·rw[if_pos hz]at h
     intro H1 s1;refine⟨l,rfl,λc ws nw ec rc=>?_⟩
     have hcb:c≠b:=λz=>by subst z;rw[nw.1]at e3;cases e3
     have hca:c∉as:=λz=>by
      obtain⟨vs,e⟩:=e4.mtb c z;rw[nw.1]at e;cases e
     refine⟨b,as.map V.ref,.ref c,rfl,rfl,s1 _ _ e3,by rw[Py,e4.OP];exact hz.1,?_⟩
     have sb:SameO (λd=>d=b) H1 (upd H1 b (.lst (as.map V.ref++[.ref c]))):=λd u e n=>by rw[aH n];exact e
     have sH:SameO (λd=>d=b) H (upd H1 b (.lst (as.map V.ref++[.ref c]))):=λd u e n=>sb d u (s1 _ _ e) n
     have hO:∀d,OO B (M.set i λd=>d=b\/d∈as++[c]) d->OO B M d\/d=c:=λd z=>z.elim (λw=>.inl (.inl w)) λw=>(Mn.FM w).elim (λy=>y.elim (λy=>.inl (.inr ⟨i,(hM d).mpr (.inl y)⟩)) λy=>(PZ.mp y).elim (λy=>.inl (.inr ⟨i,(hM d).mpr (.inr y)⟩)) λy=>.inr (PL.mp y)) λy=>.inl (.inr y)
     have r1:Reps X.K (λd=>yr (OO B M) H d\/d=c) H1 l ws:=Reps.Oz (λd xs e n z=>z.elim n λz=>by subst z;rw[ec]at e;cases e) hz.2 rc
     have r2:Reps X.K (OO B (M.set i λd=>d=b\/d∈as++[c])) (upd H1 b (.lst (as.map V.ref++[.ref c]))) l ws:=r1.move (P:=λd=>d=b) (λd z=>.inl (.inl (.inl (.inr ⟨i,(hM d).mpr (.inl z)⟩)))) (λd z=>.inl ((hO d z).imp_left .inl)) sb
     have r3:LsR X.K (OO B (M.set i λd=>d=b\/d∈as++[c])) (upd H1 b (.lst (as.map V.ref++[.ref c]))) ls as:=e4.move (P:=λd=>d=b) (λd z=>.inl (.inr ⟨i,(hM d).mpr (.inl z)⟩)) (λd z=>(hO d z).imp_right λz=>z▸nw) sH λd hd z=>hba (z▸hd)
     obtain⟨g1,g2,g3⟩:=E.grow (m:=λd=>d=b\/d∈as++[c]) (o':=.ll (ls++[l])) (H':=upd H1 b (.lst (as.map V.ref++[.ref c]))) hl e1
      (λd z=>z.elim (λy=>.inl ((hM d).mpr (.inl y))) λy=>(PZ.mp y).elim (λy=>.inl ((hM d).mpr (.inr y))) λy=>.inr (PL.mp y▸nw))
      (λd z=>((hM d).mp z).imp_right λy=>Qb _ y) (λd u e n=>sH d u e λz=>n ((hM d).mpr (.inl z)))
      ⟨b,as++[c],rfl,λ_=>SC,λz=>(PZ.mp z).elim hba λz=>hcb (PL.mp z).symm,Qs.mpr ⟨nd,by simp,λd hd e he=>by rw[PL.mp he];exact λz=>hca (z▸hd)⟩,by rw[aL,Q6];rfl,LsR.snoc (by rw[aH hcb];exact ec) r2 r3⟩
     exact h σ _ _ g2 g1 g3
    ·rw[if_neg hz]at h;exact h.elim
   |_=>exact h.elim
 ·exact h.elim
end
def iN(tgt:T->En->Rs En)(fe:Y2):List T->En->Rs (List (List T))
 |[],_=>.ok []
 |t::r,Z=>tgt t Z >>= λZ1=>fe (strip Z1) >>= λy=>match y with
  |.lst l=>iN tgt fe r Z1 >>= λls=>.ok (l::ls)
  |_=>.bad
def Kw(fi:Y0)(src:List (Option Nat))(tgt:T->En->Rs En)(fe:Y2)(Z:En):Rs (List (List T)):=fi Z >>= λts=>if ts.length<=ZI then(match iN tgt fe ts (bN src Z)with|.ok ls=>.ok ls|_=>.bad)else .bad
def nL(f:En->Rs (List (List T)))(Z:En):Rs (List (List T)):=f (strip Z) >>= λls=>if ls.length<=ZI then .ok ls else .bad
def Bb(f g:En->Rs (List (List T)))(Z:En):Rs (List (List T)):=f Z >>= λl=>g Z >>= λm=>if l.length+m.length<=ZI then .ok (l++m)else .bad
def mq(i:Nat)(f:En->Rs (List (List T)))(Z:En):Rs Fl:=f Z >>= λls=>if i<Z.length/\ls.all noLs=ZC then .ok (.nx (Z.set i (.ow (.ll ls))))else .bad
def Je(X:Cx)(f:En->Rs (List (List T))):TE:=λσ H Q=>∃Z O,EnvO X.K O H Z σ/\Post X H (f Z) λls H'=>∀p as,p∉as->as.Nodup->(∀b,b=p\/b∈as->Nw X.K H b)->H' p=ZA (.lst (as.map V.ref))->LsR X.K (yr O H) H' ls as->Q (.ref p) H'
def tNewE0(K:Pv)(f:Y2):TE:=λσ H Q=>∃Z O,EnvO K O H Z σ/\match f (strip Z)with
 |.ok (.lst l)=>∀H',Same H H'->∀a ws,Nw K H a->H' a=ZA (.lst ws)->Reps K (yr O H) H' l ws->Q (.ref a) H'
 |_=>False
variable{Q:VK}{b elt iter:ZG}{f:En->Rs (List (List T))}{fe:Y2}{fi:Y0}{tgt:T->En->Rs En}
def tNewE0.up{f:Y2}(h:tNewE0 X.K f σ H Q):HV X f σ H Q:=by
 obtain⟨Z,O,E,h⟩:=h;refine⟨Z,O,E,?_⟩
 split at h
 ·rename_i l e
  rw[e];exact λH' s=>⟨l,rfl,h H' s⟩
 ·exact h.elim
theorem LsR.cat:∀{l1 l2:List (List T)}{a1 a2:List ZE},LsR K O H l1 a1->LsR K O H l2 a2->LsR K O H (l1++l2) (a1++a2)
 |[],_,_,_,z,w=>by unfold LsR at z;subst z;exact w
 |l0::ls,_,_,_,⟨b,bs,vs,e1,e2,e3,e4⟩,w=>by subst e1;exact⟨b,_,vs,rfl,e2,e3,LsR.cat e4 w⟩
def GW(ha:PA X es (L9 X f)):PE X (.List es pos) (Je X (nL f)):=PE.imp (tY ha) λσ H Q hh_=>by
 obtain⟨Z,O,E,hq⟩:=hh_;refine⟨Z,O,E,?_⟩
 unfold nL at hq;refine Post.mono hq.bind λls H1 s1 q as nd na r=>?_
 by_cases hl:ls.length<=ZI
 ·rw[if_pos hl]at q
  refine⟨by rw[Py,r.OP];exact hl,λp hp=>q _ (aW hp.1 _) p as (λz=>?_) nd (λb z=>z.elim (λz=>z▸dF s1 hp) (na b)) aL (r.same (aW hp.1 _))⟩
  obtain⟨vs,e⟩:=r.mtb p z;rw[hp.1]at e;cases e
 ·rw[if_neg hl]at q;exact q.elim
def Kr{fa fb:En->Rs (List (List T))}(ha:PE X a (Je X fa))(hb:PE X b (Je X fb)):PE X (.BinOp a .Add b pos) (Je X (Bb fa fb)):=PE.imp (MX GO ha hb) λσ H Q hh_=>by
 obtain⟨Z,O,E,hq⟩:=hh_;refine⟨Z,O,E,?_⟩
 unfold Bb at hq;refine Post.mono hq.bind λl1 H1 s1 q1 p1 a1 n1 d1 w1 e1 r1=>⟨Z,O,E.same s1,Post.mono (Post.bind q1) λl2 H2 s2 q2 p2 a2 n2 d2 w2 e2 r2=>?_⟩
 by_cases hl:l1.length+l2.length<=ZI
 ·rw[if_pos hl]at q2
  refine⟨p1,p2,_,_,rfl,rfl,s2 _ _ e1,e2,by rw[Py,Py,r1.OP,r2.OP];exact hl,λp hp=>?_⟩
  have in1:∀b∈a1,∃vs,H1 b=ZA (.lst vs):=r1.mtb
  have hd:∀b∈a1,b∉a2:=λb h1 h2=>by
   obtain⟨vs,e⟩:=in1 b h1;rw[(w2 b (.inr h2)).1]at e;cases e
  have sp:=aW hp.1 (.lst ((a1++a2).map V.ref));rw[<-Q6];refine q2 _ sp p (a1++a2) (λz=>?_) (Qs.mpr ⟨d1,d2,λb h1 c h2 e=>hd b h1 (e▸h2)⟩) (λb z=>?_) aL (((r1.same s2).cat (r2.less (wj s1))).same sp)
  ·rcases PZ.mp z with z|z
   ·obtain⟨vs,e⟩:=in1 p z
    have:=hp.1;rw[s2 _ _ e]at this;cases this
   ·obtain⟨vs,e⟩:=r2.mtb p z
    rw[hp.1]at e;cases e
  ·rcases z with z|z
   ·exact z▸dF s1 (dF s2 hp)
   ·rcases PZ.mp z with z|z
    ·exact w1 b (.inr z)
    ·exact dF s1 (w2 b (.inr z))
 ·rw[if_neg hl]at q2;exact q2.elim
def Nb{N':List Str}{src:List (Option Nat)}
  (hc:X.calm=ZC) (S:LcScope X scope N' src) (hi:BH X tg iter fi)
  (block:∀cl C s₀ H₀ fp,Fo (bx X scope cl N' C s₀ H₀ fp) tg tgt/\cg (bx X scope cl N' C s₀ H₀ fp) elt fe)
  (hs:autoParam (∀x,Qp iter X.env x=pure x) t_):
  PE X (.ListComp elt [⟨tg,iter,[],0⟩] scope pos) (Je X (Kw fi src tgt fe)):=by
 have hPG:∀cl C s₀ H₀ fp,PG (bx X scope cl N' C s₀ H₀ fp) tg (BN X tgt):=λcl C s₀ H₀ fp=>(block cl C s₀ H₀ fp).1
 have hPE:∀cl C s₀ H₀ fp,PE (bx X scope cl N' C s₀ H₀ fp) elt (tNewE0 X.K fe):=λcl C s₀ H₀ fp kt s σ H Q I h=>x6 (block cl C s₀ H₀ fp).2 kt s σ H Q I (tNewE0.up (X:=bx X scope cl N' C s₀ H₀ fp) h)
 refine PE.imp (zB (g:=BN X tgt) (tc:=Cc) (te:=tNewE0 X.K fe) hc S hi (λcl C s₀ H₀ fp=>⟨hPG cl C s₀ H₀ fp,zw,hPE cl C s₀ H₀ fp⟩) hs) λσ H Q ⟨Z,O,E,hq⟩=>?_
 unfold Kw at hq;refine⟨Z,O,E,Post.mono hq.bind λts H1 s1 q1 J hJ D hD hK=>?_⟩
 have E1:=E.same s1
 by_cases hz:ts.length<=ZI
 ·rw[if_pos hz]at q1
  cases hall:iN tgt fe ts (bN src Z)with
  |bad=>rw[hall]at q1;exact q1.elim
  |err c=>rw[hall]at q1;exact q1.elim
  |ok all=>
   rw[hall]at q1
   have nD:Nw X.K H1 D:=⟨hD,hK⟩
   let O':Ow:=λa=>O a\/a=D
   let L:Ow:=λa=>yr O H a\/a=D
   have subO:∀a,O' a->O a\/Nw X.K H1 a:=λa z=>z.elim .inl λw=>.inr (w▸nD)
   refine⟨λi m σ' ys H'=>m=ts.length - i/\i<=ts.length/\ys.length=i/\H' D=ZA (.lst ys)/\SameO (λa=>a=D) (upd H1 D (.lst [])) H' ∧
    ∃Z' as yts zs,ys=as.map V.ref/\as.Nodup/\D∉as/\(∀b∈as,Nw X.K H1 b)/\EnvM X.K O' noM H' Z' σ'/\LsR X.K L H' yts as/\iN tgt fe (ts.drop i) Z'=.ok zs/\yts++zs=all,⟨ts.length,?_⟩,?_⟩
   ·have sN:Same H1 (upd H1 D (.lst [])):=aW hD _
    refine⟨by omega,QQ _,rfl,aL,λb o e _=>e,bN src Z,[],[],all,rfl,RE,(λz=>nomatch z),(λb z=>nomatch z),?_,rfl,by simpa using hall,rfl⟩
    have E2:EnvM X.K O noM H1 (bN src Z) (fD src σ):=wz E1 src
    exact E2.move (P:=λa=>a=D) (λa z=>.inr (z▸nD)) subO (λb o e _=>sN b o e) λa z=>by
     rcases z with z|z
     ·exact(E1.mtb a z).same sN
     ·rw[z];exact .inl ⟨_,aL⟩
   ·rintro i m σ' ys H' ⟨rfl,hi',hyl,hDl,hsm,Z',as,yts,zs,rfl,nd,nDa,na,E',ry,hl,hyz⟩
    refine⟨hDl,?_⟩
    have sm1:SameO (λa=>a=D) H1 H':=λb o e nb=>hsm b o (by rw[aH nb];exact e) nb
    have it:=hJ (λa=>a=D) O' (λa z=>.inr (z▸nD)) subO i H' sm1 (λa z=>(E'.trk a z).some)
    by_cases hlt:i<ts.length
    ·refine .inr ?_
     have hti:ts[i]?=ZA ts[i]:=by simp
     obtain⟨go,yl⟩:=it.2 ts[i] hti;refine⟨go,by omega,λxx Hc y=>?_⟩
     obtain⟨sc,rx⟩:=yl xx Hc y
     have Ec:=E'.same sc;rw[Rh hlt]at hl;unfold iN at hl;refine⟨Z',O',noM,ts[i],Ec,rx,?_⟩
     cases e1:tgt ts[i] Z' with
     |bad=>rw[e1]at hl;cases hl
     |err cc=>rw[e1]at hl;cases hl
     |ok Z1=>
      rw[e1,ax]at hl;intro σ1 Eg;unfold Cc
      dsimp only
      rw[if_pos rfl];refine⟨Z1,O',⟨noM,Eg⟩,?_⟩
      cases e3:fe (strip Z1)with
      |bad=>rw[e3]at hl;cases hl
      |err cc=>rw[e3]at hl;cases hl
      |ok yt=>
       rw[e3,ax]at hl
       cases yt with
       |lst l=>
        dsimp only at hl
        cases e4:iN tgt fe (ts.drop (i+1)) Z1 with
        |bad=>rw[e4]at hl;cases hl
        |err cc=>rw[e4]at hl;cases hl
        |ok zs'=>
         rw[e4,ax]at hl
         have hzs:l::zs'=zs:=by injection hl
         intro H4 s4 a ws nwa ea ra
         have Dc:Hc D=ZA (.lst (as.map V.ref)):=sc _ _ hDl
         have D4:H4 D=ZA (.lst (as.map V.ref)):=s4 _ _ Dc
         have E4:=Eg.same s4
         have tot4:Same H' H4:=sc.trans s4
         have haD:a≠D:=λz=>by rw[z]at nwa;rw[nwa.1]at Dc;cases Dc
         have haas:a∉as:=λz=>by
          obtain⟨vs,e⟩:=ry.mtb a z
          have:=nwa.1;rw[sc _ _ e]at this;cases this
         have smc:SameO (λa=>a=D) H1 Hc:=λb o e nb=>sc _ _ (sm1 b o e nb)
         have smD:SameO (λa=>a=D) H4 (upd H4 D (.lst (as.map V.ref++[.ref a]))):=λb o e nb=>by rw[aH nb];exact e
         have inO:∀a,a=D->O' a\/Nw X.K H4 a:=λa z=>.inl (.inr z)
         have inL:∀a,a=D->L a\/Nw X.K H4 a:=λa z=>.inl (.inr z)
         have LsubL:∀b,L b->yr O' Hc b:=λb z=>z.elim (λz=>z.elim (λw=>.inl (.inl w)) λ⟨xs,e⟩=>.inr ⟨xs,smc b _ (s1 _ _ e) λw=>by rw[w]at e;rw[s1 _ _ e]at hD;cases hD⟩) λz=>.inl (.inr z)
         refine⟨D4,ts.length - (i+1),by omega,rfl,hlt,by rw[PK,hyl];rfl,aL,λb o e nb=>smD b o (tot4 _ _ (hsm b o e nb)) nb,Z1,as++[a],yts++[l],zs',by rw[Q6];rfl,Qs.mpr ⟨nd,by simp,λd hd e he=>by rw[PL.mp he];exact λz=>haas (z▸hd)⟩,λz=>(PZ.mp z).elim nDa λz=>haD (PL.mp z).symm,λb z=>?_,?_,?_,e4,?_⟩
         ·rcases PZ.mp z with z|z
          ·exact na b z
          ·rw[PL.mp z]
           exact(fz smc nwa).elim (λw=>(haD w).elim) id
         ·exact E4.move inO (λa z=>.inl z) smD λaa z=>by
           by_cases hz:aa=D
           ·rw[hz];exact .inl ⟨_,aL⟩
           ·unfold Mtb;rw[aH hz];exact E4.trk aa z
         ·have r1:LsR X.K L H4 (yts++[l]) (as++[a]):=LsR.snoc ea (ra.less LsubL) (ry.same tot4)
          exact r1.move inL (λa z=>.inl z) smD λb hb=>(PZ.mp hb).elim (λz w=>nDa (w▸z)) λz w=>haD (by rw[<-PL.mp z];exact w)
         ·rw[Qy,Vo,hzs];exact hyz
       |_=>cases hl
    ·refine .inl ⟨it.1 (by omega),?_⟩
     have hi2:i=ts.length:=by omega
     subst hi2;rw[T3]at hl
     have hzs:zs=[]:=by unfold iN at hl;injection hl with hl;exact hl.symm
     subst hzs;rw[Ql]at hyz;subst hyz
     have sF:Same H1 H':=λb o e=>sm1 b o e λz=>by rw[z,hD]at e;cases e
     exact q1 H' sF D as nDa nd (λb z=>z.elim (λz=>z▸dF s1 nD) λz=>dF s1 (na b z)) hDl (ry.less λb z=>.inl z)
 ·rw[if_neg hz]at q1
  exact q1.elim
def Ct(i:Nat)(hN:X.N.Nodup)(he:PE X e (Je X f))(hi:autoParam (X.N[i]?=ZA x) u_)(hx:autoParam (Loc X.env.scope x) y_)(hs:autoParam (Qt e (ZA (.Name x p3)) pos.line X.env=pure ZD) u_)
  (hf:autoParam (X.fn x=ZC\/X.env.scope.names.lookup x=ZA .local) r_):mh X (.Assign [.Name x p3] e pos) (mq i f):=PS.imp (pq hN hi hx he hs hf) λD σ H hh_=>by
 obtain⟨Z,B,M,E,h⟩:=hh_;refine⟨Z,OO B M,E.o,?_⟩
 unfold mq at h
 cases q:f Z with
 |bad=>rw[q]at h;exact h.elim
 |err c=>rw[q]at h;exact PostF.xa h
 |ok ls=>
  rw[q,ax]at h
  by_cases hl:i<Z.length/\ls.all noLs=ZC
  ·rw[if_pos hl]at h
   intro H1 s1 p as hpas nd na ep r
   have hm:∀b,(b=p\/b∈as)->Nw X.K H b:=na
   have hO:∀b xs,H1 b=ZA (.tup xs)->¬ yr (OO B M) H b->¬ OO B (M.set i λb=>b=p\/b∈as) b:=λb xs eb n z=>z.elim (λw=>n (.inl (.inl w))) λw=>(Mn.FM w).elim (λy=>by
    rcases y with rfl|y
    ·rw[ep]at eb;cases eb
    ·obtain⟨vs,e⟩:=r.mtb b y
     rw[e]at eb;cases eb) λy=>n (.inl (.inr y))
   obtain⟨E2,sub⟩:=E.new (m:=λb=>b=p\/b∈as) (o:=.ll ls) (v:=.ref p) (H':=H1) hl.1 hm s1 ⟨p,as,rfl,λb=>SC,hpas,nd,ep,LsR.Oz hO hl.2 r⟩
   exact h _ _ _ (SameO.of s1) E2 sub
  ·rw[if_neg hl]at h;exact h.elim
def wm(i:Nat)(Z:En):Rs T:=match Z[i]? with
 |some (.ow (.lst l))=>.ok (.lst l)
 |_=>.bad
def rg(j:Nat)(F:Y1):List (List T)->Y1
 |[],Z=>.ok (.nx Z)
 |l::r,Z=>F (Z.set j (.ow (.lst l))) >>= λf=>match f with
  |.nx Z2=>rg j F r (Z2.set j .em)
  |_=>.bad
def kR(i j:Nat)(F:Y1)(Z:En):Rs Fl:=match Z[i]? with
 |some (.ow (.ll ls))=>(match rg j F ls (Z.set i .em)with|.ok f=>.ok f|_=>.bad)
 |_=>.bad
variable{vs:List V}
section
variable {B':Ow}
def ORep.OR{o:OT}(s:∀a,O' a->O a)(r:ORep K O m H o v):ORep K O' m H o v:=r.move (P:=kI) (λ_ z=>z.elim) (λa z=>.inl (s a z)) (λb u q _=>q) λ_ _ z=>z
def Ev.Pf(E:Ev K B M H Z σ)(sub:∀a,B' a->B a):Ev K B' M H Z σ:=by
 have hs:∀a,OO B' M a->OO B M a:=λa z=>z.imp_left (sub a)
 exact⟨⟨E.env.len,λk t e=>let ⟨v,e1,e2⟩:=E.env.val k t e;⟨v,e1,e2.less hs⟩,λk o e=>let ⟨v,e1,e2⟩:=E.env.own k o e;⟨v,e1,e2.OR hs⟩,λk a z=>.inr ⟨k,z⟩,E.env.dis,λa z=>E.env.trk a (hs a z)⟩,λa z w=>E.mine a z (sub a w)⟩
variable{a:ZE}
def Mn.OF(h:M.set j m i a):(i=j/\m a)\/(i≠j/\M i a):=by
 unfold Mn.set at h
 split at h
 ·rename_i e;exact .inl ⟨e,h⟩
 ·rename_i e;exact .inr ⟨e,h⟩
def Ev.gv(E:Ev K B M H Z σ)(j:Nat)(sub:∀a,B' a->OO B M a)(mine:∀k a,k≠j->M k a->¬ B' a):Ev K B' (M.set j kI) H (Z.set j .em) σ:=by
 have hs:∀a,OO B' (M.set j kI) a->OO B M a:=λa z=>z.elim (sub a) λw=>(Mn.FM w).elim Rf .inr
 refine⟨⟨by rw[Qr];exact E.env.len,λk t e=>?_,λk o e=>?_,λk a z=>.inr ⟨k,z⟩,λk k' a z1 z2=>?_,λa z=>E.env.trk a (hs a z)⟩,λa ⟨k,z⟩=>?_⟩
 ·by_cases hk:j=k
  ·subst hk
   have hl:=(PM.mp e).1
   rw[Qr]at hl;rw[P4 hl]at e;cases e
  ·rw[P3 hk]at e
   obtain⟨v,e1,e2⟩:=E.env.val k t e;exact⟨v,e1,e2.less hs⟩
 ·by_cases hk:j=k
  ·subst hk
   have hl:=(PM.mp e).1
   rw[Qr]at hl;rw[P4 hl]at e;cases e
  ·rw[P3 hk]at e
   obtain⟨v,e1,e2⟩:=E.env.own k o e;exact⟨v,e1,by rw[Mn.Os (λz=>hk z.symm)];exact e2.OR hs⟩
 ·rcases Mn.OF z1 with⟨_,w⟩|⟨_,w⟩
  ·exact w.elim
  ·rcases Mn.OF z2 with⟨_,w'⟩|⟨_,w'⟩
   ·exact w'.elim
   ·exact E.env.dis k k' a w w'
 ·rcases Mn.OF z with⟨_,w⟩|⟨hk,w⟩
  ·exact w.elim
  ·exact mine k a hk w
def Ev.tk(E:Ev K B M H Z σ)(j:Nat)(sub:∀c,B' c->B c)(ha:B a)(ha':¬ B' a)(ea:H a=ZA (.lst vs))(r:Reps K (OO B M) H l vs):Ev K B' (M.set j λc=>c=a) H (Z.set j (.ow (.lst l))) (σ.set j (ZA (.ref a))):=by
 have hs:∀c,OO B' (M.set j λc=>c=a) c->OO B M c:=λc z=>z.elim (λw=>.inl (sub c w)) λw=>(Mn.FM w).elim (λw=>.inl (w▸ha)) .inr
 have no:∀k,¬M k a:=λk z=>E.mine a ⟨k,z⟩ ha
 refine⟨⟨by rw[Qr,Qr];exact E.env.len,λk t e=>?_,λk o e=>?_,λk a z=>.inr ⟨k,z⟩,λk k' c z1 z2=>?_,λc z=>E.env.trk c (hs c z)⟩,λc ⟨k,z⟩=>?_⟩
 ·by_cases hk:j=k
  ·subst hk
   have hl:=(PM.mp e).1
   rw[Qr]at hl;rw[P4 hl]at e;cases e
  ·rw[P3 hk]at e ⊢
   obtain⟨v,e1,e2⟩:=E.env.val k t e;exact⟨v,e1,e2.less hs⟩
 ·by_cases hk:j=k
  ·subst hk
   have hl:=(PM.mp e).1
   rw[Qr]at hl;rw[P4 hl]at e
   cases e;rw[E.env.len]at hl;exact⟨.ref a,P4 hl,by rw[Mn.KF];exact⟨a,vs,rfl,λ_=>SC,ea,r.less hs⟩⟩
  ·rw[P3 hk]at e ⊢
   obtain⟨v,e1,e2⟩:=E.env.own k o e;exact⟨v,e1,by rw[Mn.Os (λz=>hk z.symm)];exact e2.OR hs⟩
 ·rcases Mn.OF z1 with⟨h1,w⟩|⟨h1,w⟩
  ·rcases Mn.OF z2 with⟨h2,w'⟩|⟨h2,w'⟩
   ·exact h1.trans h2.symm
   ·exact(no k' (w▸w')).elim
  ·rcases Mn.OF z2 with⟨h2,w'⟩|⟨h2,w'⟩
   ·exact(no k (w'▸w)).elim
   ·exact E.env.dis k k' c w w'
 ·rcases Mn.OF z with⟨_,w⟩|⟨hk,w⟩
  ·exact w▸ha'
  ·exact λy=>E.mine c ⟨k,w⟩ (sub c y)
end
variable{body:List ZF}{y:Str}
section
variable {p2 py px:Pos}
def Gn(i:Nat)(hm:X.mg "list" =ZB)(hN:autoParam (X.N[i]?=ZA x) u_)(hv:autoParam (jk X.env.scope x) v_)(hd:autoParam ((x == ("__debug__" : Str))=ZD) s_)(hcd:autoParam ((x == ("__classdict__" : Str))=ZD) s_)(hg:autoParam (Gl X "list") u_):cg X (.Call (.Name "list" p) [.Name x p2] [] pos) (wm i):=by
 have h1:PR [.Name x p2] X.env=(ZD,eval (.Name x p2) X.env)::PR [] X.env:=aU rfl;refine PE.imp (AZ xm hg hm (show Qw "list" =ZA (.type "list")by decide+kernel) (cS (dt hN hv hd hcd) fM h1) (by decide) (by decide) h1 rfl) λσ H Q ⟨Z,O,⟨M,E⟩,hq⟩=>?_
 unfold wm at hq
 split at hq
 ·rename_i l hl
  obtain⟨v0,e1,b,vs,rfl,hM,e3,e4⟩:=E.own i _ hl;refine⟨.ref b,e1,b,vs,rfl,SqL.of e3,λp hp=>hq _ (aW hp.1 _) _ (Rep.Do.mpr ⟨p,vs,rfl,λz=>?_,aL,e4.same (aW hp.1 _)⟩)⟩
  obtain⟨o,e⟩:=(E.trk p z).some;rw[hp.1]at e;cases e
 ·exact hq.elim
def Cu(i j:Nat){F:Y1}(hc:X.calm=ZC)(hNd:X.N.Nodup)(hb:mf X.nox body F)(hi:autoParam (X.N[i]?=ZA x) u_)(hj:autoParam (X.N[j]?=ZA y) u_)(hv:autoParam (jk X.env.scope x) v_)(hx:autoParam (Loc X.env.scope y) y_)
  (hd:autoParam ((x == ("__debug__" : Str))=ZD) s_) (hcd:autoParam ((x == ("__classdict__" : Str))=ZD) s_) (hf:autoParam (X.fn y=ZC\/X.env.scope.names.lookup y=ZA .local) r_) (hs:autoParam (∀z,Qp (.Name x px) X.env z=pure z) t_):
  mh X (.For (.Name y py) (.Name x px) body [] pos) (kR i j F):=PS.imp (zu hc (zx (dt hi hv hd hcd)) (zy (X:=X.nox) hNd hj hx hf) hb hs) λD σ H hh_=>by
 obtain⟨Z,B,M,E,h⟩:=hh_;unfold kR at h
 split at h
 ·rename_i ls hl
  cases hall:rg j F ls (Z.set i .em)with
  |bad=>rw[hall]at h;exact h.elim
  |err c=>rw[hall]at h;exact h.elim
  |ok fin=>
   rw[hall]at h;obtain⟨v0,e1,b,as,rfl,hM,hba,nd,e3,e4⟩:=E.env.own i _ hl
   have hal:as.length=ls.length:=e4.OP
   have nB:∀a,(a=b\/a∈as)->¬ B a:=λa z=>E.mine a ⟨i,(hM a).mpr z⟩
   refine⟨.ref b,e1,b,rfl,⟨_,SqL.of e3⟩,λk m σ' H'=>m=ls.length - k/\k<=ls.length/\SameO M.u H H'/\H' b=ZA (.lst (as.map V.ref))/\∃Z' M',Ev X.K (λa=>B a\/a=b\/a∈as.drop k) M' H' Z' σ'/\(∀a,M'.u a->M.u a\/Nw X.K H a)/\LsR X.K (OO (λa=>B a\/a=b\/a∈as.drop k) M') H' (ls.drop k) (as.drop k)/\rg j F (ls.drop k) Z'=.ok fin,⟨ls.length,?_⟩,?_⟩
   ·have sB:∀a,(B a\/a=b\/a∈as.drop 0)->OO B M a:=λa z=>z.elim .inl λz=>.inr ⟨i,(hM a).mpr (by simpa using z)⟩
    refine⟨by omega,QQ _,λ_ _ e _=>e,e3,Z.set i .em,M.set i kI,E.gv i sB λk a hk z w=>w.elim (E.mine a ⟨k,z⟩) λw=>hk (E.env.dis k i a z ((hM a).mpr (by simpa using w))),λa z=>(Mn.FM z).elim Rf .inl,?_,by simpa using hall⟩
    exact e4.less λa z=>z.elim (sB a) λw=>(Mn.FM w).elim Rf .inr
   ·rintro k m σ' H' ⟨rfl,hk',sm,hb',Z',M',E',ow,rl,hl'⟩
    by_cases hlt:k<ls.length
    ·have hka:k<as.length:=by omega
     refine .inr ⟨⟨_,.ref as[k],SqL.of hb',by simp⟩,λσ2 H2=>∃m',m'<ls.length - k/\(m'=ls.length - (k+1)/\k+1<=ls.length/\SameO M.u H H2/\H2 b=ZA (.lst (as.map V.ref))/\∃Z' M',Ev X.K (λa=>B a\/a=b\/a∈as.drop (k+1)) M' H2 Z' σ2/\(∀a,M'.u a->M.u a\/Nw X.K H a)/\LsR X.K (OO (λa=>B a\/a=b\/a∈as.drop (k+1)) M') H2 (ls.drop (k+1)) (as.drop (k+1))/\rg j F (ls.drop (k+1)) Z'=.ok fin),λσ2 H2 z=>z,λxv Hc ⟨ec,yv⟩=>?_⟩
     subst ec
     have hx:=yv _ (SqL.of hb');rw[P9,P5 hka]at hx
     cases hx
     have dk:as.drop k=as[k] ::as.drop (k+1):=Rh hka
     have hin:as[k] ∈as.drop k:=by rw[dk];exact PB
     have hsub:∀a,(B a\/a=b\/a∈as.drop (k+1))->(B a\/a=b\/a∈as.drop k):=λa z=>z.imp_right λz=>z.imp_right λz=>by rw[dk];exact Pw _ z
     have rl0:=rl;rw[Rh hlt]at rl hl';obtain⟨a,bs,vs,e,ea,ra,rr⟩:=rl;rw[dk]at e;injection e with ea1 eb1
     subst ea1;subst eb1
     have hnk:¬ (B as[k]\/as[k]=b\/as[k] ∈as.drop (k+1)):=λz=>z.elim (nB _ (.inr (QU hka))) λz=>z.elim (λz=>hba (z▸QU hka)) λz=>by
      have n1:(as.drop k).Nodup:=nd.sublist (WN _ _);rw[dk]at n1;exact(Qh.mp n1).1 z
     have E2:=E'.tk (B':=λa=>B a\/a=b\/a∈as.drop (k+1)) j hsub (.inr (.inr hin)) hnk ea ra
     refine⟨_,_,_,E2,?_⟩
     unfold rg at hl'
     have hP:∀a,(M'.set j λc=>c=as[k]).u a->OO (λa=>B a\/a=b\/a∈as.drop k) M' a:=λa z=>(Mn.FM z).elim (λz=>.inl (.inr (.inr (by rw[z];exact hin)))) .inr
     have hPu:∀a,(M'.set j λc=>c=as[k]).u a->M.u a\/Nw X.K H a:=λa z=>(Mn.FM z).elim (λz=>.inl ⟨i,(hM a).mpr (.inr (by rw[z];exact QU hka))⟩) (ow a)
     cases e2:F (Z'.set j (.ow (.lst ls[k])))with
     |bad=>rw[e2]at hl';cases hl'
     |err cc=>rw[e2]at hl';cases hl'
     |ok f=>
      rw[e2,ax]at hl'
      cases f with
      |nx Z2=>
       intro σ3 H3 M3 s3 E3 o3;refine⟨_,by omega,rfl,hlt,sm.trans s3 hPu,s3 b _ hb' λz=>E2.mine b z (.inr (.inl rfl)),Z2.set j .em,M3.set j kI,E3.gv j (λa z=>.inl z) λk' a _ z=>E3.mine a ⟨k',z⟩,λa z=>(Mn.FM z).elim Rf λz=>(o3 a z).elim (hPu a) (fz sm),?_,hl'⟩
       exact rr.move (P:=(M'.set j λc=>c=as[k]).u) (λa z=>.inl (hP a z)) (λa z=>z.elim (λw=>.inl (.inl (hsub a w))) λw=>(Mn.FM w).elim Rf λw=>(o3 a w).imp_left (hP a)) s3 λa ha z=>E2.mine a z (.inr (.inr ha))
      |ct Z2=>cases hl'
      |bk Z2=>cases hl'
      |rt t=>cases hl'
    ·refine .inl ⟨⟨_,SqL.of hb',by rw[Py];omega⟩,?_⟩
     have hk2:k=ls.length:=by omega
     subst hk2;rw[T3]at hl';cases hl';exact h σ' H' M' sm (E'.Pf λa z=>.inl z) ow
 ·exact h.elim
end
def RzK(X:Cx)(kt:Uf)(σ:L2.St)(H:Hp)(c:Str)(ev:Px)(s':Pz):Prop:=
 ∃e T C H',ev=.ref e/\X.mg c=ZA (.ref C)/\Inv X kt σ H' s'/\Same H H'/\H' e=ZB/\(X.ex=[]->X.s₀.heap.get? e=ZB)/\LW s'.heap C e T/\(∀t,T=ZA t->H' t=ZB/\(X.ex=[]->X.s₀.heap.get? t=ZB))/\∀p∈X.pn++kt,p.1≠e/\T≠ZA p.1
def XAk(X:Cx)(σ:L2.St)(H:Hp)(c:Str):Prop:=∀kt ev s',RzK X kt σ H c ev s'->X.xe ev s'
variable{c:Str}
def XAk.later{H1:Hp}(h:XAk X σ H c)(s:Same H H1):XAk X σ H1 c:=λkt ev s' ⟨e,T,C,H',a1,a2,a3,a4,a5⟩=>h kt ev s' ⟨e,T,C,H',a1,a2,a3,s.trans a4,a5⟩
def tEK(X:Cx)(f:Y2):TE:=λσ H _=>∃Z O c,EnvO X.K O H Z σ/\f Z=.err c/\XAk X σ H c
abbrev Om(X:Cx)(e:ZG)(f:Y2):Prop:=PE X e (tEK X f)
def Km:List T->Option (List (List T))
 |[] =>ZA []
 |.lst l::r=>(Km r).map (l:: ·)
 |_=>ZB
def hY(i:Nat)(c m:Str)(g:List Sl->Rs (T×OT))(fs:Y0)(Z:En):Rs T:=match Z[i]? with
 |some (.va (.ob c' ns ts))=>(match Km ts,fs Z with
  |some ls,.ok as=>if (c'=c/\ns.contains m=ZD)/\ls.all noLs=ZC/\noLs as=ZC then(match g (.ow (.ob c' ns ls)::as.map Sl.va)with
   |.err d=>.err d
   |_=>.bad)else .bad
  |_,_=>.bad)
 |_=>.bad
variable{g:List Sl->Rs (T×OT)}
def rF{m d:Str}{fs:Y0}(h:hY i c m g fs Z=.err d):∃c' ns ts ls as,Z[i]?=ZA (.va (.ob c' ns ts))/\Km ts=ZA ls/\fs Z=.ok as/\c'=c/\ns.contains m=ZD/\ls.all noLs=ZC/\noLs as=ZC/\g (.ow (.ob c' ns ls)::as.map Sl.va)=.err d:=by
 unfold hY at h
 split at h
 ·rename_i c' ns ts hi
  split at h
  ·rename_i ls as h1 h2
   split at h
   ·rename_i hc
    split at h
    ·rename_i e hg
     cases h;exact⟨c',ns,ts,ls,as,hi,h1,h2,hc.1.1,hc.1.2,hc.2.1,hc.2.2,hg⟩
    ·cases h
   ·cases h
  ·cases h
 ·cases h
theorem zL:∀{l:List T}{k:Nat}{t:T},noLs l=ZC->l[k]?=ZA t->noL t=ZC
 |[],_,_,_,e=>by cases e
 |x::l,k,t,h,e=>by
  unfold noLs at h;rw[PC]at h
  cases k with
  |zero=>cases e;exact h.1
  |succ k=>exact zL h.2 e
theorem C5:∀{ts:List T}{ls:List (List T)}{as:List ZE},Km ts=ZA ls->Reps K O H ts (as.map V.ref)->LsR K O H ls as/\∀b∈as,¬O b
 |[],ls,as,h,r=>by
  cases h
  have:=Reps.Da.mp r;rw[List.map_eq_nil_iff]at this;subst this
  exact⟨rfl,λb hb=>nomatch hb⟩
 |.lst l::ts,ls,as,h,r=>by
  obtain⟨v,ws,e,r1,r2⟩:=Reps.me.mp r;unfold Km at h;obtain⟨ls',h1,h2⟩:=RY.mp h;subst h2
  cases as with
  |nil=>cases e
  |cons a as=>
   cases e;obtain⟨a',vs,e1,n,e2,e3⟩:=Rep.Do.mp r1;cases e1;obtain⟨g1,g2⟩:=C5 h1 r2
   exact⟨⟨a,as,vs,rfl,e2,e3,g1⟩,λb hb=>(PJ.mp hb).elim (λz=>z▸n) (g2 b)⟩
 |.non::_,_,_,h,_|.bl _::_,_,_,h,_|.int _::_,_,_,h,_|.str _::_,_,_,h,_|.tup _::_,_,_,h,_|.scr _::_,_,_,h,_|.dct _ _::_,_,_,h,_|.ob _ _ _::_,_,_,h,_=>by cases h
def IE{C:Str}{ns:List Str}{ts as:List T}{ls:List (List T)}(E:EnvO K O H Z σ)(r:Rep K O H (.ob C ns ts) v)(hl:Km ts=ZA ls)(hn:ls.all noLs=ZC)(ra:Reps K O H as vs)(ha:noLs as=ZC):
  ∃m,Ev K O (one 0 m) H (.ow (.ob C ns ls)::as.map Sl.va) ((v::vs).map ZA):=by
 obtain⟨a,dx,fs,rfl,⟨⟨n1,n2,n3⟩,bs,b1,b2,b3,b4,b5,b6⟩,e3,e4,e5⟩:=Rep.Oq.mp r;rw[b1]at e5;obtain⟨rl,nb⟩:=C5 hl e5
 have hfs:fs=ns.zip (bs.map V.ref):=by rw[<-e4,<-b1];clear e3 e5 b1 e4 b6;induction fs with
  |nil=>rfl
  |cons x fs ih=>rw[PF,PF,UK,<-ih]
 have hlen:ns.length=bs.length:=by rw[<-e4,Py,<-Py (f:=(·.2)),b1,Py]
 refine⟨λb=>b=a\/b=dx\/b∈bs,?_⟩
 have notT:∀b xs,H b=ZA (.tup xs)->¬ O b->¬ BM O (λb=>b=a\/b=dx\/b∈bs) b:=λb xs eb nO z=>z.elim nO λz=>by
  rcases z with rfl|rfl|z
  ·rw[e3]at eb;cases eb
  ·rw[n3]at eb;cases eb
  ·obtain⟨ws,e⟩:=rl.mtb b z
   rw[e]at eb;cases eb
 refine Ev.one (B':=kI) (o:=.ob C ns ls) (by rw[PH,Py,Py,PH,ra.length]) (λk t e=>?_) (λk o' e=>?_) (λb z=>?_) λb z y=>?_
 ·obtain⟨w,e1,e2⟩:=yL (v0:=.ref a) ra e
  have hk:noL t=ZC:=by
   cases k with
   |zero=>cases e
   |succ k=>
    rw[Rc,P9]at e
    cases q:as[k]? with
    |none=>rw[q]at e;cases e
    |some u=>
     rw[q]at e;cases e;exact zL ha q
  exact⟨w,by rw[P9,e1];rfl,Rep.Oz notT hk e2⟩
 ·have hk:=yM e
  subst hk;cases e;exact⟨rfl,.ref a,rfl,a,dx,bs,rfl,λ_=>SC,⟨b2,b3,b4,b5⟩,by rw[<-hfs];exact e3,n3,hlen,e4▸b6,LsR.Oz notT hn rl⟩
 ·rcases z with z|rfl|rfl|z
  ·exact E.mtb b z
  ·exact .inr (.inr ⟨_,e3,rfl⟩)
  ·exact .inr (.inr ⟨_,n3,rfl⟩)
  ·exact .inl (rl.mtb b z)
 ·rcases z with rfl|rfl|z
  ·exact n1 y
  ·exact n2 y
  ·exact nb b z y
variable{ps:List Str}
section
variable {f:ZE}{kt:Uf}{sls:List Sl}
def HZ(F:E6 X.prog X.w X.K X.mg X.base k f fd ps n j g)(hr:Room k X.A)(hb:Binds X.K fd ps [])(hps:ps.length=n)(I:Inv X kt σ H s)(r:Vals vs us)(Ea:Ev X.K B (one j m) H sls (vs.map ZA))(hl:sls.length=n)(q2:g sls=.err c)(hq:XAk X σ H c):ZJ (ZK X.prog X.w) X.A (call (.ref f) us) (EP X kt σ Q) X.xe s:=by
 have hlen:us.length=ps.length:=by rw[<-r.length,hps,<-hl,Ea.env.len,Py]
 have hb':=hb s us I.kIn (by rw[Ql];exact hlen)
 rw[Ql]at hb';refine U0 (SN (F.x X.A X.stack s H ⟨us,[]⟩ us vs B m sls c (λr s'=>match r with|.error ev=>X.xe ev s'|_=>False) hr I.OQ hb' r Ea hl q2 λev s' w=>?_) λr s' hq=>?_)
 ·obtain⟨ea,T,C,H',rfl,hmc,ho,hbare,hun,hok,sm2,hea,heo,fl,hT,hTo⟩:=w
  have I2:Inv X kt σ H' s':=I.OJ ho hun hok hbare (λb z=>absurd z (by simp))
  exact hq kt _ _ ⟨ea,ZA T,C,H',rfl,hmc,I2,sm2,hea,λhex=>fm I hex heo,fl,(λt zt=>by cases zt;exact⟨hT,λhex=>fm I hex hTo⟩),λpp hpp=>⟨λzz=>(by have:=(I.pin pp hpp).1;rw[zz,heo]at this;cases this),λzz=>(by cases zz;have:=(I.pin pp hpp).1;rw[hTo]at this;cases this)⟩⟩
 ·cases r with
  |error ev=>exact hq
  |ok fl=>exact hq.elim
end
section
variable {fs:Y0}{p2:Pos}{m:Str}{f:ZE}
def Ja{pl:Sem Bool}(i:Nat)(hc:Cls X.K (bP X.K c))(hm:uZ X.K (bP X.K c) m f)(F:E6 X.prog X.w X.K X.mg X.base k f fd ps n 0 g)(hr:Room k X.A)(hb:Binds X.K fd ps [])(hps:ps.length=n)(hl:∀Z ts,fs Z=.ok ts->ts.length+1=n)(ha:qz X (e::es) fs)
  (hN:autoParam (X.N[i]?=ZA x) u_) (hv:autoParam (jk X.env.scope x) v_) (hd:autoParam ((x == ("__debug__" : Str))=ZD) s_) (hcd:autoParam ((x == ("__classdict__" : Str))=ZD) s_)
  (hst:autoParam (PR (e::es) X.env=(ZD,eval e X.env)::PR es X.env) u_) (hpl:autoParam ((backTo pos (PR es X.env)).any (·.1)=ZD) u_)
  (ht:eval (.Call (.Attribute (.Name x p2) m apos) (e::es) [] pos) X.env=(do
   let ov <-eval (.Name x p2) X.env
   standAt apos.atName
   let (f,first) <-holding [ov] (Tt ov m pl)
   U9 pos f first (backTo pos (PR (e::es) X.env)) (TJ pos (Se [] X.env))):=by rfl):
  Om X (.Call (.Attribute (.Name x p2) m apos) (e::es) [] pos) (hY i c m g fs):=by
 intro kt s σ H Q I ⟨Z,O,d,E,hf,hx⟩;obtain⟨c',ns,ts,ls,as,hi,hls,has,h1,h2,h3,h4,hg⟩:=rF hf;subst h1;obtain⟨v0,s0,r⟩:=E.val i _ hi;obtain⟨q,dx,fs',e1,n',e3,e4,e5⟩:=Rep.Oq.mp r;subst e1;refine SG (pl:=pl) (bV (dt (pos:=p2) hN hv hd hcd kt s σ H (λv H'=>v=.ref q/\H'=H) I ⟨_,s0,rfl,rfl⟩) λu s1 ⟨v,H1,I1,rx,ev,eH⟩=>?_) ht
 subst ev eH;obtain rfl:u=.ref q:=rx;refine iP I1 e3 hc hm (lT (by rw[e4];exact h2)) ?_
 refine R3 (first:=[.ref q]) (h₀:=X.base) I.ok.mod.kin hm.kp (bV (ha pos kt s1 σ H1 (λvs H2=>Same H1 H2/\Reps X.K O H2 as vs) I1 ⟨Z,O,E,by rw[has];exact λH' s' vs rs=>⟨s',rs⟩⟩) λus s2 ⟨vs,H2,I2,r2,sm,rs⟩=>⟨I2.kIn,?_⟩) hst hpl
 obtain⟨m',Ea⟩:=IE (E.same sm) (r.same sm) hls h3 rs h4;exact HZ (us:=.ref q::us) (vs:=.ref q::vs) F hr hb hps I2 (.cons rfl r2) Ea (by rw[PH,Py];exact hl Z as has) hg (hx.later sm)
def FG{pl:Sem Bool}(i:Nat)(hc:Cls X.K (bP X.K c))(hm:uZ X.K (bP X.K c) m f)(F:E6 X.prog X.w X.K X.mg X.base k f fd ps 1 0 g)(hr:Room k X.A)(hb:Binds X.K fd ps [])(hps:ps.length=1)
  (hN:autoParam (X.N[i]?=ZA x) u_) (hv:autoParam (jk X.env.scope x) v_) (hd:autoParam ((x == ("__debug__" : Str))=ZD) s_) (hcd:autoParam ((x == ("__classdict__" : Str))=ZD) s_)
  (ht:eval (.Call (.Attribute (.Name x p2) m apos) [] [] pos) X.env=(do
   let ov <-eval (.Name x p2) X.env
   standAt apos.atName
   let (f,first) <-holding [ov] (Tt ov m pl)
   U9 pos f first (backTo pos (PR [] X.env)) (TJ pos (Se [] X.env))):=by rfl):
  Om X (.Call (.Attribute (.Name x p2) m apos) [] [] pos) (hY i c m g ai):=by
 intro kt s σ H Q I ⟨Z,O,d,E,hf,hx⟩;obtain⟨c',ns,ts,ls,as,hi,hls,has,h1,h2,h3,h4,hg⟩:=rF hf;subst h1;obtain⟨v0,s0,r⟩:=E.val i _ hi;obtain⟨q,dx,fs',e1,n',e3,e4,e5⟩:=Rep.Oq.mp r;subst e1;refine SG (pl:=pl) (bV (dt (pos:=p2) hN hv hd hcd kt s σ H (λv H'=>v=.ref q/\H'=H) I ⟨_,s0,rfl,rfl⟩) λu s1 ⟨v,H1,I1,rx,ev,eH⟩=>?_) ht
 subst ev eH;obtain rfl:u=.ref q:=rx;refine iP I1 e3 hc hm (lT (by rw[e4];exact h2)) ?_
 cases has;obtain⟨m',Ea⟩:=IE E r hls h3 Reps.GM h4;exact VY (first:=[.ref q]) I1.kIn hm.kp (HZ (us:=[.ref q]) (vs:=[.ref q]) F hr hb hps I1 (.cons rfl .nil) Ea rfl hg hx)
end
def tSK(X:Cx)(F:Y1):TS:=λ_ σ H=>∃Z O c,EnvO X.K O H Z σ/\F Z=.err c/\XAk X σ H c
abbrev EX(X:Cx)(s:ZF)(F:Y1):Prop:=PS X s (tSK X F)
abbrev BG(X:Cx)(s:List ZF)(F:Y1):Prop:=PSs X s (tSK X F)
def E9(f:Y2)(Z:En):Rs Fl:=f Z >>= λ_=>.bad
def E8(f:Y3)(F G:Y1)(Z:En):Rs Fl:=match f Z with
 |.ok k=>if k then F Z else G Z
 |_=>.bad
def rN(F:Y1)(h:En->Str->Rs T)(Z:En):Rs Fl:=match F Z with
 |.err c=>(match h Z c with
  |.ok t=>.ok (.rt t)
  |_=>.bad)
 |_=>.bad
def yW(X:Cx)(i:Nat)(suite:List ZF)(CE:ZE)(h:En->Str->Rs T):Prop:=
 ∀(c:Str)(C:ZE)(t:T)(Z:En),X.mg c=ZA (.ref C)->h Z c=.ok t->∃bm,OX X.K C bm/\(P7 C::bm).contains (.ref CE)=ZC ∧
  ∀(e:ZE)(oe:Obj)(ev:Array Px),oe.cls=.ref C->oe.data=.fields ev->∀(kt:Uf)(s:Pz)(σ:L2.St)(H:Hp)(O:Ow)(Q:VK),Inv (uQ X e oe) kt σ H s->H e=ZB->e∉oG X.stack->σ[i]?=ZA (ZA (.ref e))->(∀(k:Nat)(n:Int),k≠i->Z[k]?=ZA (.va (.int n))->σ[k]?=ZA (ZA (.int n)))->(∀p,H p=ZB->¬ O p) →
   (∀v H',Same H H'->Rep X.K O H' t v->Q v H')->ZJ (ZK X.prog X.w) (uQ X e oe).A (execs suite X.env) (SP (uQ X e oe) kt {nx:=λ_ _=>False,rt:=Q}) (λ_ _=>False) s
variable{st:ZF}
section
variable {c:ZG}{x:Y2}
def Jm{F:Y1}(h:EX X st F):BG X [st] F:=oo h
def Jn{bM:List ZF}{F:Y1}(h1:EX X st F):BG X (st::bM) F:=PSs.imp (pk h1 (u:=λ_ _ _=>False) λ_ _ _ _ _ _ z=>Rf z) λD σ H h=>h
def Mq(ha:Om X a x)(hs:autoParam (Qt a ZB pos.line X.env=pure ZD) u_):EX X (.Expr a pos) (E9 x):=PS.imp (iH ha hs) λD σ H hh_=>by
 obtain⟨Z,O,c,E,h,hx⟩:=hh_;refine⟨Z,O,c,E,?_,hx⟩
 unfold E9 at h
 cases z:x Z with
 |bad=>rw[z]at h;cases h
 |err c=>rw[z]at h;cases h;rfl
 |ok p=>rw[z]at h;cases h
def Mp{f:Y3}{A C:List ZF}{F G:Y1}(hc:ve X c f)(ha:BG X A F)(hb:BG X C G):EX X (.If c A C pos) (E8 f F G):=PS.imp (CD hc ha hb) λD σ H hh_=>by
 obtain⟨Z,O,d,E,h,hx⟩:=hh_;refine⟨Z,O,E,?_⟩
 unfold E8 at h
 cases q:f Z with
 |bad=>rw[q]at h;cases h
 |err c=>rw[q]at h;cases h
 |ok k=>
  rw[q]at h;intro H' s
  cases k with
  |true=>refine L2.iteT ?_;exact⟨Z,O,d,E.same s,h,hx.later s⟩
  |false=>refine L2.iteF ?_;exact⟨Z,O,d,E.same s,h,hx.later s⟩
end
structure QEK (X:Cx)(e:ZG)(f:Y2):Prop where
 h:Om X e f
structure Oh (X:Cx)(e:ZF)(f:Y1):Prop where
 h:EX X e f
structure EV (X:Cx)(e:List ZF)(f:Y1):Prop where
 h:BG X e f
variable{b0:ZF}{ce n:Str}{h:En->Str->Rs T}{hpos:Pos}{suite:List ZF}
def F5{F:Y1}{CE:ZE}{np:Pos}(hst:X.stack=X.env::X.outer)(hfe:X.env.frame=ZA X.env.locals)(hcl:∀x c,X.env.cells.lookup x≠ZA c)(hex:X.ex=[])
  (hN:X.N.Nodup) (hi:X.N[i]?=ZA n) (hloc:X.env.scope.names.lookup n=ZA .local) (hm:X.mg ce=ZA (.ref CE)) (OE:OX X.K CE bmE)
  (hb:∀pn xe,BG {X with pn:=pn,xe:=xe} body F) (hs:yW X i (b0::suite) CE h) (hg:autoParam (Gl X ce) u_) (hd:autoParam ((ce == ("__debug__" : Str))=ZD) s_):
  mh X (.Try body [.ExceptHandler (ZA (.Name ce np)) (ZA n) (b0::suite) hpos] [] [] pos) (rN F h):=by
 intro kt s σ H D I ⟨Z,B,M,E,hq⟩;refine Xv ?_
 unfold rN at hq
 cases q:F Z with
 |bad=>rw[q]at hq;exact hq.elim
 |ok fl=>rw[q]at hq;exact hq.elim
 |err c=>
  rw[q]at hq
  cases q2:h Z c with
  |bad=>simp only[q2]at hq;exact hq.elim
  |err c'=>simp only[q2]at hq;exact hq.elim
  |ok t=>
   simp only[q2]at hq
   have hq':∀v H',SameO M.u H H'->Rep X.K B H' t v->D.rt v H':=hq;refine Rm (hb (X.pn++kt) _ [] s σ H {nx:=λ_ _=>False,rt:=λ_ _=>False,bk:=λ_ _=>False,ct:=λ_ _=>False} ((Tr.Inv.OZ kt I).FB _) ⟨Z,OO B M,c,E.o,q,?_⟩) (λfl s' z=>?_) λ_ _ z=>z
   rotate_left
   ·cases fl with
    |next=>obtain⟨_,_,_,z⟩:=z;exact z.elim
    |cont=>obtain⟨_,_,_,z⟩:=z;exact z.elim
    |brk=>obtain⟨_,_,_,z⟩:=z;exact z.elim
    |ret v=>obtain⟨_,_,_,_,_,z⟩:=z;exact z.elim
   intro pins1 ev s1 w;obtain⟨e,T,C,H1,rfl,hmc,I1,sm,he,heo,fl,hT,hpp⟩:=w
   have I1:Inv X kt σ H1 s1:=Tr.Inv.O5 (X:=X) I1
   have hpp:∀p∈X.pn++kt,p.1≠e/\T≠ZA p.1:=λp hp=>hpp p (Qb _ hp)
   have heo:=heo hex
   have hT:∀t,T=ZA t->H1 t=ZB/\X.s₀.heap.get? t=ZB:=λt z=>⟨(hT t z).1,(hT t z).2 hex⟩
   show ZJ _ _ _ _ _ _
   have hfr:X.A.frames=ZA (X.env::X.outer):=by rw[<-hst];exact I1.ok.frames
   have hstk:s1.heap.FunFrames X.base (X.env::X.outer):=by rw[<-hst];exact I1.stack
   refine Ik hfr hstk hfe fl λh' T' g=>?_
   have I2:=Inv.gone I1 hst hfe hcl hex g he heo hT hpp
   have Tn:H1 T'=ZB/\X.s₀.heap.get? T'=ZB/\∀p∈X.pn++kt,p.1≠T':=by
    rcases g.new with z|z
    ·exact⟨(hT T' z).1,(hT T' z).2,λp hp y=>(hpp p hp).2 (by rw[z,y])⟩
    ·exact⟨jz I1 z,fm I1 hex z,λp hp y=>by have:=(I1.pin p hp).1;rw[y,z]at this;cases this⟩
   obtain⟨bm,OC,hin,run⟩:=hs c C t Z hmc q2;obtain⟨hTe,oe,ev,hoe,hoc,hod,h1,oT,ts,hoT,hdT,h3⟩:=g.flt
   have nfr:∀b o vs,h'.get? b=ZA o->o.data=.fields vs->b∉(X.env::X.outer).filterMap (·.frame):=λb o vs hb hd z=>by
    have:=I2.stack;rw[hst]at this;obtain⟨_,o',ho',hnf⟩:=this.mem z;rw[show h'.get? b=ZA o' from ho']at hb
    cases hb;exact hnf vs hd
   have hel:e≠X.env.locals:=λz=>nfr e oe ev hoe hod (by rw[Q8,hfe];exact z▸PB)
   have hef:e∉X.fs:=λz=>nfr e oe ev hoe hod (by rw[Q8,hfe];exact Pw _ z)
   have hcell:∀v,oe.data≠ .cell v:=λv z=>by rw[hod]at z;cases z
   have I3:Inv (uQ X e oe) kt σ H1 {s1 with heap:=h'}:=oC I2 hoe he hel hef hcell
   refine V8 (VG (gH (X:=uQ X e oe) I3 hg hm ?_ hd)) (by intro z;cases z)
   obtain⟨nm,qq,N,bs,hdct,sn,sub,ab,col,dd,k0,k1,k2,k3,k5,mN,hC,_⟩:=OC.at_ h' I3.kIn;obtain⟨nm',qq',N',bs',hdct',sn',sub',ab',col',dd',k0',k1',k2',k3',k5',mN',hD,_,_,TD⟩:=OE.at_ h' I3.kIn;refine rX hC hD hoe hoc (TD.tail.hasType (by decide)) hin (codeAny_handlers_suite_as ?_)
   refine VR hoe hod h1 hoT hdT (Q3.mp h3).1 ?_
   generalize hU:h'.update T' (Ui (·.setIfInBounds 3 Qx))=h2
   have kp:∀b,b≠T'->h2.get? b=h'.get? b:=λb hb=>by rw[<-hU];exact SB _ _ (Sv hb)
   have hT2:h2.get? T'=ZA (Ui (·.setIfInBounds 3 Qx) oT):=by rw[<-hU];exact TN _ hoT (TQ (R5 hdT _))
   have hoe2:h2.get? e=ZA oe:=(kp e (Sv hTe)).trans hoe
   have g2:E5 ((X.env::X.outer).filterMap (·.frame)) C e (ZA T') h' h2 T':=⟨⟨hTe,oe,ev,hoe2,hoc,hod,h1,_,_,hT2,R5 hdT _,by simp[(Q3.mp h3).1]⟩,.inl rfl,λb o _ _ n3 q=>(kp b λz=>n3 (by rw[z])).trans q,λb o m q=>⟨o.slots,(kp b λz=>nfr T' oT ts hoT hdT (z▸m)).trans q⟩⟩
   have I4:Inv X kt σ H1 {s1 with heap:=h2}:=Inv.gone (s:={s1 with heap:=h'}) I2 hst hfe hcl hex g2 he heo (λt z=>by cases z;exact⟨Tn.1,Tn.2.1⟩) λp hp=>⟨(hpp p hp).1,λz=>Tn.2.2 p hp (Qu z).symm⟩
   have I5:Inv (uQ X e oe) kt σ H1 {s1 with heap:=h2}:=oC I4 hoe2 he hel hef hcell
   refine lI (X:=uQ X e oe) (v:=.ref e) I5 hN hi (.inl hloc) rfl (λs3 I6=>?_) (.inr hloc)
   have hil:i<σ.length:=by
    rw[I1.len];exact(PM.mp hi).1
   refine Rm (run e oe ev hoc hod kt s3 _ H1 B (λv H'=>Same H1 H'/\Rep X.K B H' t v) I6 he (λz=>?_) (by simp[hil]) (λk n hk e=>?_) (λp hp z=>?_) λv H' s' r=>⟨s',r⟩) (λf s4 r=>?_) λ_ _ z=>z.elim
   ·rw[hst]at z
    exact nfr e oe ev hoe hod z
   ·rw[P3 (Sv hk)]
    obtain⟨v,e1,e2⟩:=E.env.val k _ e;rw[e1,Rep.AC.mp e2]
   ·obtain⟨o,ho⟩:=(E.env.trk p (.inl z)).some
    have:=sm p o ho;rw[hp]at this;cases this
   ·cases f with
    |next=>obtain⟨_,_,_,z⟩:=r;exact z.elim
    |brk=>obtain⟨_,_,_,z⟩:=r;exact z.elim
    |cont=>obtain⟨_,_,_,z⟩:=r;exact z.elim
    |ret u=>
     obtain⟨v,σ',H',I7,rv,s',rt⟩:=r;obtain⟨m,hn,_⟩:=I7.loc;refine wpAny_nameGoes (show X.env.kindOf n=ZA .local from hloc) hn (by rw[I.ok.kind];rfl) λh8 m8 hn8 hs8=>?_
     exact⟨v,_,H',Inv.forget (z8 I.ok I7) hcl hn8 hs8,rv,hq' v H' (λb o y nn=>s' b o (sm b o y)) rt⟩
variable{g:List T->Rs T}{ge:List Sl->Rs (T×OT)}
section
variable {c o:ZG}{bM:List ZG}{fb fo:Y2}{fs:Y0}{p2 p4 spos:Pos}{cn' f m:Str}{l:Nat}{ex ey:En->Rs (T×En)}{tx ty:En->Rs (Bool×En)}
def sT{pl:Sem Bool}(i:Nat)(C:qF X.K X.mg n)(M:Mm X.prog X.w X.K X.mg X.base k n m (l+1) ge)(hr:Room k' X.A)(ha:QA X (e::es) fs)(hk:autoParam (k<=k') s_)(hl:∀(Z:En)(ts:List T),fs Z=.ok ts->ts.length=l:=by repeat first|exact xr|refine xq ?_)
  (hN:autoParam (X.N[i]?=ZA x) u_) (hv:autoParam (jk X.env.scope x) v_) (hd:autoParam ((x == ("__debug__" : Str))=ZD) s_) (hcd:autoParam ((x == ("__classdict__" : Str))=ZD) s_)
  (hns:autoParam (br (e::es)=ZC) u_)
  (ht:eval (.Call (.Attribute (.Name x p2) m apos) (e::es) [] pos) X.env=(do
   let ov <-eval (.Name x p2) X.env
   standAt apos.atName
   let (f,first) <-holding [ov] (Tt ov m pl)
   U9 pos f first (backTo pos (PR (e::es) X.env)) (TJ pos (Se [] X.env))):=by rfl):QEK X (.Call (.Attribute (.Name x p2) m apos) (e::es) [] pos) (hY i n m ge fs):=by
 obtain⟨f,fd,ps,h1,h2,h3,h4⟩:=M.ex
 have hn2:a9 e=ZC/\br es=ZC:=QR.mp hns;exact⟨Ja (pl:=pl) i C.cl h1 h4 (hr.mono hk) h2 h3 (KI hl) ha.h hN hv hd hcd (aU hn2.1) (eE hn2.2) ht⟩
def BR{pl:Sem Bool}(i:Nat)(C:qF X.K X.mg n)(M:Mm X.prog X.w X.K X.mg X.base k n m 1 ge)(hr:Room k' X.A)(hk:autoParam (k<=k') s_)
  (hN:autoParam (X.N[i]?=ZA x) u_) (hv:autoParam (jk X.env.scope x) v_) (hd:autoParam ((x == ("__debug__" : Str))=ZD) s_) (hcd:autoParam ((x == ("__classdict__" : Str))=ZD) s_)
  (ht:eval (.Call (.Attribute (.Name x p2) m apos) [] [] pos) X.env=(do
   let ov <-eval (.Name x p2) X.env
   standAt apos.atName
   let (f,first) <-holding [ov] (Tt ov m pl)
   U9 pos f first (backTo pos (PR [] X.env)) (TJ pos (Se [] X.env))):=by rfl):QEK X (.Call (.Attribute (.Name x p2) m apos) [] [] pos) (hY i n m ge ai):=by
 obtain⟨f,fd,ps,h1,h2,h3,h4⟩:=M.ex;exact⟨FG (pl:=pl) i C.cl h1 h4 (hr.mono hk) h2 h3 hN hv hd hcd ht⟩
end
variable{s:ZF}
section
variable {c o:ZG}{bM:List ZG}{fb fo:Y2}{fs:Y0}{p2 p4 spos:Pos}{cn' f m:Str}{l:Nat}{ex ey:En->Rs (T×En)}{tx ty:En->Rs (Bool×En)}
def jY{F:Y1}(h:Oh X s F):EV X [s] F:=⟨Jm h.h⟩
def Fs{ss:List ZF}{F:Y1}(h:Oh X s F):EV X (s::ss) F:=⟨Jn h.h⟩
def sU{fx:Y2}(ha:QEK X a fx)(hs:autoParam (Qt a ZB pos.line X.env=pure ZD) u_):Oh X (.Expr a pos) (E9 fx):=⟨Mq ha.h hs⟩
def xA{t:Y3}{A C:List ZF}{F G:Y1}(hc:QT X c t)(ha:EV X A F)(hb:EV X C G):Oh X (.If c A C pos) (E8 t F G):=⟨Mp hc.h ha.h hb.h⟩
def BS{F:Y1}{CE:ZE}(i:Nat){np:Pos}(hN:X.N.Nodup)(hm:X.mg ce=ZA (.ref CE))(OE:OX X.K CE bmE)
  (hb:∀pn xe,EV {X with pn:=pn,xe:=xe} body F) (hs:yW X i (b0::suite) CE h) (hst:autoParam (X.stack=X.env::X.outer) u_) (hfe:autoParam (X.env.frame=ZA X.env.locals) u_) (hcl:∀x c,X.env.cells.lookup x≠ZA c) (hex:autoParam (X.ex=[]) u_)
  (hi:autoParam (X.N[i]?=ZA n) u_) (hloc:autoParam (X.env.scope.names.lookup n=ZA .local) u_) (hg:autoParam (Gl X ce) u_) (hd:autoParam ((ce == ("__debug__" : Str))=ZD) s_):
  QS X (.Try body [.ExceptHandler (ZA (.Name ce np)) (ZA n) (b0::suite) hpos] [] [] pos) (rN F h):=⟨F5 hst hfe hcl hex hN hi hloc hm OE (λpn xe=>(hb pn xe).h) hs hg hd⟩
end
section
variable {e C D:ZE}{oe:Obj}{ev:Array Px}{bmD:List Px}
def Md(i:Nat)(e:ZE)(b:Bool):TE:=λσ H Q=>σ[i]?=ZA (ZA (.ref e))/\Q (.bl b) H
def GD(i:Nat){en dn:Str}{p1 p2:Pos}(hN:X.N[i]?=ZA en)(hv:jk X.env.scope en)(hp:(e,oe)∈X.pn)(hc:oe.cls=.ref C)(hd:oe.data=.fields ev)(OC:OX X.K C bm)(OD:OX X.K D bmD)(b:Bool)(hb:(decide (C=D))=b)(hnb:C≠D->bm.contains (.ref D)=ZD)
  (hm:X.mg "isinstance" =ZB) (hmD:X.mg dn=ZA (.ref D)) (hg:Gl X "isinstance") (hgD:Gl X dn) (hde:(en == ("__debug__" : Str))=ZD) (hce:(en == ("__classdict__" : Str))=ZD) (hdd:(dn == ("__debug__" : Str))=ZD):
  PE X (.Call (.Name "isinstance" p) [.Name en p1,.Name dn p2] [] pos) (Md i e b):=by
 have he:PR [.Name en p1,.Name dn p2] X.env=(ZD,eval (.Name en p1) X.env)::PR [.Name dn p2] X.env:=aU rfl
 have hs:PR [.Name dn p2] X.env=(ZD,eval (.Name dn p2) X.env)::PR [] X.env:=aU rfl;intro kt s σ H Q I ⟨hσ,q⟩;refine Q1 (fO I hg hm fP ?_ (by decide) (by decide))
 have hA:PA X [.Name en p1,.Name dn p2] (oX (Jd i) (oX (tC (.ref D)) FO)):=cS (dt hN hv hde hce) (cS (zC hgD hmD rfl hdd) fM hs) he;refine RG (bV (hA pos kt s σ H (λvs H'=>vs=[.ref e,.ref D]/\H'=H) I ⟨.ref e,hσ,rfl,rfl⟩) λus s1 ⟨vs,H1,I1,r1,e1,e2⟩=>?_) he (by rw[hs];rfl)
 subst e1;obtain⟨u,w',rfl,ru,rw'⟩:=zd r1;cases ru;cases rw';subst e2;exact DP hp hc hd OC OD b hb hnb I1 q
def GF(i:Nat){en:Str}{p1 p2:Pos}(hN:X.N[i]?=ZA en)(hv:jk X.env.scope en)(hp:(e,oe)∈X.pn)(hc:oe.cls=.ref C)(OC:OX X.K C bm)
  (hm:X.mg "isinstance" =ZB) (hmD:X.mg "ValueError" =ZB) (hg:Gl X "isinstance") (hgD:Gl X "ValueError") (hde:(en == ("__debug__" : Str))=ZD) (hce:(en == ("__classdict__" : Str))=ZD):
  PE X (.Call (.Name "isinstance" p) [.Name en p1,.Name "ValueError" p2] [] pos) (Md i e ZC):=by
 have he:PR [.Name en p1,.Name "ValueError" p2] X.env=(ZD,eval (.Name en p1) X.env)::PR [.Name "ValueError" p2] X.env:=aU rfl
 have hs:PR [.Name "ValueError" p2] X.env=(ZD,eval (.Name "ValueError" p2) X.env)::PR [] X.env:=aU rfl;intro kt s σ H Q I ⟨hσ,q⟩;refine Q1 (fO I hg hm fP ?_ (by decide) (by decide))
 have hA:PA X [.Name en p1,.Name "ValueError" p2] (oX (Jd i) (oX (tC (.ty "ValueError")) FO)):=cS (dt hN hv hde hce) (cS (zG (v:=.ty "ValueError") hgD hmD LK rfl) fM hs) he;refine RG (bV (hA pos kt s σ H (λvs H'=>vs=[.ref e,.ty "ValueError"]/\H'=H) I ⟨.ref e,hσ,rfl,rfl⟩) λus s1 ⟨vs,H1,I1,r1,e1,e2⟩=>?_) he (by rw[hs];rfl)
 subst e1;obtain⟨u,w',rfl,ru,rw'⟩:=zd r1;cases ru;cases rw';subst e2;exact DQ hp hc OC I1 q
end
section
variable {CE CN:ZE}{bmV:List Px}
def Lb(ia:Nat)(cs:List Str)(d:Str)(z:Int)(Z:En)(c:Str):Rs T:=match Z[ia]? with
 |some (.va (.int n))=>if cs.contains c=ZC then .ok (.bl (decide (c=d) == decide (n=z)))else .bad
 |_=>.bad
def AM(i ia:Nat){en an dn:Str}{cs:List Str}{z:Int}{p1 p2 q q1 q2 q3 r r2 r3 r4 rp:Pos}{jj:Nat}(hCE:∀c∈cs,∀C,X.mg c=ZA (.ref C)->OX X.K C (.ref CE::bmV)/\(C≠CN->CE≠CN)/\(C=CN↔c=dn))(OD:OX X.K CN (.ref CE::bmV))(hmD:X.mg dn=ZA (.ref CN))(hbv:bmV.contains (.ref CN)=ZD)
  (hm:X.mg "isinstance" =ZB) (hmV:X.mg "ValueError" =ZB) (hne:ia≠i) (hN:autoParam (X.N[i]?=ZA en) u_) (hNa:autoParam (X.N[ia]?=ZA an) u_) (hv:autoParam (jk X.env.scope en) v_) (hva:autoParam (jk X.env.scope an) v_)
  (hg:autoParam (Gl X "isinstance") u_) (hgV:autoParam (Gl X "ValueError") u_) (hgD:autoParam (Gl X dn) u_) (hde:autoParam ((en == ("__debug__" : Str))=ZD) s_) (hce:autoParam ((en == ("__classdict__" : Str))=ZD) s_) (hda:autoParam ((an == ("__debug__" : Str))=ZD) s_) (hca:autoParam ((an == ("__classdict__" : Str))=ZD) s_) (hdd:autoParam ((dn == ("__debug__" : Str))=ZD) s_):
  yW X i [.Return (ZA (.BoolOp .And [.Call (.Name "isinstance" p) [.Name en p1,.Name "ValueError" p2] [] p3,.Compare (.Call (.Name "isinstance" q) [.Name en q1,.Name dn q2] [] q3) [.Eq] [.Compare (.Name an r) [.Eq] [.Constant (.int z) jj r2] r3] r4] pos)) rp] CE (Lb ia cs dn z):=by
 intro c C t Z hmc ht;unfold Lb at ht
 split at ht
 ·rename_i n hn
  split at ht
  ·rename_i hcs
   cases ht;obtain⟨OC,hcn,hiff⟩:=hCE c (by simpa using hcs) C hmc
   refine⟨_,OC,by rw[QZ,QZ,beq_self_eq_true,W6,W5],λe oe ev hc hd kt s σ H O Q I hH hf hσ hk hO hq=>?_⟩
   have hp:(e,oe)∈(uQ X e oe).pn:=PB;refine oo (xZ (CT (GF (X:=uQ X e oe) i hN hv hp hc OC hm hmV hg hgV hde hce) (CM (zD Ij (GD (X:=uQ X e oe) i hN hv hp hc hd OC OD (decide (C=CN)) rfl (λz=>?_) hm hmD hg hgD hde hce hdd) (zD Ij (dt (X:=uQ X e oe) hNa hva hda hca) CO (C6 _)) (C6 _))))) kt s σ H _ I ⟨hσ,ZC,rfl,L2.iteT ⟨hσ,_,hk ia n hne hn,rfl,rfl,?_⟩⟩
   ·rw[QZ,hbv,Wc,beq_eq_false_iff_ne]
    exact λy=>hcn z (V9 y).symm
   ·have e1:decide (V.bl (decide (C=CN))=V.bl (decide (V.int n=V.int z)))=(decide (c=dn) == decide (n=z)):=by
     rw[EA,Am,Vu (a:=n),decide_eq_decide.mpr hiff]
    show Q (V.bl _) H
    rw[e1];exact hq _ H (Same.refl H) (Rep.FS.mpr rfl)
  ·cases ht
 ·cases ht
end
def fsc{N P:List Str}(h1:autoParam (sc.kind=.function) u_)(h2:autoParam (sc.isCoroutine=ZD) u_)(h3:autoParam (sc.isGenerator=ZD) u_)(h4:autoParam (N.Nodup) z_)(h5:autoParam (N.take P.length=P) u_)
  (h6:autoParam (∀x∈P,sc.names.lookup x=ZA .local\/sc.names.lookup x=ZA .cell) z_) (h7:autoParam (∀y∈sc.names,y.2≠ .free) z_):bo N P sc:=⟨h1,h2,h3,h4,h5,h6,h7⟩
def hu70(h:Room k A):A.units+70<cLine:=by have:=h.un;omega
variable{mg:WF}
section
variable {base:ZH}{n:Nat}{F:Y1}
def aP(N:List Str)(H:fh K mg x st ps)
  (hbody:N.Nodup->∀(f:ZE)(cdv:Px)(A:Qq)(outer:List Env)(s:Pz)(H:Hp)(E:XK),Room k (A.deeper (envOfC x (ao st) s.heap.objs.size f cdv)) →
   ∀xe,yX ((gu CX0 P w K mg base N x (ao st) f cdv A outer s H E).FB xe) (bJ st) F) (S:autoParam (bo N ps (ao st)) a_) (hn:autoParam (ps.length=n) u_):Cl P w K mg base (k+1) x n (val n N.length F):=NY H S hn (hbody S.nd)
end
def dU{ifs:List ZG}{src:List (Option Nat)}{fc:Y3}(N' N:List Str)(st:ZF)(hi:QI X tg iter fi)
  (block:N'.Nodup->∀(cl:List (Str×ZE))(C:ZE)(s₀:Pz)(H₀:Hp)(fp:List ZE),QG (bx X scope cl N' C s₀ H₀ fp) tg tgt/\LV (bx X scope cl N' C s₀ H₀ fp) ifs fc/\QE (bx X scope cl N' C s₀ H₀ fp) elt fe)
  (hc:autoParam (Cx.calm X=ZC) u_) (hN:autoParam (X.N=N) u_) (hm:autoParam (X.env.scope.names=(ao st).names) u_) (hk:autoParam (scope.kind=.function) u_) (h:autoParam (G8 (ao st).names N scope.names N' src=ZC) z_) (nd:autoParam (N'.Nodup) z_) (hs:autoParam (∀(x:Px),Qp iter (Cx.env X) x=pure x) t_):
  QE X (SS elt [{target:=tg,iter:=iter,ifs:=ifs,is_async:=0}] scope pos) (fL fi src tgt fc fe):=LX hc (LcScope.by hN hm hk h) hi (block nd) hs
@[elab_as_elim] theorem wq {α:Type} {p:List α->Prop} (h:∀a,p [a]):∀us:List α,us.length=1->p us
 |[a],_=>h a
@[elab_as_elim] theorem zR {α:Type} {p:List α->Prop} (h:∀a b,p [a,b]):∀us:List α,us.length=2->p us
 |[a,b],_=>h a b
@[elab_as_elim] theorem Dr {α:Type} {p:List α->Prop} (h:∀a b c,p [a,b,c]):∀us:List α,us.length=3->p us
 |[a,b,c],_=>h a b c
section
variable {h:ZH}{S:BK}{top:Nat->ZF}
def bU(j:Nat)(X:K.In h)(G:h.Ns Qv mg)(e:ur S K=tq S top)(q:autoParam (S.tab[j]?=ZA (n,i)) u_)
  (hb:∀(kV doc pm:Px)(an:Option ZE)(cdv ct:Px)(us:List Px),us.length=ps.length->Wr (S5 n n (fE (top i)) (bJ (top i)) (ao (top i)) .none kV doc pm an cdv ct) ⟨us,[]⟩=pure (ps.zip us):=by
   intro _ _ _ _ _ _ us hl;first|exact wq (λ_=>rfl) us hl|exact zR (λ_ _=>rfl) us hl|exact Dr (λ_ _ _=>rfl) us hl|exact len_0 rfl us hl):
  ∃f fd,Fn K mg n (top i) ps f fd:=k_fn j X G e q hb
end
structure LU (X:Cx)(e:ZG)(f:En->Rs (List (List T))):Prop where
 h:PE X e (Je X f)
structure Oi (X:Cx)(e:List ZG)(f:En->Rs (List (List T))):Prop where
 h:PA X e (L9 X f)
section
variable {g:En->Rs (List (List T))}{p2 py px:Pos}
def FC:Oi X [] Ba:=⟨Kv⟩
def BZ(he:QE X e fa)(hr:Oi X es f)(hs:autoParam (a9 e=ZC) u_):Oi X (e::es) (pV fa f):=⟨GY he.h hr.h (aU hs)⟩
def BY(ha:Oi X es f):LU X (.List es pos) (nL f):=⟨GW ha.h⟩
def FA(ha:LU X a f)(hb:LU X b g):LU X (.BinOp a .Add b pos) (Bb f g):=⟨Kr ha.h hb.h⟩
def IU{src:List (Option Nat)}(N' N:List Str)(st:ZF)(hi:QI X tg iter fi)
  (block:N'.Nodup->∀(cl:List (Str×ZE))(C:ZE)(s₀:Pz)(H₀:Hp)(fp:List ZE),QG (bx X scope cl N' C s₀ H₀ fp) tg tgt/\QE (bx X scope cl N' C s₀ H₀ fp) elt fe)
  (hc:autoParam (Cx.calm X=ZC) u_) (hN:autoParam (X.N=N) u_) (hm:autoParam (X.env.scope.names=(ao st).names) u_) (hk:autoParam (scope.kind=.function) u_) (h:autoParam (G8 (ao st).names N scope.names N' src=ZC) z_) (nd:autoParam (N'.Nodup) z_) (hs:autoParam (∀(x:Px),Qp iter (Cx.env X) x=pure x) t_):
  LU X (SS elt [{target:=tg,iter:=iter,ifs:=[],is_async:=0}] scope pos) (Kw fi src tgt fe):=⟨Nb hc (LcScope.by hN hm hk h) hi.h (λcl C s₀ H₀ fp=>⟨(block nd cl C s₀ H₀ fp).1.h,(block nd cl C s₀ H₀ fp).2.h⟩) hs⟩
def AB(i:Nat)(hN:X.N.Nodup)(he:LU X e f)(hi:autoParam (X.N[i]?=ZA x) u_)(hx:autoParam (Loc X.env.scope x) y_)(hs:autoParam (Qt e (ZA (.Name x p3)) pos.line X.env=pure ZD) u_)
  (hf:autoParam (X.fn x=ZC\/X.env.scope.names.lookup x=ZA .local) r_):QS X (.Assign [.Name x p3] e pos) (mq i f):=⟨Ct i hN he.h hi hx hs hf⟩
def AE(i:Nat)(ha:QE X a fa)(hN:autoParam (X.N[i]?=ZA x) u_)(hv:autoParam (jk X.env.scope x) v_)(hn:autoParam (a9 a=ZC) u_)
  (hbase:autoParam (Qj (.Name x p2) "append" X.env (eval (.Name x p2) X.env)=eval (.Name x p2) X.env) u_) (hline:autoParam ((apos.endLine == cpos.line)=ZC) u_)
  (hd:autoParam ((x == ("__debug__" : Str))=ZD) s_) (hcd:autoParam ((x == ("__classdict__" : Str))=ZD) s_)
  (hsw:autoParam (Qt (.Call (.Attribute (.Name x p2) "append" apos) [a] [] cpos) ZB pos.line X.env=pure ZD) u_):QS X (.Expr (.Call (.Attribute (.Name x p2) "append" apos) [a] [] cpos) pos) (kU i fa):=⟨Cv i ha.h hN hv hn hbase hline hd hcd hsw⟩
def BW(i:Nat)(hm:X.mg "list" =ZB)(hN:autoParam (X.N[i]?=ZA x) u_)(hv:autoParam (jk X.env.scope x) v_)(hd:autoParam ((x == ("__debug__" : Str))=ZD) s_)(hcd:autoParam ((x == ("__classdict__" : Str))=ZD) s_)(hg:autoParam (Gl X "list") u_):QE X (.Call (.Name "list" p) [.Name x p2] [] pos) (wm i):=⟨Gn i hm hN hv hd hcd hg⟩
def AD(i j:Nat){F:Y1}(hc:X.calm=ZC)(hNd:X.N.Nodup)(hb:yX X.nox body F)(hi:autoParam (X.N[i]?=ZA x) u_)(hj:autoParam (X.N[j]?=ZA y) u_)(hv:autoParam (jk X.env.scope x) v_)(hx:autoParam (Loc X.env.scope y) y_)
  (hd:autoParam ((x == ("__debug__" : Str))=ZD) s_) (hcd:autoParam ((x == ("__classdict__" : Str))=ZD) s_) (hf:autoParam (X.fn y=ZC\/X.env.scope.names.lookup y=ZA .local) r_) (hs:autoParam (∀z,Qp (.Name x px) X.env z=pure z) t_):
  QS X (.For (.Name y py) (.Name x px) body [] pos) (kR i j F):=⟨Cu i j hc hNd hb.h hi hj hv hx hd hcd hf hs⟩
end
end Tr
namespace G
open PySem PySem.Spec PyProof.Rows L2 Tr
structure Bl (mg:WF):Prop where
 b_ValueError:mg "ValueError" =ZB
 b_all:mg "all" =ZB
 b_bool:mg "bool" =ZB
 b_dict:mg "dict" =ZB
 b_enumerate:mg "enumerate" =ZB
 b_int:mg "int" =ZB
 b_isinstance:mg "isinstance" =ZB
 b_len:mg "len" =ZB
 b_list:mg "list" =ZB
 b_min:mg "min" =ZB
 b_range:mg "range" =ZB
 b_reversed:mg "reversed" =ZB
 b_sorted:mg "sorted" =ZB
 b_tuple:mg "tuple" =ZB
structure Cs (mg:WF):Prop where
 MOST_CLOCKS:∃t,mg "MOST_CLOCKS" =ZA (.int 4 t)
 MOST_LETTERS:∃t,mg "MOST_LETTERS" =ZA (.int 8 t)
 MOST_READINGS:∃t,mg "MOST_READINGS" =ZA (.int 4 t)
 LAST_READING:∃t,mg "LAST_READING" =ZA (.int 99 t)
 SLOWEST:∃t,mg "SLOWEST" =ZA (.int 9 t)
 LONGEST:∃t,mg "LONGEST" =ZA (.int 999 t)
structure bX (K:Pv)(mg:WF):Prop where
 k:qF K mg "Sketch"
 a_past:NoAttr K (bP K "Sketch") "past"
 a_ahead:NoAttr K (bP K "Sketch") "ahead"
def uW:Qw "bool" =ZA (.type "bool"):=by decide+kernel
def uV:Qw "dict" =ZA (.type "dict"):=by decide+kernel
def nC:Qw "int" =ZA (.type "int"):=by decide+kernel
def dj:Qw "tuple" =ZA (.type "tuple"):=by decide+kernel
structure Xs (K:Pv)(mg:WF)(ac al bi bn bv ca:ZE):Prop where
 m_NoRecord:mg "NoRecord" =ZA (.ref ac)
 m_NoEvent:mg "NoEvent" =ZA (.ref al)
 m_NoNumber:mg "NoNumber" =ZA (.ref bi)
 m_NoWorld:mg "NoWorld" =ZA (.ref bn)
 m_Nothing:mg "Nothing" =ZA (.ref bv)
 m_ClockError:mg "ClockError" =ZA (.ref ca)
 o_NoRecord:OX K ac (.ref ca::bmV)
 o_NoEvent:OX K al (.ref ca::bmV)
 o_NoNumber:OX K bi (.ref ca::bmV)
 o_NoWorld:OX K bn (.ref ca::bmV)
 o_Nothing:OX K bv (.ref ca::bmV)
 o_ClockError:OX K ca bmV
 d:[ac,al,bi,bn,bv,ca].Nodup
variable{ca al bi ac bn bv:ZE}{mg:WF}
def IW(S:Xs K mg ac al bi bn bv ca):∀c∈(["NoRecord","NoNumber","Nothing"]:List Str),∀C,mg c=ZA (.ref C)->OX K C (.ref ca::bmV)/\(C≠bv->ca≠bv)/\(C=bv↔c= "Nothing"):=by
 have dd:=S.d
 have ap:∀{a b:ZE}(i j:Nat),i<j->[ac,al,bi,bn,bv,ca][i]?=ZA a->[ac,al,bi,bn,bv,ca][j]?=ZA b->a≠b:=λ{a b} i j hij ha hb z=>by
  have:=(List.getElem?_inj (PM.mp ha).1 dd).mp (ha.trans (z▸hb.symm))
  omega
 intro c hc C hm
 have nc:ca≠bv:=(Sv (ap 4 5 (by decide) rfl rfl))
 simp only[PJ,Ra,or_false]at hc;rcases hc with rfl|rfl|rfl
 ·rw[S.m_NoRecord]at hm;cases hm;exact⟨S.o_NoRecord,λ_=>nc,Iff.intro (λz=>absurd z (ap 0 4 (by decide) rfl rfl)) (λz=>absurd z (by decide))⟩
 ·rw[S.m_NoNumber]at hm;cases hm;exact⟨S.o_NoNumber,λ_=>nc,Iff.intro (λz=>absurd z (ap 2 4 (by decide) rfl rfl)) (λz=>absurd z (by decide))⟩
 ·rw[S.m_Nothing]at hm;cases hm;exact⟨S.o_Nothing,λ_=>nc,Iff.intro (λ_=>rfl) (λ_=>rfl)⟩
def sR:Y1:=
 (aM (cY (o1 (Hi "tuple") (vr 0)) (ch Nm Nm (vr 1) (cl cQ (ae (vr 0) ai)) (vr 2))))
def aV:List T->Rs T:=val 3 3 sR
def yZ:Y1:=
 (aM (cY (o1 (Hi "int") (vr 0)) (o1 GS (o1 (Hi "bool") (vr 0)))))
def iM:List T->Rs T:=val 1 1 yZ
def jS:Y1:=
 (aM (cY (cl iM (ae (vr 0) ai)) (ch Nm Nm (vr 1) (vr 0) (vr 2))))
def a0:List T->Rs T:=val 3 3 jS
def m6:Y1:=
 (aM (cY (cl a0 (ae (vr 0) (ae (cn (.int 1)) (ae (cn (.int 9)) ai)))) (cl a0 (ae (vr 1) (ae (vr 0) (ae (cn (.int 9)) ai))))))
def fZ:List T->Rs T:=val 2 2 m6
def AA:Y1:=
 (aM (cl rq (ae (fL (iR (ae (o2 iC (cl cQ (ae (vr 0) ai)) (cn (.int 1))) ai)) [ZB,ZA 0] (gN 0) bT (o2 G3 (o2 aR (vr 1) (vr 0)) (o2 aR (vr 1) (o2 aS (vr 0) (cn (.int 1)))))) ai)))
def kg:List T->Rs T:=val 1 1 AA
def eY:Y1:=
 (aF (gC (du (tb (cl aV (ae (vr 0) (ae (cn (.int 1)) (ae (cn (.int 4)) ai)))))) (aM (cn (.bl ZD))) sN) (aM (cY (cl rq (ae (fL (iS (vr 0)) [ZB] (gN 0) bT (cl a0 (ae (vr 0) (ae (cn (.int 0)) (ae (cn (.int 99)) ai))))) ai)) (cl kg (ae (vr 0) ai)))))
def bS:List T->Rs T:=val 1 1 eY
def iZ:Y1:=
 (aM (cY (cl aV (ae (vr 0) (ae (cn (.int 3)) (ae (cn (.int 3)) ai)))) (cY (cl fZ (ae (o2 aR (vr 0) (cn (.int 0))) (ae (o2 aR (vr 0) (cn (.int 1))) ai))) (cl bS (ae (o2 aR (vr 0) (cn (.int 2))) ai)))))
def dy:List T->Rs T:=val 1 1 iZ
def i0:Y1:=
 (aM (cY (cl aV (ae (vr 0) (ae (cn (.int 1)) (ae (cn (.int 4)) ai)))) (cl rq (ae (fL (iS (vr 0)) [ZB] (gN 0) bT (cl dy (ae (vr 0) ai))) ai))))
def dH:List T->Rs T:=val 1 1 i0
def iX:Y1:=
 (aF (gC (qH (du (tb (cl aV (ae (vr 1) (ae (cn (.int 2)) (ae (cn (.int 2)) ai)))))) (du (tb (cl a0 (ae (o2 aR (vr 1) (cn (.int 0))) (ae (cn (.int 0)) (ae (o2 iC (cl cQ (ae (vr 0) ai)) (cn (.int 1))) ai))))))) (aM (cn (.bl ZD))) sN) (aM (cl a0 (ae (o2 aR (vr 1) (cn (.int 1))) (ae (cn (.int 0)) (ae (o2 iC (cl cQ (ae (o2 aR (o2 aR (vr 0) (o2 aR (vr 1) (cn (.int 0)))) (cn (.int 2))) ai)) (cn (.int 1))) ai))))))
def cN:List T->Rs T:=val 2 2 iX
def iY:Y1:=
 (aM (cY (cl a0 (ae (vr 0) (ae (cn (.int 0)) (ae (cn (.int 999)) ai)))) (Fc (o2 kz (vr 1) (cn .non)) (cl a0 (ae (vr 1) (ae (vr 0) (ae (cn (.int 999)) ai)))))))
def dY:List T->Rs T:=val 2 2 iY
def ee:Y1:=
 (aF (gC (qH (du (tb (cl aV (ae (vr 1) (ae (cn (.int 4)) (ae (cn (.int 4)) ai)))))) (du (tb (cl dY (ae (o2 aR (vr 1) (cn (.int 2))) (ae (o2 aR (vr 1) (cn (.int 3))) ai)))))) (aM (cn (.bl ZD))) sN) (aM (cY (cl cN (ae (vr 0) (ae (o2 aR (vr 1) (cn (.int 0))) ai))) (cY (cl cN (ae (vr 0) (ae (o2 aR (vr 1) (cn (.int 1))) ai))) (o2 v8 (o2 aR (vr 1) (cn (.int 0))) (o2 aR (vr 1) (cn (.int 1))))))))
def b8:List T->Rs T:=val 2 2 ee
def gW:Y1:=
 (aM (cY (cl aV (ae (vr 1) (ae (cn (.int 0)) (ae (cn (.int 8)) ai)))) (cl rq (ae (fL (iS (vr 1)) [ZB,ZA 0] (gN 0) bT (cl b8 (ae (vr 1) (ae (vr 0) ai)))) ai))))
def dh:List T->Rs T:=val 2 2 gW
def gM:Y1:=
 (aM (cY (cl aV (ae (vr 0) (ae (cn (.int 2)) (ae (cn (.int 2)) ai)))) (cY (cl dH (ae (o2 aR (vr 0) (cn (.int 0))) ai)) (cl dh (ae (o2 aR (vr 0) (cn (.int 0))) (ae (o2 aR (vr 0) (cn (.int 1))) ai))))))
def dw:List T->Rs T:=val 1 1 gM
def dN:Y1:=
 (gC (du (tb (cl dw (ae (vr 0) ai)))) (vJ "NoRecord") sN)
def aG:List T->Rs T:=val 1 1 dN
def eZ:En->Rs Fx:=
 (jE (xy (xP (cl aG (ae (vr 1) ai)))) (jE (wg 0 "Sketch" "past" (ae (ba (ae (cn .non) (ae (vr 1) ai))) ai)) (wg 0 "Sketch" "ahead" ai)))
def cH:List Sl->Rs (T×OT):=hW 2 0 2 eZ
def jW:Y1:=
 (aF (gC (tb (o2 kn (vr 0) (gq ai))) (aM (o2 cP (cn (.int 7)) (vr 1))) sN) (aM (o2 aS (o2 aR (vr 0) (o2 lR (vr 1) (cl cQ (ae (vr 0) ai)))) (o2 cP (cn (.int 6553)) (o2 lZ (vr 1) (cl cQ (ae (vr 0) ai)))))))
def fG:List T->Rs T:=val 2 2 jW
def i5:Y1:=
 (aF (dq (o2 lR (o2 aS (o2 cP (o2 lR (cl fG (ae (vr 0) (ae (vr 1) ai))) (cn (.int 2147483563))) (cn (.int 69069))) (o2 cP (cn (.int 104723)) (o2 aS (vr 1) (cn (.int 1))))) (cn (.int 2147483563))) (gN 3)) (aF (dq (o2 lR (o2 aS (o2 cP (vr 3) (vr 3)) (o2 lZ (vr 3) (cn (.int 3)))) (cn (.int 2147483399))) (gN 3)) (aM (o2 lR (o2 lZ (o2 lR (o2 aS (o2 cP (vr 3) (vr 3)) (o2 lZ (vr 3) (cn (.int 7)))) (cn (.int 2147483647))) (cn (.int 11))) (vr 2)))))
def az:List T->Rs T:=val 3 4 i5
abbrev evF:Y1:=dq (o2 aS (vr 1) (fL (iR (ae (cl cQ (ae (o2 aR (vr 3) (cn (.int 2))) ai)) ai)) [ZB,ZA 2] (gN 0) bT (ba (ae (vr 1) (ae (vr 0) ai))))) (gN 1)
def kN:Y1:=
 (aF (dq (gq ai) (gN 1)) (aF (gP (iE (ae (vr 0) ai)) (gT 2 (wK (gN 2) (wK (gN 3) Fg))) evF) (aM (vr 1))))
def cb:List T->Rs T:=val 1 4 kN
def dP:Y1:=
 (aF (dq (cl cb (ae (vr 2) ai)) (gN 3)) (aF (gC (tb (o2 G3 (cl cQ (ae (vr 3) ai)) (cn (.int 2)))) (aM (cn .non)) sN) (aF (dq (cl az (ae (vr 0) (ae (vr 1) (ae (cl cQ (ae (vr 3) ai)) ai)))) (gN 4)) (aF (dq (o2 lR (o2 aS (o2 aS (vr 4) (cn (.int 1))) (cl az (ae (vr 0) (ae (o2 aS (vr 1) (cn (.int 1))) (ae (o2 iC (cl cQ (ae (vr 3) ai)) (cn (.int 1))) ai))))) (cl cQ (ae (vr 3) ai))) (gN 5)) (aF (dq (cl az (ae (vr 0) (ae (o2 aS (vr 1) (cn (.int 2))) (ae (cn (.int 8)) ai)))) (gN 6)) (aF (dq (Ff (tb (o2 kn (cl az (ae (vr 0) (ae (o2 aS (vr 1) (cn (.int 3))) (ae (cn (.int 3)) ai)))) (cn (.int 0)))) (cn .non) (o2 aS (vr 6) (cl az (ae (vr 0) (ae (o2 aS (vr 1) (cn (.int 4))) (ae (cn (.int 9)) ai)))))) (gN 7)) (aM (ba (ae (o2 aR (vr 3) (vr 4)) (ae (o2 aR (vr 3) (vr 5)) (ae (vr 6) (ae (vr 7) ai))))))))))))
def b9:List T->Rs T:=val 3 8 dP
abbrev clF:Y1:=dq (o2 aS (vr 3) (ba (ae (o2 aS (o2 aS (o2 aR (vr 3) (o1 lb (cn (.int 1)))) (cn (.int 1))) (cl az (ae (vr 0) (ae (o2 aS (o2 aS (vr 1) (cn (.int 3))) (vr 4)) (ae (cn (.int 5)) ai))))) ai))) (gN 3)
def i6:Y1:=
 (aF (dq (o2 aS (cn (.int 1)) (cl az (ae (vr 0) (ae (vr 1) (ae (cn (.int 3)) ai))))) (gN 2)) (aF (dq (ba (ae (cl az (ae (vr 0) (ae (o2 aS (vr 1) (cn (.int 2))) (ae (cn (.int 6)) ai)))) ai)) (gN 3)) (aF (gP (iR (ae (cl az (ae (vr 0) (ae (o2 aS (vr 1) (cn (.int 1))) (ae (cn (.int 3)) ai)))) ai)) (gN 4) clF) (aM (ba (ae (vr 2) (ae (o2 aS (vr 2) (cl az (ae (vr 0) (ae (o2 aS (vr 1) (cn (.int 6))) (ae (cn (.int 3)) ai))))) (ae (vr 3) ai))))))))
def cG:List T->Rs T:=val 2 5 i6
abbrev leF:Y1:=aF (dq (cl b9 (ae (vr 0) (ae (o2 aS (o2 aS (vr 1) (cn (.int 31))) (o2 cP (cn (.int 6)) (vr 5))) (ae (vr 3) ai)))) (gN 6)) (dq (o2 aS (vr 4) (o2 cP (gq (ae (vr 6) ai)) (cl DS (ae (o2 jy (vr 6) (cn .non)) ai)))) (gN 4))
def gX:Y1:=
 (aF (dq (cl gO (ae (fL (iR (ae (o2 aS (cn (.int 1)) (cl az (ae (vr 0) (ae (vr 1) (ae (cn (.int 3)) ai))))) ai)) [ZB,ZA 0,ZA 1] (gN 0) bT (cl cG (ae (vr 1) (ae (o2 aS (o2 aS (vr 2) (cn (.int 1))) (o2 cP (cn (.int 8)) (vr 0))) ai)))) ai)) (gN 3)) (aF (dq (gq ai) (gN 4)) (aF (gP (iR (ae (cl az (ae (vr 0) (ae (o2 aS (vr 1) (cn (.int 30))) (ae (o2 aS (vr 2) (cn (.int 1))) ai)))) ai)) (gN 5) leF) (aM (ba (ae (vr 3) (ae (cl gO (ae (vr 4) ai)) ai)))))))
def fB:List T->Rs T:=val 3 7 gX
abbrev peF:Y1:=pj 1 (fL (iR (ae (cl cQ (ae (o2 aR (vr 3) (cn (.int 2))) ai)) ai)) [ZB,ZA 2] (gN 0) bT (ba (ae (vr 1) (ae (vr 0) ai))))
def qC:Y1:=
 (aF (ng (cl aG (ae (vr 0) ai))) (aF (jd 1 ai) (aF (gP (iE (ae (o2 aR (vr 0) (cn (.int 0))) ai)) (gT 2 (wK (gN 2) (wK (gN 3) Fg))) peF) (kS 1 (aM (vr 1))))))
def gg:List T->Rs T:=val 1 4 qC
def jT:Y1:=
 (aF (dq (oD ji (vr 0) (o2 aR (vr 1) (cn (.int 1)))) (gN 3)) (aM (Fc (o2 kz (vr 3) (cn .non)) (o2 G3 (o2 aS (o2 aR (vr 2) (cn (.int 0))) (o2 aR (vr 1) (cn (.int 2)))) (o2 aR (vr 3) (cn (.int 0)))))))
def dz:List T->Rs T:=val 3 4 jT
abbrev Fb:Y1:=(aF (dq (ln 2 (oD ji (vr 2) (o2 aR (vr 5) (cn (.int 0))))) (gN 6)) (aF (gC (qH (tb (o2 kz (vr 6) (cn .non))) (du (BP 2 (tb (cl dz (ae (vr 2) (ae (vr 5) (ae (vr 6) ai)))))))) HY sN) (aF (dq (o2 aS (o2 aR (vr 6) (cn (.int 1))) (gq (ae (vr 4) ai))) (gN 7)) (aF (dq (fL (iS (vr 7)) [ZB,ZA 0] (gN 0) bT (o2 aR (o2 aR (vr 1) (vr 0)) (cn (.int 0)))) (gN 8)) (aF (gC (tb (o2 IB (o2 aR (vr 5) (cn (.int 1))) (vr 8))) (aM (ba (ae (cn .non) (ae (sl (vr 7) (pS (oL gF (vr 8) (o2 aR (vr 5) (cn (.int 1))))) pN) ai)))) sN) (aF (AU 2 (o2 aR (vr 5) (cn (.int 1))) (ba (ae (o2 aS (o2 aR (vr 6) (cn (.int 0))) (o2 aR (vr 5) (cn (.int 2)))) (ae (vr 7) ai)))) (dq (cn (.bl ZC)) (gN 3))))))))
def jR:Y1:=
 (aF (rO 2 (fL (iS (vr 1)) [ZB] (gN 0) bT (ba (ae (vr 0) (ae (ba (ae (cn (.int 0)) (ae (gq ai) ai))) ai))))) (aF (dq (cn (.bl ZC)) (gN 3)) (aF (bL (tb (vr 3)) (aF (dq (cn (.bl ZD)) (gN 3)) (gP (iE (ae (vr 0) ai)) (gT 2 (wK (gN 4) (wK (gN 5) Fg))) Fb)) FU) (kS 2 (aM (ba (ae (vr 2) (ae (cn .non) ai))))))))
def gf:List T->Rs T:=val 2 9 jR
def ft:Y1:=
 (aF (dq (cl gg (ae (vr 0) ai)) (gN 2)) (aF (dq (o2 aR (cl gf (ae (vr 1) (ae (vr 2) ai))) (cn (.int 0))) (gN 3)) (aF (gC (tb (o2 kz (vr 3) (cn .non))) (aM (cn .non)) sN) (aM (cl gO (ae (fL (iS (vr 2)) [ZB,ZA 3] (gN 0) bT (o2 aR (o2 jO (vr 1) (vr 0)) (cn (.int 0)))) ai))))))
def dG:List T->Rs T:=val 2 4 ft
abbrev bcF:Y1:=(aF (dq (ba (ae (vr 0) (ae (vr 4) ai))) (gN 5)) (aF (dq (ba (ae (vr 0) (ae (o2 aS (vr 4) (cn (.int 1))) ai))) (gN 6)) (aF (dq (o2 iC (o2 aR (vr 2) (o2 aS (vr 4) (cn (.int 1)))) (o2 aR (vr 2) (vr 4))) (gN 7)) (aF (gQ 3 (ba (ae (vr 5) (ae (vr 6) (ae (o2 cP (vr 7) (o2 aR (vr 1) (cn (.int 1)))) ai))))) (gQ 3 (ba (ae (vr 6) (ae (vr 5) (ae (o2 cP (o1 lb (vr 7)) (o2 aR (vr 1) (cn (.int 0)))) ai)))))))))
def eX:Y1:=
 (aF (dq (o2 aR (vr 1) (cn (.int 2))) (gN 2)) (aF (jd 3 ai) (aF (gP (iR (ae (o2 iC (cl cQ (ae (vr 2) ai)) (cn (.int 1))) ai)) (gN 4) bcF) (kS 3 (aM (vr 3))))))
def cF:List T->Rs T:=val 2 8 eX
def dZ:Y1:=
 (aF (jd 1 (ae (ba (ae (o2 aR (vr 0) (cn (.int 1))) (ae (o2 aR (vr 0) (cn (.int 0))) (ae (o1 lb (o2 aR (vr 0) (cn (.int 2)))) ai)))) ai)) (aF (gC (tb (o2 jy (o2 aR (vr 0) (cn (.int 3))) (cn .non))) (gQ 1 (ba (ae (o2 aR (vr 0) (cn (.int 0))) (ae (o2 aR (vr 0) (cn (.int 1))) (ae (o2 aR (vr 0) (cn (.int 3))) ai))))) sN) (kS 1 (aM (vr 1)))))
def cq:List T->Rs T:=val 1 2 dZ
abbrev bdF:Y1:=pj 1 (cl cF (ae (vr 2) (ae (vr 3) ai)))
def qD:Y1:=
 (aF (ng (cl aG (ae (vr 0) ai))) (aF (jd 1 ai) (aF (gP (iE (ae (o2 aR (vr 0) (cn (.int 0))) ai)) (gT 2 (wK (gN 2) (wK (gN 3) Fg))) bdF) (aF (gP (iS (o2 aR (vr 0) (cn (.int 1)))) (gN 4) (pj 1 (cl cq (ae (vr 4) ai)))) (kS 1 (aM (vr 1)))))))
def gh:List T->Rs T:=val 1 5 qD
def HQ:Y1:=
 (aM (cl dG (ae (vr 0) (ae (cl gh (ae (vr 0) ai)) ai))))
def kc:List T->Rs T:=val 1 1 HQ
def xu:Y1:=
 (aM (o2 jy (cl kc (ae (vr 0) ai)) (cn .non)))
def a7:List T->Rs T:=val 1 1 xu
def iW:Y1:=
 (gC (du (tb (cl cN (ae (o2 aR (vr 0) (cn (.int 0))) (ae (vr 1) ai))))) (vJ "NoEvent") sN)
def c8:List T->Rs T:=val 2 2 iW
def fS:Y1:=
 (aF (pf 2 (fL (iS (o2 aR (vr 0) (cn (.int 1)))) [ZB,ZA 1] (gN 0) (tb (o2 kn (o2 aR (vr 0) (cn (.int 1))) (vr 1))) (o2 aR (vr 0) (cn (.int 0))))) (aF (gC (tb (o2 NK (o2 aR (vr 1) (cn (.int 1))) (cn (.int 0)))) (gQ 2 (ba (ae (o2 aR (vr 1) (cn (.int 0))) (ae (o2 iC (o2 aR (vr 1) (cn (.int 1))) (cn (.int 1))) ai)))) sN) (kS 2 (aM (vr 2)))))
def df:List T->Rs T:=val 2 3 fS
abbrev knC:Y3:=tb (o2 G3 (vr 3) (ln 2 (cl cQ (ae (vr 2) ai))))
abbrev knI:Y1:=gC (BP 2 (tb (o2 fN (vr 4) (vr 2)))) (gQ 2 (vr 4)) sN
def u7:Y1:=
 (aF (ng (cl aG (ae (vr 0) ai))) (aF (ng (cl c8 (ae (vr 0) (ae (vr 1) ai)))) (aF (jd 2 (ae (vr 1) ai)) (aF (dq (cn (.int 0)) (gN 3)) (aF (bL knC (aF (gP (iS (cl df (ae (vr 0) (ae (ln 2 (o2 aR (vr 2) (vr 3))) ai)))) (gN 4) knI) (Cn 3 (cn (.int 1)))) FU) (kS 2 (aM (cl vE (ae (vr 2) ai)))))))))
def c9:List T->Rs T:=val 2 5 u7
def u5:Y1:=
 (aF (dq (fL (iS (cl c9 (ae (vr 0) (ae (vr 1) ai)))) [ZB] (gN 0) bT (o2 aR (vr 0) (cn (.int 0)))) (gN 2)) (aM (cl gO (ae (fL (iR (ae (cl cQ (ae (o2 aR (vr 0) (cn (.int 0))) ai)) ai)) [ZB,ZA 2] (gN 0) bT (oL ox (vr 1) (vr 0))) ai))))
def ke:List T->Rs T:=val 2 3 u5
def n8:Y1:=
 (aM (o2 aR (o2 aR (o1 (n5 "Sketch" "past") (vr 0)) (o1 lb (cn (.int 1)))) (cn (.int 1))))
def aE:List T->Rs T:=val 1 1 n8
abbrev Oe:Y1:=gC (tb (cl a7 (ae (o2 aR (vr 1) (cn (.int 1))) ai))) (aM (o2 aR (vr 1) (cn (.int 1)))) sN
def gY:Y1:=
 (aF (gP (DU (ae (o1 (n5 "Sketch" "past") (vr 0)) ai)) (gN 1) Oe) (aM (cn .non)))
def di:List T->Rs T:=val 1 2 gY
def n9:Y1:=
 (aM (ba (ae (o2 iC (cl cQ (ae (o1 (n5 "Sketch" "past") (vr 0)) ai)) (cn (.int 1))) (ae (cl cQ (ae (o1 (n5 "Sketch" "ahead") (vr 0)) ai)) ai))))
def bh:List T->Rs T:=val 1 1 n9
abbrev upI:Y1:=gC (kC (tb (o2 Be (vr 4) (vr 5))) (kC (tb (o2 fN (vr 4) (o2 jO (vr 2) (vr 5)))) (tb (o2 fN (vr 5) (o2 jO (vr 2) (vr 4)))))) (gQ 3 (ba (ae (vr 4) (ae (vr 5) ai)))) sN
def fQ:Y1:=
 (aF (dq (cl gg (ae (vr 0) ai)) (gN 1)) (aF (dq (cl l7 (ae (fL (iS (vr 1)) [ZB,ZA 0] (gN 0) bT (ba (ae (vr 0) (ae (cl c9 (ae (vr 1) (ae (vr 0) ai))) ai)))) ai)) (gN 2)) (aF (jd 3 ai) (aF (gP (iS (vr 1)) (gN 4) (gP (iS (vr 1)) (gN 5) upI)) (kS 3 (aM (vr 3)))))))
def cz:List T->Rs T:=val 1 6 fQ
def dO:Y1:=
 (gC (du (tb (cl a0 (ae (vr 1) (ae (cn (.int 0)) (ae (o2 iC (vr 0) (cn (.int 1))) ai)))))) (vJ "NoNumber") sN)
def bu:List T->Rs T:=val 2 2 dO
def iV:Y1:=
 (gC (du (tb (cl a7 (ae (vr 0) ai)))) (vJ "NoWorld") sN)
def bY:List T->Rs T:=val 1 1 iV
def gV:Y1:=
 (aF (ng (cl aG (ae (vr 0) ai))) (aF (ng (cl c8 (ae (vr 0) (ae (vr 1) ai)))) (ng (cl c8 (ae (vr 0) (ae (vr 2) ai))))))
def fA:List T->Rs T:=val 3 3 gV
def BJ:Y1:=
 (aM (Ff (tb (o2 Ey (vr 1) (vr 0))) (o2 aR (o2 jO (vr 0) (vr 1)) (cn (.int 0))) (cn .non)))
def mO:List T->Rs T:=val 2 2 BJ
def u4:Y1:=
 (aM (o2 aR (cl gf (ae (cl gh (ae (vr 0) ai)) (ae (gq (ae (vr 1) ai)) ai))) (cn (.int 0))))
def fY:List T->Rs T:=val 2 2 u4
def gy:Y1:=
 (aF (ng (cl fA (ae (vr 0) (ae (vr 1) (ae (vr 2) ai))))) (aF (ng (cl bY (ae (vr 0) ai))) (aM (cl mO (ae (cl fY (ae (vr 0) (ae (vr 1) ai))) (ae (vr 2) ai))))))
def cp:List T->Rs T:=val 3 3 gy
def fR:Y1:=
 (aF (dq (cl cp (ae (vr 0) (ae (vr 2) (ae (vr 1) ai)))) (gN 3)) (aM (Ff (tb (o2 kz (vr 3) (cn .non))) (cn .non) (o1 lb (vr 3)))))
def dR:List T->Rs T:=val 3 4 fR
def gx:Y1:=
 (aM (ba (ae (cl dR (ae (vr 0) (ae (vr 1) (ae (vr 2) ai)))) (ae (cl cp (ae (vr 0) (ae (vr 1) (ae (vr 2) ai)))) ai))))
def cm:List T->Rs T:=val 3 3 gx
def u6:Y1:=
 (aF (ng (cl aG (ae (vr 0) ai))) (aF (ng (cl bu (ae (cl cQ (ae (o2 aR (vr 0) (cn (.int 0))) ai)) (ae (vr 1) ai)))) (aF (ng (cl bY (ae (vr 0) ai))) (aF (dq (cl cQ (ae (o2 aR (o2 aR (o2 aR (vr 0) (cn (.int 0))) (vr 1)) (cn (.int 2))) ai)) (gN 2)) (aM (fL (iR (ae (cn (.int 1)) (ae (vr 2) ai))) [ZB,ZA 0,ZA 1] (gN 0) bT (cl cm (ae (vr 1) (ae (ba (ae (vr 2) (ae (o2 iC (vr 0) (cn (.int 1))) ai))) (ae (ba (ae (vr 2) (ae (vr 0) ai))) ai))))))))))
def kf:List T->Rs T:=val 2 3 u6
def eV:Y1:=
 (aF (dq (cl cm (ae (vr 0) (ae (o2 aR (vr 1) (cn (.int 0))) (ae (o2 aR (vr 1) (cn (.int 1))) ai)))) (gN 2)) (aF (dq (Ff (qH (tb (o2 kz (o2 aR (vr 2) (cn (.int 1))) (cn .non))) (tb (o2 NK (o2 aR (vr 2) (cn (.int 1))) (cn (.int 999))))) (cn .non) (o2 aR (vr 2) (cn (.int 1)))) (gN 3)) (aM (ba (ae (o2 aR (vr 1) (cn (.int 0))) (ae (o2 aR (vr 1) (cn (.int 1))) (ae (cl G0 (ae (o2 aR (vr 2) (cn (.int 0))) (ae (cn (.int 999)) ai))) (ae (vr 3) ai))))))))
def bF:List T->Rs T:=val 2 4 eV
def lz:Y1:=
 (aF (ng (cl bY (ae (vr 0) ai))) (aM (ba (ae (o2 aR (vr 0) (cn (.int 0))) (ae (cl gO (ae (fL (iS (o2 aR (vr 0) (cn (.int 1)))) [ZB,ZA 0] (gN 0) bT (cl bF (ae (vr 1) (ae (vr 0) ai)))) ai)) ai)))))
def dX:List T->Rs T:=val 1 1 lz
abbrev L1:Y1:=(aF (gQ 4 (wm 5)) (gQ 5 (cn (.str "zz"))))
abbrev toR:Y1:=(kS 4 (aM (o2 aS (vr 4) (gq (ae (nj "Sketch" "record" aE (vr 1) ai) (ae (nj "Sketch" "good" di (vr 1) ai) (ae (nj "Sketch" "counts" bh (vr 1) ai) ai)))))))
def jU:Y1:=
 (aF (dq (cl cb (ae (o2 aR (vr 0) (cn (.int 0))) ai)) (gN 2)) (aF (mq 3 (Bb (Kw (iS (sl (vr 2) pN (pS (cn (.int 3))))) [ZB,ZA 0] (gN 0) (cl c9 (ae (vr 1) (ae (vr 0) ai)))) (nL (pV (cl cz (ae (vr 0) ai)) Ba)))) (aF (pf 4 (fL (iS (vr 2)) [ZB,ZA 0] (gN 0) bT (cl ke (ae (vr 1) (ae (vr 0) ai))))) (aF (gC (tb (cl a7 (ae (vr 0) ai))) (aF (kU 3 (cl kf (ae (vr 0) (ae (cn (.int 0)) ai)))) (gQ 4 (cl dX (ae (vr 0) ai)))) sN) (aF (kR 3 5 L1) toR)))))
def d9:List T->Rs T:=val 2 6 jU
def gA:En->Rs Fx:=
 (jE (xy (xH 0 "Sketch" "past" (ba (ae (vr 1) (ae (vr 2) ai))))) (jE (wg 0 "Sketch" "ahead" ai) (lS (xP (cl a7 (ae (vr 2) ai))))))
def bw:List Sl->Rs (T×OT):=hW 3 0 3 gA
def cZ:Y1:=
 (aF (ng (cl aG (ae (vr 0) ai))) (aF (dq (o2 aR (vr 0) (cn (.int 1))) (gN 2)) (aF (ng (cl bu (ae (cl cQ (ae (vr 2) ai)) (ae (vr 1) ai)))) (aM (ba (ae (o2 aR (vr 0) (cn (.int 0))) (ae (o2 aS (sl (vr 2) pN (pS (vr 1))) (sl (vr 2) (pS (o2 aS (vr 1) (cn (.int 1)))) pN)) ai)))))))
def bz:List T->Rs T:=val 2 3 cZ
def u9:En->Rs Fx:=
 (lS (d7 0 "Sketch" "go_on" bw (ae (cn (.str "cut")) (ae (cl bz (ae (ln 0 (nj "Sketch" "record" aE (vr 0) ai)) (ae (vr 1) ai))) ai))))
def bZ:List Sl->Rs (T×OT):=hW 2 0 2 u9
def fK:Y1:=
 (aF (ng (cl aG (ae (vr 0) ai))) (aM (vr 0)))
def c6:List T->Rs T:=val 1 1 fK
def iU:Y1:=
 (aF (dq (o2 aR (vr 0) (cn (.int 0))) (gN 3)) (aM (cl c6 (ae (ba (ae (o2 aS (o2 aS (sl (vr 3) pN (pS (vr 1))) (ba (ae (vr 2) ai))) (sl (vr 3) (pS (o2 aS (vr 1) (cn (.int 1)))) pN)) (ae (o2 aR (vr 0) (cn (.int 1))) ai))) ai))))
def fX:List T->Rs T:=val 3 4 iU
def gw:Y1:=
 (aF (ng (cl aG (ae (vr 0) ai))) (aF (ng (cl bu (ae (cl cQ (ae (o2 aR (vr 0) (cn (.int 0))) ai)) (ae (vr 1) ai)))) (aF (dq (o2 aR (o2 aR (vr 0) (cn (.int 0))) (vr 1)) (gN 3)) (aM (cl fX (ae (vr 0) (ae (vr 1) (ae (ba (ae (o2 aR (vr 3) (cn (.int 0))) (ae (o2 aR (vr 3) (cn (.int 1))) (ae (o2 aS (o2 aR (vr 3) (cn (.int 2))) (ba (ae (vr 2) ai))) ai)))) ai))))))))
def bR:List T->Rs T:=val 3 4 gw
def rz:En->Rs Fx:=
 (lS (d7 0 "Sketch" "go_on" bw (ae (cn (.str "read")) (ae (cl bR (ae (ln 0 (nj "Sketch" "record" aE (vr 0) ai)) (ae (vr 1) (ae (vr 2) ai)))) ai))))
def bO:List Sl->Rs (T×OT):=hW 3 0 3 rz
def gU:Y1:=
 (aF (ng (cl aG (ae (vr 0) ai))) (aM (cl c6 (ae (ba (ae (o2 aR (vr 0) (cn (.int 0))) (ae (o2 aS (o2 aR (vr 0) (cn (.int 1))) (ba (ae (vr 1) ai))) ai))) ai))))
def b7:List T->Rs T:=val 2 2 gU
def qE:En->Rs Fx:=
 (lS (d7 0 "Sketch" "go_on" bw (ae (cn (.str "write")) (ae (cl b7 (ae (ln 0 (nj "Sketch" "record" aE (vr 0) ai)) (ae (vr 1) ai))) ai))))
def bH:List Sl->Rs (T×OT):=hW 2 0 2 qE
abbrev stB:En->Rs Fx:=(Bd (kC (tb (o2 kn (vr 4) (cn (.int 0)))) (tb (o2 v8 (o2 aR (vr 3) (cn (.int 1))) (ba ai)))) (xy (d7 2 "Sketch" "cut" bZ (ae (cl az (ae (vr 0) (ae (o2 aS (vr 1) (cn (.int 8))) (ae (cl cQ (ae (o2 aR (vr 3) (cn (.int 1))) ai)) ai)))) ai))) (Bd (tb (o2 kn (vr 4) (cn (.int 1)))) (xy (d7 2 "Sketch" "read" bO (ae (vr 6) (ae (o2 aS (o2 aS (o2 aR (o2 aR (o2 aR (o2 aR (vr 3) (cn (.int 0))) (vr 6)) (cn (.int 2))) (o1 lb (cn (.int 1)))) (cn (.int 1))) (cl az (ae (vr 0) (ae (o2 aS (vr 1) (cn (.int 8))) (ae (cn (.int 5)) ai))))) ai)))) (Bd (tb (o2 jy (vr 5) (cn .non))) (xy (d7 2 "Sketch" "write" bH (ae (vr 5) ai))) mN)))
def jV:En->Rs Fx:=
 (jE (Fe 3 (xP (ln 2 (nj "Sketch" "record" aE (vr 2) ai)))) (jE (Fe 4 (xP (cl az (ae (vr 0) (ae (vr 1) (ae (cn (.int 4)) ai)))))) (jE (Fe 5 (xP (cl b9 (ae (vr 0) (ae (o2 aS (vr 1) (cn (.int 1))) (ae (o2 aR (vr 3) (cn (.int 0))) ai)))))) (jE (Fe 6 (xP (cl az (ae (vr 0) (ae (o2 aS (vr 1) (cn (.int 7))) (ae (cl cQ (ae (o2 aR (vr 3) (cn (.int 0))) ai)) ai)))))) (pW stB (uH "NoRecord" .non))))))
def c7:List Sl->Rs (T×OT):=hW 3 2 7 jV
def gB:En->Rs Fx:=
 (jE (Bd (BP 0 (tb (o2 kn (o1 (n5 "Sketch" "ahead") (vr 0)) (gq ai)))) (KC "Nothing") mN) (jE (Fe 1 (FE 0 "Sketch" "ahead")) (jE (xy (xH 0 "Sketch" "past" (vr 1))) (lS (xP (o2 aR (vr 1) (cn (.int 0))))))))
def eJ:List Sl->Rs (T×OT):=hW 1 0 2 gB
def gz:Y1:=
 (rN (E8 (tb (o2 kn (vr 0) (cn (.int 0)))) (E9 (hY 1 "Sketch" "write" bH (ae (cn .non) ai))) (E8 (tb (o2 kn (vr 0) (cn (.int 1)))) (E9 (hY 1 "Sketch" "cut" bZ (ae (o1 lb (cn (.int 1))) ai))) (E8 (tb (o2 kn (vr 0) (cn (.int 2)))) (E9 (hY 1 "Sketch" "read" bO (ae (cn (.int 0)) (ae (o1 lb (cn (.int 1))) ai)))) (E9 (hY 1 "Sketch" "forth" eJ ai))))) (Lb 0 ["NoRecord","NoNumber","Nothing"] "Nothing" 3))
def cW:List T->Rs T:=val 2 3 gz
abbrev stF:Y1:=(xW (xG 2 c7 (ae (vr 0) (ae (o2 aS (cn (.int 80)) (o2 cP (cn (.int 10)) (vr 4))) ai))))
def E7:Y1:=
 (aF (dq (cl fB (ae (vr 0) (ae (cn (.int 0)) (ae (cn (.int 4)) ai)))) (gN 1)) (aF (ph 2 "Sketch" cH (ae (vr 1) ai)) (aF (ph 3 "Sketch" cH (ae (vr 1) ai)) (aF (gP (iR (ae (o2 aS (cn (.int 1)) (cl az (ae (vr 0) (ae (cn (.int 70)) (ae (cn (.int 4)) ai))))) ai)) (gN 4) stF) (aF (kS 2 (dq (cl d9 (ae (vr 1) (ae (vr 2) ai))) (gN 5))) (aF (gC (tb (o2 IB (cn (.bl ZD)) (fL (iR (ae (cn (.int 4)) ai)) [ZB,ZA 2] (gN 0) bT (cl cW (ae (vr 0) (ae (vr 1) ai)))))) (aM (cn (.bl ZD))) sN) (aF (gC (tb (o2 v8 (cl d9 (ae (vr 1) (ae (vr 2) ai))) (vr 5))) (aM (cn (.bl ZD))) sN) (aM (cY (o2 kn (ln 3 (nj "Sketch" "record" aE (vr 3) ai)) (vr 1)) (o2 kn (ln 3 (nj "Sketch" "counts" bh (vr 3) ai)) (ba (ae (cn (.int 0)) (ae (cn (.int 0)) ai)))))))))))))
def m_law:List T->Rs T:=val 1 6 E7
section
variable (P:Qg)(w:QP)(base:ZH)
abbrev xR:ZF:=top 17
theorem yf(F:fh K mg "is_long" xR ["thing","least","most"])(B:Bl mg):Cl P w K mg base 1 "is_long" 3 aV:=
 aP ["thing","least","most"] F λd f c A o s H E hr x=>(ar (aC (dW (BX B.b_isinstance B.b_tuple dj (af 0)) (eh (vh zK zK (af 1) (cE cv B.b_len Ru (ag (af 0) ah)) (af 2))))))
abbrev vA:ZF:=top 15
theorem vU(F:fh K mg "is_whole" vA ["thing"])(B:Bl mg):Cl P w K mg base 1 "is_whole" 1 iM:=
 aP ["thing"] F λd f c A o s H E hr x=>(ar (aC (dW (BX B.b_isinstance B.b_int nC (af 0)) (eh (IT (BX B.b_isinstance B.b_bool uW (af 0)))))))
abbrev tE:ZF:=top 16
theorem ue(F:fh K mg "is_within" tE ["thing","least","most"])(aaJ:Cl P w K mg base 1 "is_whole" 1 iM):Cl P w K mg base 2 "is_within" 3 a0:=
 aP ["thing","least","most"] F λd f c A o s H E hr x=>(ar (aC (dW (aK aaJ hr (ag (af 0) ah)) (eh (vh zK zK (af 1) (af 0) (af 2))))))
abbrev xQ:ZF:=top 20
theorem ye(F:fh K mg "is_pace" xQ ["slow","fast"])(aa2:Cl P w K mg base 2 "is_within" 3 a0)(C:Cs mg):Cl P w K mg base 3 "is_pace" 2 fZ:=
 aP ["slow","fast"] F λd f c A o s H E hr x=>(ar (aC (dW (aK aa2 hr (ag (af 0) (ag aj (ag (qI C.SLOWEST) ah)))) (eh (aK aa2 hr (ag (af 1) (ag (af 0) (ag (qI C.SLOWEST) ah))))))))
abbrev vz:ZF:=top 18
abbrev v5:List Str:=["numbers"]
theorem C2(F:fh K mg "rises" vz ["numbers"])(B:Bl mg):Cl P w K mg base 1 "rises" 1 kg:=
 aP v5 F λd f c A o s H E hr x=>(ar (aC (cE (uS rfl) B.b_all boot_all (ag (dU ["k","numbers"] v5 vz (cL B.b_range (ag (ay gR (cE cv B.b_len Ru (ag (af 0) ah)) aj) ah)) (λd _ _ _ _ _=>⟨(aq 0 d),bQ,(iA vR (aA (af 1) (af 0)) (aA (af 1) (ay aN (af 0) aj)))⟩)) ah))))
abbrev i8:ZF:=top 19
abbrev jf:List Str:=["thing"]
theorem nQ(F:fh K mg "are_readings" i8 ["thing"])(aa3:Cl P w K mg base 1 "is_long" 3 aV)(aaP:Cl P w K mg base 1 "rises" 1 kg)(aa2:Cl P w K mg base 2 "is_within" 3 a0)(B:Bl mg)(C:Cs mg):Cl P w K mg base 3 "are_readings" 1 bS:=
 aP jf F λd f c A o s H E hr x=>(ak (cV (fw (dD (aK aa3 hr (ag (af 0) (ag aj (ag (qI C.MOST_READINGS) ah)))))) (ar (aC lE)) bW) (ar (aC (dW (cE (uS rfl) B.b_all boot_all (ag (dU ["part"] jf i8 (cR (af 0)) (λd _ _ _ _ _=>⟨(aq 0 d),bQ,(aK aa2 hr (ag (af 0) (ag aj (ag (qI C.LAST_READING) ah))))⟩)) ah)) (eh (aK aaP hr (ag (af 0) ah)))))))
abbrev vD:ZF:=top 21
theorem vX(F:fh K mg "is_clock" vD ["thing"])(aa3:Cl P w K mg base 1 "is_long" 3 aV)(aaN:Cl P w K mg base 3 "is_pace" 2 fZ)(aao:Cl P w K mg base 3 "are_readings" 1 bS):Cl P w K mg base 4 "is_clock" 1 dy:=
 aP ["thing"] F λd f c A o s H E hr x=>(ar (aC (dW (aK aa3 hr (ag (af 0) (ag aj (ag aj ah)))) (dW (aK aaN hr (ag (aA (af 0) aj) (ag (aA (af 0) aj) ah))) (eh (aK aao hr (ag (aA (af 0) aj) ah)))))))
abbrev kF:ZF:=top 22
abbrev kJ:List Str:=["thing"]
theorem qX(F:fh K mg "are_clocks" kF ["thing"])(aa3:Cl P w K mg base 1 "is_long" 3 aV)(aaK:Cl P w K mg base 4 "is_clock" 1 dy)(B:Bl mg)(C:Cs mg):Cl P w K mg base 5 "are_clocks" 1 dH:=
 aP kJ F λd f c A o s H E hr x=>(ar (aC (dW (aK aa3 hr (ag (af 0) (ag aj (ag (qI C.MOST_CLOCKS) ah)))) (eh (cE (uS rfl) B.b_all boot_all (ag (dU ["part"] kJ kF (cR (af 0)) (λd _ _ _ _ _=>⟨(aq 0 d),bQ,(aK aaK hr (ag (af 0) ah))⟩)) ah))))))
abbrev vB:ZF:=top 23
theorem vV(F:fh K mg "is_event" vB ["clocks","thing"])(aa2:Cl P w K mg base 2 "is_within" 3 a0)(aa3:Cl P w K mg base 1 "is_long" 3 aV)(B:Bl mg):Cl P w K mg base 3 "is_event" 2 cN:=
 aP ["clocks","thing"] F λd f c A o s H E hr x=>(ak (cV (rA (sV (fw (dD (aK aa3 hr (ag (af 1) (ag aj (ag aj ah)))))) (og (fw (dD (aK aa2 hr (ag (aA (af 1) aj) (ag aj (ag (ay gR (cE cv B.b_len Ru (ag (af 0) ah)) aj) ah))))))))) (ar (aC lE)) bW) (ar (aC (aK aa2 hr (ag (aA (af 1) aj) (ag aj (ag (ay gR (cE cv B.b_len Ru (ag (aA (aA (af 0) (aA (af 1) aj)) aj) ah)) aj) ah)))))))
abbrev vC:ZF:=top 24
theorem vW(F:fh K mg "is_delay" vC ["least","most"])(aa2:Cl P w K mg base 2 "is_within" 3 a0)(C:Cs mg):Cl P w K mg base 3 "is_delay" 2 dY:=
 aP ["least","most"] F λd f c A o s H E hr x=>(ar (aC (dW (aK aa2 hr (ag (af 0) (ag aj (ag (qI C.LONGEST) ah)))) (eh (HS (iA rQ (af 1) cy) (eh (aK aa2 hr (ag (af 1) (ag (af 0) (ag (qI C.LONGEST) ah))))))))))
abbrev tG:ZF:=top 25
theorem ug(F:fh K mg "is_letter" tG ["clocks","thing"])(aac:Cl P w K mg base 3 "is_event" 2 cN)(aa3:Cl P w K mg base 1 "is_long" 3 aV)(aaL:Cl P w K mg base 3 "is_delay" 2 dY):Cl P w K mg base 4 "is_letter" 2 b8:=
 aP ["clocks","thing"] F λd f c A o s H E hr x=>(ak (cV (rA (sV (fw (dD (aK aa3 hr (ag (af 1) (ag aj (ag aj ah)))))) (og (fw (dD (aK aaL hr (ag (aA (af 1) aj) (ag (aA (af 1) aj) ah)))))))) (ar (aC lE)) bW) (ar (aC (dW (aK aac hr (ag (af 0) (ag (aA (af 1) aj) ah))) (dW (aK aac hr (ag (af 0) (ag (aA (af 1) aj) ah))) (eh (iA (CV (lY hr)) (aA (af 1) aj) (aA (af 1) aj))))))))
abbrev jo:ZF:=top 26
abbrev jB:List Str:=["clocks","thing"]
theorem pE(F:fh K mg "are_letters" jo ["clocks","thing"])(aa3:Cl P w K mg base 1 "is_long" 3 aV)(aaD:Cl P w K mg base 4 "is_letter" 2 b8)(B:Bl mg)(C:Cs mg):Cl P w K mg base 5 "are_letters" 2 dh:=
 aP jB F λd f c A o s H E hr x=>(ar (aC (dW (aK aa3 hr (ag (af 1) (ag aj (ag (qI C.MOST_LETTERS) ah)))) (eh (cE (uS rfl) B.b_all boot_all (ag (dU ["part","clocks"] jB jo (cR (af 1)) (λd _ _ _ _ _=>⟨(aq 0 d),bQ,(aK aaD hr (ag (af 1) (ag (af 0) ah)))⟩)) ah))))))
abbrev tF:ZF:=top 27
theorem uf(F:fh K mg "is_record" tF ["thing"])(aa3:Cl P w K mg base 1 "is_long" 3 aV)(aaz:Cl P w K mg base 5 "are_clocks" 1 dH)(aav:Cl P w K mg base 5 "are_letters" 2 dh):Cl P w K mg base 6 "is_record" 1 dw:=
 aP ["thing"] F λd f c A o s H E hr x=>(ar (aC (dW (aK aa3 hr (ag (af 0) (ag aj (ag aj ah)))) (dW (aK aaz hr (ag (aA (af 0) aj) ah)) (eh (aK aav hr (ag (aA (af 0) aj) (ag (aA (af 0) aj) ah))))))))
abbrev o5:ZF:=top 28
theorem pB(F:fh K mg "need_record" o5 ["thing"])(aaE:Cl P w K mg base 6 "is_record" 1 dw)(S:Xs K mg ac al bi bn bv ca):Cl P w K mg base 7 "need_record" 1 aG:=
 aP ["thing"] F λd f c A o s H E hr x=>(ar (cV (fw (dD (aK aaE hr (ag (af 0) ah)))) (ar (gZ S.o_NoRecord S.m_NoRecord)) bW))
abbrev gb:ZF:=cU (top 56) 0
abbrev la:List Str:=["self","record"]
theorem kQ:bo la ["self","record"] (ao gb):=fsc
theorem k9(F:n6 K "Sketch" "__init__" "Sketch.__init__" gb ["self","record"])(aa0:Cl P w K mg base 7 "need_record" 1 aG)(ci:bX K mg):Mm P w K mg base 8 "Sketch" "__init__" 2 cH:=
 rW F kQ rfl λf c A o s H E hr x=>(eC (rC (iy (aK aa0 hr (ag (af 1) ah)))) (eC (xF 0 ci.k ci.a_past (ag (a8 (ag cy (ag (af 1) ah))) ah)) (et (xF 0 ci.k ci.a_ahead ah))))
abbrev tK:ZF:=top 69
theorem uq(F:fh K mg "_law_cell" tK ["_law_script","_law_k"])(B:Bl mg):Cl P w K mg base 1 "_law_cell" 2 fG:=
 aP ["_law_script","_law_k"] F λd f c A o s H E hr x=>(ak (cV (bc (jx (lY hr)) (af 0) (iz ah)) (ar (aC (ay dQ aj (af 1)))) bW) (ar (aC (ay aN (aA (af 0) (ay kY (af 1) (cE cv B.b_len Ru (ag (af 0) ah)))) (ay dQ aj (ay oq (af 1) (cE cv B.b_len Ru (ag (af 0) ah))))))))
abbrev qO:ZF:=top 70
theorem qY(F:fh K mg "_law_drawn" qO ["_law_script","_law_k","_law_many"])(aaF:Cl P w K mg base 1 "_law_cell" 2 fG):Cl P w K mg base 2 "_law_drawn" 3 az:=
 aP ["_law_script","_law_k","_law_many","_law_cell_here"] F λd f c A o s H E hr x=>(by(apply ak;exact(aO (ay kY (ay aN (ay dQ (ay kY (aK aaF hr (ag (af 0) (ag (af 1) ah))) aj) aj) (ay dQ aj (ay aN (af 1) aj))) aj) (aq 3 d));apply ak;exact(aO (ay kY (ay aN (ay dQ (af 3) (af 3)) (ay oq (af 3) aj)) aj) (aq 3 d));exact ar (aC (ay kY (ay oq (ay kY (ay aN (ay dQ (af 3) (af 3)) (ay oq (af 3) aj)) aj) aj) (af 2)))))
abbrev jr:ZF:=top 73
abbrev jD:List Str:=["_law_clocks","_law_found","_law_number","_law_clock_here"]
theorem pH(F:fh K mg "_law_events" jr ["_law_clocks"])(B:Bl mg):Cl P w K mg base 1 "_law_events" 1 cb:=
 aP jD F λd f c A o s H E hr x=>(by(apply ak;exact(aO (iz ah) (aq 1 d));apply ak;exact(dE rfl (lA B.b_enumerate (ag (af 0) ah)) (oh rfl (d6 (aq 2 d) (d6 (aq 3 d) lC))) (ar (aO (ay aN (af 1) (dU ["_law_place","_law_number"] jD jr (cL B.b_range (ag (cE cv B.b_len Ru (ag (aA (af 3) aj) ah)) ah)) (λd _ _ _ _ _=>⟨(aq 0 d),bQ,(a8 (ag (af 1) (ag (af 0) ah)))⟩))) (aq 1 d))));exact ar (aC (af 1))))
abbrev o8:ZF:=top 72
theorem pG(F:fh K mg "_law_letter" o8 ["_law_script","_law_at","_law_clocks"])(aaa:Cl P w K mg base 1 "_law_events" 1 cb)(aa1:Cl P w K mg base 2 "_law_drawn" 3 az)(B:Bl mg):Cl P w K mg base 3 "_law_letter" 3 b9:=
 aP ["_law_script","_law_at","_law_clocks","_law_row","_law_place","_law_other","_law_least","_law_most"] F λd f c A o s H E hr x=>(by(apply ak;exact(aO (aK aaa hr (ag (af 2) ah)) (aq 3 d));apply ak;exact(cV (bc vR (cE cv B.b_len Ru (ag (af 3) ah)) aj) (ar (aC cy)) bW);apply ak;exact(aO (aK aa1 hr (ag (af 0) (ag (af 1) (ag (cE cv B.b_len Ru (ag (af 3) ah)) ah)))) (aq 4 d));apply ak;exact(aO (ay kY (ay aN (ay aN (af 4) aj) (aK aa1 hr (ag (af 0) (ag (ay aN (af 1) aj) (ag (ay gR (cE cv B.b_len Ru (ag (af 3) ah)) aj) ah))))) (cE cv B.b_len Ru (ag (af 3) ah))) (aq 5 d));apply ak;exact(aO (aK aa1 hr (ag (af 0) (ag (ay aN (af 1) aj) (ag aj ah)))) (aq 6 d));apply ak;exact(aO (y8 (bc (jx (lY hr)) (aK aa1 hr (ag (af 0) (ag (ay aN (af 1) aj) (ag aj ah)))) aj) cy (ay aN (af 6) (aK aa1 hr (ag (af 0) (ag (ay aN (af 1) aj) (ag aj ah)))))) (aq 7 d));exact ar (aC (a8 (ag (aA (af 3) (af 4)) (ag (aA (af 3) (af 5)) (ag (af 6) (ag (af 7) ah))))))))
abbrev qP:ZF:=top 71
theorem qZ(F:fh K mg "_law_clock" qP ["_law_script","_law_at"])(aa1:Cl P w K mg base 2 "_law_drawn" 3 az)(B:Bl mg):Cl P w K mg base 3 "_law_clock" 2 cG:=
 aP ["_law_script","_law_at","_law_slow","_law_readings","_law_k"] F λd f c A o s H E hr x=>(by(apply ak;exact(aO (ay aN aj (aK aa1 hr (ag (af 0) (ag (af 1) (ag aj ah))))) (aq 2 d));apply ak;exact(aO (a8 (ag (aK aa1 hr (ag (af 0) (ag (ay aN (af 1) aj) (ag aj ah)))) ah)) (aq 3 d));apply ak;exact(dE rfl (cL B.b_range (ag (aK aa1 hr (ag (af 0) (ag (ay aN (af 1) aj) (ag aj ah)))) ah)) (aq 4 d) (ar (aO (ay aN (af 3) (a8 (ag (ay aN (ay aN (aA (af 3) (jl aj)) aj) (aK aa1 hr (ag (af 0) (ag (ay aN (ay aN (af 1) aj) (af 4)) (ag aj ah))))) ah))) (aq 3 d))));exact ar (aC (a8 (ag (af 2) (ag (ay aN (af 2) (aK aa1 hr (ag (af 0) (ag (ay aN (af 1) aj) (ag aj ah))))) (ag (af 3) ah)))))))
abbrev jq:ZF:=top 74
abbrev jC:List Str:=["_law_script","_law_at","_law_most","_law_clocks","_law_letters","_law_k","_law_letter_here"]
theorem pF(F:fh K mg "_law_record" jq ["_law_script","_law_at","_law_most"])(aa1:Cl P w K mg base 2 "_law_drawn" 3 az)(aab:Cl P w K mg base 3 "_law_letter" 3 b9)(aaA:Cl P w K mg base 3 "_law_clock" 2 cG)(B:Bl mg):Cl P w K mg base 4 "_law_record" 3 fB:=
 aP jC F λd f c A o s H E hr x=>(by(apply ak;exact(aO (oR jQ B.b_tuple dj (ag (dU ["_law_k","_law_script","_law_at"] jC jq (cL B.b_range (ag (ay aN aj (aK aa1 hr (ag (af 0) (ag (af 1) (ag aj ah))))) ah)) (λd _ _ _ _ _=>⟨(aq 0 d),bQ,(aK aaA hr (ag (af 1) (ag (ay aN (ay aN (af 2) aj) (ay dQ aj (af 0))) ah)))⟩)) ah)) (aq 3 d));apply ak;exact(aO (iz ah) (aq 4 d));apply ak;exact(dE rfl (cL B.b_range (ag (aK aa1 hr (ag (af 0) (ag (ay aN (af 1) aj) (ag (ay aN (af 2) aj) ah)))) ah)) (aq 5 d) (ak (aO (aK aab hr (ag (af 0) (ag (ay aN (ay aN (af 1) aj) (ay dQ aj (af 5))) (ag (af 3) ah)))) (aq 6 d)) (ar (aO (ay aN (af 4) (ay dQ (iz (ag (af 6) ah)) (oR LD B.b_int nC (ag (iA lN (af 6) cy) ah)))) (aq 4 d)))));exact ar (aC (a8 (ag (af 3) (ag (oR jQ B.b_tuple dj (ag (af 4) ah)) ah))))))
abbrev rK:ZF:=top 31
abbrev rS:List Str:=["record","told","number","clock"]
theorem A2(F:fh K mg "events" rK ["record"])(aa0:Cl P w K mg base 7 "need_record" 1 aG)(B:Bl mg):Cl P w K mg base 8 "events" 1 gg:=
 aP rS F λd f c A o s H E hr x=>(by(apply ak;exact(bD (aK aa0 hr (ag (af 0) ah)));apply ak;exact(g7 1 d ah);apply ak;exact(dE rfl (lA B.b_enumerate (ag (aA (af 0) aj) ah)) (oh rfl (d6 (aq 2 d) (d6 (aq 3 d) lC))) (ar (sX 1 (dU ["k","number"] rS rK (cL B.b_range (ag (cE cv B.b_len Ru (ag (aA (af 3) aj) ah)) ah)) (λd _ _ _ _ _=>⟨(aq 0 d),bQ,(a8 (ag (af 1) (ag (af 0) ah)))⟩)))));exact ar (fy 1 (aC (af 1)))))
abbrev tH:ZF:=top 49
theorem uh(F:fh K mg "is_better" tH ["best","bound","ahead"]):Cl P w K mg base 1 "is_better" 3 dz:=
 aP ["best","bound","ahead","known"] F λd f c A o s H E hr x=>(ak (aO (y9 (IC hr) (af 0) (aA (af 1) aj)) (aq 3 d)) (ar (aC (HS (iA rQ (af 3) cy) (eh (iA vR (ay aN (aA (af 2) aj) (aA (af 1) aj)) (aA (af 3) aj)))))))
abbrev mi:ZF:=top 48
abbrev mI:List Str:=["limits","starts","best","moved","number","bound","ahead","walk","passed"]
theorem A1(F:fh K mg "settle" mi ["limits","starts"])(aaG:Cl P w K mg base 1 "is_better" 3 dz)(B:Bl mg):Cl P w K mg base 2 "settle" 2 gf:=
 aP mI F λd f c A o s H E hr x=>(by(apply ak;exact(BU 2 (hu8 hr) rfl B.b_dict d (dU ["event"] mI mi (cR (af 1)) (λd _ _ _ _ _=>⟨(aq 0 d),bQ,(a8 (ag (af 0) (ag (a8 (ag aj (ag (iz ah) ah))) ah)))⟩)));apply ak;exact(aO lE (aq 3 d));apply ak;exact(rB FU (dD (af 3)) (ak (aO lE (aq 3 d)) (ar (dE rfl (lA B.b_enumerate (ag (af 0) ah)) (oh rfl (d6 (aq 4 d) (d6 (aq 5 d) lC))) (by(apply ak;exact(aO (lD 2 (y9 (IC hr) (af 2) (aA (af 5) aj))) (aq 6 d));apply ak;exact(cV (rA (sV (bc rQ (af 6) cy) (og (fw (xC 2 (dD (aK aaG hr (ag (af 2) (ag (af 5) (ag (af 6) ah)))))))))) (ar IS) bW);apply ak;exact(aO (ay aN (aA (af 6) aj) (iz (ag (af 4) ah))) (aq 7 d));apply ak;exact(IQ 8 (N':=["step","limits"]) (src:=[ZB,ZA 0]) rfl (LcScope.by (N:=mI) (names:=(ao mi).names) rfl rfl rfl (by decide+kernel)) (cR (af 7)) (λ_ _ _ _ _=>⟨(aq 0 (show Tb (["step","limits"]:List Str)by decide+kernel)),bQ,(aA (aA (af 1) (af 0)) aj)⟩) d);apply ak;exact(cV (bc (Ih (yI hr)) (aA (af 5) aj) (af 8)) (ar (aC (a8 (ag cy (ag (hV (af 7) (g8 (AF (yI hr) (af 8) (aA (af 5) aj))) g9) ah))))) bW);apply ak;exact(Ft 2 (IC hr) (aA (af 5) aj) (a8 (ag (ay aN (aA (af 6) aj) (aA (af 5) aj)) (ag (af 7) ah))));exact ar (aO lE (aq 3 d))))))));exact ar (fy 2 (aC (a8 (ag (af 2) (ag cy ah)))))))
abbrev gD:ZF:=top 51
abbrev gE:List Str:=["record","limits","places","best"]
theorem lQ(F:fh K mg "greatest_world" gD ["record","limits"])(aap:Cl P w K mg base 8 "events" 1 gg)(aaq:Cl P w K mg base 2 "settle" 2 gf)(B:Bl mg):Cl P w K mg base 9 "greatest_world" 2 dG:=
 aP gE F λd f c A o s H E hr x=>(by(apply ak;exact(aO (aK aap hr (ag (af 0) ah)) (aq 2 d));apply ak;exact(aO (aA (aK aaq hr (ag (af 1) (ag (af 2) ah))) aj) (aq 3 d));apply ak;exact(cV (bc rQ (af 3) cy) (ar (aC cy)) bW);exact ar (aC (oR jQ B.b_tuple dj (ag (dU ["event","best"] gE gD (cR (af 2)) (λd _ _ _ _ _=>⟨(aq 0 d),bQ,(aA (sZ (IC hr) (af 1) (af 0)) aj)⟩)) ah)))))
abbrev kP:ZF:=top 44
theorem k8(F:fh K mg "bounds_of_clock" kP ["number","clock"])(B:Bl mg):Cl P w K mg base 1 "bounds_of_clock" 2 cF:=
 aP ["number","clock","readings","told","k","first","second","steps"] F λd f c A o s H E hr x=>(by(apply ak;exact(aO (aA (af 1) aj) (aq 2 d));apply ak;exact(g7 3 d ah);apply ak;exact(dE rfl (cL B.b_range (ag (ay gR (cE cv B.b_len Ru (ag (af 2) ah)) aj) ah)) (aq 4 d) (by(apply ak;exact(aO (a8 (ag (af 0) (ag (af 4) ah))) (aq 5 d));apply ak;exact(aO (a8 (ag (af 0) (ag (ay aN (af 4) aj) ah))) (aq 6 d));apply ak;exact(aO (ay gR (aA (af 2) (ay aN (af 4) aj)) (aA (af 2) (af 4))) (aq 7 d));apply ak;exact(fU 3 (a8 (ag (af 5) (ag (af 6) (ag (ay dQ (af 7) (aA (af 1) aj)) ah)))));exact ar (fU 3 (a8 (ag (af 6) (ag (af 5) (ag (ay dQ (jl (af 7)) (aA (af 1) aj)) ah))))))));exact ar (fy 3 (aC (af 3)))))
abbrev ku:ZF:=top 45
theorem kx(F:fh K mg "bounds_of_letter" ku ["letter"]):Cl P w K mg base 1 "bounds_of_letter" 1 cq:=
 aP ["letter","told"] F λd f c A o s H E hr x=>(by(apply ak;exact(g7 1 d (ag (a8 (ag (aA (af 0) aj) (ag (aA (af 0) aj) (ag (jl (aA (af 0) aj)) ah)))) ah));apply ak;exact(cV (bc lN (aA (af 0) aj) cy) (ar (fU 1 (a8 (ag (aA (af 0) aj) (ag (aA (af 0) aj) (ag (aA (af 0) aj) ah)))))) bW);exact ar (fy 1 (aC (af 1)))))
abbrev AR:ZF:=top 46
theorem A3(F:fh K mg "bounds" AR ["record"])(aa0:Cl P w K mg base 7 "need_record" 1 aG)(aah:Cl P w K mg base 1 "bounds_of_clock" 2 cF)(aae:Cl P w K mg base 1 "bounds_of_letter" 1 cq)(B:Bl mg):Cl P w K mg base 8 "bounds" 1 gh:=
 aP ["record","told","number","clock","letter"] F λd f c A o s H E hr x=>(by(apply ak;exact(bD (aK aa0 hr (ag (af 0) ah)));apply ak;exact(g7 1 d ah);apply ak;exact(dE rfl (lA B.b_enumerate (ag (aA (af 0) aj) ah)) (oh rfl (d6 (aq 2 d) (d6 (aq 3 d) lC))) (ar (sX 1 (aK aah hr (ag (af 2) (ag (af 3) ah))))));apply ak;exact(dE rfl (cR (aA (af 0) aj)) (aq 4 d) (ar (sX 1 (aK aae hr (ag (af 4) ah)))));exact ar (fy 1 (aC (af 1)))))
abbrev Cg:ZF:=top 52
theorem CY(F:fh K mg "world" Cg ["record"])(aaj:Cl P w K mg base 9 "greatest_world" 2 dG)(aar:Cl P w K mg base 8 "bounds" 1 gh):Cl P w K mg base 10 "world" 1 kc:=
 aP ["record"] F λd f c A o s H E hr x=>(ar (aC (aK aaj hr (ag (af 0) (ag (aK aar hr (ag (af 0) ah)) ah)))))
abbrev tJ:ZF:=top 53
theorem uj(F:fh K mg "has_world" tJ ["record"])(aaQ:Cl P w K mg base 10 "world" 1 kc):Cl P w K mg base 11 "has_world" 1 a7:=
 aP ["record"] F λd f c A o s H E hr x=>(ar (aC (iA lN (aK aaQ hr (ag (af 0) ah)) cy)))
abbrev qN:ZF:=top 29
theorem qW(F:fh K mg "need_event" qN ["record","thing"])(aac:Cl P w K mg base 3 "is_event" 2 cN)(S:Xs K mg ac al bi bn bv ca):Cl P w K mg base 4 "need_event" 2 c8:=
 aP ["record","thing"] F λd f c A o s H E hr x=>(ar (cV (fw (dD (aK aac hr (ag (aA (af 0) aj) (ag (af 1) ah))))) (ar (gZ S.o_NoEvent S.m_NoEvent)) bW))
abbrev ib:ZF:=top 33
abbrev iq:List Str:=["record","event","told"]
theorem mC(F:fh K mg "known_at_once" ib ["record","event"]):Cl P w K mg base 1 "known_at_once" 2 df:=
 aP iq F λd f c A o s H E hr x=>(by(apply ak;exact(y6 2 (N':=["letter","event"]) (src:=[ZB,ZA 1]) rfl (LcScope.by (N:=iq) (names:=(ao ib).names) rfl rfl rfl (by decide+kernel)) (cR (aA (af 0) aj)) (λ_ _ _ _ _=>⟨(aq 0 (show Tb (["letter","event"]:List Str)by decide+kernel)),(BV (bc (jx (lY hr)) (aA (af 0) aj) (af 1))),(aA (af 0) aj)⟩) d);apply ak;exact(cV (bc Ii (aA (af 1) aj) aj) (ar (fU 2 (a8 (ag (aA (af 1) aj) (ag (ay gR (aA (af 1) aj) aj) ah))))) bW);exact ar (fy 2 (aC (af 2)))))
abbrev Ci:ZF:=top 34
theorem C3(F:fh K mg "knows" Ci ["record","event"])(aa0:Cl P w K mg base 7 "need_record" 1 aG)(aa9:Cl P w K mg base 4 "need_event" 2 c8)(aal:Cl P w K mg base 1 "known_at_once" 2 df)(B:Bl mg):Cl P w K mg base 8 "knows" 2 c9:=
 aP ["record","event","known","place","other"] F λd f c A o s H E hr x=>(by(apply ak;exact(bD (aK aa0 hr (ag (af 0) ah)));apply ak;exact(bD (aK aa9 hr (ag (af 0) (ag (af 1) ah))));apply ak;exact(g7 2 d (ag (af 1) ah));apply ak;exact(aO aj (aq 3 d));apply ak;exact(rB FU (bc vR (af 3) (lD 2 (cE cv B.b_len Ru (ag (af 2) ah)))) (ak (dE rfl (cR (aK aal hr (ag (af 0) (ag (lD 2 (aA (af 2) (af 3))) ah)))) (aq 4 d) (ar (cV (xC 2 (bc (pz (yI hr)) (af 4) (af 2))) (ar (fU 2 (af 4))) bW))) (ar (Fv 3 d aj))));exact ar (fy 2 (aC (cE (yP (hu70 hr)) B.b_sorted boot_sorted (ag (af 2) ah))))))
abbrev o4:ZF:=top 35
abbrev pP:List Str:=["record","event","clocks"]
theorem C0(F:fh K mg "stamp" o4 ["record","event"])(aag:Cl P w K mg base 8 "knows" 2 c9)(B:Bl mg):Cl P w K mg base 9 "stamp" 2 ke:=
 aP pP F λd f c A o s H E hr x=>(ak (aO (dU ["other"] pP o4 (cR (aK aag hr (ag (af 0) (ag (af 1) ah)))) (λd _ _ _ _ _=>⟨(aq 0 d),bQ,(aA (af 0) aj)⟩)) (aq 2 d)) (ar (aC (oR jQ B.b_tuple dj (ag (dU ["number","clocks"] pP o4 (cL B.b_range (ag (cE cv B.b_len Ru (ag (aA (af 0) aj) ah)) ah)) (λd _ _ _ _ _=>⟨(aq 0 d),bQ,(AG (yI hr) (af 1) (af 0))⟩)) ah)))))
abbrev ie:ZF:=cU (top 56) 1
abbrev mJ:List Str:=["self"]
theorem mm:bo mJ ["self"] (ao ie):=fsc
theorem mE(F:n6 K "Sketch" "record" "Sketch.record" ie ["self"])(ci:bX K mg):Ml P w K mg base 1 "Sketch" "record" aE:=
 Dk F mm rfl λf c A o s H E hr x=>(ar (aC (aA (aA (oQ ci.k ci.a_past (af 0)) (jl aj)) aj)))
abbrev ju:ZF:=cU (top 56) 6
abbrev pR:List Str:=["self","step"]
theorem sc_Sketch_good:bo pR ["self"] (ao ju):=fsc
theorem pJ(F:n6 K "Sketch" "good" "Sketch.good" ju ["self"])(aa4:Cl P w K mg base 11 "has_world" 1 a7)(B:Bl mg)(ci:bX K mg):Ml P w K mg base 12 "Sketch" "good" di:=
 Dk F sc_Sketch_good rfl λf c A o s H E hr x=>(ak (dE rfl (Fw B.b_reversed (ag (oQ ci.k ci.a_past (af 0)) ah)) (aq 1 sc_Sketch_good.nd) (ar (cV (dD (aK aa4 hr (ag (aA (af 1) aj) ah))) (ar (aC (aA (af 1) aj))) bW))) (ar (aC cy)))
abbrev ig:ZF:=cU (top 56) 9
abbrev mK:List Str:=["self"]
theorem mn:bo mK ["self"] (ao ig):=fsc
theorem mF(F:n6 K "Sketch" "counts" "Sketch.counts" ig ["self"])(B:Bl mg)(ci:bX K mg):Ml P w K mg base 1 "Sketch" "counts" bh:=
 Dk F mn rfl λf c A o s H E hr x=>(ar (aC (a8 (ag (ay gR (cE cv B.b_len Ru (ag (oQ ci.k ci.a_past (af 0)) ah)) aj) (ag (cE cv B.b_len Ru (ag (oQ ci.k ci.a_ahead (af 0)) ah)) ah)))))
abbrev hZ:ZF:=top 36
abbrev ip:List Str:=["record","places","known","told","one","other"]
theorem my(F:fh K mg "unknown_pairs" hZ ["record"])(aap:Cl P w K mg base 8 "events" 1 gg)(aag:Cl P w K mg base 8 "knows" 2 c9)(B:Bl mg):Cl P w K mg base 9 "unknown_pairs" 1 cz:=
 aP ip F λd f c A o s H E hr x=>(by(apply ak;exact(aO (aK aap hr (ag (af 0) ah)) (aq 1 d));apply ak;exact(aO (oR (HA (hu8 hr) rfl) B.b_dict uV (ag (dU ["event","record"] ip hZ (cR (af 1)) (λd _ _ _ _ _=>⟨(aq 0 d),bQ,(a8 (ag (af 0) (ag (aK aag hr (ag (af 1) (ag (af 0) ah))) ah)))⟩)) ah)) (aq 2 d));apply ak;exact(g7 3 d ah);apply ak;exact(dE rfl (cR (af 1)) (aq 4 d) (ar (dE rfl (cR (af 1)) (aq 5 d) (ar (cV (rA (sW (bc (Ka (hu0 hr)) (af 4) (af 5)) (sW (bc (pz (yI hr)) (af 4) (sZ (IC hr) (af 2) (af 5))) (vf (bc (pz (yI hr)) (af 5) (sZ (IC hr) (af 2) (af 4))))))) (ar (fU 3 (a8 (ag (af 4) (ag (af 5) ah))))) bW)))));exact ar (fy 3 (aC (af 3)))))
abbrev o6:ZF:=top 30
theorem pC(F:fh K mg "need_number" o6 ["many","thing"])(aa2:Cl P w K mg base 2 "is_within" 3 a0)(S:Xs K mg ac al bi bn bv ca):Cl P w K mg base 3 "need_number" 2 bu:=
 aP ["many","thing"] F λd f c A o s H E hr x=>(ar (cV (fw (dD (aK aa2 hr (ag (af 1) (ag aj (ag (ay gR (af 0) aj) ah)))))) (ar (gZ S.o_NoNumber S.m_NoNumber)) bW))
abbrev qM:ZF:=top 54
theorem qV(F:fh K mg "need_world" qM ["record"])(aa4:Cl P w K mg base 11 "has_world" 1 a7)(S:Xs K mg ac al bi bn bv ca):Cl P w K mg base 12 "need_world" 1 bY:=
 aP ["record"] F λd f c A o s H E hr x=>(ar (cV (fw (dD (aK aa4 hr (ag (af 0) ah)))) (ar (gZ S.o_NoWorld S.m_NoWorld)) bW))
abbrev o7:ZF:=top 58
theorem pD(F:fh K mg "need_events" o7 ["record","one","other"])(aa0:Cl P w K mg base 7 "need_record" 1 aG)(aa9:Cl P w K mg base 4 "need_event" 2 c8):Cl P w K mg base 8 "need_events" 3 fA:=
 aP ["record","one","other"] F λd f c A o s H E hr x=>(by(apply ak;exact(bD (aK aa0 hr (ag (af 0) ah)));apply ak;exact(bD (aK aa9 hr (ag (af 0) (ag (af 1) ah))));exact ar (bD (aK aa9 hr (ag (af 0) (ag (af 2) ah))))))
abbrev xN:ZF:=top 60
theorem yc(F:fh K mg "most_of" xN ["walks","other"]):Cl P w K mg base 1 "most_of" 2 mO:=
 aP ["walks","other"] F λd f c A o s H E hr x=>(ar (aC (y8 (bc (Kb (IC hr)) (af 1) (af 0)) (aA (sZ (IC hr) (af 0) (af 1)) aj) cy)))
abbrev qL:ZF:=top 59
theorem qU(F:fh K mg "walks_from" qL ["record","one"])(aaq:Cl P w K mg base 2 "settle" 2 gf)(aar:Cl P w K mg base 8 "bounds" 1 gh):Cl P w K mg base 9 "walks_from" 2 fY:=
 aP ["record","one"] F λd f c A o s H E hr x=>(ar (aC (aA (aK aaq hr (ag (aK aar hr (ag (af 0) ah)) (ag (iz (ag (af 1) ah)) ah))) aj)))
abbrev nH:ZF:=top 61
theorem nP(F:fh K mg "most_between" nH ["record","one","other"])(aaw:Cl P w K mg base 8 "need_events" 3 fA)(aa6:Cl P w K mg base 12 "need_world" 1 bY)(aaO:Cl P w K mg base 1 "most_of" 2 mO)(aaB:Cl P w K mg base 9 "walks_from" 2 fY):Cl P w K mg base 13 "most_between" 3 cp:=
 aP ["record","one","other"] F λd f c A o s H E hr x=>(by(apply ak;exact(bD (aK aaw hr (ag (af 0) (ag (af 1) (ag (af 2) ah)))));apply ak;exact(bD (aK aa6 hr (ag (af 0) ah)));exact ar (aC (aK aaO hr (ag (aK aaB hr (ag (af 0) (ag (af 1) ah))) (ag (af 2) ah))))))
abbrev mj:ZF:=top 62
theorem mB(F:fh K mg "least_between" mj ["record","one","other"])(aa7:Cl P w K mg base 13 "most_between" 3 cp):Cl P w K mg base 14 "least_between" 3 dR:=
 aP ["record","one","other","most"] F λd f c A o s H E hr x=>(ak (aO (aK aa7 hr (ag (af 0) (ag (af 2) (ag (af 1) ah)))) (aq 3 d)) (ar (aC (y8 (bc rQ (af 3) cy) cy (jl (af 3))))))
abbrev nG:ZF:=top 64
theorem nN(F:fh K mg "span_between" nG ["record","one","other"])(aam:Cl P w K mg base 14 "least_between" 3 dR)(aa7:Cl P w K mg base 13 "most_between" 3 cp):Cl P w K mg base 15 "span_between" 3 cm:=
 aP ["record","one","other"] F λd f c A o s H E hr x=>(ar (aC (a8 (ag (aK aam hr (ag (af 0) (ag (af 1) (ag (af 2) ah)))) (ag (aK aa7 hr (ag (af 0) (ag (af 1) (ag (af 2) ah)))) ah)))))
abbrev vt:ZF:=top 65
abbrev v3:List Str:=["record","clock","many"]
theorem C1(F:fh K mg "spans" vt ["record","clock"])(aa0:Cl P w K mg base 7 "need_record" 1 aG)(aa5:Cl P w K mg base 3 "need_number" 2 bu)(aa6:Cl P w K mg base 12 "need_world" 1 bY)(aa8:Cl P w K mg base 15 "span_between" 3 cm)(B:Bl mg):Cl P w K mg base 16 "spans" 2 kf:=
 aP v3 F λd f c A o s H E hr x=>(by(apply ak;exact(bD (aK aa0 hr (ag (af 0) ah)));apply ak;exact(bD (aK aa5 hr (ag (cE cv B.b_len Ru (ag (aA (af 0) aj) ah)) (ag (af 1) ah))));apply ak;exact(bD (aK aa6 hr (ag (af 0) ah)));apply ak;exact(aO (cE cv B.b_len Ru (ag (aA (aA (aA (af 0) aj) (af 1)) aj) ah)) (aq 2 d));exact ar (aC (dU ["k","record","clock"] v3 vt (xE B.b_range (ag aj (ag (af 2) ah))) (λd _ _ _ _ _=>⟨(aq 0 d),bQ,(aK aa8 hr (ag (af 1) (ag (a8 (ag (af 2) (ag (ay gR (af 0) aj) ah))) (ag (a8 (ag (af 2) (ag (af 0) ah))) ah))))⟩)))))
abbrev kO:ZF:=top 66
theorem kZ(F:fh K mg "narrowed_letter" kO ["record","letter"])(aa8:Cl P w K mg base 15 "span_between" 3 cm)(B:Bl mg)(C:Cs mg):Cl P w K mg base 16 "narrowed_letter" 2 bF:=
 aP ["record","letter","span","most"] F λd f c A o s H E hr x=>(by(apply ak;exact(aO (aK aa8 hr (ag (af 0) (ag (aA (af 1) aj) (ag (aA (af 1) aj) ah)))) (aq 2 d));apply ak;exact(aO (y8 (rA (sV (bc rQ (aA (af 2) aj) cy) (og (bc Ii (aA (af 2) aj) (qI C.LONGEST))))) cy (aA (af 2) aj)) (aq 3 d));exact ar (aC (a8 (ag (aA (af 1) aj) (ag (aA (af 1) aj) (ag (cE (LC rfl) B.b_min boot_min (ag (aA (af 2) aj) (ag (qI C.LONGEST) ah))) (ag (af 3) ah))))))))
abbrev m9:ZF:=top 67
abbrev nh:List Str:=["record"]
theorem vS(F:fh K mg "narrowed" m9 ["record"])(aa6:Cl P w K mg base 12 "need_world" 1 bY)(aai:Cl P w K mg base 16 "narrowed_letter" 2 bF)(B:Bl mg):Cl P w K mg base 17 "narrowed" 1 dX:=
 aP nh F λd f c A o s H E hr x=>(ak (bD (aK aa6 hr (ag (af 0) ah))) (ar (aC (a8 (ag (aA (af 0) aj) (ag (oR jQ B.b_tuple dj (ag (dU ["letter","record"] nh m9 (cR (aA (af 0) aj)) (λd _ _ _ _ _=>⟨(aq 0 d),bQ,(aK aai hr (ag (af 1) (ag (af 0) ah)))⟩)) ah)) ah))))))
abbrev iD:ZF:=top 76
abbrev iJ:List Str:=["_law_record_here","_law_sketch","_law_row","_law_lists","_law_found","_law_told_here"]
theorem um(F:fh K mg "_law_told" iD ["_law_record_here","_law_sketch"])(aaa:Cl P w K mg base 1 "_law_events" 1 cb)(aa4:Cl P w K mg base 11 "has_world" 1 a7)(aaR:Cl P w K mg base 9 "stamp" 2 ke)(cr:Ml P w K mg base 1 "Sketch" "record" aE)(db:Ml P w K mg base 12 "Sketch" "good" di)(dl:Ml P w K mg base 1 "Sketch" "counts" bh)(aag:Cl P w K mg base 8 "knows" 2 c9)(aan:Cl P w K mg base 9 "unknown_pairs" 1 cz)(aaS:Cl P w K mg base 16 "spans" 2 kf)(aaM:Cl P w K mg base 17 "narrowed" 1 dX)(B:Bl mg)(ci:bX K mg):Cl P w K mg base 18 "_law_told" 2 d9:=
 aP iJ F λd f c A o s H E hr x=>(by(apply ak;exact(aO (aK aaa hr (ag (aA (af 0) aj) ah)) (aq 2 d));apply ak;exact(AB 3 d (FA (IU ["_law_event","_law_record_here"] iJ iD (cR (hV (af 2) g9 (g8 aj))) (λd _ _ _ _ _=>⟨(aq 0 d),(aK aag hr (ag (af 1) (ag (af 0) ah)))⟩)) (BY (BZ (aK aan hr (ag (af 0) ah)) FC))));apply ak;exact(y6 4 (N':=["_law_event","_law_record_here"]) (src:=[ZB,ZA 0]) rfl (LcScope.by (N:=iJ) (names:=(ao iD).names) rfl rfl rfl (by decide+kernel)) (cR (af 2)) (λ_ _ _ _ _=>⟨(aq 0 (show Tb (["_law_event","_law_record_here"]:List Str)by decide+kernel)),bQ,(aK aaR hr (ag (af 1) (ag (af 0) ah)))⟩) d);apply ak;exact(cV (dD (aK aa4 hr (ag (af 0) ah))) (ak (AE 3 (aK aaS hr (ag (af 0) (ag aj ah)))) (ar (fU 4 (aK aaM hr (ag (af 0) ah))))) bW);apply ak;exact(AD 3 5 rfl d (ak (fU 4 (BW 5 B.b_list)) (ar (fU 5 sY))));exact ar (fy 4 (aC (ay aN (af 4) (iz (ag (fV ci.k cr hr (af 1)) (ag (fV ci.k db hr (af 1)) (ag (fV ci.k dl hr (af 1)) ah)))))))))
abbrev ja:ZF:=cU (top 56) 2
abbrev nW:List Str:=["self","word","record"]
theorem nK:bo nW ["self","word","record"] (ao ja):=fsc
theorem nT(F:n6 K "Sketch" "go_on" "Sketch.go_on" ja ["self","word","record"])(aa4:Cl P w K mg base 11 "has_world" 1 a7)(ci:bX K mg):Mm P w K mg base 12 "Sketch" "go_on" 3 bw:=
 rW F nK rfl λf c A o s H E hr x=>(eC (rC (BQ 0 ci.k ci.a_past (a8 (ag (af 1) (ag (af 2) ah))))) (eC (xF 0 ci.k ci.a_ahead ah) (et (oS (iy (aK aa4 hr (ag (af 2) ah)))))))
abbrev lJ:ZF:=top 40
theorem lP(F:fh K mg "without_letter" lJ ["record","number"])(aa0:Cl P w K mg base 7 "need_record" 1 aG)(aa5:Cl P w K mg base 3 "need_number" 2 bu)(B:Bl mg):Cl P w K mg base 8 "without_letter" 2 bz:=
 aP ["record","number","letters"] F λd f c A o s H E hr x=>(by(apply ak;exact(bD (aK aa0 hr (ag (af 0) ah)));apply ak;exact(aO (aA (af 0) aj) (aq 2 d));apply ak;exact(bD (aK aa5 hr (ag (cE cv B.b_len Ru (ag (af 2) ah)) (ag (af 1) ah))));exact ar (aC (a8 (ag (aA (af 0) aj) (ag (ay aN (hV (af 2) g9 (g8 (af 1))) (hV (af 2) (g8 (ay aN (af 1) aj)) g9)) ah))))))
abbrev kG:ZF:=cU (top 56) 5
abbrev rf:List Str:=["self","number"]
theorem qR:bo rf ["self","number"] (ao kG):=fsc
theorem q0(F:n6 K "Sketch" "cut" "Sketch.cut" kG ["self","number"])(ga:Mm P w K mg base 12 "Sketch" "go_on" 3 bw)(aak:Cl P w K mg base 8 "without_letter" 2 bz)(cr:Ml P w K mg base 1 "Sketch" "record" aE)(ci:bX K mg):Mm P w K mg base 13 "Sketch" "cut" 2 bZ:=
 rW F qR rfl λf c A o s H E hr x=>(et (oS (jX 0 ci.k ga hr (ag sY (ag (aK aak hr (ag (lD 0 (fV ci.k cr hr (af 0))) (ag (af 1) ah))) ah)))))
abbrev tI:ZF:=top 38
theorem ui(F:fh K mg "if_record" tI ["thing"])(aa0:Cl P w K mg base 7 "need_record" 1 aG):Cl P w K mg base 8 "if_record" 1 c6:=
 aP ["thing"] F λd f c A o s H E hr x=>(ak (bD (aK aa0 hr (ag (af 0) ah))) (ar (aC (af 0))))
abbrev qK:ZF:=top 41
theorem qT(F:fh K mg "with_clock" qK ["record","number","clock"])(aad:Cl P w K mg base 8 "if_record" 1 c6):Cl P w K mg base 9 "with_clock" 3 fX:=
 aP ["record","number","clock","clocks"] F λd f c A o s H E hr x=>(ak (aO (aA (af 0) aj) (aq 3 d)) (ar (aC (aK aad hr (ag (a8 (ag (ay aN (ay aN (hV (af 3) g9 (g8 (af 1))) (a8 (ag (af 2) ah))) (hV (af 3) (g8 (ay aN (af 1) aj)) g9)) (ag (aA (af 0) aj) ah))) ah)))))
abbrev nF:ZF:=top 42
theorem nM(F:fh K mg "with_reading" nF ["record","clock","reading"])(aa0:Cl P w K mg base 7 "need_record" 1 aG)(aa5:Cl P w K mg base 3 "need_number" 2 bu)(aaC:Cl P w K mg base 9 "with_clock" 3 fX)(B:Bl mg):Cl P w K mg base 10 "with_reading" 3 bR:=
 aP ["record","clock","reading","old"] F λd f c A o s H E hr x=>(by(apply ak;exact(bD (aK aa0 hr (ag (af 0) ah)));apply ak;exact(bD (aK aa5 hr (ag (cE cv B.b_len Ru (ag (aA (af 0) aj) ah)) (ag (af 1) ah))));apply ak;exact(aO (aA (aA (af 0) aj) (af 1)) (aq 3 d));exact ar (aC (aK aaC hr (ag (af 0) (ag (af 1) (ag (a8 (ag (aA (af 3) aj) (ag (aA (af 3) aj) (ag (ay aN (aA (af 3) aj) (a8 (ag (af 2) ah))) ah)))) ah)))))))
abbrev jt:ZF:=cU (top 56) 4
abbrev pQ:List Str:=["self","clock","reading"]
theorem pd:bo pQ ["self","clock","reading"] (ao jt):=fsc
theorem pI(F:n6 K "Sketch" "read" "Sketch.read" jt ["self","clock","reading"])(ga:Mm P w K mg base 12 "Sketch" "go_on" 3 bw)(aas:Cl P w K mg base 10 "with_reading" 3 bR)(cr:Ml P w K mg base 1 "Sketch" "record" aE)(ci:bX K mg):Mm P w K mg base 13 "Sketch" "read" 3 bO:=
 rW F pd rfl λf c A o s H E hr x=>(et (oS (jX 0 ci.k ga hr (ag sY (ag (aK aas hr (ag (lD 0 (fV ci.k cr hr (af 0))) (ag (af 1) (ag (af 2) ah)))) ah)))))
abbrev oZ:ZF:=top 39
theorem pA(F:fh K mg "with_letter" oZ ["record","letter"])(aa0:Cl P w K mg base 7 "need_record" 1 aG)(aad:Cl P w K mg base 8 "if_record" 1 c6):Cl P w K mg base 9 "with_letter" 2 b7:=
 aP ["record","letter"] F λd f c A o s H E hr x=>(ak (bD (aK aa0 hr (ag (af 0) ah))) (ar (aC (aK aad hr (ag (a8 (ag (aA (af 0) aj) (ag (ay aN (aA (af 0) aj) (a8 (ag (af 1) ah))) ah))) ah)))))
abbrev i9:ZF:=cU (top 56) 3
abbrev nV:List Str:=["self","letter"]
theorem nJ:bo nV ["self","letter"] (ao i9):=fsc
theorem nS(F:n6 K "Sketch" "write" "Sketch.write" i9 ["self","letter"])(ga:Mm P w K mg base 12 "Sketch" "go_on" 3 bw)(aax:Cl P w K mg base 9 "with_letter" 2 b7)(cr:Ml P w K mg base 1 "Sketch" "record" aE)(ci:bX K mg):Mm P w K mg base 13 "Sketch" "write" 2 bH:=
 rW F nJ rfl λf c A o s H E hr x=>(et (oS (jX 0 ci.k ga hr (ag sY (ag (aK aax hr (ag (lD 0 (fV ci.k cr hr (af 0))) (ag (af 1) ah))) ah)))))
abbrev lK:ZF:=top 75
abbrev uw:List Str:=["_law_script","_law_at","_law_sketch","_law_record_here","_law_deed","_law_letter_here","_law_clock_here"]
theorem aaf:bo uw ["_law_script","_law_at","_law_sketch"] (ao lK):=fsc
theorem uo(F:fh K mg "_law_step" lK ["_law_script","_law_at","_law_sketch"])(cr:Ml P w K mg base 1 "Sketch" "record" aE)(aa1:Cl P w K mg base 2 "_law_drawn" 3 az)(aab:Cl P w K mg base 3 "_law_letter" 3 b9)(gt:Mm P w K mg base 13 "Sketch" "cut" 2 bZ)(ii:Mm P w K mg base 13 "Sketch" "read" 3 bO)(im:Mm P w K mg base 13 "Sketch" "write" 2 bH)(B:Bl mg)(ci:bX K mg)(S:Xs K mg ac al bi bn bv ca):Ce P w K mg base 14 "_law_step" 3 2 c7:=
 NZ F aaf rfl λf c A o s H E hr x=>(eC (vj 3 aaf.nd (iy (lD 2 (fV ci.k cr hr (af 2))))) (eC (vj 4 aaf.nd (iy (aK aa1 hr (ag (af 0) (ag (af 1) (ag aj ah)))))) (eC (vj 5 aaf.nd (iy (aK aab hr (ag (af 0) (ag (ay aN (af 1) aj) (ag (aA (af 3) aj) ah)))))) (eC (vj 6 aaf.nd (iy (aK aa1 hr (ag (af 0) (ag (ay aN (af 1) aj) (ag (cE cv B.b_len Ru (ag (aA (af 3) aj) ah)) ah)))))) (et (FD S.m_NoRecord S.o_NoRecord (λ_ _=>(et (za (rA (sW (bc (jx (lY hr)) (af 4) aj) (vf (bc (CV (lY hr)) (aA (af 3) aj) (a8 ah))))) (et (rC (jX 2 ci.k gt hr (ag (aK aa1 hr (ag (af 0) (ag (ay aN (af 1) aj) (ag (cE cv B.b_len Ru (ag (aA (af 3) aj) ah)) ah)))) ah)))) (et (za (bc (jx (lY hr)) (af 4) aj) (et (rC (jX 2 ci.k ii hr (ag (af 6) (ag (ay aN (ay aN (aA (aA (aA (aA (af 3) aj) (af 6)) aj) (jl aj)) aj) (aK aa1 hr (ag (af 0) (ag (ay aN (af 1) aj) (ag aj ah))))) ah))))) (et (za (bc lN (af 5) cy) (et (rC (jX 2 ci.k im hr (ag (af 5) ah)))) B0))))))) (λ_ _=>(ar (aC cy))) (hcl:=λ_ _ z=>by cases z)))))))
abbrev jb:ZF:=cU (top 56) 8
abbrev nX:List Str:=["self","step"]
theorem sc_Sketch_forth:bo nX ["self"] (ao jb):=fsc
theorem nU(F:n6 K "Sketch" "forth" "Sketch.forth" jb ["self"])(ci:bX K mg)(S:Xs K mg ac al bi bn bv ca):Mm P w K mg base 1 "Sketch" "forth" 1 eJ:=
 rW F sc_Sketch_forth rfl λf c A o s H E hr x=>(eC (za (xC 0 (bc (jx (lY hr)) (oQ ci.k ci.a_ahead (af 0)) (iz ah))) (et (IV (gZ S.o_Nothing S.m_Nothing))) B0) (eC (vj 1 sc_Sketch_forth.nd (IM 0 ci.k ci.a_ahead)) (eC (rC (BQ 0 ci.k ci.a_past (af 1))) (et (oS (iy (aA (af 1) aj)))))))
abbrev nI:ZF:=top 77
theorem nR(F:fh K mg "_law_refuses" nI ["_law_ask","_law_sketch"])(im:Mm P w K mg base 13 "Sketch" "write" 2 bH)(gt:Mm P w K mg base 13 "Sketch" "cut" 2 bZ)(ii:Mm P w K mg base 13 "Sketch" "read" 3 bO)(io:Mm P w K mg base 1 "Sketch" "forth" 1 eJ)(B:Bl mg)(ci:bX K mg)(S:Xs K mg ac al bi bn bv ca):Cl P w K mg base 14 "_law_refuses" 2 cW:=
 aP ["_law_ask","_law_sketch","e"] F λd f c A o s H E hr x=>(ar (BS 2 d S.m_ClockError S.o_ClockError (λ_ _=>(Fs (xA (bc (jx (lY hr)) (af 0) aj) (jY (sU (sT 1 ci.k im hr (ag cy ah)))) (jY (xA (bc (jx (lY hr)) (af 0) aj) (jY (sU (sT 1 ci.k gt hr (ag (jl aj) ah)))) (jY (xA (bc (jx (lY hr)) (af 0) aj) (jY (sU (sT 1 ci.k ii hr (ag aj (ag (jl aj) ah))))) (jY (sU (BR 1 ci.k io hr)))))))))) (AM 2 0 (IW S) S.o_Nothing S.m_Nothing rfl B.b_isinstance B.b_ValueError (by decide)) (hcl:=λ_ _ z=>by cases z)))
abbrev xO:ZF:=top 78
abbrev Dd:List Str:=["_law_script","_law_record_here","_law_sketch","_law_other","_law_k","_law_first"]
theorem aaI:bo Dd ["_law_script"] (ao xO):=fsc
theorem Kk{f:ZE}(aaT:Fn K mg "law" xO ["_law_script"] f fd)(jp:Mm P w K mg base 8 "Sketch" "__init__" 2 cH)(aay:Cl P w K mg base 4 "_law_record" 3 fB)(aau:Cl P w K mg base 18 "_law_told" 2 d9)(aaH:Ce P w K mg base 14 "_law_step" 3 2 c7)(cr:Ml P w K mg base 1 "Sketch" "record" aE)(dl:Ml P w K mg base 1 "Sketch" "counts" bh)(aa1:Cl P w K mg base 2 "_law_drawn" 3 az)(aat:Cl P w K mg base 14 "_law_refuses" 2 cW)(B:Bl mg)(ci:bX K mg):Fp P w K mg base 19 f fd ["_law_script"] 1 m_law:=
 tj aaT.fn aaI rfl λc A o s H E hr x=>(by(apply ak;exact(aO (aK aay hr (ag (af 0) (ag aj (ag aj ah)))) (aq 1 aaI.nd));apply ak;exact(vg 2 aaI.nd ci.k jp hr (ag (af 1) ah));apply ak;exact(vg 3 aaI.nd ci.k jp hr (ag (af 1) ah));apply ak;exact(dE rfl (cL B.b_range (ag (ay aN aj (aK aa1 hr (ag (af 0) (ag aj (ag aj ah))))) ah)) (aq 4 aaI.nd) (ar (Fu (IP aaH hr (vi (af 0) (vi (ay aN aj (ay dQ aj (af 4))) (Fz 2)))))));apply ak;exact(fy 2 (aO (aK aau hr (ag (af 1) (ag (af 2) ah))) (aq 5 aaI.nd)));apply ak;exact(cV (bc (Ih (yI hr)) lE (dU ["_law_ask","_law_sketch"] Dd xO (cL B.b_range (ag aj ah)) (λd _ _ _ _ _=>⟨(aq 0 d),bQ,(aK aat hr (ag (af 0) (ag (af 1) ah)))⟩))) (ar (aC lE)) bW);apply ak;exact(cV (bc (CV (lY hr)) (aK aau hr (ag (af 1) (ag (af 2) ah))) (af 5)) (ar (aC lE)) bW);exact ar (aC (dW (iA (jx (lY hr)) (lD 3 (fV ci.k cr hr (af 3))) (af 1)) (eh (iA (jx (lY hr)) (lD 3 (fV ci.k dl hr (af 3))) (a8 (ag aj (ag aj ah)))))))))
end
def all_ok{l:PySem.W.OpenLaw}{h:ZH}{fa:ZE}(X:K.In h)(e0:C4 asks K=B5 asks top)(G:h.Ns Qv mg)(hfa:mg "law" =ZA (.ref fa)):
  ∃fd:Q0,(∀(s:Pz)(v:Px),VC s fd ⟨[v],[]⟩ [("_law_script",v)])/\∀base:ZH,K.In base->base.Ns Qv mg->qB l.prog w K mg base CX0 19 fa fd ["_law_script"] (spP K 1 m_law):=by
 have e:ur EK K=tq EK top:=congrArg (·.1) e0
 obtain⟨kc0,ka0,km0⟩:=NH (A:=⟨"Sketch",56,["past","ahead"],[("__init__","Sketch.__init__",0),("record","Sketch.record",1),("good","Sketch.good",6),("counts","Sketch.counts",9),("go_on","Sketch.go_on",2),("cut","Sketch.cut",5),("read","Sketch.read",4),("write","Sketch.write",3),("forth","Sketch.forth",8)]⟩) X G (mM 0 (congrArg (·.2) e0) rfl)
 have ci:bX K mg:=⟨kc0,ka0 _ (by decide),ka0 _ (by decide)⟩
 have B:Bl mg:=⟨eO 0 X G e rfl,eO 1 X G e rfl,eO 2 X G e rfl,eO 3 X G e rfl,eO 4 X G e rfl,eO 5 X G e rfl,eO 6 X G e rfl,eO 7 X G e rfl,eO 8 X G e rfl,eO 9 X G e rfl,eO 10 X G e rfl,eO 11 X G e rfl,eO 12 X G e rfl,eO 13 X G e rfl⟩
 have C:Cs mg:=⟨r9 0 X G e rfl,r9 1 X G e rfl,r9 2 X G e rfl,r9 3 X G e rfl,r9 4 X G e rfl,r9 5 X G e rfl⟩;obtain⟨ca,ls,xD,xl,nd⟩:=Kl (ND e);obtain⟨ac,ls0,x_NoRecord,rfl,xl0⟩:=ix xl;obtain⟨al,ls1,x_NoEvent,rfl,xl1⟩:=ix xl0;obtain⟨bi,ls2,x_NoNumber,rfl,xl2⟩:=ix xl1;obtain⟨bn,ls3,x_NoWorld,rfl,xl3⟩:=ix xl2;obtain⟨bv,ls4,x_Nothing,rfl,xl4⟩:=ix xl3;cases EO xl4
 have S:Xs K mg ac al bi bn bv ca:=⟨Ti X G (iI x_NoRecord).1,Ti X G (iI x_NoEvent).1,Ti X G (iI x_NoNumber).1,Ti X G (iI x_NoWorld).1,Ti X G (iI x_Nothing).1,Ti X G (iI xD).1,MZ x_NoRecord xD,MZ x_NoEvent xD,MZ x_NoNumber xD,MZ x_NoWorld xD,MZ x_Nothing xD,ox0 xD,nd⟩;obtain⟨fd53,aaT,bnd⟩:=Nz (n:="law") (i:=78) (x:="_law_script") 53 X G e rfl hfa λ_ _ _ _ _ _ _=>rfl
 refine⟨fd53,bnd,λbase _ _=>?_⟩
 have aa3:=yf l.prog w base (bU 0 X G e) B
 have aaJ:=vU l.prog w base (bU 1 X G e) B
 have aa2:=ue l.prog w base (bU 2 X G e) aaJ
 have aaN:=ye l.prog w base (bU 3 X G e) aa2 C
 have aaP:=C2 l.prog w base (bU 4 X G e) B
 have aao:=nQ l.prog w base (bU 5 X G e) aa3 aaP aa2 B C
 have aaK:=vX l.prog w base (bU 6 X G e) aa3 aaN aao
 have aaz:=qX l.prog w base (bU 7 X G e) aa3 aaK B C
 have aac:=vV l.prog w base (bU 8 X G e) aa2 aa3 B
 have aaL:=vW l.prog w base (bU 9 X G e) aa2 C
 have aaD:=ug l.prog w base (bU 10 X G e) aac aa3 aaL
 have aav:=pE l.prog w base (bU 11 X G e) aa3 aaD B C
 have aaE:=uf l.prog w base (bU 12 X G e) aa3 aaz aav
 have aa0:=pB l.prog w base (bU 13 X G e) aaE S
 have jp:=k9 l.prog w base (iO 0 km0 rfl λ_ _ _ _ _ _=>zR λ_ _=>rfl) aa0 ci
 have aaF:=uq l.prog w base (bU 14 X G e) B
 have aa1:=qY l.prog w base (bU 15 X G e) aaF
 have aaa:=pH l.prog w base (bU 16 X G e) B
 have aab:=pG l.prog w base (bU 17 X G e) aaa aa1 B
 have aaA:=qZ l.prog w base (bU 18 X G e) aa1 B
 have aay:=pF l.prog w base (bU 19 X G e) aa1 aab aaA B
 have aap:=A2 l.prog w base (bU 20 X G e) aa0 B
 have aaG:=uh l.prog w base (bU 21 X G e)
 have aaq:=A1 l.prog w base (bU 22 X G e) aaG B
 have aaj:=lQ l.prog w base (bU 23 X G e) aap aaq B
 have aah:=k8 l.prog w base (bU 24 X G e) B
 have aae:=kx l.prog w base (bU 25 X G e)
 have aar:=A3 l.prog w base (bU 26 X G e) aa0 aah aae B
 have aaQ:=CY l.prog w base (bU 27 X G e) aaj aar
 have aa4:=uj l.prog w base (bU 28 X G e) aaQ
 have aa9:=qW l.prog w base (bU 29 X G e) aac S
 have aal:=mC l.prog w base (bU 30 X G e)
 have aag:=C3 l.prog w base (bU 31 X G e) aa0 aa9 aal B
 have aaR:=C0 l.prog w base (bU 32 X G e) aag B
 have cr:=mE l.prog w base (iO 1 km0 rfl λ_ _ _ _ _ _=>wq λ_=>rfl) ci
 have db:=pJ l.prog w base (iO 2 km0 rfl λ_ _ _ _ _ _=>wq λ_=>rfl) aa4 B ci
 have dl:=mF l.prog w base (iO 3 km0 rfl λ_ _ _ _ _ _=>wq λ_=>rfl) B ci
 have aan:=my l.prog w base (bU 33 X G e) aap aag B
 have aa5:=pC l.prog w base (bU 34 X G e) aa2 S
 have aa6:=qV l.prog w base (bU 35 X G e) aa4 S
 have aaw:=pD l.prog w base (bU 36 X G e) aa0 aa9
 have aaO:=yc l.prog w base (bU 37 X G e)
 have aaB:=qU l.prog w base (bU 38 X G e) aaq aar
 have aa7:=nP l.prog w base (bU 39 X G e) aaw aa6 aaO aaB
 have aam:=mB l.prog w base (bU 40 X G e) aa7
 have aa8:=nN l.prog w base (bU 41 X G e) aam aa7
 have aaS:=C1 l.prog w base (bU 42 X G e) aa0 aa5 aa6 aa8 B
 have aai:=kZ l.prog w base (bU 43 X G e) aa8 B C
 have aaM:=vS l.prog w base (bU 44 X G e) aa6 aai B
 have aau:=um l.prog w base (bU 45 X G e) aaa aa4 aaR cr db dl aag aan aaS aaM B ci
 have ga:=nT l.prog w base (iO 4 km0 rfl λ_ _ _ _ _ _=>Dr λ_ _ _=>rfl) aa4 ci
 have aak:=lP l.prog w base (bU 46 X G e) aa0 aa5 B
 have gt:=q0 l.prog w base (iO 5 km0 rfl λ_ _ _ _ _ _=>zR λ_ _=>rfl) ga aak cr ci
 have aad:=ui l.prog w base (bU 47 X G e) aa0
 have aaC:=qT l.prog w base (bU 48 X G e) aad
 have aas:=nM l.prog w base (bU 49 X G e) aa0 aa5 aaC B
 have ii:=pI l.prog w base (iO 6 km0 rfl λ_ _ _ _ _ _=>Dr λ_ _ _=>rfl) ga aas cr ci
 have aax:=pA l.prog w base (bU 50 X G e) aa0 aad
 have im:=nS l.prog w base (iO 7 km0 rfl λ_ _ _ _ _ _=>zR λ_ _=>rfl) ga aax cr ci
 have aaH:=uo l.prog w base (bU 51 X G e) cr aa1 aab gt ii im B ci S
 have io:=nU l.prog w base (iO 8 km0 rfl λ_ _ _ _ _ _=>wq λ_=>rfl) ci S
 have aat:=nR l.prog w base (bU 52 X G e) im gt ii io B ci S;exact(Kk l.prog w base aaT jp aay aau aaH cr dl aa1 aat B ci).h
end G
variable{M:Nat}
namespace Tr
open PySem
abbrev RR(cs ls:List T):T:=.tup [.tup cs,.tup ls]
mutual
def T.pl:T->Bool
 |.scr _=>ZD
 |.dct _ _=>ZD
 |.ob _ _ _=>ZD
 |.tup l=>plS l
 |.lst l=>plS l
 |_=>ZC
def plS:List T->Bool
 |[] =>ZC
 |t::l=>t.pl&&plS l
end
theorem fW:∀{l:List T}{t:T},plS l=ZC->t∈l->t.pl=ZC
 |[],_,_,h=>by cases h
 |u::l,t,h,m=>by
  unfold plS at h;rw[PC]at h;rcases PJ.mp m with rfl|m
  ·exact h.1
  ·exact fW h.2 m
mutual
theorem T.KM:∀(t:T),t.pl=ZC->t.nd=ZC
 |.non,_=>rfl
 |.bl _,_=>rfl
 |.int _,_=>rfl
 |.str _,_=>rfl
 |.scr _,h=>by cases h
 |.dct _ _,h=>by cases h
 |.ob _ _ _,h=>by cases h
 |.tup l,h=>by unfold T.pl at h;unfold T.nd;exact plS_nds l h
 |.lst l,h=>by unfold T.pl at h;unfold T.nd;exact plS_nds l h
theorem plS_nds:∀(l:List T),plS l=ZC->nds l=ZC
 |[],_=>rfl
 |t::l,h=>by
  unfold plS at h;rw[PC]at h;unfold nds;rw[T.KM t h.1,plS_nds l h.2];rfl
end
variable{fe:Y2}{h:T->T}
theorem yz:∀(ts:List T)(Z:En),0<Z.length->(∀t∈ts,fe (Z.set 0 (.va t))=.ok (h t))->dM (gN 0) bT fe ts Z=.ok (ts.map h)
 |[],_,_,_=>rfl
 |t::r,Z,hl,hf=>by
  unfold dM
  have e1:gN 0 t Z=.ok (Z.set 0 (.va t)):=by unfold gN;rw[if_pos hl]
  have ih:=yz r (Z.set 0 (.va t)) (by rw[Qr];exact hl) (λu hu=>by rw[Xa];exact hf u (Pw _ hu))
  simp only[e1,ax,bT,if_true,hf t PB,ih,PF]
theorem r6{fc:Y3}{p:T->Bool}:∀(ts:List T)(Z:En),0<Z.length->(∀t∈ts,fc (Z.set 0 (.va t))=.ok (p t)/\(p t=ZC->fe (Z.set 0 (.va t))=.ok (h t)))->dM (gN 0) fc fe ts Z=.ok ((ts.filter p).map h)
 |[],_,_,_=>rfl
 |t::r,Z,hl,hf=>by
  unfold dM
  have e1:gN 0 t Z=.ok (Z.set 0 (.va t)):=by unfold gN;rw[if_pos hl]
  have ih:=r6 r (Z.set 0 (.va t)) (by rw[Qr];exact hl) (λu hu=>by rw[Xa];exact hf u (Pw _ hu))
  obtain⟨h1,h2⟩:=hf t PB;simp only[e1,ax,h1]
  cases q:p t with
  |true=>simp only[if_true,h2 q,ax,ih,Ve,q,PF]
  |false=>simp only[R4,if_false,ih,Ve,q]
theorem sJ(p:T->Bool):∀l:List T,qu (l.map λt=>T.bl (p t))=ZA (l.map p)
 |[] =>rfl
 |t::l=>by rw[PF,qu,sJ p l];rfl
def all_map(p:T->Bool)(l:List T):rq [.lst (l.map λt=>T.bl (p t))]=.ok (.bl (l.all p)):=by
 simp only[rq,sJ,W3]
 rfl
def ly{l:List α}{t:α}(h:l[k]?=ZA t):L2.atI l (k:Int)=ZA t:=by
 have hk:k<l.length:=(PM.mp h).1
 unfold L2.atI L2.ixN;rw[if_pos (by omega),if_pos (by omega),Rx]
 exact h
def aD(h:n<=k)(hk:autoParam (k<=1000) s_):n<=ZI:=by unfold ZI;omega
variable{b:Y3}{fi:Y0}{g:T->En->Rs En}{k:Bool}{ks:List T}{x:Rs T}
section
variable {f fa fb fc:Y2}{fs:Y0}{c:Y3}{F G:Y1}{Z Z' Z1 Z2:En}{t u r:T}{ts l m:List T}
def Np(h:Z[i]?=ZA (.va t)):vr i Z=.ok t:=by unfold vr;rw[h]
variable{g:T->T->Rs T}
def aI(ha:fa Z=.ok t)(hb:fb Z=.ok u)(hg:g t u=x):o2 g fa fb Z=x:=by unfold o2;rw[ha,hb];exact hg
def K1{g:T->Rs T}(ha:fa Z=.ok t)(hg:g t=x):o1 g fa Z=x:=by unfold o1;rw[ha];exact hg
def Nu{vs:List T}(ha:fa Z=.ok (.dct ks vs))(hb:fb Z=.ok u)(hg:g (.dct ks vs) u=x):oD g fa fb Z=x:=by unfold oD;rw[ha];show(fb Z >>= g (.dct ks vs))=_;rw[hb];exact hg
def Nt(ha:fa Z=.ok (.lst ks))(hb:fb Z=.ok u)(hg:g (.lst ks) u=x):oL g fa fb Z=x:=by unfold oL;rw[ha];show(fb Z >>= g (.lst ks))=_;rw[hb];exact hg
def au(h:f Z=.ok t)(hs:fs Z=.ok ts):ae f fs Z=.ok (t::ts):=by unfold ae;rw[h,hs];rfl
def aQ{g:List T->Rs T}(h:fs Z=.ok ts)(hg:g ts=x):cl g fs Z=x:=by unfold cl;rw[h];exact hg
def cJ(h:f Z=.ok (.bl k)):tb f Z=.ok k:=by unfold tb;rw[h];rfl
def qg(h:b Z=.ok k):du b Z=.ok (!k):=by unfold du;rw[h];rfl
def Iu(h:b Z=.ok ZC):qH b c Z=.ok ZC:=by unfold qH;rw[h];rfl
variable{x:Rs Bool}
def Iv(h:b Z=.ok ZD)(h2:c Z=x):qH b c Z=x:=by unfold qH;rw[h];exact h2
def DN(h:b Z=.ok ZD):kC b c Z=.ok ZD:=by unfold kC;rw[h];rfl
def yE(h:b Z=.ok ZC)(h2:c Z=x):kC b c Z=x:=by unfold kC;rw[h];exact h2
def IA{q:Bool}(h:b Z=.ok p)(h2:p=ZC->c Z=.ok q):kC b c Z=.ok (p&&q):=by
 cases p with
 |false=>exact DN h
 |true=>exact yE h (h2 rfl)
def KZ(h:fa Z=.ok (.bl ZC)):Fc fa fb Z=.ok (.bl ZC):=by unfold Fc;rw[h];rfl
def K0(h:fa Z=.ok (.bl ZD)):Fc fa fb Z=fb Z:=by unfold Fc;rw[h];rfl
def sd(h:b Z=.ok p):Ff b fa fb Z=if p then fa Z else fb Z:=by unfold Ff;rw[h];rfl
variable{g:T->En->Rs En}
def cO(h:f Z=.ok t)(hg:g t Z=.ok Z'):dq f g Z=.ok (.nx Z'):=by unfold dq;rw[h];show(match g t Z with|.ok Z'=>Rs.ok (Fl.nx Z')|_=>.bad)=_;rw[hg]
def aB(h:F Z=.ok (.nx Z')):aF F G Z=G Z':=by unfold aF;rw[h];rfl
def mS(h:F Z=.ok (.rt t)):aF F G Z=.ok (.rt t):=by unfold aF;rw[h];rfl
def DE(h:F Z=.ok (.ct Z')):aF F G Z=.ok (.ct Z'):=by unfold aF;rw[h];rfl
def DD{c:Str}(h:F Z=.err c):aF F G Z=.err c:=by unfold aF;rw[h];rfl
def gJ(h:b Z=.ok ZC):gC b F G Z=F Z:=by unfold gC;rw[h];rfl
def fH(h:b Z=.ok ZD):gC b F G Z=G Z:=by unfold gC;rw[h];rfl
def cf(h:f Z=.ok t):aM f Z=.ok (.rt t):=by unfold aM;rw[h];rfl
def KU{c:Str}(h:f Z=.err c):aM f Z=.err c:=by unfold aM;rw[h];rfl
def ir(h:f Z=.ok t):ng f Z=.ok (.nx Z):=by unfold ng;rw[h];rfl
def Iz{c:Str}(h:f Z=.err c):ng f Z=.err c:=by unfold ng;rw[h];rfl
def gK{x:Fl}(h:fi Z=.ok ts)(h2:bq g F ts Z=.ok x):gP fi g F Z=.ok x:=by unfold gP;rw[h];show(match bq g F ts Z with|.ok f=>Rs.ok f|_=>.bad)=_;rw[h2]
def eQ(h:g t Z=.ok Z1)(h2:F Z1=.ok (.nx Z2)):bq g F (t::ts) Z=bq g F ts Z2:=by rw[bq,h];show(F Z1 >>= _)=_;rw[h2];rfl
def He(h:g t Z=.ok Z1)(h2:F Z1=.ok (.ct Z2)):bq g F (t::ts) Z=bq g F ts Z2:=by rw[bq,h];show(F Z1 >>= _)=_;rw[h2];rfl
def z5(h:g t Z=.ok Z1)(h2:F Z1=.ok (.rt r)):bq g F (t::ts) Z=.ok (.rt r):=by rw[bq,h];show(F Z1 >>= _)=_;rw[h2];rfl
def wG(h:c Z=.ok ZD):bL c F (n+1) Z=.ok (.nx Z):=by unfold bL;rw[h]
def qc(h:c Z=.ok ZC)(h2:F Z=.ok (.nx Z')):bL c F (n+1) Z=bL c F n Z':=by rw[bL,h];simp only[h2]
def DC(h:c Z=.ok ZC)(h2:F Z=.ok (.rt t)):bL c F (n+1) Z=.ok (.rt t):=by rw[bL,h];simp only[h2]
def bA{m:Nat}(hl:ts.length=n)(h:F (aT m ts)=.ok (.rt t)):val n m F ts=.ok t:=by unfold val;rw[if_pos hl];unfold bK;rw[h];rfl
def qe{m:Nat}{c:Str}(hl:ts.length=n)(h:F (aT m ts)=.err c):val n m F ts=.err c:=by unfold val;rw[if_pos hl];unfold bK;rw[h];rfl
def qd{m:Nat}(hl:ts.length=n)(h:F (aT m ts)=.ok (.nx Z)):val n m F ts=.ok .non:=by unfold val;rw[if_pos hl];unfold bK;rw[h];rfl
def mT{src:List (Option Nat)}(hi:fi Z=.ok ts)(hs:ts.length<=ZI)(hn:0<src.length)(hf:∀t∈ts,fe ((bN src Z).set 0 (.va t))=.ok (h t)):
  fL fi src (gN 0) bT fe Z=.ok (.lst (ts.map h)):=by
 have e:=yz (fe:=fe) (h:=h) ts (bN src Z) (by unfold bN;rw[Py];exact hn) hf
 unfold fL;rw[hi,ax,if_pos hs,e]
def Ny{src:List (Option Nat)}{fc:Y3}{p:T->Bool}(hi:fi Z=.ok ts)(hs:ts.length<=ZI)(hn:0<src.length)
  (hf:∀t∈ts,fc ((bN src Z).set 0 (.va t))=.ok (p t)/\(p t=ZC->fe ((bN src Z).set 0 (.va t))=.ok (h t))):fL fi src (gN 0) fc fe Z=.ok (.lst ((ts.filter p).map h)):=by
 have e:=r6 (fc:=fc) (fe:=fe) (p:=p) (h:=h) ts (bN src Z) (by unfold bN;rw[Py];exact hn) hf
 unfold fL;rw[hi,ax,if_pos hs,e]
def cx(h:fs Z=.ok ts)(hl:ts.length<=ZI):ba fs Z=.ok (.tup ts):=by unfold ba;rw[h];show kK ts=_;unfold kK;rw[if_pos hl]
def nu(h:fs Z=.ok ts)(hl:ts.length<=ZI):gq fs Z=.ok (.lst ts):=by unfold gq;rw[h];show jg ts=_;unfold jg;rw[if_pos hl]
def yB{f:Y0}(h:f Z=.ok l)(hi:i<Z.length)(hl:l.length<=1000):jd i f Z=.ok (.nx (Z.set i (.ow (.lst l)))):=by
 unfold jd;rw[h,ax,if_pos ⟨hi,aD hl (by omega)⟩]
def yC(hi:i<Z.length):jd i ai Z=.ok (.nx (Z.set i (.ow (.lst [])))):=yB rfl hi (QQ _)
def lX(h:f Z=.ok t)(hi:Z[i]?=ZA (.ow (.lst l)))(hl:l.length<=1000):gQ i f Z=.ok (.nx (Z.set i (.ow (.lst (l++[t]))))):=by
 unfold gQ;rw[hi];simp only[h,ax];rw[if_pos (by unfold ZI;omega)]
def DM(h:f Z=.ok (.lst m))(hi:Z[i]?=ZA (.ow (.lst l)))(hl:l.length+m.length<=1000):pj i f Z=.ok (.nx (Z.set i (.ow (.lst (l++m))))):=by
 unfold pj;rw[hi];simp only[h,ax,Lg];rw[if_pos (by unfold ZI;omega)]
def NB(h:f Z=.ok (.tup l)):iS f Z=.ok l:=by unfold iS;rw[h];rfl
def kL(h:f Z=.ok (.lst l)):iS f Z=.ok l:=by unfold iS;rw[h];rfl
def NC(h:fs Z=.ok [.lst l]):iE fs Z=.ok (dg 0 l):=by unfold iE;rw[h];rfl
def Iy(e:l[n]?=ZA t):aR (.tup l) (.int (n:Int))=.ok t:=by show(match L2.atI l _ with|some t=>Rs.ok t|none=>.bad)=_;rw[ly e]
def K3(e:l[n]?=ZA t):aR (.lst l) (.int (n:Int))=.ok t:=by show(match L2.atI l _ with|some t=>Rs.ok t|none=>.bad)=_;rw[ly e]
def ri(h:fa Z=.ok (.tup l))(h2:fb Z=.ok (.int (n:Int)))(e:l[n]?=ZA t):o2 aR fa fb Z=.ok t:=aI h h2 (Iy e)
def NA(h:fa Z=.ok (.lst l))(h2:fb Z=.ok (.int (n:Int)))(e:l[n]?=ZA t):o2 aR fa fb Z=.ok t:=aI h h2 (K3 e)
def Nr{fl fu:En->Rs (Option Int)}(h:fe Z=.ok (.tup l))(h1:fl Z=.ok lo)(h2:fu Z=.ok hi):sl fe fl fu Z=.ok (.tup (iw l lo hi)):=by
 unfold sl;rw[h,h1,h2];rfl
def Ir{fl fu:En->Rs (Option Int)}(h:fe Z=.ok (.lst l))(h1:fl Z=.ok lo)(h2:fu Z=.ok hi):sl fe fl fu Z=.ok (.lst (iw l lo hi)):=by
 unfold sl;rw[h,h1,h2];rfl
def KY{i:Int}(h:f Z=.ok (.int i)):pS f Z=.ok (ZA i):=by unfold pS;rw[h];rfl
def ED(l:List T)(n:Nat):iw l ZB (ZA (n:Int))=l.take n:=by
 unfold iw;rw[HT.sIx_none,HT.sIx_nat,List.drop_zero,Td,List.take_eq_take_iff];omega
def xg(l:List T)(n:Nat):iw l (ZA (n:Int)) ZB=l.drop n:=by
 unfold iw;rw[HT.sIx_none,HT.sIx_nat]
 by_cases h:n<=l.length
 ·rw[Nat.min_eq_left h]
  exact List.take_of_length_le (by rw[R1];omega)
 ·rw[Nat.min_eq_right (by omega),Tx (PP _),Tx (by omega),List.take_nil]
def DK{o:OT}(hi:Z[i]?=ZA (.ow o))(h:f (disown i Z)=.ok t)(hk:t.nk o.isD=ZC):ln i f Z=.ok t:=by
 unfold ln;rw[hi];simp only[h,ax,hk,if_true]
def DJ(h:b (disown i Z)=.ok k):BP i b Z=.ok k:=h
def z6{x:Rs Fl}(h:F (disown i Z)=x):kS i F Z=x:=h
end
def mk2(a b:T):kK [a,b]=.ok (.tup [a,b]):=by unfold kK;rw[if_pos (aD (k:=1000) (by simp only[PH,RP];omega))]
def iG(n:Nat):(rng 0 n).length=n:=by unfold rng;rw[Py,Sn];omega
variable{h:Str->Rs T}{sls:List Sl}
section
variable {Z Z':En}{f fa fo:Y2}{fs:Y0}{t u:T}{ts l:List T}{x:En->Rs (T×En)}{c m n a:Str}{ns:List Str}{ls:List (List T)}{F G:En->Rs Fx}{o:OT}{g:List Sl->Rs (T×OT)}{d:Str}
def DF{gm:List T->Rs T}{r:Rs T}(h:fo Z=.ok (.ob c ns ts))(hm:ns.contains m=ZD)(hs:fs Z=.ok l)(hg:gm (.ob c ns ts::l)=r):nj c m gm fo fs Z=r:=by
 unfold nj;rw[h];show(if _ then _ else _)=_;rw[if_pos ⟨rfl,hm⟩,hs];exact hg
def wI(h:fa Z=.ok (.ob c ns ts))(hg:kA a ns ts=ZA t):o1 (n5 c a) fa Z=.ok t:=K1 h (by show(if _ then _ else _)=_;rw[if_pos rfl,hg])
def Bk(h:f Z=.ok t):xP f Z=.ok (t,Z):=by unfold xP;rw[h];rfl
def KS(hi:Z[i]?=ZA (.ow (.ob c ns ls)))(hf:kA a ns ls=ZA l)(h:fa Z=.ok t)(hl:l.length<=1000):xH i c a fa Z=.ok (.non,Z.set i (.ow (.ob c ns (jM a (l++[t]) ns ls)))):=by
 unfold xH;rw[hi];show(if _ then _ else _)=_;rw[if_pos rfl,hf];show(fa Z >>= _)=_;rw[h];show(if _ then _ else _)=_;rw[if_pos (by unfold ZI;omega)]
def DA{r:Rs (T×OT)}(h:r=.ok (t,o)):B1 i Z r=.ok (t,Z.set i (.ow o)):=by rw[h];rfl
def oy(hi:Z[i]?=ZA (.ow (.ob c ns ls)))(hm:ns.contains m=ZD)(hs:fs Z=.ok ts)(h:g (.ow (.ob c ns ls)::ts.map Sl.va)=.ok (t,o)):d7 i c m g fs Z=.ok (t,Z.set i (.ow o)):=by
 unfold d7;rw[hi];show(if _ then _ else _)=_;rw[if_pos ⟨rfl,hm⟩,hs];exact DA h
def wC(hi:Z[i]?=ZA (.ow (.ob c ns ls)))(hm:ns.contains m=ZD)(hs:fs Z=.ok ts)(h:g (.ow (.ob c ns ls)::ts.map Sl.va)=.err d):d7 i c m g fs Z=.err d:=by
 unfold d7;rw[hi];show(if _ then _ else _)=_;rw[if_pos ⟨rfl,hm⟩,hs];show B1 i Z _=_;rw[h];rfl
def DB(hi:Z[i]?=ZA (.ow (.ob c ns ls)))(hm:ns.contains m=ZD)(hs:fs Z=.err d):d7 i c m g fs Z=.err d:=by
 unfold d7;rw[hi];show(if _ then _ else _)=_;rw[if_pos ⟨rfl,hm⟩,hs];rfl
def KR(hi:Z[i]?=ZA (.ow o))(hs:fs Z=.ok ts){o':OT}(h:g (ts.map Sl.va++[.ow o])=.ok (t,o')):xG i g fs Z=.ok (t,Z.set i (.ow o')):=by
 unfold xG;rw[hi];show(fs Z >>= _)=_;rw[hs];exact DA h
def jJ{k:Fx}(h:F Z=.ok (.nx Z'))(h2:G Z'=.ok k):jE F G Z=.ok k:=by unfold jE;rw[h];show Na (G Z')=_;rw[h2];rfl
def wH(h:x Z=.ok (t,Z')):xy x Z=.ok (.nx Z'):=by unfold xy;rw[h];rfl
def DI(h:x Z=.err d):xy x Z=.err d:=by unfold xy;rw[h];rfl
def DH(h:x Z=.ok (t,Z')):lS x Z=.ok (.rt t Z'):=by unfold lS;rw[h];rfl
def Hd(h:x Z=.err d):lS x Z=.err d:=by unfold lS;rw[h];rfl
def z4(h:x Z=.ok (t,Z'))(hl:i<Z'.length):Fe i x Z=.ok (.nx (Z'.set i (.va t))):=by unfold Fe;rw[h];show(if _ then _ else _)=_;rw[if_pos hl]
def gI(h:b Z=.ok k):Bd b F G Z=if k then F Z else G Z:=by unfold Bd;rw[h];rfl
def yD(hi:Z[i]?=ZA (.ow (.ob c ns ls)))(hs:fs Z=.ok l)(hl:l.length<=1000)(hn:ns.length<1000):wg i c a fs Z=.ok (.nx (Z.set i (.ow (if ns.contains a then .ob c ns (jM a l ns ls)else .ob c (ns++[a]) (ls++[l]))))):=by
 unfold wg;rw[hi];show(fs Z >>= _)=_;rw[hs];show(if _ then _ else _)=_;rw[if_pos ⟨rfl,by unfold ZI;omega,hn⟩]
def uE{k:Fx}(e:F Z=.ok k):pW F h Z=.ok k:=by unfold pW;rw[e]
def z0(e:F Z=.err d)(e2:h d=.ok t):pW F h Z=.ok (.rt t Z):=by unfold pW;rw[e];simp only[e2]
def qf(hl:sls.length=N)(h:F (fj M sls)=.ok (.rt t Z))(hj:Z[j]?=ZA (.ow o)):hW N j M F sls=.ok (t,o):=by unfold hW;rw[if_pos hl,h];show qS j (.rt t Z)=_;unfold qS;simp only[hj]
def zZ(hl:sls.length=N)(h:F (fj M sls)=.ok (.nx Z))(hj:Z[j]?=ZA (.ow o)):hW N j M F sls=.ok (.non,o):=by unfold hW;rw[if_pos hl,h];show qS j (.nx Z)=_;unfold qS;simp only[hj]
def oA(hl:sls.length=N)(h:F (fj M sls)=.err d):hW N j M F sls=.err d:=by unfold hW;rw[if_pos hl,h];rfl
def NF(h:x Z=.ok (t,Z')):xW x Z=.ok (.nx Z'):=by unfold xW;rw[h];rfl
def DG(hs:fs Z=.ok ts)(h:g (.ow (.ob c [] [])::ts.map Sl.va)=.ok (.non,o))(hl:i<Z.length):ph i c g fs Z=.ok (.nx (Z.set i (.ow o))):=by
 unfold ph;rw[hs];show(Na (g _) >>= _)=_;rw[h];show(if _ then _ else _)=_;rw[if_pos hl]
end
end Tr
variable{d m s:Int}{w:List Nat}
namespace Gr
variable {ν:Type}[DecidableEq ν]
abbrev cj(ν:Type):=List (ν×ν×Int)
inductive Wk (L:cj ν):ν->ν->Int->Prop
 |nil (a:ν):Wk L a a 0
 |step {a b c:ν} {m s:Int}:(a,b,m)∈L->Wk L b c s->Wk L a c (m+s)
def Wk.one{L:cj ν}{a b:ν}(h:(a,b,m)∈L):Wk L a b m:=by
 have:=Wk.step h (Wk.nil (L:=L) b)
 rwa [Int.add_zero]at this
def Wk.app{L:cj ν}{a b c:ν}{t:Int}(h:Wk L a b s)(k:Wk L b c t):Wk L a c (s+t):=by
 induction h with
 |nil a=>rwa [Int.zero_add]
 |step e _ ih=>rw[Int.add_assoc];exact .step e (ih k)
def Holds(L:cj ν)(t:ν->Int):Prop:=∀a b m,(a,b,m)∈L->t b - t a<=m
def Holds.walk{L:cj ν}{t:ν->Int}(h:Holds L t){a b:ν}(w:Wk L a b s):t b - t a<=s:=by
 induction w with
 |nil a=>omega
 |step e _ ih=>have:=h _ _ _ e;omega
def fJ(L:cj ν):Prop:=∀a s,Wk L a a s->0<=s
def Holds.Pm{L:cj ν}{t:ν->Int}(h:Holds L t):fJ L:=λa s w=>by have:=h.walk w;omega
def Ch(L:cj ν):ν->List Nat->ν->Prop
 |a,[],b=>a=b
 |a,k::r,b=>∃c m,L[k]?=ZA (a,c,m)/\Ch L c r b
def most(L:cj ν)(k:Nat):Int:=match L[k]? with
 |some x=>x.2.2
 |none=>0
def ff(L:cj ν):List Nat->Int
 |[] =>0
 |k::r=>most L k+ff L r
theorem l9(L:cj ν):∀(p q:List Nat),ff L (p++q)=ff L p+ff L q
 |[],q=>by simp[ff]
 |k::p,q=>by rw[Xm,ff,ff,l9 L p q];omega
theorem Ch.wk{L:cj ν}:∀{ks:List Nat}{a b:ν},Ch L a ks b->Wk L a b (ff L ks)
 |[],a,b,h=>by cases h;exact .nil a
 |k::r,a,b,⟨c,m,e,h⟩=>by
  have:ff L (k::r)=m+ff L r:=by rw[ff,most,e]
  rw[this];exact .step (Sf e) h.wk
theorem Ch.app{L:cj ν}:∀{p q:List Nat}{a b c:ν},Ch L a p b->Ch L b q c->Ch L a (p++q) c
 |[],q,a,b,c,h,k=>by cases h;exact k
 |x::p,q,a,b,c,⟨d,m,e,h⟩,k=>⟨d,m,e,Ch.app h k⟩
theorem Ch.lt{L:cj ν}:∀{ks:List Nat}{a b:ν},Ch L a ks b->∀k∈ks,k<L.length
 |[],_,_,_,k,hk=>by simp at hk
 |x::r,a,b,⟨c,m,e,h⟩,k,hk=>by
  rcases PJ.mp hk with rfl|hk
  ·exact(PM.mp e).1
  ·exact h.lt k hk
def Ch.snoc{L:cj ν}{p:List Nat}{a b c:ν}(h:Ch L a p b)(e:L[k]?=ZA (b,c,m)):Ch L a (p++[k]) c:=h.app ⟨c,m,e,rfl⟩
def src(L:cj ν)(k:Nat):Option ν:=(L[k]?).map (·.1)
abbrev cw(ν:Type):=ν->Option (Int×List Nat)
def put(b:cw ν)(v:ν)(x:Int×List Nat):cw ν:=λu=>if u=v then ZA x else b u
def eF{b:cw ν}{v:ν}:put b v x v=ZA x:=by unfold put;rw[if_pos rfl]
def kW{b:cw ν}{u v:ν}(h:u≠v):put b v x u=b u:=by unfold put;rw[if_neg h]
def e9(L:cj ν)(ks:List Nat):List ν:=ks.filterMap (src L)
def eU(b:cw ν)(v:ν)(d:Int):Bool:=match b v with
 |none=>ZC
 |some x=>decide (d<x.1)
def il(L:cj ν)(b:cw ν)(k:Nat)(x:ν×ν×Int):Sum (Option (cw ν)) (List Nat):=match b x.1 with
 |none=>.inl ZB
 |some (d,w)=>if eU b x.2.1 (d+x.2.2)=ZC then
   if x.2.1∈e9 L (w++[k])then .inr ((w++[k]).drop ((e9 L (w++[k])).idxOf x.2.1))else .inl (ZA (put b x.2.1 (d+x.2.2,w++[k])))
  else .inl ZB
def i7(L:cj ν):Nat->cj ν->cw ν->Bool->Sum (cw ν×Bool) (List Nat)
 |_,[],b,mv=>.inl (b,mv)
 |k,x::r,b,mv=>match il L b k x with
  |.inr q=>.inr q
  |.inl ZB=>i7 L (k+1) r b mv
  |.inl (ZA b')=>i7 L (k+1) r b' ZC
def settle(L:cj ν):Nat->cw ν->Option (Sum (cw ν) (List Nat))
 |0,_=>ZB
 |n+1,b=>match i7 L 0 L b ZD with
  |.inr q=>ZA (.inr q)
  |.inl (b',ZC)=>settle L n b'
  |.inl (b',ZD)=>ZA (.inl b')
def t9(L:cj ν)(p q:List Nat):e9 L (p++q)=e9 L p++e9 L q:=by unfold e9;rw[List.filterMap_append]
def tZ{L:cj ν}{x:ν×ν×Int}(e:L[k]?=ZA x):e9 L [k]=[x.1]:=by unfold e9 src;simp[e]
def Ch.Ou{L:cj ν}{r:List Nat}{a b:ν}(h:Ch L a (k::r) b):e9 L (k::r)=a::e9 L r:=by
 obtain⟨c,m,e,_⟩:=h;rw[show k::r=[k] ++r from rfl,t9,tZ e];rfl
theorem Ch.cut{L:cj ν}{v:ν}:∀{ks:List Nat}{a b:ν},Ch L a ks b->v∈e9 L ks->Ch L a (ks.take ((e9 L ks).idxOf v)) v/\Ch L v (ks.drop ((e9 L ks).idxOf v)) b/\(e9 L ks).idxOf v<ks.length
 |[],a,b,_,hv=>by simp[e9]at hv
 |k::r,a,b,h,hv=>by
  rw[h.Ou]at hv ⊢
  have h0:=h;obtain⟨c,m,e,h⟩:=h
  by_cases z:a=v
  ·subst z
   rw[List.idxOf_cons_self];exact⟨rfl,h0,by simp⟩
  ·have hv':v∈e9 L r:=by
    rcases PJ.mp hv with q|q
    ·exact absurd q.symm z
    ·exact q
   obtain⟨h1,h2,h3⟩:=h.cut hv'
   have ei:(a::e9 L r).idxOf v=(e9 L r).idxOf v+1:=by
    rw[XO]
    have:(a == v)=ZD:=by rw[beq_eq_false_iff_ne];exact z
    rw[this];rfl
   rw[ei];exact⟨⟨c,m,e,h1⟩,h2,by simpa using h3⟩
structure Kept (L:cj ν)(S:List ν)(b:cw ν):Prop where
 walk:∀v d w,b v=ZA (d,w)->∃s∈S,Ch L s w v/\ff L w=d/\v∉e9 L w/\(e9 L w).Nodup/\∀p q u,w=p++q->Ch L s p u->∃d' w',b u=ZA (d',w')/\d'<=ff L p
 start:∀s∈S,∃d w,b s=ZA (d,w)/\d<=0
theorem Kept.put{L:cj ν}{S:List ν}{b:cw ν}(K:Kept L S b){a c:ν}(e:L[k]?=ZA (a,c,m))(ha:b a=ZA (d,w))(hb:eU b c (d+m)=ZC)(hn:c∉e9 L (w++[k])):
  Kept L S (put b c (d+m,w++[k])):=by
 have low:∀u d' w',b u=ZA (d',w')->∃d'' w'',Gr.put b c (d+m,w++[k]) u=ZA (d'',w'')/\d''<=d':=λu d' w' h=>by
  by_cases z:u=c
  ·subst z
   refine⟨_,_,eF,?_⟩
   unfold eU at hb;rw[h]at hb
   have:=of_decide_eq_true hb;omega
  ·exact⟨d',w',by rw[kW z];exact h,RS _⟩
 obtain⟨s,hs,h1,h2,h3,h4,h5⟩:=K.walk a d w ha
 have hch:Ch L s (w++[k]) c:=h1.snoc e
 have hcost:ff L (w++[k])=d+m:=by rw[l9,h2,ff,ff,most,e];simp
 refine⟨λv d' w' h=>?_,λs' hs'=>?_⟩
 ·by_cases z:v=c
  ·subst z
   rw[eF]at h;cases h;refine⟨s,hs,hch,hcost,hn,?_,λp q u hpq hp=>?_⟩
   ·rw[t9,tZ e]
    exact Qs.mpr ⟨h4,by simp,λx hx y hy=>by simp at hy;subst hy;exact λz=>h3 (z▸hx)⟩
   ·by_cases hq:q=[]
    ·subst hq
     rw[Ql]at hpq;subst hpq
     have:u=v:=by
      clear low hb hn h5
      have aux:∀{ks:List Nat}{x y z:ν},Ch L x ks y->Ch L x ks z->y=z:=by
       intro ks
       induction ks with
       |nil=>intro x y z h1 h2;cases h1;cases h2;rfl
       |cons k r ih=>
        rintro x y z ⟨c1,m1,e1,r1⟩ ⟨c2,m2,e2,r2⟩
        rw[e1]at e2;cases e2;exact ih r1 r2
      exact aux hp hch
     subst this;exact⟨_,_,eF,by rw[hcost];exact RS _⟩
    ·have hw:∃q',w=p++q':=by
      refine⟨q.dropLast,?_⟩
      have:=congrArg List.dropLast hpq;rw[List.dropLast_concat,List.dropLast_append_of_ne_nil hq]at this;exact this
     obtain⟨q',hw⟩:=hw;obtain⟨d1,w1,e1,l1⟩:=h5 p q' u hw hp;obtain⟨d2,w2,e2,l2⟩:=low u d1 w1 e1;exact⟨d2,w2,e2,by omega⟩
  ·rw[kW z]at h
   obtain⟨s',hs',g1,g2,g3,g4,g5⟩:=K.walk v d' w' h;refine⟨s',hs',g1,g2,g3,g4,λp q u hpq hp=>?_⟩
   obtain⟨d1,w1,e1,l1⟩:=g5 p q u hpq hp;obtain⟨d2,w2,e2,l2⟩:=low u d1 w1 e1;exact⟨d2,w2,e2,by omega⟩
 ·obtain⟨d1,w1,e1,l1⟩:=K.start s' hs'
  obtain⟨d2,w2,e2,l2⟩:=low s' d1 w1 e1;exact⟨d2,w2,e2,by omega⟩
def Bar(L:cj ν)(q:List Nat):Prop:=q≠ []/\(∃a,Ch L a q a)/\ff L q<0/\(e9 L q).Nodup
theorem Ch.OK{L:cj ν}:∀{ks:List Nat}{a b:ν}(i:Nat),Ch L a ks b->e9 L (ks.drop i)=(e9 L ks).drop i
 |[],_,_,i,_=>by simp[e9]
 |k::r,a,b,0,_=>rfl
 |k::r,a,b,i+1,h=>by
  have:=h;obtain⟨c,m,e,h'⟩:=this;rw[h.Ou,V3,V3,h'.OK i]
def Kept.round{L:cj ν}{S:List ν}{b:cw ν}(K:Kept L S b){a c:ν}(e:L[k]?=ZA (a,c,m))(ha:b a=ZA (d,w))(hb:eU b c (d+m)=ZC)(hn:c∈e9 L (w++[k])):
  Bar L ((w++[k]).drop ((e9 L (w++[k])).idxOf c)):=by
 obtain⟨s,hs,h1,h2,h3,h4,h5⟩:=K.walk a d w ha
 have hch:Ch L s (w++[k]) c:=h1.snoc e
 have hcost:ff L (w++[k])=d+m:=by rw[l9,h2,ff,ff,most,e];simp
 obtain⟨c1,c2,c3⟩:=hch.cut hn
 generalize hi:(e9 L (w++[k])).idxOf c=i at c1 c2 c3
 refine⟨λz=>?_,⟨c,c2⟩,?_,?_⟩
 ·have:=congrArg Sa z
  rw[R1]at this
  simp at this c3
  omega
 ·have hsum:ff L ((w++[k]).take i)+ff L ((w++[k]).drop i)=d+m:=by rw[<-l9,Vv,hcost]
  have hiw:i<=w.length:=by simp at c3;omega
  have ht:(w++[k]).take i=w.take i:=by rw[List.take_append_of_le_length hiw]
  rw[ht]at c1 hsum;obtain⟨d1,w1,e1,l1⟩:=h5 (w.take i) (w.drop i) c (Vv i w).symm c1;unfold eU at hb;rw[e1]at hb
  have:=of_decide_eq_true hb;simp only at this;omega
 ·rw[hch.OK,t9,tZ e]
  refine(WN _ _).nodup (Qs.mpr ⟨h4,by simp,λx hx y hy=>?_⟩)
  rw[PL.mp hy];exact λz=>h3 (by have z:x=a:=z;rw[<-z];exact hx)
def size(L:cj ν):Nat:=(L.map λx=>x.2.2.natAbs).sum
theorem kE{f:Nat->Nat}:∀{ks rs:List Nat},ks.Nodup->(∀k∈ks,k∈rs)->(ks.map f).sum<=(rs.map f).sum
 |[],rs,_,_=>by simp
 |k::ks,rs,hn,hs=>by
  have hk:k∈rs:=hs k PB;rw[Qh]at hn
  have hp:=List.perm_cons_erase hk
  have e:(rs.map f).sum=f k+((rs.erase k).map f).sum:=by
   have:=(hp.map f).sum_nat
   rwa [PF,RJ]at this
  rw[e,PF,RJ]
  have:=kE (f:=f) hn.2 (rs:=rs.erase k) λj hj=>by
   have h1:=hs j (Pw _ hj);exact(VO (λ(z:j=k)=>hn.1 (z▸hj))).mpr h1
  omega
def xS(L:cj ν):size L=((Q2 L.length).map λk=>(most L k).natAbs).sum:=by
 unfold size
 congr 1
 apply List.ext_getElem
 ·simp
 ·intro i h1 h2
  simp only[T4,List.getElem_range];unfold most;rw[P5 (by simpa using h1)]
theorem Ao(L:cj ν):∀(ks:List Nat),(ff L ks).natAbs<=(ks.map λk=>(most L k).natAbs).sum
 |[] =>by simp[ff]
 |k::r=>by
  have:=Ao L r;rw[ff,PF,RJ];omega
theorem Ch.nodup{L:cj ν}:∀{ks:List Nat}{a b:ν},Ch L a ks b->(e9 L ks).Nodup->ks.Nodup
 |[],_,_,_,_=>RE
 |k::r,a,b,h,hn=>by
  have h0:=h;rw[h.Ou,Qh]at hn;obtain⟨c,m,e,h⟩:=h;rw[Qh];refine⟨λhk=>hn.1 ?_,h.nodup hn.2⟩
  unfold e9 src;exact UJ.mpr ⟨k,hk,by rw[e];rfl⟩
def Ch.small{L:cj ν}{a b:ν}(h:Ch L a ks b)(hn:(e9 L ks).Nodup):(ff L ks).natAbs<=size L:=by
 rw[xS];exact Qn (Ao L ks) (kE (h.nodup hn) λk hk=>Ro.mpr (h.lt k hk))
def val(M:Nat)(b:cw ν)(v:ν):Nat:=match b v with
 |none=>2*M+1
 |some x=>(x.1+M).toNat
def left(M:Nat)(b:cw ν)(L:cj ν):Nat:=(L.map λx=>val M b x.2.1).sum
theorem zT{b b':cw ν}:∀{L:cj ν},(∀x∈L,val M b' x.2.1<=val M b x.2.1)->left M b' L<=left M b L
 |[],_=>by simp[left]
 |x::L,h=>by
  have h1:=h x PB
  have h2:=zT (L:=L) λy hy=>h y (Pw _ hy)
  unfold left at h2 ⊢;rw[PF,RJ,PF,RJ];omega
theorem zS{b b':cw ν}{x:ν×ν×Int}:∀{L:cj ν},x∈L->(∀x∈L,val M b' x.2.1<=val M b x.2.1)->val M b' x.2.1<val M b x.2.1->left M b' L<left M b L
 |[],hx,_,_=>by simp at hx
 |y::L,hx,h,hl=>by
  have h1:=h y PB
  have h2:=zT (L:=L) λy hy=>h y (Pw _ hy)
  unfold left at h2 ⊢;rw[PF,RJ,PF,RJ];rcases PJ.mp hx with rfl|hx
  ·omega
  ·have h3:=zS (L:=L) hx (λy hy=>h y (Pw _ hy)) hl
   unfold left at h3;omega
def Ds{L:cj ν}{S:List ν}{b:cw ν}(K:Kept L S b){a c:ν}(e:L[k]?=ZA (a,c,m))(ha:b a=ZA (d,w))(hb:eU b c (d+m)=ZC)(hn:c∉e9 L (w++[k])):
  left (size L) (put b c (d+m,w++[k])) L<left (size L) b L:=by
 have K':=K.put e ha hb hn;obtain⟨s,hs,h1,h2,h3,h4,h5⟩:=K'.walk c (d+m) (w++[k]) eF
 have sm:=h1.small h4;rw[h2]at sm
 have lt:val (size L) (put b c (d+m,w++[k])) c<val (size L) b c:=by
  unfold val eU at*;rw[eF]
  cases z:b c with
  |none=>simp only;omega
  |some y=>
   rw[z]at hb
   have hb:=of_decide_eq_true hb;simp only;omega
 refine zS (x:=(a,c,m)) (Sf e) (λy _=>?_) lt
 by_cases z:y.2.1=c
 ·rw[z];exact RH lt
 ·unfold val;rw[kW z];exact PP _
def EU(b:cw ν)(x:ν×ν×Int):Prop:=∀d w,b x.1=ZA (d,w)->∃d' w',b x.2.1=ZA (d',w')/\d'<=d+x.2.2
def Cf{b:cw ν}{x:ν×ν×Int}(h:∀d w,b x.1=ZA (d,w)->eU b x.2.1 (d+x.2.2)=ZD):EU b x:=λd w e=>by
 have:=h d w e;unfold eU at this
 cases z:b x.2.1 with
 |none=>rw[z]at this;cases this
 |some y=>
  rw[z]at this
  have:=of_decide_eq_false this;exact⟨y.1,y.2,rfl,by omega⟩
theorem jn{L:cj ν}{S:List ν}:∀(r:cj ν)(k:Nat)(b:cw ν)(mv:Bool),L.drop k=r->Kept L S b->match i7 L k r b mv with
  |.inr q=>Bar L q
  |.inl (b',mv')=>Kept L S b'/\(mv'=ZD->mv=ZD/\b'=b/\∀x∈r,EU b x)/\left (size L) b' L<=left (size L) b L/\(mv'=ZC->mv=ZC\/left (size L) b' L<left (size L) b L)
 |[],k,b,mv,_,K=>⟨K,λh=>⟨h,rfl,λx hx=>by simp at hx⟩,PP _,λh=>.inl h⟩
 |x::r,k,b,mv,hr,K=>by
  have e:L[k]?=ZA x:=by
   have:=congrArg (·[0]?) hr
   simpa using this
  have hr':L.drop (k+1)=r:=by
   have:=congrArg (List.drop 1) hr
   simpa [List.drop_drop,W0]using this
  rw[i7];obtain⟨a,c,m⟩:=x;unfold il
  cases z:b a with
  |none=>
   simp only[z]
   have ih:=jn r (k+1) b mv hr' K
   revert ih
   generalize i7 L (k+1) r b mv=R
   cases R with
   |inr q=>exact id
   |inl p=>
    obtain⟨b',mv'⟩:=p
    rintro ⟨i1,i2,i3,i4⟩
    refine⟨i1,λh=>?_,i3,i4⟩
    obtain⟨j1,j2,j3⟩:=i2 h;refine⟨j1,j2,λx hx=>?_⟩
    rcases PJ.mp hx with rfl|hx
    ·intro d w q;rw[z]at q;cases q
    ·exact j3 x hx
  |some y=>
   obtain⟨d,w⟩:=y;simp only[z]
   by_cases hb:eU b c (d+m)=ZC
   ·rw[if_pos hb]
    by_cases hn:c∈e9 L (w++[k])
    ·rw[if_pos hn]
     exact K.round e z hb hn
    ·rw[if_neg hn]
     have K':=K.put e z hb hn
     have lt:=Ds K e z hb hn
     have ih:=jn r (k+1) (put b c (d+m,w++[k])) ZC hr' K'
     revert ih
     simp only
     generalize i7 L (k+1) r (put b c (d+m,w++[k])) ZC=R
     cases R with
     |inr q=>exact id
     |inl p=>
      obtain⟨b',mv'⟩:=p
      rintro ⟨i1,i2,i3,i4⟩
      refine⟨i1,λh=>?_,by omega,λ_=>.inr (by omega)⟩
      obtain⟨j1,_⟩:=i2 h;cases j1
   ·rw[if_neg hb]
    have ih:=jn r (k+1) b mv hr' K
    revert ih
    simp only
    generalize i7 L (k+1) r b mv=R
    cases R with
    |inr q=>exact id
    |inl p=>
     obtain⟨b',mv'⟩:=p
     rintro ⟨i1,i2,i3,i4⟩
     refine⟨i1,λh=>?_,i3,i4⟩
     obtain⟨j1,j2,j3⟩:=i2 h;refine⟨j1,j2,λx hx=>?_⟩
     rcases PJ.mp hx with rfl|hx
     ·refine Cf λd' w' q=>?_
      simp only at q;rw[z]at q;cases q
      simpa using hb
     ·exact j3 x hx
structure Settled (L:cj ν)(S:List ν)(b:cw ν):Prop where
 walk:∀v d w,b v=ZA (d,w)->∃s∈S,Ch L s w v/\ff L w=d/\v∉e9 L w/\(e9 L w).Nodup
 least:∀s∈S,∀v t,Wk L s v t->∃d w,b v=ZA (d,w)/\d<=t
def xT{L:cj ν}{S:List ν}{b:cw ν}(K:Kept L S b)(h:∀x∈L,EU b x):Settled L S b where
 walk:=λv d w e=>by
  obtain⟨s,h1,h2,h3,h4,h5,_⟩:=K.walk v d w e;exact⟨s,h1,h2,h3,h4,h5⟩
 least:=by
  have go:∀{u v:ν}{t:Int},Wk L u v t->∀d w,b u=ZA (d,w)->∃d' w',b v=ZA (d',w')/\d'<=d+t:=by
   intro u v t hw
   induction hw with
   |nil a=>exact λd w e=>⟨d,w,e,by omega⟩
   |step e _ ih=>
    intro d w q;obtain⟨d1,w1,e1,l1⟩:=h _ e d w q;obtain⟨d2,w2,e2,l2⟩:=ih d1 w1 e1;exact⟨d2,w2,e2,by simp only at l1;omega⟩
  intro s hs v t hw;obtain⟨d,w,e,l⟩:=K.start s hs;obtain⟨d2,w2,e2,l2⟩:=go hw d w e;exact⟨d2,w2,e2,by omega⟩
theorem rM{L:cj ν}{S:List ν}:∀(n:Nat)(b:cw ν),Kept L S b->left (size L) b L<n->∃r,settle L n b=ZA r/\match r with
  |.inr q=>Bar L q
  |.inl b'=>Settled L S b'
 |0,b,K,h=>by omega
 |n+1,b,K,h=>by
  have s:=jn (S:=S) L 0 b ZD rfl K;rw[settle]
  revert s
  generalize i7 L 0 L b ZD=R
  cases R with
  |inr q=>exact λs=>⟨_,rfl,s⟩
  |inl p=>
   obtain⟨b',mv'⟩:=p
   rintro ⟨i1,i2,i3,i4⟩
   cases mv' with
   |false=>
    obtain⟨_,j2,j3⟩:=i2 rfl;subst j2
    exact⟨_,rfl,xT i1 j3⟩
   |true=>
    rcases i4 rfl with z|z
    ·cases z
    ·exact rM n b' i1 (by omega)
def start(S:List ν):cw ν:=λv=>if v∈S then ZA (0,[])else ZB
def qb(L:cj ν)(S:List ν):Kept L S (start S) where
 walk:=λv d w e=>by
  unfold start at e
  split at e
  ·rename_i h
   cases e;refine⟨v,h,rfl,rfl,by simp[e9],by simp[e9],λp q u hpq hp=>?_⟩
   obtain⟨rfl,rfl⟩:=List.append_eq_nil_iff.mp hpq.symm;cases hp;exact⟨0,[],by unfold start;rw[if_pos h],by simp[ff]⟩
  ·cases e
 start:=λs hs=>⟨0,[],by unfold start;rw[if_pos hs],RS _⟩
def Dt(L:cj ν)(S:List ν):left (size L) (start S) L<=L.length*(2*size L+1):=by
 unfold left
 have:∀M:cj ν,(M.map λx=>val (size L) (start S) x.2.1).sum<=M.length*(2*size L+1):=by
  intro M
  induction M with
  |nil=>simp
  |cons x M ih=>
   rw[PF,RJ,PH,Nat.succ_mul]
   have:val (size L) (start S) x.2.1<=2*size L+1:=by
    unfold val start;split
    ·exact PP _
    ·rename_i h
     split at h
     ·cases h;simp;omega
     ·cases h
   omega
 exact this L
theorem xU(L:cj ν)(S:List ν)(h:L.length*(2*size L+1)<n):∃r,settle L n (start S)=ZA r/\match r with
  |.inr q=>Bar L q
  |.inl b'=>Settled L S b':=rM n (start S) (qb L S) (SE (Dt L S) h)
def Bar.neg{L:cj ν}{q:List Nat}(h:Bar L q):¬ fJ L:=λn=>by
 obtain⟨_,⟨a,ha⟩,hc,_⟩:=h
 have:=n a _ ha.wk;omega
def Settled.holds{L:cj ν}{S:List ν}{b:cw ν}(h:Settled L S b)(hS:∀x∈L,x.1∈S/\x.2.1∈S){t:ν->Int}(ht:∀v∈S,∃w,b v=ZA (t v,w)):Holds L t:=λa c m hx=>by
 obtain⟨ha,hc⟩:=hS _ hx;obtain⟨w,e⟩:=ht a ha;obtain⟨s,hs,h1,h2,_⟩:=h.walk a _ _ e;obtain⟨d,w',e',l⟩:=h.least s hs c _ (h1.wk.app (.one hx));obtain⟨w2,e2⟩:=ht c hc;rw[e2]at e';cases e';omega
inductive Pth (L:cj ν):ν->List ν->ν->Int->Prop
 |one {a b:ν} {m:Int}:(a,b,m)∈L->Pth L a [] b m
 |cons {a x b:ν} {ms:List ν} {m s:Int}:(a,x,m)∈L->Pth L x ms b s->Pth L a (x::ms) b (m+s)
theorem Pth.cut{L:cj ν}{x:ν}{q:List ν}:∀{p:List ν}{a b:ν}{s:Int},Pth L a (p++x::q) b s->∃s1 s2,Pth L a p x s1/\Pth L x q b s2/\s=s1+s2
 |[],a,b,s,h=>by
  cases h with
  |cons e h=>exact⟨_,_,.one e,h,rfl⟩
 |y::p,a,b,s,h=>by
  cases h with
  |cons e h=>
   obtain⟨s1,s2,h1,h2,h3⟩:=Pth.cut h;exact⟨_,s2,.cons e h1,h2,by omega⟩
def LM(L:cj ν)(u v:ν)(s:Int):Prop:=(u=v/\s=0)\/(u≠v/\∃ms,Pth L u ms v s/\ms.Nodup/\u∉ms/\v∉ms)
def EZ(L:cj ν):Prop:=∃x ms s,Pth L x ms x s/\ms.Nodup/\x∉ms/\s<0
def Wk.simple{L:cj ν}{u v:ν}(w:Wk L u v s):EZ L\/∃s',s'<=s/\LM L u v s':=by
 induction w with
 |nil a=>exact .inr ⟨0,RS _,.inl ⟨rfl,rfl⟩⟩
 |@step a b c m s e w ih=>
  rcases ih with ih|⟨s',hs,ih⟩
  ·exact .inl ih
  by_cases hab:a=b
  ·subst hab
   by_cases hm:m<0
   ·exact .inl ⟨a,[],m,.one e,RE,by simp,hm⟩
   ·exact .inr ⟨s',by omega,ih⟩
  rcases ih with⟨rfl,rfl⟩|⟨hbc,ms,hp,hn,hb,hc⟩
  ·exact .inr ⟨m,by omega,.inr ⟨hab,[],.one e,RE,by simp,by simp⟩⟩
  by_cases hac:a=c
  ·subst hac
   by_cases hm:m+s'<0
   ·exact .inl ⟨a,b::ms,m+s',.cons e hp,Qh.mpr ⟨hb,hn⟩,by simp[hab,hc],hm⟩
   ·exact .inr ⟨0,by omega,.inl ⟨rfl,rfl⟩⟩
  by_cases ham:a∈ms
  ·obtain⟨p,q,rfl⟩:=Wi ham
   obtain⟨s1,s2,h1,h2,h3⟩:=hp.cut;rw[Qs]at hn;obtain⟨n1,n2,n3⟩:=hn;rw[Qh]at n2
   have hap:a∉p:=λz=>n3 a z a PB rfl
   by_cases hm:m+s1<0
   ·refine .inl ⟨a,b::p,m+s1,.cons e h1,Qh.mpr ⟨λz=>hb (Qb _ z),n1⟩,by simp[hab,hap],hm⟩
   ·exact .inr ⟨s2,by omega,.inr ⟨hac,q,h2,n2.2,n2.1,λz=>hc (Qd _ (Pw _ z))⟩⟩
  ·refine .inr ⟨m+s',by omega,.inr ⟨hac,b::ms,.cons e hp,Qh.mpr ⟨hb,hn⟩,by simp[hab,ham],?_⟩⟩
   simp only[PJ,not_or];exact⟨λz=>hbc z.symm,hc⟩
abbrev fI(ν:Type):=ν->ν->Option Int
def wM(f:fI ν)(a b:ν)(x:Int):fI ν:=λu v=>if u=a/\v=b then ZA x else f u v
def uK(f:fI ν)(a b:ν)(x:Int):fI ν:=match f a b with
 |none=>wM f a b x
 |some y=>if x<y then wM f a b x else f
def qh(mid one other:ν)(f:fI ν):fI ν:=match f one mid,f mid other with
 |some x,ZA y=>uK f one other (x+y)
 |_,_=>f
def AL(P:List ν):fI ν:=λu v=>if u∈P/\u=v then ZA 0 else ZB
def FL(P:List ν)(L:cj ν):fI ν:=L.foldl (λf x=>uK f x.1 x.2.1 x.2.2) (AL P)
def oH(mid one:ν)(P:List ν)(f:fI ν):fI ν:=P.foldl (λf other=>qh mid one other f) f
def sg(mid:ν)(Q P:List ν)(f:fI ν):fI ν:=Q.foldl (λf one=>oH mid one P f) f
def Ad(M P:List ν)(f:fI ν):fI ν:=M.foldl (λf mid=>sg mid P P f) f
def table(P:List ν)(L:cj ν):fI ν:=Ad P P (FL P L)
def Le(f g:fI ν):Prop:=∀u v x,g u v=ZA x->∃y,f u v=ZA y/\y<=x
def Le.refl(f:fI ν):Le f f:=λu v x h=>⟨x,h,RS _⟩
def Le.trans{f g h:fI ν}(a:Le f g)(b:Le g h):Le f h:=λu v x e=>by
 obtain⟨y,e1,l1⟩:=b u v x e;obtain⟨z,e2,l2⟩:=a u v y e1;exact⟨z,e2,by omega⟩
variable{x:Int}
def mW{f:fI ν}{a b:ν}:wM f a b x a b=ZA x:=by unfold wM;rw[if_pos ⟨rfl,rfl⟩]
def uJ(f:fI ν)(a b:ν)(x:Int):Le (uK f a b x) f:=λu v y e=>by
 unfold uK
 cases q:f a b with
 |none=>
  by_cases z:u=a/\v=b
  ·obtain⟨rfl,rfl⟩:=z;rw[q]at e;cases e
  ·exact⟨y,by simp only;unfold wM;rw[if_neg z];exact e,RS _⟩
 |some y0=>
  simp only;split
  ·by_cases z:u=a/\v=b
   ·obtain⟨rfl,rfl⟩:=z;rw[q]at e;cases e
    exact⟨x,mW,by omega⟩
   ·exact⟨y,by unfold wM;rw[if_neg z];exact e,RS _⟩
  ·exact⟨y,e,RS _⟩
def Af(f:fI ν)(a b:ν)(x:Int):∃y,uK f a b x a b=ZA y/\y<=x:=by
 unfold uK
 cases q:f a b with
 |none=>exact⟨x,mW,RS _⟩
 |some y0=>
  simp only;split
  ·exact⟨x,mW,RS _⟩
  ·exact⟨y0,q,by omega⟩
def qk{L:cj ν}{f:fI ν}{a b:ν}(h:∀u v y,f u v=ZA y->Wk L u v y)(hx:Wk L a b x):∀u v y,uK f a b x u v=ZA y->Wk L u v y:=λu v y e=>by
 have key:wM f a b x u v=ZA y->Wk L u v y:=λe'=>by
  unfold wM at e'
  by_cases z:u=a/\v=b
  ·rw[if_pos z]at e';injection e' with e';rw[z.1,z.2,<-e'];exact hx
  ·rw[if_neg z]at e';exact h u v y e'
 unfold uK at e
 cases q:f a b with
 |none=>rw[q]at e;exact key e
 |some y0=>
  rw[q]at e;simp only at e
  split at e
  ·exact key e
  ·exact h u v y e
def wL(mid one other:ν)(f:fI ν):Le (qh mid one other f) f:=by
 unfold qh;split
 ·exact uJ _ _ _ _
 ·exact Le.refl f
def D2{mid one other:ν}{f:fI ν}(h1:f one mid=ZA x)(h2:f mid other=ZA y):∃z,qh mid one other f one other=ZA z/\z<=x+y:=by
 unfold qh;rw[h1,h2];exact Af _ _ _ _
theorem kj(step:fI ν->α->fI ν)(hs:∀f a,Le (step f a) f):∀(l:List α)(f:fI ν),Le (l.foldl step f) f
 |[],f=>Le.refl f
 |a::l,f=>(kj step hs l (step f a)).trans (hs f a)
def qi(mid one:ν)(P:List ν)(f:fI ν):Le (oH mid one P f) f:=kj _ (λf o=>wL mid one o f) P f
def wO(mid:ν)(Q P:List ν)(f:fI ν):Le (sg mid Q P f) f:=kj _ (λf o=>qi mid o P f) Q f
def D8(M P:List ν)(f:fI ν):Le (Ad M P f) f:=kj _ (λf o=>wO o P P f) M f
theorem oJ(step:fI ν->α->fI ν)(hs:∀f a,Le (step f a) f):∀(l:List α)(f:fI ν)(a:α),a∈l->∃g,Le g f/\Le (l.foldl step f) (step g a)
 |[],f,a,h=>by simp at h
 |b::l,f,a,h=>by
  rcases PJ.mp h with rfl|h
  ·exact⟨f,Le.refl f,kj step hs l (step f a)⟩
  ·obtain⟨g,h1,h2⟩:=oJ step hs l (step f b) a h
   exact⟨g,h1.trans (hs f b),h2⟩
def D6{mid u v:ν}{P:List ν}{f:fI ν}(hu:u∈P)(hv:v∈P)(h1:f u mid=ZA x)(h2:f mid v=ZA y):∃z,sg mid P P f u v=ZA z/\z<=x+y:=by
 obtain⟨g,g1,g2⟩:=oJ (λf one=>oH mid one P f) (λf o=>qi mid o P f) P f u hu
 obtain⟨g',g3,g4⟩:=oJ (λf other=>qh mid u other f) (λf o=>wL mid u o f) P g v hv
 have l:Le g' f:=g3.trans g1;obtain⟨x',e1,l1⟩:=l _ _ _ h1;obtain⟨y',e2,l2⟩:=l _ _ _ h2;obtain⟨z,e3,l3⟩:=D2 e1 e2;obtain⟨z',e4,l4⟩:=(g2.trans g4) _ _ _ e3;exact⟨z',e4,by omega⟩
def Up(L:cj ν)(M:List ν)(f:fI ν):Prop:=∀u v ms s,Pth L u ms v s->ms.Nodup->(∀x∈ms,x∈M)->∃y,f u v=ZA y/\y<=s
def Pth.ends{L:cj ν}{P:List ν}(hL:∀x∈L,x.1∈P/\x.2.1∈P){u v:ν}{ms:List ν}(h:Pth L u ms v s):u∈P/\v∈P/\∀x∈ms,x∈P:=by
 induction h with
 |one e=>exact⟨(hL _ e).1,(hL _ e).2,by simp⟩
 |cons e _ ih=>exact⟨(hL _ e).1,ih.2.1,λx hx=>by
   rcases PJ.mp hx with rfl|hx
   ·exact ih.1
   ·exact ih.2.2 x hx⟩
def Up.mid{L:cj ν}{P M:List ν}{f:fI ν}(hL:∀x∈L,x.1∈P/\x.2.1∈P)(h:Up L M f)(k:ν):Up L (k::M) (sg k P P f):=λu v ms s hp hn hm=>by
 by_cases hk:k∈ms
 ·obtain⟨p,q,rfl⟩:=Wi hk
  obtain⟨s1,s2,h1,h2,h3⟩:=hp.cut;rw[Qs]at hn;obtain⟨n1,n2,n3⟩:=hn;rw[Qh]at n2
  have hp':∀x∈p,x∈M:=λx hx=>by
   rcases PJ.mp (hm x (Qb _ hx))with rfl|z
   ·exact absurd rfl (n3 x hx x PB)
   ·exact z
  have hq':∀x∈q,x∈M:=λx hx=>by
   rcases PJ.mp (hm x (Qd _ (Pw _ hx)))with rfl|z
   ·exact absurd hx n2.1
   ·exact z
  obtain⟨y1,e1,l1⟩:=h u k p s1 h1 n1 hp';obtain⟨y2,e2,l2⟩:=h k v q s2 h2 n2.2 hq';obtain⟨z,e3,l3⟩:=D6 (P:=P) (h1.ends hL).1 (h2.ends hL).2.1 e1 e2;exact⟨z,e3,by omega⟩
 ·obtain⟨y,e,l⟩:=h u v ms s hp hn λx hx=>by
   rcases PJ.mp (hm x hx)with rfl|z
   ·exact absurd hx hk
   ·exact z
  obtain⟨z,e2,l2⟩:=wO k P P f u v y e;exact⟨z,e2,by omega⟩
theorem Up.Pn{L:cj ν}{P:List ν}(hL:∀x∈L,x.1∈P/\x.2.1∈P):∀(Q M:List ν)(f:fI ν),Up L M f->∃M',(∀x,x∈Q\/x∈M->x∈M')/\Up L M' (Ad Q P f)
 |[],M,f,h=>⟨M,λx hx=>hx.elim (λz=>by simp at z) id,h⟩
 |k::Q,M,f,h=>by
  obtain⟨M',h1,h2⟩:=Up.Pn hL Q (k::M) (sg k P P f) (h.mid hL k);refine⟨M',λx hx=>h1 x ?_,h2⟩
  rcases hx with hx|hx
  ·rcases PJ.mp hx with rfl|hx
   ·exact .inr PB
   ·exact .inl hx
  ·exact .inr (Pw _ hx)
def FK{P:List ν}{L:cj ν}:Up L [] (FL P L):=λu v ms s hp hn hm=>by
 have:ms=[]:=by
  cases ms with
  |nil=>rfl
  |cons x r=>exact absurd (hm x PB) (by simp)
 subst this
 cases hp with
 |one e=>
  obtain⟨g,h1,h2⟩:=oJ (λ(f:fI ν)(x:ν×ν×Int)=>uK f x.1 x.2.1 x.2.2) (λf x=>uJ f _ _ _) L (AL P) _ e
  obtain⟨y,e1,l1⟩:=Af g u v s;obtain⟨z,e2,l2⟩:=h2 u v y e1;exact⟨z,e2,by omega⟩
theorem gi{L:cj ν}(step:fI ν->α->fI ν):∀(l:List α)(f:fI ν),(∀f,∀a∈l,(∀u v y,f u v=ZA y->Wk L u v y)->∀u v y,step f a u v=ZA y->Wk L u v y)->(∀u v y,f u v=ZA y->Wk L u v y)->∀u v y,l.foldl step f u v=ZA y->Wk L u v y
 |[],f,_,h=>h
 |a::l,f,hs,h=>gi step l (step f a) (λf b hb=>hs f b (Pw _ hb)) (hs f a PB h)
def m7(P:List ν)(L:cj ν):∀u v y,table P L u v=ZA y->Wk L u v y:=by
 unfold table Ad;refine gi _ P _ (λf m _ h=>?_) ?_
 ·unfold sg
  refine gi _ P _ (λf o _ h=>?_) h
  unfold oH;refine gi _ P _ (λf v _ h=>?_) h
  unfold qh
  cases e1:f o m with
  |none=>exact h
  |some x=>
   cases e2:f m v with
   |none=>exact h
   |some y=>exact qk h ((h _ _ _ e1).app (h _ _ _ e2))
 ·unfold FL
  refine gi _ L _ (λf x hx h=>qk h (.one hx)) λu v y e=>?_
  unfold AL at e
  split at e
  ·rename_i z;obtain⟨_,rfl⟩:=z;cases e;exact .nil u
  ·cases e
def vn{P:List ν}{L:cj ν}(hL:∀x∈L,x.1∈P/\x.2.1∈P):∀u v ms s,Pth L u ms v s->ms.Nodup->∃y,table P L u v=ZA y/\y<=s:=λu v ms s hp hn=>by
 obtain⟨M',h1,h2⟩:=Up.Pn hL P [] (FL P L) FK;exact h2 u v ms s hp hn λx hx=>h1 x (.inl ((hp.ends hL).2.2 x hx))
def xK{P:List ν}{L:cj ν}{u:ν}(hu:u∈P):∃y,table P L u u=ZA y/\y<=0:=by
 have h0:AL P u u=ZA 0:=by unfold AL;rw[if_pos ⟨hu,rfl⟩]
 have h1:Le (table P L) (AL P):=(D8 P P _).trans (kj _ (λf x=>uJ f _ _ _) L _)
 exact h1 u u 0 h0
structure nE (L:cj ν)(P:List ν)(f:fI ν):Prop where
 is:∀u v d,f u v=ZA d->Wk L u v d
 le:∀u∈P,∀v t,Wk L u v t->∃d,f u v=ZA d/\d<=t
def AK{P:List ν}{L:cj ν}{u:ν}(h:table P L u u=ZA y)(hy:y<0):¬ fJ L:=λn=>by
 have:=n u y (m7 P L u u y h);omega
def vo{P:List ν}{L:cj ν}(hL:∀x∈L,x.1∈P/\x.2.1∈P)(h:∀u∈P,∀y,table P L u u=ZA y->0<=y):fJ L/\nE L P (table P L):=by
 have nc:¬ EZ L:=λ⟨x,ms,s,hp,hn,_,hs⟩=>by
  obtain⟨y,e,l⟩:=vn hL x x ms s hp hn
  have:=h x (hp.ends hL).1 y e;omega
 have le:∀u∈P,∀v t,Wk L u v t->∃d,table P L u v=ZA d/\d<=t:=λu hu v t w=>by
  rcases w.simple with z|⟨s',hs,z⟩
  ·exact absurd z nc
  ·rcases z with⟨rfl,rfl⟩|⟨_,ms,hp,hn,_⟩
   ·obtain⟨y,e,l⟩:=xK (L:=L) hu
    exact⟨y,e,by omega⟩
   ·obtain⟨y,e,l⟩:=vn hL u v ms s' hp hn
    exact⟨y,e,by omega⟩
 refine⟨λa s w=>?_,λu v d e=>m7 P L u v d e,le⟩
 by_cases ha:a∈P
 ·obtain⟨d,e,l⟩:=le a ha a s w
  have:=h a ha d e;omega
 ·cases w with
  |nil=>exact RS _
  |step e _=>exact absurd (hL _ e).1 ha
end Gr
variable{j:Int}
namespace G
open PySem Tr
def isI:T->Bool
 |.int _=>ZC
 |_=>ZD
def Ho(t:T)(h:t.pl=ZC):iM [t]=.ok (.bl (isI t)):=by
 cases t <;> first|rfl| (simp[T.pl]at h;done)
def aY(t:T)(a b:Int):Bool:=match t with
 |.int i=>decide (a<=i)&&decide (i<=b)
 |_=>ZD
def eR(t:T)(a b:Int)(h:t.pl=ZC):a0 [t,.int a,.int b]=.ok (.bl (aY t a b)):=by
 have w:=Ho t h
 cases t with
 |int i=>
  simp[a0,val,bK,jS,aT,aM,cY,vr,ch,cl,ae,ai,xj,aY,w,isI]
  cases decide (a<=i) <;> rfl
 |scr _=>simp[T.pl]at h
 |dct _ _=>simp[T.pl]at h
 |ob _ _ _=>simp[T.pl]at h
 |_=>simp[a0,val,bK,jS,aT,aM,cY,vr,ch,cl,ae,ai,aY,w,isI]
def dB(t:T)(a b:Nat):Bool:=match t with
 |.tup l=>decide (a<=l.length)&&decide (l.length<=b)
 |_=>ZD
def lj(t:T)(a b:Nat)(h:t.pl=ZC):aV [t,.int a,.int b]=.ok (.bl (dB t a b)):=by
 cases t with
 |tup l=>
  simp[aV,val,bK,sR,aT,aM,cY,o1,vr,Hi,T.ty,z7,ch,cl,ae,ai,cQ,T.items,xj,dB]
  cases decide (a<=l.length) <;> rfl
 |scr _=>simp[T.pl]at h
 |dct _ _=>simp[T.pl]at h
 |ob _ _ _=>simp[T.pl]at h
 |_=>rfl
def pw(x y:T):Bool:=aY x 1 9&&(match x with
 |.int i=>aY y i 9
 |_=>ZD)
def Lm(x y:T)(hx:x.pl=ZC)(hy:y.pl=ZC):fZ [x,y]=.ok (.bl (pw x y)):=by
 have w:=eR x 1 9 hx;unfold pw
 cases q:aY x 1 9 with
 |false=>rw[q]at w;simp[fZ,val,bK,m6,aT,aM,cY,vr,cn,cl,ae,ai,w]
 |true=>
  rw[q]at w
  cases x with
  |int i=>simp[fZ,val,bK,m6,aT,aM,cY,vr,cn,cl,ae,ai,w,eR y i 9 hy]
  |_=>cases q
def qG:List Int->Bool
 |a::b::r=>decide (a<b)&&qG (b::r)
 |_=>ZC
def Mt(a b:Int)(r:List Int):qG (a::b::r)=(decide (a<b)&&qG (b::r)):=rfl
variable{Z:En}{l:List T}
def uY{fe:Y2}{p:T->Bool}{fi:Y0}{src:List (Option Nat)}(hi:fi Z=.ok l)(hs:l.length<=ZI)(hn:0<src.length)(hf:∀t∈l,fe ((bN src Z).set 0 (.va t))=.ok (.bl (p t))):
  cl rq (ae (fL fi src (gN 0) bT fe) ai) Z=.ok (.bl (l.all p)):=by
 have e:=yz (fe:=fe) (h:=λt=>T.bl (p t)) l (bN src Z) (by unfold bN;rw[Py];exact hn) hf
 simp only[cl,ae,ai,fL,hi,ax,if_pos hs,e,all_map]
def mP(l:List T):T->Bool
 |.int k=>match L2.atI l k,L2.atI l (k+1)with
  |some (.int a),ZA (.int b)=>decide (a<b)
  |_,_=>ZD
 |_=>ZD
def iF{t:T}(h:t∈rng 0 j):∃k:Nat,t=.int k/\(k:Int)<j:=by
 unfold rng at h;obtain⟨k,hk,e⟩:=Qa.mp h;rw[Ro]at hk;exact⟨k,by rw[<-e];simp,by omega⟩
theorem Jq:(l:List Int)->l.length<=4->(rng 0 ((l.length:Int) - 1)).all (mP (l.map .int))=qG l
 |[],_=>rfl
 |[a],_=>rfl
 |[a,b],_=>by simp[rng,Vw,mP,L2.atI,L2.ixN,qG]
 |[a,b,c],_=>by simp[rng,Vw,mP,L2.atI,L2.ixN,qG]
 |[a,b,c,d],_=>by simp[rng,Vw,mP,L2.atI,L2.ixN,qG,Bool.and_assoc]
 |a::b::c::d::e::r,h=>absurd h (by simp only[PH];omega)
def Hr(l:List Int)(h:l.length<=4):kg [.tup (l.map .int)]=.ok (.bl (qG l)):=by
 have hr:iR (ae (o2 iC (cl cQ (ae (vr 0) ai)) (cn (.int 1))) ai) [.va (.tup (l.map .int))]=.ok (rng 0 ((l.length:Int) - 1)):=by
  have:yH ((l.length:Int) - 1)=ZC:=by unfold yH;rw[PC];exact⟨decide_eq_true (by omega),decide_eq_true (by omega)⟩
  simp[iR,ae,ai,o2,cl,vr,cn,cQ,T.items,iC,this]
 have hs:(rng 0 ((l.length:Int) - 1)).length<=ZI:=by
  unfold rng ZI;rw[Py,Sn];omega
 have e:=uY (fe:=o2 G3 (o2 aR (vr 1) (vr 0)) (o2 aR (vr 1) (o2 aS (vr 0) (cn (.int 1))))) (p:=mP (l.map .int)) (src:=[ZB,ZA 0]) hr hs (by decide) (λt ht=>by
  obtain⟨k,rfl,hk⟩:=iF ht
  have h1:(l.map T.int)[k]?=ZA (.int (l[k]'(by omega))):=by simp
  have h2:(l.map T.int)[k+1]?=ZA (.int (l[k+1]'(by omega))):=by rw[P9,P5 (by omega)];rfl
  have g1:=ly h1
  have g2:L2.atI (l.map T.int) ((k:Int)+1)=ZA (.int (l[k+1]'(by omega))):=ly h2
  simp[o2,vr,bN,cn,aS,aR,T.items,g1,g2,xj,mP])
 rw[Jq l h]at e;simp only[kg,val,QN,if_true,AA,bK,aM,aT]
 show(do let f <-(do let t <-cl rq _ [.va (.tup (l.map .int))];Rs.ok (Fl.rt t));_)=_
 rw[e]
 rfl
def nums:List T->Option (List Int)
 |[] =>ZA []
 |.int i::l=>match nums l with
  |some m=>ZA (i::m)
  |none=>ZB
 |_::_=>ZB
def dm(t:T):Bool:=dB t 1 4&&(match t with
 |.tup l=>l.all (λu=>aY u 0 99)&&(match nums l with|some m=>qG m|none=>ZD)
 |_=>ZD)
theorem pL:∀{l:List T}{m:List Int},nums l=ZA m->l=m.map .int
 |[],m,h=>by cases h;rfl
 |t::l,m,h=>by
  cases t with
  |int i=>
   unfold nums at h
   cases q:nums l with
   |none=>rw[q]at h;cases h
   |some m'=>rw[q]at h;cases h;rw[PF,<-pL q]
  |_=>cases h
theorem uu:∀{l:List T}{a b:Int},(l.all λu=>aY u a b)=ZC->∃m,nums l=ZA m
 |[],_,_,_=>⟨[],rfl⟩
 |t::l,a,b,h=>by
  rw[Ug,PC]at h
  cases t with
  |int i=>
   obtain⟨m,e⟩:=uu h.2
   exact⟨i::m,by unfold nums;rw[e]⟩
  |_=>exact absurd h.1 (by simp[aY])
def dA{t:T}{b:Nat}(h:dB t a b=ZC):∃l,t=.tup l/\a<=l.length/\l.length<=b:=by
 cases t with
 |tup l=>unfold dB at h;rw[PC]at h;exact⟨l,rfl,of_decide_eq_true h.1,of_decide_eq_true h.2⟩
 |_=>cases h
def small(h:n<=k)(hk:autoParam (k<=1000) s_):n<=ZI:=by unfold ZI;omega
def yO(t:T)(h:t.pl=ZC):bS [t]=.ok (.bl (dm t)):=by
 have w:aV [t,.int 1,.int 4]=.ok (.bl (dB t 1 4)):=lj t 1 4 h;unfold dm
 cases q:dB t 1 4 with
 |false=>rw[q]at w;simp[bS,val,bK,eY,aT,aF,gC,du,tb,sN,aM,cl,vr,cn,ae,ai,w]
 |true=>
  rw[q]at w;obtain⟨l,rfl,h1,h2⟩:=dA q
  have hp:∀u∈l,u.pl=ZC:=λu hu=>fW (by unfold T.pl at h;exact h) hu
  have e:=uY (fe:=cl a0 (ae (vr 0) (ae (cn (.int 0)) (ae (cn (.int 99)) ai)))) (p:=λu=>aY u 0 99) (src:=[ZB]) (fi:=iS (vr 0)) (Z:=[.va (.tup l)]) rfl (small h2) (by decide) (λu hu=>by
   simp[cl,ae,ai,vr,cn,bN,eR u 0 99 (hp u hu)])
  have w':cl aV (ae (vr 0) (ae (cn (.int 1)) (ae (cn (.int 4)) ai))) [.va (.tup l)]=.ok (.bl ZC):=w
  show bS _=.ok (.bl (ZC&&(l.all (λu=>aY u 0 99)&&(match nums l with|some m=>qG m|none=>ZD))))
  cases qa:l.all λu=>aY u 0 99 with
  |false=>
   rw[qa]at e
   simp[bS,val,bK,eY,aT,aF,gC,du,tb,sN,aM,cY,e,w']
  |true=>
   rw[qa]at e;obtain⟨m,em⟩:=uu qa
   have el:=pL em
   have er:=Hr m (by rw[el,Py]at h2;exact h2)
   rw[<-el]at er
   have er':cl kg (ae (vr 0) ai) [.va (.tup l)]=.ok (.bl (qG m)):=er;simp[bS,val,bK,eY,aT,aF,gC,du,tb,sN,aM,cY,e,w',er',em]
def at_(t:T)(k:Nat):T:=match t.items with
 |some l=>l.getD k .non
 |none=>.non
def bj(t:T):Bool:=dB t 3 3&&(match t with
 |.tup [x,y,r] =>pw x y&&dm r
 |_=>ZD)
def Hu(t:T)(h:t.pl=ZC):dy [t]=.ok (.bl (bj t)):=by
 have w:aV [t,.int 3,.int 3]=.ok (.bl (dB t 3 3)):=lj t 3 3 h;unfold bj
 cases q:dB t 3 3 with
 |false=>rw[q]at w;simp[dy,val,bK,iZ,aT,aM,cY,cl,vr,cn,ae,ai,w]
 |true=>
  rw[q]at w;obtain⟨l,rfl,h1,h2⟩:=dA q
  match l,h1,h2 with
  |[x,y,r],_,_=>
   simp[T.pl,plS]at h;obtain⟨px,py,pr⟩:=h
   have g0:aR (.tup [x,y,r]) (.int 0)=.ok x:=rfl
   have g1:aR (.tup [x,y,r]) (.int 1)=.ok y:=rfl
   have g2:aR (.tup [x,y,r]) (.int 2)=.ok r:=rfl
   have ep:=Lm x y px py
   have er:=yO r pr
   cases qp:pw x y with
   |false=>rw[qp]at ep;simp[dy,val,bK,iZ,aT,aM,cY,cl,vr,cn,ae,ai,o2,w,g0,g1,ep,qp]
   |true=>rw[qp]at ep;simp[dy,val,bK,iZ,aT,aM,cY,cl,vr,cn,ae,ai,o2,w,g0,g1,g2,ep,er,qp]
def aZ(t:T):Bool:=dB t 1 4&&(match t with
 |.tup l=>l.all bj
 |_=>ZD)
def Eo(t:T)(h:t.pl=ZC):dH [t]=.ok (.bl (aZ t)):=by
 have w:aV [t,.int 1,.int 4]=.ok (.bl (dB t 1 4)):=lj t 1 4 h;unfold aZ
 cases q:dB t 1 4 with
 |false=>rw[q]at w;simp[dH,val,bK,i0,aT,aM,cY,cl,vr,cn,ae,ai,w]
 |true=>
  rw[q]at w;obtain⟨l,rfl,h1,h2⟩:=dA q
  have hp:∀u∈l,u.pl=ZC:=λu hu=>fW (by unfold T.pl at h;exact h) hu
  have e:=uY (fe:=cl dy (ae (vr 0) ai)) (p:=bj) (src:=[ZB]) (fi:=iS (vr 0)) (Z:=[.va (.tup l)]) rfl (small h2) (by decide) (λu hu=>by
   simp[cl,ae,ai,vr,cn,bN,Hu u (hp u hu)])
  have w':cl aV (ae (vr 0) (ae (cn (.int 1)) (ae (cn (.int 4)) ai))) [.va (.tup l)]=.ok (.bl ZC):=w;simp[dH,val,bK,i0,aT,aM,cY,e,w']
def dI(x y:T):Bool:=aY x 0 999&&(match x,y with
 |_,.non=>ZC
 |.int i,_=>aY y i 999
 |_,_=>ZD)
def Ht(x y:T)(hx:x.pl=ZC)(hy:y.pl=ZC):dY [x,y]=.ok (.bl (dI x y)):=by
 have w:=eR x 0 999 hx;unfold dI
 cases q:aY x 0 999 with
 |false=>rw[q]at w;simp[dY,val,bK,iY,aT,aM,cY,vr,cn,cl,ae,ai,w]
 |true=>
  rw[q]at w
  cases x with
  |int i=>
   have e:=eR y i 999 hy
   cases y with
   |non=>simp[dY,val,bK,iY,aT,aM,cY,Fc,vr,cn,cl,ae,ai,o2,kz,T.isN,w]
   |_=>simp[dY,val,bK,iY,aT,aM,cY,Fc,vr,cn,cl,ae,ai,o2,kz,T.isN,w,e]
  |_=>cases q
def reads(cs:List T)(c:Int):Nat:=if 0<=c then(match cs[c.toNat]? with
 |some (.tup [_,_,.tup r])=>r.length
 |_=>0)else 0
def aw(cs:List T)(t:T):Bool:=match t with
 |.tup [.int c,.int k] =>decide (0<=c)&&decide (c<cs.length)&&(decide (0<=k)&&decide (k<reads cs c))
 |_=>ZD
def nA{t:T}(h:bj t=ZC):∃x y r,t=.tup [x,y,.tup r]:=by
 unfold bj at h;rw[PC]at h;obtain⟨h1,h2⟩:=h;obtain⟨l,rfl,h3,h4⟩:=dA h1
 match l,h3,h4,h2 with
 |[x,y,r],_,_,h2=>
  simp only[PC]at h2;obtain⟨_,h5⟩:=h2;unfold dm at h5;rw[PC]at h5;obtain⟨m,rfl,_⟩:=dA h5.1;exact⟨x,y,m,rfl⟩
def cM{t:T}{a b:Int}(h:aY t a b=ZC):∃i,t=.int i/\a<=i/\i<=b:=by
 cases t with
 |int i=>unfold aY at h;rw[PC]at h;exact⟨i,rfl,of_decide_eq_true h.1,of_decide_eq_true h.2⟩
 |_=>cases h
def uO(cs:List T)(t:T)(hc:aZ (.tup cs)=ZC)(h:t.pl=ZC):cN [.tup cs,t]=.ok (.bl (aw cs t)):=by
 have w:aV [t,.int 2,.int 2]=.ok (.bl (dB t 2 2)):=lj t 2 2 h
 cases q:dB t 2 2 with
 |false=>
  rw[q]at w
  have:aw cs t=ZD:=by
   unfold aw;split
   ·cases q
   ·rfl
  simp[cN,val,bK,iX,aT,aF,gC,qH,du,tb,sN,aM,cl,vr,cn,ae,ai,w,this]
 |true=>
  rw[q]at w;obtain⟨l,rfl,h1,h2⟩:=dA q
  match l,h1,h2 with
  |[x,y],_,_=>
   simp[T.pl,plS]at h;obtain⟨px,py⟩:=h
   have g0:aR (.tup [x,y]) (.int 0)=.ok x:=rfl
   have g1:aR (.tup [x,y]) (.int 1)=.ok y:=rfl
   have gl:cQ [.tup cs]=.ok (.int cs.length):=rfl
   have e1:=eR x 0 ((cs.length:Int) - 1) px
   cases q1:aY x 0 ((cs.length:Int) - 1)with
   |false=>
    rw[q1]at e1
    have:aw cs (.tup [x,y])=ZD:=by
     cases x with
     |int c=>
      cases y with
      |int k=>
       simp only[aY,Vx,decide_eq_false_iff_not]at q1;simp only[aw,Vx,decide_eq_false_iff_not]
       omega
      |_=>rfl
     |_=>rfl
    simp[cN,val,bK,iX,aT,aF,gC,qH,du,tb,sN,aM,cl,vr,cn,ae,ai,o2,iC,w,g0,gl,e1,this]
   |true=>
    rw[q1]at e1;obtain⟨c,rfl,c1,c2⟩:=cM q1;obtain⟨n,rfl⟩:=Qi c1
    have hn:n<cs.length:=by omega
    have hcl:bj cs[n]=ZC:=by
     unfold aZ at hc;rw[PC]at hc;exact Qk.mp hc.2 _ (QU hn)
    obtain⟨a,b,r,er⟩:=nA hcl
    have g2:aR (.tup cs) (.int (n:Int))=.ok (.tup [a,b,.tup r]):=by
     simp only[aR,T.items];rw[ly (P5 hn),er]
    have g3:aR (.tup [a,b,.tup r]) (.int 2)=.ok (.tup r):=rfl
    have gr:cQ [.tup r]=.ok (.int r.length):=rfl
    have e2:=eR y 0 ((r.length:Int) - 1) py
    have:aw cs (.tup [.int n,y])=aY y 0 ((r.length:Int) - 1):=by
     have er2:reads cs (n:Int)=r.length:=by
      unfold reads;rw[if_pos c1,Rx,P5 hn,er]
     cases y with
     |int k=>
      simp only[aw,aY,er2];rw[decide_eq_true c1,decide_eq_true (show(n:Int)<cs.length by omega)]
      simp only[Tj]
      congr 1
      exact decide_eq_decide.mpr (by omega)
     |_=>rfl
    simp[cN,val,bK,iX,aT,aF,gC,qH,du,tb,sN,aM,cl,vr,cn,ae,ai,o2,iC,w,g0,g1,g2,g3,gl,gr,e1,e2,this]
def bp(cs:List T)(t:T):Bool:=match t with
 |.tup [a,b,x,y] =>dI x y&&(aw cs a&&(aw cs b&& !aX a b))
 |_=>ZD
variable{cs:List T}
def aJ{t:T}(h:aw cs t=ZC):∃c k:Int,t=.tup [.int c,.int k]:=by
 unfold aw at h
 split at h
 ·exact⟨_,_,rfl⟩
 ·cases h
def Ei(cs:List T)(t:T)(hc:aZ (.tup cs)=ZC)(h:t.pl=ZC):b8 [.tup cs,t]=.ok (.bl (bp cs t)):=by
 have w:aV [t,.int 4,.int 4]=.ok (.bl (dB t 4 4)):=lj t 4 4 h
 cases q:dB t 4 4 with
 |false=>
  rw[q]at w
  have:bp cs t=ZD:=by
   unfold bp;split
   ·cases q
   ·rfl
  simp[b8,val,bK,ee,aT,aF,gC,qH,du,tb,sN,aM,cl,vr,cn,ae,ai,w,this]
 |true=>
  rw[q]at w;obtain⟨l,rfl,h1,h2⟩:=dA q
  match l,h1,h2 with
  |[a,b,x,y],_,_=>
   simp[T.pl,plS]at h;obtain⟨pa,pb,px,py⟩:=h
   have g0:aR (.tup [a,b,x,y]) (.int 0)=.ok a:=rfl
   have g1:aR (.tup [a,b,x,y]) (.int 1)=.ok b:=rfl
   have g2:aR (.tup [a,b,x,y]) (.int 2)=.ok x:=rfl
   have g3:aR (.tup [a,b,x,y]) (.int 3)=.ok y:=rfl
   have e1:=Ht x y px py
   have e2:=uO cs a hc pa
   have e3:=uO cs b hc pb
   show _=Rs.ok (T.bl (dI x y&&(aw cs a&&(aw cs b&& !aX a b))))
   cases q1:dI x y with
   |false=>
    rw[q1]at e1
    simp[b8,val,bK,ee,aT,aF,gC,qH,du,tb,sN,aM,cl,vr,cn,ae,ai,o2,w,g2,g3,e1]
   |true=>
    rw[q1]at e1
    cases q2:aw cs a with
    |false=>
     rw[q2]at e2
     simp[b8,val,bK,ee,aT,aF,gC,qH,du,tb,sN,aM,cY,cl,vr,cn,ae,ai,o2,w,g0,g2,g3,e1,e2]
    |true=>
     rw[q2]at e2
     cases q3:aw cs b with
     |false=>
      rw[q3]at e3
      simp[b8,val,bK,ee,aT,aF,gC,qH,du,tb,sN,aM,cY,cl,vr,cn,ae,ai,o2,w,g0,g1,g2,g3,e1,e2,e3]
     |true=>
      rw[q3]at e3;obtain⟨c,k,rfl⟩:=aJ q2
      have f:gj (.tup [.int c,.int k]) b=ZC:=iu (by simp[T.dep,deps]) rfl (T.KM _ pb)
      have g4:v8 (.tup [.int c,.int k]) b=.ok (.bl (!aX (.tup [.int c,.int k]) b)):=by unfold v8;rw[if_pos f]
      simp[b8,val,bK,ee,aT,aF,gC,qH,du,tb,sN,aM,cY,cl,vr,cn,ae,ai,o2,w,g0,g1,g2,g3,g4,e1,e2,e3]
def kh(cs:List T)(t:T):Bool:=dB t 0 8&&(match t with
 |.tup l=>l.all (bp cs)
 |_=>ZD)
def Bt(cs:List T)(t:T)(hc:aZ (.tup cs)=ZC)(h:t.pl=ZC):dh [.tup cs,t]=.ok (.bl (kh cs t)):=by
 have w:aV [t,.int 0,.int 8]=.ok (.bl (dB t 0 8)):=lj t 0 8 h;unfold kh
 cases q:dB t 0 8 with
 |false=>rw[q]at w;simp[dh,val,bK,gW,aT,aM,cY,cl,vr,cn,ae,ai,w]
 |true=>
  rw[q]at w;obtain⟨l,rfl,h1,h2⟩:=dA q
  have hp:∀u∈l,u.pl=ZC:=λu hu=>fW (by unfold T.pl at h;exact h) hu
  have e:=uY (fe:=cl b8 (ae (vr 1) (ae (vr 0) ai))) (p:=bp cs) (src:=[ZB,ZA 0]) (fi:=iS (vr 1)) (Z:=[.va (.tup cs),.va (.tup l)]) rfl (small h2) (by decide) (λu hu=>by
   simp[cl,ae,ai,vr,cn,bN,Ei cs u hc (hp u hu)])
  have w':cl aV (ae (vr 1) (ae (cn (.int 0)) (ae (cn (.int 8)) ai))) [.va (.tup cs),.va (.tup l)]=.ok (.bl ZC):=w;simp[dh,val,bK,gW,aT,aM,cY,e,w']
def dJ(t:T):Bool:=match t with
 |.tup [.tup cs,ls] =>aZ (.tup cs)&&kh cs ls
 |_=>ZD
def w4(t:T)(h:t.pl=ZC):dw [t]=.ok (.bl (dJ t)):=by
 have w:aV [t,.int 2,.int 2]=.ok (.bl (dB t 2 2)):=lj t 2 2 h
 cases q:dB t 2 2 with
 |false=>
  rw[q]at w
  have:dJ t=ZD:=by
   unfold dJ;split
   ·cases q
   ·rfl
  simp[dw,val,bK,gM,aT,aM,cY,cl,vr,cn,ae,ai,w,this]
 |true=>
  rw[q]at w;obtain⟨l,rfl,h1,h2⟩:=dA q
  match l,h1,h2 with
  |[x,y],_,_=>
   simp[T.pl,plS]at h;obtain⟨px,py⟩:=h
   have g0:aR (.tup [x,y]) (.int 0)=.ok x:=rfl
   have g1:aR (.tup [x,y]) (.int 1)=.ok y:=rfl
   have e1:=Eo x px
   cases q1:aZ x with
   |false=>
    rw[q1]at e1
    have:dJ (.tup [x,y])=ZD:=by
     cases x with
     |tup cs=>show(aZ (.tup cs)&&_)=ZD;rw[q1];rfl
     |_=>rfl
    simp[dw,val,bK,gM,aT,aM,cY,cl,vr,cn,ae,ai,o2,w,g0,e1,this]
   |true=>
    rw[q1]at e1
    cases x with
    |tup cs=>
     have e2:=Bt cs y q1 py
     have:dJ (.tup [.tup cs,y])=kh cs y:=by show(aZ (.tup cs)&&_)=_;rw[q1];rfl
     simp[dw,val,bK,gM,aT,aM,cY,cl,vr,cn,ae,ai,o2,w,g0,g1,e1,e2,this]
    |_=>cases q1
theorem f9:∀m:List Int,deps (m.map .int)=0
 |[] =>rfl
 |a::m=>by rw[PF,deps,f9 m];rfl
def kB(i n:Nat):List T:=(rng 0 n).map λt=>T.tup [.int i,t]
def Ib:T->Nat
 |.tup [_,_,.tup r] =>r.length
 |_=>0
def bB:Nat->List T->List T
 |_,[] =>[]
 |i,c::r=>kB i (Ib c)++bB (i+1) r
def gL{t:T}(h:bj t=ZC):∃x y r,t=.tup [x,y,.tup r]/\1<=r.length/\r.length<=4:=by
 obtain⟨x,y,r,rfl⟩:=nA h
 have:dm (.tup r)=ZC:=by
  have h':(pw x y&&dm (.tup r))=ZC:=h;rw[PC]at h';exact h'.2
 unfold dm at this;rw[PC]at this;obtain⟨l,e,h1,h2⟩:=dA this.1;cases e;exact⟨x,y,r,rfl,h1,h2⟩
def jN(i n:Nat):(kB i n).length=n:=by unfold kB;rw[Py,iG]
abbrev evG:T->En->Rs En:=gT 2 (wK (gN 2) (wK (gN 3) Fg))
def Hj{f:Y0}(h:f Z=.ok [.int j])(h0:0<=j)(h1:j<=100000):iR f Z=.ok (rng 0 j):=by
 have e:yH j=ZC:=by unfold yH;rw[PC];exact⟨decide_eq_true (by omega),decide_eq_true (by omega)⟩
 unfold iR;rw[h]
 show(if yH j=ZC then _ else _)=_
 rw[e];rfl
def Ax(l m:List T)(h:(l++m).length<=1000):aS (.lst l) (.lst m)=.ok (.lst (l++m)):=by
 show jg (l++m)=_
 unfold jg;rw[if_pos (aD h)]
def kq(l m:List T)(h:(l++m).length<=1000):aS (.tup l) (.tup m)=.ok (.tup (l++m)):=by
 show kK (l++m)=_
 unfold kK;rw[if_pos (aD h)]
def NQ(c0 acc x y:T)(r:List T)(i:Nat)(h:r.length<=4):
  fL (iR (ae (cl cQ (ae (o2 aR (vr 3) (cn (.int 2))) ai)) ai)) [ZB,ZA 2] (gN 0) bT (ba (ae (vr 1) (ae (vr 0) ai))) [.va c0,.va acc,.va (.int i),.va (.tup [x,y,.tup r])]=.ok (.lst (kB i r.length)):=
 mT (Hj (j:=(r.length:Int)) rfl (by omega) (by omega)) (aD (k:=4) (by rw[iG];exact h)) (by simp) λt _=>mk2 _ _
def Hl(c0 x y:T)(acc r:List T)(i:Nat)(h:r.length<=4)(ha:acc.length<=100):evF [.va c0,.va (.lst acc),.va (.int i),.va (.tup [x,y,.tup r])]=.ok (.nx [.va c0,.va (.lst (acc++kB i r.length)),.va (.int i),.va (.tup [x,y,.tup r])]):=
 cO (aI (t:=.lst acc) rfl (NQ c0 (.lst acc) x y r i h) (Ax _ _ (by rw[PK,jN];omega))) rfl
theorem Ag:∀(cs:List T)(c0:T)(acc:List T)(i:Nat)(s2 s3:Sl),(∀c∈cs,bj c=ZC)->acc.length+4*cs.length<=100 →
  ∃y2 y3,bq evG evF (dg i cs) [.va c0,.va (.lst acc),s2,s3]=.ok (.nx [.va c0,.va (.lst (acc++bB i cs)),y2,y3])
 |[],c0,acc,i,s2,s3,_,_=>⟨s2,s3,by simp[dg,bq,bB]⟩
 |c::cs,c0,acc,i,s2,s3,hc,hl=>by
  obtain⟨x,y,r,rfl,r1,r2⟩:=gL (hc c PB);rw[PH]at hl;obtain⟨z2,z3,ih⟩:=Ag cs c0 (acc++kB i r.length) (i+1) (.va (.int i)) (.va (.tup [x,y,.tup r])) (λc h=>hc c (Pw _ h)) (by rw[PK,jN];omega)
  refine⟨z2,z3,?_⟩
  rw[dg,eQ (Z1:=[.va c0,.va (.lst acc),.va (.int i),.va (.tup [x,y,.tup r])]) rfl (Hl c0 x y acc r i r2 (by omega)),ih,bB,Qy]
  rfl
def bf(hc:aZ (.tup cs)=ZC):(∀c∈cs,bj c=ZC)/\1<=cs.length/\cs.length<=4:=by
 unfold aZ at hc;rw[PC]at hc;obtain⟨l,e,h1,h2⟩:=dA hc.1;cases e;exact⟨λc h=>Qk.mp hc.2 c h,h1,h2⟩
def w6(cs:List T)(hc:aZ (.tup cs)=ZC):cb [.tup cs]=.ok (.lst (bB 0 cs)):=by
 obtain⟨ha,h1,h2⟩:=bf hc;obtain⟨y2,y3,e⟩:=Ag cs (.tup cs) [] 0 .em .em ha (by simp;omega)
 rw[Sm]at e;refine bA rfl ?_
 unfold kN;rw[aB (Z':=[.va (.tup cs),.va (.lst []),.em,.em]) rfl,aB ((gK (ts:=dg 0 cs) rfl e))]
 rfl
def zN(h:k<n):T.int (k:Int)∈rng 0 (n:Int):=by
 unfold rng;exact Qa.mpr ⟨k,Ro.mpr (by omega),by simp⟩
def EL(i n c k:Nat):(kB i n).any (λy=>aX y (.tup [.int c,.int k]))=decide (i=c/\k<n):=by
 rw[SH,T5,decide_eq_true_iff];unfold kB
 constructor
 ·rintro ⟨y,hy,e⟩
  obtain⟨t,ht,rfl⟩:=Qa.mp hy;obtain⟨j,rfl,hj⟩:=iF ht;simp[aX,beqTs]at e;omega
 ·rintro ⟨rfl,h⟩
  exact⟨_,Qa.mpr ⟨.int k,zN h,rfl⟩,by simp[aX,beqTs]⟩
theorem Aw:∀(cs:List T)(i c k:Nat),(bB i cs).any (λy=>aX y (.tup [.int c,.int k]))=decide (i<=c/\c<i+cs.length/\k<Ib (cs.getD (c - i) .non))
 |[],i,c,k=>by
  rw[bB,List.any_nil,eq_comm,decide_eq_false_iff_not]
  simp;omega
 |x::cs,i,c,k=>by
  rw[bB,List.any_append,EL,Aw cs (i+1) c k,<-Bool.decide_or,decide_eq_decide,PH]
  constructor
  ·rintro (⟨rfl,h⟩|⟨h1,h2,h3⟩)
   ·refine⟨PP _,by omega,?_⟩
    rw[TU];exact h
   ·refine⟨by omega,by omega,?_⟩
    have:c - i=(c - (i+1))+1:=by omega
    rw[this];exact h3
  ·rintro ⟨h1,h2,h3⟩
   rcases Nat.eq_or_lt_of_le h1 with rfl|h
   ·rw[TU]at h3
    exact .inl ⟨rfl,h3⟩
   ·refine .inr ⟨h,by omega,?_⟩
    have:c - i=(c - (i+1))+1:=by omega
    rw[this]at h3;exact h3
def mw(cs:List T)(c:Nat):reads cs (c:Int)=Ib (cs.getD c .non):=by
 unfold reads;rw[if_pos (by omega),Rx,UF]
 cases cs[c]? with
 |none=>rfl
 |some t=>
  cases t with
  |tup l=>
   match l with
   |[] =>rfl
   |[_] =>rfl
   |[_,_] =>rfl
   |[_,_,z] =>cases z <;> rfl
   |_::_::z::_::_=>cases z <;> rfl
  |_=>rfl
mutual
def sm(n:Nat):T->Bool
 |.dct _ _=>ZD
 |.ob _ _ _=>ZD
 |.scr _=>ZD
 |.tup l=>decide (l.length<=n)&&sms n l
 |.lst l=>decide (l.length<=n)&&sms n l
 |_=>ZC
def sms(n:Nat):List T->Bool
 |[] =>ZC
 |t::l=>sm n t&&sms n l
end
mutual
theorem zl{n:Nat}:∀(t:T),sm n t=ZC->t.pl=ZC
 |.scr _,h=>by simp[sm]at h
 |.dct _ _,h=>by simp[sm]at h
 |.ob _ _ _,h=>by simp[sm]at h
 |.tup l,h=>by rw[sm,PC]at h;rw[T.pl];exact sms_pl l h.2
 |.lst l,h=>by rw[sm,PC]at h;rw[T.pl];exact sms_pl l h.2
 |.non,_=>by simp[T.pl]
 |.bl _,_=>by simp[T.pl]
 |.int _,_=>by simp[T.pl]
 |.str _,_=>by simp[T.pl]
theorem sms_pl{n:Nat}:∀(l:List T),sms n l=ZC->plS l=ZC
 |[],_=>by simp[plS]
 |t::l,h=>by rw[sms,PC]at h;rw[plS,zl t h.1,sms_pl l h.2];rfl
end
theorem zk:∀{l:List T},sms n l=ZC↔ ∀t∈l,sm n t=ZC
 |[] =>by simp[sms]
 |t::l=>by rw[sms,PC,zk (l:=l)];simp
def sm_tup:sm n (.tup l)=ZC↔l.length<=n/\∀t∈l,sm n t=ZC:=by rw[sm,PC,zk,decide_eq_true_iff]
def lh{i:Int}(h:0<j):lR (.int i) (.int j)=.ok (.int (i % j)):=by show(if _ then _ else _)=_;rw[if_pos h]
def oK{i:Int}(h:0<j)(h2:j<1073741824):lZ (.int i) (.int j)=.ok (.int (i / j)):=by show(if _ then _ else _)=_;rw[if_pos ⟨h,h2⟩]
def ni{i:Int}(h : -18446744073709551616<i)(h2:i<18446744073709551616):cP (.int i) (.int j)=.ok (.int (i*j)):=by
 show yk (.int i) (.int j)=_
 show(if _ then _ else _)=_
 rw[if_pos (.inl ⟨by omega,by omega⟩)]
def Di{i:Int}(h : -18446744073709551616<j)(h2:j<18446744073709551616):cP (.int i) (.int j)=.ok (.int (i*j)):=by
 show yk (.int i) (.int j)=_
 show(if _ then _ else _)=_
 rw[if_pos (.inr ⟨by omega,by omega⟩)]
def Lr(ns:List Int)(k:Nat)(hn:ns.length<=63):∃c,fG [.scr ns,.int k]=.ok (.int c):=by
 have e0:o2 kn (vr 0) (gq ai) [.va (.scr ns),.va (.int k)]=.ok (.bl (kM ns [])):=by
  refine aI (t:=.scr ns) (u:=.lst []) rfl (nu (ts:=[]) rfl (aD (k:=0) (PP _))) ?_
  unfold kn;rw[if_pos (iu (by simp[T.dep]) rfl rfl)]
  rfl
 cases ns with
 |nil=>
  refine⟨7*k,bA rfl ?_⟩
  unfold jW
  refine mS ((gJ (cJ e0)).trans (cf (aI (t:=.int 7) (u:=.int k) rfl rfl (ni (by omega) (by omega)))))
 |cons a r=>
  have hl:(0:Int)<((a::r).length:Nat):=by simp only[PH];omega
  have hl2:(((a::r).length:Nat):Int)<1073741824:=by simp only[PH]at hn ⊢;omega
  have hi:k % (a::r).length<(a::r).length:=Nat.mod_lt _ (by simp)
  have g0:o2 lR (vr 1) (cl cQ (ae (vr 0) ai)) [.va (.scr (a::r)),.va (.int k)]=.ok (.int ((k % (a::r).length:Nat):Int)):=by
   refine aI (t:=.int k) (u:=.int ((a::r).length:Nat)) rfl ?_ (by rw[lh hl];rfl)
   refine aQ (ts:=[.scr (a::r)]) rfl ?_
   show Rs.ok (T.int (((a::r).map T.int).length:Nat))=_
   rw[Py]
  have g1:aR (.scr (a::r)) (.int ((k % (a::r).length:Nat):Int))=.ok (.int (a::r)[k % (a::r).length]):=by
   have e:((a::r).map T.int)[k % (a::r).length]?=ZA (.int (a::r)[k % (a::r).length]):=by rw[P9,P5 hi];rfl
   show(match L2.atI ((a::r).map T.int) ((k % (a::r).length:Nat):Int)with|some t=>Rs.ok t|none=>.bad)=_
   rw[ly e]
  have g2:o2 lZ (vr 1) (cl cQ (ae (vr 0) ai)) [.va (.scr (a::r)),.va (.int k)]=.ok (.int ((k:Int) / ((a::r).length:Nat))):=by
   refine aI (t:=.int k) (u:=.int ((a::r).length:Nat)) rfl ?_ (oK hl hl2)
   refine aQ (ts:=[.scr (a::r)]) rfl ?_
   show Rs.ok (T.int (((a::r).map T.int).length:Nat))=_
   rw[Py]
  refine⟨(a::r)[k % (a::r).length] +6553*((k:Int) / ((a::r).length:Nat)),bA rfl ?_⟩
  unfold jW
  show aF _ _ [.va (.scr (a::r)),.va (.int k)]=_
  refine(aB (Z':=[.va (.scr (a::r)),.va (.int k)]) ((fH (cJ e0)).trans rfl)).trans ?_
  exact cf (aI (aI (t:=.scr (a::r)) rfl g0 g1) (aI (t:=.int 6553) rfl g2 (ni (by omega) (by omega))) rfl)
def cK(ns:List Int)(k:Nat)(m:Int)(hn:ns.length<=63)(hm:0<m):∃r,az [.scr ns,.int k,.int m]=.ok (.int r)/\0<=r/\r<m:=by
 obtain⟨c,hc⟩:=Lr ns k hn
 have b1:∀x:Int,0<=x % 2147483563/\x % 2147483563<2147483563:=λx=>⟨Vy _ (by omega),UL _ (by omega)⟩
 have b2:∀x:Int,0<=x % 2147483399/\x % 2147483399<2147483399:=λx=>⟨Vy _ (by omega),UL _ (by omega)⟩
 generalize hx:(c % 2147483563*69069+104723*((k:Int)+1)) % 2147483563=x
 have hx':=b1 (c % 2147483563*69069+104723*((k:Int)+1));rw[hx]at hx'
 generalize hy:(x*x+x / 3) % 2147483399=y
 have hy':=b2 (x*x+x / 3);rw[hy]at hy';refine⟨(y*y+y / 7) % 2147483647 / 11 % m,bA rfl ?_,Vy _ (by omega),UL _ hm⟩
 show i5 [.va (.scr ns),.va (.int k),.va (.int m),.em]=_
 unfold i5
 have s1:dq (o2 lR (o2 aS (o2 cP (o2 lR (cl fG (ae (vr 0) (ae (vr 1) ai))) (cn (.int 2147483563))) (cn (.int 69069))) (o2 cP (cn (.int 104723)) (o2 aS (vr 1) (cn (.int 1))))) (cn (.int 2147483563))) (gN 3) [.va (.scr ns),.va (.int k),.va (.int m),.em]=.ok (.nx [.va (.scr ns),.va (.int k),.va (.int m),.va (.int x)]):=by
  refine cO (t:=.int x) (aI (u:=.int 2147483563) (aI (aI (u:=.int 69069) (aI (u:=.int 2147483563) (aQ (ts:=[.scr ns,.int k]) rfl hc) rfl (lh (by omega))) rfl (Di (by omega) (by omega))) (aI (t:=.int 104723) (u:=.int ((k:Int)+1)) rfl rfl (ni (by omega) (by omega))) rfl) rfl ?_) rfl
  rw[lh (by omega),hx]
 have s2:dq (o2 lR (o2 aS (o2 cP (vr 3) (vr 3)) (o2 lZ (vr 3) (cn (.int 3)))) (cn (.int 2147483399))) (gN 3) [.va (.scr ns),.va (.int k),.va (.int m),.va (.int x)]=.ok (.nx [.va (.scr ns),.va (.int k),.va (.int m),.va (.int y)]):=by
  refine cO (t:=.int y) (aI (u:=.int 2147483399) (aI (aI (t:=.int x) (u:=.int x) rfl rfl (ni (by omega) (by omega))) (aI (t:=.int x) (u:=.int 3) rfl rfl (oK (by omega) (by omega))) rfl) rfl ?_) rfl
  rw[lh (by omega),hy]
 rw[aB s1,aB s2];exact cf (aI (u:=.int m) (aI (u:=.int 11) (aI (u:=.int 2147483647) (aI (aI (t:=.int y) (u:=.int y) rfl rfl (ni (by omega) (by omega))) (aI (t:=.int y) (u:=.int 7) rfl rfl (oK (by omega) (by omega))) rfl) rfl (lh (by omega))) rfl (oK (by omega) (by omega))) rfl (lh hm))
def dS{r:Int}{f g h:Y2}(e:az [.scr ns,.int k,.int m]=.ok (.int r))(h1:f Z=.ok (.scr ns))(h2:g Z=.ok (.int k))(h3:h Z=.ok (.int m)):
  cl az (ae f (ae g (ae h ai))) Z=.ok (.int r):=aQ (au h1 (au h2 (au h3 rfl))) e
theorem vM:∀(l:List Int)(z y:Int),qG (l++[z])=ZC->z<y->qG (l++[z] ++[y])=ZC
 |[],z,y,_,h=>by simp[qG,h]
 |[a],z,y,h,hy=>by
  simp[qG]at h ⊢
  omega
 |a::b::l,z,y,h,hy=>by
  have h':qG (a::b::(l++[z]))=ZC:=h;rw[Mt,PC]at h'
  have ih:=vM (b::l) z y h'.2 hy
  show qG (a::b::(l++[z] ++[y]))=ZC
  rw[Mt,h'.1];exact ih
theorem pM:∀l:List Int,nums (l.map .int)=ZA l
 |[] =>rfl
 |a::l=>by rw[PF,nums,pM l]
def RdOk(l:List Int):Prop:=∃(l':List Int)(z:Int),l=l'++[z]/\qG l=ZC/\(∀x∈l,0<=x/\x<=5*l.length)/\z<=5*l.length
def uF(l:List T)(z:T):aR (.tup (l++[z])) (.int (-1))=.ok z:=by
 have e:L2.atI (l++[z]) (-1)=ZA z:=by
  unfold L2.atI L2.ixN;simp;rw[if_pos (by omega)]
  have q:(-1+((l.length:Int)+1)).toNat=l.length:=by omega
  show(l++[z])[(-1+((l.length:Int)+1)).toNat]?=ZA z
  rw[q];simp
 show(match L2.atI (l++[z]) (-1)with|some t=>Rs.ok t|none=>.bad)=_
 rw[e]
def HC(ns:List Int)(hn:ns.length<=63)(a j:Nat)(s:T)(l:List Int)(h:RdOk l)(hl:l.length<=3):∃l2,clF [.va (.scr ns),.va (.int a),.va s,.va (.tup (l.map .int)),.va (.int j)]=.ok (.nx [.va (.scr ns),.va (.int a),.va s,.va (.tup (l2.map .int)),.va (.int j)])/\RdOk l2/\l2.length=l.length+1:=by
 obtain⟨l',z,rfl,h1,h2,h3⟩:=h;obtain⟨d,ed,d0,d1⟩:=cK ns (a+3+j) 5 hn (by omega)
 refine⟨l'++[z] ++[z+1+d],?_,⟨l'++[z],z+1+d,rfl,vM l' z _ h1 (by omega),?_,?_⟩,by simp⟩
 ·refine cO (t:=.tup ((l'++[z] ++[z+1+d]).map .int)) (aI (t:=.tup ((l'++[z]).map .int)) (u:=.tup [.int (z+1+d)]) rfl (cx (ts:=[.int (z+1+d)]) (au (aI (t:=.int (z+1)) (u:=.int d) (aI (t:=.int z) (u:=.int 1) (aI (t:=.tup ((l'++[z]).map .int)) (u:=.int (-1)) rfl rfl ?_) rfl rfl) (dS (k:=a+3+j) ed rfl ?_ rfl) rfl) rfl) (aD (k:=1) (by simp))) ?_) rfl
  ·rw[Q6];exact uF _ _
  ·refine aI (t:=.int ((a:Int)+3)) (u:=.int j) (aI (t:=.int a) (u:=.int 3) rfl rfl rfl) rfl ?_
   show Rs.ok (T.int ((a:Int)+3+j))=_
   congr 2
  ·rw[Q6 (l₁:=l'++[z])]
   exact kq _ _ (by rw[PK,Py];simp at hl ⊢;omega)
 ·intro x hx
  rcases PZ.mp hx with hx|hx
  ·have:=h2 x hx
   simp only[PK,QN]at this ⊢;omega
  ·rw[PL]at hx
   subst hx
   have hz:=h2 z (by simp)
   simp only[PK,QN]at h3 ⊢;omega
 ·simp only[PK,QN]at h3 ⊢
  omega
theorem Aq(ns:List Int)(hn:ns.length<=63)(a:Nat)(s:T):∀(js:List Nat)(l:List Int)(s4:Sl),RdOk l->l.length+js.length<=4->∃l2 s5,bq (gN 4) clF (js.map λ(j:Nat)=>T.int j) [.va (.scr ns),.va (.int a),.va s,.va (.tup (l.map .int)),s4]=.ok (.nx [.va (.scr ns),.va (.int a),.va s,.va (.tup (l2.map .int)),s5])/\RdOk l2/\l2.length=l.length+js.length
 |[],l,s4,h,_=>⟨l,s4,rfl,h,rfl⟩
 |j::js,l,s4,h,hl=>by
  rw[PH]at hl;obtain⟨l2,e2,h2,n2⟩:=HC ns hn a j s l h (by omega)
  obtain⟨l3,s5,e3,h3,n3⟩:=Aq ns hn a s js l2 (.va (.int j)) h2 (by omega)
  refine⟨l3,s5,?_,h3,by rw[n3,n2,PH];omega⟩
  rw[PF,eQ (Z1:=[.va (.scr ns),.va (.int a),.va s,.va (.tup (l.map .int)),.va (.int j)]) rfl e2];exact e3
def om(n:Nat):rng 0 (n:Int)=(Q2 n).map λ(j:Nat)=>T.int j:=by
 unfold rng;simp
def RdOk.reads{l:List Int}(h:RdOk l)(hl:l.length<=4):dm (.tup (l.map .int))=ZC:=by
 obtain⟨l',z,rfl,h1,h2,h3⟩:=h;unfold dm;rw[PC];refine⟨?_,?_⟩
 ·simp[dB];simp at hl;omega
 ·show(((l'++[z]).map T.int).all (λu=>aY u 0 99)&&(match nums ((l'++[z]).map T.int)with|some m=>qG m|none=>ZD))=ZC
  rw[pM]
  show(_&&qG (l'++[z]))=ZC
  rw[h1,Wj,Qk];intro t ht;obtain⟨x,hx,rfl⟩:=Qa.mp ht
  have:=h2 x hx;simp only[aY,PC,decide_eq_true_eq];omega
def FT(n:Nat)(l:List Int)(h:l.length<=n):sm n (.tup (l.map .int))=ZC:=sm_tup.mpr ⟨by rw[Py];exact h,λt ht=>by obtain⟨x,_,rfl⟩:=Qa.mp ht;simp[sm]⟩
def Em(ns:List Int)(hn:ns.length<=63)(a:Nat):∃c,cG [.scr ns,.int a]=.ok c/\bj c=ZC/\sm 8 c=ZC:=by
 obtain⟨d1,e1,p1,q1⟩:=cK ns a 3 hn (by omega)
 obtain⟨d2,e2,p2,q2⟩:=cK ns (a+2) 6 hn (by omega)
 obtain⟨d3,e3,p3,q3⟩:=cK ns (a+1) 3 hn (by omega)
 obtain⟨d4,e4,p4,q4⟩:=cK ns (a+6) 3 hn (by omega)
 obtain⟨n3,rfl⟩:=Qi p3;obtain⟨l,s5,el,hl,nl⟩:=Aq ns hn a (.int (1+d1)) (Q2 n3) [d2] .em ⟨[],d2,rfl,rfl,λx hx=>by rw[PL]at hx;subst hx;simp;omega,by simp;omega⟩ (by simp;omega)
 have nl':l.length<=4:=by rw[nl];simp;omega
 have hr:=hl.reads nl';refine⟨.tup [.int (1+d1),.int (1+d1+d4),.tup (l.map .int)],bA rfl ?_,?_,?_⟩
 ·show i6 [.va (.scr ns),.va (.int a),.em,.em,.em]=_
  unfold i6;rw[aB (Z':=[.va (.scr ns),.va (.int a),.va (.int (1+d1)),.em,.em]) (cO (t:=.int (1+d1)) (aI (t:=.int 1) rfl (dS e1 rfl rfl rfl) rfl) rfl)];rw[aB (Z':=[.va (.scr ns),.va (.int a),.va (.int (1+d1)),.va (.tup ([d2].map .int)),.em]) (cO (t:=.tup [.int d2]) (cx (ts:=[.int d2]) (au (dS (k:=a+2) e2 rfl rfl rfl) rfl) (aD (k:=1) (by simp))) rfl)]
  rw[aB ((gK (Hj (au (dS (k:=a+1) e3 rfl rfl rfl) rfl) (by omega) (by omega)) (by rw[om];exact el)))]
  exact cf (cx (au (t:=.int (1+d1)) rfl (au (aI (t:=.int (1+d1)) rfl (dS (k:=a+6) e4 rfl rfl rfl) rfl) (au (t:=.tup (l.map .int)) rfl rfl))) (aD (k:=3) (by simp)))
 ·show(ZC&&(pw (.int (1+d1)) (.int (1+d1+d4))&&dm _))=ZC
  rw[hr];simp only[pw,aY,Tj,Wj,PC,decide_eq_true_eq];omega
 ·refine sm_tup.mpr ⟨by simp,λt ht=>?_⟩
  rcases PJ.mp ht with rfl|ht
  ·simp[sm]
  ·rcases PJ.mp ht with rfl|ht
   ·simp[sm]
   ·rw[PL]at ht;subst ht;exact FT 8 l (by omega)
variable{y:T}
theorem ka:∀(cs:List T)(i:Nat),y∈bB i cs->∃c k:Nat,y=.tup [.int c,.int k]/\i<=c/\c<i+cs.length/\k<Ib (cs.getD (c - i) .non)
 |[],i,h=>by cases h
 |x::cs,i,h=>by
  rw[bB]at h;rcases PZ.mp h with h|h
  ·unfold kB at h
   obtain⟨t,ht,rfl⟩:=Qa.mp h;obtain⟨j,rfl,hj⟩:=iF ht;refine⟨i,j,rfl,PP _,by rw[PH];omega,?_⟩
   rw[TU]
   show j<Ib x
   omega
  ·obtain⟨c,k,e,h1,h2,h3⟩:=ka cs (i+1) h
   refine⟨c,k,e,by omega,by rw[PH];omega,?_⟩
   have:c - i=(c - (i+1))+1:=by omega
   rw[this];exact h3
def nv(h:y∈bB 0 cs):aw cs y=ZC:=by
 obtain⟨c,k,rfl,_,h2,h3⟩:=ka cs 0 h
 show(decide ((0:Int)<=(c:Int))&&decide ((c:Int)<(cs.length:Int))&&(decide ((0:Int)<=(k:Int))&&decide ((k:Int)<(reads cs (c:Int):Int))))=ZC
 rw[Td]at h3;rw[mw];simp only[PC,decide_eq_true_eq];omega
theorem j7:∀(cs:List T)(i:Nat),(bB i cs).Nodup
 |[],i=>RE
 |x::cs,i=>by
  rw[bB,Qs];refine⟨?_,j7 cs (i+1),?_⟩
  ·unfold kB rng
   rw[SL];rw[UG,WO];refine List.nodup_range.imp ?_
   intro a b hab e
   simp at e
   exact hab (by omega)
  ·intro a ha b hb e
   subst e;unfold kB at ha;obtain⟨t,ht,rfl⟩:=Qa.mp ha;obtain⟨c,k,e,h1,_,_⟩:=ka cs (i+1) hb
   simp at e
   omega
def C8(h:l.Nodup){j:Nat}(hi:i<l.length)(hj:j<l.length)(hij:i≠j):l[i] ≠l[j]:=by
 rw[UG,UN]at h;rcases Te i j with q|q
 ·exact h i j hi hj q
 ·exact λe=>h j i hj hi (by omega) e.symm
theorem oM:∀(cs:List T)(i:Nat),(∀c∈cs,bj c=ZC)->(bB i cs).length<=4*cs.length
 |[],i,_=>PP _
 |x::cs,i,h=>by
  obtain⟨a,b,r,rfl,_,h2⟩:=gL (h x PB)
  have:=oM cs (i+1) λc hc=>h c (Pw _ hc)
  rw[bB,PK,jN,PH]
  show r.length+_<=_
  omega
def wV{a b:T}(ha:aw cs a=ZC)(hb:aw cs b=ZC)(h:a≠b):aX a b=ZD:=by
 obtain⟨c,k,rfl⟩:=aJ ha;obtain⟨c',k',rfl⟩:=aJ hb;rw[Bool.eq_false_iff];intro e;simp[aX,beqTs]at e;exact h (by rw[e.1,e.2])
def vG{a:T}(ha:aw cs a=ZC):sm 8 a=ZC:=by
 obtain⟨c,k,rfl⟩:=aJ ha;simp[sm,sms]
def yF(h:i<l.length):aR (.lst l) (.int (i:Int))=.ok l[i]:=by
 show(match L2.atI l (i:Int)with|some t=>Rs.ok t|none=>.bad)=_
 rw[ly (P5 h)]
def eq_int(a b:Int):kn (.int a) (.int b)=.ok (.bl (a == b)):=by
 unfold kn;rw[if_pos (iu (by simp[T.dep]) rfl rfl)]
 rfl
def sA(ns:List Int)(hn:ns.length<=63)(a:Nat)(cs:List T)(hc:aZ (.tup cs)=ZC):∃r,b9 [.scr ns,.int a,.tup cs]=.ok r/\(r=.non\/(bp cs r=ZC/\sm 8 r=ZC)):=by
 obtain⟨ha,h1,h4⟩:=bf hc
 have hlen:=oM cs 0 ha
 have er:=w6 cs hc
 have gl:∀s4 s5 s6 s7:Sl,cl cQ (ae (vr 3) ai) [.va (.scr ns),.va (.int a),.va (.tup cs),.va (.lst (bB 0 cs)),s4,s5,s6,s7]=.ok (.int ((bB 0 cs).length:Nat)):=λ_ _ _ _=>rfl
 have s1:dq (cl cb (ae (vr 2) ai)) (gN 3) [.va (.scr ns),.va (.int a),.va (.tup cs),.em,.em,.em,.em,.em]=.ok (.nx [.va (.scr ns),.va (.int a),.va (.tup cs),.va (.lst (bB 0 cs)),.em,.em,.em,.em]):=cO (aQ (ts:=[.tup cs]) rfl er) rfl
 have lt:o2 G3 (cl cQ (ae (vr 3) ai)) (cn (.int 2)) [.va (.scr ns),.va (.int a),.va (.tup cs),.va (.lst (bB 0 cs)),.em,.em,.em,.em]=.ok (.bl (decide (((bB 0 cs).length:Int)<2))):=aI (t:=.int ((bB 0 cs).length:Nat)) (u:=.int 2) (gl _ _ _ _) rfl rfl
 by_cases hs:(bB 0 cs).length<2
 ·refine⟨.non,bA rfl ?_,.inl rfl⟩
  show dP [.va (.scr ns),.va (.int a),.va (.tup cs),.em,.em,.em,.em,.em]=_
  unfold dP;rw[aB s1];rw[decide_eq_true (by omega)]at lt
  exact mS ((gJ (cJ lt)).trans rfl)
 ·rw[decide_eq_false (by omega)]at lt
  generalize hN:(bB 0 cs).length=n at*
  obtain⟨d1,e1,p1,q1⟩:=cK ns a (n:Int) hn (by omega)
  obtain⟨d2,e2,p2,q2⟩:=cK ns (a+1) ((n:Int) - 1) hn (by omega)
  obtain⟨d3,e3,p3,q3⟩:=cK ns (a+2) 8 hn (by omega)
  obtain⟨d4,e4,p4,q4⟩:=cK ns (a+3) 3 hn (by omega)
  obtain⟨d5,e5,p5,q5⟩:=cK ns (a+4) 9 hn (by omega)
  obtain⟨i,rfl⟩:=Qi p1;obtain⟨d2,rfl⟩:=Qi p2
  have hi:i<(bB 0 cs).length:=by omega
  have hj:(i+1+d2) % n<(bB 0 cs).length:=by rw[hN];exact Nat.mod_lt _ (by omega)
  have hij:i≠(i+1+d2) % n:=by
   rcases Te (i+1+d2) n with q|q
   ·rw[Xn q];omega
   ·have:(i+1+d2) % n=i+1+d2 - n:=by
     rw[Nat.mod_eq_sub_mod q,Xn (by omega)]
    rw[this];omega
  have eA:=nv (QU hi)
  have eB:=nv (QU hj)
  have eN:(bB 0 cs)[i] ≠(bB 0 cs)[(i+1+d2) % n]:=C8 (j7 cs 0) hi hj hij
  generalize hA:(bB 0 cs)[i]=A at*
  generalize hB:(bB 0 cs)[(i+1+d2) % n]=B at*
  let y:T:=if d4 == 0 then .non else .int (d3+d5)
  refine⟨.tup [A,B,.int d3,y],bA rfl ?_,.inr ⟨?_,?_⟩⟩
  ·show dP [.va (.scr ns),.va (.int a),.va (.tup cs),.em,.em,.em,.em,.em]=_
   unfold dP;rw[aB s1];rw[aB (Z':=[.va (.scr ns),.va (.int a),.va (.tup cs),.va (.lst (bB 0 cs)),.em,.em,.em,.em]) ((fH (cJ lt)).trans rfl)];rw[aB (Z':=[.va (.scr ns),.va (.int a),.va (.tup cs),.va (.lst (bB 0 cs)),.va (.int (i:Nat)),.em,.em,.em]) (cO (dS e1 rfl rfl (gl _ _ _ _)) rfl)];rw[aB (Z':=[.va (.scr ns),.va (.int a),.va (.tup cs),.va (.lst (bB 0 cs)),.va (.int (i:Nat)),.va (.int ((i+1+d2) % n:Nat)),.em,.em]) (cO (t:=.int ((i+1+d2) % n:Nat)) (aI (t:=.int ((i:Int)+1+d2)) (u:=.int n) (aI (t:=.int ((i:Int)+1)) (u:=.int d2) rfl (dS (k:=a+1) e2 rfl rfl (aI (t:=.int n) (u:=.int 1) (gl _ _ _ _) rfl rfl)) rfl) (gl _ _ _ _) (lh (by omega))) rfl)]
   rw[aB (Z':=[.va (.scr ns),.va (.int a),.va (.tup cs),.va (.lst (bB 0 cs)),.va (.int (i:Nat)),.va (.int ((i+1+d2) % n:Nat)),.va (.int d3),.em]) (cO (dS (k:=a+2) e3 rfl rfl rfl) rfl)]
   have ey:Ff (tb (o2 kn (cl az (ae (vr 0) (ae (o2 aS (vr 1) (cn (.int 3))) (ae (cn (.int 3)) ai)))) (cn (.int 0)))) (cn .non) (o2 aS (vr 6) (cl az (ae (vr 0) (ae (o2 aS (vr 1) (cn (.int 4))) (ae (cn (.int 9)) ai))))) [.va (.scr ns),.va (.int a),.va (.tup cs),.va (.lst (bB 0 cs)),.va (.int (i:Nat)),.va (.int ((i+1+d2) % n:Nat)),.va (.int d3),.em]=.ok y:=by
    rw[sd (cJ (aI (u:=.int 0) (dS (k:=a+3) e4 rfl rfl rfl) rfl (eq_int _ _)))]
    show _=Rs.ok (if d4 == 0 then T.non else .int (d3+d5))
    cases d4 == 0 with
    |true=>rfl
    |false=>exact aI (t:=.int d3) rfl (dS (k:=a+4) e5 rfl rfl rfl) rfl
   rw[aB (Z':=[.va (.scr ns),.va (.int a),.va (.tup cs),.va (.lst (bB 0 cs)),.va (.int (i:Nat)),.va (.int ((i+1+d2) % n:Nat)),.va (.int d3),.va y]) (cO ey rfl)];refine cf (cx (au (t:=A) (aI (t:=.lst (bB 0 cs)) (u:=.int (i:Nat)) rfl rfl ?_) (au (t:=B) (aI (t:=.lst (bB 0 cs)) (u:=.int ((i+1+d2) % n:Nat)) rfl rfl ?_) (au (t:=.int d3) rfl (au (t:=y) rfl rfl)))) (aD (k:=4) (by simp)))
   ·rw[<-hA];exact yF hi
   ·rw[<-hB];exact yF hj
  ·show(dI (.int d3) y&&(aw cs A&&(aw cs B&& !aX A B)))=ZC
   rw[eA,eB,wV eA eB eN]
   have:dI (.int d3) y=ZC:=by
    show(aY (.int d3) 0 999&&(match(T.int d3),(if d4 == 0 then T.non else .int (d3+d5))with|_,.non=>ZC|.int i,_=>aY (if d4 == 0 then T.non else .int (d3+d5)) i 999|_,_=>ZD))=ZC
    cases d4 == 0 with
    |true=>simp[aY];omega
    |false=>simp[aY];omega
   rw[this];rfl
  ·refine sm_tup.mpr ⟨by simp,λt ht=>?_⟩
   have hy:sm 8 y=ZC:=by show sm 8 (if d4 == 0 then T.non else .int (d3+d5))=ZC;cases d4 == 0 <;> simp[sm]
   simp only[PJ,Ra,or_false]at ht;rcases ht with rfl|rfl|rfl|rfl
   ·exact vG eA
   ·exact vG eB
   ·simp[sm]
   ·exact hy
def okv:Rs T->T
 |.ok t=>t
 |_=>.non
def zM(l:List T)(k:Int)(h : -(2 ^ 63)<=k/\k<2 ^ 63/\l.length*k.toNat<=ZI):cP (.lst l) (.int k)=.ok (.lst (Qe k.toNat l).flatten):=by
 show yk (.lst l) (.int k)=_
 unfold yk;exact if_pos h
def mul_one(x:T)(b:Bool):cP (.lst [x]) (.int (if b then 1 else 0))=.ok (.lst (if b then [x]else [])):=by
 cases b with
 |true=>exact zM [x] 1 ⟨by decide,by decide,aD (k:=1) (by simp)⟩
 |false=>exact zM [x] 0 ⟨by decide,by decide,aD (k:=1) (by simp)⟩
def BI(cs ls:List T):Prop:=∀t∈ls,bp cs t=ZC/\sm 8 t=ZC
def G6(ns:List Int)(hn:ns.length<=63)(a j:Nat)(m:T)(cs ls:List T)(hc:aZ (.tup cs)=ZC)(h:BI cs ls)(hl:ls.length<=100)(s6:Sl):
  ∃ls2 s7,leF [.va (.scr ns),.va (.int a),.va m,.va (.tup cs),.va (.lst ls),.va (.int j),s6]=.ok (.nx [.va (.scr ns),.va (.int a),.va m,.va (.tup cs),.va (.lst ls2),.va (.int j),s7])/\BI cs ls2/\ls2.length<=ls.length+1:=by
 obtain⟨r,er,hr⟩:=sA ns hn (a+31+6*j) cs hc
 have e1:∀G,aF (dq (cl b9 (ae (vr 0) (ae (o2 aS (o2 aS (vr 1) (cn (.int 31))) (o2 cP (cn (.int 6)) (vr 5))) (ae (vr 3) ai)))) (gN 6)) G [.va (.scr ns),.va (.int a),.va m,.va (.tup cs),.va (.lst ls),.va (.int j),s6]=G [.va (.scr ns),.va (.int a),.va m,.va (.tup cs),.va (.lst ls),.va (.int j),.va r]:=λG=>by
  refine aB (cO (t:=r) (aQ (ts:=[.scr ns,.int (a+31+6*j:Nat),.tup cs]) (au (t:=.scr ns) rfl (au (t:=.int (a+31+6*j:Nat)) (aI (t:=.int ((a:Int)+31)) (u:=.int (6*(j:Int))) rfl (aI (t:=.int 6) (u:=.int j) rfl rfl (ni (by omega) (by omega))) rfl) (au (t:=.tup cs) rfl rfl))) er) rfl)
 have e2:cl DS (ae (o2 jy (vr 6) (cn .non)) ai) [.va (.scr ns),.va (.int a),.va m,.va (.tup cs),.va (.lst ls),.va (.int j),.va r]=.ok (.int (if !r.isN then 1 else 0)):=aQ (ts:=[.bl (!r.isN)]) rfl rfl
 refine⟨ls++(if !r.isN then [r]else []),.va r,?_,?_,?_⟩
 ·refine(e1 _).trans (cO (aI (t:=.lst ls) (u:=.lst (if !r.isN then [r]else [])) rfl (aI (t:=.lst [r]) (nu (ts:=[r]) rfl (aD (k:=1) (by simp))) e2 (mul_one _ _)) (Ax _ _ ?_)) rfl)
  rw[PK];cases r.isN <;> simp <;> omega
 ·intro t ht
  rcases PZ.mp ht with ht|ht
  ·exact h t ht
  ·rcases hr with rfl|hr
   ·cases ht
   ·cases q:r.isN with
    |true=>rw[q]at ht;cases ht
    |false=>
     rw[q]at ht;rw[show t=r by simpa using ht]
     exact hr
 ·rw[PK]
  cases r.isN <;> simp
theorem zU(ns:List Int)(hn:ns.length<=63)(a:Nat)(m:T)(cs:List T)(hc:aZ (.tup cs)=ZC):∀(js:List Nat)(ls:List T)(s5 s6:Sl),BI cs ls->ls.length+js.length<=100 →
  ∃ls2 t5 t6,bq (gN 5) leF (js.map λ(j:Nat)=>T.int j) [.va (.scr ns),.va (.int a),.va m,.va (.tup cs),.va (.lst ls),s5,s6]=.ok (.nx [.va (.scr ns),.va (.int a),.va m,.va (.tup cs),.va (.lst ls2),t5,t6])/\BI cs ls2/\ls2.length<=ls.length+js.length
 |[],ls,s5,s6,h,_=>⟨ls,s5,s6,rfl,h,PP _⟩
 |j::js,ls,s5,s6,h,hl=>by
  rw[PH]at hl;obtain⟨l2,s7,e2,h2,n2⟩:=G6 ns hn a j m cs ls hc h (by omega) s6
  obtain⟨l3,t5,t6,e3,h3,n3⟩:=zU ns hn a m cs hc js l2 (.va (.int j)) s7 h2 (by omega)
  refine⟨l3,t5,t6,?_,h3,by rw[PH];omega⟩
  rw[PF,eQ (Z1:=[.va (.scr ns),.va (.int a),.va m,.va (.tup cs),.va (.lst ls),.va (.int j),s6]) rfl e2];exact e3
def Lp(ns:List Int)(hn:ns.length<=63)(a m:Nat)(hm:m<=8):∃cs ls,fB [.scr ns,.int a,.int m]=.ok (RR cs ls)/\aZ (.tup cs)=ZC/\cs.length<=3/\(∀c∈cs,sm 8 c=ZC)/\BI cs ls/\ls.length<=m:=by
 obtain⟨d1,e1,p1,q1⟩:=cK ns a 3 hn (by omega)
 obtain⟨d2,e2,p2,q2⟩:=cK ns (a+30) ((m:Int)+1) hn (by omega)
 obtain⟨d1,rfl⟩:=Qi p1;obtain⟨d2,rfl⟩:=Qi p2
 let hcl:T->T:=λt=>match t with
  |.int k=>okv (cG [.scr ns,.int ((a:Int)+1+8*k)])
  |_=>.non
 have hh:∀t∈rng 0 ((1+d1:Nat):Int),∃k:Nat,t=.int k/\cG [.scr ns,.int ((a+1+8*k:Nat):Int)]=.ok (hcl t)/\bj (hcl t)=ZC/\sm 8 (hcl t)=ZC:=λt ht=>by
  obtain⟨k,rfl,_⟩:=iF ht;obtain⟨c,ec,h1,h2⟩:=Em ns hn (a+1+8*k)
  have e:hcl (.int k)=c:=by
   show okv (cG [.scr ns,.int ((a+1+8*k:Nat):Int)])=c
   rw[ec];rfl
  exact⟨k,rfl,by rw[e];exact ec,by rw[e];exact h1,by rw[e];exact h2⟩
 generalize hcs:(rng 0 ((1+d1:Nat):Int)).map hcl=cs
 have lc:cs.length=1+d1:=by rw[<-hcs,Py,iG]
 have hc:aZ (.tup cs)=ZC:=by
  show(dB (.tup cs) 1 4&&cs.all bj)=ZC
  rw[PC,Qk];refine⟨by simp[dB];omega,λc h=>?_⟩
  rw[<-hcs]at h;obtain⟨t,ht,rfl⟩:=Qa.mp h;obtain⟨_,_,_,h1,_⟩:=hh t ht;exact h1
 have hsm:∀c∈cs,sm 8 c=ZC:=λc h=>by
  rw[<-hcs]at h;obtain⟨t,ht,rfl⟩:=Qa.mp h;obtain⟨_,_,_,_,h1⟩:=hh t ht;exact h1
 obtain⟨ls,t5,t6,el,hl,nl⟩:=zU ns hn a (.int m) cs hc (Q2 d2) [] .em .em (λt h=>by cases h) (by simp;omega)
 refine⟨cs,ls,bA rfl ?_,hc,by omega,hsm,hl,by simp at nl;omega⟩
 show gX [.va (.scr ns),.va (.int a),.va (.int m),.em,.em,.em,.em]=_
 unfold gX
 have s1:dq (cl gO (ae (fL (iR (ae (o2 aS (cn (.int 1)) (cl az (ae (vr 0) (ae (vr 1) (ae (cn (.int 3)) ai))))) ai)) [ZB,ZA 0,ZA 1] (gN 0) bT (cl cG (ae (vr 1) (ae (o2 aS (o2 aS (vr 2) (cn (.int 1))) (o2 cP (cn (.int 8)) (vr 0))) ai)))) ai)) (gN 3) [.va (.scr ns),.va (.int a),.va (.int m),.em,.em,.em,.em]=.ok (.nx [.va (.scr ns),.va (.int a),.va (.int m),.va (.tup cs),.em,.em,.em]):=by
  refine cO (t:=.tup cs) (aQ (ts:=[.lst cs]) (au (t:=.lst cs) ?_ rfl) rfl) rfl
  rw[<-hcs];refine mT (ts:=rng 0 ((1+d1:Nat):Int)) (h:=hcl) (Hj (au (t:=.int ((1+d1:Nat):Int)) (aI (t:=.int 1) (u:=.int d1) rfl (dS e1 rfl rfl rfl) rfl) rfl) (by omega) (by omega)) (aD (k:=3) (by rw[iG];omega)) (by simp) λt ht=>?_
  obtain⟨k,rfl,ek,_,_⟩:=hh t ht;refine aQ (ts:=[.scr ns,.int ((a+1+8*k:Nat):Int)]) (au (t:=.scr ns) rfl (au (aI (t:=.int ((a:Int)+1)) (u:=.int (8*(k:Int))) rfl (aI (t:=.int 8) (u:=.int k) rfl rfl (ni (by omega) (by omega))) rfl) rfl)) ek
 rw[aB s1];rw[aB (Z':=[.va (.scr ns),.va (.int a),.va (.int m),.va (.tup cs),.va (.lst []),.em,.em]) (cO (nu (ts:=[]) rfl (aD (k:=0) (by simp))) rfl)]
 rw[aB ((gK (Hj (au (dS (k:=a+30) e2 rfl rfl (aI (t:=.int m) (u:=.int 1) rfl rfl rfl)) rfl) (by omega) (by omega)) (by rw[om];exact el)))]
 exact cf (cx (au (t:=.tup cs) rfl (au (t:=.tup ls) rfl rfl)) (aD (k:=2) (by simp)))
def da{t:T}(h:bp cs t=ZC):∃a b x y,t=.tup [a,b,x,y]/\dI x y=ZC/\aw cs a=ZC/\aw cs b=ZC/\aX a b=ZD:=by
 unfold bp at h
 split at h
 ·simp only[PC,WM]at h
  exact⟨_,_,_,_,rfl,h.1,h.2.1,h.2.2.1,h.2.2.2⟩
 ·cases h
def Jr{ls:List T}(hc:aZ (.tup cs)=ZC)(hs:∀c∈cs,sm 8 c=ZC)(hl:BI cs ls)(hn:ls.length<=8):dJ (RR cs ls)=ZC/\sm 8 (RR cs ls)=ZC:=by
 refine⟨?_,?_⟩
 ·show(aZ (.tup cs)&&(dB (.tup ls) 0 8&&ls.all (bp cs)))=ZC
  rw[hc,Tj,PC,Qk];exact⟨by simp[dB];exact hn,λt ht=>(hl t ht).1⟩
 ·refine sm_tup.mpr ⟨by simp,λt ht=>?_⟩
  simp only[PJ,Ra,or_false]at ht;rcases ht with rfl|rfl
  ·exact sm_tup.mpr ⟨by have:=(bf hc).2.2;omega,hs⟩
  ·exact sm_tup.mpr ⟨hn,λt ht=>(hl t ht).2⟩
end G
namespace Tr
open PySem
section
variable {f fa fb:Y2}{fs:Y0}{b c:Y3}{F G:Y1}{Z Z' Z1 Z2:En}{t u r:T}{ts l m:List T}
mutual
theorem ko:∀(t:T),t.pl=ZC->aX t t=ZC
 |.non,_=>rfl
 |.bl a,_=>by simp[aX]
 |.int a,_=>by simp[aX]
 |.str a,_=>by simp[aX]
 |.tup l,h=>by rw[aX];exact beqTs_refl l (by unfold T.pl at h;exact h)
 |.lst l,h=>by rw[aX];exact beqTs_refl l (by unfold T.pl at h;exact h)
 |.scr _,h=>by simp[T.pl]at h
theorem beqTs_refl:∀(l:List T),plS l=ZC->beqTs l l=ZC
 |[],_=>rfl
 |t::l,h=>by
  unfold plS at h;rw[PC]at h;rw[beqTs,ko t h.1,beqTs_refl l h.2];rfl
end
def GX(hp:t.pl=ZC)(hd:t.dep<=60):v8 t t=.ok (.bl ZD):=by
 unfold v8;rw[if_pos (iu hd (T.KM _ hp) (T.KM _ hp)),ko t hp];rfl
def uM(hp:t.pl=ZC)(hd:t.dep<=60):kn t t=.ok (.bl ZC):=by
 unfold kn;rw[if_pos (iu hd (T.KM _ hp) (T.KM _ hp)),ko t hp]
theorem oO:∀{l:List T},(∀t∈l,t.dep<=n)->deps l<=n
 |[],_=>by unfold deps;omega
 |t::l,h=>by
  unfold deps
  have:=oO (l:=l) λu hu=>h u (Pw _ hu)
  have:=h t PB;omega
theorem eI:∀{l:List T},(∀t∈l,t.pl=ZC)->plS l=ZC
 |[],_=>rfl
 |t::l,h=>by unfold plS;rw[h t PB,eI λu hu=>h u (Pw _ hu)];rfl
end
end Tr
namespace G
open PySem Tr
def dr(r:List Int)(k:Nat):Int:=r.getD (k+1) 0 - r.getD k 0
def pr(n:Nat)(x y:Int)(r:List Int)(k:Nat):List T:=
 [.tup [.tup [.int n,.int k],.tup [.int n,.int ((k+1:Nat):Int)],.int (dr r k*y)],.tup [.tup [.int n,.int ((k+1:Nat):Int)],.tup [.int n,.int k],.int (-dr r k*x)]]
def cB(n:Nat)(x y:Int)(r:List Int):List T:=(Q2 (r.length - 1)).flatMap (pr n x y r)
abbrev EJ(n:Nat)(x y:Int)(r:List Int)(acc:List T)(s4 s5 s6 s7:Sl):En:=[.va (.int n),.va (.tup [.int x,.int y,.tup (r.map .int)]),.va (.tup (r.map .int)),.ow (.lst acc),s4,s5,s6,s7]
def oF(h:k<r.length):(r.map T.int)[k]?=ZA (.int (r.getD k 0)):=by
 rw[P9,P5 h]
 simp[h]
def HF(n:Nat)(x y:Int)(r:List Int)(acc:List T)(k:Nat)(s5 s6 s7:Sl)(hk:k+1<r.length)(hx:0<=x/\x<=9)(hy:0<=y/\y<=9)(ha:acc.length<=100):
  bcF (EJ n x y r acc (.va (.int k)) s5 s6 s7)=.ok (.nx (EJ n x y r (acc++pr n x y r k) (.va (.int k)) (.va (.tup [.int n,.int k])) (.va (.tup [.int n,.int ((k+1:Nat):Int)])) (.va (.int (dr r k))))):=by
 have h2:([T.int n,T.int k]:List T).length<=ZI:=aD (k:=2) (by simp)
 have ek:((k:Int)+1)=((k+1:Nat):Int):=by omega
 refine(aB (Z':=EJ n x y r acc (.va (.int k)) (.va (.tup [.int n,.int k])) s6 s7) (cO (cx rfl (aD (k:=2) (by simp))) rfl)).trans ?_
 refine(aB (Z':=EJ n x y r acc (.va (.int k)) (.va (.tup [.int n,.int k])) (.va (.tup [.int n,.int ((k+1:Nat):Int)])) s7) (cO (cx (au rfl (au (t:=.int ((k+1:Nat):Int)) (aI (t:=.int k) (u:=.int 1) rfl rfl (congrArg (λz=>Rs.ok (T.int z)) ek)) rfl)) (aD (k:=2) (by simp))) rfl)).trans ?_
 refine(aB (Z':=EJ n x y r acc (.va (.int k)) (.va (.tup [.int n,.int k])) (.va (.tup [.int n,.int ((k+1:Nat):Int)])) (.va (.int (dr r k)))) (cO (t:=.int (dr r k)) (aI (t:=.int (r.getD (k+1) 0)) (u:=.int (r.getD k 0)) (ri (n:=k+1) rfl (aI (t:=.int k) (u:=.int 1) rfl rfl (congrArg (λz=>Rs.ok (T.int z)) ek)) (oF hk)) (ri (n:=k) rfl rfl (oF (by omega))) rfl) rfl)).trans ?_
 refine(aB (Z':=EJ n x y r (acc++[.tup [.tup [.int n,.int k],.tup [.int n,.int ((k+1:Nat):Int)],.int (dr r k*y)]]) (.va (.int k)) (.va (.tup [.int n,.int k])) (.va (.tup [.int n,.int ((k+1:Nat):Int)])) (.va (.int (dr r k)))) (lX (l:=acc) (cx (au rfl (au rfl (au (aI (t:=.int (dr r k)) (u:=.int y) rfl rfl (Di (by omega) (by omega))) rfl))) (aD (k:=3) (by simp))) rfl (by omega))).trans ?_
 refine(lX (l:=acc++[.tup [.tup [.int n,.int k],.tup [.int n,.int ((k+1:Nat):Int)],.int (dr r k*y)]]) (cx (au rfl (au rfl (au (aI (t:=.int (-dr r k)) (u:=.int x) rfl rfl (Di (by omega) (by omega))) rfl))) (aD (k:=3) (by simp))) rfl (by rw[PK];simp;omega)).trans ?_
 rw[Qy]
 rfl
theorem Av(n:Nat)(x y:Int)(r:List Int)(hx:0<=x/\x<=9)(hy:0<=y/\y<=9):∀(js:List Nat)(acc:List T)(s4 s5 s6 s7:Sl),(∀k∈js,k+1<r.length)->acc.length+2*js.length<=100 →
  ∃t4 t5 t6 t7,bq (gN 4) bcF (js.map λ(k:Nat)=>T.int k) (EJ n x y r acc s4 s5 s6 s7)=.ok (.nx (EJ n x y r (acc++js.flatMap (pr n x y r)) t4 t5 t6 t7))
 |[],acc,s4,s5,s6,s7,_,_=>⟨s4,s5,s6,s7,by simp[bq]⟩
 |k::js,acc,s4,s5,s6,s7,hk,hl=>by
  rw[PH]at hl
  have e:=HF n x y r acc k s5 s6 s7 (hk k PB) hx hy (by omega)
  obtain⟨t4,t5,t6,t7,ih⟩:=Av n x y r hx hy js (acc++pr n x y r k) (.va (.int k)) (.va (.tup [.int n,.int k])) (.va (.tup [.int n,.int ((k+1:Nat):Int)])) (.va (.int (dr r k))) (λj hj=>hk j (Pw _ hj)) (by rw[PK];simp[pr];omega)
  refine⟨t4,t5,t6,t7,?_⟩
  rw[PF,eQ (Z1:=EJ n x y r acc (.va (.int k)) s5 s6 s7) rfl e,ih,SW,Qy]
def Es(n:Nat)(x y:Int)(r:List Int)(hx:0<=x/\x<=9)(hy:0<=y/\y<=9)(h1:1<=r.length)(h4:r.length<=4):cF [.int n,.tup [.int x,.int y,.tup (r.map .int)]]=.ok (.lst (cB n x y r)):=by
 refine bA rfl ?_
 show eX [.va (.int n),.va (.tup [.int x,.int y,.tup (r.map .int)]),.em,.em,.em,.em,.em,.em]=_
 unfold eX;rw[aB (Z':=[.va (.int n),.va (.tup [.int x,.int y,.tup (r.map .int)]),.va (.tup (r.map .int)),.em,.em,.em,.em,.em]) (cO (t:=.tup (r.map .int)) rfl rfl)];rw[aB (Z':=EJ n x y r [] .em .em .em .em) rfl];obtain⟨t4,t5,t6,t7,e⟩:=Av n x y r hx hy (Q2 (r.length - 1)) [] .em .em .em .em (λk hk=>by have:=Ro.mp hk;omega) (by simp;omega)
 have e1:iR (ae (o2 iC (cl cQ (ae (vr 2) ai)) (cn (.int 1))) ai) (EJ n x y r [] .em .em .em .em)=.ok (rng 0 ((r.length - 1:Nat):Int)):=by
  refine Hj (j:=((r.length - 1:Nat):Int)) (au (aI (t:=.int (r.length:Nat)) (u:=.int 1) (aQ (ts:=[.tup (r.map .int)]) rfl (by show Rs.ok (T.int ((r.map T.int).length:Nat))=_;rw[Py])) rfl (congrArg (λz=>Rs.ok (T.int z)) (by omega))) rfl) (by omega) (by omega)
 rw[aB ((gK (ts:=(Q2 (r.length - 1)).map λ(k:Nat)=>T.int k) (by rw[e1,om]) e))]
 rfl
def fq{t:T}(h:bj t=ZC):∃(x y:Int)(r:List Int),t=.tup [.int x,.int y,.tup (r.map .int)]/\(0<=x/\x<=9)/\(0<=y/\y<=9)/\1<=r.length/\r.length<=4:=by
 obtain⟨x,y,r,rfl,h1,h4⟩:=gL h
 have h':(pw x y&&dm (.tup r))=ZC:=h;rw[PC]at h';obtain⟨hp,hr⟩:=h';unfold pw at hp;rw[PC]at hp;obtain⟨i,rfl,i1,i2⟩:=cM hp.1;obtain⟨j,rfl,j1,j2⟩:=cM (t:=y) (a:=i) (b:=9) hp.2;unfold dm at hr;rw[PC]at hr
 have hr2:((r.all λu=>aY u 0 99)&&(match nums r with|some m=>qG m|none=>ZD))=ZC:=hr.2
 rw[PC]at hr2;obtain⟨m,em⟩:=uu hr2.1
 have e:=pL em;subst e;rw[Py]at h1 h4;exact⟨i,j,m,rfl,⟨by omega,by omega⟩,⟨by omega,by omega⟩,h1,h4⟩
def xB(n:Nat)(t:T):List T:=match t with
 |.tup [.int x,.int y,.tup r] =>match nums r with
  |some m=>cB n x y m
  |none=>[]
 |_=>[]
def bC:Nat->List T->List T
 |_,[] =>[]
 |i,c::r=>xB i c++bC (i+1) r
def lB(t:T):List T:=match t with
 |.tup [a,b,.int le,mo] =>.tup [b,a,.int (-le)] ::(if mo.isN then []else [.tup [a,b,mo]])
 |_=>[]
def LL(cs ls:List T):List T:=bC 0 cs++ls.flatMap lB
def zc(n:Nat)(x y:Int)(r:List Int):xB n (.tup [.int x,.int y,.tup (r.map .int)])=cB n x y r:=by
 unfold xB;simp only[pM]
def LJ(n:Nat)(x y:Int)(r:List Int):(cB n x y r).length=2*(r.length - 1):=by
 unfold cB;rw[List.length_flatMap]
 have:∀l:List Nat,(l.map λk=>(pr n x y r k).length).sum=2*l.length:=by
  intro l
  induction l with
  |nil=>rfl
  |cons a l ih=>rw[PF,RJ,ih,PH];simp[pr];omega
 rw[this,Sn]
def B2{t:T}(h:bj t=ZC):(xB n t).length<=6:=by
 obtain⟨x,y,r,rfl,_,_,h1,h4⟩:=fq h;rw[zc,LJ];omega
theorem yT:∀{cs:List T}{i:Nat},(∀c∈cs,bj c=ZC)->(bC i cs).length<=6*cs.length
 |[],i,_=>by simp[bC]
 |c::cs,i,h=>by
  rw[bC,PK,PH]
  have:=B2 (n:=i) (h c PB)
  have:=yT (cs:=cs) (i:=i+1) λc hc=>h c (Pw _ hc)
  omega
def Dx(t:T):(lB t).length<=2:=by
 unfold lB;split
 ·rename_i a b le mo
  cases mo.isN <;> simp
 ·simp
theorem zX:∀(ls:List T),(ls.flatMap lB).length<=2*ls.length
 |[] =>by simp
 |t::ls=>by
  rw[SW,PK,PH]
  have:=Dx t
  have:=zX ls;omega
variable{cs:List T}
def jH{t:T}(h:bp cs t=ZC):∃(a b mo:T)(le:Int),t=.tup [a,b,.int le,mo]/\aw cs a=ZC/\aw cs b=ZC:=by
 obtain⟨a,b,x,y,rfl,hd,ha,hb,_⟩:=da h;unfold dI at hd;rw[PC]at hd;obtain⟨i,rfl,_⟩:=cM hd.1;exact⟨a,b,y,i,rfl,ha,hb⟩
def Bu{t:T}(h:bp cs t=ZC):cq [t]=.ok (.lst (lB t)):=by
 obtain⟨a,b,mo,le,rfl,_,_⟩:=jH h;refine bA rfl ?_
 show dZ [.va (.tup [a,b,.int le,mo]),.em]=_
 unfold dZ;rw[aB (Z':=[.va (.tup [a,b,.int le,mo]),.ow (.lst [.tup [b,a,.int (-le)]])]) (yB (l:=[.tup [b,a,.int (-le)]]) (au (cx (au rfl (au rfl (au rfl rfl))) (aD (k:=3) (by simp))) rfl) (by simp) (by simp))]
 have e:∀(Z:En) l,Z=[.va (.tup [a,b,.int le,mo]),.ow (.lst l)]->o2 jy (o2 aR (vr 0) (cn (.int 3))) (cn .non) Z=.ok (.bl (!mo.isN)):=λZ l z=>by subst z;rfl
 have e2:lB (.tup [a,b,.int le,mo])=.tup [b,a,.int (-le)] ::(if mo.isN then []else [.tup [a,b,mo]]):=rfl
 rw[e2]
 cases q:mo.isN with
 |true=>
  rw[aB (Z':=[.va (.tup [a,b,.int le,mo]),.ow (.lst [.tup [b,a,.int (-le)]])]) ((fH (cJ (by rw[e _ _ rfl,q];rfl))).trans rfl)]
  rfl
 |false=>
  rw[aB (Z':=[.va (.tup [a,b,.int le,mo]),.ow (.lst ([.tup [b,a,.int (-le)]] ++[.tup [a,b,mo]]))]) ((gJ (cJ (by rw[e _ _ rfl,q];rfl))).trans (lX (l:=[.tup [b,a,.int (-le)]]) (cx (au rfl (au rfl (au rfl rfl))) (aD (k:=3) (by simp))) rfl (by simp)))]
  rfl
abbrev bdG:T->En->Rs En:=gT 2 (wK (gN 2) (wK (gN 3) Fg))
theorem Au(R:T)(s4:Sl):∀(cs:List T)(acc:List T)(i:Nat)(s2 s3:Sl),(∀c∈cs,bj c=ZC)->acc.length+6*cs.length<=100 →
  ∃y2 y3,bq bdG bdF (dg i cs) [.va R,.ow (.lst acc),s2,s3,s4]=.ok (.nx [.va R,.ow (.lst (acc++bC i cs)),y2,y3,s4])
 |[],acc,i,s2,s3,_,_=>⟨s2,s3,by simp[dg,bq,bC]⟩
 |c::cs,acc,i,s2,s3,hc,hl=>by
  have h0:=hc c PB
  have hx:=B2 (n:=i) h0;obtain⟨x,y,r,rfl,a1,a2,a3,a4⟩:=fq h0;rw[PH]at hl;rw[zc]at hx
  have st:bdF [.va R,.ow (.lst acc),.va (.int i),.va (.tup [.int x,.int y,.tup (r.map .int)]),s4]=.ok (.nx [.va R,.ow (.lst (acc++cB i x y r)),.va (.int i),.va (.tup [.int x,.int y,.tup (r.map .int)]),s4]):=
   DM (l:=acc) (aQ (ts:=[.int i,.tup [.int x,.int y,.tup (r.map .int)]]) rfl (Es i x y r a1 a2 a3 a4)) rfl (by omega)
  obtain⟨z2,z3,ih⟩:=Au R s4 cs (acc++cB i x y r) (i+1) (.va (.int i)) (.va (.tup [.int x,.int y,.tup (r.map .int)])) (λc h=>hc c (Pw _ h)) (by rw[PK];omega)
  refine⟨z2,z3,?_⟩
  rw[dg,eQ (Z1:=[.va R,.ow (.lst acc),.va (.int i),.va (.tup [.int x,.int y,.tup (r.map .int)]),s4]) rfl st,ih,bC,zc,Qy]
abbrev blF:Y1:=pj 1 (cl cq (ae (vr 4) ai))
theorem As(R:T)(cs:List T)(s2 s3:Sl):∀(ls:List T)(acc:List T)(s4:Sl),(∀t∈ls,bp cs t=ZC)->acc.length+2*ls.length<=100 →
  ∃y4,bq (gN 4) blF ls [.va R,.ow (.lst acc),s2,s3,s4]=.ok (.nx [.va R,.ow (.lst (acc++ls.flatMap lB)),s2,s3,y4])
 |[],acc,s4,_,_=>⟨s4,by simp[bq]⟩
 |t::ls,acc,s4,hl,hn=>by
  rw[PH]at hn
  have:=Dx t
  have st:blF [.va R,.ow (.lst acc),s2,s3,.va t]=.ok (.nx [.va R,.ow (.lst (acc++lB t)),s2,s3,.va t]):=DM (l:=acc) (aQ (ts:=[t]) rfl (Bu (hl t PB))) rfl (by omega)
  obtain⟨y4,ih⟩:=As R cs s2 s3 ls (acc++lB t) (.va t) (λu h=>hl u (Pw _ h)) (by rw[PK];omega)
  refine⟨y4,?_⟩
  rw[eQ (Z1:=[.va R,.ow (.lst acc),s2,s3,.va t]) rfl st,ih,SW,Qy]
variable{R:T}
def dv(hp:R.pl=ZC)(h:dJ R=ZC):aG [R]=.ok .non:=by
 refine qd (Z:=[.va R]) rfl ?_
 show dN [.va R]=_
 unfold dN;exact(fH ((qg (k:=ZC) (cJ (aQ (ts:=[R]) rfl (by rw[w4 R hp,h])))))).trans rfl
def A8(hp:R.pl=ZC)(h:dJ R=ZD):aG [R]=.err "NoRecord":=by
 refine qe rfl ?_
 show dN [.va R]=_
 unfold dN;exact(gJ ((qg (k:=ZD) (cJ (aQ (ts:=[R]) rfl (by rw[w4 R hp,h])))))).trans rfl
structure Good (cs ls:List T):Prop where
 c:aZ (.tup cs)=ZC
 l:∀t∈ls,bp cs t=ZC
 n:ls.length<=8
 p:(RR cs ls).pl=ZC
variable{ls:List T}
def Good.ok(g:Good cs ls):dJ (RR cs ls)=ZC:=by
 show(aZ (.tup cs)&&(dB (.tup ls) 0 8&&ls.all (bp cs)))=ZC
 rw[g.c,Tj,PC,Qk];exact⟨by simp[dB];exact g.n,g.l⟩
def Ep(g:Good cs ls):gh [RR cs ls]=.ok (.lst (LL cs ls)):=by
 obtain⟨hc,c1,c4⟩:=bf g.c
 have hn:=g.n;refine bA rfl ?_
 show qD [.va (RR cs ls),.em,.em,.em,.em]=_
 unfold qD;rw[aB (ir (t:=.non) (aQ (ts:=[RR cs ls]) rfl (dv g.p g.ok)))];rw[aB (Z':=[.va (RR cs ls),.ow (.lst []),.em,.em,.em]) (yC (by simp))]
 obtain⟨y2,y3,e⟩:=Au (RR cs ls) .em cs [] 0 .em .em hc (by simp;omega)
 rw[aB ((gK (ts:=dg 0 cs) rfl e))]
 have:=yT (i:=0) hc;obtain⟨y4,e2⟩:=As (RR cs ls) cs y2 y3 ls ([] ++bC 0 cs) .em g.l (by rw[Sm];omega)
 rw[aB ((gK (ts:=ls) rfl e2))]
 rfl
def F1(n:Nat)(h:1<=n):rng 1 (n:Int)=(Q2 (n - 1)).map λ(k:Nat)=>T.int ((k+1:Nat):Int):=by
 unfold rng
 have:((n:Int) - 1).toNat=n - 1:=by omega
 rw[this];exact Q4 λk _=>congrArg T.int (by omega)
variable{Z:En}
def iR2{f:Y0}{i:Int}(h:f Z=.ok [.int i,.int j])(h0:0<=i)(h1:i<=100000)(h2:0<=j)(h3:j<=100000):iR f Z=.ok (rng i j):=by
 unfold iR;rw[h]
 have e:(yH i&&yH j)=ZC:=by unfold yH;simp;omega
 show(if (yH i&&yH j)=ZC then _ else _)=_
 rw[e];rfl
variable{l:List T}
def eG:(T.tup l).pl=plS l:=by unfold T.pl;rfl
def Good.parts(g:Good cs ls):(T.tup cs).pl=ZC/\∀t∈ls,t.pl=ZC:=by
 have:=g.p;rw[eG]at this;unfold plS at this;rw[PC]at this
 have h2:=this.2;unfold plS at h2;rw[PC,eG]at h2;exact⟨this.1,λt ht=>fW h2.1 ht⟩
def Good.sub{ms:List T}(g:Good cs ls)(hm:∀t∈ms,t∈ls)(hn:ms.length<=8):Good cs ms:=⟨g.c,λt ht=>g.l t (hm t ht),hn,by
 obtain⟨h1,h2⟩:=g.parts;rw[eG];refine eI λt ht=>?_
 simp only[PJ,Ra,or_false]at ht;rcases ht with rfl|rfl
 ·exact h1
 ·rw[eG];exact eI λt ht=>h2 t (hm t ht)⟩
def wW{y:T}(h:aw cs y=ZC):y.pl=ZC/\y.dep<=1:=by
 obtain⟨c,k,rfl⟩:=aJ h;exact⟨rfl,by simp[T.dep,deps]⟩
def Nd{a b x y:T}(h:bp cs (.tup [a,b,x,y])=ZC):y.pl=ZC/\y.dep=0:=by
 obtain⟨a',b',x',y',e,hd,_⟩:=da h;cases e;unfold dI at hd;rw[PC]at hd;obtain⟨i,rfl,_⟩:=cM hd.1
 cases y with
 |non=>exact⟨rfl,rfl⟩
 |int j=>exact⟨rfl,rfl⟩
 |bl j=>exact⟨rfl,rfl⟩
 |str j=>exact⟨rfl,rfl⟩
 |tup j=>cases hd.2
 |lst j=>cases hd.2
 |scr j=>cases hd.2
 |dct _ _=>cases hd.2
 |ob _ _ _=>cases hd.2
def zB(c0 s1:Sl)(x y:T)(r:List T)(i:Nat)(h:r.length<=4):
  fL (iR (ae (cl cQ (ae (o2 aR (vr 3) (cn (.int 2))) ai)) ai)) [ZB,ZA 2] (gN 0) bT (ba (ae (vr 1) (ae (vr 0) ai))) [c0,s1,.va (.int i),.va (.tup [x,y,.tup r])]=.ok (.lst (kB i r.length)):=
 mT (Hj (j:=(r.length:Int)) rfl (by omega) (by omega)) (aD (k:=4) (by rw[iG];exact h)) (by simp) λt _=>mk2 _ _
theorem zA:∀(cs:List T)(c0:T)(acc:List T)(i:Nat)(s2 s3:Sl),(∀c∈cs,bj c=ZC)->acc.length+4*cs.length<=100 →
  ∃y2 y3,bq evG peF (dg i cs) [.va c0,.ow (.lst acc),s2,s3]=.ok (.nx [.va c0,.ow (.lst (acc++bB i cs)),y2,y3])
 |[],c0,acc,i,s2,s3,_,_=>⟨s2,s3,by simp[dg,bq,bB]⟩
 |c::cs,c0,acc,i,s2,s3,hc,hl=>by
  obtain⟨x,y,r,rfl,r1,r2⟩:=gL (hc c PB);rw[PH]at hl
  have st:peF [.va c0,.ow (.lst acc),.va (.int i),.va (.tup [x,y,.tup r])]=.ok (.nx [.va c0,.ow (.lst (acc++kB i r.length)),.va (.int i),.va (.tup [x,y,.tup r])]):=DM (l:=acc) (zB _ _ x y r i r2) rfl (by rw[jN];omega)
  obtain⟨z2,z3,ih⟩:=zA cs c0 (acc++kB i r.length) (i+1) (.va (.int i)) (.va (.tup [x,y,.tup r])) (λc h=>hc c (Pw _ h)) (by rw[PK,jN];omega)
  refine⟨z2,z3,?_⟩
  rw[dg,eQ (Z1:=[.va c0,.ow (.lst acc),.va (.int i),.va (.tup [x,y,.tup r])]) rfl st,ih,bB,Qy]
  rfl
def vQ(g:Good cs ls):gg [RR cs ls]=.ok (.lst (bB 0 cs)):=by
 obtain⟨hc,c1,c4⟩:=bf g.c;refine bA rfl ?_
 show qC [.va (RR cs ls),.em,.em,.em]=_
 unfold qC;rw[aB (ir (t:=.non) (aQ (ts:=[RR cs ls]) rfl (dv g.p g.ok)))];rw[aB (Z':=[.va (RR cs ls),.ow (.lst []),.em,.em]) (yC (by simp))]
 obtain⟨y2,y3,e⟩:=zA cs (RR cs ls) [] 0 .em .em hc (by simp;omega)
 rw[aB ((gK (ts:=dg 0 cs) rfl e))]
 rfl
def uz{t:T}(g:Good cs ls)(ht:t.pl=ZC)(h:aw cs t=ZC):c8 [RR cs ls,t]=.ok .non:=by
 refine qd (Z:=[.va (RR cs ls),.va t]) rfl ?_
 show iW [.va (RR cs ls),.va t]=_
 unfold iW;exact(fH ((qg (k:=ZC) (cJ (aQ (ts:=[.tup cs,t]) rfl (by rw[uO cs t g.c ht,h])))))).trans rfl
def p2{a b:Y2}{t u:T}(ha:a Z=.ok t)(hb:b Z=.ok u):ba (ae a (ae b ai)) Z=.ok (.tup [t,u]):=cx (au ha (au hb rfl)) (aD (k:=2) (by simp))
def rG:gO [.lst l]=.ok (.tup l):=rfl
def HE(g:Good cs ls):(LL cs ls).length<=60:=by
 unfold LL;rw[PK];obtain⟨hc,c1,c4⟩:=bf g.c
 have:=yT (i:=0) hc
 have:=zX ls
 have:=g.n;omega
open Gr
structure N2 where
 c:Int
 k:Int
deriving DecidableEq
theorem N2.ext':∀{u v:N2},u.c=v.c->u.k=v.k->u=v
 |⟨_,_⟩,⟨_,_⟩,rfl,rfl=>rfl
def en(v:N2):T:=.tup [.int v.c,.int v.k]
def eB(x:N2×N2×Int):T:=.tup [en x.1,en x.2.1,.int x.2.2]
def eN(ks:List Nat):List T:=ks.map λk=>.int (k:Nat)
def eW(x:Int×List Nat):T:=.tup [.int x.1,.lst (eN x.2)]
def ky(v:N2):List L2.Key:=[.inl v.c,.inl v.k]
def cX(v:N2):keyOf (en v)=ZA (ky v):=rfl
variable{v:N2}
def uC{u:N2}(h:ZA (ky u)=ZA (ky v)):u=v:=by
 injection h with h
 injection h with h1 h2
 injection h2 with h2 _
 injection h1 with h1
 injection h2 with h2
 exact N2.ext' h1 h2
def uN{u:N2}(h:en u=en v):u=v:=uC (by rw[<-cX u,<-cX v,h])
def EI(u v:N2):aX (en u) (en v)=decide (u=v):=by
 unfold en aX beqTs aX beqTs beqTs
 by_cases h:u=v
 ·subst h;simp[aX]
 ·have:¬ (u.c=v.c/\u.k=v.k):=λz=>h (N2.ext' z.1 z.2)
  simp[h,aX];exact λz=>λy=>this ⟨z,y⟩
theorem Ak(g:N2->T)(v:N2):∀(ns:List N2),lq (ns.map en) (ns.map g) (ky v)=if v∈ns then ZA (g v)else ZB
 |[] =>rfl
 |u::ns=>by
  rw[PF,PF,lq,cX]
  by_cases h:u=v
  ·subst h;rw[if_pos rfl,if_pos PB]
  ·rw[if_neg (λz=>h (uC z)),Ak g v ns]
   have:(v∈u::ns)↔v∈ns:=by rw[PJ];exact⟨λz=>z.elim (λy=>absurd y.symm h) id,.inr⟩
   simp only[this]
theorem qm(x:T)(v:N2)(g:N2->T):∀(ns:List N2),v∉ns->gp (en v) x (ns.map en) (ns.map g)=(ns.map en++[en v],ns.map g++[x])
 |[],_=>rfl
 |u::ns,h=>by
  rw[PJ,not_or]at h;rw[PF,PF,gp,cX,cX,if_neg (λz=>h.1 (uC z).symm),qm x v g ns h.2]
  rfl
theorem Aj(x:T)(v:N2)(g:N2->T):∀(ns:List N2),ns.Nodup->v∈ns->gp (en v) x (ns.map en) (ns.map g)=(ns.map en,ns.map λu=>if u=v then x else g u)
 |[],_,h=>by simp at h
 |u::ns,hn,h=>by
  rw[Qh]at hn;rw[PF,PF,PF,gp,cX,cX]
  by_cases z:u=v
  ·subst z
   rw[if_pos rfl,if_pos rfl]
   congr 2
   exact Q4 λw hw=>by rw[if_neg (λ(y:w=u)=>hn.1 (y▸hw))]
  ·rw[if_neg (λy=>z (uC y)),if_neg z]
   have h':v∈ns:=(PJ.mp h).elim (λy=>absurd y.symm z) id
   rw[Aj x v g ns hn.2 h']
theorem j6 [DecidableEq α]:∀{l m:List α},l.Nodup->(∀x∈l,x∈m)->l.length<=m.length
 |[],_,_,_=>QQ _
 |x::l,m,hn,h=>by
  rw[Qh]at hn
  have hx:=h x PB
  have:=j6 (m:=m.erase x) hn.2 λy hy=>(VO (λ(z:y=x)=>hn.1 (z▸hy))).mpr (h y (Pw _ hy))
  rw[List.length_erase_of_mem hx]at this
  have:0<m.length:=List.length_pos_of_mem hx;rw[PH];omega
def oW(o:Option (Int×List Nat)):T:=match o with
 |some x=>eW x
 |none=>.non
structure DR (P ns:List N2)(b:cw N2):Prop where
 nd:ns.Nodup
 mem:∀v,v∈ns↔(b v).isSome=ZC
 sub:∀v∈ns,v∈P
def dV(ns:List N2)(b:cw N2):List T:=ns.map λv=>oW (b v)
variable{P ns:List N2}{b:cw N2}
def DR.get(D:DR P ns b)(v:N2):lq (ns.map en) (dV ns b) (ky v)=(b v).map eW:=by
 unfold dV;rw[Ak (λv=>oW (b v))]
 have:=D.mem v
 cases q:b v with
 |none=>rw[q]at this;rw[if_neg (λz=>by simpa using this.mp z)];rfl
 |some x=>rw[q]at this;rw[if_pos (this.mpr rfl)];rfl
def DR.put(D:DR P ns b)(hv:v∈P)(y:Int×List Nat):∃ns',DR P ns' (Gr.put b v y)/\gp (en v) (eW y) (ns.map en) (dV ns b)=(ns'.map en,dV ns' (Gr.put b v y)):=by
 by_cases h:v∈ns
 ·refine⟨ns,⟨D.nd,λu=>?_,D.sub⟩,?_⟩
  ·by_cases z:u=v
   ·subst z;rw[eF];exact⟨λ_=>rfl,λ_=>h⟩
   ·rw[kW z];exact D.mem u
  ·unfold dV
   rw[Aj _ _ _ _ D.nd h]
   congr 1
   refine Q4 λu _=>?_
   by_cases z:u=v
   ·subst z;rw[if_pos rfl,eF];rfl
   ·rw[if_neg z,kW z]
 ·refine⟨ns++[v],⟨?_,λu=>?_,λu hu=>?_⟩,?_⟩
  ·exact Qs.mpr ⟨D.nd,by simp,λx hx y hy=>by simp at hy;subst hy;exact λz=>h (z▸hx)⟩
  ·rw[PZ,PL]
   by_cases z:u=v
   ·subst z;rw[eF];exact⟨λ_=>rfl,λ_=>.inr rfl⟩
   ·rw[kW z,<-D.mem u];exact⟨λw=>w.elim id λy=>absurd y z,.inl⟩
  ·rcases PZ.mp hu with w|w
   ·exact D.sub u w
   ·rw[PL.mp w];exact hv
  ·unfold dV
   rw[qm _ _ _ _ h,Q6,Q6]
   congr 1
   congr 1
   ·refine Q4 λu hu=>?_
    rw[kW (λ(z:u=v)=>h (z▸hu))]
   ·simp[eF,oW]
def Er(D:DR P ns b)(x:N2×N2×Int)(d:Int)(w:List Nat):
  dz [.dct (ns.map en) (dV ns b),eB x,eW (d,w)]=.ok (.bl (eU b x.2.1 (d+x.2.2))):=by
 refine bA rfl ?_
 show jT [.va (.dct (ns.map en) (dV ns b)),.va (eB x),.va (eW (d,w)),.em]=_
 unfold jT
 have g:oD ji (vr 0) (o2 aR (vr 1) (cn (.int 1))) [.va (.dct (ns.map en) (dV ns b)),.va (eB x),.va (eW (d,w)),.em]=.ok (oW (b x.2.1)):=by
  refine Nu (ks:=ns.map en) (vs:=dV ns b) (u:=en x.2.1) rfl rfl ?_
  unfold ji;rw[cX];simp only[D.get];cases b x.2.1 <;> rfl
 rw[aB (cO (t:=oW (b x.2.1)) (Z':=[.va (.dct (ns.map en) (dV ns b)),.va (eB x),.va (eW (d,w)),.va (oW (b x.2.1))]) g rfl)];refine cf ?_
 unfold eU
 cases q:b x.2.1 with
 |none=>exact KZ (aI (t:=.non) (u:=.non) rfl rfl rfl)
 |some y=>exact(K0 (aI (t:=eW y) (u:=.non) rfl rfl rfl)).trans (aI (t:=.int (d+x.2.2)) (u:=.int y.1) rfl rfl rfl)
abbrev N8:T->En->Rs En:=gT 2 (wK (gN 4) (wK (gN 5) Fg))
def eL(L:cj N2):T:=.lst (L.map eB)
def Cj(L:cj N2)(t:T):T:=match t with
 |.int j=>match L[j.toNat]? with
  |some x=>en x.1
  |none=>.non
 |_=>.non
variable{L:cj N2}
theorem zI:∀{ks:List Nat}{a b:N2},Ch L a ks b->(eN ks).map (Cj L)=(e9 L ks).map en
 |[],_,_,_=>rfl
 |k::r,a,b,h=>by
  rw[h.Ou];obtain⟨c,m,e,h⟩:=h
  show Cj L (.int k)::(eN r).map (Cj L)=en a::(e9 L r).map en
  rw[zI h]
  congr 1
  unfold Cj;simp only[Rx,e]
theorem EN(v:N2):∀(l:List N2),fg (en v) (l.map en)=decide (v∈l)
 |[] =>rfl
 |u::l=>by
  have ih:=EN v l;unfold fg at ih ⊢;rw[PF,Sw,ih,EI]
  by_cases h:u=v
  ·subst h;simp
  ·have h':¬ v=u:=λz=>h z.symm
   simp[h,h']
theorem wR(v:N2):∀(l:List N2)(n:Nat),v∈l->km (en v) (l.map en) n=ZA (n+l.idxOf v)
 |[],n,h=>by simp at h
 |u::l,n,h=>by
  rw[PF,km,EI,XO]
  by_cases z:u=v
  ·subst z;simp
  ·have h':v∈l:=(PJ.mp h).elim (λy=>absurd y.symm z) id
   have zb:(u == v)=ZD:=by rw[beq_eq_false_iff_ne];exact z
   rw[zb,decide_eq_false z,if_neg P6,wR v l (n+1) h'];simp only[cond_false]
   congr 1
   omega
def Il(v:N2):(en v).nd=ZC:=rfl
theorem uA(f:α->T)(h:∀a,(f a).nd=ZC):∀l:List α,nds (l.map f)=ZC
 |[] =>rfl
 |a::l=>by rw[PF,nds,h a,uA f h l];rfl
def Ez(v:N2):(en v).dep<=60:=by show(T.tup [.int v.c,.int v.k]).dep<=60;simp[T.dep,deps]
def NI(v:N2)(l:List N2):IB (en v) (.lst (l.map en))=.ok (.bl (decide (v∈l))):=by
 show(if (_\/_)/\_/\(T.lst (l.map en)).nd=ZC then _ else _)=_
 rw[if_pos ⟨.inl (Ez v),rfl,uA en Il l⟩,EN]
def DT(v:N2)(l:List N2)(h:v∈l):gF (.lst (l.map en)) (en v)=.ok (.int ((l.idxOf v:Nat):Int)):=by
 unfold gF;simp only;rw[if_pos ⟨.inl (Ez v),rfl,uA en Il l⟩,wR v l 0 h,W7]
def Lu(p q:List Nat):eN (p++q)=eN p++eN q:=by unfold eN;rw[Q6]
theorem Df(D:Bool):∀ks:List Nat,nks D (eN ks)=ZC
 |[] =>rfl
 |k::r=>by show nks D (.int k::eN r)=ZC;unfold nks;rw[Df D r];rfl
variable{a:N2}
def Ch.len{b:N2}(h:Ch L a ks b)(hn:(e9 L ks).Nodup):ks.length<=L.length:=by
 have:=j6 (h.nodup hn) (m:=Q2 L.length) λk hk=>Ro.mpr (h.lt k hk)
 rwa [Sn]at this
abbrev sE(L:cj N2)(st:T)(o:OT)(b:Bool)(k:Nat)(x:N2×N2×Int)(s6 s7 s8:Sl):En:=[.va (eL L),.va st,.ow o,.va (.bl b),.va (.int k),.va (eB x),s6,s7,s8]
def IJ(L:cj N2)(P ns:List N2)(b:cw N2)(k:Nat)(x:N2×N2×Int)(st:T)(mv:Bool)(s6 s7 s8:Sl):Sum (Option (cw N2)) (List Nat)->Prop
 |.inl ZB=>∃s6' s7' s8',Fb (sE L st (.dct (ns.map en) (dV ns b)) mv k x s6 s7 s8)=.ok (.ct (sE L st (.dct (ns.map en) (dV ns b)) mv k x s6' s7' s8'))
 |.inl (ZA b')=>∃ns' s6' s7' s8',DR P ns' b'/\Fb (sE L st (.dct (ns.map en) (dV ns b)) mv k x s6 s7 s8)=.ok (.nx (sE L st (.dct (ns'.map en) (dV ns' b')) ZC k x s6' s7' s8'))
 |.inr q=>Fb (sE L st (.dct (ns.map en) (dV ns b)) mv k x s6 s7 s8)=.ok (.rt (.tup [.non,.lst (eN q)]))
def FY{S:List N2}{x:N2×N2×Int}(K:Kept L S b)(D:DR P ns b)(hL:L.length<=500)(hP:P.length<1000)(e:L[k]?=ZA x)(hx:x.2.1∈P)(st:T)(mv:Bool)(s6 s7 s8:Sl):
  IJ L P ns b k x st mv s6 s7 s8 (il L b k x):=by
 obtain⟨a,c,m⟩:=x;unfold IJ
 generalize hks:ns.map en=ks
 generalize hvs:dV ns b=vs
 have get:∀s7 s8,ln 2 (oD ji (vr 2) (o2 aR (vr 5) (cn (.int 0)))) (sE L st (.dct ks vs) mv k (a,c,m) s6 s7 s8)=.ok (oW (b a)):=λs7 s8=>by
  refine DK (o:=.dct ks vs) rfl (Nu (ks:=ks) (vs:=vs) (u:=en a) rfl rfl ?_) ?_
  ·unfold ji
   rw[cX,<-hks,<-hvs];simp only[D.get];cases b a <;> rfl
  ·cases b a with
   |none=>rfl
   |some y=>show nks ZC [.int y.1,.lst (eN y.2)]=ZC;simp[nks,T.nk,Df]
 have s1:∀G,aF (dq (ln 2 (oD ji (vr 2) (o2 aR (vr 5) (cn (.int 0))))) (gN 6)) G (sE L st (.dct ks vs) mv k (a,c,m) s6 s7 s8)=G (sE L st (.dct ks vs) mv k (a,c,m) (.va (oW (b a))) s7 s8):=λG=>
  aB (cO (t:=oW (b a)) (get s7 s8) rfl)
 cases qa:b a with
 |none=>
  rw[show il L b k (a,c,m)=.inl ZB from by unfold il;simp only[qa]]
  simp only;refine⟨.va .non,s7,s8,?_⟩
  unfold Fb;rw[s1,qa]
  exact DE (gJ (F:=HY) (Iu (cJ (aI (t:=.non) (u:=.non) rfl rfl rfl))))
 |some y=>
  obtain⟨d,w⟩:=y
  have bt:∀s7 s8,BP 2 (tb (cl dz (ae (vr 2) (ae (vr 5) (ae (vr 6) ai))))) (sE L st (.dct ks vs) mv k (a,c,m) (.va (eW (d,w))) s7 s8)=.ok (eU b c (d+m)):=λs7 s8=>by
   refine DJ (cJ (aQ (ts:=[.dct ks vs,eB (a,c,m),eW (d,w)]) rfl ?_))
   rw[<-hks,<-hvs];exact Er D (a,c,m) d w
  have nn:tb (o2 kz (vr 6) (cn .non)) (sE L st (.dct ks vs) mv k (a,c,m) (.va (eW (d,w))) s7 s8)=.ok ZD:=cJ (aI (t:=eW (d,w)) (u:=.non) rfl rfl rfl)
  have cond:=Iv nn (qg (bt s7 s8))
  have s1':∀G,aF (dq (ln 2 (oD ji (vr 2) (o2 aR (vr 5) (cn (.int 0))))) (gN 6)) G (sE L st (.dct ks vs) mv k (a,c,m) s6 s7 s8)=G (sE L st (.dct ks vs) mv k (a,c,m) (.va (eW (d,w))) s7 s8):=λG=>by rw[s1 G,qa];rfl
  cases hb:eU b c (d+m)with
  |false=>
   rw[show il L b k (a,c,m)=.inl ZB from by unfold il;simp only[qa,hb];rfl]
   simp only;rw[hb]at cond;refine⟨.va (eW (d,w)),s7,s8,?_⟩
   unfold Fb;rw[s1']
   exact DE (gJ (F:=HY) cond)
  |true=>
   rw[hb]at cond;obtain⟨s,hs,h1,h2,h3,h4,h5⟩:=K.walk a d w qa
   have hch:Ch L s (w++[k]) c:=h1.snoc e
   have hwl:w.length<=500:=Qn (Ch.len h1 h4) hL
   have s2:∀G,aF (gC (qH (tb (o2 kz (vr 6) (cn .non))) (du (BP 2 (tb (cl dz (ae (vr 2) (ae (vr 5) (ae (vr 6) ai)))))))) HY sN) G (sE L st (.dct ks vs) mv k (a,c,m) (.va (eW (d,w))) s7 s8)=G (sE L st (.dct ks vs) mv k (a,c,m) (.va (eW (d,w))) s7 s8):=λG=>
    aB (Z':=(sE L st (.dct ks vs) mv k (a,c,m) (.va (eW (d,w))) s7 s8)) ((fH (F:=HY) (G:=sN) cond).trans rfl)
   have wk:o2 aS (o2 aR (vr 6) (cn (.int 1))) (gq (ae (vr 4) ai)) (sE L st (.dct ks vs) mv k (a,c,m) (.va (eW (d,w))) s7 s8)=.ok (.lst (eN (w++[k]))):=by
    refine aI (t:=.lst (eN w)) (u:=.lst (eN [k])) rfl (nu (ts:=[.int k]) rfl (aD (k:=1) (by simp))) ?_
    show jg (eN w++eN [k])=_
    rw[<-Lu];unfold jg;rw[if_pos (aD (k:=1000) (by unfold eN;rw[Py,PK];simp;omega))]
   have s3:∀G,aF (dq (o2 aS (o2 aR (vr 6) (cn (.int 1))) (gq (ae (vr 4) ai))) (gN 7)) G (sE L st (.dct ks vs) mv k (a,c,m) (.va (eW (d,w))) s7 s8)=G (sE L st (.dct ks vs) mv k (a,c,m) (.va (eW (d,w))) (.va (.lst (eN (w++[k])))) s8):=λG=>aB (cO wk rfl)
   have ps:fL (iS (vr 7)) [ZB,ZA 0] (gN 0) bT (o2 aR (o2 aR (vr 1) (vr 0)) (cn (.int 0))) (sE L st (.dct ks vs) mv k (a,c,m) (.va (eW (d,w))) (.va (.lst (eN (w++[k])))) s8)=.ok (.lst ((e9 L (w++[k])).map en)):=by
    rw[<-zI hch];refine mT (ts:=eN (w++[k])) (kL rfl) (aD (k:=1000) (by unfold eN;rw[Py,PK];simp;omega)) (by simp) λt ht=>?_
    unfold eN at ht;obtain⟨j,hj,rfl⟩:=Qa.mp ht
    have hjl:=hch.lt j hj;refine aI (t:=eB L[j]) (u:=.int 0) (NA (l:=L.map eB) (n:=j) rfl rfl (by rw[P9,P5 hjl];rfl)) rfl ?_
    unfold Cj;simp only[Rx,P5 hjl]
    rfl
   have s4:∀G,aF (dq (fL (iS (vr 7)) [ZB,ZA 0] (gN 0) bT (o2 aR (o2 aR (vr 1) (vr 0)) (cn (.int 0)))) (gN 8)) G (sE L st (.dct ks vs) mv k (a,c,m) (.va (eW (d,w))) (.va (.lst (eN (w++[k])))) s8)=G (sE L st (.dct ks vs) mv k (a,c,m) (.va (eW (d,w))) (.va (.lst (eN (w++[k])))) (.va (.lst ((e9 L (w++[k])).map en)))):=λG=>aB (cO ps rfl)
   have inn:tb (o2 IB (o2 aR (vr 5) (cn (.int 1))) (vr 8)) (sE L st (.dct ks vs) mv k (a,c,m) (.va (eW (d,w))) (.va (.lst (eN (w++[k])))) (.va (.lst ((e9 L (w++[k])).map en))))=.ok (decide (c∈e9 L (w++[k]))):=
    cJ (aI (t:=en c) (u:=.lst ((e9 L (w++[k])).map en)) rfl rfl (NI c _))
   by_cases hn:c∈e9 L (w++[k])
   ·rw[show il L b k (a,c,m)=.inr ((w++[k]).drop ((e9 L (w++[k])).idxOf c))from by unfold il;simp only[qa,hb,if_pos hn,if_true]]
    simp only;unfold Fb;rw[s1',s2,s3,s4];rw[decide_eq_true hn]at inn;refine mS ((gJ inn).trans (cf ?_))
    have sle:sl (vr 7) (pS (oL gF (vr 8) (o2 aR (vr 5) (cn (.int 1))))) pN (sE L st (.dct ks vs) mv k (a,c,m) (.va (eW (d,w))) (.va (.lst (eN (w++[k])))) (.va (.lst ((e9 L (w++[k])).map en))))=.ok (.lst (eN ((w++[k]).drop ((e9 L (w++[k])).idxOf c)))):=by
     rw[Ir (l:=eN (w++[k])) (lo:=ZA (((e9 L (w++[k])).idxOf c:Nat):Int)) (hi:=ZB) rfl (KY (Nt (ks:=(e9 L (w++[k])).map en) (u:=en c) rfl rfl (DT c _ hn))) rfl,xg];unfold eN;rw[List.map_drop]
    exact(cx (ts:=[.non,.lst (eN ((w++[k]).drop ((e9 L (w++[k])).idxOf c)))]) (au rfl (au sle rfl)) (aD (k:=2) (by simp)))
   ·rw[show il L b k (a,c,m)=.inl (ZA (Gr.put b c (d+m,w++[k])))from by unfold il;simp only[qa,hb,if_neg hn,if_true]]
    simp only;rw[decide_eq_false hn]at inn;obtain⟨ns',D',hd⟩:=D.put hx (d+m,w++[k]);refine⟨ns',.va (eW (d,w)),.va (.lst (eN (w++[k]))),.va (.lst ((e9 L (w++[k])).map en)),D',?_⟩
    unfold Fb;rw[s1',s2,s3,s4];rw[aB (Z':=(sE L st (.dct ks vs) mv k (a,c,m) (.va (eW (d,w))) (.va (.lst (eN (w++[k])))) (.va (.lst ((e9 L (w++[k])).map en))))) ((fH (G:=sN) inn).trans rfl)]
    have pt:AU 2 (o2 aR (vr 5) (cn (.int 1))) (ba (ae (o2 aS (o2 aR (vr 6) (cn (.int 0))) (o2 aR (vr 5) (cn (.int 2)))) (ae (vr 7) ai))) (sE L st (.dct ks vs) mv k (a,c,m) (.va (eW (d,w))) (.va (.lst (eN (w++[k])))) (.va (.lst ((e9 L (w++[k])).map en))))
      = .ok (.nx (sE L st (.dct (ns'.map en) (dV ns' (Gr.put b c (d+m,w++[k])))) mv k (a,c,m) (.va (eW (d,w))) (.va (.lst (eN (w++[k])))) (.va (.lst ((e9 L (w++[k])).map en))))):=by
     have ev:ba (ae (o2 aS (o2 aR (vr 6) (cn (.int 0))) (o2 aR (vr 5) (cn (.int 2)))) (ae (vr 7) ai)) (sE L st (.dct ks vs) mv k (a,c,m) (.va (eW (d,w))) (.va (.lst (eN (w++[k])))) (.va (.lst ((e9 L (w++[k])).map en))))=.ok (eW (d+m,w++[k])):=
      cx (ts:=[.int (d+m),.lst (eN (w++[k]))]) rfl (aD (k:=2) (by simp))
     have ek:o2 aR (vr 5) (cn (.int 1)) (sE L st (.dct ks vs) mv k (a,c,m) (.va (eW (d,w))) (.va (.lst (eN (w++[k])))) (.va (.lst ((e9 L (w++[k])).map en))))=.ok (en c):=rfl
     show(ba _ _ >>= λv=>o2 aR (vr 5) (cn (.int 1)) _ >>= λkk=>match keyOf kk with|some _=>if ks.length<1000 then Rs.ok (Fl.nx _)else .bad|none=>.bad)=_
     rw[ev,ax,ek,ax,cX]
     have hlen:ks.length<1000:=by rw[<-hks,Py];exact SE (j6 D.nd D.sub) hP
     simp only[if_pos hlen]
     have hd1:gp (en c) (eW (d+m,w++[k])) ks vs=(ns'.map en,dV ns' (Gr.put b c (d+m,w++[k]))):=by rw[<-hks,<-hvs];exact hd
     rw[hd1]
     rfl
    rw[aB pt];exact cO (t:=.bl ZC) rfl rfl
def BO(L:cj N2)(st:T)(ns:List N2)(b:cw N2)(mv:Bool)(s4 s5 s6 s7 s8:Sl):En:=[.va (eL L),.va st,.ow (.dct (ns.map en) (dV ns b)),.va (.bl mv),s4,s5,s6,s7,s8]
def ES(L:cj N2)(P:List N2)(st:T)(X:Rs Fl):Sum (cw N2×Bool) (List Nat)->Prop
 |.inr q=>X=.ok (.rt (.tup [.non,.lst (eN q)]))
 |.inl (b',mv')=>∃ns' s4 s5 s6 s7 s8,DR P ns' b'/\X=.ok (.nx (BO L st ns' b' mv' s4 s5 s6 s7 s8))
theorem tN{S:List N2}(hL:L.length<=500)(hP:P.length<1000)(hx:∀x∈L,x.2.1∈P)(st:T):∀(r:cj N2)(k:Nat)(b:cw N2)(mv:Bool)(ns:List N2)(s4 s5 s6 s7 s8:Sl),L.drop k=r->Kept L S b->DR P ns b →
  ES L P st (bq N8 Fb (dg k (r.map eB)) (BO L st ns b mv s4 s5 s6 s7 s8)) (i7 L k r b mv)
 |[],k,b,mv,ns,s4,s5,s6,s7,s8,_,K,D=>⟨ns,s4,s5,s6,s7,s8,D,rfl⟩
 |x::r,k,b,mv,ns,s4,s5,s6,s7,s8,hr,K,D=>by
  have e:L[k]?=ZA x:=by
   have:=congrArg (·[0]?) hr
   simpa using this
  have hr':L.drop (k+1)=r:=by
   have:=congrArg (List.drop 1) hr
   simpa [List.drop_drop,W0]using this
  have tg:N8 (.tup [.int k,eB x]) (BO L st ns b mv s4 s5 s6 s7 s8)=.ok [.va (eL L),.va st,.ow (.dct (ns.map en) (dV ns b)),.va (.bl mv),.va (.int k),.va (eB x),s6,s7,s8]:=rfl
  have tn:=FY K D hL hP e (hx x (Sf e)) st mv s6 s7 s8;rw[i7,PF,dg]
  cases q:il L b k x with
  |inr w=>
   rw[q]at tn;simp only;unfold ES
   exact z5 tg tn
  |inl o=>
   rw[q]at tn
   cases o with
   |none=>
    obtain⟨s6',s7',s8',tn⟩:=tn;simp only;rw[He tg tn]
    exact tN hL hP hx st r (k+1) b mv ns _ _ _ _ _ hr' K D
   |some b'=>
    obtain⟨ns',s6',s7',s8',D',tn⟩:=tn;simp only;rw[eQ tg tn];refine tN (S:=S) hL hP hx st r (k+1) b' ZC ns' _ _ _ _ _ hr' ?_ D'
    obtain⟨a,c,m⟩:=x;unfold il at q
    cases qa:b a with
    |none=>simp only[qa]at q;cases q
    |some y=>
     obtain⟨d,w⟩:=y;simp only[qa]at q
     split at q
     ·rename_i hb
      split at q
      ·cases q
      ·rename_i hn
       cases q;exact K.put e qa hb hn
     ·cases q
abbrev wF:Y1:=aF (dq (cn (.bl ZD)) (gN 3)) (gP (iE (ae (vr 0) ai)) N8 Fb)
def SetP(L:cj N2)(P:List N2)(st:T)(X:Rs Fl):Sum (cw N2) (List Nat)->Prop
 |.inr q=>X=.ok (.rt (.tup [.non,.lst (eN q)]))
 |.inl b'=>∃ns' s4 s5 s6 s7 s8,DR P ns' b'/\X=.ok (.nx (BO L st ns' b' ZD s4 s5 s6 s7 s8))
theorem vI{S:List N2}(hL:L.length<=500)(hP:P.length<1000)(hx:∀x∈L,x.2.1∈P)(st:T):∀(n:Nat)(b:cw N2)(ns:List N2)(s4 s5 s6 s7 s8:Sl)(r:Sum (cw N2) (List Nat)),Kept L S b->DR P ns b->Gr.settle L n b=ZA r →
  SetP L P st (bL (tb (vr 3)) wF (n+1) (BO L st ns b ZC s4 s5 s6 s7 s8)) r
 |0,_,_,_,_,_,_,_,_,_,_,h=>by cases h
 |n+1,b,ns,s4,s5,s6,s7,s8,r,K,D,h=>by
  have sw:=tN hL hP hx st L 0 b ZD ns s4 s5 s6 s7 s8 rfl K D
  have ok:=jn (S:=S) L 0 b ZD rfl K
  have body:∀X,bq N8 Fb (dg 0 (L.map eB)) (BO L st ns b ZD s4 s5 s6 s7 s8)=.ok X->wF (BO L st ns b ZC s4 s5 s6 s7 s8)=.ok X:=λX hX=>by
   show aF _ _ _=_
   rw[aB (Z':=BO L st ns b ZD s4 s5 s6 s7 s8) (cO (t:=.bl ZD) rfl rfl)];exact gK (ts:=dg 0 (L.map eB)) (NC rfl) hX
  have tt:tb (vr 3) (BO L st ns b ZC s4 s5 s6 s7 s8)=.ok ZC:=rfl;rw[Gr.settle]at h
  revert sw ok h
  generalize i7 L 0 L b ZD=R
  intro h sw ok
  cases R with
  |inr q=>
   simp only at h;cases h
   exact DC tt (body _ sw)
  |inl p=>
   obtain⟨b',mv'⟩:=p;obtain⟨ns',t4,t5,t6,t7,t8,D',sw⟩:=sw;obtain⟨K',_⟩:=ok
   cases mv' with
   |true=>
    simp only at h
    have ih:=vI hL hP hx st n b' ns' t4 t5 t6 t7 t8 r K' D' h;rw[qc tt (body _ sw)]
    exact ih
   |false=>
    simp only at h;cases h;refine⟨ns',t4,t5,t6,t7,t8,D',?_⟩
    rw[qc tt (body _ sw)];exact wG rfl
theorem iB{c:Y3}{F:Y1}{x:Fl}:∀{n m:Nat}{Z:En},n<=m->bL c F n Z=.ok x->bL c F m Z=.ok x
 |0,_,_,_,h=>by cases h
 |n+1,0,_,hl,_=>absurd hl (by omega)
 |n+1,m+1,Z,hl,h=>by
  unfold bL at h ⊢
  cases q:c Z with
  |bad=>rw[q]at h;cases h
  |err _=>rw[q]at h;cases h
  |ok k=>
   rw[q]at h
   cases k with
   |false=>exact h
   |true=>
    simp only at h ⊢
    cases q2:F Z with
    |bad=>rw[q2]at h;cases h
    |err _=>rw[q2]at h;cases h
    |ok f=>
     rw[q2]at h
     cases f with
     |nx Z'=>exact iB (by omega) h
     |ct Z'=>exact iB (by omega) h
     |bk Z'=>exact h
     |rt t=>exact h
theorem CG(w:T):∀S:List N2,Ig (S.map λv=>.tup [en v,w])=ZA (S.map λv=>(en v,w))
 |[] =>rfl
 |v::S=>by rw[PF,Ig,cX,CG w S];rfl
theorem w9(w:T):∀(S ns:List N2)(g:N2->T),(ns++S).Nodup->(∀v∈S,g v=w)->gn (S.map λv=>(en v,w)) (ns.map en,ns.map g)=((ns++S).map en,(ns++S).map g)
 |[],ns,g,_,_=>by rw[Ql];rfl
 |v::S,ns,g,hn,hg=>by
  have hv:v∉ns:=λz=>by
   rw[Qs]at hn;exact hn.2.2 v z v PB rfl
  rw[PF,gn,qm _ _ _ _ hv]
  have e1:ns.map en++[en v]=(ns++[v]).map en:=by rw[Q6];rfl
  have e2:ns.map g++[w]=(ns++[v]).map g:=by rw[Q6,<-hg v PB];rfl
  rw[e1,e2,w9 w S (ns++[v]) g (by rw[Qy];exact hn) λu hu=>hg u (Pw _ hu),Qy]
  rfl
def Hw(w:T)(S:List N2)(hn:S.Nodup)(hl:S.length<=1000):l7 [.lst (S.map λv=>.tup [en v,w])]=.ok (.dct (S.map en) (S.map λ_=>w)):=by
 unfold l7;simp only[CG];rw[if_pos (by rw[Py];exact hl)]
 have:=w9 w S [] (λ_=>w) (by simpa using hn) (λ_ _=>rfl)
 rw[Sm]at this;rw[show(([]:List T),([]:List T))=(([]:List N2).map en,([]:List N2).map λ_=>w)from rfl,this]
def eS(S:List N2):T:=.lst (S.map en)
def HL(L:cj N2)(P:List N2)(X:Rs T):Sum (cw N2) (List Nat)->Prop
 |.inr q=>X=.ok (.tup [.non,.lst (eN q)])
 |.inl b'=>∃ns',DR P ns' b'/\X=.ok (.tup [.dct (ns'.map en) (dV ns' b'),.non])
structure N5 (L:cj N2)(P:List N2):Prop where
 len:L.length<=500
 size:size L<=100000000
 ends:∀x∈L,x.1∈P/\x.2.1∈P
 pl:P.length<1000
def SOk(L:cj N2)(S:List N2):Sum (cw N2) (List Nat)->Prop
 |.inr q=>Bar L q
 |.inl b'=>Settled L S b'
def wZ{S:List N2}(F:N5 L P)(hS:S.Nodup)(hSP:∀v∈S,v∈P):∃r,HL L P (gf [eL L,eS S]) r/\SOk L S r:=by
 have bound:L.length*(2*size L+1)<1000000000000 - 1:=by
  have h1:=F.len
  have h2:=F.size
  have:L.length*(2*size L+1)<=500*(2*100000000+1):=VU h1 (by omega)
  omega
 obtain⟨r,hr,ok⟩:=xU L S bound
 have ok':SOk L S r:=by cases r <;> exact ok
 refine⟨r,?_,ok'⟩
 have hSl:S.length<=1000:=Qn (j6 hS hSP) (by have:=F.pl;omega)
 have D0:DR P S (Gr.start S):=⟨hS,λv=>by unfold Gr.start;by_cases h:v∈S <;> simp[h],hSP⟩
 have dv0:dV S (Gr.start S)=S.map λ_=>eW (0,[]):=Q4 λv hv=>by unfold Gr.start;rw[if_pos hv];rfl
 have w:=vI F.len F.pl (λx hx=>(F.ends x hx).2) (eS S) _ (Gr.start S) S .em .em .em .em .em r (qb L S) D0 hr
 have lc:fL (iS (vr 1)) [ZB] (gN 0) bT (ba (ae (vr 0) (ae (ba (ae (cn (.int 0)) (ae (gq ai) ai))) ai))) [.va (eL L),.va (eS S),.em,.em,.em,.em,.em,.em,.em]=.ok (.lst (S.map λv=>.tup [en v,eW (0,[])])):=by
  have:=mT (fi:=iS (vr 1)) (src:=[ZB]) (fe:=ba (ae (vr 0) (ae (ba (ae (cn (.int 0)) (ae (gq ai) ai))) ai))) (h:=λt=>.tup [t,eW (0,[])]) (Z:=[.va (eL L),.va (eS S),.em,.em,.em,.em,.em,.em,.em]) (ts:=S.map en) (kL rfl) (aD (k:=1000) (by rw[Py];exact hSl)) (by simp) λt _=>
   cx (ts:=[t,eW (0,[])]) (au rfl (au (cx (ts:=[.int 0,.lst []]) (au rfl (au (nu (ts:=[]) rfl (QQ _)) rfl)) (aD (k:=2) (by simp))) rfl)) (aD (k:=2) (by simp))
  rw[this,SL];rfl
 have n0:rO 2 (fL (iS (vr 1)) [ZB] (gN 0) bT (ba (ae (vr 0) (ae (ba (ae (cn (.int 0)) (ae (gq ai) ai))) ai)))) [.va (eL L),.va (eS S),.em,.em,.em,.em,.em,.em,.em]=.ok (.nx [.va (eL L),.va (eS S),.ow (.dct (S.map en) (dV S (Gr.start S))),.em,.em,.em,.em,.em,.em]):=by
  unfold rO;rw[lc,ax,Hw _ S hS hSl,ax,dv0]
  rfl
 have main:∀G X,bL (tb (vr 3)) wF FU (BO L (eS S) S (Gr.start S) ZC .em .em .em .em .em)=.ok X->jR [.va (eL L),.va (eS S),.em,.em,.em,.em,.em,.em,.em]=G->(aF (bL (tb (vr 3)) wF FU) (kS 2 (aM (ba (ae (vr 2) (ae (cn .non) ai)))))) (BO L (eS S) S (Gr.start S) ZC .em .em .em .em .em)=G:=λG X _ h=>by
  rw[<-h];unfold jR;rw[aB n0,aB (Z':=BO L (eS S) S (Gr.start S) ZC .em .em .em .em .em) (cO (t:=.bl ZC) rfl rfl)]
 cases r with
 |inr q=>
  have w':=iB (m:=FU) (by unfold FU;omega) w
  refine bA rfl ?_
  show jR [.va (eL L),.va (eS S),.em,.em,.em,.em,.em,.em,.em]=_
  rw[<-main _ _ w' rfl]
  exact mS w'
 |inl b'=>
  obtain⟨ns',s4,s5,s6,s7,s8,D',w⟩:=w
  have w':=iB (m:=FU) (by unfold FU;omega) w
  refine⟨ns',D',bA rfl ?_⟩
  show jR [.va (eL L),.va (eS S),.em,.em,.em,.em,.em,.em,.em]=_
  rw[<-main _ _ w' rfl,aB w'];exact z6 (cf (cx (ts:=[.dct (ns'.map en) (dV ns' b'),.non]) rfl (aD (k:=2) (by simp))))
theorem pY{f:α->T}{p:α->Prop}:∀{l:List T},(∀t∈l,∃x,t=f x/\p x)->∃L:List α,l=L.map f/\∀x∈L,p x
 |[],_=>⟨[],rfl,λ_ h=>nomatch h⟩
 |t::l,h=>by
  obtain⟨x,e,hx⟩:=h t PB;obtain⟨L,e2,h2⟩:=pY (l:=l) λu hu=>h u (Pw _ hu)
  exact⟨x::L,by rw[e,e2];rfl,λy hy=>(PJ.mp hy).elim (λz=>z▸hx) (h2 y)⟩
def yR{t:T}(h:bj t=ZC):∃(x y:Int)(r:List Int),t=.tup [.int x,.int y,.tup (r.map .int)]/\(0<=x/\x<=9)/\(0<=y/\y<=9)/\∀k,0<=r.getD k 0/\r.getD k 0<=99:=by
 obtain⟨x,y,r,rfl,h1,h2,h3,h4⟩:=fq h;refine⟨x,y,r,rfl,h1,h2,λk=>?_⟩
 have h':(pw (.int x) (.int y)&&dm (.tup (r.map .int)))=ZC:=h;rw[PC]at h'
 have hr:=h'.2;unfold dm at hr;rw[PC]at hr
 have hr2:(((r.map T.int).all λu=>aY u 0 99)&&(match nums (r.map .int)with|some m=>qG m|none=>ZD))=ZC:=hr.2
 rw[PC]at hr2
 by_cases hk:k<r.length
 ·have:=Qk.mp hr2.1 (.int r[k]) (Qa.mpr ⟨_,QU hk,rfl⟩)
  obtain⟨i,e,a,b⟩:=cM this;cases e;simp[hk];exact⟨a,b⟩
 ·simp[hk]
def uB{cs:List T}:∀{cs0:List T}{c k:Nat},i<=c->c<i+cs0.length->k<Ib (cs0.getD (c - i) .non)->T.tup [.int c,.int k] ∈bB i cs0:=by
 intro cs0
 induction cs0 generalizing i with
 |nil=>intro c k h1 h2;simp at h2;omega
 |cons a r ih=>
  intro c k h1 h2 h3;rw[bB,PZ]
  by_cases e:c=i
  ·subst e
   rw[TU]at h3
   have h3':k<Ib a:=h3;exact .inl (Qa.mpr ⟨.int k,zN h3',rfl⟩)
  ·refine .inr (ih (by omega) (by rw[PH]at h2;omega) ?_)
   rw[show c - i=(c - (i+1))+1 by omega]at h3
   exact h3
def mX{t:T}(h:aw cs t=ZC):t∈bB 0 cs:=by
 obtain⟨c,k,rfl⟩:=aJ h;unfold aw at h;simp only[PC,decide_eq_true_eq]at h;obtain⟨⟨h1,h2⟩,h3,h4⟩:=h;obtain⟨c,rfl⟩:=Qi h1;obtain⟨k,rfl⟩:=Qi h3;rw[mw]at h4;exact uB (cs:=cs) (QQ _) (by omega) (by rw[Td];omega)
def Ee{t:T}(h:t∈bB 0 cs):∃v:N2,t=en v/\True:=by
 obtain⟨c,k,rfl,_⟩:=ka cs 0 h;exact⟨⟨c,k⟩,rfl,trivial⟩
def big(x:N2×N2×Int):Prop:=x.2.2.natAbs<=999
def rV{a b:Int}(ha : -99<=a/\a<=99)(hb:0<=b/\b<=9):(a*b).natAbs<=999:=by
 rw[Int.natAbs_mul]
 have h1:a.natAbs<=99:=by omega
 have h2:b.natAbs<=9:=by omega
 exact Qn (VU h1 h2) (by decide)
theorem IH{cs0:List T}:∀{cs:List T}{i:Nat},(∀c∈cs,bj c=ZC)->(∀c k:Nat,i<=c->c<i+cs.length->k<Ib (cs.getD (c - i) .non)->T.tup [.int c,.int k] ∈bB 0 cs0) →
  ∀t∈bC i cs,∃x,t=eB x/\(en x.1∈bB 0 cs0/\en x.2.1∈bB 0 cs0/\big x)
 |[],_,_,_,t,h=>by simp[bC]at h
 |c::cs,i,hc,hm,t,h=>by
  rw[bC,PZ]at h;rcases h with h|h
  ·obtain⟨x,y,r,rfl,hx,hy,hr⟩:=yR (hc c PB)
   have hm0:∀k,k<r.length->T.tup [.int i,.int k] ∈bB 0 cs0:=λk hk=>hm i k (PP _) (by simp) (by rw[TU];show k<(r.map T.int).length;rw[Py];exact hk)
   rw[zc]at h;unfold cB at h;obtain⟨k,hk,hp⟩:=Vf.mp h
   have hk:=Ro.mp hk
   have d : -99<=dr r k/\dr r k<=99:=by have:=hr k;have:=hr (k+1);unfold dr;omega
   unfold pr at hp;simp only[PJ,Ra,or_false]at hp;rcases hp with rfl|rfl
   ·exact⟨(⟨i,k⟩,⟨i,((k+1:Nat):Int)⟩,dr r k*y),rfl,hm0 k (by omega),hm0 (k+1) (by omega),rV d hy⟩
   ·exact⟨(⟨i,((k+1:Nat):Int)⟩,⟨i,k⟩,-dr r k*x),rfl,hm0 (k+1) (by omega),hm0 k (by omega),rV (by omega) hx⟩
  ·exact IH (cs:=cs) (i:=i+1) (λc h=>hc c (Pw _ h)) (λc k h1 h2 h3=>hm c k (by omega) (by rw[PH];omega) (by rw[show c - i=(c - (i+1))+1 by omega];exact h3)) t h
def Nn{u:T}(hu:bp cs u=ZC):∀t∈lB u,∃x,t=eB x/\(en x.1∈bB 0 cs/\en x.2.1∈bB 0 cs/\big x):=by
 intro t ht;obtain⟨a,b,x,y,rfl,hd,ha,hb,_⟩:=da hu
 have ma:=mX ha
 have mb:=mX hb;obtain⟨va,rfl,_⟩:=Ee ma;obtain⟨vb,rfl,_⟩:=Ee mb;unfold dI at hd;rw[PC]at hd;obtain⟨i,rfl,i1,i2⟩:=cM hd.1
 have e2:lB (.tup [en va,en vb,.int i,y])=.tup [en vb,en va,.int (-i)] ::(if y.isN then []else [.tup [en va,en vb,y]]):=rfl
 rw[e2]at ht;rcases PJ.mp ht with rfl|ht
 ·exact⟨(vb,va,-i),rfl,mb,ma,by unfold big;simp only;omega⟩
 ·cases q:y.isN with
  |true=>rw[q]at ht;simp at ht
  |false=>
   rw[q]at ht
   have ht:t=.tup [en va,en vb,y]:=by simpa using ht
   have hw:aY y i 999=ZC:=by
    cases y with
    |non=>cases q
    |_=>exact hd.2
   obtain⟨j,rfl,j1,j2⟩:=cM hw;exact⟨(va,vb,j),ht,ma,mb,by unfold big;simp only;omega⟩
structure Rd (cs ls:List T)(L:cj N2)(P:List N2):Prop where
 g:Good cs ls
 b:LL cs ls=L.map eB
 e:bB 0 cs=P.map en
 f:N5 L P
 nd:P.Nodup
 pl:P.length<=16
 ll:L.length<=60
 bg:∀x∈L,big x
def FW(h:∀x∈L,big x):size L<=999*L.length:=by
 unfold size
 induction L with
 |nil=>simp
 |cons x L ih=>
  rw[PF,RJ,PH]
  have:=ih λy hy=>h y (Pw _ hy)
  have:=h x PB;unfold big at this;omega
def C7(h:(P.map en).Nodup):P.Nodup:=by
 induction P with
 |nil=>exact RE
 |cons a r ih=>
  rw[PF,Qh]at h;exact Qh.mpr ⟨λz=>h.1 (Qa.mpr ⟨a,z,rfl⟩),ih h.2⟩
def vN(g:Good cs ls):∃L P,Rd cs ls L P:=by
 obtain⟨hc,c1,c4⟩:=bf g.c;obtain⟨P,eP,_⟩:=pY (f:=en) (p:=λ_=>True) (l:=bB 0 cs) λt ht=>Ee ht
 have key:∀t∈LL cs ls,∃x,t=eB x/\(en x.1∈bB 0 cs/\en x.2.1∈bB 0 cs/\big x):=λt ht=>by
  unfold LL at ht;rw[PZ]at ht;rcases ht with h|h
  ·exact IH hc (λc k h1 h2 h3=>uB (cs:=cs) h1 h2 h3) t h
  ·obtain⟨u,hu,h⟩:=Vf.mp h
   exact Nn (g.l u hu) t h
 obtain⟨L,eL,hL⟩:=pY key
 have mem:∀v:N2,en v∈bB 0 cs->v∈P:=λv hv=>by
  rw[eP]at hv;obtain⟨u,hu,e⟩:=Qa.mp hv;rw[<-uN e];exact hu
 have hl:=HE g;rw[eL,Py]at hl
 have hp:=oM cs 0 hc;rw[eP,Py]at hp
 have hs:=FW λx hx=>(hL x hx).2.2
 exact⟨L,P,g,eL,eP,⟨by omega,by omega,λx hx=>⟨mem _ (hL x hx).1,mem _ (hL x hx).2.1⟩,by omega⟩,C7 (eP▸j7 cs 0),by omega,hl,λx hx=>(hL x hx).2.2⟩
def CI:(T.lst l).pl=plS l:=by unfold T.pl;rfl
def run(L:cj N2):N2->List Nat->Option N2
 |a,[] =>ZA a
 |a,k::r=>match L[k]? with
  |some x=>if x.1=a then run L x.2.1 r else ZB
  |none=>ZB
theorem j4(f:Nat->Int):∀ks:List Nat,je (ks.map λk=>T.int (f k))=ZA (ks.map f)
 |[] =>rfl
 |k::ks=>by rw[PF,je,j4 f ks];rfl
def Rd.ev(R:Rd cs ls L P)(h:v∈P):aw cs (en v)=ZC:=nv (by rw[R.e];exact Qa.mpr ⟨v,h,rfl⟩)
def Rd.bounds(R:Rd cs ls L P):gh [RR cs ls]=.ok (eL L):=by rw[Ep R.g,R.b];rfl
def Rd.Pj(R:Rd cs ls L P){b:N2}(ha:a∈P)(hb:b∈P):fA [RR cs ls,en a,en b]=.ok .non:=by
 refine qd (Z:=[.va (RR cs ls),.va (en a),.va (en b)]) rfl ?_
 show gV [.va (RR cs ls),.va (en a),.va (en b)]=_
 unfold gV;rw[aB (ir (t:=.non) (aQ (ts:=[RR cs ls]) rfl (dv R.g.p R.g.ok)))];rw[aB (ir (t:=.non) (aQ (ts:=[RR cs ls,en a]) rfl (uz R.g rfl (R.ev ha))))];exact ir (t:=.non) (aQ (ts:=[RR cs ls,en b]) rfl (uz R.g rfl (R.ev hb)))
variable{c:N2}
def Rd.events(R:Rd cs ls L P):gg [RR cs ls]=.ok (eS P):=by rw[vQ R.g,R.e];rfl
def Ex(D:DR P ns b)(e:b v=ZA x):jO (.dct (ns.map en) (dV ns b)) (en v)=.ok (eW x):=by
 unfold jO;simp only[cX];rw[D.get,e];rfl
def Lz(D:DR P ns b)(v:N2):Ey (en v) (.dct (ns.map en) (dV ns b))=.ok (.bl (b v).isSome):=by
 unfold Ey;simp only[cX];rw[D.get];cases b v <;> rfl
def tmT(P:List N2)(t:N2->Int):T:=.tup (P.map λv=>.int (t v))
def N6(b:cw N2)(v:N2):Int:=match b v with
 |some x=>x.1
 |none=>0
def atT(t:N2->Int)(u:T):T:=match u with
 |.tup [.int c,.int k] =>.int (t ⟨c,k⟩)
 |_=>.non
def Rd.Pe(R:Rd cs ls L P):(¬fJ L/\kc [(RR cs ls)]=.ok .non)\/(fJ L/\∃t b,Settled L P b/\(∀v∈P,∃w,b v=ZA (t v,w))/\kc [(RR cs ls)]=.ok (tmT P t)):=by
 obtain⟨r,hr,ok⟩:=wZ R.f R.nd (λv h=>h)
 have wrap:∀{w:T},dG [(RR cs ls),eL L]=.ok w->kc [(RR cs ls)]=.ok w:=λ{w} e=>bA rfl (cf (aQ (ts:=[(RR cs ls),eL L]) (au rfl (au (aQ (ts:=[(RR cs ls)]) rfl R.bounds) rfl)) e))
 have begin_:∀{x z:T}{y:Rs Fl},gf [eL L,eS P]=.ok (.tup [x,z])->((aF (gC (tb (o2 kz (vr 3) (cn .non))) (aM (cn .non)) sN) (aM (cl gO (ae (fL (iS (vr 2)) [ZB,ZA 3] (gN 0) bT (o2 aR (o2 jO (vr 1) (vr 0)) (cn (.int 0)))) ai)))) [.va (RR cs ls),.va (eL L),.va (eS P),.va x]=y)->ft [.va (RR cs ls),.va (eL L),.em,.em]=y:=λ{x z y} hs hy=>by
  unfold ft;rw[aB (Z':=[.va (RR cs ls),.va (eL L),.va (eS P),.em]) (cO (aQ (ts:=[(RR cs ls)]) rfl R.events) rfl)];rw[aB (Z':=[.va (RR cs ls),.va (eL L),.va (eS P),.va x]) (cO (aI (u:=.int 0) (aQ (ts:=[eL L,eS P]) rfl hs) rfl rfl) rfl)];exact hy
 cases r with
 |inr q=>exact .inl ⟨λn=>absurd n (Bar.neg ok),wrap (bA rfl (begin_ hr (mS ((gJ (cJ (aI (t:=.non) (u:=.non) rfl rfl rfl))).trans rfl))))⟩
 |inl b=>
  obtain⟨ns,D,hr⟩:=hr
  have ok:Settled L P b:=ok
  have htm:∀v∈P,∃w,b v=ZA (N6 b v,w):=λv hv=>by
   obtain⟨d,w,e,_⟩:=ok.least v hv v 0 (.nil v);exact⟨w,by unfold N6;rw[e]⟩
  refine .inr ⟨(ok.holds R.f.ends htm).Pm,N6 b,b,ok,htm,wrap (bA rfl (begin_ hr ?_))⟩
  generalize N6 b=tm at htm
  have lc:fL (iS (vr 2)) [ZB,ZA 3] (gN 0) bT (o2 aR (o2 jO (vr 1) (vr 0)) (cn (.int 0))) [.va (RR cs ls),.va (eL L),.va (eS P),.va (.dct (ns.map en) (dV ns b))]=.ok (.lst ((P.map en).map (atT tm))):=
   mT (ts:=P.map en) (kL rfl) (aD (k:=16) (by rw[Py];exact R.pl)) (by simp) λt ht=>by
    obtain⟨v,hv,rfl⟩:=Qa.mp ht;obtain⟨w,e⟩:=htm v hv;exact aI (t:=eW (tm v,w)) (u:=.int 0) (aI (t:=.dct (ns.map en) (dV ns b)) (u:=en v) rfl rfl (Ex D e)) rfl rfl
  rw[SL]at lc;rw[aB (Z':=[.va (RR cs ls),.va (eL L),.va (eS P),.va (.dct (ns.map en) (dV ns b))]) ((fH (cJ (aI (t:=.dct (ns.map en) (dV ns b)) (u:=.non) rfl rfl rfl))).trans rfl)];exact cf (aQ (au lc rfl) rfl)
def Rd.O9(R:Rd cs ls L P):∃hw:Bool,a7 [(RR cs ls)]=.ok (.bl hw)/\(hw=ZC↔fJ L):=by
 rcases R.Pe with⟨n,e⟩|⟨n,t,b,_,_,e⟩
 ·exact⟨ZD,bA rfl (cf (aI (t:=.non) (u:=.non) (aQ (ts:=[(RR cs ls)]) rfl e) rfl rfl)),λz=>(by cases z),λz=>absurd z n⟩
 ·exact⟨ZC,bA rfl (cf (aI (t:=tmT P t) (u:=.non) (aQ (ts:=[(RR cs ls)]) rfl e) rfl rfl)),λ_=>n,λ_=>rfl⟩
def Rd.OV(R:Rd cs ls L P)(n:fJ L):bY [RR cs ls]=.ok .non:=by
 obtain⟨hw,e,i⟩:=R.O9;rw[i.mpr n]at e;refine qd (Z:=[.va (RR cs ls)]) rfl ?_
 show iV [.va (RR cs ls)]=_
 unfold iV;exact(fH (qg (k:=ZC) (cJ (aQ (ts:=[RR cs ls]) rfl e)))).trans rfl
def Rd.from_(R:Rd cs ls L P)(n:fJ L)(ha:a∈P):∃b ns,Settled L [a] b/\DR P ns b/\fY [RR cs ls,en a]=.ok (.dct (ns.map en) (dV ns b)):=by
 obtain⟨r,hr,ok⟩:=wZ (S:=[a]) R.f (by simp) (λv h=>by rw[PL.mp h];exact ha)
 cases r with
 |inr q=>exact absurd n (Bar.neg ok)
 |inl b=>
  obtain⟨ns,D,hr⟩:=hr;refine⟨b,ns,ok,D,bA rfl (cf (aI (u:=.int 0) (aQ (ts:=[eL L,eS [a]]) (au (aQ (ts:=[RR cs ls]) rfl R.bounds) (au (nu (ts:=[en a]) rfl (aD (k:=1) (by simp))) rfl)) hr) rfl rfl))⟩
def Im(o:Option (Int×List Nat)):T:=match o with
 |some x=>.int x.1
 |none=>.non
def Rd.Pt(R:Rd cs ls L P)(n:fJ L)(ha:a∈P)(hc:c∈P):∃b,Settled L [a] b/\cp [RR cs ls,en a,en c]=.ok (Im (b c)):=by
 obtain⟨b,ns,S,D,e⟩:=R.from_ n ha;refine⟨b,S,bA rfl ?_⟩
 show gy [.va (RR cs ls),.va (en a),.va (en c)]=_
 unfold gy;rw[aB (ir (t:=.non) (aQ (ts:=[RR cs ls,en a,en c]) rfl (R.Pj ha hc)))];rw[aB (ir (t:=.non) (aQ (ts:=[RR cs ls]) rfl (R.OV n)))];refine cf (aQ (ts:=[.dct (ns.map en) (dV ns b),en c]) (au (aQ (ts:=[RR cs ls,en a]) rfl e) rfl) (bA rfl ?_))
 refine cf ((sd (p:=(b c).isSome) (cJ (aI (t:=en c) (u:=.dct (ns.map en) (dV ns b)) rfl rfl (Lz D c)))).trans ?_)
 cases q:b c with
 |none=>rfl
 |some x=>exact aI (t:=eW x) (u:=.int 0) (aI (t:=.dct (ns.map en) (dV ns b)) (u:=en c) rfl rfl (Ex D q)) rfl rfl
def oI(o:Option Int):T:=match o with
 |some x=>.int x
 |none=>.non
def rowsT(P:List N2)(f:fI N2):List (List T×List T):=P.map λu=>(P.map en,P.map λv=>oI (f u v))
variable{f:fI N2}{ns:List Int}
def GZ(S:Settled L [a] b)(F:nE L P f)(ha:a∈P)(c:N2):Im (b c)=oI (f a c):=by
 cases q:b c with
 |none=>
  cases e:f a c with
  |none=>rfl
  |some y=>
   obtain⟨d,w,z,_⟩:=S.least a (by simp) c y (F.is a c y e)
   rw[q]at z;cases z
 |some x=>
  obtain⟨d,w⟩:=x;obtain⟨s,hs,h1,h2,_⟩:=S.walk c d w q;rw[PL.mp hs]at h1
  have wk:Wk L a c d:=h2▸h1.wk;obtain⟨y,e,hy⟩:=F.le a ha c d wk;obtain⟨d',w',z,hd⟩:=S.least a (by simp) c y (F.is a c y e)
  rw[q]at z;cases z;rw[e]
  show T.int d=.int y
  congr 1
  omega
def Rd.O4(R:Rd cs ls L P)(n:fJ L)(F:nE L P f)(ha:a∈P)(hc:c∈P):cp [(RR cs ls),en a,en c]=.ok (oI (f a c)):=by
 obtain⟨b,S,e⟩:=R.Pt n ha hc;rw[e,GZ S F ha]
def LR(o:Option Int):T:=match o with
 |some x=>.int (0 - x)
 |none=>.non
def Rd.O8(R:Rd cs ls L P)(n:fJ L)(F:nE L P f)(ha:a∈P)(hc:c∈P):dR [(RR cs ls),en a,en c]=.ok (LR (f c a)):=by
 refine bA rfl ?_
 show fR [.va (RR cs ls),.va (en a),.va (en c),.em]=_
 unfold fR;rw[aB (Z':=[.va (RR cs ls),.va (en a),.va (en c),.va (oI (f c a))]) (cO (aQ (ts:=[(RR cs ls),en c,en a]) rfl (R.O4 n F hc ha)) rfl)]
 cases f c a with
 |none=>exact cf ((sd (p:=ZC) (cJ (aI (t:=.non) (u:=.non) rfl rfl rfl))).trans rfl)
 |some x=>
  refine cf ((sd (p:=ZD) (cJ (aI (t:=.int x) (u:=.non) rfl rfl rfl))).trans ((K1 (t:=.int x) rfl rfl).trans ?_))
  show Rs.ok (T.int (-x))=.ok (.int (0 - x))
  rw[Int.zero_sub]
def MU(o:Option Int):(oI o).pl=ZC:=by cases o <;> rfl
theorem De:∀{l:List T},(∀t∈l,t.nk D=ZC)->nks D l=ZC
 |[],_=>rfl
 |t::l,h=>by unfold nks;rw[h t PB,De λu hu=>h u (Pw _ hu)];rfl
variable{f:Y2}
def mU{t:T}{i:Int}(n:Nat)(h:f Z=.ok (.tup l))(e:l[n]?=ZA t)(hi:autoParam (i=(n:Nat)) u_):o2 aR f (cn (.int i)) Z=.ok t:=by subst hi;exact ri h rfl e
def mn9(x:Int):Int:=if x<999 then x else 999
def Nf(x:Int):G0 [.int x,.int 999]=.ok (.int (mn9 x)):=by
 show Rs.ok (T.int (if (999:Int)<x then 999 else x))=_
 unfold mn9
 congr 2
 split <;> split <;> omega
def LI(o:Option Int):T:=match o with
 |some x=>if 999<x then .non else .int x
 |none=>.non
def LH{o:Option Int}(h:f Z=.ok (oI o)):Ff (qH (tb (o2 kz f (cn .non))) (tb (o2 NK f (cn (.int 999))))) (cn .non) f Z=.ok (LI o):=by
 cases o with
 |none=>exact(sd (p:=ZC) (Iu (cJ (aI (t:=.non) (u:=.non) h rfl rfl)))).trans rfl
 |some x=>
  have c:qH (tb (o2 kz f (cn .non))) (tb (o2 NK f (cn (.int 999)))) Z=.ok (decide (999<x)):=Iv (cJ (aI (t:=.int x) (u:=.non) h rfl rfl)) (cJ (aI (t:=.int x) (u:=.int 999) h rfl rfl));rw[sd c];unfold LI
  by_cases hx:999<x
  ·simp only[hx,decide_true,if_true];rfl
  ·simp only[hx,decide_false,if_false];rw[if_neg (by decide)];exact h
def jc(f:fI N2)(a c:N2):T:=.tup [LR (f c a),oI (f a c)]
def Dh(f:fI N2)(a c:N2)(d:Int):T:=.tup [en a,en c,.int (mn9 (0 - d)),LI (f a c)]
def JZ(o:Option Int):(LR o).pl=ZC:=by cases o <;> rfl
def NW(o:Option Int):(oI o).dep=0:=by cases o <;> rfl
def Lw(o:Option Int):(LR o).dep=0:=by cases o <;> rfl
def Mj(f:fI N2)(a c:N2):(jc f a c).pl=ZC/\(jc f a c).dep<=5:=by
 refine⟨?_,?_⟩
 ·unfold jc;rw[eG];simp[plS,JZ,MU]
 ·simp[jc,T.dep,deps,NW,Lw]
def LG(o:Option Int):(LI o).pl=ZC/\(LI o).dep=0:=by
 unfold LI
 cases o with
 |none=>exact⟨rfl,rfl⟩
 |some x=>dsimp only;split <;> exact⟨rfl,rfl⟩
def Ku(f:fI N2)(a c:N2)(d:Int):(Dh f a c d).pl=ZC/\(Dh f a c d).dep<=5:=by
 have h:=LG (f a c);refine⟨?_,?_⟩
 ·unfold Dh;rw[eG];simp[plS,h.1,en,eG,T.pl]
 ·simp[Dh,T.dep,deps,h.2,en]
variable{x:N2×N2×Int}
def Lv{y:N2×N2×Int}(h:eB x=eB y):x=y:=by
 obtain⟨a,b,m⟩:=x;obtain⟨a',b',m'⟩:=y;unfold eB at h
 have h':=T.tup.inj h;simp only[List.cons.injEq,T.int.injEq,and_true]at h';rw[uN h'.1,uN h'.2.1,h'.2.2]
section
variable {f:fI N2}
def Rd.inL(R:Rd cs ls L P)(h:eB x∈LL cs ls):x∈L:=by
 rw[R.b]at h;obtain⟨y,hy,e⟩:=Qa.mp h;rw[<-Lv e];exact hy
def Rd.inP(R:Rd cs ls L P)(h:aw cs (en v)=ZC):v∈P:=by
 have:=mX h;rw[R.e]at this;obtain⟨u,hu,e⟩:=Qa.mp this;rw[<-uN e];exact hu
structure Ck (cs:List T)(i:Nat)(x y:Int)(r:List Int):Prop where
 at_:cs[i]?=ZA (.tup [.int x,.int y,.tup (r.map .int)])
 one:1<=r.length
 four:r.length<=4
def Rd.ckP(R:Rd cs ls L P){x:Int}(C:Ck cs i x y r)(hk:k<r.length):(⟨i,(k:Nat)⟩:N2)∈P:=by
 refine R.inP (nv (uB (cs:=cs) (i:=0) (QQ _) ?_ ?_))
 ·have:=(PM.mp C.at_).1;omega
 ·rw[UF,Td,C.at_]
  show k<(r.map T.int).length
  rw[Py];exact hk
def Rd.span(R:Rd cs ls L P)(n:fJ L)(F:nE L P f)(ha:a∈P)(hc:c∈P):cm [(RR cs ls),en a,en c]=.ok (jc f a c):=by
 refine bA rfl ?_
 show gx [.va (RR cs ls),.va (en a),.va (en c)]=_
 unfold gx;exact cf (p2 (aQ (ts:=[(RR cs ls),en a,en c]) rfl (R.O8 n F ha hc)) (aQ (ts:=[(RR cs ls),en a,en c]) rfl (R.O4 n F ha hc)))
def rL(f:fI N2)(i m:Nat):List T:=(Q2 (m - 1)).map λk=>jc f ⟨i,(k:Nat)⟩ ⟨i,((k+1:Nat):Int)⟩
def pT{t:T}(ht:t.pl=ZC)(h:aY t 0 ((n:Int) - 1)=ZC):bu [.int (n:Nat),t]=.ok .non:=by
 refine qd (Z:=[.va (.int (n:Nat)),.va t]) rfl ?_
 show dO [.va (.int (n:Nat)),.va t]=_
 unfold dO;exact(fH ((qg (k:=ZC) (cJ (aQ (ts:=[t,.int 0,.int ((n:Int) - 1)]) rfl (by rw[eR t _ _ ht,h])))))).trans rfl
def A9{t:T}(ht:t.pl=ZC)(h:aY t 0 ((n:Int) - 1)=ZD):bu [.int (n:Nat),t]=.err "NoNumber":=by
 refine qe rfl ?_
 show dO [.va (.int (n:Nat)),.va t]=_
 unfold dO;exact(gJ ((qg (k:=ZD) (cJ (aQ (ts:=[t,.int 0,.int ((n:Int) - 1)]) rfl (by rw[eR t _ _ ht,h])))))).trans rfl
def w_at(h:k<n):aY (.int (k:Nat)) 0 ((n:Int) - 1)=ZC:=by
 show(decide ((0:Int)<=k)&&decide ((k:Int)<=n - 1))=ZC
 rw[decide_eq_true (by omega),decide_eq_true (by omega)];rfl
def Ji{t:T}(h0:vr 0 Z=.ok (RR cs ls))(h1:vr 1 Z=.ok t){x:Rs T}(h:bu [.int (cs.length:Nat),t]=x):cl bu (ae (cl cQ (ae (o2 aR (vr 0) (cn (.int 0))) ai)) (ae (vr 1) ai)) Z=x:=
 aQ (ts:=[.int (cs.length:Nat),t]) (au (aQ (ts:=[.tup cs]) (au (mU 0 h0 rfl) rfl) rfl) (au h1 rfl)) h
def Rd.spans(R:Rd cs ls L P)(n:fJ L)(F:nE L P f){x:Int}(C:Ck cs i x y r):kf [(RR cs ls),.int (i:Nat)]=.ok (.lst (rL f i r.length)):=by
 refine bA rfl ?_
 show u6 [.va (RR cs ls),.va (.int (i:Nat)),.em]=_
 unfold u6
 have hi:=(PM.mp C.at_).1
 rw[aB (ir (t:=.non) (aQ (ts:=[(RR cs ls)]) rfl (dv R.g.p R.g.ok)))];rw[aB (ir (t:=.non) (Ji (cs:=cs) (ls:=ls) rfl rfl (pT rfl (w_at hi))))];rw[aB (ir (t:=.non) (aQ (ts:=[(RR cs ls)]) rfl (R.OV n)))]
 have e3:o2 aR (o2 aR (o2 aR (vr 0) (cn (.int 0))) (vr 1)) (cn (.int 2)) [.va (RR cs ls),.va (.int (i:Nat)),.em]=.ok (.tup (r.map .int)):=
  mU 2 (ri (mU 0 rfl rfl) rfl C.at_) rfl
 rw[aB (Z':=[.va (RR cs ls),.va (.int (i:Nat)),.va (.int (r.length:Nat))]) (cO (aQ (ts:=[.tup (r.map .int)]) (au e3 rfl) (by show Rs.ok (T.int ((r.map T.int).length:Nat))=_;rw[Py])) rfl)]
 have e4:=iR2 (f:=ae (cn (.int 1)) (ae (vr 2) ai)) (Z:=[.va (RR cs ls),.va (.int (i:Nat)),.va (.int (r.length:Nat))]) (i:=1) (j:=(r.length:Nat)) rfl (by omega) (by omega) (by omega) (by have:=C.four;omega)
 rw[F1 _ C.one]at e4;refine cf ?_
 have lc:=mT (src:=[ZB,ZA 0,ZA 1]) (fe:=cl cm (ae (vr 1) (ae (ba (ae (vr 2) (ae (o2 iC (vr 0) (cn (.int 1))) ai))) (ae (ba (ae (vr 2) (ae (vr 0) ai))) ai)))) (h:=λt=>match t with
  |.int k=>jc f ⟨i,k - 1⟩ ⟨i,k⟩
  |_=>.non) e4 (aD (k:=4) (by rw[Py,Sn];have:=C.four;omega)) (by simp) λt ht=>by
   obtain⟨k,hk,rfl⟩:=Qa.mp ht
   have hk:=Ro.mp hk
   show _=Rs.ok (jc f ⟨i,((k+1:Nat):Int) - 1⟩ ⟨i,((k+1:Nat):Int)⟩)
   rw[show((k+1:Nat):Int) - 1=(k:Nat)by omega]
   exact aQ (ts:=[(RR cs ls),en ⟨i,(k:Nat)⟩,en ⟨i,((k+1:Nat):Int)⟩]) (au rfl (au (p2 rfl (aI (t:=.int ((k+1:Nat):Int)) (u:=.int 1) rfl rfl (by show Rs.ok (T.int (((k+1:Nat):Int) - 1))=_;rw[show((k+1:Nat):Int) - 1=(k:Nat)by omega]))) (au (p2 rfl rfl) rfl))) (R.span n F (R.ckP C (by omega)) (R.ckP C (by omega)))
 rw[lc,SL];unfold rL;refine congrArg (λl=>Rs.ok (T.lst l)) (Q4 λk _=>?_)
 show jc f ⟨i,((k+1:Nat):Int) - 1⟩ ⟨i,((k+1:Nat):Int)⟩=_
 rw[show((k+1:Nat):Int) - 1=(k:Nat)by omega]
def Rd.nar(R:Rd cs ls L P)(n:fJ L)(F:nE L P f)(ha:a∈P)(hc:c∈P)(x y:T)(hd:f c a=ZA d):bF [(RR cs ls),.tup [en a,en c,x,y]]=.ok (Dh f a c d):=by
 refine bA rfl ?_
 show eV [.va (RR cs ls),.va (.tup [en a,en c,x,y]),.em,.em]=_
 unfold eV;rw[aB (Z':=[.va (RR cs ls),.va (.tup [en a,en c,x,y]),.va (jc f a c),.em]) (cO (aQ (ts:=[(RR cs ls),en a,en c]) (au rfl (au (mU 0 rfl rfl) (au (mU 1 rfl rfl) rfl))) (R.span n F ha hc)) rfl)];rw[aB (Z':=[.va (RR cs ls),.va (.tup [en a,en c,x,y]),.va (jc f a c),.va (LI (f a c))]) (cO (LH (f:=o2 aR (vr 2) (cn (.int 1))) (mU 1 rfl rfl)) rfl)];refine cf (cx (au (mU 0 rfl rfl) (au (mU 1 rfl rfl) (au (aQ (ts:=[.int (0 - d),.int 999]) (au (mU (l:=[LR (f c a),oI (f a c)]) 0 rfl (by rw[hd];rfl)) rfl) (Nf _)) rfl))) (aD (k:=4) (by simp)))
def Rd.Pp(R:Rd cs ls L P){t:T}(ht:t∈ls):∃a c x y,t=.tup [en a,en c,x,y]/\a∈P/\c∈P/\∃m,(c,a,m)∈L:=by
 obtain⟨a,b,mo,le,rfl,ea,eb⟩:=jH (R.g.l t ht);obtain⟨c1,k1,rfl⟩:=aJ ea;obtain⟨c2,k2,rfl⟩:=aJ eb;refine⟨⟨c1,k1⟩,⟨c2,k2⟩,.int le,mo,rfl,R.inP ea,R.inP eb,-le,R.inL (Qd _ (Vf.mpr ⟨_,ht,?_⟩))⟩
 exact PB
def LQ(R:T)(t:T):T:=okv (bF [R,t])
def wa(hR:R=(RR cs ls))(hl:ls.length<=8)(h:bY [R]=.ok .non)(hn:∀t∈ls,∃z,bF [R,t]=.ok z):dX [R]=.ok (.tup [.tup cs,.tup (ls.map (LQ R))]):=by
 subst hR;refine bA rfl ?_
 show lz [.va (RR cs ls)]=_
 unfold lz;rw[aB (ir (t:=.non) (aQ (ts:=[(RR cs ls)]) rfl h))];refine cf (p2 (mU 0 rfl rfl) (aQ (au (mT (h:=LQ (RR cs ls)) (NB (mU 1 rfl rfl)) (aD (k:=8) hl) (by simp) λt ht=>?_) rfl) rG))
 obtain⟨z,hz⟩:=hn t ht;refine(aQ (ts:=[(RR cs ls),t]) rfl hz).trans ?_
 unfold LQ;rw[hz];rfl
end
def Ek{t:T}(hp:t.pl=ZC)(h:dJ t=ZC):c6 [t]=.ok t:=by
 refine bA rfl ?_
 show fK [.va t]=_
 unfold fK;rw[aB (ir (t:=.non) (aQ (ts:=[t]) rfl (dv hp h)))];exact cf rfl
def El{t:T}(hp:t.pl=ZC)(h:dJ t=ZD):c6 [t]=.err "NoRecord":=by
 refine qe rfl ?_
 show fK [.va t]=_
 unfold fK;exact DD (Iz (aQ (ts:=[t]) rfl (A8 hp h)))
def mr(t:T):Rs T:=if dJ t then .ok t else .err "NoRecord"
def Ai{t:T}(hp:t.pl=ZC):c6 [t]=mr t:=by
 unfold mr
 cases h:dJ t with
 |true=>exact Ek hp h
 |false=>exact El hp h
def tQ{t:T}(h:f Z=mr t):aM f Z=(if dJ t then .ok (.rt t)else .err "NoRecord"):=by
 unfold mr at h
 cases q:dJ t with
 |true=>rw[q]at h;exact cf h
 |false=>rw[q]at h;exact KU h
variable{ts:List T}
def tp{m:Nat}{F:Y1}{t:T}(hl:ts.length=n)(h:F (aT m ts)=(if dJ t then .ok (.rt t)else .err "NoRecord")):val n m F ts=mr t:=by
 unfold mr
 cases q:dJ t with
 |true=>rw[q]at h;exact bA hl h
 |false=>rw[q]at h;exact qe hl h
variable{a b:T}
def j0(ha:a.pl=ZC)(hb:b.pl=ZC):(T.tup [a,b]).pl=ZC:=by simp[T.pl,plS,ha,hb]
def tW{m:List T}(h1:(T.tup l).pl=ZC)(h2:(T.tup m).pl=ZC):(T.tup (l++m)).pl=ZC:=by
 rw[eG]at*;exact eI λt ht=>(PZ.mp ht).elim (fW h1) (fW h2)
def Good.pls(g:Good cs ls):(T.tup ls).pl=ZC:=by rw[eG];exact eI g.parts.2
def lM{t:T}(hc:(T.tup cs).pl=ZC)(hl:(T.tup ls).pl=ZC)(hn:ls.length<=20)(ht:t.pl=ZC)(ok:dJ (RR cs ls)=ZC):b7 [RR cs ls,t]=mr (.tup [.tup cs,.tup (ls++[t])]):=by
 refine tp rfl ?_
 show gU [.va (RR cs ls),.va t]=_
 unfold gU;rw[aB (ir (t:=.non) (aQ (ts:=[RR cs ls]) rfl (dv (j0 hc hl) ok)))];refine tQ (aQ (ts:=[.tup [.tup cs,.tup (ls++[t])]]) (au (cx (au (t:=.tup cs) rfl (au (t:=.tup (ls++[t])) (aI (t:=.tup ls) (u:=.tup [t]) rfl (cx rfl (aD (k:=1) (by simp))) (kq _ _ (by simp;omega))) rfl)) (aD (k:=2) (by simp))) rfl) (Ai (j0 hc (tW hl (by simp[T.pl,plS,ht])))))
variable{g:Y2}
def EC(h:f Z=.ok (.tup l))(hg:g Z=.ok (.int n)):sl f pN (pS g) Z=.ok (.tup (l.take n)):=by
 rw[<-ED];exact Nr h rfl (KY hg)
def LB(h:f Z=.ok (.tup l))(hg:g Z=.ok (.int n)):sl f (pS g) pN Z=.ok (.tup (l.drop n)):=by
 rw[<-xg];exact Nr h (KY hg) rfl
def An(h:f Z=.ok (.tup l))(hg:g Z=.ok (.int n)):sl f (pS (o2 aS g (cn (.int 1)))) pN Z=.ok (.tup (l.drop (n+1))):=
 LB h (aI (t:=.int n) (u:=.int 1) hg rfl rfl)
def x9(l:List T)(n:Nat):List T:=l.take n++l.drop (n+1)
def ua(l:List T)(n:Nat):(x9 l n).length<=l.length:=by unfold x9;rw[PK,Ri,R1];omega
def A0(g:Good cs ls)(hn:n<ls.length):bz [RR cs ls,.int n]=.ok (.tup [.tup cs,.tup (x9 ls n)]):=by
 have hl:=g.n;refine bA rfl ?_
 show cZ [.va (RR cs ls),.va (.int n),.em]=_
 unfold cZ;rw[aB (ir (t:=.non) (aQ (ts:=[RR cs ls]) rfl (dv g.p g.ok)))];rw[aB (Z':=[.va (RR cs ls),.va (.int n),.va (.tup ls)]) ((cO (t:=.tup ls) rfl rfl))]
 have w:aY (.int n) 0 ((ls.length:Int) - 1)=ZC:=by unfold aY;simp;omega
 rw[aB (ir (t:=.non) (aQ (ts:=[.int (ls.length:Int),.int n]) rfl (pT rfl w)))];exact cf (cx (au (t:=.tup cs) rfl (au (t:=.tup (x9 ls n)) (aI (t:=.tup (ls.take n)) (u:=.tup (ls.drop (n+1))) (EC rfl rfl) (An rfl rfl) (kq _ _ (by have:=ua ls n;unfold x9 at this;omega))) rfl)) (aD (k:=2) (by simp)))
def kX(l:List T)(n:Nat)(c:T):List T:=(l.take n++[c])++l.drop (n+1)
def Gu(l:List T)(n:Nat)(c:T):(kX l n c).length<=l.length+1:=by unfold kX;rw[PK,PK,Ri,R1];simp;omega
variable{c:T}
def CB(h:(T.tup l).pl=ZC)(hc:c.pl=ZC):(T.tup (kX l n c)).pl=ZC:=by
 rw[eG]at*;refine eI λt ht=>?_
 unfold kX at ht;rcases PZ.mp ht with ht|ht
 ·rcases PZ.mp ht with ht|ht
  ·exact fW h (Uc ht)
  ·cases PL.mp ht;exact hc
 ·exact fW h (Ud ht)
def KW{h:Y2}(hl:l.length<=100)(hf:f Z=.ok (.tup l))(hg:g Z=.ok (.int n))(hc:h Z=.ok c):
  o2 aS (o2 aS (sl f pN (pS g)) (ba (ae h ai))) (sl f (pS (o2 aS g (cn (.int 1)))) pN) Z=.ok (.tup (kX l n c)):=by
 have:=Gu l n c;refine aI (t:=.tup (l.take n++[c])) (u:=.tup (l.drop (n+1))) (aI (t:=.tup (l.take n)) (u:=.tup [c]) (EC hf hg) (cx (au hc rfl) (aD (k:=1) (by simp))) (kq _ _ (by simp;omega))) (An hf hg) (kq _ _ (by unfold kX at this;omega))
def vP(g:Good cs ls)(hc:c.pl=ZC):fX [RR cs ls,.int n,c]=mr (.tup [.tup (kX cs n c),.tup ls]):=by
 obtain⟨_,_,h4⟩:=bf g.c;refine tp rfl ?_
 show iU [.va (RR cs ls),.va (.int n),.va c,.em]=_
 unfold iU;rw[aB (Z':=[.va (RR cs ls),.va (.int n),.va c,.va (.tup cs)]) (cO (t:=.tup cs) rfl rfl)];exact tQ (aQ (ts:=[.tup [.tup (kX cs n c),.tup ls]]) (au (cx (au (t:=.tup (kX cs n c)) (KW (by omega) rfl rfl rfl) (au (t:=.tup ls) rfl rfl)) (aD (k:=2) (by simp))) rfl) (Ai (j0 (CB g.parts.1 hc) g.pls)))
def w_in{m:Nat}(h:n<m):aY (.int n) 0 ((m:Int) - 1)=ZC:=by unfold aY;simp;omega
def qo(g:Good cs ls)(hn:n<cs.length):∃(x y:Int)(r:List Int),cs[n]?=ZA (.tup [.int x,.int y,.tup (r.map .int)])/\1<=r.length/\r.length<=4:=by
 obtain⟨hc,_,h4⟩:=bf g.c;obtain⟨x,y,r,e,_,_,h1,h2⟩:=fq (hc _ (QU hn));exact⟨x,y,r,by rw[P5 hn,e],h1,h2⟩
variable{x:T}
def kH{y u:T}{r:List T}(g:Good cs ls)(hn:n<cs.length)(e:cs[n]?=ZA (.tup [x,y,.tup r]))(hr:r.length<=4)(hx:x.pl=ZC)(hy:y.pl=ZC)(hp:(T.tup r).pl=ZC)(hu:u.pl=ZC):
  bR [RR cs ls,.int n,u]=mr (.tup [.tup (kX cs n (.tup [x,y,.tup (r++[u])])),.tup ls]):=by
 refine tp rfl ?_
 show gw [.va (RR cs ls),.va (.int n),.va u,.em]=_
 unfold gw;rw[aB (ir (t:=.non) (aQ (ts:=[RR cs ls]) rfl (dv g.p g.ok)))];rw[aB (ir (t:=.non) (aQ (ts:=[.int (cs.length:Int),.int n]) rfl (pT rfl (w_in hn))))];rw[aB (Z':=[.va (RR cs ls),.va (.int n),.va u,.va (.tup [x,y,.tup r])]) (cO (t:=.tup [x,y,.tup r]) (ri (n:=n) (l:=cs) rfl rfl e) rfl)];refine tQ (aQ (ts:=[RR cs ls,.int n,.tup [x,y,.tup (r++[u])]]) (au rfl (au rfl (au (cx (au (t:=x) rfl (au (t:=y) rfl (au (t:=.tup (r++[u])) (aI (t:=.tup r) (u:=.tup [u]) rfl (cx rfl (aD (k:=1) (by simp))) (kq _ _ (by simp;omega))) rfl))) (aD (k:=3) (by simp))) rfl))) (vP g ?_))
 have:=tW hp (m:=[u]) (by simp[T.pl,plS,hu])
 simp[T.pl,plS,hx,hy]at this ⊢;exact this
def iQ(h:∀t∈l,t.dep<=n):(T.tup l).dep<=n+1:=by unfold T.dep;have:=oO h;omega
def BA(h:bj c=ZC):c.dep<=2:=by
 obtain⟨x,y,r,rfl,_⟩:=fq h;refine iQ λt ht=>?_
 simp only[PJ,Ra,or_false]at ht;rcases ht with rfl|rfl|rfl
 ·simp[T.dep]
 ·simp[T.dep]
 ·exact iQ (n:=0) λt ht=>by obtain⟨i,_,rfl⟩:=Qa.mp ht;simp[T.dep]
def yy{t:T}(h:bp cs t=ZC):t.dep<=2:=by
 obtain⟨a,b,x,y,rfl,hd,ha,hb,_⟩:=da h;obtain⟨m1,m2⟩:=Nd h
 have:=(wW ha).2
 have:=(wW hb).2
 have hx:x.dep<=2:=by
  unfold dI at hd;rw[PC]at hd;obtain⟨i,rfl,_⟩:=cM hd.1;simp[T.dep]
 unfold T.dep deps deps deps deps deps;obtain⟨a',b',mo,le,e,_⟩:=jH h;cases e;simp only[T.dep];omega
def tS(g:Good cs ls):(T.tup cs).dep<=3/\(T.tup ls).dep<=3:=⟨iQ λt ht=>BA ((bf g.c).1 t ht),iQ λt ht=>yy (g.l t ht)⟩
def zo(h:dJ (RR cs ls)=ZC)(hp:(RR cs ls).pl=ZC):Good cs ls:=by
 have h':(aZ (.tup cs)&&(dB (.tup ls) 0 8&&ls.all (bp cs)))=ZC:=h;rw[PC,PC,Qk]at h';exact⟨h'.1,h'.2.2,by have:=h'.2.1;simp[dB]at this;exact this,hp⟩
def mL(h:∀t∈l,t.nk D=ZC):(T.tup l).nk D=ZC:=by unfold T.nk;exact De h
def EG(h:bj c=ZC):c.nk ZD=ZC:=by
 obtain⟨x,y,r,rfl,_⟩:=fq h;refine mL λt ht=>?_
 simp at ht
 rcases ht with rfl|rfl|rfl
 ·rfl
 ·rfl
 ·exact mL λu hu=>by obtain⟨k,_,rfl⟩:=Qa.mp hu;rfl
def wU{t:T}(h:aw cs t=ZC):t.nk ZD=ZC:=by
 obtain⟨c,k,rfl⟩:=aJ h;rfl
def Bg{t:T}(h:bp cs t=ZC):t.nk ZD=ZC:=by
 obtain⟨a,b,x,y,rfl,hd,ha,hb,_⟩:=da h;unfold dI at hd;rw[PC]at hd;obtain⟨i,rfl,_⟩:=cM hd.1;refine mL λt ht=>?_
 simp at ht
 rcases ht with rfl|rfl|rfl|rfl
 ·exact wU ha
 ·exact wU hb
 ·rfl
 ·have:=hd.2
  cases t <;> first|rfl|simp[aY]at this
def GR(r:T):Prop:=∃cs ls,r=RR cs ls/\Good cs ls
variable{r:T}
def GR.pl(h:GR r):r.pl=ZC:=by obtain⟨cs,ls,rfl,g⟩:=h;exact g.p
def GR.nk(h:GR r):r.nk ZD=ZC:=by
 obtain⟨cs,ls,rfl,g⟩:=h;refine mL λt ht=>?_
 simp at ht
 rcases ht with rfl|rfl
 ·exact mL λc hc=>EG ((bf g.c).1 c hc)
 ·exact mL λu hu=>Bg (g.l u hu)
def GR.dep(h:GR r):r.dep<=4:=by
 obtain⟨cs,ls,rfl,g⟩:=h;refine iQ λt ht=>?_
 simp at ht
 rcases ht with rfl|rfl
 ·exact(tS g).1
 ·exact(tS g).2
def GR.hw(h:GR r):∃b,a7 [r]=.ok (.bl b):=by
 obtain⟨cs,ls,rfl,g⟩:=h;obtain⟨L,P,R⟩:=vN g;obtain⟨b,e,_⟩:=R.O9;exact⟨b,e⟩
def GR.need(h:GR r):aG [r]=.ok .non:=by
 obtain⟨cs,ls,rfl,g⟩:=h;exact dv g.p g.ok
def GR.of(hp:(RR cs ls).pl=ZC)(h:dJ (RR cs ls)=ZC):GR (RR cs ls):=⟨cs,ls,rfl,zo h hp⟩
abbrev sp(w r:T):T:=.tup [w,r]
abbrev SK(P A:List T):OT:=.ob "Sketch" ["past","ahead"] [P,A]
abbrev SV(P A:List T):T:=.ob "Sketch" ["past","ahead"] [.lst P,.lst A]
def DO(l:List T)(z:T):aR (.lst (l++[z])) (.int (-1))=.ok z:=by
 have:=uF l z;exact this
def uI(P A:α):kA "past" ["past","ahead"] [P,A]=ZA P:=by unfold kA;rw[if_pos rfl]
def Ac(P A:α):kA "ahead" ["past","ahead"] [P,A]=ZA A:=by unfold kA;rw[if_neg (by decide)];unfold kA;rw[if_pos rfl]
def J8(P A Q:List T):jM "past" Q ["past","ahead"] [P,A]=[Q,A]:=by unfold jM;rw[if_pos rfl]
def GH(P A Q:List T):jM "ahead" Q ["past","ahead"] [P,A]=[P,Q]:=by unfold jM;rw[if_neg (by decide)];unfold jM;rw[if_pos rfl]
def IF(P A:List T)(w r:T):aE [SV (P++[sp w r]) A]=.ok r:=
 bA rfl (cf (aI (aI (wI (ns:=["past","ahead"]) (ts:=[.lst (P++[sp w r]),.lst A]) rfl (uI _ _)) (K1 rfl rfl) (DO P (sp w r))) rfl (Iy (n:=1) rfl)))
def w8(P A:List T):bh [SV P A]=.ok (.tup [.int ((P.length:Int) - 1),.int (A.length:Nat)]):=by
 refine bA rfl (cf (cx (ts:=[.int ((P.length:Int) - 1),.int (A.length:Nat)]) (au (aI (t:=.int (P.length:Nat)) (u:=.int 1) (aQ (ts:=[.lst P]) (au (wI (ns:=["past","ahead"]) (ts:=[.lst P,.lst A]) rfl (uI _ _)) rfl) rfl) rfl rfl) (au (aQ (ts:=[.lst A]) (au (wI (ns:=["past","ahead"]) (ts:=[.lst P,.lst A]) rfl (Ac _ _)) rfl) rfl) rfl)) (aD (k:=2) (by simp))))
def Ej(h:GR r):cH [.ow (.ob "Sketch" [] []),.va r]=.ok (.non,SK [sp .non r] []):=by
 refine zZ (Z:=[.ow (SK [sp .non r] []),.va r]) rfl ?_ rfl
 show eZ [.ow (.ob "Sketch" [] []),.va r]=_
 unfold eZ;refine jJ (Z':=[.ow (.ob "Sketch" [] []),.va r]) (wH (t:=.non) (Bk (aQ (ts:=[r]) rfl h.need))) ?_
 refine jJ (Z':=[.ow (.ob "Sketch" ["past"] [[sp .non r]]),.va r]) ((yD (c:="Sketch") (ns:=[]) (ls:=[]) (l:=[sp .non r]) rfl (au (cx rfl (aD (k:=2) (by simp))) rfl) (by simp) (by simp)).trans rfl) ?_
 refine(yD (c:="Sketch") (ns:=["past"]) (ls:=[[sp .non r]]) (l:=[]) rfl rfl (by simp) (by simp)).trans ?_
 rw[if_neg (by decide)];rfl
variable{A P:List T}
def e_go{w:Str}{b:Bool}(hb:a7 [r]=.ok (.bl b))(hl:P.length<=1000):bw [.ow (SK P A),.va (.str w),.va r]=.ok (.bl b,SK (P++[sp (.str w) r]) []):=by
 refine qf (Z:=[.ow (SK (P++[sp (.str w) r]) []),.va (.str w),.va r]) rfl ?_ rfl
 show gA [.ow (SK P A),.va (.str w),.va r]=_
 unfold gA;refine jJ (Z':=[.ow (SK (P++[sp (.str w) r]) A),.va (.str w),.va r]) (wH (t:=.non) ((KS (ns:=["past","ahead"]) (ls:=[P,A]) (l:=P) (t:=sp (.str w) r) rfl (uI _ _) (cx rfl (aD (k:=2) (by simp))) hl).trans (by rw[J8];rfl))) ?_
 refine jJ (Z':=[.ow (SK (P++[sp (.str w) r]) []),.va (.str w),.va r]) ((yD (c:="Sketch") (ns:=["past","ahead"]) (ls:=[P++[sp (.str w) r],A]) (l:=[]) rfl rfl (by simp) (by simp)).trans (by rw[if_pos (by decide),GH];rfl)) ?_
 exact DH (Bk (aQ (ts:=[r]) rfl hb))
variable{d:Str}{w:T}
section
variable {r' t u:T}{X:Y2}{v:Str}
def nt(hi:Z[i]?=ZA (.ow (SK (P++[sp w r]) A)))(h:GR r):ln i (nj "Sketch" "record" aE (vr i) ai) Z=.ok r:=by
 have hl:i<Z.length:=(PM.mp hi).1
 refine DK hi (DF (c:="Sketch") (ns:=["past","ahead"]) (ts:=[.lst (P++[sp w r]),.lst A]) (Np ?_) (by decide) rfl (IF P A w r)) h.nk
 unfold disown;rw[hi];simp[hl];rfl
def NG(hi:Z[i]?=ZA (.ow (SK P A))):ln i (nj "Sketch" "counts" bh (vr i) ai) Z=.ok (.tup [.int ((P.length:Int) - 1),.int (A.length:Nat)]):=by
 have hl:i<Z.length:=(PM.mp hi).1
 refine DK hi (DF (c:="Sketch") (ns:=["past","ahead"]) (ts:=[.lst P,.lst A]) (Np ?_) (by decide) rfl (w8 P A)) rfl
 unfold disown;rw[hi];simp[hl];rfl
def K4(hi:Z[0]?=ZA (.ow (SK P A)))(hx:X Z=.ok r')(h:GR r')(hl:P.length<=1000):∃b,lS (d7 0 "Sketch" "go_on" bw (ae (cn (.str v)) (ae X ai))) Z=.ok (.rt (.bl b) (Z.set 0 (.ow (SK (P++[sp (.str v) r']) [])))):=by
 obtain⟨b,hb⟩:=h.hw;exact⟨b,DH (oy (ns:=["past","ahead"]) (ls:=[P,A]) (ts:=[.str v,r']) hi (by decide) (au rfl (au hx rfl)) (e_go hb hl))⟩
def DL(hi:Z[0]?=ZA (.ow (SK P A)))(hx:X Z=.err d):lS (d7 0 "Sketch" "go_on" bw (ae (cn (.str v)) (ae X ai))) Z=.err d:=by
 refine Hd (DB (ns:=["past","ahead"]) (ls:=[P,A]) hi (by decide) ?_)
 unfold ae;rw[show cn (.str v) Z=.ok (.str v)from rfl,ax,hx];rfl
def Hn(h:GR r)(hl:(P++[sp w r]).length<=1000)(hx:b7 [r,t]=.ok r')(h':GR r'):∃b,bH [.ow (SK (P++[sp w r]) A),.va t]=.ok (.bl b,SK (P++[sp w r] ++[sp (.str "write") r']) []):=by
 obtain⟨b,hb⟩:=K4 (v:="write") (P:=P++[sp w r]) (A:=A) (Z:=[.ow (SK (P++[sp w r]) A),.va t]) (X:=cl b7 (ae (ln 0 (nj "Sketch" "record" aE (vr 0) ai)) (ae (vr 1) ai))) rfl (aQ (au (nt rfl h) rfl) hx) h' hl;exact⟨b,qf rfl hb rfl⟩
def wY(h:GR r)(hx:b7 [r,t]=.err d):bH [.ow (SK (P++[sp w r]) A),.va t]=.err d:=
 oA rfl (DL (P:=P++[sp w r]) (A:=A) (Z:=[.ow (SK (P++[sp w r]) A),.va t]) rfl (aQ (au (nt rfl h) rfl) hx))
def NV(h:GR r)(hl:(P++[sp w r]).length<=1000)(hx:bz [r,t]=.ok r')(h':GR r'):∃b,bZ [.ow (SK (P++[sp w r]) A),.va t]=.ok (.bl b,SK (P++[sp w r] ++[sp (.str "cut") r']) []):=by
 obtain⟨b,hb⟩:=K4 (v:="cut") (P:=P++[sp w r]) (A:=A) (Z:=[.ow (SK (P++[sp w r]) A),.va t]) (X:=cl bz (ae (ln 0 (nj "Sketch" "record" aE (vr 0) ai)) (ae (vr 1) ai))) rfl (aQ (au (nt rfl h) rfl) hx) h' hl;exact⟨b,qf rfl hb rfl⟩
def Ll(h:GR r)(hl:(P++[sp w r]).length<=1000)(hx:bR [r,t,u]=.ok r')(h':GR r'):∃b,bO [.ow (SK (P++[sp w r]) A),.va t,.va u]=.ok (.bl b,SK (P++[sp w r] ++[sp (.str "read") r']) []):=by
 obtain⟨b,hb⟩:=K4 (v:="read") (P:=P++[sp w r]) (A:=A) (Z:=[.ow (SK (P++[sp w r]) A),.va t,.va u]) (X:=cl bR (ae (ln 0 (nj "Sketch" "record" aE (vr 0) ai)) (ae (vr 1) (ae (vr 2) ai)))) rfl (aQ (au (nt rfl h) rfl) hx) h' hl;exact⟨b,qf rfl hb rfl⟩
def Ah(h:GR r)(hx:bR [r,t,u]=.err d):bO [.ow (SK (P++[sp w r]) A),.va t,.va u]=.err d:=
 oA rfl (DL (P:=P++[sp w r]) (A:=A) (Z:=[.ow (SK (P++[sp w r]) A),.va t,.va u]) rfl (aQ (au (nt rfl h) rfl) hx))
end
def Word(v:Str):Prop:=v= "write"\/v= "read"\/v= "cut"
def HK(P A:List T)(o:OT):Prop:=o=SK P A\/∃v r',Word v/\GR r'/\o=SK (P++[sp (.str v) r']) []
def yj(h:(T.tup l).pl=ZC):v8 (.tup l) (.tup [])=.ok (.bl (!l.isEmpty)):=by
 unfold v8;rw[if_pos (D9 (by simp[T.dep,deps]) (T.KM _ h) rfl)]
 cases l <;> rfl
def zJ{t:T}(h:t∈x9 l n):t∈l:=by
 unfold x9 at h;rcases PZ.mp h with h|h
 ·exact Uc h
 ·exact Ud h
def Lj(ns:List Int)(hn:ns.length<=63)(a:Nat)(h:GR r)(hl:(P++[sp w r]).length<=1000):
  ∃o,c7 [.va (.scr ns),.va (.int a),.ow (SK (P++[sp w r]) A)]=.ok (.non,o)/\HK (P++[sp w r]) A o:=by
 have hG:=h;obtain⟨cs,ls,rfl,g⟩:=h
 have hcl:=bf g.c;obtain⟨d1,e1,p1,q1⟩:=cK ns a 4 hn (by omega)
 obtain⟨t5,e5,h5⟩:=sA ns hn (a+1) cs g.c;obtain⟨d2,e2,p2,q2⟩:=cK ns (a+7) (cs.length:Int) hn (by omega)
 obtain⟨d1,rfl⟩:=Qi p1;obtain⟨d2,rfl⟩:=Qi p2
 let o0:OT:=SK (P++[sp w (RR cs ls)]) A
 let E:OT->En:=λo=>[.va (.scr ns),.va (.int a),.ow o,.va (RR cs ls),.va (.int d1),.va t5,.va (.int d2)]
 have key:∀k,pW stB (uH "NoRecord" .non) (E o0)=.ok k->jV [.va (.scr ns),.va (.int a),.ow o0,.em,.em,.em,.em]=.ok k:=λk hk=>by
  unfold jV;refine jJ (z4 (t:=RR cs ls) (Bk (nt rfl hG)) (by simp)) ?_
  refine jJ (z4 (t:=.int d1) (Bk (aQ (ts:=[.scr ns,.int (a:Nat),.int 4]) rfl e1)) (by simp)) ?_
  refine jJ (z4 (t:=t5) (Bk (aQ (ts:=[.scr ns,.int ((a+1:Nat):Int),.tup cs]) rfl e5)) (by simp)) ?_
  refine jJ (z4 (t:=.int d2) (Bk (aQ (ts:=[.scr ns,.int ((a+7:Nat):Int),.int (cs.length:Nat)]) rfl e2)) (by simp)) ?_
  exact hk
 have done:∀o,pW stB (uH "NoRecord" .non) (E o0)=.ok (.nx (E o))->c7 [.va (.scr ns),.va (.int a),.ow o0]=.ok (.non,o):=λo hk=>zZ (Z:=E o) rfl (key _ hk) rfl
 have gone:pW stB (uH "NoRecord" .non) (E o0)=.ok (.rt .non (E o0))->c7 [.va (.scr ns),.va (.int a),.ow o0]=.ok (.non,o0):=λhk=>qf (Z:=E o0) rfl (key _ hk) rfl
 have c1:tb (o2 kn (vr 4) (cn (.int 0))) (E o0)=.ok ((d1:Int) == 0):=cJ (aI rfl rfl (eq_int _ _))
 have c2:tb (o2 v8 (o2 aR (vr 3) (cn (.int 1))) (ba ai)) (E o0)=.ok (!ls.isEmpty):=cJ (aI (t:=.tup ls) (u:=.tup []) (ri (n:=1) (l:=[.tup cs,.tup ls]) rfl rfl rfl) (cx rfl (aD (k:=1) (by simp))) (yj g.pls))
 by_cases hc:d1=0/\ls≠ []
 ·obtain⟨hd,hls⟩:=hc
  have hlen:0<ls.length:=List.length_pos_iff.mpr hls;obtain⟨d3,e3,p3,q3⟩:=cK ns (a+8) (ls.length:Int) hn (by omega)
  obtain⟨d3,rfl⟩:=Qi p3
  have h3:d3<ls.length:=by omega
  obtain⟨b,hb⟩:=NV (P:=P) (A:=A) (w:=w) (t:=.int d3) hG hl (A0 g h3) ⟨cs,_,rfl,g.sub (λt ht=>zJ ht) (Qn (ua _ _) g.n)⟩
  refine⟨_,done _ (uE ((gI (k:=ZC) ?_).trans (wH (oy (c:="Sketch") (ns:=["past","ahead"]) (ls:=[P++[sp w (RR cs ls)],A]) (ts:=[.int d3]) rfl (by decide) (au (aQ (ts:=[.scr ns,.int ((a+8:Nat):Int),.int (ls.length:Nat)]) rfl e3) rfl) hb)))),.inr ⟨"cut",_,.inr (.inr rfl),⟨cs,_,rfl,g.sub (λt ht=>zJ ht) (Qn (ua _ _) g.n)⟩,rfl⟩⟩
  refine yE (c1.trans (by rw[hd];rfl)) (c2.trans ?_)
  cases ls
  ·exact absurd rfl hls
  ·rfl
 ·have cA:kC (tb (o2 kn (vr 4) (cn (.int 0)))) (tb (o2 v8 (o2 aR (vr 3) (cn (.int 1))) (ba ai))) (E o0)=.ok ZD:=by
   by_cases hd:d1=0
   ·refine yE (c1.trans (by rw[hd];rfl)) (c2.trans ?_)
    cases ls
    ·rfl
    ·exact absurd ⟨hd,by simp⟩ hc
   ·exact DN (c1.trans (by rw[beq_eq_false_iff_ne.mpr (by omega)]))
  by_cases hd:d1=1
  ·obtain⟨x,y,rr,er,h1,h4⟩:=qo g (n:=d2) (by omega)
   obtain⟨l,z,hlz⟩:∃l z,rr=l++[z]:=⟨rr.dropLast,rr.getLast (by intro hz;rw[hz]at h1;simp at h1),(Uj _).symm⟩
   obtain⟨d4,e4,p4,q4⟩:=cK ns (a+8) 5 hn (by omega)
   have plr:(T.tup (rr.map .int)).pl=ZC:=by rw[eG];exact eI λt ht=>by obtain⟨k,_,rfl⟩:=Qa.mp ht;rfl
   have hw:=kH (u:=.int (z+1+d4)) g (n:=d2) (by omega) er (by rw[Py];exact h4) rfl rfl plr rfl
   have hargs:ae (vr 6) (ae (o2 aS (o2 aS (o2 aR (o2 aR (o2 aR (o2 aR (vr 3) (cn (.int 0))) (vr 6)) (cn (.int 2))) (o1 lb (cn (.int 1)))) (cn (.int 1))) (cl az (ae (vr 0) (ae (o2 aS (vr 1) (cn (.int 8))) (ae (cn (.int 5)) ai))))) ai) (E o0)=.ok [.int d2,.int (z+1+d4)]:=by
    refine au rfl (au (aI (t:=.int (z+1)) (u:=.int d4) (aI (t:=.int z) (u:=.int 1) (aI (t:=.tup (rr.map .int)) (u:=.int (-1)) (ri (n:=2) (l:=[.int x,.int y,.tup (rr.map .int)]) (ri (n:=d2) (l:=cs) (ri (n:=0) (l:=[.tup cs,.tup ls]) rfl rfl rfl) rfl er) rfl rfl) rfl ?_) rfl rfl) (aQ (ts:=[.scr ns,.int ((a+8:Nat):Int),.int 5]) rfl e4) rfl) rfl)
    rw[hlz,Q6];exact uF _ _
   have cB:tb (o2 kn (vr 4) (cn (.int 1))) (E o0)=.ok ZC:=(cJ (aI rfl rfl (eq_int _ _))).trans (by rw[hd];rfl)
   unfold mr at hw
   split at hw
   ·rename_i hrec
    have hp:(RR (kX cs d2 (.tup [.int x,.int y,.tup (rr.map .int++[.int (z+1+d4)])])) ls).pl=ZC:=by
     refine j0 (CB g.parts.1 ?_) g.pls
     have:=tW plr (m:=[.int (z+1+d4)]) rfl;simp[T.pl,plS]at this ⊢;exact this
    obtain⟨b,hb⟩:=Ll (P:=P) (A:=A) (w:=w) (t:=.int d2) (u:=.int (z+1+d4)) hG hl hw (GR.of hp hrec);exact⟨_,done _ (uE ((gI cA).trans ((gI cB).trans (wH (oy (c:="Sketch") (ns:=["past","ahead"]) (ls:=[P++[sp w (RR cs ls)],A]) (ts:=[.int d2,.int (z+1+d4)]) rfl (by decide) hargs hb))))),.inr ⟨"read",_,.inr (.inl rfl),GR.of hp hrec,rfl⟩⟩
   ·exact⟨_,gone (z0 ((gI cA).trans ((gI cB).trans (DI (wC (c:="Sketch") (ns:=["past","ahead"]) (ls:=[P++[sp w (RR cs ls)],A]) (ts:=[.int d2,.int (z+1+d4)]) rfl (by decide) hargs (Ah hG hw))))) (by unfold uH;rw[if_pos rfl])),.inl rfl⟩
  ·have cB:tb (o2 kn (vr 4) (cn (.int 1))) (E o0)=.ok ZD:=(cJ (aI rfl rfl (eq_int _ _))).trans (by rw[beq_eq_false_iff_ne.mpr (by omega)])
   rcases h5 with rfl|⟨h5,hs5⟩
   ·exact⟨_,done o0 (uE ((gI cA).trans ((gI cB).trans ((gI (k:=ZD) (cJ rfl)).trans rfl)))),.inl rfl⟩
   ·have h5p:t5.pl=ZC:=zl _ hs5
    have cC:tb (o2 jy (vr 5) (cn .non)) (E o0)=.ok ZC:=by
     obtain⟨a',b',x',y',rfl,_⟩:=da h5
     rfl
    have hw:=lM (t:=t5) g.parts.1 g.pls (by have:=g.n;omega) h5p g.ok
    unfold mr at hw
    split at hw
    ·rename_i hrec
     have hp:(RR cs (ls++[t5])).pl=ZC:=j0 g.parts.1 (tW g.pls (by simp[T.pl,plS,h5p]))
     obtain⟨b,hb⟩:=Hn (P:=P) (A:=A) (w:=w) hG hl hw (GR.of hp hrec);exact⟨_,done _ (uE ((gI cA).trans ((gI cB).trans ((gI cC).trans (wH (oy (c:="Sketch") (ns:=["past","ahead"]) (ls:=[P++[sp w (RR cs ls)],A]) (ts:=[t5]) rfl (by decide) rfl hb)))))),.inr ⟨"write",_,.inl rfl,GR.of hp hrec,rfl⟩⟩
    ·exact⟨_,gone (z0 ((gI cA).trans ((gI cB).trans ((gI cC).trans (DI (wC (c:="Sketch") (ns:=["past","ahead"]) (ls:=[P++[sp w (RR cs ls)],A]) (ts:=[t5]) rfl (by decide) rfl (wY hG hw)))))) (by unfold uH;rw[if_pos rfl])),.inl rfl⟩
def rj(r:T):Bool:=match a7 [r]with
 |.ok (.bl b)=>b
 |_=>ZD
def GR.has(h:GR r):a7 [r]=.ok (.bl (rj r)):=by
 obtain⟨b,e⟩:=h.hw;unfold rj;rw[e]
def rc:T->T
 |.tup [_,r] =>r
 |_=>.non
def jI(P:List T):T:=match P.reverse.find? (λs=>rj (rc s))with
 |some s=>rc s
 |none=>.non
theorem Ab(v:T):∀(l:List T)(s1:Sl),(∀s∈l,∃w r,s=sp w r/\GR r)->(match l.find? (λs=>rj (rc s))with
  |some s=>bq (gN 1) Oe l [.va v,s1]=.ok (.rt (rc s))
  |none=>∃s2,bq (gN 1) Oe l [.va v,s1]=.ok (.nx [.va v,s2]))
 |[],s1,_=>⟨s1,rfl⟩
 |s::l,s1,h=>by
  obtain⟨w,r,rfl,hr⟩:=h s (.head _)
  have ih:=Ab v l (.va (sp w r)) λu hu=>h u (.tail _ hu)
  have hix:o2 aR (vr 1) (cn (.int 1)) [.va v,.va (sp w r)]=.ok r:=ri (n:=1) (l:=[w,r]) rfl rfl rfl
  have ht:tb (cl a7 (ae (o2 aR (vr 1) (cn (.int 1))) ai)) [.va v,.va (sp w r)]=.ok (rj r):=cJ (aQ (ts:=[r]) (au hix rfl) hr.has);rw[So]
  show match(match rj r with|true=>ZA (sp w r)|false=>_)with|some s=>_|none=>_
  cases hb:rj r with
  |true=>
   rw[hb]at ht
   exact z5 (Z1:=[.va v,.va (sp w r)]) rfl ((gJ ht).trans (cf hix))
  |false=>
   rw[hb]at ht
   have e:∀{x},bq (gN 1) Oe l [.va v,.va (sp w r)]=x->bq (gN 1) Oe (sp w r::l) [.va v,s1]=x:=λ{x} e=>(eQ (Z1:=[.va v,.va (sp w r)]) rfl ((fH ht).trans rfl)).trans e
   dsimp only
   revert ih
   cases l.find? (λs=>rj (rc s))with
   |some s=>intro ih;exact e ih
   |none=>intro ⟨s2,ih⟩;exact⟨s2,e ih⟩
def Lo(h:∀s∈P,∃w r,s=sp w r/\GR r):di [SV P A]=.ok (jI P):=by
 refine bA rfl ?_
 show gY [.va (SV P A),.em]=_
 unfold gY
 have hi:DU (ae (o1 (n5 "Sketch" "past") (vr 0)) ai) [.va (SV P A),.em]=.ok P.reverse:=by
  unfold DU;rw[au (wI (ns:=["past","ahead"]) (ts:=[.lst P,.lst A]) rfl (uI _ _)) rfl];rfl
 have hl:=Ab (SV P A) P.reverse .em λs hs=>h s (Xo.mp hs)
 unfold jI
 revert hl
 cases P.reverse.find? (λs=>rj (rc s))with
 |some s=>intro hl;exact mS (gK hi hl)
 |none=>intro ⟨s2,hl⟩;exact(aB (gK hi hl)).trans rfl
def Wy(w:T):Prop:=w=.non\/∃v,w=.str v
theorem Wy.pl(h:Wy w):w.pl=ZC/\w.nk ZD=ZC/\w.dep=0:=by rcases h with rfl|⟨v,rfl⟩ <;> simp[T.pl,T.nk,T.dep]
def St(s:T):Prop:=∃w r,s=sp w r/\GR r/\Wy w
variable{s:T}
theorem St.pl(h:St s):s.pl=ZC/\s.nk ZD=ZC:=by
 obtain⟨w,r,rfl,hr,hw⟩:=h;exact⟨by simp[T.pl,plS,hw.pl.1,hr.pl],by simp[T.nk,nks,hw.pl.2.1,hr.nk]⟩
structure Okk (F:T)(P A:List T):Prop where
 bt:∃P',P=sp .non F::P'
 st:∀s∈P++A,St s
 lnn:P.length+A.length<=40
def lr(P:List T):T:=match P.getLast? with
 |some s=>rc s
 |none=>.non
def G5(P:List T)(w r:T):lr (P++[sp w r])=r:=by unfold lr;rw[List.getLast?_append];rfl
section
variable {F:T}
def Okk.ne(h:Okk F P A):P≠ []:=by obtain⟨P',rfl⟩:=h.bt;simp
def Okk.last(h:Okk F P A):∃P' w r,P=P'++[sp w r]/\GR r/\Wy w:=by
 have e:P=P.dropLast++[P.getLast h.ne]:=(Uj _).symm;obtain⟨w,r,e2,hr,hw⟩:=h.st _ (Qb _ (List.getLast_mem h.ne));exact⟨P.dropLast,w,r,by rw[<-e2];exact e,hr,hw⟩
def Okk.lg(h:Okk F P A):jI P=.non\/GR (jI P):=by
 unfold jI
 cases q:P.reverse.find? (λs=>rj (rc s))with
 |none=>exact .inl rfl
 |some s=>
  have:=List.mem_of_find?_eq_some q
  obtain⟨w,r,rfl,hr,_⟩:=h.st s (Qb _ (Xo.mp this));exact .inr hr
def Okk.first(h:GR F):Okk F [sp .non F] []:=⟨⟨[],rfl⟩,λs hs=>by rw[Ql,PL]at hs;rw[hs];exact⟨_,_,rfl,h,.inl rfl⟩,by simp⟩
end
def Lh{t:T}(h:aw cs t=ZC):t∈bB 0 cs:=by
 obtain⟨c,k,rfl⟩:=aJ h
 have h':(decide ((0:Int)<=c)&&decide (c<cs.length)&&(decide ((0:Int)<=k)&&decide (k<reads cs c)))=ZC:=h;simp only[PC,decide_eq_true_eq]at h';obtain⟨⟨h1,h2⟩,h3,h4⟩:=h';obtain⟨c,rfl⟩:=Qi h1;obtain⟨k,rfl⟩:=Qi h3;rw[mw]at h4
 have:=Aw cs 0 c k;rw[decide_eq_true (by rw[Td];omega),T5]at this
 obtain⟨y,hy,e⟩:=this;obtain⟨c',k',rfl,_⟩:=ka cs 0 hy;simp[aX,beqTs]at e;rw[e.1,e.2]at hy;exact hy
def sr{t:T}(h:aw cs t=ZC):t.pl=ZC:=(wW h).1
def EH(ha:aw cs a=ZC)(hb:aw cs b=ZC):aX a b=ZC↔a=b:=by
 refine⟨λh=>?_,λh=>by rw[h];exact ko b (sr hb)⟩
 by_cases e:a=b
 ·exact e
 ·rw[wV ha hb e]at h;cases h
def EM(hx:aw cs x=ZC)(hl:∀t∈l,aw cs t=ZC):fg x l=ZC↔x∈l:=by
 unfold fg;rw[T5];refine⟨λ⟨y,hy,e⟩=>(EH (hl y hy) hx).mp e▸hy,λh=>⟨x,h,(EH hx hx).mpr rfl⟩⟩
def KH(hl:∀t∈l,aw cs t=ZC):(T.lst l).nd=ZC:=T.KM _ (by show plS l=ZC;exact eI λt ht=>sr (hl t ht))
def pO(hx:aw cs x=ZC)(hl:∀t∈l,aw cs t=ZC):fN x (.lst l)=.ok (.bl (!fg x l)):=by
 show(if (x.dep<=60\/deps l<=60)/\x.nd=ZC/\(T.lst l).nd=ZC then Rs.ok (T.bl (!fg x l))else .bad)=_
 rw[if_pos ⟨.inl (by have:=(wW hx).2;omega),T.KM _ (sr hx),KH hl⟩]
def NS(ha:aw cs a=ZC)(hb:aw cs b=ZC):kn a b=.ok (.bl (aX a b)):=by
 unfold kn;rw[if_pos (iu (by have:=(wW ha).2;omega) (T.KM _ (sr ha)) (T.KM _ (sr hb)))]
def ahead(e:T):List T:=match e with
 |.tup [c,.int k] =>if 0<k then [.tup [c,.int (k - 1)]]else []
 |_=>[]
def lO(ls:List T)(e:T):List T:=(ls.filter λl=>aX (at_ l 1) e).map (λl=>at_ l 0)++ahead e
variable{e z:T}
def ER(h:aw cs e=ZC)(hz:z∈ahead e):aw cs z=ZC:=by
 obtain⟨c,k,rfl⟩:=aJ h
 have hz:z∈(if 0<k then [T.tup [.int c,.int (k - 1)]]else []):=hz
 by_cases q:0<k
 ·rw[if_pos q]at hz
  cases PL.mp hz;unfold aw at h ⊢;simp only[PC,decide_eq_true_eq]at h ⊢;omega
 ·rw[if_neg q]at hz;cases hz
def rZ(g:Good cs ls){l:T}(hl:l∈ls):∃a b x y,l=.tup [a,b,x,y]/\aw cs a=ZC/\aw cs b=ZC:=by
 obtain⟨a,b,x,y,e,_,h1,h2,_⟩:=da (g.l l hl);exact⟨a,b,x,y,e,h1,h2⟩
def ud(g:Good cs ls)(h:aw cs e=ZC)(hz:z∈lO ls e):aw cs z=ZC:=by
 unfold lO at hz;rcases PZ.mp hz with hz|hz
 ·obtain⟨l,hl,rfl⟩:=Qa.mp hz
  obtain⟨a,b,x,y,rfl,ha,_⟩:=rZ g (Ur.mp hl).1;exact ha
 ·exact ER h hz
def Ln(g:Good cs ls)(h:aw cs e=ZC):df [RR cs ls,e]=.ok (.lst (lO ls e)):=by
 obtain⟨c,k,rfl⟩:=aJ h
 have gl:=g.n
 have q:fL (iS (o2 aR (vr 0) (cn (.int 1)))) [ZB,ZA 1] (gN 0) (tb (o2 kn (o2 aR (vr 0) (cn (.int 1))) (vr 1))) (o2 aR (vr 0) (cn (.int 0))) [.va (RR cs ls),.va (.tup [.int c,.int k]),.em]=.ok (.lst ((ls.filter λl=>aX (at_ l 1) (.tup [.int c,.int k])).map λl=>at_ l 0)):=
  Ny (ts:=ls) (NB (l:=ls) rfl) (aD (k:=8) gl) (by simp) λl hl=>by
   obtain⟨a,b,x,y,rfl,ha,hb⟩:=rZ g hl;exact⟨cJ (aI (t:=b) (u:=.tup [.int c,.int k]) rfl rfl (NS hb h)),λ_=>rfl⟩
 generalize hm:((ls.filter λl=>aX (at_ l 1) (.tup [.int c,.int k])).map λl=>at_ l 0)=m at q
 have ml:m.length<=8:=by
  rw[<-hm,Py]
  have:=TX (λl=>aX (at_ l 1) (.tup [.int c,.int k])) ls
  omega
 have eo:lO ls (.tup [.int c,.int k])=m++(if 0<k then [.tup [.int c,.int (k - 1)]]else []):=by
  unfold lO;rw[hm];rfl
 refine bA rfl ?_
 show fS [.va (RR cs ls),.va (.tup [.int c,.int k]),.em]=_
 unfold fS;rw[aB (Z':=[.va (RR cs ls),.va (.tup [.int c,.int k]),.ow (.lst m)]) (by unfold pf;rw[q];rfl)]
 rw[eo]
 by_cases hk:0<k
 ·rw[if_pos hk]
  rw[aB (Z':=[.va (RR cs ls),.va (.tup [.int c,.int k]),.ow (.lst (m++[.tup [.int c,.int (k - 1)]]))]) ((gJ (cJ (aI (t:=.int k) (u:=.int 0) rfl rfl (by show Rs.ok (T.bl (decide (0<k)))=_;rw[decide_eq_true hk])))).trans (lX (l:=m) (p2 rfl rfl) rfl (by omega)))]
  rfl
 ·rw[if_neg hk]
  rw[aB (Z':=[.va (RR cs ls),.va (.tup [.int c,.int k]),.ow (.lst m)]) ((fH (cJ (aI (t:=.int k) (u:=.int 0) rfl rfl (by show Rs.ok (T.bl (decide (0<k)))=_;rw[decide_eq_false hk])))).trans rfl)]
  rw[Ql]
  rfl
def Cl(ls:List T)(e x:T):Prop:=∀S:T->Prop,S e->(∀y z,S y->z∈lO ls y->S z)->S x
def Cl.here:Cl ls e e:=λS h _=>h
def Cl.on{y:T}(h:Cl ls e y)(hz:z∈lO ls y):Cl ls e z:=λS h1 h2=>h2 y z (h S h1 h2) hz
structure Kn (cs ls:List T)(e:T)(K:List T):Prop where
 nd:K.Nodup
 ev:∀x∈K,aw cs x=ZC
 cl:∀x∈K,Cl ls e x
 he:e∈K
 up:∀y∈K,∀z∈lO ls y,z∈K
def fT(t:T):List Int:=match t with
 |.tup [.int c,.int k] =>[c,k]
 |_=>[]
theorem zm:∀{K:List T},(∀x∈K,aw cs x=ZC)->Tr.rowsT K=ZA (K.map fT)
 |[],_=>rfl
 |x::K,h=>by
  obtain⟨c,k,rfl⟩:=aJ (h x PB)
  have:=zm (K:=K) λx hx=>h x (Pw _ hx)
  show(match je [.int c,.int k],Tr.rowsT K with|some ns,ZA k=>if ns=[]then ZB else ZA (ns::k)|_,_=>ZB)=_
  rw[this]
  rfl
def HU(ns:List Int):T:=.tup (ns.map .int)
def LP(K:List T):List T:=((K.map fT).mergeSort ou).map HU
def Ca(h:aw cs x=ZC):HU (fT x)=x:=by
 obtain⟨c,k,rfl⟩:=aJ h
 rfl
def l5(hc:aZ (.tup cs)=ZC):(bB 0 cs).length<=16:=by
 obtain⟨h,_,h4⟩:=bf hc
 have:=oM cs 0 h;omega
variable{K:List T}
def uL(hc:aZ (.tup cs)=ZC)(nd:K.Nodup)(h:∀x∈K,aw cs x=ZC):K.length<=16:=by
 have:=WW nd (l₂:=bB 0 cs) λx hx=>Lh (h x hx)
 have:=l5 hc;omega
def Lk(hc:aZ (.tup cs)=ZC)(nd:K.Nodup)(h:∀x∈K,aw cs x=ZC):vE [.lst K]=.ok (.lst (LP K)):=by
 have hl:=uL hc nd h;unfold vE;simp only[zm h];rw[Py,if_pos (by omega)]
 rfl
def G2(h:∀x∈K,aw cs x=ZC):x∈LP K↔x∈K:=by
 unfold LP;rw[Qa]
 constructor
 ·rintro ⟨ns,hn,rfl⟩
  obtain⟨y,hy,rfl⟩:=Qa.mp ((S4 _ _).mem_iff.mp hn);rw[Ca (h y hy)];exact hy
 ·intro hx
  exact⟨fT x,(S4 _ _).mem_iff.mpr (V0 hx),Ca (h x hx)⟩
def mx(K:List T)(z:T):List T:=if fg z K then K else K++[z]
theorem jZ:∀{zs K:List T},K.Nodup->(∀x∈K,aw cs x=ZC)->(∀x∈zs,aw cs x=ZC) →
  (zs.foldl mx K).Nodup/\(∀x,x∈zs.foldl mx K↔x∈K\/x∈zs)/\∃t,zs.foldl mx K=K++t
 |[],K,nd,_,_=>⟨nd,λx=>by simp,[],by simp⟩
 |z::zs,K,nd,hK,hz=>by
  have ez:=hz z PB
  have hz':∀x∈zs,aw cs x=ZC:=λx hx=>hz x (Pw _ hx)
  rw[XF]
  by_cases q:z∈K
  ·have e:mx K z=K:=by unfold mx;rw[if_pos ((EM ez hK).mpr q)]
   rw[e];obtain⟨h1,h2,h3⟩:=jZ (zs:=zs) nd hK hz';refine⟨h1,λx=>?_,h3⟩
   rw[h2,PJ];exact⟨λh=>h.imp id .inr,λh=>h.elim .inl λh=>h.elim (λh=>.inl (h▸q)) .inr⟩
  ·have e:mx K z=K++[z]:=by unfold mx;rw[if_neg (λh=>q ((EM ez hK).mp h))]
   rw[e]
   have nd':(K++[z]).Nodup:=Qs.mpr ⟨nd,by simp,λa ha b hb=>by rw[PL.mp hb];exact λh=>q (h▸ha)⟩
   have hK':∀x∈K++[z],aw cs x=ZC:=λx hx=>(PZ.mp hx).elim (hK x) λh=>PL.mp h▸ez
   obtain⟨h1,h2,t,h3⟩:=jZ (zs:=zs) nd' hK' hz';refine⟨h1,λx=>?_,[z] ++t,by rw[h3,Qy]⟩
   rw[h2,PZ,PL,PJ,or_assoc]
abbrev knB:Y1:=aF (gP (iS (cl df (ae (vr 0) (ae (ln 2 (o2 aR (vr 2) (vr 3))) ai)))) (gN 4) knI) (Cn 3 (cn (.int 1)))
abbrev Dy(R e:T)(K:List T)(p:Nat)(s4:Sl):En:=[.va R,.va e,.ow (.lst K),.va (.int p),s4]
theorem Ip(hc:aZ (.tup cs)=ZC)(R e:T)(p:Nat):∀(zs K:List T)(s4:Sl),K.Nodup->(∀x∈K,aw cs x=ZC)->(∀x∈zs,aw cs x=ZC) →
  ∃s,bq (gN 4) knI zs (Dy R e K p s4)=.ok (.nx (Dy R e (zs.foldl mx K) p s))
 |[],K,s4,_,_,_=>⟨s4,rfl⟩
 |z::zs,K,s4,nd,hK,hz=>by
  have ez:=hz z PB
  have hz':∀x∈zs,aw cs x=ZC:=λx hx=>hz x (Pw _ hx)
  have sp:=jZ (zs:=[z]) nd hK (λx hx=>PL.mp hx▸ez)
  have hl:=uL hc nd hK
  have st:knI (Dy R e K p (.va z))=.ok (.nx (Dy R e (mx K z) p (.va z))):=by
   have c:BP 2 (tb (o2 fN (vr 4) (vr 2))) (Dy R e K p (.va z))=.ok (!fg z K):=DJ (cJ (aI (t:=z) (u:=.lst K) rfl rfl (pO ez hK)));unfold mx
   cases q:fg z K with
   |true=>rw[q]at c;exact(fH c).trans rfl
   |false=>
    rw[q]at c;refine(gJ c).trans ?_
    rw[lX (t:=z) (l:=K) rfl rfl (by omega)]
    rfl
  obtain⟨s,ih⟩:=Ip hc R e p zs (mx K z) (.va z) sp.1 (λx hx=>((sp.2.1 x).mp hx).elim (hK x) λh=>PL.mp h▸ez) hz'
  exact⟨s,by rw[eQ (Z1:=Dy R e K p (.va z)) rfl st,ih];rfl⟩
theorem zY(g:Good cs ls)(e:T):∀(m p:Nat)(K:List T)(s4:Sl)(n:Nat),17 - p<=m->m<n->K.Nodup->(∀x∈K,aw cs x=ZC)->(∀x∈K,Cl ls e x)->e∈K->p<=K.length->(∀i y,i<p->K[i]?=ZA y->∀z∈lO ls y,z∈K) →
  ∃K' p' s,bL knC knB n (Dy (RR cs ls) e K p s4)=.ok (.nx (Dy (RR cs ls) e K' p' s))/\Kn cs ls e K'
 |0,p,K,s4,n,hm,hn,nd,hK,hcl,he,hp,hup=>by
  have hl:=uL g.c nd hK
  omega
 |m+1,p,K,s4,n,hm,hn,nd,hK,hcl,he,hp,hup=>by
  cases n with
  |zero=>exact absurd hn (XM _)
  |succ n=>
  have hn:=Nat.lt_of_succ_lt_succ hn
  have c:knC (Dy (RR cs ls) e K p s4)=.ok (decide ((p:Int)<(K.length:Int))):=cJ (aI (t:=.int p) (u:=.int K.length) rfl (DK (o:=.lst K) rfl (aQ (ts:=[.lst K]) rfl rfl) rfl) rfl)
  by_cases q:p<K.length
  ·rw[decide_eq_true (Int.ofNat_lt.mpr q)]at c
   have hy:=hK K[p] (QU q)
   have eK:K[p]?=ZA K[p]:=P5 q
   obtain⟨s,lp⟩:=Ip g.c (RR cs ls) e p (lO ls K[p]) K s4 nd hK λz hz=>ud g hy hz
   obtain⟨h1,h2,t,h3⟩:=jZ (zs:=lO ls K[p]) nd hK λz hz=>ud g hy hz
   have nk:K[p].nk ZD=ZC:=by
    obtain⟨c,k,e⟩:=aJ hy;rw[e];rfl
   have st:knB (Dy (RR cs ls) e K p s4)=.ok (.nx (Dy (RR cs ls) e ((lO ls K[p]).foldl mx K) (p+1) s)):=by
    refine(aB (gK (ts:=lO ls K[p]) (kL (aQ (ts:=[RR cs ls,K[p]]) (au rfl (au (DK (o:=.lst K) rfl (aI (t:=.lst K) (u:=.int p) rfl rfl (yF q)) nk) rfl)) (Ln g hy))) lp)).trans ?_
    rfl
   rw[qc c st]
   have hK2:∀x∈(lO ls K[p]).foldl mx K,aw cs x=ZC:=λx hx=>((h2 x).mp hx).elim (hK x) (ud g hy)
   refine zY g e m (p+1) _ s n (by clear hcl hK hup;omega) hn h1 hK2 (λx hx=>((h2 x).mp hx).elim (hcl x) ((hcl _ (QU q)).on)) ((h2 e).mpr (.inl he)) (by rw[h3,PK];exact Qn q (Nat.le_add_right _ _)) λi y hi ey z hz=>(h2 z).mpr ?_
   have hiK:i<K.length:=SE (SR hi) q;rw[h3,Qo hiK]at ey
   by_cases hip:i=p
   ·subst hip
    rw[eK]at ey;cases ey;exact .inr hz
   ·exact .inl (hup i y (Nat.lt_of_le_of_ne (SR hi) hip) ey z hz)
  ·rw[decide_eq_false λz=>q (Int.ofNat_lt.mp z)]at c
   refine⟨K,p,s4,wG c,nd,hK,hcl,he,λy hy z hz=>?_⟩
   obtain⟨i,hi,rfl⟩:=RQ hy;exact hup i _ (PQ hi (Xk q)) (P5 hi) z hz
def Hs(g:Good cs ls)(h:aw cs e=ZC):∃K,Kn cs ls e K/\c9 [RR cs ls,e]=.ok (.lst (LP K)):=by
 obtain⟨K,p,s,e1,hK⟩:=zY g e 17 0 [e] .em FU (by omega) (by unfold FU;omega) (by simp) (λx hx=>PL.mp hx▸h) (λx hx=>PL.mp hx▸Cl.here) (by simp) (QQ _) (λi y hi=>by omega)
 refine⟨K,hK,bA rfl ?_⟩
 show u7 [.va (RR cs ls),.va e,.em,.em,.em]=_
 unfold u7;rw[aB (ir (t:=.non) (aQ (ts:=[RR cs ls]) rfl (dv g.p g.ok)))];rw[aB (ir (t:=.non) (aQ (ts:=[RR cs ls,e]) rfl (uz g (sr h) h)))];rw[aB (Z':=[.va (RR cs ls),.va e,.ow (.lst [e]),.em,.em]) (yB (l:=[e]) rfl (by simp) (by simp))]
 rw[aB (Z':=[.va (RR cs ls),.va e,.ow (.lst [e]),.va (.int 0),.em]) (cO (t:=.int 0) rfl rfl)];refine(aB e1).trans ?_
 exact z6 (cf (aQ (ts:=[.lst K]) rfl (Lk g.c hK.nd hK.ev)))
variable{es:List T}
def Ls(g:Good cs ls)(h:aw cs e=ZC):∃L,c9 [RR cs ls,e]=.ok (.lst L)/\(∀x∈L,aw cs x=ZC)/\L.length<=16:=by
 obtain⟨K,hK,e1⟩:=Hs g h;refine⟨LP K,e1,λx hx=>hK.ev x ((G2 hK.ev).mp hx),?_⟩
 unfold LP;rw[Py,(S4 _ _).length_eq,Py];exact uL g.c hK.nd hK.ev
def sk(R e:T):List T:=match c9 [R,e]with
 |.ok (.lst l)=>l
 |_=>[]
def Bs(g:Good cs ls)(h:aw cs e=ZC):c9 [RR cs ls,e]=.ok (.lst (sk (RR cs ls) e))/\(∀x∈sk (RR cs ls) e,aw cs x=ZC)/\(sk (RR cs ls) e).length<=16:=by
 obtain⟨L,h1,h3⟩:=Ls g h
 have:sk (RR cs ls) e=L:=by unfold sk;rw[h1]
 rw[this];exact⟨h1,h3⟩
def Dz(ha:aw cs a=ZC)(hb:aw cs b=ZC)(h:keyOf a=keyOf b):a=b:=by
 obtain⟨c,k,rfl⟩:=aJ ha;obtain⟨c',k',rfl⟩:=aJ hb
 have h:ZA [Uq c,Uq k]=ZA [Uq c',(Uq k':L2.Key)]:=h
 simp at h
 rw[h.1,h.2]
def wA(ha:aw cs a=ZC):∃k,keyOf a=ZA k:=by
 obtain⟨c,k,rfl⟩:=aJ ha;exact⟨_,rfl⟩
theorem xb{k v:T}:∀{ks vs:List T},ks.length=vs.length->(∀x∈ks,keyOf x≠keyOf k)->gp k v ks vs=(ks++[k],vs++[v])
 |[],[],_,_=>rfl
 |x::ks,y::vs,hl,h=>by
  unfold gp;rw[if_neg (h x PB),xb (by simpa using hl) λz hz=>h z (Pw _ hz)]
  rfl
theorem sG(f:T->T):∀(es ks:List T),(∀x∈ks++es,aw cs x=ZC)->(ks++es).Nodup->gn (es.map λe=>(e,f e)) (ks,ks.map f)=(ks++es,(ks++es).map f)
 |[],ks,_,_=>by simp[gn]
 |e::es,ks,hev,nd=>by
  rw[PF,gn]
  have h1:gp e (f e) ks (ks.map f)=(ks++[e],(ks++[e]).map f):=by
   rw[xb (by simp) λx hx q=>?_,Q6]
   ·rfl
   ·have:x=e:=Dz (hev x (Qb _ hx)) (hev e (Qd _ PB)) q
    subst this;exact(Qs.mp nd).2.2 x hx x PB rfl
  have e2:ks++e::es=ks++[e] ++es:=by simp
  rw[e2]at hev nd ⊢
  show gn _ (gp e (f e) ks (ks.map f))=_
  rw[h1];exact sG f es (ks++[e]) hev nd
theorem CF(f:T->T):∀{es:List T},(∀x∈es,aw cs x=ZC)->Ig (es.map λe=>.tup [e,f e])=ZA (es.map λe=>(e,f e))
 |[],_=>rfl
 |e::es,h=>by
  obtain⟨k,hk⟩:=wA (h e PB);rw[PF,PF,Ig,hk,CF f λx hx=>h x (Pw _ hx)]
def Hv(f:T->T)(h:∀x∈es,aw cs x=ZC)(nd:es.Nodup)(hl:es.length<=100):l7 [.lst (es.map λe=>.tup [e,f e])]=.ok (.dct es (es.map f)):=by
 unfold l7;simp only[CF f h];rw[if_pos (by rw[Py];omega)]
 have:=sG f es [] (by simpa using h) (by simpa using nd)
 simp only[TL,Sm]at this;rw[this]
theorem Al(f:T->T)(he:aw cs e=ZC){k:List L2.Key}(hk:keyOf e=ZA k):∀{es:List T},(∀x∈es,aw cs x=ZC)->e∈es->lq es (es.map f) k=ZA (f e)
 |x::es,h,hm=>by
  rw[PF,lq]
  by_cases q:keyOf x=ZA k
  ·rw[if_pos q]
   have:x=e:=Dz (h x PB) he (q.trans hk.symm);rw[this]
  ·rw[if_neg q]
   refine Al f he hk (λx hx=>h x (Pw _ hx)) ?_
   rcases PJ.mp hm with z|z
   ·subst z;exact absurd hk q
   ·exact z
def Ew(f:T->T)(h:∀x∈es,aw cs x=ZC)(hm:e∈es):jO (.dct es (es.map f)) e=.ok (f e):=by
 obtain⟨k,hk⟩:=wA (h e hm);unfold jO;rw[hk];simp only[Al f (h e hm) hk h hm]
abbrev Lt(a b:T):Prop:=cu (fT a) (fT b)=ZC
def zP(c k c' k':Int):cu [c,k] [c',k']=(if c=c' then decide (k<k')else decide (c<c')):=by
 unfold cu cu cu
 by_cases h:c=c'
 ·rw[if_pos h,if_pos h]
  by_cases h2:k=k'
  ·rw[if_pos h2,h2];simp
  ·rw[if_neg h2]
 ·rw[if_neg h,if_neg h]
theorem Ed:∀(cs:List T)(i:Nat),(bB i cs).Pairwise Lt
 |[],i=>UR
 |x::cs,i=>by
  rw[bB,VP];refine⟨?_,Ed cs (i+1),λa ha b hb=>?_⟩
  ·unfold kB rng
   rw[SL,WO];refine List.pairwise_lt_range.imp ?_
   intro a b hab
   show cu [(i:Int),0+(a:Int)] [(i:Int),0+(b:Int)]=ZC
   rw[zP,if_pos rfl];exact decide_eq_true (by omega)
  ·unfold kB at ha
   obtain⟨t,ht,rfl⟩:=Qa.mp ha;obtain⟨j,rfl,hj⟩:=iF ht;obtain⟨c,k,rfl,h1,_,_⟩:=ka cs (i+1) hb
   show cu [(i:Int),(j:Int)] [(c:Int),(k:Int)]=ZC
   rw[zP,if_neg (by omega)]
   exact decide_eq_true (by omega)
def AH{q:T->Bool}{p r:List T}(h:(p++x::r).Pairwise Lt):(p++x::r).filter (λy=>cu (fT x) (fT y)&&q y)=r.filter q:=by
 rw[VP]at h;obtain⟨_,h2,h3⟩:=h;rw[List.pairwise_cons]at h2
 have np:∀y∈p,cu (fT x) (fT y)=ZD:=λy hy=>by
  have:=h3 y hy x PB
  cases z:cu (fT x) (fT y)with
  |false=>rfl
  |true=>have:=lU _ _ _ this z;rw[jG]at this;cases this
 rw[List.filter_append,Ve,jG,S2,if_neg P6,List.filter_eq_nil_iff.mpr λy hy=>by rw[np y hy];simp,Sm]
 exact List.filter_congr λy hy=>by rw[h2.1 y hy,Tj]
def Nl(ha:aw cs a=ZC)(hb:aw cs b=ZC):Be a b=.ok (.bl (cu (fT a) (fT b))):=by
 obtain⟨c,k,rfl⟩:=aJ ha;obtain⟨c',k',rfl⟩:=aJ hb
 rfl
def stp(L:List T)(n:Nat):T:=.tup ((rng 0 n).map λt=>.int ((L.filter λx=>aX (at_ x 0) t).length:Nat))
def II(h:aw cs x=ZC):∃c:Int,at_ x 0=.int c/\aR x (.int 0)=.ok (.int c):=by
 obtain⟨c,k,rfl⟩:=aJ h;exact⟨c,rfl,rfl⟩
def Hq(g:Good cs ls)(h:aw cs e=ZC):ke [RR cs ls,e]=.ok (stp (sk (RR cs ls) e) cs.length):=by
 obtain⟨h1,h3,h4⟩:=Bs g h
 generalize sk (RR cs ls) e=L at h1 h3 h4
 obtain⟨_,_,c4⟩:=bf g.c;refine bA rfl ?_
 show u5 [.va (RR cs ls),.va e,.em]=_
 unfold u5
 have q:fL (iS (cl c9 (ae (vr 0) (ae (vr 1) ai)))) [ZB] (gN 0) bT (o2 aR (vr 0) (cn (.int 0))) [.va (RR cs ls),.va e,.em]=.ok (.lst (L.map λx=>at_ x 0)):=
  mT (ts:=L) (kL (aQ (ts:=[RR cs ls,e]) rfl h1)) (aD (k:=16) h4) (by simp) λt ht=>by
   obtain⟨c,e1,e2⟩:=II (h3 t ht);rw[e1];exact aI (t:=t) (u:=.int 0) rfl rfl e2
 rw[aB (Z':=[.va (RR cs ls),.va e,.va (.lst (L.map λx=>at_ x 0))]) (cO q rfl)]
 unfold stp;refine cf (aQ (ts:=[.lst ((rng 0 (cs.length:Nat)).map λt=>.int ((L.filter λx=>aX (at_ x 0) t).length:Nat))]) (au (mT (ts:=rng 0 (cs.length:Nat)) (Hj (j:=(cs.length:Nat)) (au (aQ (ts:=[.tup cs]) rfl rfl) rfl) (by omega) (by omega)) (by rw[iG];exact aD (k:=4) c4) (by simp) λt ht=>?_) rfl) rG)
 obtain⟨j,rfl,hj⟩:=iF ht;refine Nt (ks:=L.map λx=>at_ x 0) (u:=.int j) rfl rfl ?_
 show(if ((T.int j).dep<=60\/deps (L.map λx=>at_ x 0)<=60)/\(T.int j).nd=ZC/\nds (L.map λx=>at_ x 0)=ZC then _ else _)=_
 rw[if_pos ⟨.inl (by simp[T.dep]),rfl,plS_nds _ (eI λt ht=>by
  obtain⟨x,hx,rfl⟩:=Qa.mp ht;obtain⟨c,e1,_⟩:=II (h3 x hx);rw[e1];rfl)⟩,Vr,List.countP_eq_length_filter]
 rfl
def hd(l:List T):T:=match l with
 |[] =>.non
 |x::_=>x
def q2(R x y:T):Bool:=!fg x (sk R y)&& !fg y (sk R x)
abbrev Gw(x y:T):T:=.tup [x,y]
def lp(R:T):List T->List T
 |[] =>[]
 |x::r=>(r.filter (q2 R x)).map (Gw x)++lp R r
abbrev qq(R x y:T):Bool:=cu (fT x) (fT y)&&q2 R x y
theorem Io(R:T)(h:P.Pairwise Lt):∀(r p:List T),P=p++r->r.flatMap (λx=>(P.filter (qq R x)).map (Gw x))=lp R r
 |[],p,_=>rfl
 |x::r,p,e=>by
  rw[SW,Io R h r (p++[x]) (by rw[e];simp),lp]
  subst e;rw[AH h]
abbrev B9(R:T)(P acc:List T)(s4 s5:Sl):En:=[.va R,.va (.lst P),.va (.dct P (P.map λx=>.lst (sk R x))),.ow (.lst acc),s4,s5]
theorem B8(g:Good cs ls)(hP:∀x∈P,aw cs x=ZC)(hx:x∈P):∀(ts acc:List T)(s5:Sl),(∀y∈ts,y∈P)->acc.length+ts.length<=900 →
  ∃s,bq (gN 5) upI ts (B9 (RR cs ls) P acc (.va x) s5)=.ok (.nx (B9 (RR cs ls) P (acc++(ts.filter (qq (RR cs ls) x)).map (Gw x)) (.va x) s))
 |[],acc,s5,_,_=>⟨s5,by simp[bq]⟩
 |y::ts,acc,s5,h,hl=>by
  rw[PH]at hl
  have hy:=h y PB
  have t:kC (tb (o2 Be (vr 4) (vr 5))) (kC (tb (o2 fN (vr 4) (o2 jO (vr 2) (vr 5)))) (tb (o2 fN (vr 5) (o2 jO (vr 2) (vr 4))))) (B9 (RR cs ls) P acc (.va x) (.va y))=.ok (qq (RR cs ls) x y):=
   IA (cJ (aI (t:=x) (u:=y) rfl rfl (Nl (hP x hx) (hP y hy)))) λ_=>
    IA (cJ (aI (t:=x) (u:=.lst (sk (RR cs ls) y)) rfl (aI (t:=.dct P (P.map λx=>.lst (sk (RR cs ls) x))) (u:=y) rfl rfl (Ew _ hP hy)) (pO (hP x hx) (Bs g (hP y hy)).2.1))) λ_=>
     cJ (aI (t:=y) (u:=.lst (sk (RR cs ls) x)) rfl (aI (t:=.dct P (P.map λx=>.lst (sk (RR cs ls) x))) (u:=x) rfl rfl (Ew _ hP hx)) (pO (hP y hy) (Bs g (hP x hx)).2.1))
  cases q:qq (RR cs ls) x y with
  |true=>
   rw[q]at t
   have st:upI (B9 (RR cs ls) P acc (.va x) (.va y))=.ok (.nx (B9 (RR cs ls) P (acc++[Gw x y]) (.va x) (.va y))):=(gJ t).trans (lX (l:=acc) (p2 rfl rfl) rfl (by omega))
   obtain⟨s,ih⟩:=B8 g hP hx ts (acc++[Gw x y]) (.va y) (λz hz=>h z (Pw _ hz)) (by rw[PK,QN];omega)
   refine⟨s,?_⟩
   rw[eQ (Z1:=B9 (RR cs ls) P acc (.va x) (.va y)) rfl st,ih,List.filter_cons_of_pos q,PF,Qy]
   rfl
  |false=>
   rw[q]at t;obtain⟨s,ih⟩:=B8 g hP hx ts acc (.va y) (λz hz=>h z (Pw _ hz)) (by omega)
   refine⟨s,?_⟩
   rw[eQ (Z1:=B9 (RR cs ls) P acc (.va x) (.va y)) rfl ((fH t).trans rfl),ih,List.filter_cons_of_neg (by rw[q];exact P6)]
theorem B6(g:Good cs ls)(hP:∀x∈P,aw cs x=ZC)(hl:P.length<=16):∀(xs acc:List T)(s4 s5:Sl),(∀y∈xs,y∈P)->acc.length+16*xs.length<=800 →
  ∃y4 y5,bq (gN 4) (gP (iS (vr 1)) (gN 5) upI) xs (B9 (RR cs ls) P acc s4 s5)=.ok (.nx (B9 (RR cs ls) P (acc++xs.flatMap λx=>(P.filter (qq (RR cs ls) x)).map (Gw x)) y4 y5))
 |[],acc,s4,s5,_,_=>⟨s4,s5,by simp[bq]⟩
 |x::xs,acc,s4,s5,h,hn=>by
  rw[PH]at hn;obtain⟨s,e1⟩:=B8 g hP (h x PB) P acc s5 (λ_ hy=>hy) (by omega)
  have hf:=TX (qq (RR cs ls) x) P;obtain⟨y4,y5,ih⟩:=B6 g hP hl xs (acc++(P.filter (qq (RR cs ls) x)).map (Gw x)) (.va x) s (λz hz=>h z (Pw _ hz)) (by rw[PK,Py];omega)
  refine⟨y4,y5,?_⟩
  rw[eQ (Z1:=B9 (RR cs ls) P acc (.va x) s5) rfl (gK (ts:=P) (kL (l:=P) rfl) e1),ih,SW,Qy]
def Br(g:Good cs ls):cz [RR cs ls]=.ok (.lst (lp (RR cs ls) (bB 0 cs))):=by
 have hP:∀x∈bB 0 cs,aw cs x=ZC:=λx hx=>nv hx
 have hl:=l5 g.c;refine bA rfl ?_
 show fQ [.va (RR cs ls),.em,.em,.em,.em,.em]=_
 unfold fQ;rw[aB (Z':=[.va (RR cs ls),.va (.lst (bB 0 cs)),.em,.em,.em,.em]) (cO (aQ (ts:=[RR cs ls]) rfl (vQ g)) rfl)];rw[aB (Z':=[.va (RR cs ls),.va (.lst (bB 0 cs)),.va (.dct (bB 0 cs) ((bB 0 cs).map λx=>.lst (sk (RR cs ls) x))),.em,.em,.em]) (cO (aQ (ts:=[.lst ((bB 0 cs).map λe=>.tup [e,.lst (sk (RR cs ls) e)])]) (au (mT (ts:=bB 0 cs) (kL (l:=bB 0 cs) rfl) (aD (k:=16) hl) (by simp) λt ht=>p2 rfl (aQ (ts:=[RR cs ls,t]) rfl (Bs g (hP t ht)).1)) rfl) (Hv _ hP (j7 cs 0) (by omega))) rfl)]
 rw[aB (Z':=B9 (RR cs ls) (bB 0 cs) [] .em .em) (yC (by simp))]
 obtain⟨y4,y5,e1⟩:=B6 g hP hl (bB 0 cs) [] .em .em (λ_ h=>h) (by simp;omega)
 rw[Sm,Io _ (Ed cs 0) (bB 0 cs) [] rfl]at e1;refine(aB (gK (ts:=bB 0 cs) (kL (l:=bB 0 cs) rfl) e1)).trans ?_
 rfl
mutual
theorem yh:∀{t:T},t.pl=ZC->t.nk ZD=ZC->noL t=ZC
 |.non,_,_=>rfl
 |.bl _,_,_=>rfl
 |.int _,_,_=>rfl
 |.str _,_,_=>rfl
 |.tup l,p,n=>by unfold T.pl at p;unfold T.nk at n;unfold noL;exact noLs_of p n
 |.lst l,_,n=>by unfold T.nk at n;cases n
 |.scr _,p,_=>by unfold T.pl at p;cases p
 |.dct _ _,p,_=>by unfold T.pl at p;cases p
 |.ob _ _ _,p,_=>by unfold T.pl at p;cases p
theorem noLs_of:∀{l:List T},plS l=ZC->nks ZD l=ZC->noLs l=ZC
 |[],_,_=>rfl
 |t::l,p,n=>by
  unfold plS at p;unfold nks at n;rw[PC]at p n;unfold noLs;rw[yh p.1 n.1,noLs_of p.2 n.2]
  rfl
end
theorem jA:∀{l:List T},(∀t∈l,noL t=ZC)->noLs l=ZC
 |[],_=>rfl
 |t::l,h=>by unfold noLs;rw[h t (.head _),jA λu hu=>h u (.tail _ hu)];rfl
variable{as:List T}{b:Y3}{fe:Y2}{g:List Sl->Rs (T×OT)}{h:T->List T}{ls:List (List T)}
def Hb{f:En->Rs (List (List T))}(h:f Z=.ok ls)(hi:i<Z.length)(hn:ls.all noLs=ZC):mq i f Z=.ok (.nx (Z.set i (.ow (.ll ls)))):=by
 unfold mq;rw[h,ax,if_pos ⟨hi,hn⟩]
def Hg(hi:Z[i]?=ZA (.ow (.ll ls)))(h:f (strip Z)=.ok (.lst l))(hl:ls.length<=1000)(hn:noLs l=ZC):kU i f Z=.ok (.nx (Z.set i (.ow (.ll (ls++[l]))))):=by
 unfold kU;rw[hi]
 dsimp only
 rw[h,ax]
 dsimp only
 rw[if_pos ⟨by have:=RB;omega,hn⟩]
def K2{f g:En->Rs (List (List T))}{l m:List (List T)}(h:f Z=.ok l)(h2:g Z=.ok m)(hl:l.length+m.length<=1000):Bb f g Z=.ok (l++m):=by
 unfold Bb;rw[h,ax,h2,ax,if_pos (by have:=RB;omega)]
def Nx(h:f (strip Z)=.ok (.lst l)):nL (pV f Ba) Z=.ok [l]:=by
 unfold nL pV Ba;rw[h,ax]
 show(if ([l]:List (List T)).length<=ZI then Rs.ok [l]else .bad)=_
 rw[if_pos (by have:=RB;show 1<=ZI;omega)]
theorem Iw(base:En)(h0:0<base.length):∀(ts:List T)(s:Sl),(∀t∈ts,fe (strip (base.set 0 (.va t)))=.ok (.lst (h t)))->iN (gN 0) fe ts (base.set 0 s)=.ok (ts.map h)
 |[],s,_=>rfl
 |t::ts,s,hh=>by
  have hg:gN 0 t (base.set 0 s)=.ok (base.set 0 (.va t)):=by unfold gN;rw[if_pos (by simpa using h0),Xa]
  rw[iN,hg,ax,hh t (.head _),ax]
  dsimp only
  rw[Iw base h0 ts (.va t) λu hu=>hh u (.tail _ hu)]
  rfl
def Nv{fi:Y0}{src:List (Option Nat)}(hi:fi Z=.ok ts)(hs:ts.length<=1000)(hn:0<src.length)(hf:∀t∈ts,fe (strip ((bN src Z).set 0 (.va t)))=.ok (.lst (h t))):Kw fi src (gN 0) fe Z=.ok (ts.map h):=by
 unfold Kw
 have hl:0<(bN src Z).length:=by unfold bN;rw[Py];exact hn
 have e:bN src Z=(bN src Z).set 0 (bN src Z)[0]:=by rw[Vq]
 rw[hi,ax,if_pos (by have:=RB;omega),e,Iw (bN src Z) hl ts _ hf]
def Hf{j:Nat}{F:Y1}{fl:Fl}(hi:Z[i]?=ZA (.ow (.ll ls)))(h:rg j F ls (Z.set i .em)=.ok fl):kR i j F Z=.ok fl:=by
 unfold kR;rw[hi]
 dsimp only
 rw[h]
def Ha{c m:Str}{fs:Y0}{ns:List Str}(hi:Z[i]?=ZA (.va (.ob c ns ts)))(ho:Km ts=ZA ls)(hs:fs Z=.ok as)(hm:ns.contains m=ZD)(hn:ls.all noLs=ZC)(ha:noLs as=ZC)(hg:g (.ow (.ob c ns ls)::as.map Sl.va)=.err d):hY i c m g fs Z=.err d:=by
 unfold hY;rw[hi]
 dsimp only
 rw[ho,hs]
 dsimp only
 rw[if_pos ⟨⟨rfl,hm⟩,hn,ha⟩,hg]
def Nq(h:f Z=.err d):E9 f Z=.err d:=by unfold E9;rw[h];rfl
def yA{F G:Y1}(h:b Z=.ok ZC):E8 b F G Z=F Z:=by unfold E8;rw[h];rfl
def mR{F G:Y1}(h:b Z=.ok ZD):E8 b F G Z=G Z:=by unfold E8;rw[h];rfl
def uD{F:Y1}{h:En->Str->Rs T}{t:T}(e:F Z=.err d)(e2:h Z d=.ok t):rN F h Z=.ok (.rt t):=by unfold rN;rw[e];dsimp only;rw[e2]
def si{t:T}(h:aw cs t=ZC):noL t=ZC:=by obtain⟨c,k,rfl⟩:=aJ h;rfl
def sj{t:T}(h:aw cs t=ZC):t.pl=ZC/\t.dep<=1:=by obtain⟨c,k,rfl⟩:=aJ h;exact⟨rfl,by simp[T.dep,deps]⟩
def GR.noL(h:GR r):Tr.noL r=ZC:=yh h.pl h.nk
def St.noL(h:St s):Tr.noL s=ZC:=yh h.pl.1 h.pl.2
theorem Dm{t:T}:∀{l:List T},t∈lp R l->∃x∈l,∃y∈l,t=Gw x y
 |[],h=>by cases h
 |x::r,h=>by
  unfold lp at h;rcases PZ.mp h with h|h
  ·obtain⟨y,hy,rfl⟩:=Qa.mp h
   exact⟨x,.head _,y,.tail _ (Ur.mp hy).1,rfl⟩
  ·obtain⟨a,ha,b,hb,rfl⟩:=Dm h
   exact⟨a,.tail _ ha,b,.tail _ hb,rfl⟩
theorem Dn{R:T}:∀{l:List T},(lp R l).length<=l.length*l.length
 |[] =>by unfold lp;simp
 |x::r=>by
  unfold lp;rw[PK,Py,PH]
  have h1:=TX (q2 R x) r
  have h2:=Dn (R:=R) (l:=r)
  have:(r.length+1)*(r.length+1)=r.length*r.length+2*r.length+1:=by rw[Nat.add_mul,Nat.mul_add];omega
  omega
structure Tl (l:List T):Prop where
 no:noLs l=ZC
 el:∀t∈l,t.pl=ZC/\t.dep<=8
 ln:l.length<=300
def Tl.lst{l:List T}(h:Tl l):(T.lst l).pl=ZC/\(T.lst l).dep<=9:=⟨by rw[CI];exact eI λt ht=>(h.el t ht).1,by unfold T.dep;have:=oO (n:=8) λt ht=>(h.el t ht).2;omega⟩
variable{ls:List T}
section
def L3(g:Good cs ls)(h:aw cs e=ZC):Tl (sk (RR cs ls) e):=by
 obtain⟨_,h3,h4⟩:=Bs g h;exact⟨jA λt ht=>si (h3 t ht),λt ht=>⟨(sj (h3 t ht)).1,by have:=(sj (h3 t ht)).2;omega⟩,by omega⟩
def L4(g:Good cs ls):Tl (lp (RR cs ls) (bB 0 cs)):=by
 have hm:∀t∈lp (RR cs ls) (bB 0 cs),noL t=ZC/\t.pl=ZC/\t.dep<=8:=λt ht=>by
  obtain⟨x,hx,y,hy,rfl⟩:=Dm ht;obtain⟨c,k,rfl⟩:=aJ (nv hx);obtain⟨c',k',rfl⟩:=aJ (nv hy);exact⟨rfl,rfl,by simp[Gw,T.dep,deps]⟩
 refine⟨jA λt ht=>(hm t ht).1,λt ht=>(hm t ht).2,?_⟩
 have h1:=l5 g.c
 have h2:=Dn (R:=RR cs ls) (l:=bB 0 cs)
 have:(bB 0 cs).length*(bB 0 cs).length<=16*16:=VU h1 h1;omega
def FJ(f:fI N2)(i m:Nat)(hm:m<=4):Tl (rL f i m):=by
 have hh:∀t∈rL f i m,noL t=ZC/\t.pl=ZC/\t.dep<=8:=λt ht=>by
  unfold rL at ht;obtain⟨k,_,rfl⟩:=Qa.mp ht
  have:=Mj f ⟨i,(k:Nat)⟩ ⟨i,((k+1:Nat):Int)⟩;refine⟨?_,this.1,by omega⟩
  unfold jc LR oI
  split <;> split <;> rfl
 exact⟨jA λt ht=>(hh t ht).1,λt ht=>(hh t ht).2,by unfold rL;simp;omega⟩
variable{P:List N2}
def wt(R:Rd cs ls L P)(n:fJ L):nE L P (table P L):=(vo R.f.ends λu _ y h=>Int.not_lt.mp λz=>AK h z n).2
def NU(R:Rd cs ls L P)(n:fJ L):∃v,dX [RR cs ls]=.ok v/\v.pl=ZC/\v.dep<=9:=by
 have F:=wt R n
 have hz:∀t∈ls,∃z,bF [RR cs ls,t]=.ok z/\z.pl=ZC/\z.dep<=5:=λt ht=>by
  obtain⟨a,c,x,y,rfl,ha,hc,m,hm⟩:=R.Pp ht;obtain⟨d,hd,_⟩:=F.le c hc a m (.one hm);exact⟨_,R.nar n F ha hc x y hd,Ku _ _ _ _⟩
 refine⟨_,wa rfl R.g.n (R.OV n) λt ht=>let ⟨z,e,_⟩:=hz t ht;⟨z,e⟩,?_,?_⟩
 ·have hc:(T.tup cs).pl=ZC:=R.g.parts.1
  refine j0 hc ?_
  rw[eG];refine eI λt ht=>?_
  obtain⟨u,hu,rfl⟩:=Qa.mp ht;obtain⟨z,e,p,_⟩:=hz u hu;unfold LQ;rw[e];exact p
 ·have h1:=(tS R.g).1
  have h2:(T.tup (ls.map (LQ (RR cs ls)))).dep<=6:=iQ λt ht=>by
   obtain⟨u,hu,rfl⟩:=Qa.mp ht;obtain⟨z,e,_,d⟩:=hz u hu;unfold LQ;rw[e];exact d
  simp only[T.dep,deps]at h1 h2 ⊢;omega
end
def Fd(l:List T):Prop:=∀t∈l,t.pl=ZC/\t.dep<=10
def Fd.app{m:List T}(h:Fd l)(h2:Fd m):Fd (l++m):=λt ht=>(PZ.mp ht).elim (h t) (h2 t)
def Fd.one{t:T}(h:t.pl=ZC)(d:t.dep<=10):Fd [t]:=λu hu=>by rw[PL.mp hu];exact⟨h,d⟩
theorem ze(a b c:Sl):∀(LS:List (List T))(fd:List T),(∀l∈LS,Tl l)->fd.length+LS.length<=900->rg 5 L1 LS [a,b,c,.em,.ow (.lst fd),.em]=.ok (.nx [a,b,c,.em,.ow (.lst (fd++LS.map T.lst)),.em])
 |[],fd,_,_=>by rw[TL,Ql];rfl
 |l::LS,fd,h,hl=>by
  rw[PH]at hl
  have hl0:=(h l (.head _)).ln
  have e:L1 [a,b,c,.em,.ow (.lst fd),.ow (.lst l)]=.ok (.nx [a,b,c,.em,.ow (.lst (fd++[.lst l])),.ow (.lst (l++[.str "zz"]))]):=by
   refine(aB (Z':=[a,b,c,.em,.ow (.lst (fd++[.lst l])),.ow (.lst l)]) (lX (l:=fd) (t:=.lst l) rfl rfl (by omega))).trans ?_
   exact lX (l:=l) (t:=.str "zz") rfl rfl (by omega)
  rw[rg]
  show(L1 [a,b,c,.em,.ow (.lst fd),.ow (.lst l)] >>= _)=_
  rw[e,ax]
  show rg 5 L1 LS [a,b,c,.em,.ow (.lst (fd++[.lst l])),.em]=_
  rw[ze a b c LS (fd++[T.lst l]) (λm hm=>h m (.tail _ hm)) (by rw[PK,QN];omega),PF,Qy]
  rfl
variable{F0:T}
def Okk.rcd(h:Okk F0 P A):aE [SV P A]=.ok (lr P)/\GR (lr P):=by
 obtain⟨P',w,r,e,hr,_⟩:=h.last;rw[e,G5];exact⟨IF P' A w r,hr⟩
def Okk.gd(h:Okk F0 P A):di [SV P A]=.ok (jI P):=Lo λs hs=>by
 obtain⟨w,r,e,hr,_⟩:=h.st s (Qb _ hs);exact⟨w,r,e,hr⟩
def Jc(h:Okk F0 P A)(a c d e:Sl)(fd:List T)(hf:Fd fd)(hl:fd.length<=1000):∃v,toR [a,.va (SV P A),c,d,.ow (.lst fd),e]=.ok (.rt v)/\v.pl=ZC/\v.dep<=20:=by
 obtain⟨er,hr⟩:=h.rcd
 have hg:(jI P).pl=ZC/\(jI P).dep<=10:=by
  rcases h.lg with z|z
  ·rw[z];exact⟨rfl,by simp[T.dep]⟩
  ·exact⟨z.pl,by have:=z.dep;omega⟩
 have hw:Fd (fd++[lr P,jI P,.tup [.int ((P.length:Int) - 1),.int (A.length:Nat)]]):=hf.app λt ht=>by
  simp only[PJ,Ra,or_false]at ht;rcases ht with rfl|rfl|rfl
  ·exact⟨hr.pl,by have:=hr.dep;omega⟩
  ·exact hg
  ·exact⟨rfl,by simp[T.dep,deps]⟩
 refine⟨.lst (fd++[lr P,jI P,.tup [.int ((P.length:Int) - 1),.int (A.length:Nat)]]),?_,?_,?_⟩
 ·have k3:∀{gm:List T->Rs T}{m:Str}{x:T},(["past","ahead"]:List Str).contains m=ZD->gm [SV P A]=.ok x->nj "Sketch" m gm (vr 1) ai [a,.va (SV P A),c,d,.va (.lst fd),e]=.ok x:=λhm hx=>DF (c:="Sketch") (ns:=["past","ahead"]) (ts:=[.lst P,.lst A]) rfl hm rfl hx
  refine z6 (i:=4) ?_
  show aM _ [a,.va (SV P A),c,d,.va (.lst fd),e]=_
  refine cf (aI (t:=.lst fd) (u:=.lst [lr P,jI P,.tup [.int ((P.length:Int) - 1),.int (A.length:Nat)]]) rfl (nu (au (k3 (by decide) er) (au (k3 (by decide) h.gd) (au (k3 (by decide) (w8 P A)) rfl))) (aD (k:=3) (by simp))) ?_)
  show jg _=_
  unfold jg;rw[if_pos]
  have:=RB;rw[PK];simp only[PH,RP];omega
 ·rw[CI];exact eI λt ht=>(hw t ht).1
 ·unfold T.dep
  have:=oO (n:=10) λt ht=>(hw t ht).2
  omega
def Ef{t:T}(h:t∈iw (bB 0 cs) ZB (ZA 3)):t∈bB 0 cs:=by
 unfold iw at h;exact Ud (Uc h)
def uR(l:List T):(iw l ZB (ZA 3)).length<=l.length:=by
 unfold iw;rw[Ri,R1];omega
def Jh(L:List T)(n:Nat):(stp L n).pl=ZC/\(stp L n).dep<=10:=by
 unfold stp
 have hh:∀t∈(rng 0 n).map (λt=>T.int ((L.filter λx=>aX (at_ x 0) t).length:Nat)),t.pl=ZC/\t.dep<=0:=λt ht=>by
  obtain⟨u,_,rfl⟩:=Qa.mp ht;exact⟨rfl,by simp[T.dep]⟩
 refine⟨by rw[eG];exact eI λt ht=>(hh t ht).1,?_⟩
 have:=iQ (n:=0) λt ht=>(hh t ht).2
 omega
def AO(g:Good cs ls)(s1 s2 s3 s4 s5:Sl):∃z,strip [.va (RR cs ls),s1,s2,s3,s4,s5]=.va (RR cs ls)::z:=by
 have hF:noL (RR cs ls)=ZC:=GR.noL ⟨cs,ls,rfl,g⟩;refine⟨[vc s1,vc s2,vc s3,vc s4,vc s5],?_⟩
 show [vc (.va (RR cs ls)),vc s1,vc s2,vc s3,vc s4,vc s5]=_
 have:vc (.va (RR cs ls))=.va (RR cs ls):=if_pos hF;rw[this]
def Li(g:Good cs ls)(h:Okk F0 P A):∃v,d9 [RR cs ls,SV P A]=.ok v/\v.pl=ZC/\v.dep<=20:=by
 have hev:∀x∈bB 0 cs,aw cs x=ZC:=λx hx=>nv hx
 have hc16:=l5 g.c
 generalize hR:RR cs ls=R
 have hF:noL R=ZC:=by rw[<-hR];exact GR.noL ⟨cs,ls,rfl,g⟩
 have hsk:∀e∈bB 0 cs,c9 [R,e]=.ok (.lst (sk R e))/\Tl (sk R e):=λe he=>by rw[<-hR];exact⟨(Bs g (hev e he)).1,L3 g (hev e he)⟩
 have hst:∀e∈bB 0 cs,ke [R,e]=.ok (stp (sk R e) cs.length):=λe he=>by rw[<-hR];exact Hq g (hev e he)
 have hup:cz [R]=.ok (.lst (lp R (bB 0 cs)))/\Tl (lp R (bB 0 cs)):=by rw[<-hR];exact⟨Br g,L4 g⟩
 have hst6:∀s1 s2 s3 s4 s5,∃z,strip [.va R,s1,s2,s3,s4,s5]=.va R::z:=by rw[<-hR];exact AO g
 have e0:cb [.tup cs]=.ok (.lst (bB 0 cs)):=w6 cs g.c
 have hix:o2 aR (vr 0) (cn (.int 0)) [.va R,.va (SV P A),.em,.em,.em,.em]=.ok (.tup cs):=by rw[<-hR];exact mU 0 rfl rfl
 obtain⟨L,Q,Rd_⟩:=vN g;obtain⟨hw,ehw,iffw⟩:=Rd_.O9;rw[show(RR cs ls)=R from hR]at ehw
 obtain⟨x,y,r,c0,c1,c4⟩:=qo g (n:=0) (by have:=(bf g.c).2.1;omega)
 have hsp:hw=ZC->∃l v,kf [R,.int 0]=.ok (.lst l)/\Tl l/\dX [R]=.ok v/\v.pl=ZC/\v.dep<=9:=λz=>by
  have n:=iffw.mp z;obtain⟨v,ev,vp,vd⟩:=NU Rd_ n
  have es:=Rd_.spans n (wt Rd_ n) ⟨c0,c1,c4⟩;rw[show(RR cs ls)=R from hR]at es ev
  exact⟨_,v,es,FJ _ _ _ c4,ev,vp,vd⟩
 have bM:∀(LS:List (List T))(fd:List T),(∀l∈LS,Tl l)->LS.length<=100->Fd fd->fd.length<=100->∃v,aF (kR 3 5 L1) toR [.va R,.va (SV P A),.va (.lst (bB 0 cs)),.ow (.ll LS),.ow (.lst fd),.em]=.ok (.rt v)/\v.pl=ZC/\v.dep<=20:=λLS fd h1 h2 h3 h4=>by
  rw[aB (Hf (ls:=LS) rfl (ze _ _ _ LS fd h1 (by omega)))]
  exact Jc h _ _ _ _ _ (h3.app λt ht=>by
   obtain⟨l,hl,rfl⟩:=Qa.mp ht
   have:=(h1 l hl).lst;exact⟨this.1,by omega⟩) (by rw[PK,Py];omega)
 have key:∃v,jU [.va R,.va (SV P A),.em,.em,.em,.em]=.ok (.rt v)/\v.pl=ZC/\v.dep<=20:=by
  unfold jU;rw[aB (Z':=[.va R,.va (SV P A),.va (.lst (bB 0 cs)),.em,.em,.em]) (cO (aQ (ts:=[.tup cs]) (au hix rfl) e0) rfl)]
  have n1:Kw (iS (sl (vr 2) pN (pS (cn (.int 3))))) [ZB,ZA 0] (gN 0) (cl c9 (ae (vr 1) (ae (vr 0) ai))) [.va R,.va (SV P A),.va (.lst (bB 0 cs)),.em,.em,.em]=.ok ((iw (bB 0 cs) ZB (ZA 3)).map (sk R)):=
   Nv (kL (Ir (l:=bB 0 cs) (lo:=ZB) (hi:=ZA 3) rfl rfl rfl)) (by have:=uR (bB 0 cs);omega) (by simp) λt ht=>by
    have he:=Ef ht
    show cl c9 (ae (vr 1) (ae (vr 0) ai)) [vc (.va t),vc (.va R)]=_
    have q1:vc (.va t)=.va t:=if_pos (si (hev t he))
    have q2:vc (.va R)=.va R:=if_pos hF;rw[q1,q2];exact aQ (ts:=[R,t]) rfl (hsk t he).1
  have n2:nL (pV (cl cz (ae (vr 0) ai)) Ba) [.va R,.va (SV P A),.va (.lst (bB 0 cs)),.em,.em,.em]=.ok [lp R (bB 0 cs)]:=Nx (by
   obtain⟨z,ez⟩:=hst6 (.va (SV P A)) (.va (.lst (bB 0 cs))) .em .em .em;rw[ez];exact aQ (ts:=[R]) rfl hup.1)
  have hLS:∀l∈(iw (bB 0 cs) ZB (ZA 3)).map (sk R)++[lp R (bB 0 cs)],Tl l:=λl hl=>by
   rcases PZ.mp hl with hl|hl
   ·obtain⟨e,he,rfl⟩:=Qa.mp hl
    exact(hsk e (Ef he)).2
   ·rw[PL.mp hl];exact hup.2
  have hLl:((iw (bB 0 cs) ZB (ZA 3)).map (sk R)++[lp R (bB 0 cs)]).length<=50:=by
   rw[PK,Py]
   have:=uR (bB 0 cs);simp only[PH,RP];omega
  have n3:=K2 n1 n2 (by rw[Py];have:=uR (bB 0 cs);simp only[PH,RP];omega)
  generalize (iw (bB 0 cs) ZB (ZA 3)).map (sk R)++[lp R (bB 0 cs)]=LS at hLS hLl n3
  rw[aB (Z':=[.va R,.va (SV P A),.va (.lst (bB 0 cs)),.ow (.ll LS),.em,.em]) (Hb n3 (by simp) (Qk.mpr λl hl=>(hLS l hl).no))]
  have hfd:Fd ((bB 0 cs).map λe=>stp (sk R e) cs.length):=λt ht=>by
   obtain⟨e,_,rfl⟩:=Qa.mp ht;exact Jh _ _
  have hfl:((bB 0 cs).map λe=>stp (sk R e) cs.length).length<=16:=by rw[Py];exact hc16
  have n4:fL (iS (vr 2)) [ZB,ZA 0] (gN 0) bT (cl ke (ae (vr 1) (ae (vr 0) ai))) [.va R,.va (SV P A),.va (.lst (bB 0 cs)),.ow (.ll LS),.em,.em]=.ok (.lst ((bB 0 cs).map λe=>stp (sk R e) cs.length)):=
   mT (ts:=bB 0 cs) (kL (l:=bB 0 cs) rfl) (aD (k:=16) hc16) (by simp) λt ht=>aQ (ts:=[R,t]) rfl (hst t ht)
  generalize (bB 0 cs).map (λe=>stp (sk R e) cs.length)=fd at hfd hfl n4
  rw[aB (Z':=[.va R,.va (SV P A),.va (.lst (bB 0 cs)),.ow (.ll LS),.ow (.lst fd),.em]) (by
   unfold pf;rw[n4]
   rfl)]
  have tw:tb (cl a7 (ae (vr 0) ai)) [.va R,.va (SV P A),.va (.lst (bB 0 cs)),.ow (.ll LS),.ow (.lst fd),.em]=.ok hw:=cJ (aQ (ts:=[R]) rfl ehw)
  cases hw with
  |false=>
   rw[aB (Z':=[.va R,.va (SV P A),.va (.lst (bB 0 cs)),.ow (.ll LS),.ow (.lst fd),.em]) ((fH tw).trans rfl)]
   exact bM LS fd hLS (by omega) hfd (by omega)
  |true=>
   obtain⟨l,v,es,tl,ev,vp,vd⟩:=hsp rfl;obtain⟨z,ez⟩:=hst6 (.va (SV P A)) (.va (.lst (bB 0 cs))) (.ow (.ll LS)) (.ow (.lst fd)) .em
   have s1:kU 3 (cl kf (ae (vr 0) (ae (cn (.int 0)) ai))) [.va R,.va (SV P A),.va (.lst (bB 0 cs)),.ow (.ll LS),.ow (.lst fd),.em]=.ok (.nx [.va R,.va (SV P A),.va (.lst (bB 0 cs)),.ow (.ll (LS++[l])),.ow (.lst fd),.em]):=Hg (ls:=LS) rfl (by rw[ez];exact aQ (ts:=[R,.int 0]) rfl es) (by omega) tl.no
   have s2:gQ 4 (cl dX (ae (vr 0) ai)) [.va R,.va (SV P A),.va (.lst (bB 0 cs)),.ow (.ll (LS++[l])),.ow (.lst fd),.em]=.ok (.nx [.va R,.va (SV P A),.va (.lst (bB 0 cs)),.ow (.ll (LS++[l])),.ow (.lst (fd++[v])),.em]):=lX (l:=fd) (aQ (ts:=[R]) rfl ev) rfl (by omega)
   rw[aB (Z':=[.va R,.va (SV P A),.va (.lst (bB 0 cs)),.ow (.ll (LS++[l])),.ow (.lst (fd++[v])),.em]) ((gJ tw).trans ((aB s1).trans s2))];refine bM (LS++[l]) (fd++[v]) (λm hm=>(PZ.mp hm).elim (hLS m) λz=>by rw[PL.mp z];exact tl) (by rw[PK,QN];omega) (hfd.app (.one vp (by omega))) (by rw[PK,QN];omega)
 obtain⟨v,ev,vp,vd⟩:=key;exact⟨v,bA rfl ev,vp,vd⟩
def Lq{t:T}(h:GR r)(hx:bz [r,t]=.err d):bZ [.ow (SK (P++[sp w r]) A),.va t]=.err d:=
 oA rfl (DL (P:=P++[sp w r]) (A:=A) (Z:=[.ow (SK (P++[sp w r]) A),.va t]) rfl (aQ (au (nt rfl h) rfl) hx))
def A5(g:Good cs ls):b7 [RR cs ls,.non]=.err "NoRecord":=by
 have hl:=g.n;rw[lM g.parts.1 g.pls (by omega) rfl g.ok]
 unfold mr
 have:dJ (.tup [.tup cs,.tup (ls++[.non])])=ZD:=by
  show(aZ (.tup cs)&&(dB (.tup (ls++[.non])) 0 8&&(ls++[T.non]).all (bp cs)))=ZD
  rw[Uw]
  have:([T.non].all (bp cs))=ZD:=rfl;rw[this];simp
 rw[this];rfl
def Kp(g:Good cs ls):bz [RR cs ls,.int (-1)]=.err "NoNumber":=by
 refine qe rfl ?_
 show cZ [.va (RR cs ls),.va (.int (-1)),.em]=_
 unfold cZ;rw[aB (ir (t:=.non) (aQ (ts:=[RR cs ls]) rfl (dv g.p g.ok)))];rw[aB (Z':=[.va (RR cs ls),.va (.int (-1)),.va (.tup ls)]) (cO (mU 1 rfl rfl) rfl)];exact DD (Iz (aQ (ts:=[.int (ls.length:Nat),.int (-1)]) (au (aQ (ts:=[.tup ls]) rfl rfl) rfl) (A9 rfl (by unfold aY;simp))))
def GU(g:Good cs ls):bR [RR cs ls,.int 0,.int (-1)]=.err "NoRecord":=by
 obtain⟨x,y,r,c0,c1,c4⟩:=qo g (n:=0) (by have:=(bf g.c).2.1;omega)
 have hp:(T.tup (r.map T.int)).pl=ZC:=by rw[eG];exact eI λt ht=>by obtain⟨i,_,rfl⟩:=Qa.mp ht;rfl
 have e:=kH (n:=0) (u:=.int (-1)) g (by have:=(bf g.c).2.1;omega) c0 (by rw[Py];exact c4) rfl rfl hp rfl
 refine Eq.trans e ?_
 have hb:bj (.tup [.int x,.int y,.tup (r.map T.int++[.int (-1)])])=ZD:=by
  have hw:((r.map T.int++[T.int (-1)]).all λu=>aY u 0 99)=ZD:=by
   rw[Uw]
   have:([T.int (-1)].all λu=>aY u 0 99)=ZD:=rfl
   rw[this,Sy]
  show(dB _ 3 3&&(pw (.int x) (.int y)&&(dB _ 1 4&&(((r.map T.int++[T.int (-1)]).all λu=>aY u 0 99)&&_))))=ZD
  rw[hw,S2,Sy,Sy,Sy]
 have hc:dJ (.tup [.tup (kX cs 0 (.tup [.int x,.int y,.tup (r.map T.int++[.int (-1)])])),.tup ls])=ZD:=by
  have ha:(kX cs 0 (.tup [.int x,.int y,.tup (r.map T.int++[.int (-1)])])).all bj=ZD:=by
   unfold kX;rw[Uw,Uw]
   have:([T.tup [.int x,.int y,.tup (r.map T.int++[.int (-1)])]].all bj)=ZD:=by rw[Ug,hb,S2]
   rw[this,Sy,S2]
  show((dB _ 1 4&&(kX cs 0 _).all bj)&&_)=ZD
  rw[ha,Sy,S2]
 unfold mr;rw[hc];rfl
def C9:eJ [.ow (SK P [])]=.err "Nothing":=by
 refine oA rfl ?_
 show gB [.ow (SK P []),.em]=_
 unfold gB
 have hb:BP 0 (tb (o2 kn (o1 (n5 "Sketch" "ahead") (vr 0)) (gq ai))) [.ow (SK P []),.em]=.ok ZC:=DJ (cJ (aI (t:=.lst []) (u:=.lst []) (wI (ns:=["past","ahead"]) (ts:=[.lst P,.lst []]) rfl (Ac _ _)) (nu rfl (aD (k:=0) (by simp))) (uM rfl (by simp[T.dep,deps]))))
 unfold jE Bd;rw[hb]
 rfl
abbrev N9(k:Int)(P:List T):En:=[.va (.int k),.va (SV P []),.em]
def Okk.vm(h:Okk F0 P []){k:Int}{m:Str}{fs:Y0}(hm:(["past","ahead"]:List Str).contains m=ZD)(hs:fs (N9 k P)=.ok as)(ha:noLs as=ZC)(hg:g (.ow (SK P [])::as.map Sl.va)=.err d):E9 (hY 1 "Sketch" m g fs) (N9 k P)=.err d:=by
 refine Nq (Ha (ns:=["past","ahead"]) (ts:=[.lst P,.lst []]) (ls:=[P,[]]) rfl rfl hs hm ?_ ha hg)
 have hP:noLs P=ZC:=jA λs hs=>(h.st s (Qb _ hs)).noL
 simp only[Ug,List.all_nil,hP,Wj,Tj]
 rfl
def l6(k n:Int)(P:List T):tb (o2 kn (vr 0) (cn (.int n))) (N9 k P)=.ok (decide (k=n)):=by
 refine cJ (aI (t:=.int k) (u:=.int n) rfl rfl ?_)
 have:kn (.int k) (.int n)=.ok (.bl (k == n)):=rfl;rw[this,Vu]
def NT(h:Okk F0 P [])(k:Nat)(hk:k<4):cW [.int (k:Nat),SV P []]=.ok (.bl ZC):=by
 obtain⟨P',w,r,e,hr,_⟩:=h.last
 have hr':=hr;obtain⟨cs,ls,rfl,g⟩:=hr'
 have w0:bH [.ow (SK P []),.va .non]=.err "NoRecord":=by rw[e];exact wY hr (A5 g)
 have w1:bZ [.ow (SK P []),.va (.int (-1))]=.err "NoNumber":=by rw[e];exact Lq hr (Kp g)
 have w2:bO [.ow (SK P []),.va (.int 0),.va (.int (-1))]=.err "NoRecord":=by rw[e];exact Ah hr (GU g)
 refine bA rfl ?_
 show gz (N9 (k:Nat) P)=_
 unfold gz
 have cases4:k=0\/k=1\/k=2\/k=3:=by omega
 rcases cases4 with rfl|rfl|rfl|rfl
 ·exact uD ((yA (l6 _ _ _)).trans (h.vm (as:=[.non]) (by decide) rfl rfl w0)) rfl
 ·exact uD ((mR (l6 _ _ _)).trans ((yA (l6 _ _ _)).trans (h.vm (as:=[.int (-1)]) (by decide) rfl rfl w1))) rfl
 ·exact uD ((mR (l6 _ _ _)).trans ((mR (l6 _ _ _)).trans ((yA (l6 _ _ _)).trans (h.vm (as:=[.int 0,.int (-1)]) (by decide) rfl rfl w2)))) rfl
 ·exact uD ((mR (l6 _ _ _)).trans ((mR (l6 _ _ _)).trans ((mR (l6 _ _ _)).trans (h.vm (as:=[]) (by decide) rfl rfl C9)))) rfl
def Okk.Pl(h:Okk F0 P [])(hn:ns.length<=63)(a:Nat)(hl:P.length<39):∃P',c7 [.va (.scr ns),.va (.int (a:Nat)),.ow (SK P [])]=.ok (.non,SK P' [])/\Okk F0 P' []/\P'.length<=P.length+1:=by
 obtain⟨P0,w,r,rfl,hr,hw⟩:=h.last;obtain⟨o,e,hs⟩:=Lj ns hn a (P:=P0) (A:=[]) (w:=w) (r:=r) hr (by simp at hl ⊢;omega)
 rcases hs with rfl|⟨v,r',hv,hr',rfl⟩
 ·exact⟨_,e,h,by omega⟩
 ·refine⟨_,e,⟨?_,λs hs=>?_,by simp at hl ⊢;omega⟩,by simp⟩
  ·obtain⟨P',e'⟩:=h.bt
   exact⟨P'++[sp (.str v) r'],by rw[e'];rfl⟩
  ·rw[Ql]at hs
   rcases PZ.mp hs with z|z
   ·exact h.st s (Qb _ z)
   ·rw[PL.mp z];exact⟨_,_,rfl,hr',.inr ⟨v,rfl⟩⟩
abbrev LE(ns:List Int)(F:T)(o:OT)(k f:Sl):En:=[.va (.scr ns),.va F,.ow o,.ow (SK [sp .non F] []),k,f]
theorem zh{F:T}(hn:ns.length<=63):∀(js:List Nat){P:List T}(k:Sl),Okk F P []->P.length+js.length<=30->∃P' k',Okk F P' []/\bq (gN 4) stF (js.map λ(j:Nat)=>T.int j) (LE ns F (SK P []) k .em)=.ok (.nx (LE ns F (SK P' []) k' .em))
 |[],P,k,h,_=>⟨P,k,h,rfl⟩
 |j::js,P,k,h,hl=>by
  rw[PH]at hl;obtain⟨P1,e1,h1,l1⟩:=h.Pl hn (80+10*j) (by omega)
  obtain⟨P2,k2,h2,e2⟩:=zh hn js (.va (.int (j:Nat))) h1 (by omega)
  refine⟨P2,k2,h2,?_⟩
  rw[PF,eQ (Z1:=LE ns F (SK P []) (.va (.int (j:Nat))) .em) (Z2:=LE ns F (SK P1 []) (.va (.int (j:Nat))) .em) rfl ?_,e2]
  refine NF (t:=.non) (KR (o:=SK P []) (ts:=[.scr ns,.int ((80+10*j:Nat):Int)]) rfl (au rfl (au (aI (t:=.int 80) (u:=.int (10*(j:Int))) rfl (aI rfl rfl (ni (by omega) (by omega))) ?_) rfl)) e1)
  show Rs.ok (T.int (80+10*(j:Int)))=_
  rw[show(80+10*(j:Int))=((80+10*j:Nat):Int)by omega]
def pure_law(ns:List Int)(hn:ns.length<=63):m_law [.scr ns]=.ok (.bl ZC):=by
 refine bA rfl ?_
 show E7 [.va (.scr ns),.em,.em,.em,.em,.em]=_
 unfold E7;obtain⟨cs,ls,e0,hc,h3,hs,hl,h2⟩:=Lp ns hn 0 4 (by omega)
 obtain⟨hr,hsm⟩:=Jr hc hs hl (by omega)
 have hF:GR (RR cs ls):=GR.of (zl _ hsm) hr
 have g:Good cs ls:=zo hr (zl _ hsm);rw[aB (Z':=[.va (.scr ns),.va (RR cs ls),.em,.em,.em,.em]) (cO (aQ (ts:=[.scr ns,.int 0,.int 4]) rfl e0) rfl)]
 have ht:=λ{P A:List T}(h:Okk (RR cs ls) P A)=>Li g h
 generalize RR cs ls=F at hF ht
 rw[aB (Z':=[.va (.scr ns),.va F,.ow (SK [sp .non F] []),.em,.em,.em]) (DG (ts:=[F]) rfl (Ej hF) (by simp))]
 rw[aB (Z':=LE ns F (SK [sp .non F] []) .em .em) (DG (ts:=[F]) rfl (Ej hF) (by simp))]
 obtain⟨d,ed,d0,d1⟩:=cK ns 70 4 hn (by omega)
 obtain⟨d,rfl⟩:=Qi d0;obtain⟨P,k,h,e⟩:=zh (ns:=ns) hn (Q2 (1+d)) .em (Okk.first hF) (by simp;omega)
 rw[<-om]at e;rw[aB (gK (Hj (j:=((1+d:Nat):Int)) (au (aI (t:=.int 1) (u:=.int (d:Nat)) rfl (aQ (ts:=[.scr ns,.int 70,.int 4]) rfl ed) rfl) rfl) (by omega) (by omega)) e)]
 obtain⟨v,ev,vp,vd⟩:=ht h;rw[aB (Z':=[.va (.scr ns),.va F,.va (SV P []),.ow (SK [sp .non F] []),k,.va v]) (z6 (i:=2) (cO (Z:=[.va (.scr ns),.va F,.va (SV P []),.ow (SK [sp .non F] []),k,.em]) (aQ (ts:=[F,SV P []]) rfl ev) rfl))]
 have lc:fL (iR (ae (cn (.int 4)) ai)) [ZB,ZA 2] (gN 0) bT (cl cW (ae (vr 0) (ae (vr 1) ai))) [.va (.scr ns),.va F,.va (SV P []),.ow (SK [sp .non F] []),k,.va v]=.ok (.lst ((rng 0 (4:Nat)).map λ_=>T.bl ZC)):=
  mT (ts:=rng 0 (4:Nat)) (Hj (j:=((4:Nat):Int)) rfl (by omega) (by omega)) (by rw[iG];exact aD (k:=4) (by omega)) (by simp) λt ht=>by
   obtain⟨j,rfl,hj⟩:=iF ht;exact aQ (ts:=[.int (j:Nat),SV P []]) rfl (NT h j (by omega))
 have tin:tb (o2 IB (cn (.bl ZD)) (fL (iR (ae (cn (.int 4)) ai)) [ZB,ZA 2] (gN 0) bT (cl cW (ae (vr 0) (ae (vr 1) ai))))) [.va (.scr ns),.va F,.va (SV P []),.ow (SK [sp .non F] []),k,.va v]=.ok ZD:=cJ (aI (t:=.bl ZD) (u:=.lst ((rng 0 (4:Nat)).map λ_=>T.bl ZC)) rfl lc rfl)
 rw[aB (Z':=[.va (.scr ns),.va F,.va (SV P []),.ow (SK [sp .non F] []),k,.va v]) ((fH tin).trans rfl)]
 have tne:tb (o2 v8 (cl d9 (ae (vr 1) (ae (vr 2) ai))) (vr 5)) [.va (.scr ns),.va F,.va (SV P []),.ow (SK [sp .non F] []),k,.va v]=.ok ZD:=cJ (aI (t:=v) (u:=v) (aQ (ts:=[F,SV P []]) rfl ev) rfl (GX vp (by omega)))
 rw[aB (Z':=[.va (.scr ns),.va F,.va (SV P []),.ow (SK [sp .non F] []),k,.va v]) ((fH tne).trans rfl)];refine cf ?_
 have r1:ln 3 (nj "Sketch" "record" aE (vr 3) ai) [.va (.scr ns),.va F,.va (SV P []),.ow (SK [sp .non F] []),k,.va v]=.ok F:=nt (i:=3) (P:=[]) (w:=.non) (A:=[]) rfl hF
 have r2:ln 3 (nj "Sketch" "counts" bh (vr 3) ai) [.va (.scr ns),.va F,.va (SV P []),.ow (SK [sp .non F] []),k,.va v]=.ok (.tup [.int 0,.int 0]):=NG (i:=3) (P:=[sp .non F]) (A:=[]) rfl
 have hd:=hF.dep
 have a1:o2 kn (ln 3 (nj "Sketch" "record" aE (vr 3) ai)) (vr 1) [.va (.scr ns),.va F,.va (SV P []),.ow (SK [sp .non F] []),k,.va v]=.ok (.bl ZC):=aI (t:=F) (u:=F) r1 rfl (uM hF.pl (by omega))
 have a2:o2 kn (ln 3 (nj "Sketch" "counts" bh (vr 3) ai)) (ba (ae (cn (.int 0)) (ae (cn (.int 0)) ai))) [.va (.scr ns),.va F,.va (SV P []),.ow (SK [sp .non F] []),k,.va v]=.ok (.bl ZC):=aI (t:=.tup [.int 0,.int 0]) (u:=.tup [.int 0,.int 0]) r2 (cx rfl (aD (k:=2) (by simp))) (uM rfl (by simp[T.dep,deps]))
 unfold cY;rw[a1];exact a2
end G
end
open PySem PySem.W PyProof.Rows
set_option maxRecDepth 100000 in
set_option maxHeartbeats 0 in
theorem PySem.Challenge.cw_farclocks_k96_again_and_handed_holds : PySem.Challenge.rw_farclocks_k96_again_and_handed.Holds := by
  w_on; o_law
  refine holds_open (q :=G.vw) (loose :=G.lse) (Xt :=λ_ =>true) (XP :=λ_ _ =>True) (Yf :=(Tr.hookC G.asks G.top).obs) (Ya :=(Tr.hookC G.asks G.top).val) (YP :=(Tr.hookC G.asks G.top).says) (N :=9000) (Tr.left_of (by rfl) (by rfl) (λ_ =>rfl) λw os =>?hl) (Tr.hookC G.asks G.top).of (Tr.hookC G.asks G.top).keeps (λ_ _ =>trivial) (λ_ _ _ _ _ =>trivial) (by rfl) (by rfl) (by rfl) (λs _ =>recFacts_of (s :=s) rfl) (by rfl) (by assumption) (by decide +kernel) ⟨rfl, rfl, rfl, rfl, rfl, by decide +kernel⟩ ?hw ?hc
  case hl =>exact G.Pd w os
  case hw =>w_witness2
  case hc =>exact Tr.walk_c (n :=63) (k :=19) (x := "_law_script") (CX :=L2.CX0) (sp :=λK =>Tr.spP K 1 G.m_law) rfl (by decide) rfl ⟨rfl, by decide, by decide⟩ (λw K mg fa h X e g hf =>G.all_ok X e g hf) (λK H a ns hl _ hS =>Tr.sp_script hS (G.pure_law ns hl)) λ_ _ _ _ z =>z
