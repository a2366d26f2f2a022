import PyProof.Rows.All
import Wide.All
import OpenK.AllK
import Wide.FinOn
import Lean
import PyProof.EqAt
import PyProof.EqKinds
import PyProof.TupleCall
import PyProof.ExcClass3
import PyProof.StationsW
import PyProof.ExcBaseAll.ValueError
import PyProof.ExcArgsOwn
import PyProof.IsiBase
import PyProof.IsiH_tuple
import PyProof.ExcAttrAll.ValueError
import PyProof.Rows.RuleN_isinstance
import PyProof.MeetsSeq
import PyProof.RulesAs
import PyProof.IsiH_list
import PyProof.AttrMiss
import KE.KDictOf
import PyProof.Rows.SumAny
import PyProof.Rows.MinMaxN
import PyProof.Rows.SortShellK
import PyProof.Rows.SortWalk
import PyProof.ZipIter
import PyProof.WalksMore
import PyProof.DictWalks
import PyProof.AutoSeq1
import PyProof.Rows.Range3
import PyProof.CollectWalk
import KE.KSortTup
import PyProof.EnumMake
import PyProof.ListRange
import PyProof.SetScanFacts
import PyProof.SetKind
import PyProof.DictKinds
import PyProof.FactsAll.set_0
import PyProof.FactsAll.set_1
import PyProof.FactsAll.set_2
import PyProof.FactsAll.set_3
import PyProof.FactsLen
import PyProof.TupleIter
import PyProof.Rows.SetFrom
import PyProof.Rows.SortShell
import KE.KLam
import PyProof.P3Eq
import PyProof.DictRoadsH
import KE.KEqDict
import PyProof.WalkInts
import PySem.Challenge.RW_farclocks_k50_needs
variable{M a i j k kk m n t' tk:Nat}{Ty newId:String}{ab ab' b hdct hdct' p tt:Bool}{col col':Option Bool}{d s x y:Int}{e:Nat->Bool}{g:Int->Int->Int}{gs:List (List Nat)}{hi lo:Option Int}{ks l w:List Nat}{ms ns r:List Int}{α β κ:Type}
noncomputable section
open PySem.Challenge renaming pw_farclocks_k50_needs→PU,rw_farclocks_k50_needs→UW
open Std.Legacy.Range renaming forIn_eq_forIn_range'→UV
open PySem.AutoListH renaming list___mul___list_int_3→Vy
open PyProof.Rows renaming slot_tuple_getitem→OR,callWith_builtin1→QD,callWith_type1→Pb,subscriptTail_builtinR→Uw,entry_tuple_getitem→Th,args_tuple_getitem→TF,call_isinstance_of→VZ,KK_mirror_equal→Q0,get?_update_seq→UT,slicePart_none→TK,tupleItemsOf_→Ug,listUpdate_at→Uh,subscriptTail→VW,wpS_forRange→SU,listItems_at→WD,Subscript_→UZ,wpS_modify→Wo,setPending→Wp,SortedToK→Qs,pendingOf→R0,wpS_bind→PL,wpS_pure→QC,failedOf→S7,SortKind→U2,IntsAre→Qq,AllBare→Rl,NonIncK→Vs,wpS_get→Xo,SortSt→SQ,Keyed→Xv,IsTup→Xw
open Array renaming eq_empty_of_size_eq_zero→SN,getD_eq_getD_getElem?→Qk,getElem?_eq_some_iff→PY,perm_iff_toList_perm→Tq,length_toList→PP,find?_toList→Vw,forIn_toList→VH,toList→UB
open Int renaming mul_le_mul_of_nonneg_left→SY,eq_ofNat_of_zero_le→Pw,emod_lt_of_pos→TC,toNat_natCast→PD,emod_nonneg→UN,ediv_one→UC,mul_comm→UF,le_refl→Qb,neg_neg→W7
open PySem.F renaming args_tuple_iterator_next_1→S4,entry_tuple_iterator_next→Tc,slot_tuple_iterator_next→Q4,excBase_ValueError→Tj,slot_list_getattribute→Rk,args_tuple_add_2→R7,plainAttrs_list→QN,entry_tuple_add→Sh,args_dict_get_2→T6,slot_list_index→T7,type_list_index→T8,plain_min_loop→P2,slot_tuple_add→Sr,entry_min_loop→Ss,entry_dict_get→Uo,args_list_eq_2→Uq,slot_dict_get→SH,typeOf_object_class→SJ,entry_list_eq→UA,slot_enumerate_next→UH,slot_list_eq→U3,args_list_index_2→Vk,entry_list_index→VB,args_int_rmul_2→V5,slot_tuple_rmul→V7,slot_list_index→V8,slot_tuple_mul→Uj,slot_int_index→WH,entry_int_rmul→WI,slot_int_rmul→S9,fills_int_mul→W5,slot_gs_get→VA
open PySem.Builtin.Slice renaming slicePartIndex→WX,sliceApplied→Q3,slicePlaces→Px,sliceAdjust→P4,sliceFields→TH
open PySem.Builtin.Builtins renaming bindParams→S8
open List renaming getD_eq_getElem?_getD→O6,getElem?_append_right→RU,nodup_iff_pairwise_ne→Ts,getElem?_eq_some_iff→Oj,drop_eq_getElem_cons→Qy,getElem?_append_left→Rc,pairwise_iff_getElem→RW,getElem?_eq_getElem→Og,getElem?_replicate→Rp,getElem?_cons_succ→Rr,filter_cons_of_pos→Sj,getElem?_set_self→OY,drop_eq_nil_of_le→Q2,range_succ_eq_map→RB,take_of_length_le→Sv,mem_append_right→OL,getElem?_eq_none→PQ,length_singleton→QJ,length_filter_le→Q9,take_append_drop→SO,set_getElem_self→UI,mem_cons_of_mem→N9,getElem?_set_ne→O5,mem_append_left→O9,mem_of_getElem?→Pz,mem_of_mem_take→Qo,getElem?_of_mem→S2,getElem_reverse→U5,mem_erase_of_ne→U8,mem_of_mem_drop→U9,map_congr_left→OP,filterMap_cons→P9,replicate_succ→Qa,getElem?_range→Qt,getElem_of_mem→Rq,length_reverse→Vj,drop_succ_cons→Vn,mem_cons_self→Of,length_append→On,mem_singleton→OF,contains_cons→Qi,mem_filterMap→Tw,filterMap_map→Tx,getElem_range→TB,append_of_mem→VI,getElem?_map→Ox,size_toArray→Oy,append_assoc→OU,length_range→OV,nodup_append→PV,flatten_cons→QR,flatMap_cons→QU,reverse_cons→Sy,any_eq_false→TQ,filter_congr→TY,ext_getElem?→V6,mapM_toArray→Wc,pairwise_map→Wd,getElem?_inj→Wf,map_inj_left→Wh,length_cons→Ol,all_eq_true→OH,not_mem_nil→Pe,length_take→Pr,lookup_cons→Pt,getElem_mem→PR,length_drop→QL,getElem_map→Rw,any_eq_true→Rx,ext_getElem→R3,mem_flatMap→R4,filter_cons→SX,drop_length→WK,cons_append→WN,range'_succ→WQ,length_map→Oc,mem_append→OS,nodup_cons→O0,append_nil→PB,map_append→PH,mem_filter→PM,nil_append→P5,length_set→P6,of_mem_zip→Rj,find?_cons→RG,filter_map→Sk,range_succ→Tf,length_nil→UJ,foldl_cons→W4,forIn_cons→W6,length_zip→Xf,idxOf_cons→Xg,replicate→OK,mem_range→OZ,nodup_nil→Re,map_cons→Od,mem_cons→Oh,sum_cons→QP,any_cons→Q7,map_take→S6,map_drop→VL,mem_map→Os,map_map→ON,map_nil→Tz,toArray→Ws,all_map→Wt,set_set→Wy,length→PC,map_id→RH,lookup→R5,range→Oo,Nodup→RP,foldl→TR,getD→UE,cons→Xc,map→VE
open PySem renaming wpAny_newFunctionEnv_cells→Q5,wpAny_binaryOp_repeat_ref→TL,wpAny_getItem_list_slice→T3,wpAny_callSpecial?_slot→Ql,richCompare_meets_room→Sw,wpAny_pyNext_list_item→Ut,wpAny_pyNext_range_end→Uu,wpAny_pyIter_rangeiter→Uv,wpAny_Call_method_late→Ux,builtinLookup_eq_fast→Ra,codeAny_call_function→SS,wpAny_pyNext_list_end→UO,wpAny_isTrue_Compare1→UP,wpAny_notOrdered_dict→US,codeAny_call_builtin→S3,wpAny_loadName_local→Va,mem_of_lookup→QV,wpAny_isSubtype_exc→QY,wpAny_loadName_cell→Vo,wpAny_Call_Name_kw→Pd,tupleKind_room_in1→QK,wpAny_pyIter_tuple→So,wpAny_pyIter_range→VP,wpAny_List_spliced→VQ,wpAny_truthy_bool→Ph,foldedSetIterable→Pj,wpAny_newObj_type→Pu,wpAny_loadPart_at→Pv,wpAny_pyIter_list→SA,wpAny_dictEntries→SE,wpAny_sequenceKey→T2,wpAny_assign_Name→Wl,wpAny_pyIter_enum→Wn,wpAny_call_entry→Q6,noFill_tuple_add→Um,seqSlot_of→WM,wpAny_eqBool_int→WS,wpAny_execs_cons→WT,wpAny_isInstance→WU,lookupAlong_cons→WV,checkBuiltinCall→WW,wpAny_loadPart'→O4,codeAny_builtin→QZ,wpAny_execs_nil→Sm,letOwnedTupleGo→Sn,typeLookup_type→Sq,pushCells_keeps→UR,wpAny_updateSeq→UU,importedModules→Xh,wpAny_passesOwn→Xj,wpAny_ite_split→Xp,size_of_entries→Xq,wpAny_dictEpoch→Xr,recursionLimit→RY,wpAny_seqItems→RZ,wpAny_tryCatch→SF,wpAny_setField→Vd,wpAny_holding→P8,attributeBase→QB,plainId_quiet→Rv,behindInMarks→RS,swapsWithSole→VN,swappedStores→VO,seq_tuple_add→VT,evalPart_none→VV,wpAny_attempt→VY,bootBuiltins→Pc,codeAny_mono→Sd,wpAny_typeOf→Se,codeAny_func→Wz,concat_meets→WA,call_range_1→WB,call_range_2→WC,mainGlobals→OM,sizeLine_eq→PJ,excClassObj→PZ,wpAny_field→Qw,sliceBounds→SC,keywordEach→Tg,wpAny_letGo→Ui,IsRangeIter→Vp,subscripted→Vr,lookupAlong→Xn,wpAny_bind→N8,wpAny_pure→Om,wpAny_mono→Qp,sysModules→Qu,assignEach→Qv,builtinsNs→Sb,call_meets→Sf,typeLookup→SB,wpAny_rule→SD,wpAny_call→UY,typeIs_int→U0,closureFor→U1,entryOfKey→Wj,compareOp→Pp,swapsWith→P7,cellsFrom→QX,Arguments→SR,tupleKind→TZ,codeAmong→T1,pushCells→UQ,seqItems?→VX,slicePick→Xl,noteFrame→Xm,starEach→Oz,FuncData→PX,boot_len→Qm,binaryOp→Qz,NameKind→RQ,GenState→VM,bindArgs→VR,backToKw→VS,Operator→W0,Program→OI,BindsTo→Vq,OsState→Wi,Keyword→Wm,Shared→Oe,Around→OW,Paired→Ul,IsPart→VU,Result→Xk,Value→Ob,World→Py,Scope→RJ,Model→Xi,CmpOp→Xx
open PySem.Builtin.Tuple renaming tupleItemsOf→RT,tupleIsExact→Ti,tupleExact→Pn
open PySem.Calls renaming Name_function_global→To,callWith_builtin→Su,evalArgs_plain→RV,spliced_cons→RC,Constant_str→Vv,spliced_nil→Rh
open PySem.Builtin.SmallTypes renaming nextOf→Rb
open PySem.Builtin.Dict renaming dictSlotArgs→TJ,updateFrom→T9,samePairs→Ur
open PySem.Builtin.List renaming listTooLong→Rg
open Option renaming isSome_iff_exists→R8,map_eq_some_iff→Qr,isSome_some→Vz,isSome_map→V9,getD_none→WG,map_some→Xd,some→Pg
open PySem.Builtin.Range renaming rangeSize→Ro,small→Vf
open Classical renaming propDecidable→Ue
open PySem.Heap renaming get?_push_of_some→Oi,get?_update_other→Pl,get?_update_self→RF,get?_push_size→OA,get?_update_ne→Rt,get?_push_ne→We,size_update→WO,NewAttrErr→W8,size_push→RA,IsSliceOf→Xu,lt_size→Ov,SameBut→SI
open PySem.W renaming cellsFrom_some→Q1,hideAll_none→SZ,hideAll_get→Rn,callWith_K→Sg,of_hideAll→Tt,codeRec_of→Tu,methodObj→TM,kitx_list→V0,kitx_dict→V3,plainGet→WE,kia_one→P3,instObj→Uy,hideAll→Uz,keepIn→Qx,lookIn→Vb,codeIn→Vc,mg_of→RL,Frag→N7,fnOf→R6,nsIn→SG
open PyProof renaming noPylong_small→Us
open PySem.Obj renaming isFreed_of_fields→UG,data_mapFields→Si,mapFields→VC,mapSeq→PF
open Bool renaming and_eq_false_iff→UM,and_eq_true_iff→QM,false_ne_true→OG,false_eq_true→Qg,not_eq_true'→TX,and_eq_true→Oa,eq_iff_iff→Pf,or_eq_true→Td,true_and→Ru,false_or→Ub,and_true→VJ,or_true→Wv,true_or→Ww
open PySem.Around renaming under_plainId→Qn,frames_deeper→U4,units→SM
open Nat renaming le_sub_one_of_lt→S0,sub_one_lt_of_lt→S1,not_succ_lt_self→U7,lt_of_lt_of_le→Ot,lt_of_le_of_lt→RD,add_sub_cancel→VD,lt_succ_of_lt→RN,le_of_succ_le→Sz,le_of_lt_succ→TV,lt_trichotomy→Wb,max_eq_right→SW,succ_le_succ→Uk,lt_succ_self→WJ,succ_ne_self→WL,mod_eq_of_lt→WR,le_antisymm→UK,not_lt_zero→W9,lt_irrefl→Pa,le_trans→OJ,ne_of_lt→O8,le_of_lt→Qc,ne_of_gt→QH,lt_or_ge→Rm,le_of_eq→R9,zero_add→Sa,sub_self→SK,sub_zero→SL,lt_trans→UD,add_comm→Wq,mul_comm→Wr,min_self→Wu,le_refl→Ou,zero_le→Pk,le_succ→Xe,sub_le→Wa
open PySem.Value renaming notImplemented→U6,builtin→RO,none→Po,bool→Pq,type→Ry,ref→OB,int→Qe,str→QF
open PySem.Heap.SameBut renaming update→Ve
open PyProof.Rows.KeyOrd renaming kle_antisymm→Vl,kle_of_klt→TU,kle_trans→SV,kle_refl→RI
open PySem.Heap.IsSliceOf renaming new→Tv
open PySem.SeqAt.EqAt renaming int_int→Vt
open Option.some renaming injEq→Sx,inj→OQ
open List.Pairwise renaming nil→V4
open Function renaming comp_def→Wg
open ForInStep renaming yield→RE
open List.cons renaming injEq→W1
open PySem.Expr renaming Subscript→Qd,Attribute→RX,Constant→S5,ListComp→Ud,UnaryOp→UL,Compare→Wx,BoolOp→Rf,Name→O7,Call→Qj,List→Xa
open PySem.NameKind renaming free→Pm,cell→Qh
open PySem.Value.ref renaming inj→T5
open PySem.Paired renaming length→Ua
open Prod.mk renaming injEq→Vu,inj→T4
open PySem.Str renaming ofString→Oq
open PySem.Stmt renaming Assign→Te
open PySem.Scope renaming names→Uc
open PySem.Pos renaming endLine→Vm,line→R1
open PySem.Data renaming fields→W2
open PySem.IsRange renaming new→W3
open False renaming elim→QQ
open True renaming intro→RM
open PySem.BoolOp renaming And→UX,Or→VG
open PySem.Env renaming scope→Q8
open PyProof.Rows.IsTup renaming new→Vx
open Prod renaming snd→WY,fst→WZ,mk→Vi
open Ne renaming symm→PN
open Iff renaming rfl→Ta
open Sum renaming inl→Vg,inr→Vh
open Or renaming inl→TN
open Option renaming some→ZA,none→ZB
open Bool renaming true→ZC,false→ZD
open PySem renaming Addr→ZE,Stmt→ZF,Expr→ZG,Heap→ZH,sizeLine→ZI,wpAny→ZJ,model→ZK,codeAny→ZL
set_option Elab.async false
set_option compiler.extract_closed false
set_option bootstrap.genMatcherCode false
set_option genSizeOf false
set_option compiler.reuse false
set_option linter.all false
set_option maxRecDepth 100000
set_option maxHeartbeats 8000000
abbrev WF:=PySem.Str->Option Ob
abbrev WP:=Ob->Oe->Prop
abbrev Uf:=List (PySem.Addr×PySem.Obj)
variable{A:OW}{E Q:WP}{K:N7}{M:Xi}{P prog q:OI}{R:Xk->Oe->Prop}{bm bmE bs' its sub' tl us vs:List Ob}{cd cdv f ux v vl vu:Ob}{fd:PX}{k0:U2}{k1 k2 k3 k5:Option Ob}{op:Xx}{os:Wi}{params:SR}{s s' s0 s1:Oe}{sc scope:RJ}{st:SQ}{w:Py}
noncomputable section
abbrev nDb(x:PySem.Str):Prop:=(x == PySem.Str.ofString "__debug__")=ZD
def qr_(h:True:=by first|exact .inl rfl|exact .inr rfl|assumption):True:=trivial
def r_:=qr_._auto_1
def qs_(h:True:=by decide):True:=trivial
def s_:=qs_._auto_1
def qt_(h:True:=by intro _;rfl):True:=trivial
def t_:=qt_._auto_1
def qu_(h:True:=by first|exact TN rfl|exact Or.inr (TN rfl)|exact Or.inr (Or.inr rfl)):True:=trivial
def u_:=qu_._auto_1
def qv_(h:True:=by with_unfolding_all rfl):True:=trivial
def v_:=qv_._auto_1
def qw_(h:True:=by intro _ _;rfl):True:=trivial
def w_:=qw_._auto_1
def qx_(h:True:=by first|exact TN rfl|exact Or.inr rfl):True:=trivial
def x_:=qx_._auto_1
def qy_(h:True:=by decide+kernel):True:=trivial
def y_:=qy_._auto_1
def qz_(h:True:=by exact fsc):True:=trivial
def z_:=qz_._auto_1
namespace L2
open PySem PySem.Spec PyProof.Rows
inductive V where
 |non|bl (b:Bool)|int (i:Int)|str (x:Str)|byt (b:Array UInt8)|flt (b:UInt64)|ref (a:ZE)|ty (n:String)
 deriving DecidableEq
end L2
namespace HT
open PySem PyProof.Rows
noncomputable def sIx(n d:Nat):Option Int->Nat
 |none=>d
 |some v=>if v<0 then(v+(n:Int)).toNat else min v.toNat n
end HT
namespace L2
open PySem PySem.Spec PyProof.Rows
noncomputable def iu(s:ZF):SR:=match s with
 |.FunctionDef _ a _ _ _ _ _ _ _ _=>a
 |_=>{posonlyargs:=[],args:=[],vararg:=ZB,kwonlyargs:=[],kw_defaults:=[],kwarg:=ZB,defaults:=[]}
noncomputable def cZ(s:ZF):List ZF:=match s with
 |.FunctionDef _ _ b _ _ _ _ _ _ _=>b
 |_=>[]
noncomputable def az(s:ZF):RJ:=match s with
 |.FunctionDef _ _ _ _ _ _ sc _ _ _=>sc
 |_=>{kind:=.function,names:=[],isGenerator:=ZD,isCoroutine:=ZD}
end L2
namespace Tr
open PySem PySem.Spec PyProof.Rows L2
inductive T where
 |non|bl (b:Bool)|int (i:Int)|str (x:Str)|tup (l:List T)|lst (l:List T)
 /-- the law's script: a list of ints that is only read -/
 |scr (l:List Int)
 /-- a dict: its keys,its values -/
 |dct (ks vs:List T)
inductive Rs (α:Type) where
 |ok (a:α)|err (c:Str)|bad
noncomputable def Rs.bind{α β:Type}(x:Rs α)(f:α->Rs β):Rs β:=match x with
 |.ok a=>f a
 |.err c=>.err c
 |.bad=>.bad
noncomputable instance:Monad Rs where
 pure:=Rs.ok
 bind:=Rs.bind
abbrev Ow:=ZE->Prop
inductive OT where
 |lst (l:List T)|dct (ks ts:List T)|dd (ks:List T) (rows:List (List T×List T))
noncomputable def OT.view:OT->T
 |.lst l=>.lst l
 |.dct ks ts=>.dct ks ts
 |.dd ks rows=>.dct ks (rows.map λr=>.dct r.1 r.2)
inductive Sl where
 |em|va (t:T)|ow (o:OT)
abbrev En:=List Sl
abbrev Y3:=En->Rs Bool
abbrev Y2:=En->Rs T
abbrev Y0:=En->Rs (List T)
abbrev Mn:=Nat->Ow
def Mn.u(M:Mn):Ow:=λa=>∃i,M i a
section
variable {X:Cx}{a b c:ZG}{fa fb fc:Y2}{pos:Pos}
noncomputable def oj(l:List T)(lo hi:Option Int):List T:=(l.drop (HT.sIx l.length 0 lo)).take (HT.sIx l.length l.length hi - HT.sIx l.length 0 lo)
noncomputable def slT(x:T)(lo hi:Option Int):Rs T:=match x with
 |.tup l=>.ok (.tup (oj l lo hi))
 |.lst l=>.ok (.lst (oj l lo hi))
 |_=>.bad
noncomputable def sl(fe:Y2)(fl fu:En->Rs (Option Int))(Z:En):Rs T:=do
 let x <-fe Z
 let l <-fl Z
 let u <-fu Z
 slT x l u
variable {e:ZG}{es:List ZG}{fs:Y0}{x:Str}{p:Pos}{id:String}{g:List T->Rs T}
end
abbrev nU:List Ob:=[.type "ValueError",.type "Exception",.type "BaseException",.type "object"]
noncomputable def calmNames:List Str:=["__init__","__getattribute__","__getattr__","__class__"]
def B4:Ob->Bool
 |.str _ _=>ZC
 |_=>ZD
noncomputable def cO:List Int->List Int->Bool
 |[],[] =>ZD
 |[],_::_=>ZC
 |_::_,[] =>ZD
 |a::l,b::m=>if a=b then cO l m else decide (a<b)
structure RK where
 V:ZH->Ob->List Int->Prop
 inj:∀{h v a b},V h v a->V h v b->a=b
 on:∀{h h':ZH} {v a},V h v a->(∀b o,h.get? b=ZA o->h'.get? b=ZA o)->V h' v a
 fst:∀{h v a},V h v a->∃ad xs n o m t,v=.ref ad/\h.get? ad=ZA o/\o.cls=.type "tuple"/\o.data=.seq xs n/\xs[0]?=ZA (.int m t)
 lt:∀{prog w A s E x y a b} {Q:Bool->Oe->Prop},A.units+60<cLine->V s.heap x a->V s.heap y b->Q (cO a b) s->ZJ (ZK prog w) A (keyLt' (tuples' ZC) x y) Q E s
variable (R:RK)
open Classical in
def RK.key(h:ZH)(v:Ob):Option (List Int):=if e:∃ns,R.V h v ns then ZA e.choose else ZB
variable {R:RK}
end Tr
namespace Tr
open PySem PySem.Spec PyProof.Rows L2 PySem.W
noncomputable def D7(h:ZH):Frag:=(Oo h.objs.size).filterMap λa=>(h.get? a).map λo=>(a,o)
noncomputable def obF(K:Frag)(n:Str):Option (Str×Str×SR×FuncBody×RJ×ZE×List (Str×ZE)×Ob×ZE×Bool×Bool):=match nsIn K OM n with
 |some (ZA (.ref f))=>match K.lookup f with
  |some ⟨_,_,.func d,_⟩=>ZA (d.name,d.qualname,d.params,d.body,d.scope,d.globals,d.closure,d.defaults,d.builtins,codeIn K d.code n,keepIn K (.ref f))
  |_=>ZB
 |_=>ZB
noncomputable def exF(n:Str)(st:ZF):Option (Str×Str×SR×FuncBody×RJ×ZE×List (Str×ZE)×Ob×ZE×Bool×Bool):=
 ZA (n,n,iu st,.stmts (cZ st),az st,OM,[],.none,Sb,ZC,ZC)
noncomputable def LN(K:Frag)(N:ZE)(n:Str):Bool:=match nsIn K N n with|some ZB=>ZC|_=>ZD
noncomputable def MT(K:Frag)(n:Str):Option Int:=match nsIn K OM n with|some (ZA (.int i _))=>ZA i|_=>ZB
def BX(l:List Ob):Bool:=l == nU
noncomputable def BS(D:Option ZE)(m:List Ob):Bool:=match D with
 |none=>BX m
 |some D=>match m with
  |.ref E::m=>E == D&&BX m
  |_=>ZD
noncomputable def Ge(K:Frag)(D:Option ZE)(n:Str):Option ZE:=match nsIn K OM n with
 |some (ZA (.ref C))=>match K.lookup C with
  |some ⟨.type t,_,.cls c,⟨[_,_,_,_,b,_]⟩⟩=>match c.mro,K.lookup c.ns with
   |.ref E::m,ZA ⟨_,_,.dict es _,_⟩=>
    if (t == "type" &&b == ZA (.builtin "ValueError.__new__")&& !c.hasDel&&(es.toList.all λe=>B4 e.key)&&calmNames.all (LN K c.ns)&&E == C&&BS D m)=ZC then ZA C else ZB
   |_,_=>ZB
  |_=>ZB
 |_=>ZB
noncomputable def yT{α:Type}:List (Option α)->Option (List α)
 |[] =>ZA []
 |none::_=>ZB
 |some a::r=>match yT r with|some l=>ZA (a::l)|none=>ZB
noncomputable def uq:List ZE->Bool
 |[] =>ZC
 |a::r=>(r.all λb=>!(a == b))&&uq r
noncomputable def MS(K:Frag):List Str->Bool
 |[] =>ZC
 |m::es=>match Ge K ZB m with
  |some D=>match yT (es.map (Ge K (ZA D)))with|some l=>uq (l++[D])|none=>ZD
  |none=>ZD
structure rF where
 tab:List (Str×Nat)
 zs:List Str
 cs:List (Str×Int)
 es:List Str
noncomputable def pV(S:rF)(K:Frag):=(S.tab.map (λp=>obF K p.1),S.zs.all (LN K OM),S.cs.map (λc=>MT K c.1),MS K S.es)
noncomputable def nV(S:rF)(top:Nat->ZF):=(S.tab.map (λp=>exF p.1 (top p.2)),ZC,S.cs.map (λc=>ZA c.2),ZC)
noncomputable def E9(K:Frag):Option (ZE×ZE):=match nsIn K OM "most_kept" with
 |some (ZA (.ref f))=>match K.lookup f with
  |some ⟨_,_,.func d,_⟩=>match d.code with
   |.ref c=>match K.lookup c with
    |some ⟨.type n,_,.fields vs,_⟩=>match(vs[11]?:Option Ob)with
     |some (.ref P)=>match(vs[18]?:Option Ob)with
      |some (.str _ _)=>match(vs[7]?:Option Ob)with
       |some (.int _ _)=>match(vs[9]?:Option Ob)with
        |some (.bool _)=>match(vs[10]?:Option Ob)with
         |some (.int _ _)=>if n == "code" &&c != P then ZA (c,P)else ZB
         |_=>ZB
        |_=>ZB
       |_=>ZB
      |_=>ZB
     |_=>ZB
    |_=>ZB
   |_=>ZB
  |_=>ZB
 |_=>ZB
noncomputable def Ky(K:Frag):Bool:=match nsIn K OM "__builtins__" with
 |some (ZA (.ref bm))=>bm != Sb&&bm != OM&&(match K.lookup bm with
  |some ⟨.type n,ZA d,.plain,_⟩=>n == "module" &&d == Sb
  |_=>ZD)
 |_=>ZD
def qy(h:ZH)(P:ZE):Frag:=(D7 h).filter λp=>!(p.1 == P)
noncomputable def zJ(S:rF)(h:ZH):=match E9 (D7 h)with
 |some (_,P)=>(pV S (qy h P),match E9 (qy h P)with
  |some (_,P')=>P' == P&&Ky (qy h P)&&(match h.get? P with
   |some ⟨.none,ZB,.fields ps,sl⟩=>ps.size == 0&&sl.size == 0
   |_=>ZD)
  |none=>ZD)
 |none=>(pV S [],ZD)
end Tr
namespace G
open PySem PySem.Spec PyProof.Rows L2 Tr
noncomputable def top(i:Nat):ZF:=PU.main.body.getD i (.Pass ⟨0,0,0,0⟩)
noncomputable def asks:rF:=⟨([("is_long",17),("is_whole",15),("is_within",16),("is_pace",20),("rises",18),("are_readings",19),("is_clock",21),("are_clocks",22),("is_event",23),("is_delay",24),("is_letter",25),("are_letters",26),("is_record",27),("need_record",28),("bounds_of_clock",32)]:List (Str×Nat))++([("bounds_of_letter",33),("bounds",34),("need_number",29),("events",30),("is_better",37),("settle",36),("greatest_world",39),("world",40),("has_world",41),("need_world",42),("is_needless",48),("all_letters",49),("walks_from",44),("most_of",45),("all_most",46)]:List (Str×Nat))++([("same_worlds",54),("with_only",50),("without",51),("needless_letters",52),("least_letters",53),("sets_of",55),("most_kept",56),("culprits",57),("_law_told",69),("_law_known_one",73),("_law_events",63),("_law_small",65),("_law_bounds",66),("_law_table",67),("_law_cell",59)]:List (Str×Nat))++([("_law_drawn",60),("_law_letter",62),("_law_clock",61),("_law_record",64),("_law_sets",72),("_law_has",71),("_law_needless",70),("_law_stands",74),("law",75),("_law_refused",68)]:List (Str×Nat)),(["ValueError","all","bool","dict","enumerate","int","isinstance","len","list","max","min","range","sorted","tuple"]:List Str),[("MOST_CLOCKS",4),("MOST_LETTERS",8),("MOST_READINGS",4),("LAST_READING",99),("SLOWEST",9),("LONGEST",999)],["ClockError","NoRecord","NoEvent","NoNumber","NoWorld","Barred","Nothing"]⟩
def vw:OI:=PySem.W.view PU [75]
noncomputable def lse:List Str:=(["ClockError","NoRecord","NoEvent","NoNumber","NoWorld","Barred","Nothing","MOST_CLOCKS","MOST_LETTERS","MOST_READINGS","LAST_READING","SLOWEST","LONGEST","is_whole","is_within","is_long","rises","are_readings","is_pace","is_clock"]:List Str)++(["are_clocks","is_event","is_delay","is_letter","are_letters","is_record","need_record","need_number","events","bounds_of_clock","bounds_of_letter","bounds","settle","is_better","greatest_world","world","has_world","need_world","walks_from","most_of"]:List Str)++(["all_most","is_needless","all_letters","with_only","without","needless_letters","least_letters","same_worlds","sets_of","most_kept","culprits","_law_cell","_law_drawn","_law_clock","_law_letter","_law_events","_law_record","_law_small","_law_bounds","_law_table"]:List Str)++(["_law_refused","_law_told","_law_needless","_law_has","_law_sets","_law_known_one","_law_stands"]:List Str)
noncomputable def lhs(w:Py)(h:ZH)(d:Drawn)(t:Nat)(os:Wi):=(PySem.W.topFrom treeTable PU w 9000 ⟨h,⟨[]⟩,d,t,os⟩).map (λs=>(PySem.W.openSeen vw lse (Xh PU.main.body) (λ_=>ZC) ZC s,zJ asks s.heap))
noncomputable def rhs(w:Py):=ZA (PySem.W.openGood vw lse,(nV asks top,ZC))
def lhs_r:lhs=lhs:=rfl
def rhs_r:rhs=rhs:=rfl
end G
section
lay_quick G.lhs G.rhs
name_quick lhsz for G.lhs by G.lhs_r
name_quick rhsz for G.rhs by G.rhs_r
open PySem PySem.W PyProof.Rows
set_option maxRecDepth 100000 in
theorem G.NX(w:Py)(os:Wi):PySem.W.Fast.lhsz w (boot_heap w.params) boot_drawn boot_toks os=PySem.W.Fast.rhsz w:=by kernel_rfl
end
namespace L2
open PySem PySem.Spec PyProof.Rows
abbrev Key:=Sum Int Str
noncomputable def sd:Key->Ob->Bool
 |.inl k,v=>Value.isInt k v
 |.inr x,v=>Value.isStrOf x v
noncomputable def keyH(w:Py):Key->Int
 |.inl k=>hashInt k
 |.inr x=>hashStr w x
theorem di:∀{k:Key}{v:Ob},sd k v=ZC->(∃i t,k=Vg i/\v=Qe i t)\/(∃x t,k=Vh x/\v=QF x t)
 |.inl i,v,h=>by obtain⟨t,e⟩:=Value.isInt_shape (k:=i) (v:=v) h;exact .inl ⟨i,t,rfl,e⟩
 |.inr x,v,h=>by obtain⟨t,e⟩:=Value.isStrOf_shape (x:=x) (v:=v) h;exact .inr ⟨x,t,rfl,e⟩
def A4(i:Int)(t:Tok):sd (.inl i) (.int i t)=ZC:=by simp[sd,Value.isInt]
def A3(x:Str)(t:Tok):sd (.inr x) (.str x t)=ZC:=by simp[sd,Value.isStrOf]
def JZ(a b:Int):decide ((Vg a:Key)=Vg b)=(a == b):=by
 by_cases e:a=b
 .subst e;simp
 .have h:¬ (Vg a:Key)=Vg b:=λq=>e (Vg.inj q);rw[decide_eq_false h];exact(beq_eq_false_iff_ne.mpr e).symm
def JV(a b:Str):decide ((Vh a:Key)=Vh b)=decide (a=b):=by
 by_cases e:a=b
 .subst e;simp
 .have h:¬ (Vh a:Key)=Vh b:=λq=>e (Vh.inj q);rw[decide_eq_false h,decide_eq_false e]
def JY(a:Int)(b:Str):decide ((Vg a:Key)=Vh b)=ZD:=decide_eq_false (λq=>nomatch q)
def JW(a:Str)(b:Int):decide ((Vh a:Key)=Vg b)=ZD:=decide_eq_false (λq=>nomatch q)
noncomputable def du(prog:OI)(w:Py):PySem.KeyKind prog w Key where
 is:=sd
 hash:=keyH w
 inj:=λv a b ha hb=>by
  rcases di ha with⟨i,t,rfl,rfl⟩|⟨x,t,rfl,rfl⟩
  .rcases di hb with⟨j,u,rfl,e⟩|⟨y,u,rfl,e⟩
   .injection e with e1 _;rw[e1]
   .exact nomatch e
  .rcases di hb with⟨j,u,rfl,e⟩|⟨y,u,rfl,e⟩
   .exact nomatch e
   .injection e with e1 _;rw[e1]
 byValue:=λk v h=>by rcases di h with⟨i,t,rfl,rfl⟩|⟨x,t,rfl,rfl⟩ <;> rfl
 pyHash:=λhv h=>by
  rcases di hv with⟨i,t,rfl,rfl⟩|⟨x,t,rfl,rfl⟩
  .exact wpAny_pyHash_int h
  .exact wpAny_pyHash_str h
 eqBool:=λhu hv h=>by
  rcases di hu with⟨i,t,rfl,rfl⟩|⟨x,t,rfl,rfl⟩
  .rcases di hv with⟨j,u,rfl,rfl⟩|⟨y,u,rfl,rfl⟩
   .rw[JZ]at h;exact WS h
   .rw[JY]at h;exact SeqAt.EqAt.int_str i t y u _ _ _ _ h
  .rcases di hv with⟨j,u,rfl,rfl⟩|⟨y,u,rfl,rfl⟩
   .rw[JW]at h;exact SeqAt.EqAt.str_int x t j u _ _ _ _ h
   .rw[JV]at h;exact wpAny_eqBool_str h
 «strs»:=λk x t v h=>by
  rcases di h with⟨i,u,rfl,e⟩|⟨y,u,rfl,e⟩
  .exact nomatch e
  .injection e with e1 _;subst e1;cases v <;> rfl
def wu(prog:OI)(w:Py)(i:Int)(t:Tok):(du prog w).is (.inl i) (.int i t)=ZC:=A4 i t
def wt(prog:OI)(w:Py)(x:Str)(t:Tok):(du prog w).is (.inr x) (.str x t)=ZC:=A3 x t
def RelV:V->Ob->Prop
 |.non,u=>u=Po
 |.bl b,u=>u=Pq b
 |.int i,u=>∃t,u=Qe i t
 |.str x,u=>∃t,u=QF x t
 |.byt b,u=>∃t,u=Value.bytes b t
 |.flt b,u=>∃t,u=Value.float b t
 |.ref a,u=>u=OB a
 |.ty n,u=>u=Ry n
abbrev Vals:List V->List Ob->Prop:=Ul RelV
variable{xs:List V}
def Vals.length(r:Vals xs us):xs.length=us.length:=Ua r
theorem Vals.get:∀{xs:List V}{us:List Ob}{i:Nat}{x:V},Vals xs us->xs[i]?=ZA x->∃u,us[i]?=ZA u/\RelV x u
 |_,_,_,_,.nil,e=>by simp at e
 |_,_,0,_,.cons r _,e=>by simp at e;subst e;exact⟨_,rfl,r⟩
 |_,_,i+1,x,.cons _ t,e=>by obtain⟨u,h1,h2⟩:=Vals.get (i:=i) (x:=x) t (by simpa using e);exact⟨u,by simpa using h1,h2⟩
theorem Vals.append:∀{xs ys:List V}{us ws:List Ob},Vals xs us->Vals ys ws->Vals (xs++ys) (us++ws):=by
 intro xs ys us ws h s;induction h with
 |nil=>exact s
 |cons r t i=>exact .cons r i
theorem Vals.take:∀{xs:List V}{us:List Ob}(n:Nat),Vals xs us->Vals (xs.take n) (us.take n)
 |_,_,0,_=>.nil
 |_,_,_+1,.nil=>.nil
 |_,_,n+1,.cons r t=>.cons r (Vals.take n t)
theorem Vals.drop:∀{xs:List V}{us:List Ob}(n:Nat),Vals xs us->Vals (xs.drop n) (us.drop n)
 |_,_,0,r=>r
 |_,_,_+1,.nil=>.nil
 |_,_,n+1,.cons _ t=>Vals.drop n t
def RelO:Option V->Option Ob->Prop
 |some v,ZA u=>RelV v u
 |none,ZB=>True
 |_,_=>False
def KV{κ:Type}:List (κ×V)->List (κ×Ob)->Prop:=Ul λ(p:κ×V)(q:κ×Ob)=>p.1=q.1/\RelV p.2 q.2
def kV:Key->V
 |.inl i=>.int i
 |.inr x=>.str x
inductive HO where
 /-- a list -/
 |lst (xs:List V)
 /-- a tuple (never changes) -/
 |tup (xs:List V)
 /-- a dict whose keys are ints and texts;one whose keys are tuples of ints and texts (the empty one is both) -/
 |dK (kvs:List (Key×V))|dT (kvs:List (List Key×V))
 /-- a set of ints: its members,its size -/
 |set (S:Int->Bool) (n:Nat)
 /-- an instance of the class at C,its dict at dx,its attributes -/
 |ins (C dx:ZE) (fs:List (Str×V))
 /-- the dict of the instance at x -/
 |own (x:ZE)
 /-- the dict of an exception -/
 |xd (fs:List (Str×V))
 /-- a bound method,f of x -/
 |met (f x:ZE)
 /-- a range object lo,lo+1,.. below hi -/
 |rng (lo hi:Int)
 /-- a thing that is known to the object (the script;a dict while a loop walks it): read,never written while it is so -/
 |frz (o:Obj) (u:HO)
 /-- a code object's table -/
 |tbl (q:Str)
 /-- any other thing,by what is ZC of its one object (a def of one's own: SetO a S n:=HO.ext λh=>..) -/
 |ext (φ:ZH->Prop)
abbrev Hp:=ZE->Option HO
noncomputable def upd(H:Hp)(a:ZE)(o:HO):Hp:=λb=>if b=a then ZA o else H b
variable{H:Hp}{a:ZE}
def aI{o:HO}:upd H a o a=ZA o:=by unfold upd;rw[if_pos rfl]
variable{b:ZE}
def aG{o:HO}(h:b≠a):upd H a o b=H b:=by unfold upd;rw[if_neg h]
def sX{o u:HO}:upd (upd H a o) a u=upd H a u:=by funext b;unfold upd;split <;> rfl
def lZ{o u:HO}(h:H a=ZA o)(h':H b=ZA u)(d:o≠u):a≠b:=by intro e;subst e;rw[h]at h';exact d (OQ h')
def cV{o:HO}(h:H a=ZA o)(h':H b=ZB):a≠b:=by intro e;subst e;rw[h]at h';cases h'
section
variable (P:OI)(w:Py)
def ObjOk(H:Hp)(h:ZH)(a:ZE):HO->Prop
 |.lst xs=>xs.length<=ZI/\∃(its:List Ob)(n:Nat),Vals xs its/\h.get? a=ZA {cls:=.type "list",data:=.seq its.toArray n}
 |.tup xs=>xs.length<=ZI/\∃its:List Ob,Vals xs its/\Xw h a its.toArray
 |.dK kvs=>kvs.length<=ZI/\(a == Qu)=ZD/\∃vs,KV kvs vs/\h.DictOf (du P w) a vs
 |.dT kvs=>kvs.length<=ZI/\(a == Qu)=ZD/\∃xs:List (List Key×ZE×Ob),
   Ul (λ(p:List Key×V)(q:List Key×ZE×Ob)=>p.1=q.1/\H q.2.1=ZA (.tup (p.1.map kV))/\RelV p.2 q.2.2) kvs xs ∧
   ∃o es ep,h.get? a=ZA o/\o.ExactDict/\o.data=.dict es ep/\es.toList=xs.map (Wj (TZ (du P w)))/\(xs.map (·.1)).Nodup
 |.set S n=>h.SetOf (intKind P w) a S n
 |.ins C dx fs=>H dx=ZA (.own a)/\fs.length<=1000/\dx≠a/\h.get? a=ZA (Uy C dx) ∧
   ∃mA,h.Ns1 dx mA/\(∀f,RelO (fs.lookup f) (mA f))/\PySem.Within mA (fs.map (·.1))
 |.own _=>∃o,h.get? a=ZA o
 |.xd fs=>∃mA,h.Ns1 a mA/\∀f,RelO (fs.lookup f) (mA f)
 |.rng lo hi=>∃t u v,h.get? a=ZA {cls:=.type "range",data:=.fields #[.int lo t,.int hi u,.int 1 v]}
 |.frz o u=>h.get? a=ZA o/\ObjOk H h a u
 |.tbl q=>∃ps:Array Ob,h.get? a=ZA {cls:=.none,data:=.fields ps}/\TriplesOk ps.toList/\∀pos v,T1 pos ps.toList=ZA v->∃c oc vs t,v=.ref c/\H c=ZA (.own a)/\h.get? c=ZA oc/\oc.data=.fields vs/\vs[1]?=ZA (.str q t)
 |.met f x=>h.get? a=ZA (TM (.ref f) (.ref x))
 |.ext φ=>φ h/\(∃o,h.get? a=ZA o)/\∀h1 h2:ZH,φ h1->(∀o,h1.get? a=ZA o->h2.get? a=ZA o)->φ h2
def HOk(H:Hp)(h:ZH):Prop:=∀a o,H a=ZA o->ObjOk P w H h a o
end
variable{H':Hp}{h h':ZH}
section
variable {o:HO}
theorem ObjOk.lt(x:ObjOk P w H h a o):a<h.objs.size:=by
 cases o with
 |lst xs=>obtain⟨_,_,_,_,e⟩:=x;exact Ov e
 |tup xs=>obtain⟨_,_,_,p⟩:=x;exact p.lt
 |dK kvs=>obtain⟨_,_,_,_,o,_,_,e,_⟩:=x;exact Ov e
 |dT kvs=>obtain⟨_,_,_,_,o,_,_,e,_⟩:=x;exact Ov e
 |set S n=>obtain⟨o,_,_,_,e,_⟩:=x;exact Ov e
 |ins C dx fs=>obtain⟨_,_,_,e,_⟩:=x;exact Ov e
 |own y=>obtain⟨_,e⟩:=x;exact Ov e
 |xd fs=>obtain⟨_,⟨_,_,_,e,_⟩,_⟩:=x;exact Ov e
 |rng lo hi=>obtain⟨_,_,_,e⟩:=x;exact Ov e
 |frz ob u=>obtain⟨e,_⟩:=x;exact Ov e
 |tbl q=>obtain⟨_,e,_⟩:=x;exact Ov e
 |met f y=>exact Ov (show h.get? a=ZA _ from x)
 |ext φ=>obtain⟨_,⟨_,e⟩,_⟩:=x;exact Ov e
theorem Paired.NC{F G:α->β->Prop}:∀{l₁:List α}{l₂:List β},Ul F l₁ l₂->(∀a b,F a b->G a b)->Ul G l₁ l₂
 |_,_,.nil,_=>.nil
 |_,_,.cons r t,f=>.cons (f _ _ r) (Paired.NC t f)
def ObjOk.M6(x:ObjOk P w H h a o)(k:∀b u,(b=a\/H b=ZA (.own a))->h.get? b=ZA u->h'.get? b=ZA u)
  (ho:∀b,H b=ZA (.own a)->H' b=ZA (.own a)) (ht:∀b xs,H b=ZA (.tup xs)->H' b=ZA (.tup xs)):ObjOk P w H' h' a o:=by
 induction o with
 |lst xs=>obtain⟨z,its,n,r,e⟩:=x;exact⟨z,its,n,r,k _ _ (.inl rfl) e⟩
 |tup xs=>obtain⟨z,its,r,ob,e,c⟩:=x;exact⟨z,its,r,ob,k _ _ (.inl rfl) e,c⟩
 |dK kvs=>obtain⟨z,y,vs,r,ob,es,ep,e,c⟩:=x;exact⟨z,y,vs,r,ob,es,ep,k _ _ (.inl rfl) e,c⟩
 |dT kvs=>
  obtain⟨z,y,xs,r,ob,es,ep,e,c⟩:=x;exact⟨z,y,xs,Paired.NC r λp q z=>⟨z.1,ht _ _ z.2.1,z.2.2⟩,ob,es,ep,k _ _ (.inl rfl) e,c⟩
 |set S n=>obtain⟨ob,es,ep,t,e,c⟩:=x;exact⟨ob,es,ep,t,k _ _ (.inl rfl) e,c⟩
 |ins C dx fs=>
  obtain⟨d,z,ne,e,mA,⟨od,es,ep,e2,c⟩,r⟩:=x;exact⟨ho _ d,z,ne,k _ _ (.inl rfl) e,mA,⟨od,es,ep,k _ _ (.inr d) e2,c⟩,r⟩
 |own y=>obtain⟨ob,e⟩:=x;exact⟨ob,k _ _ (.inl rfl) e⟩
 |xd fs=>obtain⟨mA,⟨od,es,ep,e,c⟩,r⟩:=x;exact⟨mA,⟨od,es,ep,k _ _ (.inl rfl) e,c⟩,r⟩
 |rng lo hi=>obtain⟨t,u,v,e⟩:=x;exact⟨t,u,v,k _ _ (.inl rfl) e⟩
 |frz ob u ih=>obtain⟨e,q⟩:=x;exact⟨k _ _ (.inl rfl) e,ih q⟩
 |tbl q=>
  obtain⟨ps,e,z,r⟩:=x;exact⟨ps,k _ _ (.inl rfl) e,z,λpos v ev=>let ⟨c,oc,vs,t,a1,a2,a3,a4⟩:=r pos v ev;⟨c,oc,vs,t,a1,ho _ a2,k _ _ (.inr a2) a3,a4⟩⟩
 |met f y=>
  have e:h.get? a=ZA (TM (.ref f) (.ref y)):=x;show h'.get? a=ZA (TM (.ref f) (.ref y));exact k a _ (.inl rfl) e
 |ext φ=>obtain⟨p,⟨o,e⟩,st⟩:=x;exact⟨st _ _ p λo q=>k _ _ (.inl rfl) q,⟨o,k _ _ (.inl rfl) e⟩,st⟩
theorem HOk.lt(x:HOk P w H h)(e:H a=ZA o):a<h.objs.size:=(x a o e).lt
def HOk.fresh(x:HOk P w H h)(e:h.objs.size<=a):H a=ZB:=by
 cases q:H a with
 |none=>rfl
 |some u=>exact absurd (Ot (x.lt q) e) (Pa _)
def HOk.kept(x:HOk P w H h)(k:∀b u,h.get? b=ZA u->h'.get? b=ZA u):HOk P w H h':=λa o e=>
 (x a o e).M6 (λb u _ q=>k b u q) (λ_ q=>q) λ_ _ q=>q
def HOk.laid(x:HOk P w H h)(k:∀b u,h.get? b=ZA u->h'.get? b=ZA u)(hp:h.objs.size<=a)(new:ObjOk P w (upd H a o) h' a o):HOk P w (upd H a o) h':=λb u e=>by
 have hn:=x.fresh hp;by_cases hb:b=a
 .subst hb;rw[aI]at e;cases e;exact new
 .rw[aG hb]at e;exact(x b u e).M6 (λc v _ q=>k c v q) (λc q=>by rw[aG (cV q hn)];exact q) λc xs q=>by rw[aG (cV q hn)];exact q
end
def Rd(H:Hp)(a:ZE)(u:HO):Prop:=H a=ZA u\/∃o,H a=ZA (.frz o u)
def Rd.ok{u:HO}(r:Rd H a u)(x:HOk P w H h):ObjOk P w H h a u:=by
 rcases r with r|⟨o,r⟩
 .exact x a u r
 .obtain⟨_,q⟩:=x a _ r;exact q
def MH:Option HO->Prop
 |some (.lst _)=>True
 |some (.dK _)=>True
 |some (.dT _)=>True
 |some (.set _ _)=>True
 |some (.ins _ _ _)=>True
 |some (.ext _)=>True
 |_=>False
variable{e:ZE}
section
variable {x:ZE}{o':HO}
def HOk.write(ok:HOk P w H h)(mu:MH (H x))(he:e=x\/H e=ZA (.own x))(k:∀b u,b≠e->h.get? b=ZA u->h'.get? b=ZA u)(heo:∃u,h'.get? e=ZA u)
  (new:ObjOk P w (upd H x o') h' x o'):HOk P w (upd H x o') h':=λb u q=>by
 have nown:∀c y,H c=ZA (.own y)->c≠x:=λc y r z=>by subst z;rw[r]at mu;exact mu
 have ntup:∀c xs,H c=ZA (.tup xs)->c≠x:=λc xs r z=>by subst z;rw[r]at mu;exact mu
 by_cases hb:b=x
 .subst hb;rw[aI]at q;cases q;exact new
 .rw[aG hb]at q;by_cases hbe:b=e
  .have q':H b=ZA (.own x):=by
    rcases he with z|z
    .exact absurd (hbe.trans z) hb
    .rw[hbe];exact z
   rw[q]at q';cases q';obtain⟨v,hv⟩:=heo;exact⟨v,by rw[hbe];exact hv⟩
  .refine(ok b u q).M6 (λc v hc r=>k c v ?_ r) (λc r=>by rw[aG (nown c b r)];exact r) λc xs r=>by rw[aG (ntup c xs r)];exact r
   rcases hc with rfl|hc
   .exact hbe
   .rintro rfl;rcases he with z|z
    .exact nown c b hc z
    .rw[hc]at z;cases z;exact hb rfl
end
structure Un (fs ex:List ZE)(H H':Hp)(h h':ZH):Prop where
 keep:∀b o,h.get? b=ZA o->H b=ZB->b∉fs->b∉ex->h'.get? b=ZA o
 slot:∀b o,h.get? b=ZA o->H b=ZB->b∈fs->b∉ex->∃sl,h'.get? b=ZA {o with slots:=sl}
 free:∀b o,h.get? b=ZA o->H b=ZB->b∉ex->H' b=ZB
 there:∀b o,h.get? b=ZA o->b∉ex->∃o',h'.get? b=ZA o'
 tups:∀b xs,H b=ZA (.tup xs)->H' b=ZA (.tup xs)
 frzs:∀b o u,H b=ZA (.frz o u)->H' b=ZA (.frz o u)
 tbls:∀b ps,H b=ZA (.tbl ps)->H' b=ZA (.tbl ps)
section
variable {fs fs' ex ex':List ZE}{H1 H2:Hp}{h1 h2:ZH}{x:ZE}{o:HO}
def Un.any(u:Un fs ex H H1 h h1){ob:Obj}(q:h.get? b=ZA ob)(n:H b=ZB)(hx:b∉ex):∃sl,h1.get? b=ZA {ob with slots:=sl}:=by
 by_cases hb:b∈fs
 .exact u.slot b ob q n hb hx
 .exact⟨ob.slots,u.keep b ob q n hb hx⟩
def Un.kept(k:∀b u,h.get? b=ZA u->h'.get? b=ZA u):Un fs ex H H h h':=
 ⟨λb ob q _ _ _=>k b ob q,λb ob q _ _ _=>⟨ob.slots,k b ob q⟩,λ_ _ _ n _=>n,λb ob q _=>⟨ob,k b ob q⟩,λ_ _ q=>q,λ_ _ _ q=>q,λ_ ps q=>(by rw[q])⟩
def Un.refl:Un fs ex H H h h:=Un.kept λ_ _ q=>q
def Un.laid(k:∀b u,h.get? b=ZA u->h'.get? b=ZA u)(hp:h.objs.size<=a)(hn:H a=ZB):Un fs ex H (upd H a o) h h' where
 keep:=λb u q _ _ _=>k b u q
 slot:=λb u q _ _ _=>⟨u.slots,k b u q⟩
 free:=λb u q n _=>by rw[aG (O8 (Ot (Ov q) hp))];exact n
 there:=λb u q _=>⟨u,k b u q⟩
 tups:=λb xs q=>by rw[aG (cV q hn)];exact q
 frzs:=λb u xs q=>by rw[aG (cV q hn)];exact q
 tbls:=λb ps q=>(by rw[aG (cV q hn),q])
def Un.write(mu:MH (H x))(he:e=x\/H e=ZA (.own x))(k:∀b u,b≠e->h.get? b=ZA u->h'.get? b=ZA u)(heo:∃u,h'.get? e=ZA u):Un fs ex H (upd H x o) h h':=by
 have hx:∀b,H b=ZB->b≠x:=λb n z=>by subst z;rw[n]at mu;exact mu
 have hb:∀b,H b=ZB->b≠e:=λb n z=>by
  subst z;rcases he with r|r
  .exact hx b n r
  .rw[n]at r;cases r
 have hm:∀b u,H b=ZA u->¬ MH (ZA u)->b≠x:=λb u q nm z=>by subst z;rw[q]at mu;exact nm mu
 refine⟨λb u q n _ _=>k b u (hb b n) q,λb u q n _ _=>⟨u.slots,k b u (hb b n) q⟩,λb u q n _=>by rw[aG (hx b n)];exact n,λb u q _=>?_,
  λb xs q=>by rw[aG (hm b _ q λz=>z)];exact q,λb u xs q=>by rw[aG (hm b _ q λz=>z)];exact q,λb ps q=>(by rw[aG (hm b _ q λz=>z),q])⟩
 by_cases hbe:b=e
 .subst hbe;exact heo
 .exact⟨u,k b u hbe q⟩
end
noncomputable def trk(h:ZH)(H:Hp):List ZE:=(Oo h.objs.size).filter λa=>(H a).isSome
def uH(h:ZH)(H:Hp):ZH:=Uz h (trk h H)
def Bc(h:ZH)(H:Hp):(uH h H).objs.size=h.objs.size:=PySem.W.hideAll_size _ _
def DV{o:Obj}(e:h.get? b=ZA o)(n:H b=ZB):(uH h H).get? b=ZA o:=
 Rn _ e λhm=>by have q:(H b).isSome=ZC:=(PM.mp hm).2;rw[n]at q;simp at q
def Gd{o:Obj}(e:(uH h H).get? b=ZA o):h.get? b=ZA o/\H b=ZB:=by
 have e':h.get? b=ZA o:=Tt (trk h H) e;refine⟨e',?_⟩;cases q:H b with
 |none=>rfl
 |some x=>
  have hm:b∈trk h H:=PM.mpr ⟨OZ.mpr (Ov e'),by simp[q]⟩;have z:(uH h H).get? b=ZB:=SZ (trk h H) hm;rw[z]at e;cases e
noncomputable def G6(g h:ZH)(L:ZE):Uf:=(Oo h.objs.size).filterMap λa=>if a=L\/(g.get? a).isSome=ZC then ZB else(h.get? a).map λo=>(a,o)
noncomputable def dv(g h:ZH)(L d:ZE):Uf:=(G6 g h L).filter λp=>decide (p.1≠d)
structure Mod (K:N7)(mg:WF)(base:ZH):Prop where
 kin:K.In base
 glob:base.Ns OM mg
 blt:∃mb,base.Ns Sb mb/\∀x:Str,x≠ "__name__"->mb x=Pc x
 nolimit:base.NoLimit
set_option genInjectivity false in
structure Cx where
 prog:OI
 w:Py
 K:N7
 mg:WF
 base:ZH
 A:OW
 N:List Str
 s₀:Oe
 H₀:Hp
 env:Env
 outer:List Env
 stack:List Env
 ex:List ZE
 fn:Str->Bool
 calm:Bool
 pn:Uf
 xe:WP
def kG(l:List Env):List ZE:=l.filterMap (·.frame)
abbrev Cx.fs(X:Cx):List ZE:=kG X.outer
def uZ(sc:RJ)(x:Str):Prop:=sc.names.lookup x=ZA .local\/sc.names.lookup x=ZA .cell\/sc.names.lookup x=ZA .free
def Loc(sc:RJ)(x:Str):Prop:=sc.names.lookup x=ZA .local\/sc.names.lookup x=ZA .cell
def Look(env:Env)(h:ZH)(m:WF)(x:Str)(u:Ob):Prop:=
 (env.kindOf x=ZA .local/\m x=ZA u)\/((env.kindOf x=ZA .cell\/env.kindOf x=ZA .free)/\∃c,env.cells.lookup x=ZA c/\h.IsCell c (ZA u))
noncomputable def n5:Str:="most_kept" ++ ".<locals>." ++ "<lambda>"
def Tb(K:N7)(mg:WF)(H:Hp):Prop:=∀f o fd c oc vs P,mg "most_kept" =ZA (.ref f)->K.lookup f=ZA o->o.data=.func fd->fd.code=.ref c->K.lookup c=ZA oc->oc.data=.fields vs->vs[11]?=ZA (.ref P)->H P=ZA (.tbl n5)
structure Cx.Ok (X:Cx):Prop where
 mod:Mod X.K X.mg X.base
 kind:X.env.scope.kind=.function
 glob:X.env.globals=OM
 blt:X.env.builtins=Sb
 above:X.s₀.heap.objs.size<=X.env.locals
 inj:∀x y c,X.env.cells.lookup x=ZA c->X.env.cells.lookup y=ZA c->x=y
 has:∀x,(X.env.kindOf x=ZA .cell\/X.env.kindOf x=ZA .free)->∃c,X.env.cells.lookup x=ZA c
 cab:∀x c,X.fn x=ZC->X.env.cells.lookup x=ZA c->X.s₀.heap.objs.size<=c
 hd:X.calm=ZC->X.A.handled=ZB
 frames:X.A.frames=ZA X.stack
 stk:X.stack=X.outer\/(X.stack=X.env::X.outer/\X.env.frame=ZA X.env.locals)
 exf:∀b∈X.ex,b≠X.env.locals/\∀x c,X.env.cells.lookup x=ZA c->c≠b
 bs:∀b o,X.base.get? b=ZA o->X.s₀.heap.get? b=ZA o/\X.H₀ b=ZB
 bsz:X.base.objs.size<=X.s₀.heap.objs.size
 noex:∀b o,X.base.get? b=ZA o->b∉X.ex
 exfs:∀b∈X.ex,b∉X.fs
 funs:X.s₀.heap.FunFrames X.base X.outer
 frf:∀b∈X.fs,X.H₀ b=ZB
 tb:Tb X.K X.mg X.H₀
structure Inv (X:Cx)(kw:Uf)(σ:List (Option V))(H:Hp)(s:Oe):Prop where
 ok:X.Ok
 os:s.os=X.s₀.os
 bare:Rl s.gens
 base:Un X.fs X.ex X.H₀ H X.s₀.heap s.heap
 loc:∃m,s.heap.Ns X.env.locals m/\∀(i:Nat)(x:Str)(v:V),X.N[i]?=ZA x->σ[i]?=ZA (ZA v)->uZ X.env.scope x->∃u,RelV v u/\Look X.env s.heap m x u
 cell:∀x c,X.env.cells.lookup x=ZA c->∃v,s.heap.IsCell c v
 free:H X.env.locals=ZB
 freeC:∀x c,X.env.cells.lookup x=ZA c->H c=ZB
 pin:∀p∈X.pn++kw,s.heap.get? p.1=ZA p.2/\H p.1=ZB/\p.1≠X.env.locals/\p.1∉X.fs/\∀v,p.2.data≠ .cell v
 hok:HOk X.prog X.w H s.heap
 len:σ.length=X.N.length
variable{N:List Str}{X:Cx}{it:ZE}{kw:Uf}{v:V}{x:Str}
section
variable {σ:List (Option V)}
def Cx.Ok.N0(ok:X.Ok){o:Obj}(e:X.base.get? b=ZA o):b∉X.fs:=λhb=>by have:=(ok.funs.mem hb).1;rw[e]at this;cases this
theorem Inv.bs(I:Inv X kw σ H s):∀b o,X.base.get? b=ZA o->s.heap.get? b=ZA o/\H b=ZB:=λb o e=>
 ⟨I.base.keep b o (I.ok.bs b o e).1 (I.ok.bs b o e).2 (I.ok.N0 e) (I.ok.noex b o e),I.base.free b o (I.ok.bs b o e).1 (I.ok.bs b o e).2 (I.ok.noex b o e)⟩
def Inv.bk(I:Inv X kw σ H s):∀b o,X.base.get? b=ZA o->s.heap.get? b=ZA o:=λb o e=>(I.bs b o e).1
theorem Inv.mod(I:Inv X kw σ H s):Mod X.K X.mg X.base:=I.ok.mod
theorem Inv.tb(I:Inv X kw σ H s):Tb X.K X.mg H:=λf o fd c oc vs P a1 a2 a3 a4 a5 a6 a7=>I.base.tbls P _ (I.ok.tb f o fd c oc vs P a1 a2 a3 a4 a5 a6 a7)
def Inv.kIn(I:Inv X kw σ H s):X.K.In s.heap:=I.ok.mod.kin.keeps I.bk
theorem Inv.lt(I:Inv X kw σ H s):X.env.locals<s.heap.objs.size:=let ⟨_,hn,_⟩:=I.loc;hn.lt
def Inv.sz(I:Inv X kw σ H s):X.s₀.heap.objs.size<=s.heap.objs.size:=OJ I.ok.above (Qc I.lt)
def Inv.N4(I:Inv X kw σ H s)(h:s.heap.objs.size<=a):a∉X.fs:=λhb=>by obtain⟨_,o,ho,_⟩:=I.ok.funs.mem hb;exact absurd (Ot (Ov ho) (OJ I.sz h)) (Pa _)
def Inv.cne(I:Inv X kw σ H s):∀x c,X.env.cells.lookup x=ZA c->c≠X.env.locals:=λx c e z=>by obtain⟨v,o,ho,hd⟩:=I.cell x c e;obtain⟨m,⟨o',es,ep,ho',hd',_⟩,_⟩:=I.loc;rw[z,ho']at ho;cases ho;rw[hd']at hd;cases hd
theorem Inv.funs(I:Inv X kw σ H s):s.heap.FunFrames X.base X.outer:=by
 have all:∀(l:List Env),(∀b∈kG l,b∈X.fs)->X.s₀.heap.FunFrames X.base l->s.heap.FunFrames X.base l:=by
  intro l;induction l with
  |nil=>intro _ _;trivial
  |cons env r ih=>
   intro hs hl;obtain⟨hk,⟨L,o,hf,hn,ho,hd⟩,hr⟩:=hl;have hL:L∈X.fs:=hs L (by unfold kG;rw[P9,hf];exact Of);obtain⟨sl,e⟩:=I.base.slot L o ho (I.ok.frf L hL) hL λz=>I.ok.exfs L z hL;exact⟨hk,⟨L,_,hf,hn,e,hd⟩,ih (λb hb=>hs b (by unfold kG;rw[P9,hf];exact N9 _ hb)) hr⟩
 exact all X.outer (λ_ hb=>hb) I.ok.funs
def Inv.stack(I:Inv X kw σ H s):s.heap.FunFrames X.base X.stack:=by
 rcases I.ok.stk with e|⟨e,hf⟩
 .rw[e];exact I.funs
 .rw[e];obtain⟨m,hn,_⟩:=I.loc;refine .cons (by rw[I.ok.kind];decide) hf hn ?_ I.funs;exact Heap.get?_none_of_le (OJ I.ok.bsz I.ok.above)
def Inv.Nk(I:Inv X kw σ H s):∀b∈kG X.stack,b∈X.env.locals::X.fs:=λb hb=>by
 rcases I.ok.stk with e|⟨e,hf⟩
 .rw[e]at hb;exact N9 _ hb
 .rw[e]at hb;unfold kG at hb;rw[P9,hf]at hb;exact hb
def Inv.IR(I:Inv X kw σ H s):∀b∈kG X.stack,H b=ZB:=λb hb=>by
 rcases Oh.mp (I.Nk b hb)with e|hb
 .rw[e];exact I.free
 .obtain⟨_,o,ho,_⟩:=I.ok.funs.mem hb;exact I.base.free b o ho (I.ok.frf b hb) λz=>I.ok.exfs b z hb
def Inv.step{g':Array VM}{t':Nat}{d':Drawn}{ch:List ZE}(I:Inv X kw σ H s)
  (hch:∀b∈ch,(b∈X.ex\/X.s₀.heap.objs.size<=b)/\b≠X.env.locals/\(∀x c,X.env.cells.lookup x=ZA c->c≠b)/\∀p∈X.pn++kw,p.1≠b)
  (keep:∀b o,b≠X.env.locals->b∉X.fs->b∉ch->s.heap.get? b=ZA o->H b=ZB->h'.get? b=ZA o)
  (slot:∀b o,b≠X.env.locals->b∈X.fs->b∉ch->s.heap.get? b=ZA o->H b=ZB->∃sl,h'.get? b=ZA {o with slots:=sl}) (free:∀b o,b∉ch->s.heap.get? b=ZA o->H b=ZB->H' b=ZB)
  (there:∀b o,b∉ch->s.heap.get? b=ZA o->∃o',h'.get? b=ZA o')
  (tups:∀b xs,H b=ZA (.tup xs)->H' b=ZA (.tup xs)) (frzs:∀b o u,H b=ZA (.frz o u)->H' b=ZA (.frz o u)) (tbls:∀b ps,H b=ZA (.tbl ps)->H' b=ZA (.tbl ps))
  (ns:∀m,s.heap.Ns X.env.locals m->h'.Ns X.env.locals m) (hok:HOk X.prog X.w H' h') (hg:Rl g'):
  Inv X kw σ H' {s with heap:=h',gens:=g',drawn:=d',toks:=t'}:=by
 have neL:∀b o,X.s₀.heap.get? b=ZA o->b≠X.env.locals:=λb o e=>O8 (Ot (Ov e) I.ok.above);have neC:∀b o,X.s₀.heap.get? b=ZA o->b∉X.ex->b∉ch:=λb o e hx hb=>by
  rcases(hch b hb).1 with z|z
  .exact hx z
  .exact absurd (Ot (Ov e) z) (Pa _)
 have cellK:∀x c,X.env.cells.lookup x=ZA c->∀v,s.heap.IsCell c v->h'.IsCell c v:=λx c e v hh_=>by
  obtain⟨o,ho,hd⟩:=hh_;have nch:c∉ch:=λz=>(hch c z).2.2.1 x c e rfl;by_cases hc:c∈X.fs
  .obtain⟨sl,q⟩:=slot c o (I.cne x c e) hc nch ho (I.freeC x c e);exact⟨_,q,hd⟩
  .exact⟨o,keep c o (I.cne x c e) hc nch ho (I.freeC x c e),hd⟩
 refine⟨I.ok,I.os,hg,⟨λb o e n hb hx=>?_,λb o e n hb hx=>?_,λb o e n hx=>?_,λb o e hx=>?_,λb xs e=>tups b xs (I.base.tups b xs e),λb o xs e=>frzs b o xs (I.base.frzs b o xs e),λb ps e=>?_⟩,?_,λx c e=>?_,?_,λx c e=>?_,λp hp=>?_,hok,I.len⟩
 .exact keep b o (neL b o e) hb (neC b o e hx) (I.base.keep b o e n hb hx) (I.base.free b o e n hx)
 .obtain⟨sl,e1⟩:=I.base.slot b o e n hb hx;obtain⟨sl',e2⟩:=slot b _ (neL b o e) hb (neC b o e hx) e1 (I.base.free b o e n hx);exact⟨sl',e2⟩
 .obtain⟨o',e1⟩:=I.base.there b o e hx;exact free b o' (neC b o e hx) e1 (I.base.free b o e n hx)
 .obtain⟨o',e1⟩:=I.base.there b o e hx;exact there b o' (neC b o e hx) e1
 .exact tbls b _ (I.base.tbls b ps e)
 .obtain⟨m,hn,hl⟩:=I.loc;refine⟨m,ns m hn,λi x v e1 e2 e3=>?_⟩;obtain⟨u,r,l⟩:=hl i x v e1 e2 e3;refine⟨u,r,?_⟩;rcases l with l|⟨k,c,e,z⟩
  .exact .inl l
  .exact .inr ⟨k,c,e,cellK x c e _ z⟩
 .obtain⟨v,z⟩:=I.cell x c e;exact⟨v,cellK x c e v z⟩
 .obtain⟨m,⟨o,_,_,ho,_⟩,_⟩:=I.loc;exact free _ o (λz=>(hch _ z).2.1 rfl) ho I.free
 .obtain⟨v,o,ho,hd⟩:=I.cell x c e;exact free c o (λz=>(hch c z).2.2.1 x c e rfl) ho (I.freeC x c e)
 .obtain⟨e,n,ne,nf,d⟩:=I.pin p hp;have nch:p.1∉ch:=λz=>(hch p.1 z).2.2.2 p hp rfl;exact⟨keep p.1 p.2 ne nf nch e n,free p.1 p.2 nch e n,ne,nf,d⟩
def Inv.un(I:Inv X kw σ H s)(u:Un X.fs [] H H' s.heap h')(hok:HOk X.prog X.w H' h'):Inv X kw σ H' {s with heap:=h',toks:=t'}:=by
 obtain⟨m,⟨o,es,ep,ho,r⟩,_⟩:=id I.loc;obtain⟨sl,hL⟩:=u.any ho I.free (by simp);exact I.step (g':=s.gens) (d':=s.drawn) (ch:=[]) (λ_ z=>nomatch z) (λb o _ hb _ e n=>u.keep b o e n hb (by simp)) (λb o _ hb _ e n=>u.slot b o e n hb (by simp)) (λb o _ e n=>u.free b o e n (by simp)) (λb o _ e=>u.there b o e (by simp)) u.tups u.frzs u.tbls (λm' hm=>by obtain⟨o',es',ep',ho',r'⟩:=hm;rw[ho]at ho';cases ho';exact⟨_,es',ep',hL,r'⟩) hok I.bare
def Inv.call{g':Array VM}{d':Drawn}{ch:List ZE}(I:Inv X kw σ H s)(u:Un (kG X.stack) ch H H' s.heap h')(hok:HOk X.prog X.w H' h')(hg:Rl g')
  (hch:∀b∈ch,(b∈X.ex\/X.s₀.heap.objs.size<=b)/\b≠X.env.locals/\(∀x c,X.env.cells.lookup x=ZA c->c≠b)/\∀p∈X.pn++kw,p.1≠b):
  Inv X kw σ H' {s with heap:=h',gens:=g',drawn:=d',toks:=t'}:=by
 obtain⟨m,⟨o,es,ep,ho,r⟩,_⟩:=id I.loc;obtain⟨sl,hL⟩:=u.any ho I.free λz=>(hch _ z).2.1 rfl;exact I.step (ch:=ch) hch (λb o hL hb hc e n=>u.keep b o e n (λz=>(Oh.mp (I.Nk b z)).elim hL hb) hc) (λb o _ _ hc e n=>u.any e n hc) (λb o hc e n=>u.free b o e n hc) (λb o hc e=>u.there b o e hc) u.tups u.frzs u.tbls (λm' hm=>by obtain⟨o',es',ep',ho',r'⟩:=hm;rw[ho]at ho';cases ho';exact⟨_,es',ep',hL,r'⟩) hok hg
def Inv.turned(I:Inv X kw σ H s)(k:∀b o,b≠it->s.heap.get? b=ZA o->h'.get? b=ZA o)(hn:H it=ZB)(hL:it≠X.env.locals)
  (h1:it∈X.ex\/X.s₀.heap.objs.size<=it) (h2:∀x c,X.env.cells.lookup x=ZA c->c≠it) (h3:∀p∈X.pn++kw,p.1≠it):Inv X kw σ H {s with heap:=h',toks:=t'}:=by
 have nit:∀b u,H b=ZA u->b≠it:=λb u e z=>by rw[z,hn]at e;cases e
 refine I.step (g':=s.gens) (d':=s.drawn) (ch:=[it]) (λb hb=>?_) (λb o _ _ hc e _=>k b o (λz=>hc (by simp[z])) e) (λb o _ _ hc e _=>⟨o.slots,k b o (λz=>hc (by simp[z])) e⟩) (λ_ _ _ _ n=>n)
  (λb o hc e=>⟨o,k b o (λz=>hc (by simp[z])) e⟩) (λ_ _ e=>e) (λ_ _ _ e=>e) (λb ps e=>(by rw[e])) (λm hm=>?_) (λb u e=>?_) I.bare
 .have e:b=it:=by simpa using hb
  subst e;exact⟨h1,hL,h2,h3⟩
 .obtain⟨o,es,ep,ho,r⟩:=hm;exact⟨o,es,ep,k _ o (PN hL) ho,r⟩
 .refine(I.hok b u e).M6 (λc v hc q=>k c v ?_ q) (λ_ q=>q) λ_ _ q=>q;rcases hc with z|z
  .rw[z];exact nit b u e
  .exact nit c _ z
def Inv.tok(I:Inv X kw σ H s)(t:Nat):Inv X kw σ H {s with toks:=t}:=I.un (h':=s.heap) (t':=t) Un.refl I.hok
theorem Inv.kept(I:Inv X kw σ H s)(k:∀b u,s.heap.get? b=ZA u->h'.get? b=ZA u):Inv X kw σ H {s with heap:=h',toks:=t'}:=I.un (Un.kept k) (I.hok.kept k)
theorem Inv.laid{o:HO}(I:Inv X kw σ H s)(k:∀b u,s.heap.get? b=ZA u->h'.get? b=ZA u)(hp:s.heap.objs.size<=a)(new:ObjOk X.prog X.w (upd H a o) h' a o):
  Inv X kw σ (upd H a o) {s with heap:=h',toks:=t'}:=I.un (Un.laid k hp (I.hok.fresh hp)) (I.hok.laid k hp new)
theorem Inv.write{x:ZE}{o:HO}(I:Inv X kw σ H s)(mu:MH (H x))(he:e=x\/H e=ZA (.own x))(k:∀b u,b≠e->s.heap.get? b=ZA u->h'.get? b=ZA u)(heo:∃u,h'.get? e=ZA u)
  (new:ObjOk X.prog X.w (upd H x o) h' x o):Inv X kw σ (upd H x o) {s with heap:=h',toks:=t'}:=I.un (Un.write mu he k heo) (I.hok.write mu he k heo new)
def Inv.Nn{pins':Uf}(I:Inv X kw σ H s)(h:∀p∈pins',s.heap.get? p.1=ZA p.2/\H p.1=ZB/\p.1≠X.env.locals/\p.1∉X.fs/\∀v,p.2.data≠ .cell v):Inv X pins' σ H s:=
 ⟨I.ok,I.os,I.bare,I.base,I.loc,I.cell,I.free,I.freeC,λp hp=>(OS.mp hp).elim (λz=>I.pin p (O9 _ z)) (h p),I.hok,I.len⟩
def wg(hN:N.Nodup)(a:N[i]?=ZA x)(b:N[j]?=ZA x):i=j:=by obtain⟨h1,e1⟩:=Oj.mp a;obtain⟨h2,e2⟩:=Oj.mp b;exact(List.getElem_inj hN).mp (e1.trans e2.symm)
variable{Q:Unit->Oe->Prop}
def rK{u:Ob}(I:Inv X kw σ H s)(hN:X.N.Nodup)(hi:X.N[i]?=ZA x)(hx:Loc X.env.scope x)(r:RelV v u)
  (h:∀s',Inv X kw (σ.set i (ZA v)) H s'->(∃a,SI a s.heap s'.heap/\(a=X.env.locals\/X.env.cells.lookup x=ZA a))->Q () s') (hf:autoParam (X.fn x=ZC\/X.env.scope.names.lookup x=ZA .local) r_):ZJ M A (storeName X.env x u) Q E s:=by
 obtain⟨m,hn,hl⟩:=id I.loc;have hcls:(X.env.scope.kind == .class||(X.env.scope.kind == .module&&X.env.locals != X.env.globals))=ZD:=by rw[I.ok.kind];rfl
 have hiσ:i<σ.length:=by rw[I.len];exact(Oj.mp hi).1
 have cne:=I.cne;have tracked:∀{a:ZE}{h':ZH},(∃o,s.heap.get? a=ZA o/\H a=ZB)->SI a s.heap h'->HOk X.prog X.w H h':=λ{a h'} ha hs b ob e=>by
  obtain⟨_,_,hfree⟩:=ha;refine(I.hok b ob e).M6 (λc w' hc q=>(hs.2 c ?_).trans q) (λ_ q=>q) λ_ _ q=>q;rintro rfl;rcases hc with rfl|hc
  .rw[hfree]at e;cases e
  .rw[hfree]at hc;cases hc
 rcases hx with hk|hk
 .refine wpAny_storeName_local hk hn (λh' hn' hs=>?_) hcls;obtain⟨oL,_,_,hoL,_⟩:=id hn;refine h _ ⟨I.ok,I.os,I.bare,⟨λb o e n hb hx=>?_,λb o e n hb hx=>?_,I.base.free,λb o e hx=>?_,I.base.tups,I.base.frzs,I.base.tbls⟩,⟨_,hn',λj y v' e1 e2 e3=>?_⟩,λy c e=>?_,I.free,I.freeC,λp hp=>?_,tracked ⟨oL,hoL,I.free⟩ hs,by simpa using I.len⟩ ⟨_,hs,.inl rfl⟩
  .exact(hs.2 b (O8 (Ot (Ov e) I.ok.above))).trans (I.base.keep b o e n hb hx)
  .obtain⟨sl,e1⟩:=I.base.slot b o e n hb hx;exact⟨sl,(hs.2 b (O8 (Ot (Ov e) I.ok.above))).trans e1⟩
  .obtain⟨o',e1⟩:=I.base.there b o e hx;exact⟨o',(hs.2 b (O8 (Ot (Ov e) I.ok.above))).trans e1⟩
  .by_cases hj:j=i
   .subst hj;rw[hi]at e1;cases e1;rw[OY hiσ]at e2;cases e2;exact⟨u,r,.inl ⟨hk,by simp⟩⟩
   .rw[O5 (PN hj)]at e2;obtain⟨u',r',q⟩:=hl j y v' e1 e2 e3;refine⟨u',r',?_⟩;rcases q with⟨k,e⟩|⟨k,c,e,z⟩
    .refine .inl ⟨k,?_⟩;have:y≠x:=λe=>hj (wg hN e1 (e▸hi));simp[this,e]
    .exact .inr ⟨k,c,e,z.sameBut hs (cne y c e)⟩
  .obtain⟨w',z⟩:=I.cell y c e;exact⟨w',z.sameBut hs (cne y c e)⟩
  .obtain⟨e,n,ne,nf,d⟩:=I.pin p hp;exact⟨(hs.2 p.1 ne).trans e,n,ne,nf,d⟩
 .have hfn:X.fn x=ZC:=by
   rcases hf with z|z
   .exact z
   .rw[z]at hk;cases hk
  obtain⟨c,hc⟩:=I.ok.has x (.inl hk);obtain⟨w',z⟩:=I.cell x c hc;refine wpAny_storeName_cell I.ok.kind hk hc z (λh' hc' hs=>?_);obtain⟨oc,hoc,hocd⟩:=id z;refine h {s with heap:=h'} ⟨I.ok,I.os,I.bare,⟨λb o e n hb hx=>?_,λb o e n hb hx=>?_,I.base.free,λb o e hx=>?_,I.base.tups,I.base.frzs,I.base.tbls⟩,⟨m,hn.sameBut hs (PN (cne x c hc)),λj y v' e1 e2 e3=>?_⟩,λy c' e=>?_,I.free,I.freeC,λp hp=>?_,tracked ⟨oc,hoc,I.freeC x c hc⟩ hs,by simpa using I.len⟩ ⟨c,hs,.inr hc⟩
  .exact(hs.2 b (O8 (Ot (Ov e) (I.ok.cab x c hfn hc)))).trans (I.base.keep b o e n hb hx)
  .obtain⟨sl,e1⟩:=I.base.slot b o e n hb hx;exact⟨sl,(hs.2 b (O8 (Ot (Ov e) (I.ok.cab x c hfn hc)))).trans e1⟩
  .obtain⟨o',e1⟩:=I.base.there b o e hx;exact⟨o',(hs.2 b (O8 (Ot (Ov e) (I.ok.cab x c hfn hc)))).trans e1⟩
  .by_cases hj:j=i
   .subst hj;rw[hi]at e1;cases e1;rw[OY hiσ]at e2;cases e2;exact⟨u,r,.inr ⟨.inl hk,c,hc,hc'⟩⟩
   .rw[O5 (PN hj)]at e2;obtain⟨u',r',q⟩:=hl j y v' e1 e2 e3;refine⟨u',r',?_⟩;rcases q with q|⟨k,c',e,z'⟩
    .exact .inl q
    .refine .inr ⟨k,c',e,z'.sameBut hs ?_⟩;rintro rfl;exact hj (wg hN e1 (I.ok.inj _ _ _ e hc▸hi))
  .by_cases hcc:c'=c
   .subst hcc;exact⟨_,hc'⟩
   .obtain⟨w2,z2⟩:=I.cell y c' e;exact⟨w2,z2.sameBut hs hcc⟩
  .obtain⟨e,n,ne,nf,d⟩:=I.pin p hp;refine⟨(hs.2 p.1 ?_).trans e,n,ne,nf,d⟩;intro q;rw[q,hoc]at e;have q':oc=p.2:=OQ e;exact d w' (by rw[<-q'];exact hocd)
def lJ{u:Ob}(I:Inv X kw σ H s)(hN:X.N.Nodup)(hi:X.N[i]?=ZA x)(hx:Loc X.env.scope x)(r:RelV v u)
  (h:∀s',Inv X kw (σ.set i (ZA v)) H s'->Q () s') (hf:autoParam (X.fn x=ZC\/X.env.scope.names.lookup x=ZA .local) r_):ZJ M A (storeName X.env x u) Q E s:=
 rK I hN hi hx r (λs' I' _=>h s' I') hf
def Inv.Nt{ch:List ZE}(I:Inv X kw σ H s)(ho:s'.os=s.os)(u:Un (kG X.stack) ch H H' s.heap s'.heap)(hok:HOk X.prog X.w H' s'.heap)(hg:Rl s'.gens)
  (hch:∀b∈ch,(b∈X.ex\/X.s₀.heap.objs.size<=b)/\b≠X.env.locals/\(∀x c,X.env.cells.lookup x=ZA c->c≠b)/\∀p∈X.pn++kw,p.1≠b):Inv X kw σ H' s':=by
 obtain⟨h',g',d',t',o'⟩:=s';have e:o'=s.os:=ho;subst e;exact I.call (g':=g') (t':=t') (d':=d') u hok hg hch
end
abbrev XK:=Ob->Option ZE->Hp->Prop
abbrev St:=List (Option V)
abbrev VK:=V->Hp->Prop
abbrev TE:=St->Hp->VK->Prop
abbrev TT:=St->Hp->(Bool->Hp->Prop)->Prop
abbrev TA:=St->Hp->(List V->Hp->Prop)->Prop
structure u7 where
 nx:St->Hp->Prop
 rt:VK
 bk:St->Hp->Prop:=λ_ _=>False
 ct:St->Hp->Prop:=λ_ _=>False
abbrev TS:=u7->St->Hp->Prop
def EP(X:Cx)(kw:Uf)(σ:St)(Q:VK)(u:Ob)(s':Oe):Prop:=∃v H',Inv X kw σ H' s'/\RelV v u/\Q v H'
def TP(X:Cx)(kw:Uf)(σ:St)(Q:Bool->Hp->Prop)(b:Bool)(s':Oe):Prop:=∃H',Inv X kw σ H' s'/\Q b H'
def AP(X:Cx)(kw:Uf)(σ:St)(Q:List V->Hp->Prop)(us:List Ob)(s':Oe):Prop:=∃vs H',Inv X kw σ H' s'/\Vals vs us/\Q vs H'
def SP(X:Cx)(kw:Uf)(D:u7)(f:Flow)(s':Oe):Prop:=
 match f with
 |.next=>∃σ' H',Inv X kw σ' H' s'/\D.nx σ' H'
 |.brk=>∃σ' H',Inv X kw σ' H' s'/\D.bk σ' H'
 |.cont=>∃σ' H',Inv X kw σ' H' s'/\D.ct σ' H'
 |.ret u=>∃v σ' H',Inv X kw σ' H' s'/\RelV v u/\D.rt v H'
def PE(X:Cx)(e:ZG)(t:TE):Prop:=
 ∀(kw:Uf)(s:Oe)(σ:St)(H:Hp)(Q:VK),Inv X kw σ H s->t σ H Q->ZJ (ZK X.prog X.w) X.A (eval e X.env) (EP X kw σ Q) X.xe s
def PT(X:Cx)(e:ZG)(t:TT):Prop:=
 ∀(kw:Uf)(s:Oe)(σ:St)(H:Hp)(Q:Bool->Hp->Prop),Inv X kw σ H s->t σ H Q->ZJ (ZK X.prog X.w) X.A (isTrue e X.env (eval e X.env)) (TP X kw σ Q) X.xe s
def PW(X:Cx)(e:ZG)(t:TT):Prop:=
 ∀(whole:Sem Ob)(kw:Uf)(s:Oe)(σ:St)(H:Hp)(Q:Bool->Hp->Prop),Inv X kw σ H s->t σ H Q->ZJ (ZK X.prog X.w) X.A (isTrue e X.env whole) (TP X kw σ Q) X.xe s
variable{e:ZG}
def PW.pt{t:TT}(h:PW X e t):PT X e t:=h _
def PA(X:Cx)(es:List ZG)(t:TA):Prop:=
 ∀(pos:Pos)(kw:Uf)(s:Oe)(σ:St)(H:Hp)(Q:List V->Hp->Prop),Inv X kw σ H s->t σ H Q->ZJ (ZK X.prog X.w) X.A (spliced (backTo pos (Oz es X.env))) (AP X kw σ Q) X.xe s
def PS(X:Cx)(st:ZF)(t:TS):Prop:=
 ∀(kw:Uf)(s:Oe)(σ:St)(H:Hp)(D:u7),Inv X kw σ H s->t D σ H->ZJ (ZK X.prog X.w) X.A (exec st X.env) (SP X kw D) X.xe s
def PSs(X:Cx)(st:List ZF)(t:TS):Prop:=
 ∀(kw:Uf)(s:Oe)(σ:St)(H:Hp)(D:u7),Inv X kw σ H s->t D σ H->ZJ (ZK X.prog X.w) X.A (execs st X.env) (SP X kw D) X.xe s
def cL{t:Sem α}{Q Q':α->Oe->Prop}(h:ZJ M A t Q E s)(hQ:∀a s,Q a s->Q' a s):ZJ M A t Q' E s:=Qp h hQ λ_ _ x=>x
variable{c:ZG}{pos:Pos}{ta:TE}{σ:St}
section
def oX(i:Nat):TE:=λσ H Q=>∃v,σ[i]?=ZA (ZA v)/\Q v H
def tC(v:V):TE:=λ_ H Q=>Q v H
def i9{pos:Pos}(hN:X.N[i]?=ZA x)(hv:uZ X.env.scope x)(hd:autoParam ((x == ("__debug__" : Str))=ZD) s_)(hcd:autoParam ((x == ("__classdict__" : Str))=ZD) s_):PE X (.Name x pos) (oX i):=by
 intro kw s σ H Q I h;obtain⟨v,e,h⟩:=h;obtain⟨m,hn,hl⟩:=I.loc;obtain⟨u,r,l⟩:=hl i x v hN e hv;have fin:EP X kw σ Q u s:=⟨v,H,I,r,h⟩;rcases l with⟨hk,hm⟩|⟨hk,c,hc,hcell⟩
 .exact wpAny_Name (Va I.ok.kind hk hn hm fin) hd
 .rcases hk with hk|hk
  .exact wpAny_Name (Vo I.ok.kind hk hc hcell fin) hd
  .exact wpAny_Name (wpAny_loadName_free I.ok.kind hk hc hcell fin hcd) hd
def x5{i j pos}:PE X (.Constant (.int i) j pos) (tC (.int i)):=λ_ _ _ H _ I h=>wpAny_Constant_int ⟨.int i,H,I.tok _,⟨_,rfl⟩,h⟩
def CU{b j pos}:PE X (.Constant (.bool b) j pos) (tC (.bl b)):=λ_ _ _ H _ I h=>Constant_bool ⟨.bl b,H,I,rfl,h⟩
def CO{j pos}:PE X (.Constant .none j pos) (tC .non):=λ_ _ _ H _ I h=>Constant_none ⟨.non,H,I,rfl,h⟩
def CM{x j pos}:PE X (.Constant (.str x) j pos) (tC (.str x)):=λ_ _ _ H _ I h=>Vv ⟨.str x,H,I.tok _,⟨_,rfl⟩,h⟩
def Gl(X:Cx)(x:Str):Prop:=X.env.kindOf x=ZA .globalImplicit
def je{u:Ob}{pos:Pos}(I:Inv X kw σ H s)(hg:Gl X x)(hm:X.mg x=ZA u)(h:Q u s)
  (hd:autoParam ((x == ("__debug__" : Str))=ZD) s_):ZJ (ZK X.prog X.w) X.A (eval (.Name x pos) X.env) Q E s:=
 To I.ok.kind hg (Calls.loadGlobal_global (by rw[I.ok.glob];exact I.mod.glob.keeps I.bk) hm h) hd
def fg{u:Ob}{pos:Pos}(I:Inv X kw σ H s)(hg:Gl X x)(hm:X.mg x=ZB)(hv:Pc x=ZA u)(h:Q u s)
  (hn:autoParam (x≠ "__name__") s_) (hd:autoParam ((x == ("__debug__" : Str))=ZD) s_):ZJ (ZK X.prog X.w) X.A (eval (.Name x pos) X.env) Q E s:=by
 obtain⟨mb,h1,h2⟩:=I.mod.blt;exact To I.ok.kind hg (Calls.loadGlobal_builtin (by rw[I.ok.glob];exact I.mod.glob.keeps I.bk) hm (by rw[I.ok.blt];exact h1.keeps I.bk) ((h2 x hn).trans hv) h) hd
def tX{u:Ob}{pos:Pos}(hg:Gl X x)(hm:X.mg x=ZA u)(r:RelV v u)(hd:autoParam ((x == ("__debug__" : Str))=ZD) s_):PE X (.Name x pos) (tC v):=
 λ_ _ _ H _ I h=>je I hg hm ⟨v,H,I,r,h⟩ hd
def zB{u:Ob}{pos:Pos}(hg:Gl X x)(hm:X.mg x=ZB)(hv:Pc x=ZA u)(r:RelV v u)(hn:autoParam (x≠ "__name__") s_)(hd:autoParam ((x == ("__debug__" : Str))=ZD) s_):PE X (.Name x pos) (tC v):=
 λ_ _ _ H _ I h=>fg I hg hm hv ⟨v,H,I,r,h⟩ hn hd
variable {a b:ZG}{tb:TE}
def tB(t:TE):TT:=λσ H Q=>t σ H λx H1=>∃c,x=.bl c/\Q c H1
def CC{t:TE}(h:PE X e t)(he:autoParam (∀whole,isTrue e X.env whole=(do let v <-whole;standAt e.pos;holding [v] (truthy v))) t_):PT X e (tB t):=by intro kw s σ H Q I hw;refine isTrue_plain (cL (h kw s σ H _ I hw) λv s1 ⟨x,H1,I1,r1,q1⟩=>?_) (he _);obtain⟨d,rfl,q⟩:=q1;cases r1;exact Ph ⟨H1,I1,q⟩
variable {tA tB':TT}{dv:List ZG}
def tAnd(t u:TT):TT:=λσ H Q=>t σ H λc H1=>if c=ZC then u σ H1 Q else Q ZD H1
def tOr(t u:TT):TT:=λσ H Q=>t σ H λc H1=>if c=ZC then Q ZC H1 else u σ H1 Q
def tNot(t:TT):TT:=λσ H Q=>t σ H λc H1=>Q (!c) H1
def FV(ha:PT X a tA):PW X (.BoolOp .And [a] pos) tA:=by
 intro wh kw s σ H Q I h;refine isTrue_and (cL (ha kw s σ H Q I h) λc s1 e=>?_);cases c with
 |true=>exact isTrue_and_nil e
 |false=>exact e
def CA(ha:PT X a tA):PW X (.BoolOp .Or [a] pos) tA:=by
 intro wh kw s σ H Q I h;refine isTrue_or (cL (ha kw s σ H Q I h) λc s1 e=>?_);cases c with
 |false=>exact isTrue_or_nil e
 |true=>exact e
def Jf(ha:PT X a tA)(hb:PW X (.BoolOp .And (b::dv) pos) tB'):PW X (.BoolOp .And (a::b::dv) pos) (tAnd tA tB'):=by
 intro wh kw s σ H Q I h;refine isTrue_and (cL (ha kw s σ H _ I h) λc s1 hh_=>?_);obtain⟨H1,I1,q1⟩:=hh_;cases c with
 |true=>exact hb wh kw s1 σ H1 Q I1 q1
 |false=>exact⟨H1,I1,q1⟩
def Hu(ha:PT X a tA)(hb:PW X (.BoolOp .Or (b::dv) pos) tB'):PW X (.BoolOp .Or (a::b::dv) pos) (tOr tA tB'):=by
 intro wh kw s σ H Q I h;refine isTrue_or (cL (ha kw s σ H _ I h) λc s1 hh_=>?_);obtain⟨H1,I1,q1⟩:=hh_;cases c with
 |true=>exact⟨H1,I1,q1⟩
 |false=>exact hb wh kw s1 σ H1 Q I1 q1
def CD(ha:PT X a tA):PT X (.UnaryOp .Not a pos) (tNot tA):=by intro kw s σ H Q I h;exact isTrue_not (ha kw s σ H (λc H1=>Q (!c) H1) I h)
def K4(ta tb:TE):TE:=λσ H Q=>ta σ H λx H1=>∃c,x=.bl c/\if c=ZC then tb σ H1 Q else Q (.bl ZD) H1
def tOrV(ta tb:TE):TE:=λσ H Q=>ta σ H λx H1=>∃c,x=.bl c/\if c=ZC then Q (.bl ZC) H1 else tb σ H1 Q
def KY(ta:TE):TE:=λσ H Q=>ta σ H λx H1=>∃c,x=.bl c/\Q (.bl (!c)) H1
def Jn{op}{t:TE}(h:PE X a t):PE X (.BoolOp op [a] pos) t:=λkw s σ H Q I hw=>BoolOp_one (h kw s σ H Q I hw)
def Jq(ha:PE X a ta)(hb:PE X (.BoolOp .And (b::dv) pos) tb):PE X (.BoolOp .And (a::b::dv) pos) (K4 ta tb):=by
 intro kw s σ H Q I h;refine BoolOp_and (cL (ha kw s σ H _ I h) λv s1 hh_=>?_);obtain⟨x,H1,I1,r1,q1⟩:=hh_;obtain⟨c,rfl,q1⟩:=q1;cases r1;refine Ph ?_;cases c with
 |true=>exact hb kw s1 σ H1 Q I1 q1
 |false=>exact⟨.bl ZD,H1,I1,rfl,q1⟩
def LD(ha:PE X a ta)(hb:PE X (.BoolOp .Or (b::dv) pos) tb):PE X (.BoolOp .Or (a::b::dv) pos) (tOrV ta tb):=by
 intro kw s σ H Q I h;refine BoolOp_or (cL (ha kw s σ H _ I h) λv s1 hh_=>?_);obtain⟨x,H1,I1,r1,q1⟩:=hh_;obtain⟨c,rfl,q1⟩:=q1;cases r1;refine Ph ?_;cases c with
 |false=>exact hb kw s1 σ H1 Q I1 q1
 |true=>exact⟨.bl ZC,H1,I1,rfl,q1⟩
def Jo(ha:PE X a ta):PE X (.UnaryOp .Not a pos) (KY ta):=by intro kw s σ H Q I h;refine UnaryOp_ (cL (ha kw s σ H _ I h) λv s1 hh_=>?_);obtain⟨x,H1,I1,r1,q1⟩:=hh_;obtain⟨c,rfl,q1⟩:=q1;cases r1;exact not_of (Ph ⟨.bl (!c),H1,I1,rfl,q1⟩)
def tIf(t:TT)(ta tb:TE):TE:=λσ H Q=>t σ H λc H1=>if c=ZC then ta σ H1 Q else tb σ H1 Q
def CP(hc:PT X c tA)(ha:PE X a ta)(hb:PE X b tb):PE X (.IfExp c a b pos) (tIf tA ta tb):=by
 intro kw s σ H Q I h;refine wpAny_IfExp (cL (hc kw s σ H _ I h) λd s1 hh_=>?_);obtain⟨H1,I1,q1⟩:=hh_;cases d with
 |true=>exact ha kw s1 σ H1 Q I1 q1
 |false=>exact hb kw s1 σ H1 Q I1 q1
end
def SqL(K:N7)(H:Hp)(a:ZE)(xs:List V):Prop:=
 Rd H a (.lst xs) ∨
  ∃(o:Obj)(its:Array Ob)(n:Nat),K.lookup a=ZA o/\o.cls=.type "list"/\o.dict=ZB/\o.data=.seq its n/\its.size<=ZI/\Vals xs its.toList
def SqT(K:N7)(H:Hp)(a:ZE)(xs:List V):Prop:=
 Rd H a (.tup xs) ∨
  ∃(o:Obj)(its:Array Ob)(n:Nat),K.lookup a=ZA o/\o.cls=.type "tuple"/\o.data=.seq its n/\its.size<=ZI/\Vals xs its.toList
noncomputable def absV:Ob->Option V
 |.none=>ZA .non
 |.bool b=>ZA (.bl b)
 |.int i _=>ZA (.int i)
 |.str x _=>ZA (.str x)
 |.bytes b _=>ZA (.byt b)
 |.float b _=>ZA (.flt b)
 |.ref a=>ZA (.ref a)
 |.type n=>ZA (.ty n)
 |_=>ZB
def RelV.abs{x:V}{u:Ob}(r:RelV x u):absV u=ZA x:=by
 cases x with
 |non=>cases r;rfl
 |bl _=>cases r;rfl
 |int _=>obtain⟨t,rfl⟩:=r;rfl
 |str _=>obtain⟨t,rfl⟩:=r;rfl
 |byt _=>obtain⟨t,rfl⟩:=r;rfl
 |flt _=>obtain⟨t,rfl⟩:=r;rfl
 |ref _=>cases r;rfl
 |ty _=>cases r;rfl
def RelV.inj{x y:V}{u:Ob}(r:RelV x u)(q:RelV y u):x=y:=OQ (r.abs.symm.trans q.abs)
theorem Vals.inj:∀{xs ys:List V}{us:List Ob},Vals xs us->Vals ys us->xs=ys:=by
 intro xs ys us h;induction h generalizing ys with
 |nil=>intro k;cases k;rfl
 |cons r t i=>intro k;cases k with|cons r' k=>rw[r.inj r',i k]
section
variable {ys:List V}
def SqL.of(h:H a=ZA (.lst xs)):SqL K H a xs:=.inl (.inl h)
def SqT.of(h:H a=ZA (.tup xs)):SqT K H a xs:=.inl (.inl h)
def Inv.list(I:Inv X kw σ H s)(h:SqL X.K H a xs):∃its:List Ob,Vals xs its/\PlainL s.heap a its.toArray/\xs.length<=ZI:=by
 rcases h with h|⟨o,its,n,hk,hc,hd,hs,hz,r⟩
 .obtain⟨z,its,n,r,e⟩:=h.ok I.hok;exact⟨its,r,⟨_,n,e,rfl,rfl,rfl⟩,z⟩
 .refine⟨its.toList,r,⟨o,n,I.kIn a o hk,hc,hd,by simpa using hs⟩,?_⟩;have e:=r.length;simp only[PP]at e;omega
def Inv.tuple(I:Inv X kw σ H s)(h:SqT X.K H a xs):∃its:List Ob,Vals xs its/\Xw s.heap a its.toArray/\xs.length<=ZI:=by
 rcases h with h|⟨o,its,n,hk,hc,hs,hz,r⟩
 .obtain⟨z,its,r,p⟩:=h.ok I.hok;exact⟨its,r,p,z⟩
 .refine⟨its.toList,r,⟨o,I.kIn a o hk,hc,n,by simpa using hs⟩,?_⟩;have e:=r.length;simp only[PP]at e;omega
def Inv.Ni(I:Inv X kw σ H s)(h:SqL X.K H a xs)(h':SqL X.K H a ys):xs=ys:=by
 obtain⟨its,r,⟨o,n,e,_,_,d⟩,_⟩:=I.list h;obtain⟨its',r',⟨o',n',e',_,_,d'⟩,_⟩:=I.list h';rw[e]at e';cases e';rw[d]at d';injection d' with d1 _;have:its=its':=by simpa using congrArg UB d1
 subst this;exact r.inj r'
def Inv.Nb(I:Inv X kw σ H s)(h:SqT X.K H a xs)(h':SqT X.K H a ys):xs=ys:=by
 obtain⟨its,r,⟨o,e,_,n,d⟩,_⟩:=I.tuple h;obtain⟨its',r',⟨o',e',_,n',d'⟩,_⟩:=I.tuple h';rw[e]at e';cases e';rw[d]at d';injection d' with d1 _;have:its=its':=by simpa using congrArg UB d1
 subst this;exact r.inj r'
end
noncomputable abbrev Cx.FB(X:Cx)(E:WP):Cx:={X with xe:=E}
noncomputable abbrev Cx.nox(X:Cx):Cx:=X.FB λ_ _=>False
def Cx.Ok.FB(ok:X.Ok)(E:WP):(X.FB E).Ok:=
 ⟨ok.mod,ok.kind,ok.glob,ok.blt,ok.above,ok.inj,ok.has,ok.cab,ok.hd,ok.frames,ok.stk,ok.exf,ok.bs,ok.bsz,ok.noex,ok.exfs,ok.funs,ok.frf,ok.tb⟩
def Cx.Ok.KF(ok:(X.FB E).Ok):X.Ok:=
 ⟨ok.mod,ok.kind,ok.glob,ok.blt,ok.above,ok.inj,ok.has,ok.cab,ok.hd,ok.frames,ok.stk,ok.exf,ok.bs,ok.bsz,ok.noex,ok.exfs,ok.funs,ok.frf,ok.tb⟩
theorem Inv.FB(I:Inv X kw σ H s)(E:WP):Inv (X.FB E) kw σ H s:=⟨I.ok.FB E,I.os,I.bare,I.base,I.loc,I.cell,I.free,I.freeC,I.pin,I.hok,I.len⟩
theorem Inv.KF(I:Inv (X.FB E) kw σ H s):Inv X kw σ H s:=⟨I.ok.KF,I.os,I.bare,I.base,I.loc,I.cell,I.free,I.freeC,I.pin,I.hok,I.len⟩
theorem SP.KF{D:u7}{f:Flow}(h:SP (X.FB E) kw D f s'):SP X kw D f s':=by
 cases f with
 |next=>obtain⟨σ',H',I,q⟩:=h;exact⟨σ',H',I.KF,q⟩
 |brk=>obtain⟨σ',H',I,q⟩:=h;exact⟨σ',H',I.KF,q⟩
 |cont=>obtain⟨σ',H',I,q⟩:=h;exact⟨σ',H',I.KF,q⟩
 |ret u=>obtain⟨v,σ',H',I,r,q⟩:=h;exact⟨v,σ',H',I.KF,r,q⟩
def PSs.nox{st:List ZF}{t:TS}(h:PSs X.nox st t):PSs X st t:=λkw s σ H D I hw=>
 Qp (h kw s σ H D (I.FB _) hw) (λ_ _ q=>q.KF) λ_ _ z=>QQ z
variable{tc:TT}{te:TE}
section
variable {st:ZF}{dv:List ZF}{t u:TS}
def KZ:TS:=λD σ H=>D.nx σ H
def tSeq(t u:TS):TS:=λD σ H=>t {D with nx:=u D} σ H
def zp:PSs X [] KZ:=λ_ _ σ H _ I h=>Sm ⟨σ,H,I,h⟩
def lS(h1:PS X st t)(h2:PSs X dv u):PSs X (st::dv) (tSeq t u):=by
 intro kw s σ H D I h;refine WT (cL (h1 kw s σ H {D with nx:=u D} I h) λf s1 q=>?_);cases f with
 |next=>
  obtain⟨σ',H',I',q⟩:=q;exact h2 kw s1 σ' H' D I' q
 |ret v=>exact q
 |brk=>exact q
 |cont=>exact q
def gF(h1:PS X st t):PSs X [st] t:=by
 intro kw s σ H D I h;refine WT (cL (h1 kw s σ H D I h) λf s1 q=>?_);cases f with
 |next=>exact Sm q
 |ret v=>exact q
 |brk=>exact q
 |cont=>exact q
def K3:TS:=λD σ H=>D.ct σ H
def vP:PS X (.Continue pos) K3:=λ_ _ σ H _ I h=>wpAny_Continue ⟨σ,H,I,h⟩
def Inv.quiet(I:Inv X kw σ H s):interactive X.env=ZD:=by simp[interactive,I.ok.kind]
def K1(te:TE):TS:=λD σ H=>te σ H λ_ H1=>D.nx σ H1
def tT(he:PE X e te)(hs:P7 e ZB pos.line X.env=pure ZD:=by rfl):PS X (.Expr e pos) (K1 te):=by intro kw s σ H D I h;exact wpAny_Expr_any (cL (he kw s σ H _ I h) λv s1 ⟨x,H1,I1,r1,q1⟩=>⟨σ,H1,I1,q1⟩) I.quiet hs
def tRet(te:TE):TS:=λD σ H=>te σ H D.rt
def jK(he:PE X e te):PS X (.Return (ZA e) pos) (tRet te):=by intro kw s σ H D I h;exact wpAny_Return_some (cL (he kw s σ H _ I h) λv s1 ⟨x,H1,I1,r1,q1⟩=>⟨x,σ,H1,I1,r1,q1⟩)
def tIfS(c:TT)(t u:TS):TS:=λD σ H=>c σ H λb H1=>if b=ZC then t D σ H1 else u D σ H1
def Hv{a b:List ZF}(hc:PT X c tc)(ha:PSs X a t)(hb:PSs X b u):PS X (.If c a b pos) (tIfS tc t u):=by
 intro kw s σ H D I h;refine wpAny_If (cL (hc kw s σ H _ I h) λd s1 hh_=>?_);obtain⟨H1,I1,q1⟩:=hh_;cases d with
 |true=>exact ha kw s1 σ H1 D I1 q1
 |false=>exact hb kw s1 σ H1 D I1 q1
def Ik:TS:=λ_ _ _=>False
def CG:PS X st Ik:=λ_ _ _ _ _ _ h=>h.elim
end
abbrev TG:=V->St->Hp->(St->Hp->Prop)->Prop
abbrev G7:=List V->St->Hp->(St->Hp->Prop)->Prop
def PG(X:Cx)(target:ZG)(t:TG):Prop:=
 ∀(kw:Uf)(s:Oe)(σ:St)(H:Hp)(v:V)(u:Ob)(Q:St->Hp->Prop),Inv X kw σ H s->RelV v u->t v σ H Q ->
  ZJ (ZK X.prog X.w) X.A (assign target X.env u) (λ_ s'=>∃σ' H',Inv X kw σ' H' s'/\Q σ' H') X.xe s
def PGs(X:Cx)(ts:List ZG)(t:G7):Prop:=
 ∀(kw:Uf)(s:Oe)(σ:St)(H:Hp)(vs:List V)(us:List Ob)(Q:St->Hp->Prop),Inv X kw σ H s->Vals vs us->t vs σ H Q ->
  ZJ (ZK X.prog X.w) X.A (assignInOrder ((Qv ts X.env).map (·.2)) us) (λ_ s'=>∃σ' H',Inv X kw σ' H' s'/\Q σ' H') X.xe s
abbrev MV:=V->V->Hp->VK->Prop
def PIp(X:Cx)(op:W0)(t:MV):Prop:=
 ∀(kw:Uf)(s:Oe)(σ:St)(H:Hp)(x y:V)(v u:Ob)(Q:VK),Inv X kw σ H s->RelV x v->RelV y u->t x y H Q ->
  ZJ (ZK X.prog X.w) X.A (inplaceOp op v u) (EP X kw σ Q) X.xe s
variable{es:List ZG}{pos':Pos}{tg:ZG}
def DZ(i:Nat):TG:=λv σ H Q=>Q (σ.set i (ZA v)) H
def F5(hN:X.N.Nodup)(hi:X.N[i]?=ZA x)(hx:Loc X.env.scope x)(hf:autoParam (X.fn x=ZC\/X.env.scope.names.lookup x=ZA .local) r_):PG X (.Name x pos) (DZ i):=by intro kw s σ H v u Q I r h;exact Wl (lJ I hN hi hx r (λs' I'=>⟨_,H,I',h⟩) hf)
def gNil:G7:=λvs σ H Q=>vs=[]/\Q σ H
def Ml(t:TG)(u:G7):G7:=λvs σ H Q=>∃v r,vs=v::r/\t v σ H λσ' H'=>u r σ' H' Q
def F4:PGs X [] gNil:=by intro kw s σ H vs us Q I r h;obtain⟨e,h⟩:=h;subst e;cases r;exact assignInOrder_nil ⟨σ,H,I,h⟩
def CL{t:TG}{u:G7}(h1:PG X e t)(h2:PGs X es u)
  (hs:(Qv (e::es) X.env).map (·.2)=assign e X.env::(Qv es X.env).map (·.2):=by rfl):PGs X (e::es) (Ml t u):=by
 intro kw s σ H vs us Q I r h;obtain⟨v,vr,e1,h⟩:=h;subst e1;cases r with
 |cons r rr=>
  rw[hs];refine assignInOrder_cons (cL (h1 kw s σ H _ _ _ I r h) λ_ s1 hh_=>?_);obtain⟨σ1,H1,I1,q1⟩:=hh_;exact h2 kw s1 σ1 H1 _ _ Q I1 rr q1
def gTup(K:N7)(n:Nat)(t:G7):TG:=λv σ H Q=>∃a xs,v=.ref a/\SqT K H a xs/\xs.length=n/\t xs σ H Q
def Jl{t:G7}(hc:X.calm=ZC)(h:PGs X es t)
  (hn:(Qv es X.env).length=n:=by rfl) (hst:(Qv es X.env).findIdx? (·.1)=ZB:=by rfl):PG X (.Tuple es k pos) (gTup X.K n t):=by
 intro kw s σ H v u Q I r hw;obtain⟨a,xs,e1,hq,hl,hw⟩:=hw;subst e1;cases r;obtain⟨its,rv,ht,hz⟩:=I.tuple hq;refine assign_Tuple_tuple (I.ok.hd hc) ht (by simp[hn,<-hl,rv.length]) hst λh' hx=>?_;have I1:Inv X kw σ H {s with heap:=h'}:=I.kept (t':=s.toks) λb o e=>hx b o (O8 (Ov e)) e;exact h kw _ σ H xs _ Q I1 (by simpa using rv) hw
def B2(te:TE)(g:TG):TS:=λD σ H=>te σ H λx H1=>g x σ H1 D.nx
def Jh{g:TG}(he:PE X e te)(hg:PG X tg g)(hs:VN [tg] e pos.line X.env=pure ZD:=by rfl)(hw:VO [tg] e X.env=pure ZB:=by rfl)
  (h1:(Qv [tg] X.env).map (·.2)=[assign tg X.env]:=by rfl):PS X (.Assign [tg] e pos) (B2 te g):=by
 intro kw s σ H D I h;refine wpAny_Assign_stores (cL (he kw s σ H _ I h) λv s1 ⟨x,H1,I1,r1,q1⟩=>?_) hs hw;rw[h1];exact cL (hg kw s1 σ H1 x v _ I1 r1 q1) λ_ s2 q=>q
def pC(hN:X.N.Nodup)(hi:X.N[i]?=ZA x)(hx:Loc X.env.scope x)(he:PE X e te)(hs:P7 e (ZA (.Name x pos')) pos.line X.env=pure ZD:=by rfl)(hf:autoParam (X.fn x=ZC\/X.env.scope.names.lookup x=ZA .local) r_):
  PS X (.Assign [.Name x pos'] e pos) (B2 te (DZ i)):=by
 intro kw s σ H D I h;refine wpAny_Assign_Name (cL (he kw s σ H _ I h) λv s1 ⟨y,H1,I1,r1,q1⟩=>?_) hs;exact lJ I1 hN hi hx r1 (λs2 I2=>⟨_,H1,I2,q1⟩) hf
def tAug(i:Nat)(te:TE)(ti:MV):TS:=λD σ H=>∃x,σ[i]?=ZA (ZA x)/\te σ H λy H1=>ti x y H1 λz H2=>D.nx (σ.set i (ZA z)) H2
def Jg{op:W0}{ti:MV}(hN:X.N.Nodup)(hi:X.N[i]?=ZA x)(hx:Loc X.env.scope x)(he:PE X e te)(ho:PIp X op ti)(hf:autoParam (X.fn x=ZC\/X.env.scope.names.lookup x=ZA .local) r_):
  PS X (.AugAssign (.Name x pos') op e pos) (tAug i te ti):=by
 intro kw s σ H D I h;obtain⟨v,e1,h⟩:=h;obtain⟨m,hn,hl⟩:=I.loc;have vis:uZ X.env.scope x:=by rcases hx with k|k;exact .inl k;exact .inr (.inl k)
 obtain⟨u,r,l⟩:=hl i x v hi e1 vis;refine wpAny_AugAssign_Name ?_;have go:ZJ (ZK X.prog X.w) X.A (eval e X.env) (λw s₂=>ZJ (ZK X.prog X.w) X.A (inplaceOp op u w) (λr s₃=>ZJ (ZK X.prog X.w) X.A (storeName X.env x r) (λ_=>SP X kw D .next) X.xe s₃) X.xe s₂) X.xe s:=by refine cL (he kw s σ H _ I h) λw s1 hh_=>?_;obtain⟨y,H1,I1,r1,q1⟩:=hh_;refine cL (ho kw s1 σ H1 v y u w _ I1 r r1 q1) λz s2 hh_=>?_;obtain⟨zv,H2,I2,r2,q2⟩:=hh_;exact lJ I2 hN hi hx r2 (λs3 I3=>⟨_,H2,I3,q2⟩) hf
 rcases l with⟨hk,hm⟩|⟨hk,c,hc,hcell⟩
 .exact Va I.ok.kind hk hn hm go
 .rcases hk with hk|hk
  .exact Vo I.ok.kind hk hc hcell go
  .rcases hx with k|k
   .have:X.env.scope.names.lookup x=ZA .free:=hk;rw[k]at this;cases this
   .have:X.env.scope.names.lookup x=ZA .free:=hk;rw[k]at this;cases this
def ipI(f:Int->Int->Int):MV:=λx y H Q=>∃i j,x=.int i/\y=.int j/\Q (.int (f i j)) H
def J7:PIp X .Add (ipI λi j=>i+j):=by intro kw s σ H x y v u Q I r1 r2 h;obtain⟨i,j,e1,e2,q⟩:=h;subst e1;subst e2;obtain⟨t,rfl⟩:=r1;obtain⟨t',rfl⟩:=r2;exact iadd_int ⟨.int _,H,I.tok _,⟨_,rfl⟩,q⟩
variable{body:List ZF}
def xJ(c:TT)(tb:TS):TS:=λD σ H=>∃W:Nat->St->Hp->Prop,(∃m,W m σ H)/\∀m σ H,W m σ H ->
 c σ H λb H1=>if b=ZC then ∃N:St->Hp->Prop,(∀σ' H',N σ' H'->∃m',m'<m/\W m' σ' H')/\tb {D with nx:=N,ct:=N,bk:=D.nx} σ H1 else D.nx σ H1
def CF{tb:TS}(hp:PassesOwn (ZK X.prog X.w) X.A X.env X.xe)(hc:PT X c tc)(hb:PSs X body tb):PS X (.While c body [] pos) (xJ tc tb):=by
 intro kw s σ H D I h;obtain⟨W,⟨m0,w0⟩,turn⟩:=h;refine wpAny_While (codeAny_whileLoop (λn s'=>∃σ' H',Inv X kw σ' H' s'/\W n σ' H') ?_ m0 ⟨σ,H,I,w0⟩);rintro n s1 ⟨σ1,H1,I1,w1⟩;refine Xj hp (cL (hc kw s1 σ1 H1 _ I1 (turn n σ1 H1 w1)) λb s2 hh_=>?_);obtain⟨H2,I2,q2⟩:=hh_;cases b with
 |true=>
  obtain⟨N,hN,q2⟩:=q2;rw[if_pos rfl];refine Xj hp (cL (hb kw s2 σ1 H2 _ I2 q2) λf s3 q3=>?_);cases f with
  |next=>
   obtain⟨σ3,H3,I3,n3⟩:=q3;obtain⟨m',hm,w3⟩:=hN σ3 H3 n3;exact⟨m',hm,σ3,H3,I3,w3⟩
  |cont=>
   obtain⟨σ3,H3,I3,n3⟩:=q3;obtain⟨m',hm,w3⟩:=hN σ3 H3 n3;exact⟨m',hm,σ3,H3,I3,w3⟩
  |brk=>exact q3
  |ret v=>exact q3
 |false=>
  rw[if_neg OG];exact Sm ⟨σ1,H2,I2,q2⟩
structure It where
 go:Nat->Hp->Prop
 yld:Nat->Hp->V->Hp->Prop
 stop:Nat->Hp->Prop
def qR(X:Cx)(kw:Uf)(H:Hp)(b:ZE):Prop:=
 H b=ZB/\b≠X.env.locals/\b∉X.fs/\(b∈X.ex\/X.s₀.heap.objs.size<=b)/\(∀x c,X.env.cells.lookup x=ZA c->c≠b)/\∀p∈X.pn++kw,p.1≠b
def Inv.Nl(I:Inv X kw σ H s)(hb:s.heap.objs.size<=b)(hn:H' b=ZB):qR X kw H' b:=by
 refine⟨hn,QH (Ot I.lt hb),I.N4 hb,.inr (OJ I.sz hb),λx c e z=>?_,λp hp z=>?_⟩
 .obtain⟨v,q⟩:=I.cell x c e;exact absurd (Ot q.lt (by rw[z];exact hb)) (Pa _)
 .exact absurd (Ot (Ov (I.pin p hp).1) (by rw[z];exact hb)) (Pa _)
structure Bz (P:OI)(w:Py)(K:N7)(tg:ZG)(J:It)(fp:List ZE)(it:ZE)(tn:Nat->ZH->Prop):Prop where
 mem:it∈fp
 obj:∀i h,tn i h->∀b∈fp,∃o,h.get? b=ZA o/\∀v,o.data≠ .cell v
 keep:∀i h h',tn i h->(∀b∈fp,∀o,h.get? b=ZA o->h'.get? b=ZA o)->tn i h'
 item:∀(X:Cx),X.prog=P->X.w=w->X.K=K->X.calm=ZC->∀(i:Nat)(kw:Uf)(s:Oe)(σ:St)(H:Hp)(E:WP),Inv X kw σ H s->(∀b∈fp,qR X kw H b)->tn i s.heap->J.go i H ->
  ZJ (ZK P w) X.A (pyNext (.ref it)) (λr s1=>∃u,r=ZA u ∧
   ZJ (ZK P w) X.A (Sn tg (.ref it) u) (λ_ s2=>∃x H',Inv X kw σ H' s2/\RelV x u/\J.yld i H x H'/\tn (i+1) s2.heap/\∀b∈fp,H' b=ZB) E s1) E s
 done:∀(X:Cx),X.prog=P->X.w=w->X.K=K->X.calm=ZC->∀(i:Nat)(kw:Uf)(s:Oe)(σ:St)(H:Hp)(E:WP),Inv X kw σ H s->(∀b∈fp,qR X kw H b)->tn i s.heap->J.stop i H ->
  ZJ (ZK P w) X.A (pyNext (.ref it)) (λr s1=>r=ZB/\Inv X kw σ H s1) E s
 self:∀(A:OW)(i:Nat)(s:Oe)(Q:WP)(E:WP),tn i s.heap->Q (.ref it) s->ZJ (ZK P w) A (pyIter (.ref it)) Q E s
abbrev TI:=St->Hp->(It->Hp->Prop)->Prop
def MY(X:Cx)(kw:Uf)(σ:St)(tg:ZG)(R:It->Hp->Prop)(itv:Ob)(s2:Oe):Prop:=
 ∃(it:ZE)(fp:List ZE)(tn:Nat->ZH->Prop)(J:It)(H':Hp),itv=.ref it/\Inv X kw σ H' s2/\Bz X.prog X.w X.K tg J fp it tn/\tn 0 s2.heap/\(∀b∈fp,qR X kw H' b)/\R J H'
def PI(X:Cx)(tg iter:ZG)(wi:TI):Prop:=
 ∀(kw:Uf)(s:Oe)(σ:St)(H:Hp)(R:It->Hp->Prop),Inv X kw σ H s->wi σ H R ->
  ZJ (ZK X.prog X.w) X.A (eval iter X.env) (λv s1=>ZJ (ZK X.prog X.w) X.A (pyIter v) (MY X kw σ tg R) X.xe s1) X.xe s
def Ab{u:Ob}{o:Obj}{n:String}{vs:Array Ob}{Q:Unit->Oe->Prop}(ho:s.heap.get? it=ZA o)(hc:o.cls=.type n)(hd:o.data=.fields vs)
  (hn:["enumerate","zip","dict_itemiterator","dict_reverseitemiterator","odict_iterator","itertools.zip_longest","itertools.pairwise"].contains n=ZD) (hQ:Q () s):ZJ M A (Sn tg (.ref it) u) Q E s:=by
 unfold Sn;cases tg <;> first
  |exact Om hQ
  | (cases u <;> first
    |exact Om hQ
    | (refine N8 (wpAny_load ho ?_)
       rw[hc,hd];show ZJ M A (if (["enumerate","zip","dict_itemiterator","dict_reverseitemiterator","odict_iterator","itertools.zip_longest","itertools.pairwise"].contains n&&vs[0]? == ZA (rawInt _))=ZC then _ else _) Q E s;rw[if_neg (by intro h;rw[hn,Bool.false_and]at h;cases h)];exact Om hQ))
def Itl(K:N7)(a:ZE):It:=
 ⟨λi H=>∃xs x,SqL K H a xs/\xs[i]?=ZA x,λi H x H'=>H'=H/\∀xs,SqL K H a xs->xs[i]?=ZA x,λi H=>∃xs,SqL K H a xs/\xs.length<=i⟩
def Itt(K:N7)(a:ZE):It:=
 ⟨λi H=>∃xs x,SqT K H a xs/\xs[i]?=ZA x,λi H x H'=>H'=H/\∀xs,SqT K H a xs->xs[i]?=ZA x,λi H=>∃xs,SqT K H a xs/\xs.length<=i⟩
def Itr(lo:Int)(n:Nat):It:=⟨λi _=>i<n,λi H x H'=>H'=H/\x=.int (lo+i),λi _=>n<=i⟩
def Aw(a it:ZE):Bz P w K tg (Itl K a) [it] it (λi h=>h.IsListIter it a i) where
 mem:=by simp
 obj:=λi h st b hb=>by
  have e:b=it:=by simpa using hb
  subst e;obtain⟨o,e,c,d⟩:=st;exact⟨o,e,λv z=>by rw[d]at z;cases z⟩
 keep:=λi h h' st k=>st.at λo e=>k it (by simp) o e
 item:=by intro X hP hw hK hc i kw s σ H E I hf st hg;subst hP hw hK;obtain⟨xs,x,hq,hx⟩:=hg;obtain⟨its,rv,p,hz⟩:=I.list hq;obtain⟨u,hu,ru⟩:=rv.get hx;obtain⟨f0,f1,f2,f3,f4,f5⟩:=hf it (by simp);refine Ut st p.isList (x:=u) (by simpa using hu) λh' st' sb=>?_;have I1:Inv X kw σ H {s with heap:=h'}:=I.turned (t':=s.toks) (λb o hb e=>(sb.2 b hb).trans e) f0 f1 f3 f4 f5;obtain⟨o,e,c,d⟩:=id st';exact⟨u,rfl,Ab (s:={s with heap:=h'}) e c d (by decide) ⟨x,H,I1,ru,⟨rfl,λys hy=>by rw[I.Ni hy hq];exact hx⟩,st',λb hb=>(hf b hb).1⟩⟩
 done:=by intro X hP hw hK hc i kw s σ H E I hf st hg;subst hP hw hK;obtain⟨xs,hq,hx⟩:=hg;obtain⟨its,rv,p,hz⟩:=I.list hq;obtain⟨f0,f1,f2,f3,f4,f5⟩:=hf it (by simp);have hl:=rv.length;exact UO (I.ok.hd hc) st p.isList (by simp;omega) λh' eb=>⟨rfl,I.turned (t':=s.toks) (λb o hb e=>eb b o hb e) f0 f1 f3 f4 f5⟩
 self:=λ_ _ _ _ _ st h=>wpAny_pyIter_listiter st h
def xH(a it:ZE):Bz P w K tg (Itt K a) [it] it (λi h=>h.IsTupleIter it a i) where
 mem:=by simp
 obj:=λi h st b hb=>by
  have e:b=it:=by simpa using hb
  subst e;obtain⟨o,e,c,d⟩:=st;exact⟨o,e,λv z=>by rw[d]at z;cases z⟩
 keep:=λi h h' st k=>st.at λo e=>k it (by simp) o e
 item:=by intro X hP hw hK hc i kw s σ H E I hf st hg;subst hP hw hK;obtain⟨xs,x,hq,hx⟩:=hg;obtain⟨its,rv,p,hz⟩:=I.tuple hq;obtain⟨u,hu,ru⟩:=rv.get hx;obtain⟨f0,f1,f2,f3,f4,f5⟩:=hf it (by simp);refine wpAny_pyNext_tuple_item st (show s.heap.IsTuple a its.toArray from p) (x:=u) (by simpa using hu) λh' st' sb=>?_;have I1:Inv X kw σ H {s with heap:=h'}:=I.turned (t':=s.toks) (λb o hb e=>(sb.2 b hb).trans e) f0 f1 f3 f4 f5;obtain⟨o,e,c,d⟩:=id st';exact⟨u,rfl,Ab (s:={s with heap:=h'}) e c d (by decide) ⟨x,H,I1,ru,⟨rfl,λys hy=>by rw[I.Nb hy hq];exact hx⟩,st',λb hb=>(hf b hb).1⟩⟩
 done:=by intro X hP hw hK hc i kw s σ H E I hf st hg;subst hP hw hK;obtain⟨xs,hq,hx⟩:=hg;obtain⟨its,rv,p,hz⟩:=I.tuple hq;obtain⟨f0,f1,f2,f3,f4,f5⟩:=hf it (by simp);have hl:=rv.length;exact wpAny_pyNext_tuple_end (I.ok.hd hc) st (show s.heap.IsTuple a its.toArray from p) (by simp;omega) λh' eb=>⟨rfl,I.turned (t':=s.toks) (λb o hb e=>eb b o hb e) f0 f1 f3 f4 f5⟩
 self:=λ_ _ _ _ _ st h=>wpAny_pyIter_tupleiter st h
def xI(it:ZE)(lo:Int)(n:Nat):Bz P w K tg (Itr lo n) [it] it (λi h=>Vp h it (lo+(i:Nat)*1) ((n:Int) - (i:Nat)) 1) where
 mem:=by simp
 obj:=λi h st b hb=>by
  have e:b=it:=by simpa using hb
  subst e;exact⟨_,st,λv z=>by have z':W2 _=Data.cell v:=z;cases z'⟩
 keep:=λi h h' st k=>k it (by simp) _ st
 item:=by intro X hP hw hK hc i kw s σ H E I hf st hg;subst hP hw hK;obtain⟨f0,f1,f2,f3,f4,f5⟩:=hf it (by simp);have W:=Walks.range (prog:=X.prog) (w:=X.w) (I.ok.hd hc) it lo 1 n;refine W.item i s _ _ hg st λv h' tk hv st' kk=>?_;obtain⟨t,rfl⟩:=hv;have I1:Inv X kw σ H {s with heap:=h',toks:=tk}:=I.turned (λb o hb e=>kk b o (by simpa using hb) e) f0 f1 f3 f4 f5;refine⟨_,rfl,Ab (s:={s with heap:=h',toks:=tk}) (n:="range_iterator") st' rfl rfl (by decide) ⟨.int (lo+i),H,I1,⟨t,?_⟩,⟨rfl,rfl⟩,st',λb hb=>(hf b hb).1⟩⟩;rw[Int.mul_one]
 done:=by intro X hP hw hK hc i kw s σ H E I hf st hg;subst hP hw hK;obtain⟨f0,f1,f2,f3,f4,f5⟩:=hf it (by simp);exact Uu (I.ok.hd hc) st (by have:n<=i:=hg;omega) λh' eb=>⟨rfl,I.turned (t':=s.toks) (λb o hb e=>eb b o hb e) f0 f1 f3 f4 f5⟩
 self:=λ_ _ _ _ _ st h=>Uv st h
variable{fp:List ZE}{l:ZG}{tl:TE}
def Mj(K:N7)(tl:TE):TI:=λσ H R=>tl σ H λx H1=>∃a,x=.ref a/\(∃xs,SqL K H1 a xs)/\R (Itl K a) H1
def iTup(K:N7)(tl:TE):TI:=λσ H R=>tl σ H λx H1=>∃a,x=.ref a/\(∃xs,SqT K H1 a xs)/\R (Itt K a) H1
def F2(hl:PE X l tl):PI X tg l (Mj X.K tl):=by
 intro kw s σ H R I h;refine cL (hl kw s σ H _ I h) λv s1 hh_=>?_;obtain⟨x,H1,I1,r1,q1⟩:=hh_;obtain⟨a,e,⟨xs,hq⟩,q⟩:=q1;subst e;cases r1;obtain⟨its,rv,p,hz⟩:=I1.list hq;refine SA p.isList ?_;refine⟨s1.heap.objs.size,[s1.heap.objs.size],_,_,H1,rfl,I1.kept (t':=s1.toks) λb o e=>Oi _ e,Aw a _,⟨_,OA _ rfl,rfl,rfl⟩,λb hb=>?_,q⟩;have e:b=s1.heap.objs.size:=by simpa using hb
 subst e;exact I1.Nl (Ou _) (I1.hok.fresh (Ou _))
def Jk(hl:PE X l tl):PI X tg l (iTup X.K tl):=by
 intro kw s σ H R I h;refine cL (hl kw s σ H _ I h) λv s1 hh_=>?_;obtain⟨x,H1,I1,r1,q1⟩:=hh_;obtain⟨a,e,⟨xs,hq⟩,q⟩:=q1;subst e;cases r1;obtain⟨its,rv,p,hz⟩:=I1.tuple hq;refine So (show s1.heap.IsTuple a its.toArray from p) ?_;refine⟨s1.heap.objs.size,[s1.heap.objs.size],_,_,H1,rfl,I1.kept (t':=s1.toks) λb o e=>Oi _ e,xH a _,⟨_,OA _ rfl,rfl,rfl⟩,λb hb=>?_,q⟩;have e:b=s1.heap.objs.size:=by simpa using hb
 subst e;exact I1.Nl (Ou _) (I1.hok.fresh (Ou _))
def lQ{R:It->Hp->Prop}{lo hi:Int}{t u v:Tok}(I:Inv X kw σ H s)(h1 : -(2 ^ 62)<=lo)(h2:lo<2 ^ 62)(h3 : -(2 ^ 62)<=hi)(h4:hi<2 ^ 62)
  (q:R (Itr lo (hi - lo).toNat) H):ZJ (ZK X.prog X.w) X.A (pyIter (.ref s.heap.objs.size)) (MY X kw σ tg R) E {s with heap:=s.heap.push {cls:=.type "range",data:=.fields #[.int lo t,.int hi u,.int 1 v]},toks:=tk}:=by
 refine VP (W3 ..) (small_one h1 h2 h3 h4) ?_;have I1:Inv X kw σ H {s with heap:=s.heap.push {cls:=.type "range",data:=.fields #[.int lo t,.int hi u,.int 1 v]},toks:=tk}:=I.kept λb o e=>Oi _ e;refine⟨(s.heap.push {cls:=.type "range",data:=.fields #[.int lo t,.int hi u,.int 1 v]}).objs.size,[(s.heap.push {cls:=.type "range",data:=.fields #[.int lo t,.int hi u,.int 1 v]}).objs.size],_,_,H,rfl,
  I1.kept (t':=tk) λb o e=>Oi _ e,xI _ lo (hi - lo).toNat,?_,λb hb=>?_,q⟩
 .have e1:lo+((0:Nat):Int)*1=lo:=by simp
  have e2:(((hi - lo).toNat:Nat):Int) - ((0:Nat):Int)=Ro lo hi 1:=by rw[rangeSize_one];split <;> omega
  show Vp _ _ (lo+((0:Nat):Int)*1) ((((hi - lo).toNat:Nat):Int) - ((0:Nat):Int)) 1;rw[e1,e2];exact OA _ rfl
 .have e:b=(s.heap.push {cls:=.type "range",data:=.fields #[.int lo t,.int hi u,.int 1 v]}).objs.size:=by simpa using hb
  subst e;exact I1.Nl (Ou _) (I1.hok.fresh (Ou _))
def tFor(wi:TI)(g:TG)(tb:TS):TS:=λD σ H=>wi σ H λJ H1=>∃W:Nat->Nat->St->Hp->Prop,(∃m,W 0 m σ H1)/\∀i m σ H,W i m σ H ->
 (J.stop i H/\D.nx σ H)\/(J.go i H/\∃N:St->Hp->Prop,(∀σ' H',N σ' H'->∃m',m'<m/\W (i+1) m' σ' H')/\∀x H',J.yld i H x H'->g x σ H' λσ2 H2=>tb {D with nx:=N,ct:=N,bk:=D.nx} σ2 H2)
noncomputable def pE(fp:List ZE)(h:ZH):Uf:=fp.filterMap λb=>(h.get? b).map λo=>(b,o)
def jb{o:Obj}(hb:b∈fp)(e:h.get? b=ZA o):(b,o)∈pE fp h:=Tw.mpr ⟨b,hb,by rw[e];rfl⟩
def AQ{p:ZE×Obj}(hp:p∈pE fp h):p.1∈fp/\h.get? p.1=ZA p.2:=by
 obtain⟨b,hb,e⟩:=Tw.mp hp;cases q:h.get? b with
 |none=>rw[q]at e;cases e
 |some o=>
  rw[q]at e;have e':(b,o)=p:=OQ e;subst e';exact⟨hb,q⟩
def Inv.pinned(I:Inv X kw σ H s)(hf:∀b∈fp,qR X kw H b)(ho:∀b∈fp,∃o,s.heap.get? b=ZA o/\∀v,o.data≠ .cell v):Inv X (kw++pE fp s.heap) σ H s:=
 I.Nn λp hp=>(OS.mp hp).elim (λz=>I.pin p (OL _ z)) λz=>by obtain⟨hb,e⟩:=AQ z;obtain⟨f0,f1,f2,_⟩:=hf p.1 hb;obtain⟨o,e',d⟩:=ho p.1 hb;rw[e]at e';cases e';exact⟨e,f0,f1,f2,d⟩
def Inv.M5{pl:Uf}(I:Inv X (kw++pl) σ H s):Inv X kw σ H s:=I.Nn λp hp=>I.pin p (OL _ (O9 _ hp))
abbrev R2:=V->V->Hp->VK->Prop
def qU(X:Cx)(f:Ob->Ob->Sem Ob)(r:R2):Prop:=
 ∀(kw:Uf)(s:Oe)(σ:St)(H:Hp)(x y:V)(v u:Ob)(Q:VK),Inv X kw σ H s->RelV x v->RelV y u->r x y H Q ->
  ZJ (ZK X.prog X.w) X.A (f v u) (EP X kw σ Q) X.xe s
def UnR(X:Cx)(f:Ob->Sem Ob)(r:V->Hp->VK->Prop):Prop:=
 ∀(kw:Uf)(s:Oe)(σ:St)(H:Hp)(x:V)(v:Ob)(Q:VK),Inv X kw σ H s->RelV x v->r x H Q ->
  ZJ (ZK X.prog X.w) X.A (f v) (EP X kw σ Q) X.xe s
def CallR(X:Cx)(f:Ob)(r:List V->Hp->VK->Prop):Prop:=
 ∀(kw:Uf)(s:Oe)(σ:St)(H:Hp)(xs:List V)(us:List Ob)(Q:VK),Inv X kw σ H s->Vals xs us->r xs H Q ->
  ZJ (ZK X.prog X.w) X.A (call f us) (EP X kw σ Q) X.xe s
def tOp(r:R2)(ta tb:TE):TE:=λσ H Q=>ta σ H λx H1=>tb σ H1 λy H2=>r x y H2 Q
def tUn(r:V->Hp->VK->Prop)(ta:TE):TE:=λσ H Q=>ta σ H λx H1=>r x H1 Q
def rI(C:Int->Int->Prop)(g:Int->Int->V):R2:=λx y H Q=>∃i j,x=.int i/\y=.int j/\C i j/\Q (g i j) H
def IE(g:Int->Int->V):R2:=λx y H Q=>∃i j,x=.int i/\y=.int j/\Q (g i j) H
def rU(g:Int->V):V->Hp->VK->Prop:=λx H Q=>∃i,x=.int i/\Q (g i) H
variable{f:Ob->Ob->Sem Ob}{r:R2}
section
variable {a b:ZG}{tb tc:TE}
def Mx(ha:PE X a ta)(hb:PE X b tb){R:V->V->Hp->Prop}(I:Inv X kw σ H s)
  (h:ta σ H λx H1=>tb σ H1 λy H2=>R x y H2)  
  (hf:∀v u s2 x y H2,Inv X kw σ H2 s2->RelV x v->RelV y u->R x y H2->ZJ (ZK X.prog X.w) X.A (f v u) Q X.xe s2):
  ZJ (ZK X.prog X.w) X.A (eval a X.env) (λv s₁=>ZJ (ZK X.prog X.w) X.A (eval b X.env) (λu s₂=>ZJ (ZK X.prog X.w) X.A (f v u) Q X.xe s₂) X.xe s₁) X.xe s:=by
 refine cL (ha kw s σ H _ I h) λv s1 hh_=>?_;obtain⟨x,H1,I1,r1,q1⟩:=hh_;refine cL (hb kw s1 σ H1 _ I1 q1) λu s2 hh_=>?_;obtain⟨y,H2,I2,r2,q2⟩:=hh_;exact hf v u s2 x y H2 I2 r1 r2 q2
def LF{op:W0}(ho:qU X (Qz op) r)(ha:PE X a ta)(hb:PE X b tb):PE X (.BinOp a op b pos) (tOp r ta tb):=by intro kw s σ H Q I h;exact wpAny_BinOp (Mx ha hb I h λv u s2 x y H2 I2 rx ry q=>ho kw s2 σ H2 x y v u Q I2 rx ry q)
def Hw{op:UnaryOp}{r:V->Hp->VK->Prop}(ho:UnR X (unaryOp op) r)(ha:PE X a ta):PE X (.UnaryOp op a pos) (tUn r ta):=by intro kw s σ H Q I h;exact UnaryOp_ (cL (ha kw s σ H _ I h) λv s1 ⟨x,H1,I1,r1,q1⟩=>ho kw s1 σ H1 x v Q I1 r1 q1)
def opI{C:Int->Int->Prop}
  (rule:∀(i j:Int)(t u:Tok)(s:Oe)(Q:WP)(E:WP),C i j->Q (.int (g i j) s.toks) {s with toks:=s.toks+1}->ZJ (ZK X.prog X.w) X.A (f (.int i t) (.int j u)) Q E s):
  qU X f (rI C λi j=>.int (g i j)):=by
 intro kw s σ H x y v u Q I rx ry h;obtain⟨i,j,rfl,rfl,hc,q⟩:=h;obtain⟨t,rfl⟩:=rx;obtain⟨t',rfl⟩:=ry;exact rule i j t t' s _ _ hc ⟨.int (g i j),H,I.tok _,⟨_,rfl⟩,q⟩
def LL 
  (rule:∀(i j:Int)(t u:Tok)(s:Oe)(Q:WP)(E:WP),Q (.int (g i j) s.toks) {s with toks:=s.toks+1}->ZJ (ZK X.prog X.w) X.A (f (.int i t) (.int j u)) Q E s):
  qU X f (IE λi j=>.int (g i j)):=by
 intro kw s σ H x y v u Q I rx ry h;obtain⟨i,j,rfl,rfl,q⟩:=h;obtain⟨t,rfl⟩:=rx;obtain⟨t',rfl⟩:=ry;exact rule i j t t' s _ _ ⟨.int (g i j),H,I.tok _,⟨_,rfl⟩,q⟩
def LM{g:Int->Int->Bool}
  (rule:∀(i j:Int)(t u:Tok)(s:Oe)(Q:WP)(E:WP),Q (.bool (g i j)) s->ZJ (ZK X.prog X.w) X.A (f (.int i t) (.int j u)) Q E s):
  qU X f (IE λi j=>.bl (g i j)):=by
 intro kw s σ H x y v u Q I rx ry h;obtain⟨i,j,rfl,rfl,q⟩:=h;obtain⟨t,rfl⟩:=rx;obtain⟨t',rfl⟩:=ry;exact rule i j t t' s _ _ ⟨.bl (g i j),H,I,rfl,q⟩
def CDiv(i j:Int):Prop:=0<j/\j<1073741824
def CMul(i j:Int):Prop:=(-(2 ^ 64)<i/\i<2 ^ 64)\/(-(2 ^ 64)<j/\j<2 ^ 64)
def CMul.ok{i j:Int}(h:CMul i j):IntMulOk i j:=by
 rcases h with⟨h1,h2⟩|⟨h1,h2⟩
 .exact .of_left (intBits_le_64 h1 h2)
 .exact .of_right (intBits_le_64 h1 h2)
def Jx:qU X (Qz .Add) (IE λi j=>.int (i+j)):=LL λ_ _ _ _ _ _ _ q=>add_int q
def Js:qU X (Qz .Sub) (IE λi j=>.int (i - j)):=LL λ_ _ _ _ _ _ _ q=>sub_int q
def Ju:qU X (Qz .Mult) (rI CMul λi j=>.int (i*j)):=opI λ_ _ _ _ _ _ _ hc q=>mul_int q hc.ok
def Ga:qU X (Qz .FloorDiv) (rI CDiv λi j=>.int (i / j)):=opI λi j _ _ _ _ _ hc q=>by have h1:(0:Int)<j:=hc.1;have h2:j<1073741824:=hc.2;exact floordiv_int (by omega) (by rw[Int.fdiv_eq_ediv_of_nonneg i (by omega)];exact q) (.inl (Us (by omega)))
def Jv:qU X (Qz .Mod) (rI (λ_ j=>0<j) λi j=>.int (i % j)):=opI λi j _ _ _ _ _ hc q=>by have h1:(0:Int)<j:=hc;exact mod_int' (by omega) (by rw[Int.fmod_eq_emod_of_nonneg i (by omega)];exact q)
def unI{f:Ob->Sem Ob}{g:Int->Int}
  (rule:∀(i:Int)(t:Tok)(s:Oe)(Q:WP)(E:WP),Q (.int (g i) s.toks) {s with toks:=s.toks+1}->ZJ (ZK X.prog X.w) X.A (f (.int i t)) Q E s):
  UnR X f (rU λi=>.int (g i)):=by
 intro kw s σ H x v Q I rx h;obtain⟨i,rfl,q⟩:=h;obtain⟨t,rfl⟩:=rx;exact rule i t s _ _ ⟨.int (g i),H,I.tok _,⟨_,rfl⟩,q⟩
def BU:UnR X (unaryOp .USub) (rU λi=>.int (-i)):=unI λ_ _ _ _ _ q=>neg_int q
end
noncomputable def scal:V->V->Bool
 |.non,.non=>ZC|.non,.int _=>ZC|.int _,.non=>ZC|.non,.bl _=>ZC|.bl _,.non=>ZC|.non,.str _=>ZC|.str _,.non=>ZC
 |.int _,.int _=>ZC|.bl _,.bl _=>ZC|.str _,.str _=>ZC|.byt _,.byt _=>ZC
 |.int _,.str _=>ZC|.str _,.int _=>ZC|.bl _,.str _=>ZC|.str _,.bl _=>ZC
 |_,_=>ZD
def rNe:R2:=λx y H Q=>scal x y=ZC/\Q (.bl (!decide (x=y))) H
def GV{i j:Int}:decide (V.int i=V.int j)=(i == j):=by rw[Pf];simp
def Kq{i j:Bool}:decide (V.bl i=V.bl j)=(i == j):=by rw[Pf];simp
def GU{i j:Str}:decide (V.str i=V.str j)=(i == j):=by rw[Pf];simp
def GW{i j:Array UInt8}:decide (V.byt i=V.byt j)=(i.toList == j.toList):=by rw[Pf];cases i;cases j;simp
section
variable {a b:ZG}{tb tc:TE}
def dY{Q:VK}{k k':Bool}(I:Inv X kw σ H s)(q:Q (.bl k) H)(e:k=k'):EP X kw σ Q (.bool k') s:=by subst e;exact⟨.bl k,H,I,rfl,q⟩
def LH:qU X (Pp .NotEq) rNe:=by
 intro kw s σ H x y v u Q I rx ry h;obtain⟨hs,q⟩:=h;cases x with
 |non=>
  cases rx;cases y with
  |non=>cases ry;exact PySem.EqNone.ne_none_none (dY I q (by simp))
  |bl j=>cases ry;exact PySem.EqNone.ne_none_bool (dY I q (by simp))
  |int j=>obtain⟨t',rfl⟩:=ry;exact PySem.EqNone.ne_none_int (dY I q (by simp))
  |str j=>obtain⟨t',rfl⟩:=ry;exact PySem.EqNone.ne_none_str (dY I q (by simp))
  |_=>exact absurd (show ZD=ZC from hs) OG
 |bl i=>
  cases rx;cases y with
  |non=>cases ry;exact PySem.EqNone.ne_bool_none (dY I q (by simp))
  |bl j=>cases ry;exact ne_bool (dY I q (congrArg not Kq))
  |str j=>obtain⟨t',rfl⟩:=ry;exact PySem.EqMixed.ne_bool_str (dY I q (by simp))
  |_=>exact absurd (show ZD=ZC from hs) OG
 |int i=>
  obtain⟨t,rfl⟩:=rx;cases y with
  |non=>cases ry;exact PySem.EqNone.ne_int_none (dY I q (by simp))
  |int j=>obtain⟨t',rfl⟩:=ry;exact ne_int (dY I q (congrArg not GV))
  |str j=>obtain⟨t',rfl⟩:=ry;exact PySem.EqMixed.ne_int_str (dY I q (by simp))
  |_=>exact absurd (show ZD=ZC from hs) OG
 |str i=>
  obtain⟨t,rfl⟩:=rx;cases y with
  |non=>cases ry;exact PySem.EqNone.ne_str_none (dY I q (by simp))
  |bl j=>cases ry;exact PySem.EqMixed.ne_str_bool (dY I q (by simp))
  |int j=>obtain⟨t',rfl⟩:=ry;exact PySem.EqMixed.ne_str_int (dY I q (by simp))
  |str j=>obtain⟨t',rfl⟩:=ry;exact ne_str (dY I q (congrArg not GU))
  |_=>exact absurd (show ZD=ZC from hs) OG
 |byt i=>
  obtain⟨t,rfl⟩:=rx;cases y with
  |byt j=>obtain⟨t',rfl⟩:=ry;exact PySem.W.ne_bytes (dY I q (congrArg not GW))
  |_=>exact absurd (show ZD=ZC from hs) OG
 |_=>cases y <;> exact absurd (show ZD=ZC from hs) OG
def LI:qU X (Pp .Lt) (IE λi j=>.bl (decide (i<j))):=LM λ_ _ _ _ _ _ _ q=>lt_int q
def LJ:qU X (Pp .LtE) (IE λi j=>.bl (decide (i<=j))):=LM λ_ _ _ _ _ _ _ q=>le_int q
def Jw:qU X (Pp .Is) (λx y H Q=>y=.non/\Q (.bl (decide (x=.non))) H):=by
 intro kw s σ H x y v u Q I rx ry h;obtain⟨rfl,q⟩:=h;cases ry;refine is_none_gen (dY I q ?_);cases x <;> first
  | (cases rx;rfl)
  | (obtain⟨t,rfl⟩:=rx;rfl)
def F9:qU X (Pp .IsNot) (λx y H Q=>y=.non/\Q (.bl (!decide (x=.non))) H):=by
 intro kw s σ H x y v u Q I rx ry h;obtain⟨rfl,q⟩:=h;cases ry;refine isnot_none_gen (dY I q ?_);cases x <;> first
  | (cases rx;rfl)
  | (obtain⟨t,rfl⟩:=rx;rfl)
def JC(b:ZG)(h:autoParam (op≠ .In) s_)(h2:autoParam (op≠ .NotIn) s_):RS op b=ZD:=by
 have e1:(op == CmpOp.In)=ZD:=by cases op <;> first|rfl|exact absurd rfl h
 have e2:(op == CmpOp.NotIn)=ZD:=by cases op <;> first|rfl|exact absurd rfl h2
 cases b <;> simp[RS,e1,e2]
def KU(t:TE):TT:=λσ H Q=>t σ H λx H'=>∃k,x=.bl k/\Q k H'
def FW(ho:qU X (Pp op) r)(ha:PE X a ta)(hb:PE X b tb)(hm:RS op b=ZD):PT X (.Compare a [op] [b] pos) (KU (tOp r ta tb)):=by
 intro kw s σ H Q I h;refine UP (cL (ha kw s σ H _ I h) λv s1 ⟨x,H1,I1,r1,q1⟩=>cL (hb kw s1 σ H1 _ I1 q1) λu s2 ⟨y,H2,I2,r2,q2⟩=>
  cL (ho kw s2 σ H2 x y v u _ I2 r1 r2 q2) λc s3 ⟨z,H3,I3,r3,k,e,q3⟩=>?_) hm
 subst e;cases r3;exact Ph ⟨H3,I3,q3⟩
def qg:(ZI:Nat)<2 ^ 63:=by rw[PJ];decide
def x6:qU X (Qz .Add) (λx y H Q=>∃i j,x=.str i/\y=.str j/\i.length+j.length<=ZI/\Q (.str (i++j)) H):=by intro kw s σ H x y v u Q I rx ry h;obtain⟨i,j,rfl,rfl,hz,q⟩:=h;obtain⟨t,rfl⟩:=rx;obtain⟨t',rfl⟩:=ry;exact add_str (λt' tk=>⟨.str (i++j),H,I.tok _,⟨_,rfl⟩,q⟩) hz
def lH{x:V}(r:Vals [x] us):∃u,us=[u]/\RelV x u:=by
 cases r with
 |cons r1 r2=>cases r2;exact⟨_,rfl,r1⟩
def zd{x y:V}(r:Vals [x,y] us):∃u w',us=[u,w']/\RelV x u/\RelV y w':=by
 cases r with
 |cons r1 r2=>
  cases r2 with
  |cons r3 r4=>cases r4;exact⟨_,_,rfl,r1,r3⟩
def Bv(hc:X.calm=ZC):CallR X (.builtin "max") (λxs H Q=>∃i j,xs=[.int i,.int j]/\Q (.int (if j > i then j else i)) H):=by
 intro kw s σ H xs us Q I r h;obtain⟨i,j,rfl,q⟩:=h;obtain⟨u,w',rfl,⟨t,rfl⟩,⟨t',rfl⟩⟩:=zd r;refine max_two_ints (I.ok.hd hc) λh' tk k=>⟨_,H,I.kept k,?_,q⟩;by_cases hj:j > i
 .rw[if_pos hj,if_pos hj];exact⟨_,rfl⟩
 .rw[if_neg hj,if_neg hj];exact⟨_,rfl⟩
def Bw:CallR X (.type "int") (λxs H Q=>(∃i,xs=[.int i]/\Q (.int i) H)\/∃k,xs=[.bl k]/\Q (.int (if k then 1 else 0)) H):=by
 intro kw s σ H xs us Q I r h;rcases h with⟨i,rfl,q⟩|⟨k,rfl,q⟩
 .obtain⟨u,rfl,t,rfl⟩:=lH r;exact call_int_int ⟨.int i,H,I,⟨_,rfl⟩,q⟩
 .obtain⟨u,rfl,r1⟩:=lH r;cases r1;exact call_int_bool ⟨.int (if k then 1 else 0),H,I.tok _,⟨_,rfl⟩,q⟩
end
structure ObjM (h:ZH)(x dx C:ZE)(mA:WF):Prop where
 obj:h.get? x=ZA (Uy C dx)
 ns:h.Ns1 dx mA
 ne:dx≠x
variable{dx:ZE}{mA:WF}
def AZ(n:h.Ns1 dx mA):∃od,h.get? dx=ZA od/\∀name,Vb name od=ZA (mA name):=by
 obtain⟨o,es,ep,ho,hd,hk,_,hm⟩:=n;refine⟨o,ho,λname=>?_⟩;have e:=hm name;unfold nsFind findBy at e;rw[<-Vw]at e;unfold Vb;rw[hd];dsimp only;split
 .rename_i y q;rw[q]at e;exact congrArg ZA e
 .rename_i q;rw[q]at e;have a:es.toList.any (·.refKey)=ZD:=by rw[TQ];intro y hy;obtain⟨z,t,hkey⟩:=hk y (Array.mem_toList_iff.mp hy);simp[DictEntry.refKey,hkey]
  have a':¬ es.toList.any (·.refKey)=ZC:=by rw[a];exact OG
  rw[if_neg a'];exact congrArg ZA e
variable{C:ZE}
def ObjM.look{x:ZE}(I:ObjM h x dx C mA):∃od,PySem.W.InstAt h x (Uy C dx) C (ZA od)/\∀name,Vb name od=ZA (mA name):=
 let ⟨od,ho,hl⟩:=AZ I.ns
 ⟨od,⟨I.obj,rfl,rfl,ho⟩,hl⟩
def RelO.some_of{o:Option Ob}(r:RelO (ZA v) o):∃u,o=ZA u/\RelV v u:=by
 cases o with
 |none=>exact(show False from r).elim
 |some u=>exact⟨u,rfl,r⟩
section
variable {fs fs':List (Str×V)}
def GC(hok:HOk P w H h)(e:H a=ZA (.ins C dx fs)):∃mA,ObjM h a dx C mA/\(∀f,RelO (fs.lookup f) (mA f))/\PySem.Within mA (fs.map (·.1))/\fs.length<=1000/\H dx=ZA (.own a):=by obtain⟨d,z,ne,ob,mA,n,r,q⟩:=(show ObjOk P w H h a (.ins C dx fs)from hok a _ e);exact⟨mA,⟨ob,n,ne⟩,r,q,z,d⟩
end
structure Cls (K:N7)(C:ZE):Prop where
 pg:WE K C Str.empty=ZC
 hd:PySem.W.hasDictIn K C=ZC
 po:PySem.W.plainOver K C=ZC
 sa:PySem.W.findIn K (.ref C) "__setattr__" =ZA (ZA (.builtin "object.__setattr__"))
def Cls.get(c:Cls K C)(f:Str):WE K C f=ZC:=c.pg
section
variable {c:Ob}{b:Bool}
inductive nt (K:N7) (H:Hp):V->Ob->Prop where
 |non:nt K H .non (.type "NoneType")
 |bl (x:Bool):nt K H (.bl x) (.type "bool")
 |int (i:Int):nt K H (.int i) (.type "int")
 |str (x:Str):nt K H (.str x) (.type "str")
 |flt (x:UInt64):nt K H (.flt x) (.type "float")
 |lst {a:ZE} {xs:List V} (e:H a=ZA (.lst xs)):nt K H (.ref a) (.type "list")
 |frz {a:ZE} {o:Obj} {xs:List V} (e:H a=ZA (.frz o (.lst xs))):nt K H (.ref a) (.type "list")
 |tup {a:ZE} {xs:List V} (e:H a=ZA (.tup xs)):nt K H (.ref a) (.type "tuple")
 |dK {a:ZE} {kvs:List (Key×V)} (e:H a=ZA (.dK kvs)):nt K H (.ref a) (.type "dict")
 |dT {a:ZE} {kvs:List (List Key×V)} (e:H a=ZA (.dT kvs)):nt K H (.ref a) (.type "dict")
 |ins {a C dx:ZE} {fs:List (Str×V)} (e:H a=ZA (.ins C dx fs)) (cl:Cls K C) (ha:PySem.W.findIn K (.ref C) "__class__" =ZA (ZA (.builtin "object.__class__")))
   (hn:PySem.W.specialIn K (.builtin "object.__class__") "__get__" =ZA (ZA (.builtin "getset_descriptor.__get__"))) (htk:PySem.W.takesIn K (.builtin "object.__class__")=ZA ZC)
   (hm:PySem.W.mroIn K C (.type "object")=ZA ZC):nt K H (.ref a) (.ref C)
def A9{x:V}{u t:Ob}(I:Inv X kw σ H s)(rx:RelV x u)(ty:nt X.K H x t)(e:PySem.W.kitOne X.K t c=ZA b)(h:∀tk,Q (.bool b) {s with toks:=tk}):
  ZJ (ZK X.prog X.w) A (call (.builtin "isinstance") [u,c]) Q E s:=by
 cases ty with
 |non=>cases (show u=Po from rx);exact P3 PySem.W.kitx_none I.kIn RM e (λz=>nomatch z) h
 |bl y=>cases (show u=Pq y from rx);exact P3 PySem.W.kitx_bool I.kIn RM e (λz=>nomatch z) h
 |int i=>obtain⟨t,q⟩:=(show ∃t,u=Qe i t from rx);cases q;exact P3 PySem.W.kitx_int I.kIn RM e (λz=>nomatch z) h
 |str y=>obtain⟨t,q⟩:=(show ∃t,u=QF y t from rx);cases q;exact P3 PySem.W.kitx_str I.kIn RM e (λz=>nomatch z) h
 |flt y=>obtain⟨t,q⟩:=(show ∃t,u=Value.float y t from rx);cases q;exact P3 PySem.W.kitx_float I.kIn RM e (λz=>nomatch z) h
 |@lst a xs ea=>
  cases (show u=OB a from rx);obtain⟨_,_,n,_,h1⟩:=(show ObjOk X.prog X.w H s.heap a (.lst xs)from I.hok a _ ea);exact P3 V0 I.kIn ⟨_,h1,rfl⟩ e (λz=>nomatch z) h
 |@frz a ob xs ea=>
  cases (show u=OB a from rx);obtain⟨_,_,_,n,_,h1⟩:=(show ObjOk X.prog X.w H s.heap a (.frz ob (.lst xs))from I.hok a _ ea);exact P3 V0 I.kIn ⟨_,h1,rfl⟩ e (λz=>nomatch z) h
 |@tup a xs ea=>
  cases (show u=OB a from rx);obtain⟨_,_,_,p⟩:=(show ObjOk X.prog X.w H s.heap a (.tup xs)from I.hok a _ ea);obtain⟨o,h1,h2,_⟩:=p;exact P3 PySem.W.kitx_tuple I.kIn ⟨o,h1,h2⟩ e (λz=>nomatch z) h
 |@dK a kvs ea=>
  cases (show u=OB a from rx);obtain⟨_,_,vs,_,p⟩:=(show ObjOk X.prog X.w H s.heap a (.dK kvs)from I.hok a _ ea);obtain⟨o,es,ep,h1,h2,_⟩:=p;exact P3 V3 I.kIn ⟨o,h1,h2.1⟩ e (λz=>nomatch z) h
 |@dT a kvs ea=>
  cases (show u=OB a from rx);obtain⟨_,_,xs,_,o,es,ep,h1,h2,_⟩:=(show ObjOk X.prog X.w H s.heap a (.dT kvs)from I.hok a _ ea);exact P3 V3 I.kIn ⟨o,h1,h2.1⟩ e (λz=>nomatch z) h
 |@ins a C dx fs ea cl ha hn htk hm=>
  cases (show u=OB a from rx);obtain⟨mA,O,_⟩:=GC I.hok ea;obtain⟨od,J,_⟩:=O.look;exact P3 (PySem.W.kitx_own (cl.get _) cl.hd ha hn htk hm) I.kIn J e (λz=>nomatch z) h
end
structure Room (k:Nat)(A:OW):Prop where
 hd:A.handled=ZB
 dp:A.depth+3*k+5<RY
 un:A.units+16*k+200<cLine
def Room.mono(r:Room k A)(h:j<=k):Room j A:=⟨r.hd,by have:=r.dp;omega,by have:=r.un;omega⟩
def Room.deeper(r:Room (k+1) A)(env:Env):Room k (A.deeper env):=
 ⟨r.hd,by have:=r.dp;show A.depth+1+3*k+5<_;omega,by have:=r.un;show A.units+3+16*k+200<_;omega⟩
def Room.in1(r:Room (k+1) A):Room k A.in1:=
 ⟨r.hd,by have:=r.dp;show A.depth+3*k+5<_;omega,by have:=r.un;show A.units+1+16*k+200<_;omega⟩
def Room.depth(r:Room k A):A.depth<RY:=by have:=r.dp;omega
def tj:TA:=λ_ H Q=>Q [] H
def ie(ta:TE)(tr:TA):TA:=λσ H Q=>ta σ H λx H1=>tr σ H1 λxs H2=>Q (x::xs) H2
section
variable {t:TA}
def dQ:PA X [] tj:=λ_ _ _ _ H Q I h=>Rh ⟨[],H,I,.nil,h⟩
def bF(ha:PE X e te)(hr:PA X es t)(hs:Oz (e::es) X.env=(ZD,eval e X.env)::Oz es X.env:=by rfl):PA X (e::es) (ie te t):=by intro pos kw s σ H Q I h;rw[hs];show ZJ _ _ (spliced ((ZD,eval e X.env)::backTo pos (Oz es X.env))) _ _ s;refine RC (cL (ha kw s σ H _ I h) λu s1 hh_=>?_);obtain⟨x,H1,I1,r1,q1⟩:=hh_;exact cL (hr pos kw s1 σ H1 _ I1 q1) λus s2 ⟨xs,H2,I2,r2,q2⟩=>⟨x::xs,H2,I2,.cons r1 r2,q2⟩
def Fc(t:TA):TE:=λσ H Q=>t σ H λxs H1=>xs.length<=ZI/\∀p,H1 p=ZB->Q (.ref p) (upd H1 p (.tup xs))
def tLst(t:TA):TE:=λσ H Q=>t σ H λxs H1=>xs.length<=ZI/\∀p,H1 p=ZB->Q (.ref p) (upd H1 p (.lst xs))
def tV{x1}(h:PA X es t):PE X (.Tuple es x1 pos) (Fc t):=by intro kw s σ H Q I hq;refine wpAny_Tuple_spliced (cL (h pos kw s σ H _ I hq) λus s1 ⟨xs,H1,I1,r,z,q⟩=>⟨by rw[<-r.length];exact z,?_⟩);have hf:H1 s1.heap.objs.size=ZB:=I1.hok.fresh (Ou _);refine⟨.ref s1.heap.objs.size,upd H1 s1.heap.objs.size (.tup xs),I1.laid (t':=s1.toks) (λb u e=>Oi _ e) (Ou _) ?_,rfl,q _ hf⟩;exact⟨z,us,r,⟨_,OA _ rfl,rfl,_,rfl⟩⟩
def tW(h:PA X es t):PE X (.List es pos) (tLst t):=by intro kw s σ H Q I hq;refine VQ (cL (h pos kw s σ H _ I hq) λus s1 ⟨xs,H1,I1,r,z,q⟩=>⟨by rw[<-r.length];exact z,?_⟩);have hf:H1 s1.heap.objs.size=ZB:=I1.hok.fresh (Ou _);refine⟨.ref s1.heap.objs.size,upd H1 s1.heap.objs.size (.lst xs),I1.laid (t':=s1.toks) (λb u e=>Oi _ e) (Ou _) ?_,rfl,q _ hf⟩;exact⟨z,us,0,r,OA _ rfl⟩
end
abbrev Sp:=List V->Hp->VK->XK->Prop
abbrev BL:=List Env->Hp->Oe->XK->WP
structure Env0 (P:OI)(w:Py)(K:N7)(mg:WF)(base:ZH)(A:OW)(outer:List Env)(s:Oe)(H:Hp):Prop where
 frames:A.frames=ZA outer
 mod:Mod K mg base
 bs:∀b o,base.get? b=ZA o->s.heap.get? b=ZA o/\H b=ZB
 bsz:base.objs.size<=s.heap.objs.size
 funs:s.heap.FunFrames base outer
 frf:∀b∈kG outer,H b=ZB
 hok:HOk P w H s.heap
 bare:Rl s.gens
 tb:Tb K mg H
def CE(outer:List Env)(P:OI)(w:Py)(H:Hp)(s:Oe)(Q:VK)(u:Ob)(s':Oe):Prop:=
 ∃v H',s'.os=s.os/\Rl s'.gens/\Un (kG outer) [] H H' s.heap s'.heap/\HOk P w H' s'.heap/\RelV v u/\Q v H'
def CR(CX:BL)(outer:List Env)(P:OI)(w:Py)(H:Hp)(s:Oe)(Q:VK)(E:XK)(r:Xk)(s':Oe):Prop:=
 match r with
 |.ok (.ret u)=>CE outer P w H s Q u s'
 |.ok _=>False
 |.error e=>CX outer H s E e s'
structure rC (P:OI)(w:Py)(K:N7)(mg:WF)(base:ZH)(CX:BL)(k:Nat)(f:ZE)(fd:PX)(ps:List Str)(sp:Sp):Prop where
 len:∀vs H Q E,sp vs H Q E->vs.length=ps.length
 run:∀(A:OW)(outer:List Env)(s:Oe)(H:Hp)(args:Args)(us:List Ob)(vs:List V)(Q:VK)(E:XK),Room k A->Env0 P w K mg base A outer s H->Vq s fd args (ps.zip us)->Vals vs us->sp vs H Q E ->
  ZL (ZK P w) A (.call (.ref f) args) (CR CX outer P w H s Q E) s
variable{mg:WF}{outer:List Env}
def Env0.in1{base:ZH}(e:Env0 P w K mg base A outer s H):
  Env0 P w K mg base A.in1 outer s H:=⟨e.frames,e.mod,e.bs,e.bsz,e.funs,e.frf,e.hok,e.bare,e.tb⟩
variable{Q:VK}
def Inv.Ny(I:Inv X kw σ H s):Env0 X.prog X.w X.K X.mg X.base X.A X.stack s H:=
 ⟨I.ok.frames,I.ok.mod,I.bs,OJ I.ok.bsz I.sz,I.stack,I.IR,I.hok,I.bare,I.tb⟩
def Inv.after{u:Ob}(I:Inv X kw σ H s)(h:CE X.stack X.prog X.w H s Q u s'):EP X kw σ Q u s':=by obtain⟨v,H',os,bare,un,hok,r,q⟩:=h;obtain⟨hh,g,d,t,os'⟩:=s';obtain rfl:os'=s.os:=os;exact⟨v,H',I.call (h':=hh) (g':=g) (d':=d) (t':=t) (ch:=[]) un hok bare (λb z=>absurd z (by simp)),r,q⟩
def Hm(sp:Sp)(dvs:List V)(E:XK)(t:TA):TE:=λσ H Q=>t σ H λvs H1=>sp (vs++dvs) H1 Q E
def Binds(K:N7)(fd:PX)(ps:List Str)(ds:List Ob):Prop:=
 ∀(s:Oe)(us:List Ob),K.In s.heap->(us++ds).length=ps.length->Vq s fd ⟨us,[]⟩ (ps.zip (us++ds))
variable{ps:List Str}
def Binds.all(h:∀us:List Ob,us.length=ps.length->VR fd ⟨us,[]⟩=pure (ps.zip us)):Binds K fd ps []:=λs us _ hl=>by rw[PB]at hl ⊢;exact .of_eq (h us hl)
def u5(CX:BL)(X:Cx)(E:XK):Prop:=∀(kw:Uf)(σ:St)(H:Hp)(s:Oe)(e:Ob)(s':Oe),Inv X kw σ H s->CX X.stack H s E e s'->X.xe e s'
variable{CX:BL}{E:XK}{f:ZE}{sp:Sp}{vs:List V}
section
variable {dvs:List V}{ds:List Ob}{m:Str}{p apos:Pos}{o:ZG}{t:TA}
def xU(F:rC X.prog X.w X.K X.mg X.base CX k f fd ps sp)(hr:Room k X.A)(hb:Binds X.K fd ps ds)(hd:Vals dvs ds)(hx:u5 CX X E)
  (I:Inv X kw σ H s) (r:Vals vs us) (h:sp (vs++dvs) H Q E):ZJ (ZK X.prog X.w) X.A (call (.ref f) us) (EP X kw σ Q) X.xe s:=by
 have r2:Vals (vs++dvs) (us++ds):=r.append hd;have hl:(us++ds).length=ps.length:=by rw[<-r2.length];exact F.len _ _ _ _ h
 refine UY (Sd (F.run X.A X.stack s H ⟨us,[]⟩ (us++ds) (vs++dvs) Q E hr I.Ny (hb s us I.kIn hl) r2 h) λr s' hq=>?_);cases r with
 |error e=>exact hx kw σ H s e s' I hq
 |ok fl=>
  cases fl with
  |ret u=>exact I.after hq
  |next=>exact QQ hq
  |brk=>exact QQ hq
  |cont=>exact QQ hq
def zy(F:rC X.prog X.w X.K X.mg X.base CX k f fd ps sp)(hr:Room k X.A)(hg:Gl X x)(hm:X.mg x=ZA (.ref f))(hk:Qx X.K (.ref f)=ZC)(hb:Binds X.K fd ps ds)(hd:Vals dvs ds)(hx:u5 CX X E)
  (ha:PA X (e::es) t) (hdb:autoParam ((x == ("__debug__" : Str))=ZD) s_) (he:Oz (e::es) X.env=(ZD,eval e X.env)::Oz es X.env:=by rfl) (hpl:(backTo pos (Oz es X.env)).any (·.1)=ZD:=by rfl):
  PE X (.Call (.Name x p) (e::es) [] pos) (Hm sp dvs E t):=by
 intro kw s σ H Q I h;refine Pd (je I hg hm ?_ hdb);refine Sg (h₀:=X.base) I.ok.mod.kin hk (cL (ha pos kw s σ H _ I h) λus s1 ⟨vs,H1,I1,r,q⟩=>⟨I1.kIn,?_⟩) he hpl;exact xU F hr hb hd hx I1 r q
def CT(F:rC X.prog X.w X.K X.mg X.base CX k f fd ps sp)(hr:Room k X.A)(hg:Gl X x)(hm:X.mg x=ZA (.ref f))(hk:Qx X.K (.ref f)=ZC)(hb:Binds X.K fd ps ds)(hd:Vals dvs ds)(hx:u5 CX X E)
  (hdb:autoParam ((x == ("__debug__" : Str))=ZD) s_):PE X (.Call (.Name x p) [] [] pos) (Hm sp dvs E tj):=by
 intro kw s σ H Q I h;refine Pd (je I hg hm ?_ hdb);exact PySem.W.callWith_K0 I.kIn hk (xU (us:=[]) F hr hb hd hx I .nil h)
end
def PK(X:Cx)(kws:List Wm)(t:TA):Prop:=
 ∀(pos:Pos)(kw:Uf)(s:Oe)(σ:St)(H:Hp)(Q:List V->Hp->Prop),Inv X kw σ H s->t σ H Q->ZJ (ZK X.prog X.w) X.A (evalAll ((VS pos (Tg kws X.env)).map (·.2))) (AP X kw σ Q) X.xe s
structure dj (N P:List Str)(sc:RJ):Prop where
 kind:sc.kind=.function
 co:sc.isCoroutine=ZD
 gen:sc.isGenerator=ZD
 nd:N.Nodup
 pre:N.take P.length=P
 par:∀x∈P,sc.names.lookup x=ZA .local\/sc.names.lookup x=ZA .cell
 nofree:∀y∈sc.names,y.2≠ .free
variable{kindOf:Str->Option RQ}
theorem sJ:∀{binds:List (Str×Ob)}{m:WF},(∀v,(x,v)∉binds)->bindL kindOf binds m x=m x
 |[],_,_=>rfl
 | (n,v)::r,m,h=>by
  unfold bindL;rw[sJ λw hw=>h w (N9 _ hw)];split
  .have:x≠n:=by rintro rfl;exact h v Of
   simp[this]
  .rfl
theorem sM:∀{binds:List (Str×Ob)}{m:WF},(∀v,(x,v)∉binds)->bindC kindOf binds m x=m x
 |[],_,_=>rfl
 | (n,v)::r,m,h=>by
  unfold bindC;rw[sM λw hw=>h w (N9 _ hw)];split
  .rfl
  .have:x≠n:=by rintro rfl;exact h v Of
   simp[this]
variable{v:Ob}
theorem sL:∀{P:List Str}{vs:List Ob}{i:Nat}{m:WF},P.Nodup->P[i]?=ZA x->vs[i]?=ZA v->kindOf x=ZA .local ->
  bindL kindOf (P.zip vs) m x=ZA v
 |[],_,_,_,_,h,_,_=>by simp at h
 |_::_,[],_,_,_,_,h,_=>by simp at h
 |p::P,w::vs,0,m,nd,h1,h2,hk=>by simp at h1 h2;subst h1;subst h2;show bindL kindOf ((p,w)::P.zip vs) m p=_;unfold bindL;rw[sJ λv hv=>(O0.mp nd).1 (Rj hv).1,if_pos hk];simp
 |p::P,w::vs,i+1,m,nd,h1,h2,hk=>by show bindL kindOf ((p,w)::P.zip vs) m x=_;unfold bindL;exact sL (i:=i) (O0.mp nd).2 (by simpa using h1) (by simpa using h2) hk
theorem sO:∀{P:List Str}{vs:List Ob}{i:Nat}{m:WF},P.Nodup->P[i]?=ZA x->vs[i]?=ZA v->kindOf x≠ZA .local ->
  bindC kindOf (P.zip vs) m x=ZA v
 |[],_,_,_,_,h,_,_=>by simp at h
 |_::_,[],_,_,_,_,h,_=>by simp at h
 |p::P,w::vs,0,m,nd,h1,h2,hk=>by simp at h1 h2;subst h1;subst h2;show bindC kindOf ((p,w)::P.zip vs) m p=_;unfold bindC;rw[sM λv hv=>(O0.mp nd).1 (Rj hv).1,if_neg hk];simp
 |p::P,w::vs,i+1,m,nd,h1,h2,hk=>by show bindC kindOf ((p,w)::P.zip vs) m x=_;unfold bindC;exact sO (i:=i) (O0.mp nd).2 (by simpa using h1) (by simpa using h2) hk
noncomputable def start(N:List Str)(vs:List V):St:=vs.map ZA++OK (N.length - vs.length) ZB
noncomputable def jl(CX:BL)(P:OI)(w:Py)(K:N7)(mg:WF)(base:ZH)(N:List Str)(qual:Str)(scope:RJ)(f:ZE)(cd:Ob)(A:OW)(outer:List Env)(s:Oe)(H:Hp)(E:XK):Cx where
 prog:=P
 w:=w
 K:=K
 mg:=mg
 base:=base
 A:=A.deeper (envOfC qual scope s.heap.objs.size f cd)
 N:=N
 s₀:=s
 H₀:=H
 env:=envOfC qual scope s.heap.objs.size f cd
 outer:=outer
 stack:=envOfC qual scope s.heap.objs.size f cd::outer
 ex:=[]
 calm:=ZC
 fn:=λ_=>ZC
 pn:=[]
 xe:=λe s'=>ZJ (ZK P w) (A.deeper (envOfC qual scope s.heap.objs.size f cd)) (leaving (envOfC qual scope s.heap.objs.size f cd) e) (λ_ s''=>CX outer H s E e s'') (λe' s''=>CX outer H s E e' s'') s'
def w9(h:sc.names.lookup x=ZA .cell):∃c,(QX n sc.names []).lookup x=ZA c:=by have q:=Q1 sc.names n [] (.inl h);exact R8.mp q
variable{qual:Str}
def kF{base:ZH}
  (S:dj N ps scope) (hd:A.handled=ZB) (e0:Env0 P w K mg base A outer s H) (hl:vs.length=ps.length) (r:Vals vs us)
  (x:InCallC s s.heap.objs.size (bindL (envOfC qual scope s.heap.objs.size f cd).kindOf (ps.zip us) λ_=>ZB) (QX (s.heap.objs.size+1) scope.names []) (bindC (envOfC qual scope s.heap.objs.size f cd).kindOf (ps.zip us) λ_=>ZB) s1):
  Inv (jl CX P w K mg base N qual scope f cd A outer s H E) [] (start N vs) H s1:=by
 have hpl:ps.length<=N.length:=by have:=congrArg PC S.pre;rw[Pr]at this;omega
 obtain⟨h1,tk,rfl,hk⟩:=x.done;have noA:∀b:ZE,b∉(jl CX P w K mg base N qual scope f cd A outer s H E).ex:=λb z=>absurd (show b∈([]:List ZE)from z) (by simp);refine⟨⟨e0.mod,S.kind,rfl,rfl,Ou _,λy z c h1 h2=>?_,λy hy=>?_,λy c _ h=>?_,λ_=>hd,U4 e0.frames,.inr ⟨rfl,rfl⟩,λb z=>absurd z (noA b),e0.bs,e0.bsz,λb _ _=>noA b,λb z=>absurd z (noA b),e0.funs,e0.frf,e0.tb⟩,
  rfl,e0.bare,Un.kept hk,⟨_,x.toInCall.ns,λi y v h1 h2 h3=>?_⟩,λy c h=>⟨_,x.cell y c h⟩,e0.hok.fresh (Ou _),λy c h=>?_,λp hp=>absurd (show p∈([]:Uf)from hp) (by simp),e0.hok.kept hk,?_⟩
 .exact name_of_addr x.apart (QV h1) (QV h2)
 .have hy:scope.names.lookup y=ZA .cell\/scope.names.lookup y=ZA .free:=hy;rcases hy with hy|hy
  .exact w9 hy
  .exact absurd rfl (S.nofree _ (QV hy))
 .exact Qc (x.above y c (QV h))
 .have hi:i<vs.length:=by
   unfold start at h2;by_cases hi:i<vs.length
   .exact hi
   .rw[RU (by simpa using hi)]at h2;rw[Rp]at h2;split at h2 <;> cases h2
  have ha:vs[i]?=ZA v:=by
   unfold start at h2;rw[Rc (by simpa using hi),Ox]at h2;cases e:vs[i]? with
   |none=>rw[e]at h2;cases h2
   |some a=>rw[e]at h2;cases h2;rfl
  obtain⟨u,hu,rv⟩:=r.get ha;have hp:ps[i]?=ZA y:=by rw[<-S.pre,List.getElem?_take_of_lt (by omega)];exact h1
  have ndP:ps.Nodup:=by rw[<-S.pre];exact S.nd.sublist (List.take_sublist _ _)
  refine⟨u,rv,?_⟩;rcases S.par y (Pz hp)with k|k
  .exact .inl ⟨k,sL ndP hp hu k⟩
  .obtain⟨c,e⟩:=w9 (n:=s.heap.objs.size+1) k;refine .inr ⟨.inl k,c,e,?_⟩;have q:=x.cell y c e;rw[sO ndP hp hu (by show scope.names.lookup y≠_;rw[k];decide)]at q;exact q
 .exact e0.hok.fresh (Qc (x.above y c (QV h)))
 .unfold start;show _=N.length;rw[On,Oc,List.length_replicate];omega
def Mo{base:ZH}{name:Str}{dV kV doc pm ct oc:Ob}{an od:Option ZE}
  {osl:Array (Option Ob)}   (lk:K.lookup f=ZA ⟨oc,od,.func (R6 name qual params body scope dV kV doc pm an cdv ct),osl⟩) (hcd:Vc K cdv qual=ZC) (S:dj N ps scope)
  (len:∀vs H Q E,sp vs H Q E->vs.length=ps.length)
  (hbody:∀(A:OW)(outer:List Env)(s:Oe)(H:Hp)(vs:List V)(Q:VK)(E:XK),Room k (A.deeper (envOfC qual scope s.heap.objs.size f cdv))->sp vs H Q E ->
   ∃t,PSs (jl CX P w K mg base N qual scope f cdv A outer s H E) body t/\t {nx:=λ_ H'=>Q .non H',rt:=Q} (start N vs) H):
  rC P w K mg base CX (k+1) f (R6 name qual params body scope dV kV doc pm an cdv ct) ps sp:=by
 refine⟨len,λA outer s H args us vs Q E hr e0 hb r hsp=>?_⟩;have hl:=len _ _ _ _ hsp;have KX:K.In s.heap:=e0.mod.kin.keeps λb o e=>(e0.bs b o e).1;have lim:s.heap.NoLimit:=e0.mod.nolimit.keeps λb o e=>(e0.bs b o e).1;have hkind:∀y∈ps.zip us,scope.names.lookup y.1=ZA .local\/(scope.names.lookup y.1=ZA .cell/\((QX (s.heap.objs.size+1) scope.names []).lookup y.1).isSome=ZC):=λ⟨n,v⟩ hy=>by
  rcases S.par n (Rj hy).1 with q|q
  .exact .inl q
  .exact .inr ⟨q,Q1 _ _ _ (.inl q)⟩
 refine SS hr.depth (KX _ _ lk) rfl S.co S.gen rfl (Tu KX hcd) (hb _ _ _ _ ?_);refine Q5 S.kind hkind λenv he s1 x=>?_;subst he;refine⟨lim.keeps x.toInCall.keep,Wz ?_⟩;obtain⟨t,ht,hq⟩:=hbody A outer s H vs Q E (hr.deeper _) hsp;have I:Inv (jl CX P w K mg base N qual scope f cdv A outer s H E) [] (start N vs) H s1:=kF S hr.hd e0 hl r x;refine Qp (ht [] s1 (start N vs) H _ I hq) (λfl s' hs=>?_) λe s' hs=>hs;have fin:∀{σ':St}{H':Hp}{v:V}{u:Ob},Inv (jl CX P w K mg base N qual scope f cdv A outer s H E) [] σ' H' s'->RelV v u->Q v H'->CE outer P w H s Q u s':=
  λ{σ' H' v u} J rv q=>⟨v,H',J.os,J.bare,J.base,J.hok,rv,q⟩
 cases fl with
 |ret u=>
  obtain⟨v,σ',H',J,rv,q⟩:=hs;exact fin J rv q
 |next=>
  obtain⟨σ',H',J,q⟩:=hs;exact fin (v:=V.non) (u:=Po) J rfl q
 |brk=>
  obtain⟨_,_,_,q⟩:=hs;exact QQ q
 |cont=>
  obtain⟨_,_,_,q⟩:=hs;exact QQ q
end L2
namespace HT
open PySem PyProof.Rows
noncomputable def lexLt:List Int->List Int->Bool
 |[],[] =>ZD
 |[],_::_=>ZC
 |_::_,[] =>ZD
 |x::xs,y::ys=>if x=y then lexLt xs ys else decide (x<y)
def lexLt_cons(x y:Int)(xs ys:List Int):lexLt (x::xs) (y::ys)=if x=y then lexLt xs ys else decide (x<y):=rfl
def rq:lexLt [] []=ZD:=rfl
def qi(y:Int)(ys:List Int):lexLt [] (y::ys)=ZC:=rfl
def qk(x:Int)(xs:List Int):lexLt (x::xs) []=ZD:=rfl
def Ef(A:OW)(s:Oe)(a:Int)(t:Tok)(c:Int)(u:Tok):∃e,SeqAt.EqAt A s (.int a t) (.int c u) e/\(e=ZC↔a=c):=
 ⟨(a == c),Vt a t c u,by simp⟩
def Cp(A:OW)(s:Oe)(a:Int)(t:Tok)(c:Int)(u:Tok)(prog:OI)(w:Py)(E:WP)(Q:WP)(h:Q (.bool (decide (a<c))) s):
  ZJ (ZK prog w) A (richCompare .Lt (.int a t) (.int c u)) Q E s:=
 (PyProof.Rows.lt_int h:ZJ (ZK prog w) A (Pp .Lt (.int a t) (.int c u)) Q E s)
def cat_tup{t b:ZE}{ws:List Ob}(ht:Xw s.heap t vs.toArray)(hb:Xw s.heap b ws.toArray)(hv:vs≠ [])
  (h1:ws=[]->Q (.ref t) s) (h2:ws≠ []->Q (.ref s.heap.objs.size) {s with heap:=s.heap.push {cls:=.type "tuple",data:=.seq (vs++ws).toArray}})
  (hsz:vs.length+ws.length<=ZI):ZJ (ZK prog w) A (Qz .Add (.ref t) (.ref b)) Q E s:=by
 obtain⟨⟨cls,dd,data,sl⟩,ho,hc,n,hd⟩:=id ht;obtain⟨⟨cls2,dd2,data2,sl2⟩,ho2,hc2,n2,hd2⟩:=id hb;simp only at hc hd hc2 hd2;subst hc hd hc2 hd2;have e:vs.toArray++ws.toArray=(vs++ws).toArray:=by simp
 by_cases hw:ws=[]
 .exact WA ⟨_,ho,rfl⟩ ⟨_,ho2,rfl⟩ Um VT Sr Sh (R7 _ _)
   (tuple_addW1 t b vs.toArray ws.toArray n n2 dd dd2 sl sl2 (by simpa using hv) (by simp[hw])) ⟨ho,ho2,h1 hw⟩
 .refine WA ⟨_,ho,rfl⟩ ⟨_,ho2,rfl⟩ Um VT Sr Sh (R7 _ _)
   (tuple_addW2 t b vs.toArray ws.toArray n n2 dd dd2 sl sl2 (by simpa using hv) (by simpa using hw) (by rw[Oy,Oy];exact hsz)) ⟨ho,ho2,?_⟩
  rw[e];exact h2 hw
def sIx_none(n d:Nat):sIx n d ZB=d:=rfl
def sIx_nat(n d k:Nat):sIx n d (ZA (k:Int))=min k n:=by show(if (k:Int)<0 then((k:Int)+(n:Int)).toNat else min (k:Int).toNat n)=min k n;rw[if_neg (by omega),PD]
def IA(n d:Nat)(hd:d<=n)(o:Option Int):sIx n d o<=n:=by
 cases o with
 |none=>exact hd
 |some v=>
  show(if v<0 then(v+(n:Int)).toNat else min v.toNat n)<=n;by_cases hv:v<0
  .rw[if_pos hv];omega
  .rw[if_neg hv];exact Nat.min_le_right _ _
def Al(v:Int)(n d:Nat):(if v<0 then max (v+(n:Int)) 0 else min v (n:Int))=((sIx n d (ZA v):Nat):Int):=by
 show(if v<0 then max (v+(n:Int)) 0 else min v (n:Int))=(((if v<0 then(v+(n:Int)).toNat else min v.toNat n):Nat):Int);by_cases hv:v<0
 .simp only[if_pos hv];omega
 .simp only[if_neg hv];omega
def yU(lo hi:Option Int)(n:Nat):P4 lo hi 1 (n:Int)=(((sIx n 0 lo:Nat):Int),((sIx n n hi:Nat):Int)):=by
 have h1:¬ ((1:Int)<0):=by omega
 unfold P4;simp only[h1,if_false];refine Prod.ext ?_ ?_
 .cases lo with
  |none=>rfl
  |some v=>exact Al v n 0
 .cases hi with
  |none=>rfl
  |some v=>exact Al v n n
def xZ(i j:Nat):Px (i:Int) (j:Int) 1=j - i:=by
 unfold Px;have h1:(1:Int) > 0:=by omega
 simp only[h1,if_true,UC];split <;> omega
def pj{o:Option Int}{Q:Option Int->Oe->Prop}(p:VU v o)(h:Q o s):ZJ (ZK prog w) A (WX v) Q E s:=by
 cases p with
 |none=>exact TK h
 |int i t=>exact slicePart_int h
def iQ{sl:ZE}{Q:Int×Int×Nat->Oe->Prop}(hs:s.heap.IsSliceOf sl vl vu .none)(pl:VU vl lo)(pu:VU vu hi)
  (h:Q (((sIx n 0 lo:Nat):Int),1,sIx n n hi - sIx n 0 lo) s):ZJ (ZK prog w) A (Q3 (.ref sl) (pure (n:Int))) Q E s:=by
 obtain⟨os,hos,hcs,hds⟩:=id hs;unfold Q3 TH;refine N8 (N8 (Qw hos hds (x:=vl) rfl (N8 (Qw hos hds (x:=vu) rfl (N8 (Qw hos hds (x:=.none) rfl (Om ?_)))))));refine N8 (TK ?_);show ZJ _ _ (if ((1:Int) == 0)=ZC then _ else _) _ _ s;rw[if_neg (by decide)];refine N8 (pj pl (N8 (pj pu (N8 (Om ?_)))));show ZJ _ _ (match P4 lo hi 1 (n:Int)with| (lo,hi)=>pure (lo,(1:Int),Px lo hi 1)) _ _ s;rw[yU lo hi n];show ZJ _ _ (pure (((sIx n 0 lo:Nat):Int),(1:Int),Px ((sIx n 0 lo:Nat):Int) ((sIx n n hi:Nat):Int) 1)) _ _ s;rw[xZ];exact Om h
def CK(xs:Array Ob)(i k:Nat):((Oo k).filterMap λ(m:Nat)=>xs[((i:Int)+(m:Int)*1).toNat]?).toArray=((xs.toList.drop i).take k).toArray:=by
 have e:(λ(m:Nat)=>xs[((i:Int)+(m:Int)*1).toNat]?)=λm=>xs[i+m]?:=by
  funext m
  have:((i:Int)+(m:Int)*1).toNat=i+m:=by omega
  rw[this]
 rw[e];have:=pick_run xs i k;rw[Tx]at this;have e2:((λx=>xs[x]?)∘λx=>i+x)=λm=>xs[i+m]?:=rfl;rw[e2]at this;rw[this]
def getItem_tuple_cut{t sl:ZE}{items:Array Ob}(ht:Xw s.heap t items)(hs:s.heap.IsSliceOf sl vl vu .none)(pl:VU vl lo)(pu:VU vu hi)
  (hw:¬ (sIx items.size 0 lo=0/\sIx items.size items.size hi=items.size))
  (h:Q (.ref s.heap.objs.size) {s with heap:=s.heap.push {cls:=.type "tuple",data:=.seq ((items.toList.drop (sIx items.size 0 lo)).take (sIx items.size items.size hi - sIx items.size 0 lo)).toArray}})
  (hsz:items.size<=ZI):ZJ (ZK prog w) A (getItem (.ref t) (.ref sl)) Q E s:=by
 have htake:sizeOk (.seq ((items.toList.drop (sIx items.size 0 lo)).take (sIx items.size items.size hi - sIx items.size 0 lo)).toArray):=by show((items.toList.drop (sIx items.size 0 lo)).take (sIx items.size items.size hi - sIx items.size 0 lo)).toArray.size<=ZI;rw[Oy,Pr,QL,PP];omega
 have hj:sIx items.size items.size hi<=items.size:=IA _ _ (Ou _) hi;obtain⟨os,hos,hcs,hds⟩:=id hs;have hTs:s.TypeIs (.ref sl) "slice":=⟨os,hos,hcs⟩;unfold getItem;try with_reducible refine P8 ?_
 first|refine N8 (Om ?_)|skip
 refine N8 (T2 ht.typeIs (by decide) ?_);refine N8 (Ql (name:=Oq "__getitem__") ht.typeIs OR
  (Q6 OR ht.typeIs Th ?_ (TF _ _)))
 show ZJ _ _ (RT (.ref t) >>= _) _ _ s;refine N8 (Ug ht ?_);refine N8 (Se hTs ?_);rw[if_pos (by decide)];refine N8 (iQ hs pl pu ?_);have hno:¬ ((((sIx items.size 0 lo:Nat):Int) == 0&&(1:Int) == 1&&(sIx items.size items.size hi - sIx items.size 0 lo) == items.size)=ZC):=by intro q;rw[Oa,Oa]at q;have q1:((sIx items.size 0 lo:Nat):Int)=0:=eq_of_beq q.1.1;have q2:sIx items.size items.size hi - sIx items.size 0 lo=items.size:=eq_of_beq q.2;exact hw ⟨by omega,by omega⟩
 show ZJ _ _ (if (((sIx items.size 0 lo:Nat):Int) == 0&&(1:Int) == 1&&(sIx items.size items.size hi - sIx items.size 0 lo) == items.size)=ZC then _ else _) _ _ s;rw[if_neg hno,CK];first
  |exact N8 (m:=Pn _) (Pu (Om ⟨_,rfl,Om h⟩) htake)
  |exact N8 (m:=Pn _) (Pu (N8 (Om (Om ⟨_,rfl,Om h⟩))) htake)
  |exact N8 (N8 (m:=Pn _) (Pu (Om (Om ⟨_,rfl,Om h⟩)) htake))
  |exact N8 (N8 (m:=Pn _) (Pu (Om ⟨_,rfl,Om h⟩) htake))
end HT
variable{i:Int}
namespace L2
open PySem PySem.Spec PyProof.Rows
abbrev TO:=St->Hp->(Option Int->Hp->Prop)->Prop
def PO(X:Cx)(e:Option ZG)(t:TO):Prop:=
 ∀(kw:Uf)(s:Oe)(σ:St)(H:Hp)(Q:Option Int->Hp->Prop),Inv X kw σ H s->t σ H Q ->
  ZJ (ZK X.prog X.w) X.A (evalPart e X.env) (λu s'=>∃o H',Inv X kw σ H' s'/\VU u o/\Q o H') X.xe s
def Fe:TO:=λ_ H Q=>Q ZB H
def KW(t:TE):TO:=λσ H Q=>t σ H λx H1=>∃i,x=.int i/\Q (ZA i) H1
def yF:∀{us:List Ob},Vals (ns.map V.int) us->Qq us ns:=by
 induction ns with
 |nil=>intro us r;rw[Tz]at r;cases r;exact .nil
 |cons n ns ih=>
  intro us r;rw[Od]at r;cases r with
  |cons r1 r2=>
   obtain⟨t,e⟩:=r1;subst e;exact .cons n t (ih r2)
variable{X:Cx}{e:ZG}{pos:Pos}{r:V->Option Int->Option Int->Hp->VK->Prop}{xs:List V}
section
variable {te:TE}{lo hi:Option ZG}{tl th:TO}{p2:Pos}
def FZ:PO X ZB Fe:=by intro kw s σ H Q I h;rw[VV];exact Om ⟨ZB,H,I,.none,h⟩
def FY(h:PE X e te):PO X (ZA e) (KW te):=by intro kw s σ H Q I hw;rw[evalPart_some];refine cL (h kw s σ H _ I hw) λu s1 hh_=>?_;obtain⟨x,H1,I1,r1,q1⟩:=hh_;obtain⟨i,rfl,q⟩:=q1;obtain⟨t,rfl⟩:=r1;exact⟨ZA i,H1,I1,.int i t,q⟩
def SlR(X:Cx)(r:V->Option Int->Option Int->Hp->VK->Prop):Prop:=
 ∀(kw:Uf)(s:Oe)(σ:St)(H:Hp)(x:V)(v vl vu:Ob)(lo hi:Option Int)(sl:ZE)(Q:VK),Inv X kw σ H s->RelV x v->s.heap.IsSliceOf sl vl vu .none->VU vl lo->VU vu hi->r x lo hi H Q ->
  ∃T id,SB (.type T) "__getitem__" =pure (ZA (.builtin id))/\s.TypeIs v T/\ZJ (ZK X.prog X.w) X.A (getItem v (.ref sl)) (EP X kw σ Q) X.xe s
def SlR.or{r':V->Option Int->Option Int->Hp->VK->Prop}(h:SlR X r)(h':SlR X r'):SlR X (λx lo hi H Q=>r x lo hi H Q\/r' x lo hi H Q):=by
 intro kw s σ H x v vl vu lo hi sl Q I rx hs pl pu q;rcases q with q|q
 .exact h kw s σ H x v vl vu lo hi sl Q I rx hs pl pu q
 .exact h' kw s σ H x v vl vu lo hi sl Q I rx hs pl pu q
def tSl(r:V->Option Int->Option Int->Hp->VK->Prop)(te:TE)(tl th:TO):TE:=λσ H Q=>te σ H λx H1=>tl σ H1 λl H2=>th σ H2 λu H3=>r x l u H3 Q
def CN(hr:SlR X r)(he:PE X e te)(hl:PO X lo tl)(hu:PO X hi th):PE X (.Subscript e (.Slice lo hi ZB p2) pos) (tSl r te tl th):=by intro kw s σ H Q I h;refine UZ (cL (he kw s σ H _ I h) λv s1 hh_=>?_);obtain⟨x,H1,I1,r1,q1⟩:=hh_;refine wpAny_Slice (cL (hl kw s1 σ H1 _ I1 q1) λvl s2 ⟨l,H2,I2,pl,q2⟩=>cL (hu kw s2 σ H2 _ I2 q2) λvu s3 hh_=>?_);obtain⟨u,H3,I3,pu,q3⟩:=hh_;rw[VV];refine Om ?_;have I4:Inv X kw σ H3 {s3 with heap:=s3.heap.push {cls:=.type "slice",data:=.fields #[vl,vu,.none]}}:=I3.kept (t':=s3.toks) λb ob q=>Oi _ q;obtain⟨T,id,hT,ht,hg⟩:=hr kw {s3 with heap:=s3.heap.push {cls:=.type "slice",data:=.fields #[vl,vu,.none]}} σ H3 x v vl vu l u s3.heap.objs.size Q I4 r1 (Tv ..) pl pu q3;show ZJ (ZK X.prog X.w) X.A (VW e (.Slice lo hi ZB p2) v (.ref s3.heap.objs.size)) (EP X kw σ Q) X.xe {s3 with heap:=s3.heap.push {cls:=.type "slice",data:=.fields #[vl,vu,.none]}};exact tail_any (ops:=[.ref s3.heap.objs.size,v]) ht hT hg (by with_unfolding_all rfl)
noncomputable def w8(xs:List V)(lo hi:Option Int):List V:=(xs.drop (HT.sIx xs.length 0 lo)).take (HT.sIx xs.length xs.length hi - HT.sIx xs.length 0 lo)
def nS(xs:List V)(lo hi:Option Int):(w8 xs lo hi).length<=xs.length:=by unfold w8;rw[Pr,QL];omega
def rSlT(K:N7):V->Option Int->Option Int->Hp->VK->Prop:=λx lo hi H Q=>∃a xs,x=.ref a/\SqT K H a xs ∧
 ¬(HT.sIx xs.length 0 lo=0/\HT.sIx xs.length xs.length hi=xs.length)/\∀p,H p=ZB->Q (.ref p) (upd H p (.tup (w8 xs lo hi)))
def sl_tup:SlR X (rSlT X.K):=by
 intro kw s σ H x v vl vu lo hi sl Q I rx hs pl pu h;obtain⟨a,xs,rfl,hx,hw,q⟩:=h;cases rx;obtain⟨its,r,ht,hz⟩:=I.tuple hx;have hlen:its.toArray.size=xs.length:=by rw[Oy];exact r.length.symm
 refine⟨"tuple",_,OR.lookup,ht.typeIs,?_⟩;refine HT.getItem_tuple_cut ht hs pl pu (by rw[hlen];exact hw) ?_ (by rw[hlen];exact hz);rw[hlen];refine⟨.ref s.heap.objs.size,_,I.laid (t':=s.toks) (o:=.tup (w8 xs lo hi)) (λb ob q=>Oi _ q) (Ou _) ?_,rfl,q _ (I.hok.fresh (Ou _))⟩;exact⟨OJ (nS xs lo hi) hz,_,(r.drop (HT.sIx xs.length 0 lo)).take (HT.sIx xs.length xs.length hi - HT.sIx xs.length 0 lo),Vx _ _⟩
def Lf(K:N7):R2:=λx y H Q=>∃a b xs ys,x=.ref a/\y=.ref b/\SqT K H a xs/\SqT K H b ys/\xs≠ []/\xs.length+ys.length<=ZI ∧
 (ys=[]->Q (.ref a) H)/\(ys≠ []->∀p,H p=ZB->Q (.ref p) (upd H p (.tup (xs++ys))))
def Vals.Da(r:Vals xs us):us=[] ↔xs=[]:=by
 cases r with
 |nil=>simp
 |cons _ _=>simp
def Gb:qU X (Qz .Add) (Lf X.K):=by intro kw s σ H x y v u Q I rx ry h;obtain⟨a,b,xs,ys,rfl,rfl,ha,hb,hx,hz,q1,q2⟩:=h;cases rx;cases ry;obtain⟨its,r1,p1,_⟩:=I.tuple ha;obtain⟨its2,r2,p2,_⟩:=I.tuple hb;refine HT.cat_tup p1 p2 (λz=>hx (r1.Da.mp z)) (λz=>⟨.ref a,H,I,rfl,q1 (r2.Da.mp z)⟩) (λz=>?_) (by rw[<-r1.length,<-r2.length];exact hz);refine⟨.ref s.heap.objs.size,_,I.laid (t':=s.toks) (o:=.tup (xs++ys)) (λb ob q=>Oi _ q) (Ou _) ?_,rfl,q2 (λw=>z (r2.Da.mpr w)) _ (I.hok.fresh (Ou _))⟩;exact⟨by rw[On];exact hz,_,r1.append r2,Vx _ _⟩
end
noncomputable def ixN(n:Nat)(i:Int):Option Nat:=if 0<=i then(if i<n then ZA i.toNat else ZB)else if -(n:Int)<=i then ZA (i+n).toNat else ZB
noncomputable def atI{α:Type}(xs:List α)(i:Int):Option α:=(ixN xs.length i).bind λj=>xs[j]?
def Gz(h:ixN n i=ZA j):seqIndex? i n=ZA j/\j<n/\-(n:Int)<=i/\i<n:=by
 unfold ixN at h;by_cases h0:0<=i
 .rw[if_pos h0]at h;by_cases h1:i<n
  .rw[if_pos h1]at h;have e:i.toNat=j:=OQ h;exact⟨by rw[seqIndex_of h0 h1,e],by omega,by omega,h1⟩
  .rw[if_neg h1]at h;cases h
 .rw[if_neg h0]at h;by_cases h1 : -(n:Int)<=i
  .rw[if_pos h1]at h;have e:(i+n).toNat=j:=OQ h;exact⟨by rw[seqIndex_neg (by omega) h1,e],by omega,h1,by omega⟩
  .rw[if_neg h1]at h;cases h
def uW{xs:List α}{v:α}(h:atI xs i=ZA v):∃j,seqIndex? i xs.length=ZA j/\xs[j]?=ZA v/\j<xs.length/\-(xs.length:Int)<=i/\i<xs.length:=by
 unfold atI at h;cases e:ixN xs.length i with
 |none=>rw[e]at h;cases h
 |some j=>
  rw[e]at h;obtain⟨h1,h2,h3,h4⟩:=Gz e;exact⟨j,h1,h,h2,h3,h4⟩
def kL(b:ZG):Prop:=∀o i,Vr b ZD o i=operate [o,i] (getItem o i)
def IxR(X:Cx)(r:R2):Prop:=
 ∀(value slice:ZG)(kw:Uf)(s:Oe)(σ:St)(H:Hp)(x y:V)(v u:Ob)(Q:VK),Inv X kw σ H s->RelV x v->RelV y u->r x y H Q ->
  Vr slice ZD v u=operate [v,u] (getItem v u)->ZJ (ZK X.prog X.w) X.A (VW value slice v u) (EP X kw σ Q) X.xe s
def MtR(X:Cx)(id:String)(r:V->List V->Hp->VK->Prop):Prop:=
 ∀(kw:Uf)(s:Oe)(σ:St)(H:Hp)(x:V)(xs:List V)(v:Ob)(us:List Ob)(Q:VK),Inv X kw σ H s->RelV x v->Vals xs us->r x xs H Q ->
  ZJ (ZK X.prog X.w) X.A (call (.builtin id) (v::us)) (EP X kw σ Q) X.xe s
variable{H:Hp}{kw:Uf}{σ:St}
section
variable {a b:ZG}{ta tb:TE}
def IxR.or{r r':R2}(h:IxR X r)(h':IxR X r'):IxR X (λx y H Q=>r x y H Q\/r' x y H Q):=by
 intro value slice kw s σ H x y v u Q I rx ry q hs;rcases q with q|q
 .exact h value slice kw s σ H x y v u Q I rx ry q hs
 .exact h' value slice kw s σ H x y v u Q I rx ry q hs
def LG{r:R2}(hr:IxR X r)(ha:PE X a ta)(hb:PE X b tb)(hs:kL b):PE X (.Subscript a b pos) (tOp r ta tb):=by intro kw s σ H Q I h;exact UZ (Mx ha hb I h λv u s2 x y H2 I2 rx ry q=>hr a b kw s2 σ H2 x y v u Q I2 rx ry q (hs _ _))
def Ld(K:N7):R2:=λx y H Q=>∃p xs i v,x=.ref p/\y=.int i/\SqL K H p xs/\atI xs i=ZA v/\Q v H
def Lb(K:N7):R2:=λx y H Q=>∃p xs i v,x=.ref p/\y=.int i/\SqT K H p xs/\atI xs i=ZA v/\Q v H
def Lc:R2:=λx y H Q=>∃z i c,x=.str z/\y=.int i/\z.length<=ZI/\atI z.cps.toList i=ZA c/\Q (.str ⟨#[c]⟩) H
def ix_list:IxR X (Ld X.K):=by
 intro value slice kw s σ H x y v u Q I rx ry h hs;obtain⟨p,xs,i,z,rfl,rfl,hq,he,q⟩:=h;cases rx;obtain⟨t,rfl⟩:=ry;obtain⟨its,r,pl,hz⟩:=I.list hq;obtain⟨j,h1,h2,h3,h4,h5⟩:=uW he;obtain⟨w,ew,rw'⟩:=r.get h2;have hl:=r.length;have hn:=qg;have fin:EP X kw σ Q w s:=⟨z,H,I,rw',q⟩;by_cases h0:0<=i
 .have hj:i.toNat=j:=by rw[seqIndex_of h0 h5]at h1;exact OQ h1
  exact item_listR pl.isList h0 (by omega) (by rw[hj];simpa using ew) fin hs
 .have hj:(i+(its.toArray.size:Int)).toNat=j:=by rw[seqIndex_neg (by omega) h4]at h1;rw[Oy,<-hl];exact OQ h1
  exact Uw (x:=w) pl.isList.typeIs slot_list_getitem.lookup
   (wpAny_getItem_list_neg (Q:=λr s'=>r=w/\EP X kw σ Q r s') pl.isList (by omega) (by rw[Oy] <;> omega) (by omega) (by rw[hj];simpa using ew) ⟨rfl,fin⟩) hs
def ix_tup:IxR X (Lb X.K):=by
 intro value slice kw s σ H x y v u Q I rx ry h hs;obtain⟨p,xs,i,z,rfl,rfl,hq,he,q⟩:=h;cases rx;obtain⟨t,rfl⟩:=ry;obtain⟨its,r,pl,hz⟩:=I.tuple hq;obtain⟨j,h1,h2,h3,h4,h5⟩:=uW he;obtain⟨w,ew,rw'⟩:=r.get h2;have hl:=r.length;have hn:=qg;have fin:EP X kw σ Q w s:=⟨z,H,I,rw',q⟩;exact Uw (x:=w) pl.typeIs slot_tuple_getitem.lookup
  (getItem_tuple (j:=j) (Q:=λr s'=>r=w/\EP X kw σ Q r s') pl (by omega) (by omega) (by rw[Oy,<-hl];exact h1) (by simpa using ew) ⟨rfl,fin⟩) hs
def J4:IxR X Lc:=by
 intro value slice kw s σ H x y v u Q I rx ry h hs;obtain⟨z,i,c,rfl,rfl,hz,he,q⟩:=h;obtain⟨t,rfl⟩:=rx;obtain⟨t',rfl⟩:=ry;obtain⟨j,h1,h2,h3,h4,h5⟩:=uW he;have hl:z.cps.toList.length=z.length:=by simp[Str.length]
 rw[hl]at h1 h4 h5;have hn:=qg;exact tail_any (typeIs_str s z t) slot_str_getitem.lookup (getItem_str (c:=c) (by have e1:decide (i< -(2 ^ 63:Int))=ZD:=decide_eq_false (by omega);have e2:decide (i ≥ 2 ^ 63)=ZD:=decide_eq_false (by omega);rw[e1,e2,Bool.or_false]) (by rw[h1];simpa using h2) ⟨.str ⟨#[c]⟩,H,I.tok _,⟨_,rfl⟩,q⟩) hs
def rIx(K:N7):R2:=λx y H Q=>Ld K x y H Q\/Lb K x y H Q\/Lc x y H Q
def J5:IxR X (rIx X.K):=ix_list.or (ix_tup.or J4)
def tJ(lo hi:Option Int)(n:Nat):(SC lo hi ZB n).1=((HT.sIx n 0 lo:Nat):Int)/\(SC lo hi ZB n).2.1=((HT.sIx n n hi:Nat):Int)/\(SC lo hi ZB n).2.2=1:=by
 refine⟨?_,?_,rfl⟩
 .cases lo with
  |none=>simp[SC,HT.sIx]
  |some i=>
   simp only[SC,HT.sIx,WG,show(1:Int) > 0 by decide,if_true];by_cases h:i<0
   .simp only[h,if_true] <;> omega
   .simp only[h,if_false] <;> omega
 .cases hi with
  |none=>simp[SC,HT.sIx]
  |some i=>
   simp only[SC,HT.sIx,WG,show(1:Int) > 0 by decide,if_true];by_cases h:i<0
   .simp only[h,if_true] <;> omega
   .simp only[h,if_false] <;> omega
def q0(its:List Ob)(lo hi:Option Int):Xl its.toArray lo hi ZB=((its.drop (HT.sIx its.length 0 lo)).take (HT.sIx its.length its.length hi - HT.sIx its.length 0 lo)).toArray:=by obtain⟨h1,h2,h3⟩:=tJ lo hi its.toArray.size;unfold Xl;rw[h1,h2,h3];simp only[sliceRange_one,pick_run,Oy] <;> rfl
def rSlL(K:N7):V->Option Int->Option Int->Hp->VK->Prop:=λx lo hi H Q=>∃a xs,x=.ref a/\SqL K H a xs/\∀p,H p=ZB->Q (.ref p) (upd H p (.lst (w8 xs lo hi)))
def Fp:SlR X (rSlL X.K):=by intro kw s σ H x v vl vu lo hi sl Q I rx hs pl pu h;obtain⟨a,xs,rfl,hx,q⟩:=h;cases rx;obtain⟨its,r,ht,hz⟩:=I.list hx;have hlen:=r.length;refine⟨"list",_,slot_list_getitem.lookup,ht.isList.typeIs,?_⟩;refine T3 ht.isList hs pl pu .none (by simp) ?_ (by rw[Oy] <;> omega);rw[q0,<-hlen];refine⟨.ref s.heap.objs.size,_,I.laid (t':=s.toks) (o:=.lst (w8 xs lo hi)) (λb ob q=>Oi _ q) (Ou _) ?_,rfl,q _ (I.hok.fresh (Ou _))⟩;exact⟨OJ (nS xs lo hi) hz,_,0,(r.drop (HT.sIx xs.length 0 lo)).take (HT.sIx xs.length xs.length hi - HT.sIx xs.length 0 lo),OA _ rfl⟩
def call_len_seq:CallR X (.builtin "len") (λxs H Q=>∃p ys,xs=[.ref p]/\(SqL X.K H p ys\/SqT X.K H p ys)/\Q (.int ys.length) H):=by
 intro kw s σ H xs us Q I r h;obtain⟨p,ys,rfl,hq,q⟩:=h;obtain⟨u,rfl,rx⟩:=lH r;cases rx;have hn:=qg;rcases hq with hq|hq
 .obtain⟨its,r',pl,hz⟩:=I.list hq;have hlen:=r'.length;exact Calls.call_len_list pl.isList (by simp only[Oy] <;> omega) ⟨.int ys.length,H,I.tok _,⟨s.toks+1,by rw[Oy,hlen]⟩,q⟩
 .obtain⟨its,r',pl,hz⟩:=I.tuple hq;have hlen:=r'.length;exact len_tuple pl (by simp only[Oy] <;> omega) ⟨.int ys.length,H,I.tok _,⟨s.toks+1,by rw[Oy,hlen]⟩,q⟩
def uS:CallR X (.builtin "len") (λxs H Q=>∃z,xs=[.str z]/\z.length<=ZI/\Q (.int z.length) H):=by intro kw s σ H xs us Q I r h;obtain⟨z,rfl,hz,q⟩:=h;obtain⟨u,rfl,t,rfl⟩:=lH r;have hn:=qg;exact len_str (by omega) ⟨.int z.length,H,I.tok _,⟨_,rfl⟩,q⟩
def CallR.or{r r':List V->Hp->VK->Prop}(h:CallR X f r)(h':CallR X f r'):CallR X f (λxs H Q=>r xs H Q\/r' xs H Q):=by
 intro kw s σ H xs us Q I rs q;rcases q with q|q
 .exact h kw s σ H xs us Q I rs q
 .exact h' kw s σ H xs us Q I rs q
def rA:CallR X (.type "tuple") (λxs H Q=>∃p ys,xs=[.ref p]/\((SqL X.K H p ys/\∀l,H l=ZB->Q (.ref l) (upd H l (.tup ys)))\/(SqT X.K H p ys/\Q (.ref p) H))):=by
 intro kw s σ H xs us Q I r h;obtain⟨p,ys,rfl,h⟩:=h;obtain⟨u,rfl,rx⟩:=lH r;cases rx;rcases h with⟨hq,q⟩|⟨hq,q⟩
 .obtain⟨its,r',pl,hz⟩:=I.list hq;have hlen:=r'.length;refine call_tuple_list pl.isList (λh' kp=>?_) (by simp only[Oy] <;> omega);have I1:Inv X kw σ H {s with heap:=h'}:=I.kept (t':=s.toks) kp;have I2:Inv X kw σ (upd H h'.objs.size (.tup ys)) {s with heap:=h'.push {cls:=.type "tuple",data:=.seq its.toArray}}:=
   I1.laid (t':=s.toks) (λb o e=>Oi _ e) (Ou _) (show ObjOk X.prog X.w _ _ _ (.tup ys)from⟨hz,its,r',Vx _ _⟩)
  exact⟨.ref h'.objs.size,_,I2,rfl,q _ (I1.hok.fresh (Ou _))⟩
 .obtain⟨its,r',pl,hz⟩:=I.tuple hq;exact call_tuple_same pl ⟨.ref p,H,I,rfl,q⟩
def tyV(K:N7)(T:String)(x:V)(H:Hp):Prop:=match x with
 |.str _=>T= "str"
 |.int _=>T= "int"
 |.ref p=>(T= "list"/\∃xs,SqL K H p xs)\/(T= "tuple"/\∃o,K.lookup p=ZA o/\o.cls=.type "tuple"/\o.dict=ZB) ∨
   (T= "dict"/\((∃kvs,H p=ZA (.dK kvs))\/∃kvs,H p=ZA (.dT kvs)))\/(T= "set"/\∃S n,H p=ZA (.set S n))
 |_=>False
def BW{T:String}{x:V}(I:Inv X kw σ H s)(r:RelV x v)(ty:tyV X.K T x H):
  s.TypeIs v T/\∀a,v=.ref a->∃ob,s.heap.get? a=ZA ob/\ob.dict=ZB:=by
 cases x with
 |str z=>
  obtain⟨t,rfl⟩:=r;cases (show T= "str" from ty);exact⟨typeIs_str s z t,λ_ e=>nomatch e⟩
 |int i=>
  obtain⟨t,rfl⟩:=r;cases (show T= "int" from ty);exact⟨U0 s i t,λ_ e=>nomatch e⟩
 |ref p=>
  cases r;rcases ty with⟨rfl,xs,hq⟩|⟨rfl,o,hk,hc,hd⟩|⟨rfl,hk⟩|⟨rfl,S,n,hk⟩
  .obtain⟨its,_,pl,_⟩:=I.list hq;refine⟨pl.isList.typeIs,λa e=>?_⟩;cases e;obtain⟨o,n,e,c,hd,_⟩:=pl;exact⟨o,e,hd⟩
  .refine⟨⟨o,I.kIn p o hk,hc⟩,λa e=>?_⟩;cases e;exact⟨o,I.kIn _ o hk,hd⟩
  .have z:∃o,s.heap.get? p=ZA o/\o.ExactDict:=by
    rcases hk with⟨kvs,hk⟩|⟨kvs,hk⟩
    .obtain⟨_,_,_,_,o,_,_,e,ex,_⟩:=I.hok p _ hk;exact⟨o,e,ex⟩
    .obtain⟨_,_,_,_,o,_,_,e,ex,_⟩:=I.hok p _ hk;exact⟨o,e,ex⟩
   obtain⟨o,e,ex⟩:=z;refine⟨⟨o,e,ex.1⟩,λa e2=>?_⟩;cases e2;exact⟨o,e,ex.2.1⟩
  .obtain⟨o,_,_,_,e,ex,_⟩:=I.hok p _ hk;refine⟨⟨o,e,ex.1⟩,λa e2=>?_⟩;cases e2;exact⟨o,e,ex.2.1⟩
 |_=>exact QQ ty
def tBM(K:N7)(T:String)(r:V->List V->Hp->VK->Prop)(to:TE)(t:TA):TE:=λσ H Q=>to σ H λx H1=>tyV K T x H1/\t σ H1 λxs H2=>r x xs H2 Q
variable {o:ZG}{es:List ZG}{to:TE}{t:TA}{name:Str}{apos cpos:Pos}{T id:String}{r:V->List V->Hp->VK->Prop}
def zA(pa:PlainAttrs T)(slot:Slot T name id)(hty:typeOf (.builtin id)=pure (.type "method_descriptor"))(hm:MtR X id r)(ho:PE X o to)(ha:PA X (e::es) t)
  (hbase:QB o name X.env (eval o X.env)=eval o X.env:=by rfl)
  (hfew:((backTo cpos (Oz (e::es) X.env)).all (λx=>!x.1)&&(VS cpos (Tg [] X.env)).all (λx=>x.1.isSome)
   &&decide ((e::es).length+([]:List Wm).length+(if ([]:List Wm).isEmpty then 0 else 1)<30))=ZC:=by rfl)
  (hline:(apos.endLine == cpos.line)=ZC:=by rfl) (hs:Oz (e::es) X.env=(ZD,eval e X.env)::Oz es X.env:=by rfl) (hplain:(backTo cpos (Oz es X.env)).any (·.1)=ZD:=by rfl):
  PE X (.Call (.Attribute o name apos) (e::es) [] cpos) (tBM X.K T r to t):=by
 intro kw s σ H Q I h;refine Ux hbase hfew hline rfl (cL (ho kw s σ H _ I h) λv s1 hh_=>?_);obtain⟨x,H1,I1,r1,ty,q1⟩:=hh_;obtain⟨h1,h2⟩:=BW I1 r1 ty;refine⟨T,id,pa,slot,hty,h1,h2,?_⟩;have hA:=ha cpos kw s1 σ H1 _ I1 q1;rw[hs]at hA ⊢;refine Su (by show(ZD||(backTo cpos (Oz es X.env)).any (·.1))=ZD;rw[hplain] <;> rfl) (RV ?_);exact cL hA λus s2 ⟨vs,H2,I2,r2,q2⟩=>hm kw s2 σ H2 x vs v us Q I2 r1 r2 q2
end
def MtM(X:Cx)(id:String)(r:V->List V->Hp->VK->Prop):Prop:=
 ∀(kw:Uf)(s:Oe)(σ:St)(H:Hp)(x:V)(xs:List V)(v:Ob)(us:List Ob)(Q:VK),Inv X kw σ H s->RelV x v->Vals xs us->r x xs H Q ->
  ZJ (ZK X.prog X.w) X.A (call (.builtin id) (v::us)) (EP X kw σ Q) X.xe s
theorem Vals.one:∀{x:V}{us:List Ob},Vals [x] us->∃u,us=[u]/\RelV x u
 |_,_,h=>by cases h with|cons r t=>cases t;exact⟨_,rfl,r⟩
def Vals.reverse(h:Vals xs us):Vals xs.reverse us.reverse:=by
 induction h with
 |nil=>exact .nil
 |cons r t ih=>rw[Sy,Sy];exact Vals.append ih (.cons r .nil)
theorem Vals.rep(h:Vals xs us):∀k:Nat,Vals (OK k xs).flatten (OK k us).flatten
 |0=>.nil
 |k+1=>by rw[Qa,Qa,QR,QR];exact Vals.append h (Vals.rep h k)
theorem foldl_rep(its:List Ob):∀(k:Nat)(acc:List Ob),
  TR (λx1 x2=>x1++x2) acc.toArray (OK k its.toArray)=(acc++(OK k its).flatten).toArray
 |0,acc=>by simp
 |k+1,acc=>by
  have e:acc.toArray++its.toArray=(acc++its).toArray:=by simp
  have e2:(acc++its)++(OK k its).flatten=acc++(OK (k+1) its).flatten:=by rw[Qa,QR,OU]
  rw[<-e2,<-foldl_rep its k (acc++its),<-e,Qa,W4]
section
variable {l b:ZE}{ys zs:List V}
def Inv.NW{its':List Ob}{f:Array Ob->Array Ob}(I:Inv X kw σ H s)(hH:H l=ZA (.lst xs))
  (e:s.heap.get? l=ZA {cls:=.type "list",data:=.seq its.toArray n}) (hf:f its.toArray=its'.toArray) (hv:Vals ys its') (hz:ys.length<=ZI):
  Inv X kw σ (upd H l (.lst ys)) {s with heap:=s.heap.update l (PF f),toks:=t'}:=by
 have q:=PySem.IsL.update e f;rw[hf]at q;refine I.write (x:=l) (e:=l) (by rw[hH];exact trivial) (.inl rfl) (λb' u hb hu=>(Pl s.heap (PF f) (PN hb)).trans hu) ⟨_,q⟩ ?_;exact⟨hz,its',_,hv,q⟩
def Inv.NL(I:Inv X kw σ H s)(hv:Vals ys its)(hz:ys.length<=ZI):
  Inv X kw σ (upd H s.heap.objs.size (.lst ys)) {s with heap:=s.heap.push {cls:=.type "list",data:=.seq its.toArray},toks:=t'}:=
 I.laid (λ_ _ q=>Oi _ q) (Ou _) ⟨hz,its,0,hv,OA _ rfl⟩
theorem Inv.fresh(I:Inv X kw σ H s):H s.heap.objs.size=ZB:=I.hok.fresh (Ou _)
def Inv.KM(I:Inv X kw σ H s)(hH:H l=ZA (.lst xs)):xs.length<=ZI/\∃(its:List Ob)(n:Nat),Vals xs its/\xs.length=its.length/\s.heap.get? l=ZA {cls:=.type "list",data:=.seq its.toArray n}:=by obtain⟨z,its,n,r,e⟩:=I.hok l _ hH;exact⟨z,its,n,r,r.length,e⟩
def we(h:n<=ZI):Rg n=ZD:=by unfold Rg;exact decide_eq_false (by omega)
end
def FC:V->List V->Hp->VK->Prop:=λx vs H Q=>∃l xs y,x=.ref l/\vs=[y]/\H l=ZA (.lst xs)/\xs.length<ZI/\Q .non (upd H l (.lst (xs++[y])))
def rZ:MtM X "list.append" FC:=by intro kw s σ H x vs v us Q I rx rv h;obtain⟨l,xs,y,rfl,rfl,hH,hz,q⟩:=h;cases rx;obtain⟨u,rfl,ru⟩:=rv.one;obtain⟨z,its,n,r,hl,e⟩:=I.KM hH;refine Sf F.slot_list_append ⟨_,e,rfl⟩ F.entry_list_append (F.args_list_append_2 _ _) (PySem.list_append l its.toArray n u (by rw[Oy];omega)) ⟨e,?_⟩;refine⟨.non,_,I.NW (its':=its++[u]) hH e (by simp) (r.append (.cons ru .nil)) ?_,rfl,q⟩;rw[On,QJ];omega
def Fz:V->List V->Hp->VK->Prop:=λx vs H Q=>∃l b xs zs,x=.ref l/\vs=[.ref b]/\H l=ZA (.lst xs)/\H b=ZA (.lst zs)/\xs.length+zs.length<=ZI/\Q .non (upd H l (.lst (xs++zs)))
def AW:MtM X "list.extend" Fz:=by
 intro kw s σ H x vs v us Q I rx rv h;obtain⟨l,b,xs,zs,rfl,rfl,hH,hB,hz,q⟩:=h;cases rx;obtain⟨u,rfl,ru⟩:=rv.one;cases ru;obtain⟨z,its,n,r,hl,e⟩:=I.KM hH;obtain⟨z2,its2,n2,r2,hl2,e2⟩:=I.KM hB;have hsz:its.toArray.size+its2.toArray.size<=ZI:=by rw[Oy,Oy];omega
 have hlong:¬ (!its.toArray.isEmpty&&Rg (its.toArray.size+its2.toArray.size))=ZC:=by rw[we hsz,Bool.and_false];exact OG
 refine Sf F.slot_list_extend ⟨_,e,rfl⟩ F.entry_list_extend (F.args_list_extend_2 _ _)
  (AutoSeq1.list_extend_list_list_0 l its.toArray n b its2.toArray n2 hlong (by rw[Oy];omega) (by omega)) ⟨e,e2,?_⟩
 refine⟨.non,_,I.NW (its':=its++its2) hH e (by simp) (r.append r2) ?_,rfl,q⟩;rw[On];omega
def rCat:R2:=λx y H Q=>∃l b xs zs,x=.ref l/\y=.ref b/\H l=ZA (.lst xs)/\H b=ZA (.lst zs)/\xs.length+zs.length<=ZI/\∀p,H p=ZB->Q (.ref p) (upd H p (.lst (xs++zs)))
def C2:qU X (Qz .Add) rCat:=by
 intro kw s σ H x y v u Q I rx ry h;obtain⟨l,b,xs,zs,rfl,rfl,hH,hB,hz,q⟩:=h;cases rx;cases ry;obtain⟨z,its,n,r,hl,e⟩:=I.KM hH;obtain⟨z2,its2,n2,r2,hl2,e2⟩:=I.KM hB;refine PySem.P.add_list e e2 ?_ (by rw[Oy,Oy];omega);have ea:its.toArray++its2.toArray=(its++its2).toArray:=by simp
 rw[ea];exact⟨.ref _,_,I.NL (t':=s.toks) (r.append r2) (by rw[On];omega),rfl,q _ I.fresh⟩
def rRep:R2:=λx y H Q=>∃l k xs,x=.ref l/\y=.int k/\H l=ZA (.lst xs)/\-(2 ^ 63)<=k/\k<2 ^ 63/\xs.length*k.toNat<=ZI ∧
 ∀p,H p=ZB->Q (.ref p) (upd H p (.lst (OK k.toNat xs).flatten))
def len_rep(xs:List α)(k:Nat):(OK k xs).flatten.length=k*xs.length:=by
 induction k with
 |zero=>simp
 |succ k ih=>rw[Qa,QR,On,ih,Nat.succ_mul,Wq]
def Jt:qU X (Qz .Mult) rRep:=by
 intro kw s σ H x y v u Q I rx ry h;obtain⟨l,k,xs,rfl,rfl,hH,h1,h2,hz,q⟩:=h;cases rx;obtain⟨t,rfl⟩:=ry;obtain⟨z,its,n,r,hl,e⟩:=I.KM hH;have hlen:its.toArray.size*k.toNat<=ZI:=by rw[Oy,<-hl];exact hz
 have hcap:¬ its.toArray.size*k.toNat > (2 ^ 63 - 1) / 8:=by
  have:(ZI:Nat)<=(2 ^ 63 - 1) / 8:=by decide
  omega
 have hfit:¬ (!Builtin.List.listFitsIndex k)=ZC:=by rw[fitsIndex_both h1 h2];exact OG
 have hlong:¬ Rg (its.toArray.size*k.toNat)=ZC:=by rw[we hlen];exact OG
 have hnew:TR (λx1 x2=>x1++x2) #[] (OK (if its.toArray.isEmpty=ZC then 0 else k.toNat) its.toArray)=(OK k.toNat its).flatten.toArray:=by
  have f0:∀m:Nat,TR (λx1 x2=>x1++x2) #[] (OK m its.toArray)=(OK m its).flatten.toArray:=λm=>by have:=foldl_rep its m [];rw[P5]at this;exact this
  rw[f0];cases its with
  |nil=>simp
  |cons a r'=>rw[if_neg (by simp)]
 refine TL (T:="list") (U:="int") (by decide) ⟨_,e,rfl⟩ (λs'=>U0 s' k t) noFill_list_mul W5 S9 repeat_list WH.lookup
  (Sf S9 (U0 s k t) WI (V5 _ _) (int___rmul___int_list k t l its.toArray n)
   ⟨e,rfl,⟨_,e,rfl⟩,Sf F.slot_list_mul ⟨_,e,rfl⟩ F.entry_list_mul (F.args_list_mul_2 _ _) (Vy l its.toArray n k t hfit hcap hlong) ⟨e,?_⟩⟩)
 rw[hnew];exact⟨.ref _,_,I.NL (t':=s.toks) (r.rep k.toNat) (by rw[len_rep,Wr];exact hz),rfl,q _ I.fresh⟩
end L2
namespace Att
open PySem PySem.W PySem.Calls PyProof.Rows
variable{P:Params}{h:ZH}
def n8:∀(ns:List Int)(vs:List Ob),WellAll P h vs (ns.map WData.int)->Qq vs ns:=by
 intro ns;induction ns with
 |nil=>
  intro vs w;rw[Tz]at w;cases w;exact .nil
 |cons n ns ih=>
  intro vs w;rw[Od]at w;cases w with
  |cons a b=>
   cases a;exact .cons _ _ (ih _ b)
variable{l:OpenLaw}
def AE(hn:l.most=ZA n){args:List WData}{vals:List Ob}
  (hpre:l.row.toRowW.claim.pre args=ZC) (hwl:WellAll P h vals args):
  ∃a vs ns,vals=[OB a]/\args=[WData.list (ns.map WData.int)]/\h.get? a=ZA {cls:=.type "list",data:=.seq vs.toArray}/\Qq vs ns/\ns.length<=n:=by
 have hsh:WShape.hasAll [] args [.list .int]=ZC:=(pre_splitW hpre).1;have hc:l.pre.holds [] {args:=args}=ZC:=(pre_splitW hpre).2;obtain⟨d,r,rfl,h1,h2⟩:=hasAllW_cons hsh;obtain rfl:=hasAllW_nil h2;obtain⟨xs,rfl,h3⟩:=hasW_list h1;obtain⟨ns,rfl⟩:=items_int h3;have hlen:ns.length<=n:=by
  unfold OpenLaw.pre at hc;have h4:(WTm.not (.lt (.lit (.int (n:Int))) (.len (.arg 0)))).holds [] {args:=[.list (ns.map .int)]}=ZC:=by have h4:=(holds_andW hc).1;rw[hn]at h4;exact h4
  have h5:=condW_of h4 (w_not (w_lt w_lit (w_len_list (w_arg rfl))));rw[Oc]at h5;refine Nat.le_of_not_lt λq=>?_;have q':(n:Int)<((ns.length:Nat):Int):=by omega
  first
   | (rw[decide_eq_true q']at h5;exact absurd h5 (by decide))
   | (simp at h5;omega)
 cases hwl with
 |cons w1 w2=>
  cases w2;cases w1 with
  |list ho hall=>exact⟨_,_,ns,rfl,rfl,ho,n8 ns _ hall,hlen⟩
def AL(l:OpenLaw)(args:List WData):l.row.toRowW.claim.post args (.bool ZC) args=ZC:=
 postW_of (r:=l.row.toRowW) (X:=(ZC == ZC))
  (show WShape.has [] (.bool ZC) .bool=ZC by first|rfl|decide|simp[WShape.has,WShape.arms,WShape.armsAll])
  (show(WTm.eq .res (.lit (.bool ZC))).value [] {args:=args,res:=ZA (.bool ZC),after:=args}=ZA (.bool (ZC == ZC))from w_eq_bool (w_res rfl) w_lit) rfl
def attach_call{loose:List Str}{XP:(WF)->ZH->Prop}{YP:Py->ZH->Prop}{d:DefRec}
  (hn:l.most=ZA n) (hdf:d.params.defaults=[])
  (call:∀(w:Py)(s₀ s₁:Oe)(mg mb:WF)(fa:ZE)(o:Obj)(pm cd doc:Ob)(a:ZE)(vs:List Ob)(ns:List Int),
   Ground q loose [] XP w s₀ mg mb s₁.heap->YP w s₁.heap ->
   s₁.heap.get? fa=ZA o->o.data=.func (docDef d.name d.params d.body d.scope pm cd doc)->s₁.heap.CodeRec cd d.name->mg d.name=ZA (.ref fa) ->
   s₁.heap.get? a=ZA {cls:=.type "list",data:=.seq vs.toArray}->Qq vs ns->ns.length<=n->s₁.gens= #[] ->
   ZL (ZK l.prog w) callerA (.call (.ref fa) ⟨[.ref a],[]⟩) (λr s'=>r=.ok (.ret (.bool ZC))/\OldK s₁.heap s'.heap/\s'.os=s₁.os/\Rl s'.gens) s₁):
  WalkO q loose XP YP l.row.toRowW d [] (λf vs=>PySem.call f vs):=by
 intro w s₀ s₁ mg mb G Y fa o pm cd doc dV kV ho hd hcd hD hmg hg args vals as hpre hlay hrd hwl hlo;obtain rfl:dV=.none:=Dflts.none hD hdf;obtain rfl:kV=.none:=Dflts.noKw hD;obtain⟨a,vs,ns,rfl,rfl,hobj,hints,hlen⟩:=AE hn hpre hwl;refine enter_call (Sd (call w s₀ s₁ mg mb fa o pm cd doc a vs ns G Y ho (fd_plain hd) hcd hmg hobj hints hlen hg) λr s' hq=>?_);obtain⟨rfl,h2,h3,h4⟩:=hq;exact⟨.inl ⟨.bool ZC,.bool ZC,[],rfl,λ_=>rfl,.bool ZC,AL l _,λ_=>⟨V4,λ_ hm=>(nomatch hm)⟩⟩,h2,h3,h4⟩
end Att
namespace L2
open PySem PySem.Spec PyProof.Rows
theorem mG:∀{vs:List Ob}{ns:List Int},Qq vs ns->Vals (ns.map V.int) vs
 |_,_,.nil=>.nil
 |_,_,.cons n t h=>.cons ⟨t,rfl⟩ (mG h)
def KD(H:Hp):Prop:=∀b,H b=ZB\/(∃o xs,H b=ZA (.frz o (.lst xs)))\/H b=ZA (.tbl n5)
variable{mg:WF}{sp:Sp}{x:Str}
def Ds{mb:WF}{CX:BL}{fa a:ZE}{s₁:Oe}
  (KX:K.In s₁.heap) (hns:s₁.heap.Ns OM mg) (hb:s₁.heap.Ns Sb mb) (hbb:∀x:Str,x≠ "__name__"->mb x=Pc x) (hlim:s₁.heap.NoLimit) (hg:s₁.gens= #[])
  (ha:s₁.heap.get? a=ZA {cls:=.type "list",data:=.seq vs.toArray}) (hi:Qq vs ns) (hl:ns.length<=ZI) (hr:Room k callerA) {P0 c0:ZE} (hP:s₁.heap.TableAt c0 P0 #[]) (hPK:K.lookup P0=ZB) (hTb:∀H:Hp,H P0=ZA (.tbl n5)->Tb K mg H)
  (F:∀base:ZH,K.In base->base.Ns OM mg->rC P w K mg base CX k fa fd [x] sp) (hbind:∀(s:Oe)(u:Ob),Vq s fd ⟨[u],[]⟩ [(x,u)])
  (hsp:∀H:Hp,KD H->SqL K H a (ns.map V.int)->sp [.ref a] H (λv _=>v=.bl ZC) λ_ _ _=>False)
  (hCX:∀H e s',CX [] H s₁ (λ_ _ _=>False) e s'->False):
  ZL (ZK P w) callerA (.call (.ref fa) ⟨[.ref a],[]⟩) (λr s'=>r=.ok (.ret (.bool ZC))/\OldK s₁.heap s'.heap/\s'.os=s₁.os/\Rl s'.gens) s₁:=by
 have rv:=mG hi;have lenV:=hi.length;have hPe:=hP.2;have hPa:P0≠a:=λz=>by subst z;rw[ha]at hPe;cases hPe
 have hPo:∀H:Hp,ObjOk P w H s₁.heap P0 (.tbl n5):=λH=>⟨#[],hPe,trivial,λpos v e=>by cases e⟩;have core:∀H:Hp,KD H->SqL K H a (ns.map V.int)->HOk P w H s₁.heap->(∀b,H b≠ZB->b=a\/b=P0)->(H a≠ZB->K.lookup a=ZB)->H P0=ZA (.tbl n5) ->
   ZL (ZK P w) callerA (.call (.ref fa) ⟨[.ref a],[]⟩) (λr s'=>r=.ok (.ret (.bool ZC))/\OldK s₁.heap s'.heap/\s'.os=s₁.os/\Rl s'.gens) s₁:=by
  intro H hO hS hok hA hK hHP;have base_of:∀{b:ZE}{o:Obj},s₁.heap.get? b=ZA o->H b=ZB->(uH s₁.heap H).get? b=ZA o:=λe n=>DV e n;have noA:∀{b:ZE}{o:Obj}{es:Array DictEntry}{ep:Nat},s₁.heap.get? b=ZA o->o.data=.dict es ep->H b=ZB:=λ{b o es ep} e d=>by
   cases q:H b with
   |none=>rfl
   |some u=>
    have e':b=a:=(hA b (by rw[q];simp)).resolve_right λz=>by subst z;rw[hPe]at e;cases e;cases d
    subst e';rw[ha]at e;cases e;have d':Data.seq vs.toArray _=Data.dict es ep:=d;cases d'
  have nsK:∀{b:ZE}{m:WF},s₁.heap.Ns b m->(uH s₁.heap H).Ns b m:=λ{b m} ⟨o,es,ep,e,d,r⟩=>⟨o,es,ep,base_of e (noA e d),d,r⟩;have hKb:K.In (uH s₁.heap H):=λb o e=>base_of (KX b o e) (by
   cases q:H b with
   |none=>rfl
   |some u=>
    have e':b=a:=(hA b (by rw[q];simp)).resolve_right λz=>by subst z;rw[hPK]at e;cases e
    subst e';rw[hK (by rw[q];simp)]at e;cases e)
  have hM:Mod K mg (uH s₁.heap H):=⟨hKb,nsK hns,⟨mb,nsK hb,hbb⟩,let ⟨mc,h1,h2⟩:=hlim;⟨mc,nsK h1,h2⟩⟩;have e0:Env0 P w K mg (uH s₁.heap H) callerA [] s₁ H:=⟨rfl,hM,λb o e=>Gd e,R9 (Bc _ _),trivial,λb hb=>absurd (show b∈([]:List ZE)from hb) (by simp),hok,.of_eq hg,hTb H hHP⟩;refine Sd ((F _ hKb (nsK hns)).run callerA [] s₁ H ⟨[.ref a],[]⟩ [.ref a] [.ref a] _ _ hr e0 (hbind s₁ (.ref a)) (.cons rfl .nil) (hsp H hO hS)) λr s' h=>?_;cases r with
  |error e=>exact(hCX H e s' h).elim
  |ok fl=>
   cases fl with
   |next=>exact QQ h
   |brk=>exact QQ h
   |cont=>exact QQ h
   |ret u=>
    obtain⟨v,H',os,bare,un,hok',r',q⟩:=h;have q':v=.bl ZC:=q;subst q';obtain rfl:u=Pq ZC:=r';have hP':=un.tbls P0 _ hHP;obtain⟨ps,eP,_⟩:=hok' P0 _ hP';have key:∀b o,b≠P0->s₁.heap.get? b=ZA o->s'.heap.get? b=ZA o:=?key
    .refine⟨rfl,⟨λb o e=>?_,λb o e=>?_⟩,os,bare⟩
     .by_cases hb:b=P0
      .subst hb;rw[hPe]at e;cases e;exact .inr (.inl ⟨hP.isCodeTable,rfl,#[],ps,rfl,by simpa using eP⟩)
      .exact .inl (key b o hb e)
     .by_cases hb:b=P0
      .subst hb;exact⟨_,eP⟩
      .exact⟨o,key b o hb e⟩
    intro b o hbP e;cases q:H b with
    |none=>exact un.keep b o e q (by intro z;exact absurd (show b∈([]:List ZE)from z) (by simp)) (by simp)
    |some u=>
     rcases hO b with z|⟨ob,xs,z⟩|z
     .rw[q]at z;cases z
     .have z2:=un.frzs b ob _ z;obtain⟨e1,_⟩:=hok b _ z;obtain⟨e2,_⟩:=hok' b _ z2;rw[e]at e1;cases e1;exact e2
     .rcases hA b (by rw[z];simp)with y|y
      .subst y;have:=hok b _ z;obtain⟨_,e3,_⟩:=this;rw[ha]at e3;cases e3
      .exact absurd y hbP
 cases hk:K.lookup a with
 |some o=>
  have e:=KX a o hk;rw[ha]at e;cases e;refine core (λb=>if b=P0 then ZA (.tbl n5)else ZB) (λb=>?_) (.inr ⟨_,vs.toArray,_,hk,rfl,rfl,rfl,by rw[Oy,lenV];exact hl,by simpa using rv⟩) (λb u z=>?_) (λb z=>?_) (λz=>absurd (if_neg hPa.symm) z) (if_pos rfl)
  .by_cases hb:b=P0
   .exact .inr (.inr (if_pos hb))
   .exact .inl (if_neg hb)
  .by_cases hb:b=P0
   .have z':=(if_pos hb).symm.trans z;cases z';subst hb;exact hPo _
   .have z':=(if_neg hb).symm.trans z;cases z'
  .by_cases hb:b=P0
   .exact .inr hb
   .exact absurd (if_neg hb) z
 |none=>
  have hF:∀b,b≠a->b≠P0->(if b=a then ZA (HO.frz {cls:=.type "list",data:=.seq vs.toArray} (.lst (ns.map V.int)))else if b=P0 then ZA (.tbl n5)else ZB)=ZB:=λb h1 h2=>by rw[if_neg h1,if_neg h2]
  have hG:∀b,b≠a->b=P0->(if b=a then ZA (HO.frz {cls:=.type "list",data:=.seq vs.toArray} (.lst (ns.map V.int)))else if b=P0 then ZA (.tbl n5)else ZB)=ZA (.tbl n5):=λb h1 h2=>by rw[if_neg h1,if_pos h2]
  refine core (λb=>if b=a then ZA (.frz {cls:=.type "list",data:=.seq vs.toArray} (.lst (ns.map V.int)))else if b=P0 then ZA (.tbl n5)else ZB) (λb=>?_) (.inl (.inr ⟨{cls:=.type "list",data:=.seq vs.toArray},if_pos rfl⟩)) (λb u z=>?_) (λb z=>?_) (λ_=>hk) (hG P0 hPa rfl)
  .by_cases hb:b=a
   .exact .inr (.inl ⟨_,_,if_pos hb⟩)
   .by_cases hb2:b=P0
    .exact .inr (.inr (hG b hb hb2))
    .exact .inl (hF b hb hb2)
  .by_cases hb:b=a
   .have z':=(if_pos hb).symm.trans z;cases z';subst hb;exact⟨ha,by rw[Oc];exact hl,vs,_,rv,ha⟩
   .by_cases hb2:b=P0
    .have z':=(hG b hb hb2).symm.trans z;cases z';subst hb2;exact hPo _
    .have z':=(hF b hb hb2).symm.trans z;cases z'
  .by_cases hb:b=a
   .exact .inl hb
   .by_cases hb2:b=P0
    .exact .inr hb2
    .exact absurd (hF b hb hb2) z
abbrev CX0:BL:=λ_ _ _ _ _ _=>False
abbrev E0:XK:=λ_ _ _=>False
variable{X:Cx}
def zC:u5 CX0 X E0:=λ_ _ _ _ _ _ _ h=>h.elim
structure Fun (K:N7)(x qual:Str)(st:ZF)(f:ZE)(fd:PX):Prop where
 ex:∃(oc:Ob)(od:Option ZE)(kV doc pm:Ob)(an:Option ZE)(cdv ct:Ob)(osl:Array (Option Ob)),
  fd=R6 x qual (iu st) (cZ st) (az st) .none kV doc pm an cdv ct/\K.lookup f=ZA ⟨oc,od,.func fd,osl⟩/\Vc K cdv qual=ZC
 kp:Qx K (.ref f)=ZC
variable{f:ZE}{ps:List Str}{qual:Str}{st:ZF}
section
variable {base:ZH}
def Fun.ok{N:List Str}(F:Fun K x qual st f fd)(S:dj N ps (az st))(len:∀vs H Q E,sp vs H Q E->vs.length=ps.length)
  (hbody:∀(cdv:Ob),fd.code=cdv->∀(A:OW)(outer:List Env)(s:Oe)(H:Hp)(vs:List V)(Q:VK)(E:XK),Room k (A.deeper (envOfC qual (az st) s.heap.objs.size f cdv))->sp vs H Q E ->
   ∃t,PSs (jl CX0 P w K mg base N qual (az st) f cdv A outer s H E).nox (cZ st) t/\t {nx:=λ_ H'=>Q .non H',rt:=Q} (start N vs) H):rC P w K mg base CX0 (k+1) f fd ps sp:=by
 obtain⟨oc,od,kV,doc,pm,an,cdv,ct,osl,rfl,lk,hcd⟩:=F.ex;refine Mo lk hcd S len λA outer s H vs Q E hr hsp=>?_;obtain⟨t,h,q⟩:=hbody cdv rfl A outer s H vs Q E hr hsp;exact⟨t,h.nox,q⟩
def Fun.binds(F:Fun K x qual st f fd)
  (h:∀(kV doc pm:Ob)(an:Option ZE)(cdv ct:Ob)(us:List Ob),us.length=ps.length->VR (R6 x qual (iu st) (cZ st) (az st) .none kV doc pm an cdv ct) ⟨us,[]⟩=pure (ps.zip us)):Binds K fd ps []:=by
 obtain⟨oc,od,kV,doc,pm,an,cdv,ct,osl,rfl,lk,hcd⟩:=F.ex;exact .all (h kV doc pm an cdv ct)
def Kb{oc:Ob}{od an:Option ZE}{osl:Array (Option Ob)}{kV doc pm ct:Ob}(l:K.lookup f=ZA ⟨oc,od,.func (R6 x qual (iu st) (cZ st) (az st) .none kV doc pm an cdv ct),osl⟩)
  (c:Vc K cdv qual=ZC) (k:Qx K (.ref f)=ZC):Fun K x qual st f (R6 x qual (iu st) (cZ st) (az st) .none kV doc pm an cdv ct):=⟨⟨oc,od,kV,doc,pm,an,cdv,ct,osl,rfl,l,c⟩,k⟩
end
variable{pos:Pos}
def pv(i:Nat)(hN:X.N[i]?=ZA x:=by rfl)(hv:autoParam (uZ X.env.scope x) u_)(hd:autoParam ((x == ("__debug__" : Str))=ZD) s_)
  (hcd:autoParam ((x == ("__classdict__" : Str))=ZD) s_):PE X (.Name x pos) (oX i):=i9 hN hv hd hcd
def iteF{A B:Prop}(h:B):if ZD=ZC then A else B:=by rw[if_neg OG];exact h
def iteT{A B:Prop}(h:A):if ZC=ZC then A else B:=by rw[if_pos rfl];exact h
def Same(H H':Hp):Prop:=∀b o,H b=ZA o->H' b=ZA o
def Same.refl(H:Hp):Same H H:=λ_ _ h=>h
def Same.trans{H H1 H2:Hp}(a:Same H H1)(b:Same H1 H2):Same H H2:=λc o h=>b c o (a c o h)
def hold{G:Prop}(h:∀G':Prop,(G->G')->G'):G:=h G id
variable{env:Env}
theorem lE:∀(names:List (Str×RQ))(acc:List (Str×ZE)),
  (∀x,(x,Pm)∈names->∃c,env.cells.lookup x=ZA c) ->
  (∀x c,acc.lookup x=ZA c->env.cells.lookup x=ZA c) ->
  ∃cl,(forIn (m:=Sem) names acc (λx cs=>(if (x.2 == Pm)=ZC then do let a <-cellOf env x.1;pure (RE ((x.1,a)::cs))else pure (RE cs))))=pure cl ∧
   (∀x c,cl.lookup x=ZA c->env.cells.lookup x=ZA c) ∧
   (∀x,(x,Pm)∈names->∃c,cl.lookup x=ZA c)/\(∀x c,acc.lookup x=ZA c->∃c',cl.lookup x=ZA c')
 |[],acc,_,h=>⟨acc,rfl,h,λx hx=>by simp at hx,λx c e=>⟨c,e⟩⟩
 | (n,k)::r,acc,hf,h=>by
  by_cases hk:k=Pm
  .subst hk;obtain⟨c,hc⟩:=hf n (by simp);have h':∀x c',((n,c)::acc).lookup x=ZA c'->env.cells.lookup x=ZA c':=λx c' e=>by
    rw[Pt]at e;cases q:x == n with
    |true=>
     rw[q]at e;have e2:c=c':=OQ e;have e3:x=n:=by simpa using q
     rw[<-e2,e3];exact hc
    |false=>rw[q]at e;exact h x c' e
   obtain⟨cl,e1,e2,e3,e4⟩:=lE r ((n,c)::acc) (λx hx=>hf x (N9 _ hx)) h';refine⟨cl,?_,e2,λx hx=>?_,λx c' e=>?_⟩
   .rw[W6];simp only[beq_self_eq_true,if_true,cellOf,hc,pure_bind];exact e1
   .rcases Oh.mp hx with z|z
    .have z1:x=n:=by injection z
     subst z1;exact e4 x c (by simp[Pt])
    .exact e3 x z
   .cases q:x == n with
    |true=>exact e4 x c (by simp[Pt,q])
    |false=>exact e4 x c' (by simp[Pt,q,e])
  .have hb:(k == Pm)=ZD:=by simpa using hk
   obtain⟨cl,e1,e2,e3,e4⟩:=lE r acc (λx hx=>hf x (N9 _ hx)) h;refine⟨cl,?_,e2,λx hx=>?_,e4⟩
   .rw[W6];simp only[hb,Qg,if_false,pure_bind];exact e1
   .rcases Oh.mp hx with z|z
    .have z1:Pm=k:=by injection z
     exact absurd z1.symm hk
    .exact e3 x z
def yP(hf:∀x,(x,Pm)∈scope.names->∃c,env.cells.lookup x=ZA c):
  ∃cl,U1 scope env=pure cl/\(∀x c,cl.lookup x=ZA c->env.cells.lookup x=ZA c)/\(∀x,(x,Pm)∈scope.names->∃c,cl.lookup x=ZA c):=by
 obtain⟨cl,e1,e2,e3,_⟩:=lE scope.names [] hf (λx c e=>by simp at e);refine⟨cl,?_,e2,e3⟩;unfold U1;refine Eq.trans ?_ (congrArg (λz=>z >>= pure) e1|>.trans (by simp));rfl
variable{tg:ZG}
def uR{pr:OI}{wd:Py}{Ar:OW}{Rz:Xk->Oe->Prop}{el it0:ZG}{cs:List ZG}{ps:Pos}{itv av:Ob}{ev:Env}(W:Nat->Oe->Prop)
  (go:∀k st,W k st->ZJ (ZK pr wd) Ar (pyNext itv) (λr s1=>match r with
   |none=>Rz (.ok .next) s1
   |some v=>ZJ (ZK pr wd) Ar (Sn tg itv v) (λ_ s2=>ZJ (ZK pr wd) Ar (assign tg ev v) (λ_ s3=>
     ZJ (ZK pr wd) Ar (forIn cs ZC λc b=>if b=ZC then do let z <-isTrue c ev (eval c ev);pure (RE z)else pure (RE b)) (λz s4=>
      if z=ZC then ZJ (ZK pr wd) Ar (eval el ev) (λy s5=>
       ZJ (ZK pr wd) Ar (call (.builtin "list.append") [av,y]) (λ_ s6=>∃m,m<k/\W m s6) (λ_ _=>False) s5) (λ_ _=>False) s4
      else ∃m,m<k/\W m s4) (λ_ _=>False) s3) (λ_ _=>False) s2) (λ_ _=>False) s1) (λ_ _=>False) st)
  (k:Nat) (hk:W k s0):ZL (ZK pr wd) Ar (.compLoop (.ListComp el [⟨tg,it0,cs,0⟩] sc ps) 0 itv av ev) Rz s0:=by
 refine codeAny_loop rfl W (λk st hw=>?_) k hk;show ZJ (ZK pr wd) Ar ((compTurn (.ListComp el [⟨tg,it0,cs,0⟩] sc ps) 0 itv av ev).onRaise (λz=>do Xm z ev;theTreesLotGoes z)) _ _ st;refine wpAny_noted ?_;rw[compTurn_list];have no:∀{α:Type}{t:Sem α}{Q Q':α->Oe->Prop}{E':WP}{x:Oe},ZJ (ZK pr wd) Ar t Q (λ_ _=>False) x->(∀y z,Q y z->Q' y z)->ZJ (ZK pr wd) Ar t Q' E' x:=λh f=>Qp h f λ_ _ z=>z.elim;refine N8 (wpAny_standAt (N8 (no (go k st hw) λr s1 g1=>?_)));cases r with
 |none=>exact Om g1
 |some v=>
  refine N8 (no g1 λ_ s2 g2=>N8 (no g2 λ_ s3 g3=>N8 (no g3 λz s4 g4=>?_)));cases z with
  |false=>exact Om (And.intro rfl g4)
  |true=>exact N8 (N8 (no g4 λy s5 g5=>N8 (no g5 λ_ s6 g6=>Om (Om (And.intro rfl g6)))))
noncomputable def cA(X:Cx)(scope:RJ)(cl:List (Str×ZE))(N':List Str)(C:ZE)(s₀:Oe)(H₀:Hp)(fp:List ZE):Cx:=
 {X with N:=N',s₀:=s₀,H₀:=H₀,env:=compEnvC scope cl C X.env,outer:=X.stack,stack:=X.stack,ex:=fp,fn:=λx=>scope.names.lookup x == ZA .cell,xe:=λ_ _=>False}
def gH(src:List (Option Nat))(σ:St):St:=src.map λo=>match o with
 |some i=>(σ[i]?).join
 |none=>ZB
theorem jP{env:Env}:∀{names:List (Str×RQ)}{x:Str}{k:RQ},
  (names.map λ(n,k)=>if (k == Pm&&env.scope.kind == .function&&env.kindOf n == ZA .cell)then(n,Qh)else(n,k)).lookup x=ZA k ->
  ∃k',names.lookup x=ZA k'/\(k=k'\/k'=.free)
 |[],_,_,h=>by simp at h
 | (n,k0)::r,x,k,h=>by
  have ih:=@jP env r x k;have h':R5 x ((if (k0 == Pm&&env.scope.kind == .function&&env.kindOf n == ZA .cell)=ZC then(n,Qh)else(n,k0))::(r.map λ(n,k)=>if (k == Pm&&env.scope.kind == .function&&env.kindOf n == ZA .cell)then(n,Qh)else(n,k)))=ZA k:=h;by_cases hc:(k0 == Pm&&env.scope.kind == .function&&env.kindOf n == ZA .cell)=ZC
  .rw[if_pos hc]at h';rw[Pt]at h' ⊢;cases hx:x == n with
   |true=>
    refine⟨k0,rfl,.inr ?_⟩;have:=QM.mp hc|>.1;have:=QM.mp this|>.1;simpa using this
   |false=>rw[hx]at h';exact ih h'
  .rw[if_neg hc]at h';rw[Pt]at h' ⊢;cases hx:x == n with
   |true=>rw[hx]at h';exact⟨k0,rfl,.inl (OQ h').symm⟩
   |false=>rw[hx]at h';exact ih h'
def kr{names:List (Str×RQ)}{k:RQ}(h:names.lookup x=ZA k):(x,k)∈names:=QV h
theorem jA{env:Env}:∀{names:List (Str×RQ)}{x:Str},names.lookup x=ZA .free ->
  (names.map λ(n,k)=>if (k == Pm&&env.scope.kind == .function&&env.kindOf n == ZA .cell)then(n,Qh)else(n,k)).lookup x=ZA .cell ∨
  (names.map λ(n,k)=>if (k == Pm&&env.scope.kind == .function&&env.kindOf n == ZA .cell)then(n,Qh)else(n,k)).lookup x=ZA .free
 |[],_,h=>by simp at h
 | (n,k0)::r,x,h=>by
  have ih:=@jA env r x;show R5 x ((if (k0 == Pm&&env.scope.kind == .function&&env.kindOf n == ZA .cell)=ZC then(n,Qh)else(n,k0))::_)=_\/R5 x ((if (k0 == Pm&&env.scope.kind == .function&&env.kindOf n == ZA .cell)=ZC then(n,Qh)else(n,k0))::_)=_;rw[Pt]at h;by_cases hc:(k0 == Pm&&env.scope.kind == .function&&env.kindOf n == ZA .cell)=ZC
  .rw[if_pos hc];rw[Pt];cases hx:x == n with
   |true=>exact .inl rfl
   |false=>rw[hx]at h;exact ih h
  .rw[if_neg hc];rw[Pt];cases hx:x == n with
   |true=>rw[hx]at h;exact .inr h
   |false=>rw[hx]at h;exact ih h
variable{N':List Str}{elt iter:ZG}{g:TG}{ifs:List ZG}{tc:TT}{te:TE}{wi:TI}
structure LcScope (X:Cx)(scope:RJ)(N':List Str)(src:List (Option Nat)):Prop where
 kind:scope.kind=.function
 cel:∀y∈scope.names,y.2=.cell->scope.names.lookup y.1=ZA .cell
 loc:∀y∈scope.names,y.2=.local->scope.names.lookup y.1=ZA .local
 len:src.length=N'.length
 from_:∀(j i:Nat)(x:Str),src[j]?=ZA (ZA i)->N'[j]?=ZA x->X.N[i]?=ZA x/\scope.names.lookup x=ZA .free
 free:∀x,(x,Pm)∈scope.names->X.env.kindOf x=ZA .cell\/X.env.kindOf x=ZA .free
def Il(K:N7)(wi:TI)(src:List (Option Nat))(g:TG)(tc:TT)(te:TE):TE:=λσ H Q=>wi σ H λJ H1=>∀D,H1 D=ZB->K.lookup D=ZB ->
 ∃W:Nat->Nat->St->List V->Hp->Prop,(∃m,W 0 m (gH src σ) [] (upd H1 D (.lst [])))/\∀i m σ ys H,W i m σ ys H->H D=ZA (.lst ys) ∧
  ((J.stop i H/\Q (.ref D) H)\/(J.go i H/\ys.length<ZI/\∀x H',J.yld i H x H'->g x σ H' λσ2 H2=>tc σ2 H2 λb H3=>
   if b=ZC then te σ2 H3 λv H4=>H4 D=ZA (.lst ys)/\∃m',m'<m/\W (i+1) m' σ2 (ys++[v]) (upd H4 D (.lst (ys++[v])))else ∃m',m'<m/\W (i+1) m' σ2 ys H3))
def BJ(X:Cx)(ifs:List ZG)(t:TT):Prop:=
 ∀(kw:Uf)(s:Oe)(σ:St)(H:Hp)(Q:Bool->Hp->Prop),Inv X kw σ H s->t σ H Q ->
  ZJ (ZK X.prog X.w) X.A (forIn ifs ZC λc r=>if r=ZC then do let ok <-isTrue c X.env (eval c X.env);pure (RE ok)else pure (RE r)) (TP X kw σ Q) X.xe s
def vm:TT:=λ_ H Q=>Q ZC H
def tU:BJ X [] vm:=λ_ _ _ H _ I h=>wpAny_tests_nil ⟨H,I,h⟩
def F0{c:ZG}{t:TT}(h:PT X c t):BJ X [c] t:=λkw s σ H Q I q=>wpAny_tests_one (h kw s σ H Q I q)
theorem ni:∀(names:List (Str×RQ))(h:ZH)(acc:List (Str×ZE)),(∀x y c,acc.lookup x=ZA c->acc.lookup y=ZA c->x=y)->(∀x c,acc.lookup x=ZA c->c<h.objs.size) ->
  (∀x c,(QX h.objs.size names acc).lookup x=ZA c->acc.lookup x=ZA c\/(h.objs.size<=c/\(UQ h names).IsCell c ZB)) ∧
  (∀x y c,(QX h.objs.size names acc).lookup x=ZA c->(QX h.objs.size names acc).lookup y=ZA c->x=y) ∧
  (∀x,(x,Qh)∉names->(QX h.objs.size names acc).lookup x=acc.lookup x) ∧
  (∀x,((x,Qh)∈names\/∃c,acc.lookup x=ZA c)->∃c,(QX h.objs.size names acc).lookup x=ZA c) ∧
  (∀x c,(x,Qh)∈names->(QX h.objs.size names acc).lookup x=ZA c->h.objs.size<=c)
 |[],h,acc,hi,_=>⟨λ_ _ e=>.inl e,hi,λ_ _=>rfl,λx e=>e.elim (λz=>absurd z Pe) id,λ_ _ z=>absurd z Pe⟩
 | (n,k)::r,h,acc,hi,hl=>by
  unfold QX UQ;by_cases hk:k=.cell
  .subst hk;rw[if_pos (by rfl),if_pos (by rfl)];have hz:(h.push {cls:=.type "cell",data:=.cell ZB}).objs.size=h.objs.size+1:=RA ..;have lk:∀x,((n,h.objs.size)::acc).lookup x=if x=n then ZA h.objs.size else acc.lookup x:=λx=>by
    rw[Pt];by_cases e:x=n
    .rw[if_pos e,beq_iff_eq.mpr e]
    .rw[if_neg e,beq_eq_false_iff_ne.mpr e]
   obtain⟨c1,c2,c3,c4,c5⟩:=ni r (h.push {cls:=.type "cell",data:=.cell ZB}) ((n,h.objs.size)::acc) (λx y c e1 e2=>by
     rw[lk]at e1 e2;by_cases q1:x=n
     .by_cases q2:y=n
      .rw[q1,q2]
      .rw[if_pos q1]at e1;rw[if_neg q2]at e2;cases e1;exact absurd (hl _ _ e2) (Pa _)
     .rw[if_neg q1]at e1;by_cases q2:y=n
      .rw[if_pos q2]at e2;cases e2;exact absurd (hl _ _ e1) (Pa _)
      .rw[if_neg q2]at e2;exact hi x y c e1 e2) (λx c e=>by
     rw[lk]at e;rw[hz];by_cases q:x=n
     .rw[if_pos q]at e;cases e;exact WJ _
     .rw[if_neg q]at e;exact RN (hl x c e))
   rw[hz]at c1 c2 c3 c4 c5;refine⟨λx c e=>?_,c2,λx hx=>?_,λx hx=>?_,λx c hx e=>?_⟩
   .rcases c1 x c e with z|z
    .rw[lk]at z;by_cases q:x=n
     .rw[if_pos q]at z;cases z;exact .inr ⟨Ou _,_,UR r _ _ _ (OA _ rfl),rfl⟩
     .rw[if_neg q]at z;exact .inl z
    .exact .inr ⟨Sz z.1,z.2⟩
   .rw[c3 x λz=>hx (N9 _ z),lk,if_neg λz=>hx (by rw[z];exact Of)]
   .refine c4 x ?_;rcases hx with hx|hx
    .rcases Oh.mp hx with z|z
     .cases z;exact .inr ⟨_,by rw[lk,if_pos rfl]⟩
     .exact .inl z
    .by_cases q:x=n
     .exact .inr ⟨_,by rw[lk,if_pos q]⟩
     .exact .inr (by rw[lk,if_neg q];exact hx)
   .rcases Oh.mp hx with z|z
    .have q:x=n:=(T4 z).1;rcases c1 x c e with y|y
     .rw[lk,if_pos q]at y;cases y;exact Ou _
     .exact Sz y.1
    .exact Sz (c5 x c z e)
  .have hb:¬ (k == Qh)=ZC:=λz=>hk (by simpa using z);rw[if_neg hb,if_neg hb];obtain⟨c1,c2,c3,c4,c5⟩:=ni r h acc hi hl;exact⟨c1,c2,λx hx=>c3 x λz=>hx (N9 _ z),λx hx=>c4 x (hx.imp (λz=>(Oh.mp z).resolve_left λz=>hk (T4 z).2.symm) id),λx c hx=>c5 x c ((Oh.mp hx).resolve_left λz=>hk (T4 z).2.symm)⟩
def AR{globals:ZE}{cl:List (Str×ZE)}{Q:Env->Oe->Prop}
  (q:Q (newEnv scope s.heap.objs.size globals (QX (s.heap.objs.size+1) scope.names cl) qual ZB .none (ZA env) Sb) {s with heap:=UQ (s.heap.push {cls:=.type "dict",data:=.dict #[]}) scope.names}):
  ZJ M A (newFunctionEnv scope globals cl [] qual ZB .none (ZA env)) Q E s:=by
 simp only[newFunctionEnv,Vz,if_true];refine N8 (wpAny_alloc (N8 (wpAny_layCells _ (λname kind cells=>by cases hkc:kind == Qh <;> simp[hkc]) _ _ _ _ ?_)));rw[show({s with heap:=s.heap.push {cls:=.type "dict",data:=.dict #[]}}:Oe).heap.objs.size=s.heap.objs.size+1 from RA ..];rw[List.forIn_nil];exact N8 (Om (Om q))
def zU{fpos:Pos}{src:List (Option Nat)}{use:Option (Ob->Sem Unit)}{Qf:WP}
  {kw:Uf}  {σ:St} {H:Hp} {Q:VK}
  (hc:X.calm=ZC) (S:LcScope X scope N' src) (hi:PI X tg iter wi)
  (block:∀cl C s₀ H₀ fp,PG (cA X scope cl N' C s₀ H₀ fp) tg g/\BJ (cA X scope cl N' C s₀ H₀ fp) ifs tc/\PE (cA X scope cl N' C s₀ H₀ fp) elt te)
  (hs:∀x,Pj iter X.env x=pure x) (I:Inv X kw σ H s) (h:Il X.K wi src g tc te σ H Q)
  (hend:∀(D C:ZE)(H':Hp)(s':Oe),(∃m,s'.heap.Ns C m)->(∀h',SI C s'.heap h'->Inv X kw σ H' {s' with heap:=h'})->(H' C=ZB/\C≠X.env.locals/\X.s₀.heap.objs.size<=C/\(∀x c,X.env.cells.lookup x=ZA c->c≠C)/\∀p∈X.pn++kw,p.1≠C)->Q (.ref D) H' ->
   compPost (ZK X.prog X.w) X.A X.xe use Qf (.ref D) C (.ok .next) s'):
  ZJ (ZK X.prog X.w) X.A (comprehension (.ListComp elt [⟨tg,iter,ifs,0⟩] scope pos) scope X.env fpos (newList []) ZD (eval iter X.env) use) Qf X.xe s:=by
 have hcell:∀x,(x,Pm)∈scope.names->∃c,X.env.cells.lookup x=ZA c:=λx hx=>I.ok.has x (S.free x hx);obtain⟨cl0,hcl,cl01,cl02⟩:=yP (env:=X.env) (scope:=scope) hcell;refine wpAny_comprehension_free (use:=use) rfl hs hcl S.kind S.loc (cL (hi kw s σ H _ I h) λv s1 h1=>cL h1 λitv s2 h2=>?_);refine hold λG' gg=>?_;obtain⟨it,fp,tn,J,H2,e,I2,T,st2,f2,hq⟩:=h2;subst e;refine gg ?_;clear gg G';refine Pu ?_;have hD:H2 s2.heap.objs.size=ZB:=I2.hok.fresh (Ou _);have hDK:X.K.lookup s2.heap.objs.size=ZB:=by
  cases q:X.K.lookup s2.heap.objs.size with
  |none=>rfl
  |some o=>exact absurd (Ov (I2.kIn _ o q)) (Pa _)
 obtain⟨W,⟨m0,w0⟩,turn⟩:=hq s2.heap.objs.size hD hDK;have I3:=I2.NL (its:=[]) (ys:=[]) (t':=s2.toks) .nil (Pk _);generalize hs3:({s2 with heap:=s2.heap.push {cls:=.type "list",data:=.seq ([]:List Ob).toArray},toks:=s2.toks}:Oe)=s3 at I3;generalize hH3:upd H2 s2.heap.objs.size (.lst [])=H3 at I3 w0;have hDsz:s2.heap.objs.size<s3.heap.objs.size:=by rw[<-hs3];simp[RA]
 have fr3:∀b∈fp,H3 b=ZB:=λb hb=>by obtain⟨o,eo,_⟩:=T.obj _ _ st2 b hb;rw[<-hH3,aG (O8 (Ov eo))];exact(f2 b hb).1
 have st3:tn 0 s3.heap:=T.keep _ _ _ st2 λb hb o e=>by rw[<-hs3];exact Oi _ e
 have f3:∀b∈fp,qR X kw H3 b:=λb hb=>⟨fr3 b hb,(f2 b hb).2⟩;have D3:H3 s2.heap.objs.size=ZA (.lst []):=by rw[<-hH3];exact aI
 generalize s2.heap.objs.size=D at*;clear hs3 hH3 hD hDK;refine AR ?_;have old:∀b o,s3.heap.get? b=ZA o->(UQ (s3.heap.push {cls:=.type "dict",data:=.dict #[]}) scope.names).get? b=ZA o:=λb o e=>UR _ _ b o (Oi _ e);have hns₁:(UQ (s3.heap.push {cls:=.type "dict",data:=.dict #[]}) scope.names).Ns s3.heap.objs.size (λ_=>ZB):=(Heap.Ns.new s3.heap (.type "dict")).keeps (UR _ _);have hz3:(s3.heap.push {cls:=.type "dict",data:=.dict #[]}).objs.size=s3.heap.objs.size+1:=RA ..;have lt0:∀x c,cl0.lookup x=ZA c->c<s3.heap.objs.size:=λx c e=>let ⟨_,ic⟩:=I3.cell x c (cl01 x c e);ic.lt;refine hold λG' gg=>?_;obtain⟨c1,c2,c3,c4,c5⟩:=ni scope.names (s3.heap.push {cls:=.type "dict",data:=.dict #[]}) cl0 (λx y c e1 e2=>I3.ok.inj x y c (cl01 x c e1) (cl01 y c e2)) λx c e=>by rw[hz3];exact RN (lt0 x c e)
 refine gg ?_;clear gg G';rw[hz3]at c1 c2 c3 c4 c5;generalize hcl':QX (s3.heap.objs.size+1) scope.names cl0=cl at*;generalize hh₁:UQ (s3.heap.push {cls:=.type "dict",data:=.dict #[]}) scope.names=h₁ at*;have below:∀b o,s3.heap.get? b=ZA o->b≠s3.heap.objs.size:=λb o e=>O8 (Ov e);have cl1:∀x c,cl.lookup x=ZA c->X.env.cells.lookup x=ZA c\/(s3.heap.objs.size<c/\h₁.IsCell c ZB):=λx c e=>(c1 x c e).imp (cl01 x c) id;generalize hC:s3.heap.objs.size=C at*;have stk:∀b,b≠X.env.locals->b∉X.fs->b∉kG X.stack:=λb h1 h2 z=>(Oh.mp (I3.Nk b z)).elim h1 h2;have apart:∀b∈fp,∀x c,cl.lookup x=ZA c->c≠b:=λb hb x c e=>by
  rcases cl1 x c e with z|z
  .exact(f3 b hb).2.2.2.2.1 x c z
  .obtain⟨o,eo,_⟩:=T.obj _ _ st3 b hb;have h1:=Ov eo;rw[hC]at h1;exact QH (UD h1 z.1)
 have I4:Inv (cA X scope cl N' C s3 H3 fp) kw (gH src σ) H3 {s3 with heap:=h₁}:=by
  refine⟨⟨I3.ok.mod,S.kind,I3.ok.glob,I3.ok.blt,R9 hC,c2,λx hx=>?_,λx c hx e=>Qc (hC▸c5 x c (kr (beq_iff_eq.mp hx)) e),I3.ok.hd,I3.ok.frames,.inl rfl,
    λb hb=>⟨?_,λx c e=>apart b hb x c e⟩,I3.bs,OJ I3.ok.bsz I3.sz,λb o e z=>?_,λb hb=>stk b (f3 b hb).2.1 (f3 b hb).2.2.1,I3.stack,I3.IR,I3.tb⟩,
   rfl,I3.bare,Un.kept old,⟨_,hns₁,λj x v e1 e2 e3=>?_⟩,λx c e=>?_,I3.hok.fresh (R9 hC),λx c e=>(cl1 x c e).elim (I3.freeC x c) λz=>I3.hok.fresh (by rw[hC];exact Qc z.1),λp hp=>?_,I3.hok.kept old,?_⟩
  .have key:∀k,(relabel scope X.env).names.lookup x=ZA k->(k=.cell\/k=.free)->∃c,cl.lookup x=ZA c:=λk e hk=>by
    obtain⟨k',e',z⟩:=jP e;have hk':k'=.cell\/k'=.free:=z.elim (λz=>z▸hk) .inr;rcases hk' with q|q
    .exact c4 x (.inl (q▸kr e'))
    .exact c4 x (.inr (cl02 x (q▸kr e')))
   rcases hx with hx|hx
   .exact key _ hx (.inl rfl)
   .exact key _ hx (.inr rfl)
  .obtain⟨o,eo,_⟩:=T.obj _ _ st3 b hb;show b≠C;exact below b o eo
  .have z':b∈fp:=z;obtain⟨_,_,_,z1,_⟩:=f3 b z';rcases z1 with z1|z1
   .exact I3.ok.noex b o e z1
   .exact absurd (Ot (Ov (I3.ok.bs b o e).1) z1) (Pa _)
  .unfold gH at e2;rw[Ox]at e2;cases q:src[j]? with
   |none=>rw[q]at e2;simp at e2
   |some o=>
    rw[q]at e2;cases o with
    |none=>simp at e2
    |some i=>
     have e2':(σ[i]?).join=ZA v:=by simpa using e2
     have e2'':σ[i]?=ZA (ZA v):=by
      cases q2:σ[i]? with
      |none=>rw[q2]at e2';simp at e2'
      |some z=>rw[q2]at e2';simp at e2';rw[e2']
     obtain⟨hN,hfree⟩:=S.from_ j i x q e1;have hm:=kr hfree;have hk:=S.free x hm;obtain⟨m,hn,hl⟩:=I3.loc;have hv:uZ X.env.scope x:=by
      rcases hk with z|z
      .exact .inr (.inl z)
      .exact .inr (.inr z)
     obtain⟨u,r,l⟩:=hl i x v hN e2'' hv;refine⟨u,r,.inr ⟨?_,?_⟩⟩
     .exact jA hfree
     .rcases l with⟨z,_⟩|⟨_,c,ec,ic⟩
      .rcases hk with z'|z' <;> rw[z']at z <;> cases z
      .obtain⟨c',ec0⟩:=cl02 x hm;have ec':cl.lookup x=ZA c':=(c3 x λz=>by have:=S.cel _ z rfl;rw[hfree]at this;cases this).trans ec0;have:=cl01 x c' ec0;rw[ec]at this;cases this;obtain⟨o,ho,hd⟩:=ic;exact⟨c,ec',o,old _ _ ho,hd⟩
  .rcases cl1 x c e with z|z
   .obtain⟨v,o,ho,hd⟩:=I3.cell x c z;exact⟨v,o,old _ _ ho,hd⟩
   .exact⟨ZB,z.2⟩
  .obtain⟨e,n,ne,nf,d⟩:=I3.pin p hp;exact⟨old _ _ e,n,below _ _ e,stk _ ne nf,d⟩
  .show(gH src σ).length=N'.length;unfold gH;rw[Oc];exact S.len
 obtain⟨bG,bI,bE⟩:=block cl C s3 H3 fp;have stat:∀{H':Hp},(∀b∈fp,H' b=ZB)->∀b∈fp,qR (cA X scope cl N' C s3 H3 fp) kw H' b:=λhn b hb=>by obtain⟨o,eo,_⟩:=T.obj _ _ st3 b hb;exact⟨hn b hb,below b o eo,stk b (f3 b hb).2.1 (f3 b hb).2.2.1,.inl hb,apart b hb,(f3 b hb).2.2.2.2.2⟩
 have st4:tn 0 h₁:=T.keep _ _ _ st3 λb hb o e=>old b o e;have after:∀(H':Hp)(s':Oe)(σ':St),Inv (cA X scope cl N' C s3 H3 fp) kw σ' H' s'->Q (.ref D) H' ->
   compPost (ZK X.prog X.w) X.A X.xe use Qf (.ref D) C (.ok .next) s':=λH' s' σ' I' q=>by
  obtain⟨m,hn,_⟩:=id I'.loc;have fC:X.s₀.heap.objs.size<=C:=by rw[<-hC];exact I3.sz
  have ltC:∀b o,s3.heap.get? b=ZA o->b<C:=λb o e=>by rw[<-hC];exact Ov e
  refine hend D C H' s' ⟨m,hn⟩ (λh' hsb=>?_) ⟨I'.free,?_,fC,λx c e z=>?_,λp hp z=>?_⟩ q
  rotate_left
  .have:=I3.lt;rw[hC]at this;exact QH this
  .obtain⟨v,ic⟩:=I3.cell x c e;have:=ic.lt;rw[hC,z]at this;exact Pa _ this
  .have:=ltC _ _ (I3.pin p hp).1;rw[z]at this;exact Pa _ this
  have u:Un (kG X.stack) fp H3 H' s3.heap s'.heap:=I'.base;have lift:∀b o,s3.heap.get? b=ZA o->∀o',s'.heap.get? b=ZA o'->h'.get? b=ZA o':=λb o e o' e'=>hsb.extBut b o' (below b o e) e';have u':Un (kG X.stack) fp H3 H' s3.heap h':=
   ⟨λb o e n hb hx=>lift b o e o (u.keep b o e n hb hx),λb o e n hb hx=>by
     obtain⟨sl,z⟩:=u.slot b o e n hb hx;exact⟨sl,lift b o e _ z⟩,u.free,λb o e hx=>by
     obtain⟨o',z⟩:=u.there b o e hx;exact⟨o',lift b o e _ z⟩,u.tups,u.frzs,u.tbls⟩
  have hCn:H' C=ZB:=I'.free;have hok':HOk X.prog X.w H' h':=λb ob e=>by
   refine(I'.hok b ob e).M6 (λc w' hc' q'=>(hsb.2 c ?_).trans q') (λ_ q=>q) λ_ _ q=>q;rintro rfl;rcases hc' with rfl|hc'
   .rw[hCn]at e;cases e
   .rw[hCn]at hc';cases hc'
  have I5:Inv X kw σ H' {s' with heap:=h'}:=I3.Nt (s':={s' with heap:=h'}) (ch:=fp) I'.os u' hok' I'.bare λb hb=>⟨(f3 b hb).2.2.2.1,(f3 b hb).2.1,(f3 b hb).2.2.2.2.1,(f3 b hb).2.2.2.2.2⟩;exact I5
 have loop:ZL (ZK X.prog X.w) X.A (.compLoop (.ListComp elt [⟨tg,iter,ifs,0⟩] scope pos) 0 (.ref it) (.ref D) (compEnvC scope cl C X.env))
   (compPost (ZK X.prog X.w) X.A X.xe use Qf (.ref D) C) {s3 with heap:=h₁}:=by
  refine uR (λn s'=>∃i σ' ys H',Inv (cA X scope cl N' C s3 H3 fp) kw σ' H' s'/\tn i s'.heap/\(∀b∈fp,H' b=ZB)/\W i n σ' ys H') ?_ m0 ⟨0,_,[],H3,I4,st4,fr3,w0⟩;rintro n s5 ⟨i,σ5,ys,H5,I5,st5,fr5,w5⟩;obtain⟨hDl,alt⟩:=turn i n σ5 ys H5 w5;rcases alt with⟨stop,qn⟩|⟨go,hlen,step⟩
  .refine cL (T.done (cA X scope cl N' C s3 H3 fp) rfl rfl rfl hc i kw s5 σ5 H5 _ I5 (stat fr5) st5 stop) λr s6 ⟨hr,I6⟩=>?_;subst hr;exact after H5 s6 σ5 I6 qn
  .refine cL (T.item (cA X scope cl N' C s3 H3 fp) rfl rfl rfl hc i kw s5 σ5 H5 _ I5 (stat fr5) st5 go) λr s6 ⟨u,hr,h6⟩=>?_;subst hr;refine cL h6 λ_ s7 hh_=>?_;obtain⟨x,H7,I7,r7,y7,st7,fr7⟩:=hh_;have I7':=I7.pinned (stat fr7) (T.obj _ _ st7);refine cL (bG _ s7 σ5 H7 x u _ I7' r7 (step x H7 y7)) λ_ s8 hh_=>?_;obtain⟨σ8,H8,I8,q8⟩:=hh_;refine cL (bI _ s8 σ8 H8 _ I8 q8) λok s9 hh_=>?_;obtain⟨H9,I9,q9⟩:=hh_;have again:∀{σx:St}{Hx:Hp}{sx:Oe}{ys':List V},Inv (cA X scope cl N' C s3 H3 fp) (kw++pE fp s7.heap) σx Hx sx->(∃m',m'<n/\W (i+1) m' σx ys' Hx) ->
     ∃m,m<n/\∃i σ' ys H',Inv (cA X scope cl N' C s3 H3 fp) kw σ' H' sx/\tn i sx.heap/\(∀b∈fp,H' b=ZB)/\W i m σ' ys H':=λ{σx Hx sx ys'} Ix nx=>by
    obtain⟨m',hm,wx⟩:=nx;refine⟨m',hm,i+1,σx,ys',Hx,Ix.M5,T.keep _ _ _ st7 λb hb o e=>(Ix.pin (b,o) (OL _ (OL _ (jb hb e)))).1,λb hb=>?_,wx⟩;obtain⟨o,e,d⟩:=T.obj _ _ st7 b hb;exact(Ix.pin (b,o) (OL _ (OL _ (jb hb e)))).2.1
   cases ok with
   |false=>
    rw[if_neg OG]at q9 ⊢;exact again I9 q9
   |true=>
    rw[if_pos rfl]at q9 ⊢;refine cL (bE _ s9 σ8 H9 _ I9 q9) λv s10 hh_=>?_;obtain⟨y,H10,I10,r10,hD10,q10⟩:=hh_;refine cL (rZ _ s10 σ8 H10 (.ref D) [y] (.ref D) [v] (λ_ H'=>H'=upd H10 D (.lst (ys++[y]))) I10 rfl (.cons r10 .nil) ⟨D,ys,y,rfl,rfl,hD10,hlen,rfl⟩) λ_ s11 hh_=>?_;obtain⟨_,H11,I11,_,e11⟩:=hh_;subst e11;exact again I11 q10
 exact codeAny_compStart_list loop (T.self _ 0 _ _ _ st4 loop)
def vS{src:List (Option Nat)}
  (hc:X.calm=ZC) (S:LcScope X scope N' src) (hi:PI X tg iter wi)
  (block:∀cl C s₀ H₀ fp,PG (cA X scope cl N' C s₀ H₀ fp) tg g/\BJ (cA X scope cl N' C s₀ H₀ fp) ifs tc/\PE (cA X scope cl N' C s₀ H₀ fp) elt te)
  (hs:autoParam (∀x,Pj iter X.env x=pure x) t_):
  PE X (.ListComp elt [⟨tg,iter,ifs,0⟩] scope pos) (Il X.K wi src g tc te):=by
 intro kw s σ H Q I h;rw[eval_ListComp];exact zU (use:=ZB) hc S hi block hs I h λD C H' s' ⟨m,hn⟩ inv _ q=>⟨m,hn,λh' hsb=>⟨.ref D,H',inv h' hsb,rfl,q⟩⟩
def LA{py spos:Pos}{src:List (Option Nat)}{i:Nat}{y:Str}
  (hc:X.calm=ZC) (S:LcScope X scope N' src) (hi:PI X tg iter wi)
  (block:∀cl C s₀ H₀ fp,PG (cA X scope cl N' C s₀ H₀ fp) tg g/\BJ (cA X scope cl N' C s₀ H₀ fp) ifs tc/\PE (cA X scope cl N' C s₀ H₀ fp) elt te)
  (hN:X.N.Nodup) (hiy:X.N[i]?=ZA y) (hy:Loc X.env.scope y) (hsw:P7 (.ListComp elt [⟨tg,iter,ifs,0⟩] scope pos) (ZA (.Name y py)) spos.line X.env=pure ZC)
  (hf:X.fn y=ZC\/X.env.scope.names.lookup y=ZA .local) (hs:autoParam (∀x,Pj iter X.env x=pure x) t_):
  PS X (.Assign [.Name y py] (.ListComp elt [⟨tg,iter,ifs,0⟩] scope pos) spos) (B2 (Il X.K wi src g tc te) (DZ i)):=by
 intro kw s σ H D I h;rw[exec_Assign_Name_used _ _ _ _ hsw];refine N8 (wpAny_standAt (N8 ?_));show ZJ (ZK X.prog X.w) X.A (do let _ <-comprehension (.ListComp elt [⟨tg,iter,ifs,0⟩] scope pos) scope X.env _ (newList []) ZD (eval iter X.env) (ZA (assign (.Name y py) X.env))) _ _ s;refine N8 (cL (zU (use:=ZA (assign (.Name y py) X.env)) (Qf:=λ_ s'=>SP X kw D .next s') (Q:=λv H'=>D.nx (σ.set i (ZA v)) H') hc S hi block hs I h λL C H' s' ⟨m,hn⟩ inv ⟨c0,c1,c2,c3,c4⟩ q=>?_) λ_ s' hq=>Om (Om hq));have I0:Inv X kw σ H' s':=inv s'.heap (Heap.SameBut.refl ..);show ZJ (ZK X.prog X.w) X.A (assign (.Name y py) X.env (.ref L)) _ _ s';refine Wl (rK I0 hN hiy hy (v:=.ref L) rfl (λs2 I2 ⟨b,sb,hb⟩=>?_) hf);have hbC:C≠b:=by
  rcases hb with z|z
  .rw[z];exact c1
  .exact λw=>c3 y b z w.symm
 refine⟨m,hn.sameBut sb hbC,λh' hsb=>?_⟩;exact⟨_,H',I2.turned (t':=s2.toks) (λb' o hb' e=>(hsb.2 b' hb').trans e) c0 c1 (.inr c2) c3 c4,q⟩
end L2
namespace Tr
open PySem PySem.Spec PyProof.Rows L2
noncomputable def HG:T->Option Key
 |.int i=>ZA (.inl i)
 |.str x=>ZA (.inr x)
 |_=>ZB
noncomputable def qu:List T->Option (List Key)
 |[] =>ZA []
 |t::l=>match HG t,qu l with
  |some k,ZA r=>ZA (k::r)
  |_,_=>ZB
def keyOf:T->Option (List Key)
 |.tup l=>qu l
 |_=>ZB
@[simp] theorem aH {α β:Type} (a:α) (f:α->Rs β):(Rs.ok a >>= f)=f a:=rfl
@[simp] theorem MR {α:Type} (a:α):(pure a:Rs α)=Rs.ok a:=rfl
@[simp] theorem My {α β:Type} (f:α->Rs β):((Rs.bad:Rs α) >>= f)=.bad:=rfl
@[simp] theorem Mr {α β:Type} (c:Str) (f:α->Rs β):((Rs.err c:Rs α) >>= f)=.err c:=rfl
mutual
def Rep(K:N7)(O:Ow)(H:Hp):T->V->Prop
 |.non,v=>v=.non
 |.bl b,v=>v=.bl b
 |.int i,v=>v=.int i
 |.str x,v=>v=.str x
 |.tup l,v=>∃a vs,v=.ref a/\¬ O a/\H a=ZA (.tup vs)/\Reps K O H l vs
 |.lst l,v=>∃a vs,v=.ref a/\¬ O a/\H a=ZA (.lst vs)/\Reps K O H l vs
 |.scr l,v=>∃a,v=.ref a/\¬ O a/\SqL K H a (l.map V.int)
 |.dct ks ts,v=>∃a kvs,v=.ref a/\¬ O a/\Rd H a (.dT kvs)/\ks.map keyOf=kvs.map (λp=>ZA p.1)/\Reps K O H ts (kvs.map (·.2))
def Reps(K:N7)(O:Ow)(H:Hp):List T->List V->Prop
 |[],vs=>vs=[]
 |t::r,vs=>∃v ws,vs=v::ws/\Rep K O H t v/\Reps K O H r ws
end
def SameO(P:Ow)(H H':Hp):Prop:=∀b o,H b=ZA o->¬ P b->H' b=ZA o
variable{H H':Hp}{P:Ow}
def SameO.of(h:Same H H'):SameO P H H':=λb o e _=>h b o e
variable{a:ZE}
def Rd.NI{u:HO}(h:SameO P H H')(n:¬ P a)(q:Rd H a u):Rd H' a u:=q.elim (λe=>.inl (h _ _ e n)) λ⟨o,e⟩=>.inr ⟨o,h _ _ e n⟩
variable{vs:List V}
def SqL.keep(h:SameO P H H')(n:¬ P a)(q:SqL K H a vs):SqL K H' a vs:=by
 rcases q with(q|⟨o,q⟩)|q
 .exact .inl (.inl (h _ _ q n))
 .exact .inl (.inr ⟨o,h _ _ q n⟩)
 .exact .inr q
mutual
theorem Rep.keep{K:N7}{O P:Ow}{H H':Hp}(h:SameO P H H')(sub:∀a,P a->O a):∀{t:T}{v:V},Rep K O H t v->Rep K O H' t v
 |.non,_,r=>by unfold Rep at r ⊢;exact r
 |.bl _,_,r=>by unfold Rep at r ⊢;exact r
 |.int _,_,r=>by unfold Rep at r ⊢;exact r
 |.str _,_,r=>by unfold Rep at r ⊢;exact r
 |.tup l,_,r=>by unfold Rep at r ⊢;obtain⟨a,vs,e,n,q,z⟩:=r;exact⟨a,vs,e,n,h _ _ q (λp=>n (sub a p)),Reps.keep h sub z⟩
 |.lst l,_,r=>by unfold Rep at r ⊢;obtain⟨a,vs,e,n,q,z⟩:=r;exact⟨a,vs,e,n,h _ _ q (λp=>n (sub a p)),Reps.keep h sub z⟩
 |.scr l,_,r=>by unfold Rep at r ⊢;obtain⟨a,e,n,q⟩:=r;exact⟨a,e,n,SqL.keep h (λp=>n (sub a p)) q⟩
 |.dct ks ts,_,r=>by unfold Rep at r ⊢;obtain⟨a,kvs,e,n,q,k,z⟩:=r;exact⟨a,kvs,e,n,Rd.NI h (λp=>n (sub a p)) q,k,Reps.keep h sub z⟩
theorem Reps.keep{K:N7}{O P:Ow}{H H':Hp}(h:SameO P H H')(sub:∀a,P a->O a):∀{l:List T}{vs:List V},Reps K O H l vs->Reps K O H' l vs
 |[],_,r=>by unfold Reps at r ⊢;exact r
 |t::l,_,r=>by unfold Reps at r ⊢;obtain⟨v,ws,e,p,q⟩:=r;exact⟨v,ws,e,Rep.keep h sub p,Reps.keep h sub q⟩
end
mutual
theorem Rep.less{K:N7}{O O':Ow}{H:Hp}(sub:∀a,O' a->O a):∀{t:T}{v:V},Rep K O H t v->Rep K O' H t v
 |.non,_,r=>by unfold Rep at r ⊢;exact r
 |.bl _,_,r=>by unfold Rep at r ⊢;exact r
 |.int _,_,r=>by unfold Rep at r ⊢;exact r
 |.str _,_,r=>by unfold Rep at r ⊢;exact r
 |.tup l,_,r=>by unfold Rep at r ⊢;obtain⟨a,vs,e,n,q,z⟩:=r;exact⟨a,vs,e,λp=>n (sub a p),q,Reps.less sub z⟩
 |.lst l,_,r=>by unfold Rep at r ⊢;obtain⟨a,vs,e,n,q,z⟩:=r;exact⟨a,vs,e,λp=>n (sub a p),q,Reps.less sub z⟩
 |.scr l,_,r=>by unfold Rep at r ⊢;obtain⟨a,e,n,z⟩:=r;exact⟨a,e,λp=>n (sub a p),z⟩
 |.dct ks ts,_,r=>by unfold Rep at r ⊢;obtain⟨a,kvs,e,n,q,k,z⟩:=r;exact⟨a,kvs,e,λp=>n (sub a p),q,k,Reps.less sub z⟩
theorem Reps.less{K:N7}{O O':Ow}{H:Hp}(sub:∀a,O' a->O a):∀{l:List T}{vs:List V},Reps K O H l vs->Reps K O' H l vs
 |[],_,r=>by unfold Reps at r ⊢;exact r
 |t::l,_,r=>by unfold Reps at r ⊢;obtain⟨v,ws,e,p,q⟩:=r;exact⟨v,ws,e,Rep.less sub p,Reps.less sub q⟩
end
variable{O:Ow}{l:List T}{v:V}
section
variable {t:T}
def Rep.same(h:Same H H')(r:Rep K O H t v):Rep K O H' t v:=Rep.keep (P:=λ_=>False) (SameO.of h) (λ_ z=>z.elim) r
def Reps.same(h:Same H H')(r:Reps K O H l vs):Reps K O H' l vs:=Reps.keep (P:=λ_=>False) (SameO.of h) (λ_ z=>z.elim) r
def Rep.NF:Rep K O H .non .non:=by unfold Rep;rfl
def Rep.bl_(b:Bool):Rep K O H (.bl b) (.bl b):=by unfold Rep;rfl
def Rep.GE(i:Int):Rep K O H (.int i) (.int i):=by unfold Rep;rfl
def Rep.NO(x:Str):Rep K O H (.str x) (.str x):=by unfold Rep;rfl
def Rep.Fk:Rep K O H (.tup l) v↔ ∃a vs,v=.ref a/\¬ O a/\H a=ZA (.tup vs)/\Reps K O H l vs:=by unfold Rep;exact Ta
def Rep.Do:Rep K O H (.lst l) v↔ ∃a vs,v=.ref a/\¬ O a/\H a=ZA (.lst vs)/\Reps K O H l vs:=by unfold Rep;exact Ta
def Rep.FS{ks ts:List T}:Rep K O H (.dct ks ts) v↔ ∃a kvs,v=.ref a/\¬ O a/\Rd H a (.dT kvs)/\ks.map keyOf=kvs.map (λp=>ZA p.1)/\Reps K O H ts (kvs.map (·.2)):=by unfold Rep;exact Ta
def Rep.AC:Rep K O H (.int i) v↔v=.int i:=by unfold Rep;exact Ta
def Rep.FM:Rep K O H (.bl b) v↔v=.bl b:=by unfold Rep;exact Ta
def Rep.GT{b:Str}:Rep K O H (.str b) v↔v=.str b:=by unfold Rep;exact Ta
def Rep.M7:Rep K O H .non v↔v=.non:=by unfold Rep;exact Ta
def Reps.GM:Reps K O H [] []:=by unfold Reps;rfl
def Reps.Gc(r:Rep K O H t v)(q:Reps K O H l vs):Reps K O H (t::l) (v::vs):=by unfold Reps;exact⟨v,vs,rfl,r,q⟩
def Reps.Da:Reps K O H [] vs↔vs=[]:=by unfold Reps;exact Ta
def Reps.me:Reps K O H (t::l) vs↔ ∃v ws,vs=v::ws/\Rep K O H t v/\Reps K O H l ws:=by
 constructor
 .intro h;unfold Reps at h;exact h
 .intro h;unfold Reps;exact h
end
theorem Reps.length:∀{l:List T}{vs:List V},Reps K O H l vs->l.length=vs.length
 |[],vs,r=>by rw[Reps.Da.mp r];rfl
 |t::l,vs,r=>by obtain⟨v,ws,rfl,_,q⟩:=Reps.me.mp r;simp[q.length]
theorem Reps.get:∀{l:List T}{vs:List V}{i:Nat}{t:T},Reps K O H l vs->l[i]?=ZA t->∃v,vs[i]?=ZA v/\Rep K O H t v
 |[],_,_,_,_,e=>by simp at e
 |t::l,vs,i,u,r,e=>by
  obtain⟨v,ws,rfl,p,q⟩:=Reps.me.mp r;cases i with
  |zero=>simp at e;subst e;exact⟨v,rfl,p⟩
  |succ i=>
   obtain⟨z,e1,e2⟩:=q.get (i:=i) (t:=u) (by simpa using e);exact⟨z,by simpa using e1,e2⟩
theorem Reps.append:∀{l m:List T}{vs ws:List V},Reps K O H l vs->Reps K O H m ws->Reps K O H (l++m) (vs++ws)
 |[],_,vs,_,r,s=>by rw[Reps.Da.mp r];exact s
 |t::l,m,vs,ws,r,s=>by obtain⟨v,us,rfl,p,q⟩:=Reps.me.mp r;exact Reps.Gc p (q.append s)
theorem Reps.take:∀{l:List T}{vs:List V}(n:Nat),Reps K O H l vs->Reps K O H (l.take n) (vs.take n)
 |_,_,0,_=>Reps.GM
 |[],vs,n+1,r=>by rw[Reps.Da.mp r];exact Reps.GM
 |t::l,vs,n+1,r=>by obtain⟨v,us,rfl,p,q⟩:=Reps.me.mp r;exact Reps.Gc p (q.take n)
theorem Reps.drop:∀{l:List T}{vs:List V}(n:Nat),Reps K O H l vs->Reps K O H (l.drop n) (vs.drop n)
 |_,_,0,r=>r
 |[],vs,n+1,r=>by rw[Reps.Da.mp r];exact Reps.GM
 |t::l,vs,n+1,r=>by obtain⟨v,us,rfl,p,q⟩:=Reps.me.mp r;exact q.drop n
theorem Reps.ints:∀{ns:List Int},Reps K O H (ns.map T.int) (ns.map V.int)
 |[] =>Reps.GM
 |n::r=>Reps.Gc (Rep.GE n) Reps.ints
theorem Reps.Nr:∀{ns:List Int}{vs:List V},Reps K O H (ns.map T.int) vs->vs=ns.map V.int
 |[],vs,r=>Reps.Da.mp r
 |n::r,vs,q=>by obtain⟨v,us,rfl,p,q⟩:=Reps.me.mp q;rw[Rep.AC.mp p,Reps.Nr q];rfl
def RowsR(K:N7)(O:Ow)(H:Hp):List (List T×List T)->List ZE->Prop
 |[],as=>as=[]
 |r::rs,as=>∃b bs kvs,as=b::bs/\H b=ZA (.dT kvs)/\r.1.map keyOf=kvs.map (λp=>ZA p.1)/\Reps K O H r.2 (kvs.map (·.2))/\RowsR K O H rs bs
def ORep(K:N7)(O M:Ow)(H:Hp):OT->V->Prop
 |.lst l,v=>∃a vs,v=.ref a/\(∀b,M b↔b=a)/\H a=ZA (.lst vs)/\Reps K O H l vs
 |.dct ks ts,v=>∃a kvs,v=.ref a/\(∀b,M b↔b=a)/\H a=ZA (.dT kvs)/\ks.map keyOf=kvs.map (λp=>ZA p.1)/\Reps K O H ts (kvs.map (·.2))
 |.dd ks rows,v=>∃a kvs as,v=.ref a/\(∀b,M b↔b=a\/b∈as)/\a∉as/\as.Nodup/\H a=ZA (.dT kvs)/\ks.map keyOf=kvs.map (λp=>ZA p.1)/\kvs.map (·.2)=as.map V.ref/\RowsR K O H rows as
def Mtb(H:Hp)(a:ZE):Prop:=(∃vs,H a=ZA (.lst vs))\/∃kvs,H a=ZA (.dT kvs)
def Mtb.some(h:Mtb H a):∃o,H a=ZA o:=h.elim (λ⟨_,e⟩=>⟨_,e⟩) λ⟨_,e⟩=>⟨_,e⟩
def Mtb.same(s:Same H H')(h:Mtb H a):Mtb H' a:=h.elim (λ⟨vs,e⟩=>.inl ⟨vs,s _ _ e⟩) λ⟨k,e⟩=>.inr ⟨k,s _ _ e⟩
structure EnvM (K:N7)(O:Ow)(M:Mn)(H:Hp)(Z:En)(σ:L2.St):Prop where
 len:Z.length=σ.length
 val:∀(i:Nat)(t:T),Z[i]?=ZA (.va t)->∃v,σ[i]?=ZA (ZA v)/\Rep K O H t v
 own:∀(i:Nat)(o:OT),Z[i]?=ZA (.ow o)->∃v,σ[i]?=ZA (ZA v)/\ORep K O (M i) H o v
 sub:∀(i:Nat)(a:ZE),M i a->O a
 dis:∀(i j:Nat)(a:ZE),M i a->M j a->i=j
 trk:∀(a:ZE),O a->Mtb H a
theorem RowsR.same(h:Same H H'):∀{rs:List (List T×List T)}{as:List ZE},RowsR K O H rs as->RowsR K O H' rs as
 |[],_,r=>r
 |_::_,_,⟨b,bs,kvs,e1,e2,e3,e4,e5⟩=>⟨b,bs,kvs,e1,h _ _ e2,e3,e4.same h,e5.same h⟩
theorem ORep.same{M:Ow}(h:Same H H'){o:OT}(r:ORep K O M H o v):ORep K O M H' o v:=by
 cases o with
 |lst l=>obtain⟨a,vs,e1,e2,e3,e4⟩:=r;exact⟨a,vs,e1,e2,h _ _ e3,e4.same h⟩
 |dct ks ts=>obtain⟨a,kvs,e1,e2,e3,e4,e5⟩:=r;exact⟨a,kvs,e1,e2,h _ _ e3,e4,e5.same h⟩
 |dd ks rows=>obtain⟨a,kvs,as,e1,e2,e3,e4,e5,e6,e7,e8⟩:=r;exact⟨a,kvs,as,e1,e2,e3,e4,h _ _ e5,e6,e7,e8.same h⟩
variable{Z:En}{σ:L2.St}
theorem EnvM.same{M:Mn}(h:Same H H')(e:EnvM K O M H Z σ):EnvM K O M H' Z σ where
 len:=e.len
 val:=λi t q=>let ⟨v,e1,e2⟩:=e.val i t q;⟨v,e1,e2.same h⟩
 own:=λi o q=>let ⟨v,e1,e2⟩:=e.own i o q;⟨v,e1,e2.same h⟩
 sub:=e.sub
 dis:=e.dis
 trk:=λa q=>(e.trk a q).same h
def EnvO(K:N7)(O:Ow)(H:Hp)(Z:En)(σ:L2.St):Prop:=∃M,EnvM K O M H Z σ
variable{p:ZE}
theorem EnvO.val(e:EnvO K O H Z σ)(i:Nat)(t:T)(q:Z[i]?=ZA (.va t)):∃v,σ[i]?=ZA (ZA v)/\Rep K O H t v:=e.elim λ_ e=>e.val i t q
def EnvO.mtb(e:EnvO K O H Z σ):∀a,O a->Mtb H a:=e.elim λ_ e=>e.trk
def EnvO.trk(e:EnvO K O H Z σ)(a:ZE)(z:O a):∃o,H a=ZA o:=(e.mtb a z).some
theorem EnvO.same(h:Same H H')(e:EnvO K O H Z σ):EnvO K O H' Z σ:=e.elim λM e=>⟨M,e.same h⟩
def EnvO.fresh(e:EnvO K O H Z σ)(h:H p=ZB):¬ O p:=λz=>by obtain⟨o,q⟩:=e.trk p z;rw[h]at q;cases q
def ML(h:ZH)(C e:ZE):Option ZE->Prop
 |none=>∃oe vs,h.get? e=ZA oe/\oe.cls=.ref C/\oe.data=.fields vs/\vs[1]?=ZA .none
 |some T=>T≠e/\∃oe vs,h.get? e=ZA oe/\oe.cls=.ref C/\oe.data=.fields vs/\vs[1]?=ZA (.ref T)/\∃oT ts,h.get? T=ZA oT/\oT.data=.fields ts/\ts[3]?=ZA .none
def RzP(X:Cx)(kw:Uf)(P:Ow)(H:Hp)(c:Str)(ev:Ob)(s':Oe):Prop:=
 ∃e T C σ' H',ev=.ref e/\X.mg c=ZA (.ref C)/\Inv X kw σ' H' s'/\SameO P H H'/\H' e=ZB/\(X.ex=[]->X.s₀.heap.get? e=ZB)/\ML s'.heap C e T/\(∀t,T=ZA t->H' t=ZB/\(X.ex=[]->X.s₀.heap.get? t=ZB))/\∀p∈X.pn++kw,p.1≠e/\T≠ZA p.1
def Nw(K:N7)(H:Hp):Ow:=λa=>H a=ZB/\K.lookup a=ZB
variable{H1:Hp}
def ja(h:SameO P H H1)(n:Nw K H1 a):P a\/Nw K H a:=by
 by_cases hp:P a
 .exact .inl hp
 .refine .inr ⟨?_,n.2⟩;cases q:H a with
  |none=>rfl
  |some o=>have:=h a o q hp;rw[n.1]at this;cases this
def SameO.trans{P1:Ow}{H2:Hp}(h:SameO P H H1)(h1:SameO P1 H1 H2)(sub:∀a,P1 a->P a\/Nw K H a):SameO P H H2:=λb o e n=>
 h1 b o (h b o e n) λz=>(sub b z).elim n λw=>by rw[w.1]at e;cases e
def XA(X:Cx)(P:Ow)(H:Hp)(c:Str):Prop:=∀kw ev s',RzP X kw P H c ev s'->X.xe ev s'
variable{X:Cx}
def XA.later{P1:Ow}{c:Str}(h:XA X P H c)(s:SameO P H H1)(sub:∀a,P1 a->P a\/Nw X.K H a):XA X P1 H1 c:=λkw ev s' q=>by obtain⟨e,T,C,σ',H',a1,a2,a3,a4,a5⟩:=q;exact h kw ev s' ⟨e,T,C,σ',H',a1,a2,a3,s.trans a4 sub,a5⟩
abbrev zG:Ow:=λ_=>False
def Post{α:Type}(X:Cx)(H:Hp)(r:Rs α)(k:α->Hp->Prop):Prop:=match r with
 |.ok t=>∀H',Same H H'->k t H'
 |.err c=>XA X zG H c
 |.bad=>False
def Post.mono{r:Rs α}{k k':α->Hp->Prop}(h:Post X H r k)(f:∀t H',Same H H'->k t H'->k' t H'):Post X H r k':=by
 cases r with
 |ok t=>exact λH' s=>f t H' s (h H' s)
 |err c=>exact h
 |bad=>exact h
theorem Post.later{r:Rs α}{k:α->Hp->Prop}(h:Post X H r k)(s:Same H H1):Post X H1 r k:=by
 cases r with
 |ok t=>exact λH' s'=>h H' (s.trans s')
 |err c=>exact XA.later h (SameO.of s) λ_ z=>z.elim
 |bad=>exact h
def Post.bind{r:Rs α}{f:α->Rs β}{k:β->Hp->Prop}(h:Post X H (r >>= f) k):Post X H r λt H'=>Post X H' (f t) k:=by
 cases r with
 |ok t=>exact λH' s=>Post.later h s
 |err c=>exact h
 |bad=>exact h
def tP(X:Cx)(f:Y2):TE:=λσ H Q=>∃Z O,EnvO X.K O H Z σ/\Post X H (f Z) λt H'=>∀v,Rep X.K O H' t v->Q v H'
def tPA(X:Cx)(f:Y0):TA:=λσ H Q=>∃Z O,EnvO X.K O H Z σ/\Post X H (f Z) λt H'=>∀v,Reps X.K O H' t v->Q v H'
def B0(X:Cx)(f:Y3):TT:=λσ H Q=>∃Z O,EnvO X.K O H Z σ/\Post X H (f Z) λb H'=>Q b H'
abbrev c8(X:Cx)(e:ZG)(f:Y2):Prop:=PE X e (tP X f)
abbrev qT(X:Cx)(e:List ZG)(f:Y0):Prop:=PA X e (tPA X f)
abbrev xA(X:Cx)(e:ZG)(f:Y3):Prop:=PT X e (B0 X f)
variable{e:ZG}
def PE.imp{t t':TE}(h:PE X e t)(w:∀σ H Q,t' σ H Q->t σ H Q):PE X e t':=λkw s σ H Q I q=>h kw s σ H Q I (w σ H Q q)
def PA.imp{e:List ZG}{t t':TA}(h:PA X e t)(w:∀σ H Q,t' σ H Q->t σ H Q):PA X e t':=λpos kw s σ H Q I q=>h pos kw s σ H Q I (w σ H Q q)
def PT.imp{t t':TT}(h:PT X e t)(w:∀σ H Q,t' σ H Q->t σ H Q):PT X e t':=λkw s σ H Q I q=>h kw s σ H Q I (w σ H Q q)
def PS.imp{e:ZF}{t t':TS}(h:PS X e t)(w:∀D σ H,t' D σ H->t D σ H):PS X e t':=λkw s σ H D I q=>h kw s σ H D I (w D σ H q)
def PSs.imp{e:List ZF}{t t':TS}(h:PSs X e t)(w:∀D σ H,t' D σ H->t D σ H):PSs X e t':=λkw s σ H D I q=>h kw s σ H D I (w D σ H q)
variable{es:List ZG}{f:Y0}{pos:Pos}{x:Str}
def br{f:Y2}{k:T->Rs α}{Q:α->Hp->Prop}(E:EnvO X.K O H Z σ)(h:Post X H (f Z >>= k) Q):
  tP X f σ H λv H'=>∃t,Rep X.K O H' t v/\Same H H'/\EnvO X.K O H' Z σ/\Post X H' (k t) Q:=
 ⟨Z,O,E,Post.mono h.bind λt H' s q v r=>⟨t,r,s,E.same s,q⟩⟩
def eF{k:List T->Rs α}{Q:α->Hp->Prop}(E:EnvO X.K O H Z σ)(h:Post X H (f Z >>= k) Q):
  tPA X f σ H λv H'=>∃t,Reps X.K O H' t v/\Same H H'/\EnvO X.K O H' Z σ/\Post X H' (k t) Q:=
 ⟨Z,O,E,Post.mono h.bind λt H' s q v r=>⟨t,r,s,E.same s,q⟩⟩
def lI{f:Y3}{k:Bool->Rs α}{Q:α->Hp->Prop}(E:EnvO X.K O H Z σ)(h:Post X H (f Z >>= k) Q):
  B0 X f σ H λb H'=>Same H H'/\EnvO X.K O H' Z σ/\Post X H' (k b) Q:=
 ⟨Z,O,E,Post.mono h.bind λt H' s q=>⟨s,E.same s,q⟩⟩
noncomputable def vr(i:Nat)(Z:En):Rs T:=match Z[i]? with
 |some (.va t)=>.ok t
 |_=>.bad
def cn(t:T)(_:En):Rs T:=.ok t
def Cv(i:Nat)(hN:X.N[i]?=ZA x:=by rfl)(hv:autoParam (uZ X.env.scope x) u_)(hd:autoParam ((x == ("__debug__" : Str))=ZD) s_)
  (hcd:autoParam ((x == ("__classdict__" : Str))=ZD) s_):c8 X (.Name x pos) (vr i):=PE.imp (i9 hN hv hd hcd) λσ H Q hh_=>by
 obtain⟨Z,O,E,h⟩:=hh_;unfold vr at h;split at h
 .rename_i t e;obtain⟨v,e1,e2⟩:=E.val i t e;exact⟨v,e1,h H (Same.refl H) v e2⟩
 .exact h.elim
def Lv{i j pos}:c8 X (.Constant (.int i) j pos) (cn (.int i)):=PE.imp x5 λσ H Q ⟨Z,O,E,h⟩=>h H (Same.refl H) _ (Rep.GE i)
def q_bl{i j pos}:c8 X (.Constant (.bool i) j pos) (cn (.bl i)):=PE.imp CU λσ H Q ⟨Z,O,E,h⟩=>h H (Same.refl H) _ (Rep.bl_ i)
def Lr{j pos}:c8 X (.Constant .none j pos) (cn .non):=PE.imp CO λσ H Q ⟨Z,O,E,h⟩=>h H (Same.refl H) _ Rep.NF
def Ll{i j pos}:c8 X (.Constant (.str i) j pos) (cn (.str i)):=PE.imp CM λσ H Q ⟨Z,O,E,h⟩=>h H (Same.refl H) _ (Rep.NO i)
def Jc{u:Ob}(hm:X.mg x=ZA u)(r:RelV (.int i) u)(hg:Gl X x:=by rfl)(hd:autoParam ((x == ("__debug__" : Str))=ZD) s_):c8 X (.Name x pos) (cn (.int i)):=
 PE.imp (tX hg hm r hd) λσ H Q ⟨Z,O,E,h⟩=>h H (Same.refl H) _ (Rep.GE i)
def aj(_:En):Rs (List T):=.ok []
noncomputable def ae(f:Y2)(g:Y0)(Z:En):Rs (List T):=do
 let t <-f Z
 let r <-g Z
 .ok (t::r)
def xY:qT X [] aj:=PA.imp dQ λσ H Q ⟨Z,O,E,h⟩=>h H (Same.refl H) _ Reps.GM
def oq{f:Y2}{g:Y0}(he:c8 X e f)(hr:qT X es g)(hs:Oz (e::es) X.env=(ZD,eval e X.env)::Oz es X.env:=by rfl):qT X (e::es) (ae f g):=by intro pos kw s σ H Q I h;obtain⟨Z,O,E,h⟩:=h;refine bF he hr hs pos kw s σ H Q I ?_;obtain⟨Z1,O1,E1,h1⟩:=br E h;refine⟨Z1,O1,E1,Post.mono h1 λt H' s q v r=>?_⟩;obtain⟨t',r',s',E',q'⟩:=q v r;refine⟨Z,O,E',Post.mono q'.bind λts H2 s2 q2 vs rs=>?_⟩;exact q2 H2 (Same.refl H2) _ (Reps.Gc (r'.same s2) rs)
variable{g:T->T->Rs T}
section
noncomputable def k7(l:List T):Rs T:=if l.length<=ZI then .ok (.tup l)else .bad
def k8(l:List T):Rs T:=if l.length<=ZI then .ok (.lst l)else .bad
def aP(f:Y0)(Z:En):Rs T:=f Z >>= k7
def dz(f:Y0)(Z:En):Rs T:=f Z >>= k8
def aQ(h:H p=ZB)(o:HO):Same H (upd H p o):=λb u q=>by rw[aG (cV q h)];exact q
def gP(h:H p=ZB)(n:¬ O p)(r:Reps K O H l vs):Rep K O (upd H p (.tup vs)) (.tup l) (.ref p):=
 Rep.Fk.mpr ⟨p,vs,rfl,n,aI,r.same (aQ h _)⟩
def gQ(h:H p=ZB)(n:¬ O p)(r:Reps K O H l vs):Rep K O (upd H p (.lst vs)) (.lst l) (.ref p):=
 Rep.Do.mpr ⟨p,vs,rfl,n,aI,r.same (aQ h _)⟩
def Hs{x1:Nat}{pos:Pos}(h:qT X es f):c8 X (.Tuple es x1 pos) (aP f):=by
 intro kw s σ H Q I ⟨Z,O,E,hq⟩;refine tV h kw s σ H Q I ?_;obtain⟨Z1,O1,E1,h1⟩:=eF E hq;refine⟨Z1,O1,E1,Post.mono h1 λts H1 s1 q vs r=>?_⟩;obtain⟨t',r',s',E',q'⟩:=q vs r;unfold k7 at q';split at q'
 .rename_i hz;refine⟨by rw[<-r'.length];exact hz,λp hp=>?_⟩;exact q' _ (aQ hp _) _ (gP hp (E'.fresh hp) r')
 .exact q'.elim
def Ls{pos:Pos}(h:qT X es f):c8 X (.List es pos) (dz f):=by
 intro kw s σ H Q I ⟨Z,O,E,hq⟩;refine tW h kw s σ H Q I ?_;obtain⟨Z1,O1,E1,h1⟩:=eF E hq;refine⟨Z1,O1,E1,Post.mono h1 λts H1 s1 q vs r=>?_⟩;obtain⟨t',r',s',E',q'⟩:=q vs r;unfold k8 at q';split at q'
 .rename_i hz;refine⟨by rw[<-r'.length];exact hz,λp hp=>?_⟩;exact q' _ (aQ hp _) _ (gQ hp (E'.fresh hp) r')
 .exact q'.elim
def OpT(X:Cx)(f:Ob->Ob->Sem Ob)(g:T->T->Rs T):Prop:=
 ∀(kw:Uf)(s:Oe)(σ:L2.St)(H:Hp)(O:Ow)(x y:T)(vx vy:V)(ux uy:Ob)(Q:VK),Inv X kw σ H s->(∀p,H p=ZB->¬ O p)->Rep X.K O H x vx->Rep X.K O H y vy->RelV vx ux->RelV vy uy ->
  Post X H (g x y) (λt H'=>∀v,Rep X.K O H' t v->Q v H')->ZJ (ZK X.prog X.w) X.A (f ux uy) (EP X kw σ Q) X.xe s
noncomputable def o2(g:T->T->Rs T)(fa fb:Y2)(Z:En):Rs T:=do
 let x <-fa Z
 let y <-fb Z
 g x y
variable {a b c:ZG}{fa fb fc:Y2}
def Ly{op:W0}(ho:OpT X (Qz op) g)(ha:c8 X a fa)(hb:c8 X b fb):c8 X (.BinOp a op b pos) (o2 g fa fb):=by intro kw s σ H Q I ⟨Z,O,E,hq⟩;have h1:=br E hq;refine wpAny_BinOp (cL (ha kw s σ H _ I h1) λv s1 hh_=>?_);obtain⟨x,H1,I1,r1,t,rt,s',E',q1⟩:=hh_;have h2:=br (f:=fb) E' q1;refine cL (hb kw s1 σ H1 _ I1 h2) λu s2 hh_=>?_;obtain⟨y,H2,I2,r2,t2,rt2,s'',E'',q2⟩:=hh_;exact ho kw s2 σ H2 O t t2 x y v u Q I2 (λp=>E''.fresh) (rt.same s'') rt2 r1 r2 q2
def Lx(ho:OpT X (Pp op) g)(ha:c8 X a fa)(hb:c8 X b fb)(hm:RS op b=ZD:=by rfl):c8 X (.Compare a [op] [b] pos) (o2 g fa fb):=by intro kw s σ H Q I ⟨Z,O,E,hq⟩;have h1:=br E hq;refine wpAny_Compare1 (cL (ha kw s σ H _ I h1) λv s1 ⟨x,H1,I1,r1,t,rt,s',E',q1⟩=>?_) hm;have h2:=br (f:=fb) E' q1;refine cL (hb kw s1 σ H1 _ I1 h2) λu s2 hh_=>?_;obtain⟨y,H2,I2,r2,t2,rt2,s'',E'',q2⟩:=hh_;exact ho kw s2 σ H2 O t t2 x y v u Q I2 (λp=>E''.fresh) (rt.same s'') rt2 r1 r2 q2
def OpT.of{f:Ob->Ob->Sem Ob}{r:R2}(h:qU X f r)
  (w:∀(H:Hp)(O:Ow)(x y:T)(vx vy:V)(Q:VK),(∀p,H p=ZB->¬ O p)->Rep X.K O H x vx->Rep X.K O H y vy->Post X H (g x y) (λt H'=>∀v,Rep X.K O H' t v->Q v H')->r vx vy H Q):OpT X f g:=
 λkw s σ H O x y vx vy ux uy Q I hf rx ry r1 r2 hp=>h kw s σ H vx vy ux uy Q I r1 r2 (w H O x y vx vy Q hf rx ry hp)
noncomputable def fM:T->T->Rs T
 |.int i,.int j=>.ok (.int (i - j))
 |_,_=>.bad
def fw:OpT X (Qz .Sub) fM:=OpT.of Js λH O x y vx vy Q hf rx ry hp=>by
 unfold fM at hp;split at hp
 .exact⟨_,_,Rep.AC.mp rx,Rep.AC.mp ry,hp H (Same.refl H) _ (Rep.GE _)⟩
 .exact hp.elim
noncomputable def mm:T->T->Rs T
 |.int i,.int j=>if 0<j/\j<1073741824 then .ok (.int (i / j))else .bad
 |_,_=>.bad
noncomputable def l5:T->T->Rs T
 |.int i,.int j=>if 0<j then .ok (.int (i % j))else .bad
 |_,_=>.bad
def ou:OpT X (Qz .FloorDiv) mm:=OpT.of Ga λH O x y vx vy Q hf rx ry hp=>by
 unfold mm at hp;split at hp
 .split at hp
  .rename_i h;exact⟨_,_,Rep.AC.mp rx,Rep.AC.mp ry,h,hp H (Same.refl H) _ (Rep.GE _)⟩
  .exact hp.elim
 .exact hp.elim
def lq:OpT X (Qz .Mod) l5:=OpT.of Jv λH O x y vx vy Q hf rx ry hp=>by
 unfold l5 at hp;split at hp
 .split at hp
  .rename_i h;exact⟨_,_,Rep.AC.mp rx,Rep.AC.mp ry,h,hp H (Same.refl H) _ (Rep.GE _)⟩
  .exact hp.elim
 .exact hp.elim
def C1:qU X (Qz .Add) (λx y H Q=>∃a b ys,x=.ref a/\y=.ref b/\SqT X.K H a []/\SqT X.K H b ys/\Q (.ref b) H):=by
 intro kw s σ H x y v u Q I rx ry h;obtain⟨a,b,ys,rfl,rfl,ha,hb,q⟩:=h;cases rx;cases ry;obtain⟨its,r1,p1,_⟩:=I.tuple ha;obtain⟨its2,r2,p2,_⟩:=I.tuple hb;obtain⟨⟨cls,dd,data,sl⟩,ho,hc,n,hd⟩:=id p1;obtain⟨⟨cls2,dd2,data2,sl2⟩,ho2,hc2,n2,hd2⟩:=id p2;simp only at hc hd hc2 hd2;subst hc hd hc2 hd2;have e:its=[]:=by cases r1;rfl
 subst e;exact HT_concat0 ho ho2 ⟨.ref b,H,I,rfl,q⟩
where
 HT_concat0 {prog:OI} {w:Py} {A:OW} {E:WP} {s:Oe} {t b:ZE} {ws:Array Ob} {n n2:Nat} {dd dd2:Option ZE} {sl sl2:Array (Option Ob)} {Q:WP}
   (ho:s.heap.get? t=ZA {cls:=.type "tuple",dict:=dd,data:=.seq (([]:List Ob).toArray) n,slots:=sl}) (ho2:s.heap.get? b=ZA {cls:=.type "tuple",dict:=dd2,data:=.seq ws n2,slots:=sl2}) (h:Q (.ref b) s):
   ZJ (ZK prog w) A (Qz .Add (.ref t) (.ref b)) Q E s:=
  WA ⟨_,ho,rfl⟩ ⟨_,ho2,rfl⟩ Um VT Sr Sh (R7 _ _)
   (tuple_addW0 t b _ _ n n2 dd dd2 sl sl2 (by simp)) ⟨ho,ho2,h⟩
noncomputable def aV:T->T->Rs T
 |.int i,.int j=>.ok (.int (i+j))
 |.str i,.str j=>if i.length+j.length<=ZI then .ok (.str (i++j))else .bad
 |.tup l,.tup m=>k7 (l++m)
 |.lst l,.lst m=>k8 (l++m)
 |_,_=>.bad
def aL:OpT X (Qz .Add) aV:=by
 intro kw s σ H O x y vx vy ux uy Q I hf rx ry r1 r2 hp;unfold aV at hp;split at hp
 .exact Jx kw s σ H vx vy ux uy Q I r1 r2 ⟨_,_,Rep.AC.mp rx,Rep.AC.mp ry,hp H (Same.refl H) _ (Rep.GE _)⟩
 .split at hp
  .rename_i h;exact x6 kw s σ H vx vy ux uy Q I r1 r2 ⟨_,_,Rep.GT.mp rx,Rep.GT.mp ry,h,hp H (Same.refl H) _ (Rep.NO _)⟩
  .exact hp.elim
 .rename_i l m;unfold k7 at hp;split at hp
  .rename_i h;obtain⟨a,vs,e1,n1,q1,z1⟩:=Rep.Fk.mp rx;obtain⟨b,ws,e2,n2,q2,z2⟩:=Rep.Fk.mp ry;have hl1:=z1.length;have hl2:=z2.length;rw[On]at h;cases vs with
   |nil=>
    have e:l=[]:=by cases l with
     |nil=>rfl
     |cons _ _=>simp at hl1
    subst e;exact C1 kw s σ H vx vy ux uy Q I r1 r2 ⟨a,b,ws,e1,e2,SqT.of q1,SqT.of q2,hp H (Same.refl H) _ (Rep.Fk.mpr ⟨b,ws,rfl,n2,q2,z2⟩)⟩
   |cons v0 vr=>
    refine Gb kw s σ H vx vy ux uy Q I r1 r2 ⟨a,b,v0::vr,ws,e1,e2,SqT.of q1,SqT.of q2,by simp,by omega,λhw=>?_,λ_ p hpn=>?_⟩
    .subst hw;have e:m=[]:=by cases m with
      |nil=>rfl
      |cons _ _=>simp at hl2
     subst e;rw[PB]at hp;exact hp H (Same.refl H) _ (Rep.Fk.mpr ⟨a,_,rfl,n1,q1,z1⟩)
    .exact hp _ (aQ hpn _) _ (gP hpn (hf p hpn) (z1.append z2))
  .exact hp.elim
 .rename_i l m;unfold k8 at hp;split at hp
  .rename_i h;obtain⟨a,vs,e1,n1,q1,z1⟩:=Rep.Do.mp rx;obtain⟨b,ws,e2,n2,q2,z2⟩:=Rep.Do.mp ry;have hl1:=z1.length;have hl2:=z2.length;rw[On]at h;exact C2 kw s σ H vx vy ux uy Q I r1 r2 ⟨a,b,vs,ws,e1,e2,q1,q2,by omega,λp hpn=>hp _ (aQ hpn _) _ (gQ hpn (hf p hpn) (z1.append z2))⟩
  .exact hp.elim
 .exact hp.elim
noncomputable def yp:T->T->Rs T
 |.int i,.int j=>if (-(2 ^ 64)<i/\i<2 ^ 64)\/(-(2 ^ 64)<j/\j<2 ^ 64)then .ok (.int (i*j))else .bad
 |.lst l,.int k=>if -(2 ^ 63)<=k/\k<2 ^ 63/\l.length*k.toNat<=ZI then .ok (.lst (OK k.toNat l).flatten)else .bad
 |_,_=>.bad
theorem Reps.rep(h:Reps K O H l vs):∀k:Nat,Reps K O H (OK k l).flatten (OK k vs).flatten
 |0=>Reps.GM
 |k+1=>by rw[Qa,Qa,QR,QR];exact h.append (h.rep k)
def Jr:OpT X (Qz .Mult) yp:=by
 intro kw s σ H O x y vx vy ux uy Q I hf rx ry r1 r2 hp;unfold yp at hp;split at hp
 .split at hp
  .rename_i h;exact Ju kw s σ H vx vy ux uy Q I r1 r2 ⟨_,_,Rep.AC.mp rx,Rep.AC.mp ry,h,hp H (Same.refl H) _ (Rep.GE _)⟩
  .exact hp.elim
 .split at hp
  .rename_i l k h;obtain⟨a,vs,e1,n1,q1,z1⟩:=Rep.Do.mp rx;have hl1:=z1.length;exact Jt kw s σ H vx vy ux uy Q I r1 r2 ⟨a,k,vs,e1,Rep.AC.mp ry,q1,h.1,h.2.1,by rw[<-hl1];exact h.2.2,λp hpn=>hp _ (aQ hpn _) _ (gQ hpn (hf p hpn) (z1.rep _))⟩
  .exact hp.elim
 .exact hp.elim
def kQ:T->Rs T
 |.int i=>.ok (.int (-i))
 |_=>.bad
def o1(g:T->Rs T)(fa:Y2)(Z:En):Rs T:=fa Z >>= g
def Ht(ha:c8 X a fa):c8 X (.UnaryOp .USub a pos) (o1 kQ fa):=by
 intro kw s σ H Q I ⟨Z,O,E,hq⟩;refine Hw BU ha kw s σ H Q I ?_;obtain⟨Z1,O1,E1,h1⟩:=br E hq;refine⟨Z1,O1,E1,Post.mono h1 λts H1 s1 q vs r=>?_⟩;obtain⟨t',r',s',E',q'⟩:=q vs r;unfold kQ at q';split at q'
 .exact⟨_,Rep.AC.mp r',q' H1 (Same.refl H1) _ (Rep.GE _)⟩
 .exact q'.elim
noncomputable def Bs(p:Int->Int->Bool):T->T->Rs T
 |.int i,.int j=>.ok (.bl (p i j))
 |_,_=>.bad
def zE{p:Int->Int->Bool}(h:qU X (Pp op) (IE λi j=>.bl (p i j))):OpT X (Pp op) (Bs p):=OpT.of h λH O x y vx vy Q hf rx ry hp=>by
 unfold Bs at hp;split at hp
 .exact⟨_,_,Rep.AC.mp rx,Rep.AC.mp ry,hp H (Same.refl H) _ (Rep.bl_ _)⟩
 .exact hp.elim
abbrev wz:=Bs λi j=>decide (i<j)
abbrev KN:=Bs λi j=>decide (i<=j)
def pH:OpT X (Pp .Lt) wz:=zE LI
def vV:OpT X (Pp .LtE) KN:=zE LJ
def T.isN:T->Bool
 |.non=>ZC
 |_=>ZD
def Rep.isN{t:T}(r:Rep K O H t v):decide (v=.non)=t.isN:=by
 cases t with
 |non=>rw[Rep.M7.mp r];rfl
 |bl _=>rw[Rep.FM.mp r];rfl
 |int _=>rw[Rep.AC.mp r];rfl
 |str _=>rw[Rep.GT.mp r];rfl
 |tup _=>obtain⟨a,vs,e,_⟩:=Rep.Fk.mp r;rw[e];rfl
 |lst _=>obtain⟨a,vs,e,_⟩:=Rep.Do.mp r;rw[e];rfl
 |scr _=>unfold Rep at r;obtain⟨a,e,_⟩:=r;rw[e];rfl
 |dct _ _=>obtain⟨a,_,e,_⟩:=Rep.FS.mp r;rw[e];rfl
def ji:T->T->Rs T
 |x,.non=>.ok (.bl x.isN)
 |_,_=>.bad
noncomputable def fS:T->T->Rs T
 |x,.non=>.ok (.bl (!x.isN))
 |_,_=>.bad
def nJ:OpT X (Pp .Is) ji:=OpT.of Jw λH O x y vx vy Q hf rx ry hp=>by
 unfold ji at hp;split at hp
 .exact⟨Rep.M7.mp ry,hp H (Same.refl H) _ (by rw[rx.isN];exact Rep.bl_ _)⟩
 .exact hp.elim
def gS:OpT X (Pp .IsNot) fS:=OpT.of F9 λH O x y vx vy Q hf rx ry hp=>by
 unfold fS at hp;split at hp
 .exact⟨Rep.M7.mp ry,hp H (Same.refl H) _ (by rw[rx.isN];exact Rep.bl_ _)⟩
 .exact hp.elim
end
open PySem.SeqAt
mutual
def ReV(s:Oe):T->Ob->Prop
 |.non,u=>u=.none
 |.bl b,u=>u=.bool b
 |.int i,u=>∃t,u=.int i t
 |.str x,u=>∃t,u=.str x t
 |.tup l,u=>∃a its,u=.ref a/\s.heap.IsTuple a (Ws its)/\ReVs s l its
 |.lst l,u=>∃a its,u=.ref a/\s.heap.IsList a (Ws its)/\ReVs s l its
 |.scr l,u=>∃a its,u=.ref a/\s.heap.IsList a (Ws its)/\Qq its l
 |.dct _ _,_=>False
def ReVs(s:Oe):List T->List Ob->Prop
 |[],us=>us=[]
 |t::r,us=>∃u ws,us=u::ws/\ReV s t u/\ReVs s r ws
end
def ReVs.Da:ReVs s [] us↔us=[]:=by unfold ReVs;exact Ta
def ReVs.me{t:T}:ReVs s (t::l) us↔ ∃u ws,us=u::ws/\ReV s t u/\ReVs s l ws:=by
 constructor
 .intro h;unfold ReVs at h;exact h
 .intro h;unfold ReVs;exact h
theorem ReVs.length:∀{l:List T}{us:List Ob},ReVs s l us->l.length=us.length
 |[],us,r=>by rw[ReVs.Da.mp r];rfl
 |t::l,us,r=>by obtain⟨v,ws,rfl,_,q⟩:=ReVs.me.mp r;simp[q.length]
theorem ReVs.get:∀{l:List T}{us:List Ob}{i:Nat}{t:T},ReVs s l us->l[i]?=ZA t->∃v,us[i]?=ZA v/\ReV s t v
 |[],_,_,_,_,e=>by simp at e
 |t::l,vs,i,u,r,e=>by
  obtain⟨v,ws,rfl,p,q⟩:=ReVs.me.mp r;cases i with
  |zero=>simp at e;subst e;exact⟨v,rfl,p⟩
  |succ i=>
   obtain⟨z,e1,e2⟩:=q.get (i:=i) (t:=u) (by simpa using e);exact⟨z,by simpa using e1,e2⟩
mutual
def T.nd:T->Bool
 |.dct _ _=>ZD
 |.tup l=>nds l
 |.lst l=>nds l
 |_=>ZC
def nds:List T->Bool
 |[] =>ZC
 |t::l=>t.nd&&nds l
end
def wq{t:T}(h:nds (t::l)=ZC):t.nd=ZC/\nds l=ZC:=by unfold nds at h;exact QM.mp h
theorem ly:∀{l:List T},(∀t∈l,t.nd=ZC)->nds l=ZC
 |[],_=>rfl
 |t::l,h=>by unfold nds;rw[h t Of,ly λu hu=>h u (N9 _ hu)];rfl
section
variable {kw:Uf}
mutual
theorem Rep.val(I:Inv X kw σ H s):∀{t:T}{v:V}{u:Ob},t.nd=ZC->Rep X.K O H t v->RelV v u->ReV s t u
 |.non,v,u,hn,r,q=>by cases Rep.M7.mp r;unfold ReV;exact q
 |.bl b,v,u,hn,r,q=>by cases Rep.FM.mp r;unfold ReV;exact q
 |.int b,v,u,hn,r,q=>by cases Rep.AC.mp r;unfold ReV;exact q
 |.str b,v,u,hn,r,q=>by cases Rep.GT.mp r;unfold ReV;exact q
 |.tup l,v,u,hn,r,q=>by obtain⟨a,vs,rfl,_,z,w⟩:=Rep.Fk.mp r;cases q;obtain⟨its,rv,p,_⟩:=I.tuple (SqT.of z);unfold ReV;exact⟨a,its,rfl,p,Reps.val I (by unfold T.nd at hn;exact hn) w rv⟩
 |.lst l,v,u,hn,r,q=>by obtain⟨a,vs,rfl,_,z,w⟩:=Rep.Do.mp r;cases q;obtain⟨its,rv,p,_⟩:=I.list (SqL.of z);unfold ReV;exact⟨a,its,rfl,p.isList,Reps.val I (by unfold T.nd at hn;exact hn) w rv⟩
 |.scr l,v,u,hn,r,q=>by unfold Rep at r;obtain⟨a,rfl,_,z⟩:=r;cases q;obtain⟨its,rv,p,_⟩:=I.list z;unfold ReV;exact⟨a,its,rfl,p.isList,yF rv⟩
 |.dct _ _,v,u,hn,r,q=>by cases hn
theorem Reps.val(I:Inv X kw σ H s):∀{l:List T}{vs:List V}{us:List Ob},nds l=ZC->Reps X.K O H l vs->Vals vs us->ReVs s l us
 |[],vs,us,hn,r,q=>by cases Reps.Da.mp r;cases q;exact ReVs.Da.mpr rfl
 |t::l,vs,us,hn,r,q=>by
  obtain⟨v,ws,rfl,p,z⟩:=Reps.me.mp r;cases q with
  |cons q1 q2=>exact ReVs.me.mpr ⟨_,_,rfl,Rep.val I (wq hn).1 p q1,Reps.val I (wq hn).2 z q2⟩
end
end
mutual
def T.dep:T->Nat
 |.tup l=>deps l+1
 |.lst l=>deps l+1
 |.scr _=>1
 |_=>0
def deps:List T->Nat
 |[] =>0
 |t::l=>max t.dep (deps l)
end
noncomputable def G1(i:Int):T->Bool
 |.int j=>i == j
 |.bl b=>i == (if b then 1 else 0)
 |_=>ZD
noncomputable def la:List Int->List T->Bool
 |[],[] =>ZC
 |i::r,t::l=>G1 i t&&la r l
 |_,_=>ZD
mutual
def aS:T->T->Bool
 |.non,.non=>ZC
 |.bl a,.bl b=>a == b
 |.bl a,.int b=>(if a then 1 else 0) == b
 |.int a,.bl b=>a == (if b then 1 else 0)
 |.int a,.int b=>a == b
 |.str a,.str b=>a == b
 |.tup l,.tup m=>beqTs l m
 |.lst l,.lst m=>beqTs l m
 |.lst l,.scr m=>beqTs l (m.map .int)
 |.scr l,.lst m=>la l m
 |.scr l,.scr m=>l == m
 |_,_=>ZD
def beqTs:List T->List T->Bool
 |[],[] =>ZC
 |t::l,u::m=>aS t u&&beqTs l m
 |_,_=>ZD
end
def j0(n:Nat)(e:Nat->Bool):(Oo (n+1)).all e=(e 0&&(Oo n).all λj=>e (j+1)):=by rw[RB,List.all_cons,Wt];rfl
theorem kK:∀(l m:List T)(e:Nat->Bool),(∀(j:Nat) t u,l[j]?=ZA t->m[j]?=ZA u->e j=aS t u) ->
  beqTs l m=((Oo (min l.length m.length)).all e&&l.length == m.length)
 |[],[],_,_=>by simp[beqTs]
 |[],_::_,_,_=>by simp[beqTs]
 |_::_,[],_,_=>by simp[beqTs]
 |t::l,u::m,e,h=>by have ih:=kK l m (λj=>e (j+1)) λj t' u' h1 h2=>h (j+1) t' u' (by simpa using h1) (by simpa using h2);rw[beqTs,ih];have h0:=h 0 t u rfl rfl;simp only[Ol];rw[Nat.succ_min_succ,j0,h0,Bool.and_assoc];congr 2;simp
theorem sP:∀{l m:List T},l.length≠m.length->beqTs l m=ZD
 |[],[],h=>absurd rfl h
 |[],_::_,_=>by simp[beqTs]
 |_::_,[],_=>by simp[beqTs]
 |t::l,u::m,h=>by rw[beqTs,sP (l:=l) (m:=m) (by intro z;exact h (by simp[z]))];simp
theorem i5:∀{l:List T}{i:Nat}{t:T},l[i]?=ZA t->t.dep<=deps l
 |[],_,_,e=>by simp at e
 |t::l,0,u,e=>by simp at e;subst e;unfold deps;exact Nat.le_max_left _ _
 |t::l,i+1,u,e=>by have:=i5 (l:=l) (i:=i) (t:=u) (by simpa using e);unfold deps;exact OJ this (Nat.le_max_right _ _)
def jT{x y:List Ob}(h:s.heap.IsTuple a x.toArray)(h':s.heap.IsTuple a y.toArray):x=y:=by obtain⟨o,e,_,n,d⟩:=h;obtain⟨o',e',_,n',d'⟩:=h';rw[e]at e';cases e';rw[d]at d';injection d' with d1 _;simpa using congrArg UB d1
def dD{x y:List Ob}(h:s.heap.IsList a x.toArray)(h':s.heap.IsList a y.toArray):x=y:=by obtain⟨o,e,_,n,d⟩:=h;obtain⟨o',e',_,n',d'⟩:=h';rw[e]at e';cases e';rw[d]at d';injection d' with d1 _;simpa using congrArg UB d1
variable{k:Tok}
def Bx{t:T}(r:ReV s t (.int i k)):G1 i t=ZC:=by
 cases t with
 |non=>unfold ReV at r;cases r
 |bl b=>unfold ReV at r;cases r
 |int j=>unfold ReV at r;obtain⟨t,e⟩:=r;injection e with e1 _;subst e1;simp[G1]
 |str x=>unfold ReV at r;obtain⟨t,e⟩:=r;cases e
 |tup l=>unfold ReV at r;obtain⟨a,its,e,_⟩:=r;cases e
 |lst l=>unfold ReV at r;obtain⟨a,its,e,_⟩:=r;cases e
 |scr l=>unfold ReV at r;obtain⟨a,its,e,_⟩:=r;cases e
 |dct _ _=>unfold ReV at r;exact r.elim
theorem qN:∀{ns:List Int}{us:List Ob}{l:List T},Qq us ns->ReVs s l us->la ns l=ZC
 |[],us,l,h,r=>by
  cases h;cases l with
  |nil=>rfl
  |cons t l=>obtain⟨_,_,e,_⟩:=ReVs.me.mp r;cases e
 |n::ns,us,l,h,r=>by
  cases h with
  |cons a b hh=>
   cases l with
   |nil=>have:=ReVs.Da.mp r;cases this
   |cons t l=>
    obtain⟨u,ws,e,p,q⟩:=ReVs.me.mp r;injection e with e1 e2;subst e1 e2;rw[la,Bx p,qN hh q];rfl
theorem fm:∀{us:List Ob}{ns:List Int},Qq us ns->ReVs s (ns.map T.int) us
 |_,_,.nil=>ReVs.Da.mpr rfl
 |_,_,.cons n t h=>ReVs.me.mpr ⟨_,_,rfl,by unfold ReV;exact⟨_,rfl⟩,fm h⟩
theorem jU:∀{us:List Ob}{ns ms:List Int},Qq us ns->Qq us ms->ns=ms:=by
 intro us ns ms h;induction h generalizing ms with
 |nil=>intro k;cases k;rfl
 |cons n t h i=>intro k;cases k with|cons _ _ k=>rw[i k]
mutual
theorem ReV.refl{s:Oe}:∀{t u:T}{v:Ob},ReV s t v->ReV s u v->aS t u=ZC
 |.non,u,v,r,q=>by unfold ReV at r;subst r;cases u <;> (unfold ReV at q) <;> first|rfl| (cases q;done)| (obtain⟨_,e⟩:=q;cases e;done)| (obtain⟨_,_,e,_⟩:=q;cases e;done)
 |.bl b,u,v,r,q=>by unfold ReV at r;subst r;cases u <;> (unfold ReV at q) <;> first| (cases q;done)| (cases q;simp[aS];done)| (obtain⟨_,e⟩:=q;cases e;done)| (obtain⟨_,_,e,_⟩:=q;cases e;done)
 |.int b,u,v,r,q=>by unfold ReV at r;obtain⟨k,rfl⟩:=r;cases u <;> (unfold ReV at q) <;> first| (cases q;done)| (obtain⟨_,e⟩:=q;cases e;simp[aS];done)| (obtain⟨_,e⟩:=q;cases e;done)| (obtain⟨_,_,e,_⟩:=q;cases e;done)
 |.str b,u,v,r,q=>by unfold ReV at r;obtain⟨k,rfl⟩:=r;cases u <;> (unfold ReV at q) <;> first| (cases q;done)| (obtain⟨_,e⟩:=q;cases e;simp[aS];done)| (obtain⟨_,e⟩:=q;cases e;done)| (obtain⟨_,_,e,_⟩:=q;cases e;done)
 |.tup l,u,v,r,q=>by
  unfold ReV at r;obtain⟨a,its,rfl,h1,h2⟩:=r;cases u with
  |non=>unfold ReV at q;cases q
  |dct _ _=>unfold ReV at q;exact q.elim
  |bl _=>unfold ReV at q;cases q
  |int _=>unfold ReV at q;obtain⟨_,e⟩:=q;cases e
  |str _=>unfold ReV at q;obtain⟨_,e⟩:=q;cases e
  |tup m=>
   unfold ReV at q;obtain⟨a',its',e,h1',h2'⟩:=q;injection e with e;subst e;have:=jT h1 h1';subst this;unfold aS;exact ReVs.refl h2 h2'
  |lst m=>unfold ReV at q;obtain⟨a',its',e,h1',h2'⟩:=q;injection e with e;subst e;exact absurd rfl (ne_of_list_tuple h1' h1)
  |scr m=>unfold ReV at q;obtain⟨a',its',e,h1',h2'⟩:=q;injection e with e;subst e;exact absurd rfl (ne_of_list_tuple h1' h1)
 |.lst l,u,v,r,q=>by
  unfold ReV at r;obtain⟨a,its,rfl,h1,h2⟩:=r;cases u with
  |non=>unfold ReV at q;cases q
  |dct _ _=>unfold ReV at q;exact q.elim
  |bl _=>unfold ReV at q;cases q
  |int _=>unfold ReV at q;obtain⟨_,e⟩:=q;cases e
  |str _=>unfold ReV at q;obtain⟨_,e⟩:=q;cases e
  |lst m=>
   unfold ReV at q;obtain⟨a',its',e,h1',h2'⟩:=q;injection e with e;subst e;have:=dD h1 h1';subst this;unfold aS;exact ReVs.refl h2 h2'
  |tup m=>unfold ReV at q;obtain⟨a',its',e,h1',h2'⟩:=q;injection e with e;subst e;exact absurd rfl (ne_of_list_tuple h1 h1')
  |scr m=>
   unfold ReV at q;obtain⟨a',its',e,h1',h2'⟩:=q;injection e with e;subst e;have:=dD h1 h1';subst this;unfold aS;exact ReVs.refl h2 (fm h2')
 |.scr l,u,v,r,q=>by
  unfold ReV at r;obtain⟨a,its,rfl,h1,h2⟩:=r;cases u with
  |non=>unfold ReV at q;cases q
  |dct _ _=>unfold ReV at q;exact q.elim
  |bl _=>unfold ReV at q;cases q
  |int _=>unfold ReV at q;obtain⟨_,e⟩:=q;cases e
  |str _=>unfold ReV at q;obtain⟨_,e⟩:=q;cases e
  |lst m=>
   unfold ReV at q;obtain⟨a',its',e,h1',h2'⟩:=q;injection e with e;subst e;have:=dD h1 h1';subst this;unfold aS;exact qN h2 h2'
  |tup m=>unfold ReV at q;obtain⟨a',its',e,h1',h2'⟩:=q;injection e with e;subst e;exact absurd rfl (ne_of_list_tuple h1 h1')
  |scr m=>
   unfold ReV at q;obtain⟨a',its',e,h1',h2'⟩:=q;injection e with e;subst e;have:=dD h1 h1';subst this;unfold aS;have:=jU h2 h2';simp[this]
 |.dct _ _,u,v,r,q=>by unfold ReV at r;exact r.elim
theorem ReVs.refl{s:Oe}:∀{l m:List T}{us:List Ob},ReVs s l us->ReVs s m us->beqTs l m=ZC
 |[],m,us,r,q=>by
  cases ReVs.Da.mp r;cases m with
  |nil=>simp[beqTs]
  |cons _ _=>obtain⟨_,_,e,_⟩:=ReVs.me.mp q;cases e
 |t::l,m,us,r,q=>by
  obtain⟨v,ws,rfl,p,z⟩:=ReVs.me.mp r;cases m with
  |nil=>cases ReVs.Da.mp q
  |cons u m=>
   obtain⟨v',ws',e,p',z'⟩:=ReVs.me.mp q;injection e with e1 e2;subst e1 e2;rw[beqTs,ReV.refl p p',ReVs.refl z z'];rfl
end
theorem qM:∀(l:List Int)(m:List T),la l m=beqTs (l.map T.int) m
 |[],[] =>by simp[la,beqTs]
 |[],_::_=>by simp[la,beqTs]
 |_::_,[] =>by simp[la,beqTs]
 |i::l,t::m=>by rw[la,Od,beqTs,qM l m];congr 1;cases t <;> simp[G1,aS]
theorem tN:∀(l m:List Int),(l == m)=beqTs (l.map T.int) (m.map T.int)
 |[],[] =>by simp[beqTs]
 |[],_::_=>by simp[beqTs]
 |_::_,[] =>by simp[beqTs]
 |i::l,t::m=>by rw[Od,Od,beqTs,<-tN l m];simp[aS]
theorem gJ:∀(l:List Int),deps (l.map T.int)=0
 |[] =>rfl
 |i::l=>by rw[Od,deps,gJ l];simp[T.dep]
def kn:T->T->Prop
 |.tup _,.tup _=>False
 |.lst _,.lst _=>False
 |.lst _,.scr _=>False
 |.scr _,.lst _=>False
 |.scr _,.scr _=>False
 |_,_=>True
def wW(A:OW)(s:Oe)(x y:T)(u v:Ob)(hn:kn x y)(hu:A.units<cLine)(rx:ReV s x u)(ry:ReV s y v):EqAt A s u v (aS x y)/\RcAt A s u v (aS x y)/\RcNeAt A s u v (!aS x y):=by
 match x,y,hn,rx,ry with
 |.dct _ _,_,_,rx,_=>exact(by unfold ReV at rx;exact rx:False).elim
 |_,.dct _ _,_,_,ry=>exact(by unfold ReV at ry;exact ry:False).elim
 |.non,.non,hn,rx,ry=>
  obtain rfl:u=Po:=by unfold ReV at rx;exact rx
  obtain rfl:v=Po:=by unfold ReV at ry;exact ry
  exact⟨EqAt.same _,RcAt.none_none ,RcNeAt.none_none ⟩
 |.non,.bl b2,hn,rx,ry=>
  obtain rfl:u=Po:=by unfold ReV at rx;exact rx
  obtain rfl:v=Pq b2:=by unfold ReV at ry;exact ry
  exact⟨EqAt.none_bool b2,RcAt.none_bool b2,RcNeAt.none_bool b2⟩
 |.non,.int i2,hn,rx,ry=>
  obtain rfl:u=Po:=by unfold ReV at rx;exact rx
  obtain⟨k2,rfl⟩:∃k,v=Qe i2 k:=by unfold ReV at ry;exact ry
  exact⟨EqAt.none_int i2 k2,RcAt.none_int i2 k2,RcNeAt.none_int i2 k2⟩
 |.non,.str x2,hn,rx,ry=>
  obtain rfl:u=Po:=by unfold ReV at rx;exact rx
  obtain⟨k2,rfl⟩:∃k,v=QF x2 k:=by unfold ReV at ry;exact ry
  exact⟨EqAt.none_str x2 k2,RcAt.none_str x2 k2,RcNeAt.none_str x2 k2⟩
 |.non,.tup l2,hn,rx,ry=>
  obtain rfl:u=Po:=by unfold ReV at rx;exact rx
  unfold ReV at ry;obtain⟨a2,us2,rfl,h2,q2⟩:=ry;exact⟨EqAt.none_tuple h2 hu,RcAt.none_tuple h2 hu,RcNeAt.none_tuple h2 hu⟩
 |.non,.lst l2,hn,rx,ry=>
  obtain rfl:u=Po:=by unfold ReV at rx;exact rx
  unfold ReV at ry;obtain⟨a2,us2,rfl,h2,q2⟩:=ry;exact⟨EqAt.none_list h2 hu,RcAt.none_list h2 hu,RcNeAt.none_list h2 hu⟩
 |.non,.scr l2,hn,rx,ry=>
  obtain rfl:u=Po:=by unfold ReV at rx;exact rx
  unfold ReV at ry;obtain⟨a2,us2,rfl,h2,q2⟩:=ry;exact⟨EqAt.none_list h2 hu,RcAt.none_list h2 hu,RcNeAt.none_list h2 hu⟩
 |.bl b1,.non,hn,rx,ry=>
  obtain rfl:u=Pq b1:=by unfold ReV at rx;exact rx
  obtain rfl:v=Po:=by unfold ReV at ry;exact ry
  exact⟨EqAt.bool_none b1,RcAt.bool_none b1,RcNeAt.bool_none b1⟩
 |.bl b1,.bl b2,hn,rx,ry=>
  obtain rfl:u=Pq b1:=by unfold ReV at rx;exact rx
  obtain rfl:v=Pq b2:=by unfold ReV at ry;exact ry
  exact⟨EqAt.bool_bool b1 b2,RcAt.bool_bool b1 b2,RcNeAt.bool_bool b1 b2⟩
 |.bl b1,.int i2,hn,rx,ry=>
  obtain rfl:u=Pq b1:=by unfold ReV at rx;exact rx
  obtain⟨k2,rfl⟩:∃k,v=Qe i2 k:=by unfold ReV at ry;exact ry
  exact⟨EqAt.bool_int b1 i2 k2,RcAt.bool_int b1 i2 k2,RcNeAt.bool_int b1 i2 k2⟩
 |.bl b1,.str x2,hn,rx,ry=>
  obtain rfl:u=Pq b1:=by unfold ReV at rx;exact rx
  obtain⟨k2,rfl⟩:∃k,v=QF x2 k:=by unfold ReV at ry;exact ry
  exact⟨EqAt.bool_str b1 x2 k2,RcAt.bool_str b1 x2 k2,RcNeAt.bool_str b1 x2 k2⟩
 |.bl b1,.tup l2,hn,rx,ry=>
  obtain rfl:u=Pq b1:=by unfold ReV at rx;exact rx
  unfold ReV at ry;obtain⟨a2,us2,rfl,h2,q2⟩:=ry;exact⟨EqAt.bool_tuple b1 h2 hu,RcAt.bool_tuple b1 h2 hu,RcNeAt.bool_tuple b1 h2 hu⟩
 |.bl b1,.lst l2,hn,rx,ry=>
  obtain rfl:u=Pq b1:=by unfold ReV at rx;exact rx
  unfold ReV at ry;obtain⟨a2,us2,rfl,h2,q2⟩:=ry;exact⟨EqAt.bool_list b1 h2 hu,RcAt.bool_list b1 h2 hu,RcNeAt.bool_list b1 h2 hu⟩
 |.bl b1,.scr l2,hn,rx,ry=>
  obtain rfl:u=Pq b1:=by unfold ReV at rx;exact rx
  unfold ReV at ry;obtain⟨a2,us2,rfl,h2,q2⟩:=ry;exact⟨EqAt.bool_list b1 h2 hu,RcAt.bool_list b1 h2 hu,RcNeAt.bool_list b1 h2 hu⟩
 |.int i1,.non,hn,rx,ry=>
  obtain⟨k1,rfl⟩:∃k,u=Qe i1 k:=by unfold ReV at rx;exact rx
  obtain rfl:v=Po:=by unfold ReV at ry;exact ry
  exact⟨EqAt.int_none i1 k1,RcAt.int_none i1 k1,RcNeAt.int_none i1 k1⟩
 |.int i1,.bl b2,hn,rx,ry=>
  obtain⟨k1,rfl⟩:∃k,u=Qe i1 k:=by unfold ReV at rx;exact rx
  obtain rfl:v=Pq b2:=by unfold ReV at ry;exact ry
  exact⟨EqAt.int_bool i1 k1 b2,RcAt.int_bool i1 k1 b2,RcNeAt.int_bool i1 k1 b2⟩
 |.int i1,.int i2,hn,rx,ry=>
  obtain⟨k1,rfl⟩:∃k,u=Qe i1 k:=by unfold ReV at rx;exact rx
  obtain⟨k2,rfl⟩:∃k,v=Qe i2 k:=by unfold ReV at ry;exact ry
  exact⟨EqAt.int_int i1 k1 i2 k2,RcAt.int_int i1 k1 i2 k2,RcNeAt.int_int i1 k1 i2 k2⟩
 |.int i1,.str x2,hn,rx,ry=>
  obtain⟨k1,rfl⟩:∃k,u=Qe i1 k:=by unfold ReV at rx;exact rx
  obtain⟨k2,rfl⟩:∃k,v=QF x2 k:=by unfold ReV at ry;exact ry
  exact⟨EqAt.int_str i1 k1 x2 k2,RcAt.int_str i1 k1 x2 k2,RcNeAt.int_str i1 k1 x2 k2⟩
 |.int i1,.tup l2,hn,rx,ry=>
  obtain⟨k1,rfl⟩:∃k,u=Qe i1 k:=by unfold ReV at rx;exact rx
  unfold ReV at ry;obtain⟨a2,us2,rfl,h2,q2⟩:=ry;exact⟨EqAt.int_tuple i1 k1 h2 hu,RcAt.int_tuple i1 k1 h2 hu,RcNeAt.int_tuple i1 k1 h2 hu⟩
 |.int i1,.lst l2,hn,rx,ry=>
  obtain⟨k1,rfl⟩:∃k,u=Qe i1 k:=by unfold ReV at rx;exact rx
  unfold ReV at ry;obtain⟨a2,us2,rfl,h2,q2⟩:=ry;exact⟨EqAt.int_list i1 k1 h2 hu,RcAt.int_list i1 k1 h2 hu,RcNeAt.int_list i1 k1 h2 hu⟩
 |.int i1,.scr l2,hn,rx,ry=>
  obtain⟨k1,rfl⟩:∃k,u=Qe i1 k:=by unfold ReV at rx;exact rx
  unfold ReV at ry;obtain⟨a2,us2,rfl,h2,q2⟩:=ry;exact⟨EqAt.int_list i1 k1 h2 hu,RcAt.int_list i1 k1 h2 hu,RcNeAt.int_list i1 k1 h2 hu⟩
 |.str x1,.non,hn,rx,ry=>
  obtain⟨k1,rfl⟩:∃k,u=QF x1 k:=by unfold ReV at rx;exact rx
  obtain rfl:v=Po:=by unfold ReV at ry;exact ry
  exact⟨EqAt.str_none x1 k1,RcAt.str_none x1 k1,RcNeAt.str_none x1 k1⟩
 |.str x1,.bl b2,hn,rx,ry=>
  obtain⟨k1,rfl⟩:∃k,u=QF x1 k:=by unfold ReV at rx;exact rx
  obtain rfl:v=Pq b2:=by unfold ReV at ry;exact ry
  exact⟨EqAt.str_bool x1 k1 b2,RcAt.str_bool x1 k1 b2,RcNeAt.str_bool x1 k1 b2⟩
 |.str x1,.int i2,hn,rx,ry=>
  obtain⟨k1,rfl⟩:∃k,u=QF x1 k:=by unfold ReV at rx;exact rx
  obtain⟨k2,rfl⟩:∃k,v=Qe i2 k:=by unfold ReV at ry;exact ry
  exact⟨EqAt.str_int x1 k1 i2 k2,RcAt.str_int x1 k1 i2 k2,RcNeAt.str_int x1 k1 i2 k2⟩
 |.str x1,.str x2,hn,rx,ry=>
  obtain⟨k1,rfl⟩:∃k,u=QF x1 k:=by unfold ReV at rx;exact rx
  obtain⟨k2,rfl⟩:∃k,v=QF x2 k:=by unfold ReV at ry;exact ry
  exact⟨EqAt.str_str x1 k1 x2 k2,RcAt.str_str x1 k1 x2 k2,RcNeAt.str_str x1 k1 x2 k2⟩
 |.str x1,.tup l2,hn,rx,ry=>
  obtain⟨k1,rfl⟩:∃k,u=QF x1 k:=by unfold ReV at rx;exact rx
  unfold ReV at ry;obtain⟨a2,us2,rfl,h2,q2⟩:=ry;exact⟨EqAt.str_tuple x1 k1 h2 hu,RcAt.str_tuple x1 k1 h2 hu,RcNeAt.str_tuple x1 k1 h2 hu⟩
 |.str x1,.lst l2,hn,rx,ry=>
  obtain⟨k1,rfl⟩:∃k,u=QF x1 k:=by unfold ReV at rx;exact rx
  unfold ReV at ry;obtain⟨a2,us2,rfl,h2,q2⟩:=ry;exact⟨EqAt.str_list x1 k1 h2 hu,RcAt.str_list x1 k1 h2 hu,RcNeAt.str_list x1 k1 h2 hu⟩
 |.str x1,.scr l2,hn,rx,ry=>
  obtain⟨k1,rfl⟩:∃k,u=QF x1 k:=by unfold ReV at rx;exact rx
  unfold ReV at ry;obtain⟨a2,us2,rfl,h2,q2⟩:=ry;exact⟨EqAt.str_list x1 k1 h2 hu,RcAt.str_list x1 k1 h2 hu,RcNeAt.str_list x1 k1 h2 hu⟩
 |.tup l1,.non,hn,rx,ry=>
  unfold ReV at rx;obtain⟨a1,us1,rfl,h1,q1⟩:=rx;obtain rfl:v=Po:=by unfold ReV at ry;exact ry
  exact⟨EqAt.tuple_none h1 hu,RcAt.tuple_none h1 hu,RcNeAt.tuple_none h1 hu⟩
 |.tup l1,.bl b2,hn,rx,ry=>
  unfold ReV at rx;obtain⟨a1,us1,rfl,h1,q1⟩:=rx;obtain rfl:v=Pq b2:=by unfold ReV at ry;exact ry
  exact⟨EqAt.tuple_bool b2 h1 hu,RcAt.tuple_bool b2 h1 hu,RcNeAt.tuple_bool b2 h1 hu⟩
 |.tup l1,.int i2,hn,rx,ry=>
  unfold ReV at rx;obtain⟨a1,us1,rfl,h1,q1⟩:=rx;obtain⟨k2,rfl⟩:∃k,v=Qe i2 k:=by unfold ReV at ry;exact ry
  exact⟨EqAt.tuple_int i2 k2 h1 hu,RcAt.tuple_int i2 k2 h1 hu,RcNeAt.tuple_int i2 k2 h1 hu⟩
 |.tup l1,.str x2,hn,rx,ry=>
  unfold ReV at rx;obtain⟨a1,us1,rfl,h1,q1⟩:=rx;obtain⟨k2,rfl⟩:∃k,v=QF x2 k:=by unfold ReV at ry;exact ry
  exact⟨EqAt.tuple_str x2 k2 h1 hu,RcAt.tuple_str x2 k2 h1 hu,RcNeAt.tuple_str x2 k2 h1 hu⟩
 |.tup _,.tup _,hn,_,_=>exact hn.elim
 |.tup l1,.lst l2,hn,rx,ry=>
  unfold ReV at rx;obtain⟨a1,us1,rfl,h1,q1⟩:=rx;unfold ReV at ry;obtain⟨a2,us2,rfl,h2,q2⟩:=ry;exact⟨EqAt.tuple_list h1 h2 hu,RcAt.tuple_list h1 h2 hu,RcNeAt.tuple_list h1 h2 hu⟩
 |.tup l1,.scr l2,hn,rx,ry=>
  unfold ReV at rx;obtain⟨a1,us1,rfl,h1,q1⟩:=rx;unfold ReV at ry;obtain⟨a2,us2,rfl,h2,q2⟩:=ry;exact⟨EqAt.tuple_list h1 h2 hu,RcAt.tuple_list h1 h2 hu,RcNeAt.tuple_list h1 h2 hu⟩
 |.lst l1,.non,hn,rx,ry=>
  unfold ReV at rx;obtain⟨a1,us1,rfl,h1,q1⟩:=rx;obtain rfl:v=Po:=by unfold ReV at ry;exact ry
  exact⟨EqAt.list_none h1 hu,RcAt.list_none h1 hu,RcNeAt.list_none h1 hu⟩
 |.lst l1,.bl b2,hn,rx,ry=>
  unfold ReV at rx;obtain⟨a1,us1,rfl,h1,q1⟩:=rx;obtain rfl:v=Pq b2:=by unfold ReV at ry;exact ry
  exact⟨EqAt.list_bool b2 h1 hu,RcAt.list_bool b2 h1 hu,RcNeAt.list_bool b2 h1 hu⟩
 |.lst l1,.int i2,hn,rx,ry=>
  unfold ReV at rx;obtain⟨a1,us1,rfl,h1,q1⟩:=rx;obtain⟨k2,rfl⟩:∃k,v=Qe i2 k:=by unfold ReV at ry;exact ry
  exact⟨EqAt.list_int i2 k2 h1 hu,RcAt.list_int i2 k2 h1 hu,RcNeAt.list_int i2 k2 h1 hu⟩
 |.lst l1,.str x2,hn,rx,ry=>
  unfold ReV at rx;obtain⟨a1,us1,rfl,h1,q1⟩:=rx;obtain⟨k2,rfl⟩:∃k,v=QF x2 k:=by unfold ReV at ry;exact ry
  exact⟨EqAt.list_str x2 k2 h1 hu,RcAt.list_str x2 k2 h1 hu,RcNeAt.list_str x2 k2 h1 hu⟩
 |.lst l1,.tup l2,hn,rx,ry=>
  unfold ReV at rx;obtain⟨a1,us1,rfl,h1,q1⟩:=rx;unfold ReV at ry;obtain⟨a2,us2,rfl,h2,q2⟩:=ry;exact⟨EqAt.list_tuple h1 h2 hu,RcAt.list_tuple h1 h2 hu,RcNeAt.list_tuple h1 h2 hu⟩
 |.lst _,.lst _,hn,_,_=>exact hn.elim
 |.lst _,.scr _,hn,_,_=>exact hn.elim
 |.scr l1,.non,hn,rx,ry=>
  unfold ReV at rx;obtain⟨a1,us1,rfl,h1,q1⟩:=rx;obtain rfl:v=Po:=by unfold ReV at ry;exact ry
  exact⟨EqAt.list_none h1 hu,RcAt.list_none h1 hu,RcNeAt.list_none h1 hu⟩
 |.scr l1,.bl b2,hn,rx,ry=>
  unfold ReV at rx;obtain⟨a1,us1,rfl,h1,q1⟩:=rx;obtain rfl:v=Pq b2:=by unfold ReV at ry;exact ry
  exact⟨EqAt.list_bool b2 h1 hu,RcAt.list_bool b2 h1 hu,RcNeAt.list_bool b2 h1 hu⟩
 |.scr l1,.int i2,hn,rx,ry=>
  unfold ReV at rx;obtain⟨a1,us1,rfl,h1,q1⟩:=rx;obtain⟨k2,rfl⟩:∃k,v=Qe i2 k:=by unfold ReV at ry;exact ry
  exact⟨EqAt.list_int i2 k2 h1 hu,RcAt.list_int i2 k2 h1 hu,RcNeAt.list_int i2 k2 h1 hu⟩
 |.scr l1,.str x2,hn,rx,ry=>
  unfold ReV at rx;obtain⟨a1,us1,rfl,h1,q1⟩:=rx;obtain⟨k2,rfl⟩:∃k,v=QF x2 k:=by unfold ReV at ry;exact ry
  exact⟨EqAt.list_str x2 k2 h1 hu,RcAt.list_str x2 k2 h1 hu,RcNeAt.list_str x2 k2 h1 hu⟩
 |.scr l1,.tup l2,hn,rx,ry=>
  unfold ReV at rx;obtain⟨a1,us1,rfl,h1,q1⟩:=rx;unfold ReV at ry;obtain⟨a2,us2,rfl,h2,q2⟩:=ry;exact⟨EqAt.list_tuple h1 h2 hu,RcAt.list_tuple h1 h2 hu,RcNeAt.list_tuple h1 h2 hu⟩
 |.scr _,.lst _,hn,_,_=>exact hn.elim
 |.scr _,.scr _,hn,_,_=>exact hn.elim
def Ee:∀(n:Nat)(A:OW)(s:Oe)(x y:T)(u v:Ob),(x.dep<=n\/y.dep<=n)->A.units+n<cLine->ReV s x u->ReV s y v->EqAt A s u v (aS x y)/\RcAt A s u v (aS x y)/\RcNeAt A s u v (!aS x y):=by
 intro n;induction n with
 |zero=>
  intro A s x y u v hd hu rx ry;exact wW A s x y u v (by cases x <;> cases y <;> simp_all [kn,T.dep]) (by omega) rx ry
 |succ n ih=>
  intro A s x y u v hd hu rx ry;have hin:A.in1.units+n<cLine:=by show A.units+1+n<cLine;omega
  have items:∀(l m:List T)(us vs:List Ob),(deps l<=n\/deps m<=n)->ReVs s l us->ReVs s m vs->∃e:Nat->Bool,(∀j (h1:j<us.toArray.size) (h2:j<vs.toArray.size),EqAt A.in1 s us.toArray[j] vs.toArray[j] (e j)) ∧
    (∀(j:Nat) t u,l[j]?=ZA t->m[j]?=ZA u->e j=aS t u):=λl m us vs hd r1 r2=>by
   refine⟨λj=>aS (l.getD j .non) (m.getD j .non),λj h1 h2=>?_,λj t u e1 e2=>by simp[UE,e1,e2]⟩;have l1:=r1.length;have l2:=r2.length;have h1':j<l.length:=by rw[l1];simpa using h1
   have h2':j<m.length:=by rw[l2];simpa using h2
   have e1:l[j]?=ZA l[j]:=by simp
   have e2:m[j]?=ZA m[j]:=by simp
   obtain⟨u1,z1,w1⟩:=r1.get e1;obtain⟨u2,z2,w2⟩:=r2.get e2;have q1:us.toArray[j]=u1:=by
    have:us[j]?=ZA us.toArray[j]:=by simp
    rw[z1]at this;exact(OQ this).symm
   have q2:vs.toArray[j]=u2:=by
    have:vs[j]?=ZA vs.toArray[j]:=by simp
    rw[z2]at this;exact(OQ this).symm
   rw[q1,q2];have g1:l.getD j .non=l[j]:=by simp[UE,e1]
   have g2:m.getD j .non=m[j]:=by simp[UE,e2]
   show EqAt A.in1 s u1 u2 (aS (l.getD j .non) (m.getD j .non));rw[g1,g2];refine(ih A.in1 s l[j] m[j] u1 u2 ?_ hin w1 w2).1;rcases hd with hd|hd
   .exact .inl (OJ (i5 e1) hd)
   .exact .inr (OJ (i5 e2) hd)
  have lists:∀(l m:List T)(a b:ZE)(us vs:List Ob),(deps l<=n\/deps m<=n)->ReVs s l us->ReVs s m vs->s.heap.IsList a us.toArray->s.heap.IsList b vs.toArray ->
    EqAt A s (.ref a) (.ref b) (beqTs l m)/\RcAt A s (.ref a) (.ref b) (beqTs l m)/\RcNeAt A s (.ref a) (.ref b) (!beqTs l m):=λl m a b us vs hd r1 r2 h1 h2=>by
   have l1:=r1.length;have l2:=r2.length;have key:RcAt A s (.ref a) (.ref b) (beqTs l m)/\RcNeAt A s (.ref a) (.ref b) (!beqTs l m):=by
    by_cases hl:l.length=m.length
    .obtain⟨e,he,hb⟩:=items l m us vs hd r1 r2;have q:=kK l m e hb;have q2:beqTs l m=(Oo us.toArray.size).all e:=by rw[q,hl,Wu];simp[l2.symm,hl.symm,l1]
     rw[q2];have hsz:us.toArray.size=vs.toArray.size:=by simp;omega
     exact⟨RcAt.lists h1 h2 hsz (by omega) he,RcNeAt.lists h1 h2 hsz (by omega) he⟩
    .rw[sP hl];have hsz:(us.toArray.size != vs.toArray.size)=ZC:=by simp;omega
     exact⟨RcAt.lists_lengths h1 h2 hsz (by omega),RcNeAt.lists_lengths h1 h2 hsz (by omega)⟩
   refine⟨?_,key⟩;by_cases hab:a=b
   .subst hab;have:=dD h1 h2;subst this;rw[ReVs.refl r1 r2];exact EqAt.same _
   .exact EqAt.of_refs hab key.1
  cases x with
  |tup l=>
   cases y with
   |tup m=>
    unfold ReV at rx ry;obtain⟨a,us,rfl,h1,r1⟩:=rx;obtain⟨b,vs,rfl,h2,r2⟩:=ry;have hd':deps l<=n\/deps m<=n:=by simp only[T.dep]at hd;omega
    have l1:=r1.length;have l2:=r2.length;obtain⟨e,he,hb⟩:=items l m us vs hd' r1 r2;have q:=kK l m e hb;have q2:beqTs l m=((Oo (min us.toArray.size vs.toArray.size)).all e&&us.toArray.size == vs.toArray.size):=by rw[q];simp[l1,l2]
    have key:RcAt A s (.ref a) (.ref b) (beqTs l m)/\RcNeAt A s (.ref a) (.ref b) (!beqTs l m):=by rw[q2];exact⟨RcAt.tuples h1 h2 (by omega) he,RcNeAt.tuples h1 h2 (by omega) he⟩
    unfold aS;refine⟨?_,key⟩;by_cases hab:a=b
    .subst hab;have:=jT h1 h2;subst this;rw[ReVs.refl r1 r2];exact EqAt.same _
    .exact EqAt.of_refs hab key.1
   |_=>exact wW A s _ _ u v (by simp[kn]) (by omega) rx ry
  |lst l=>
   cases y with
   |lst m=>
    unfold ReV at rx ry;obtain⟨a,us,rfl,h1,r1⟩:=rx;obtain⟨b,vs,rfl,h2,r2⟩:=ry;unfold aS;exact lists l m a b us vs (by simp only[T.dep]at hd;omega) r1 r2 h1 h2
   |scr m=>
    unfold ReV at rx ry;obtain⟨a,us,rfl,h1,r1⟩:=rx;obtain⟨b,vs,rfl,h2,r2⟩:=ry;unfold aS;exact lists l (m.map T.int) a b us vs (by rw[gJ];omega) r1 (fm r2) h1 h2
   |_=>exact wW A s _ _ u v (by simp[kn]) (by omega) rx ry
  |scr l=>
   cases y with
   |lst m=>
    unfold ReV at rx ry;obtain⟨a,us,rfl,h1,r1⟩:=rx;obtain⟨b,vs,rfl,h2,r2⟩:=ry;unfold aS;rw[qM];exact lists (l.map T.int) m a b us vs (by rw[gJ];omega) (fm r1) r2 h1 h2
   |scr m=>
    unfold ReV at rx ry;obtain⟨a,us,rfl,h1,r1⟩:=rx;obtain⟨b,vs,rfl,h2,r2⟩:=ry;unfold aS;rw[tN];exact lists (l.map T.int) (m.map T.int) a b us vs (by rw[gJ];omega) (fm r1) (fm r2) h1 h2
   |_=>exact wW A s _ _ u v (by simp[kn]) (by omega) rx ry
  |_=>exact wW A s _ _ u v (by simp[kn]) (by omega) rx ry
mutual
def T.nf:T->T
 |.tup l=>.tup (nfs l)
 |.lst l=>.lst (nfs l)
 |.scr l=>.lst (l.map .int)
 |.non=>.non
 |.bl b=>.bl b
 |.int b=>.int b
 |.str b=>.str b
 |.dct a b=>.dct a b
def nfs:List T->List T
 |[] =>[]
 |t::l=>t.nf::nfs l
end
theorem wm:∀(l:List Int),nfs (l.map T.int)=l.map T.int
 |[] =>rfl
 |i::l=>by rw[Od,nfs,wm l];simp[T.nf]
mutual
theorem my:∀(t x:T),aS t.nf x=aS t x
 |.non,x=>by simp[T.nf]
 |.bl _,x=>by simp[T.nf]
 |.int _,x=>by simp[T.nf]
 |.str _,x=>by simp[T.nf]
 |.tup l,x=>by cases x <;> simp[T.nf,aS,beqTs_nf l]
 |.lst l,x=>by cases x <;> simp[T.nf,aS,beqTs_nf l]
 |.scr l,x=>by cases x <;> simp[T.nf,aS,qM,tN]
 |.dct _ _,x=>by simp[T.nf]
theorem beqTs_nf:∀(l m:List T),beqTs (nfs l) m=beqTs l m
 |[],m=>by simp[nfs]
 |t::l,m=>by cases m <;> simp[nfs,beqTs,my t,beqTs_nf l]
end
def J8{t:T}(r:ReV s t (.int i k)):t.nf=.int i:=by
 cases t with
 |non=>unfold ReV at r;cases r
 |bl b=>unfold ReV at r;cases r
 |int j=>unfold ReV at r;obtain⟨t,e⟩:=r;injection e with e1 _;subst e1;rfl
 |str x=>unfold ReV at r;obtain⟨t,e⟩:=r;cases e
 |tup l=>unfold ReV at r;obtain⟨a,its,e,_⟩:=r;cases e
 |lst l=>unfold ReV at r;obtain⟨a,its,e,_⟩:=r;cases e
 |scr l=>unfold ReV at r;obtain⟨a,its,e,_⟩:=r;cases e
 |dct _ _=>unfold ReV at r;exact r.elim
theorem zZ:∀{l:List T}{us:List Ob}{ns:List Int},ReVs s l us->Qq us ns->nfs l=ns.map T.int
 |[],us,ns,r,h=>by cases ReVs.Da.mp r;cases h;rfl
 |t::l,us,ns,r,h=>by
  obtain⟨u,ws,rfl,p,q⟩:=ReVs.me.mp r;cases h with
  |cons a b hh=>rw[nfs,J8 p,zZ q hh];rfl
mutual
theorem ReV.nf{s:Oe}:∀{t u:T}{v:Ob},ReV s t v->ReV s u v->t.nf=u.nf
 |.non,u,v,r,q=>by unfold ReV at r;subst r;cases u <;> (unfold ReV at q) <;> first|rfl| (cases q;done)| (obtain⟨_,e⟩:=q;cases e;done)| (obtain⟨_,_,e,_⟩:=q;cases e;done)
 |.bl b,u,v,r,q=>by unfold ReV at r;subst r;cases u <;> (unfold ReV at q) <;> first| (cases q;done)| (cases q;rfl)| (obtain⟨_,e⟩:=q;cases e;done)| (obtain⟨_,_,e,_⟩:=q;cases e;done)
 |.int b,u,v,r,q=>by unfold ReV at r;obtain⟨k,rfl⟩:=r;cases u <;> (unfold ReV at q) <;> first| (cases q;done)| (obtain⟨_,e⟩:=q;cases e;done)| (obtain⟨_,e⟩:=q;cases e;rfl)| (obtain⟨_,_,e,_⟩:=q;cases e;done)
 |.str b,u,v,r,q=>by unfold ReV at r;obtain⟨k,rfl⟩:=r;cases u <;> (unfold ReV at q) <;> first| (cases q;done)| (obtain⟨_,e⟩:=q;cases e;done)| (obtain⟨_,e⟩:=q;cases e;rfl)| (obtain⟨_,_,e,_⟩:=q;cases e;done)
 |.tup l,u,v,r,q=>by
  unfold ReV at r;obtain⟨a,its,rfl,h1,h2⟩:=r;cases u with
  |non=>unfold ReV at q;cases q
  |dct _ _=>unfold ReV at q;exact q.elim
  |bl _=>unfold ReV at q;cases q
  |int _=>unfold ReV at q;obtain⟨_,e⟩:=q;cases e
  |str _=>unfold ReV at q;obtain⟨_,e⟩:=q;cases e
  |tup m=>
   unfold ReV at q;obtain⟨a',its',e,h1',h2'⟩:=q;injection e with e;subst e;have:=jT h1 h1';subst this;unfold T.nf;rw[ReVs.nf h2 h2']
  |lst m=>unfold ReV at q;obtain⟨a',its',e,h1',h2'⟩:=q;injection e with e;subst e;exact absurd rfl (ne_of_list_tuple h1' h1)
  |scr m=>unfold ReV at q;obtain⟨a',its',e,h1',h2'⟩:=q;injection e with e;subst e;exact absurd rfl (ne_of_list_tuple h1' h1)
 |.lst l,u,v,r,q=>by
  unfold ReV at r;obtain⟨a,its,rfl,h1,h2⟩:=r;cases u with
  |non=>unfold ReV at q;cases q
  |dct _ _=>unfold ReV at q;exact q.elim
  |bl _=>unfold ReV at q;cases q
  |int _=>unfold ReV at q;obtain⟨_,e⟩:=q;cases e
  |str _=>unfold ReV at q;obtain⟨_,e⟩:=q;cases e
  |lst m=>
   unfold ReV at q;obtain⟨a',its',e,h1',h2'⟩:=q;injection e with e;subst e;have:=dD h1 h1';subst this;unfold T.nf;rw[ReVs.nf h2 h2']
  |tup m=>unfold ReV at q;obtain⟨a',its',e,h1',h2'⟩:=q;injection e with e;subst e;exact absurd rfl (ne_of_list_tuple h1 h1')
  |scr m=>
   unfold ReV at q;obtain⟨a',its',e,h1',h2'⟩:=q;injection e with e;subst e;have:=dD h1 h1';subst this;unfold T.nf;rw[ReVs.nf h2 (fm h2'),wm]
 |.scr l,u,v,r,q=>by
  unfold ReV at r;obtain⟨a,its,rfl,h1,h2⟩:=r;cases u with
  |non=>unfold ReV at q;cases q
  |dct _ _=>unfold ReV at q;exact q.elim
  |bl _=>unfold ReV at q;cases q
  |int _=>unfold ReV at q;obtain⟨_,e⟩:=q;cases e
  |str _=>unfold ReV at q;obtain⟨_,e⟩:=q;cases e
  |lst m=>
   unfold ReV at q;obtain⟨a',its',e,h1',h2'⟩:=q;injection e with e;subst e;have:=dD h1 h1';subst this;have z:=zZ h2' h2;unfold T.nf;rw[z]
  |tup m=>unfold ReV at q;obtain⟨a',its',e,h1',h2'⟩:=q;injection e with e;subst e;exact absurd rfl (ne_of_list_tuple h1 h1')
  |scr m=>
   unfold ReV at q;obtain⟨a',its',e,h1',h2'⟩:=q;injection e with e;subst e;have:=dD h1 h1';subst this;rw[jU h2 h2']
 |.dct _ _,u,v,r,q=>by unfold ReV at r;exact r.elim
theorem ReVs.nf{s:Oe}:∀{l m:List T}{us:List Ob},ReVs s l us->ReVs s m us->nfs l=nfs m
 |[],m,us,r,q=>by
  cases ReVs.Da.mp r;cases m with
  |nil=>rfl
  |cons _ _=>obtain⟨_,_,e,_⟩:=ReVs.me.mp q;cases e
 |t::l,m,us,r,q=>by
  obtain⟨v,ws,rfl,p,z⟩:=ReVs.me.mp r;cases m with
  |nil=>cases ReVs.Da.mp q
  |cons u m=>
   obtain⟨v',ws',e,p',z'⟩:=ReVs.me.mp q;injection e with e1 e2;subst e1 e2;rw[nfs,nfs,ReV.nf p p',ReVs.nf z z']
end
variable{x y:T}
section
variable {a b c:ZG}{fa fb fc:Y2}
noncomputable def iF(x y:T):Bool:=(decide (x.dep<=60)||decide (y.dep<=60))&&(x.nd&&y.nd)
def oh(x y:T):Rs T:=if iF x y=ZC then .ok (.bl (aS x y))else .bad
noncomputable def qf(x y:T):Rs T:=if iF x y=ZC then .ok (.bl (!aS x y))else .bad
def g9(h:x.dep<=60)(hx:x.nd=ZC)(hy:y.nd=ZC):iF x y=ZC:=by unfold iF;rw[decide_eq_true h,hx,hy];rfl
def wR(h:y.dep<=60)(hx:x.nd=ZC)(hy:y.nd=ZC):iF x y=ZC:=by unfold iF;rw[decide_eq_true h,hx,hy,Wv];rfl
def kI(h:iF x y=ZC):x.nd=ZC/\y.nd=ZC:=by unfold iF at h;exact QM.mp (QM.mp h).2
def sj(h:iF x y=ZC):x.dep<=60\/y.dep<=60:=by
 unfold iF at h;replace h:=(QM.mp h).1;rcases Bool.or_eq_true_iff.mp h with h|h
 .exact .inl (of_decide_eq_true h)
 .exact .inr (of_decide_eq_true h)
def k4(hu:X.A.units+60<cLine):OpT X (Pp .Eq) oh:=by
 intro kw s σ H O x y vx vy ux uy Q I hf rx ry r1 r2 hp;unfold oh at hp;split at hp
 .rename_i h;have z:=Ee 60 X.A s x y ux uy (sj h) hu (Rep.val I (kI h).1 rx r1) (Rep.val I (kI h).2 ry r2);exact z.2.1 _ _ _ _ ⟨.bl _,H,I,rfl,hp H (Same.refl H) _ (Rep.bl_ _)⟩
 .exact hp.elim
def kZ(hu:X.A.units+60<cLine):OpT X (Pp .NotEq) qf:=by
 intro kw s σ H O x y vx vy ux uy Q I hf rx ry r1 r2 hp;unfold qf at hp;split at hp
 .rename_i h;have z:=Ee 60 X.A s x y ux uy (sj h) hu (Rep.val I (kI h).1 rx r1) (Rep.val I (kI h).2 ry r2);exact z.2.2 _ _ _ _ ⟨.bl _,H,I,rfl,hp H (Same.refl H) _ (Rep.bl_ _)⟩
 .exact hp.elim
noncomputable def T.items:T->Option (List T)
 |.tup l=>ZA l
 |.lst l=>ZA l
 |.scr l=>ZA (l.map T.int)
 |_=>ZB
def fU(x:T)(l:List T):Bool:=l.any λy=>aS y x
noncomputable def sh(x y:T):Rs T:=match y.items with
 |some l=>if (x.dep<=60\/deps l<=60)/\x.nd=ZC/\y.nd=ZC then .ok (.bl (fU x l))else .bad
 |none=>.bad
def Gi(rx:ReV s x ux)(hu:A.units+60<cLine)(hd:x.dep<=60\/deps l<=60)(r:ReVs s l us):
  ∃e:Ob->Bool,(∀y∈us,EqAt A s y ux (e y))/\us.any e=fU x l:=by
 classical
 have ex:∀y∈us,∃t∈l,ReV s t y:=λy hy=>by
  obtain⟨i,hi,rfl⟩:=Rq hy;have hl:=r.length;have e1:l[i]?=ZA l[i]:=by simp
  obtain⟨u,q1,q2⟩:=r.get e1;have:us[i]?=ZA us[i]:=by simp
  rw[this]at q1;cases q1;exact⟨l[i],PR _,q2⟩
 let e:Ob->Bool:=λy=>decide (∃t∈l,ReV s t y/\aS t x=ZC)
 have dep:∀t∈l,t.dep<=60\/x.dep<=60:=λt ht=>by
  rcases hd with h|h
  .exact .inr h
  .obtain⟨i,hi,rfl⟩:=Rq ht;exact .inl (OJ (i5 (i:=i) (by simp)) h)
 have uniq:∀y t t',ReV s t y->ReV s t' y->aS t x=aS t' x:=λy t t' z z'=>by rw[<-my t,<-my t',ReV.nf z z']
 have agree:∀y t,t∈l->ReV s t y->e y=aS t x:=λy t h z=>by
  show decide (∃t∈l,ReV s t y/\aS t x=ZC)=aS t x;cases q:aS t x with
  |true=>exact decide_eq_true ⟨t,h,z,q⟩
  |false=>
   refine decide_eq_false ?_;rintro ⟨t',h',z',q'⟩;rw[<-uniq y t t' z z',q]at q';cases q'
 refine⟨e,λy hy=>?_,?_⟩
 .obtain⟨t,h,z⟩:=ex y hy;rw[agree y t h z];exact(Ee 60 A s t x y ux (dep t h) hu z rx).1
 .have go:∀(l':List T)(us':List Ob),(∀t∈l',t∈l)->ReVs s l' us'->us'.any e=l'.any λy=>aS y x:=by
   intro l';induction l' with
   |nil=>intro us' _ r';rw[ReVs.Da.mp r'];rfl
   |cons t l' ih=>
    intro us' sub r';obtain⟨u,ws,rfl,p,q⟩:=ReVs.me.mp r';rw[Q7,Q7,ih ws (λt ht=>sub t (N9 _ ht)) q,agree u t (sub t Of) p]
  exact go l us (λ_ h=>h) r
def A5{u:Ob}(r:ReV s y u)(h:y.items=ZA l):∃a us,u=.ref a/\ReVs s l us/\(s.heap.IsTuple a us.toArray\/s.heap.IsList a us.toArray):=by
 cases y with
 |tup m=>cases h;unfold ReV at r;obtain⟨a,us,e,h1,h2⟩:=r;exact⟨a,us,e,h2,.inl h1⟩
 |lst m=>cases h;unfold ReV at r;obtain⟨a,us,e,h1,h2⟩:=r;exact⟨a,us,e,h2,.inr h1⟩
 |scr m=>cases h;unfold ReV at r;obtain⟨a,us,e,h1,h2⟩:=r;exact⟨a,us,e,fm h2,.inr h1⟩
 |_=>cases h
def vW(hu:X.A.units+61<cLine):OpT X (Pp .In) sh:=by
 intro kw s σ H O x y vx vy ux uy Q I hf rx ry r1 r2 hp;unfold sh at hp;split at hp
 .rename_i l hl;split at hp
  .rename_i hd3;obtain⟨hd,hnx,hny⟩:=hd3;obtain⟨a,us,rfl,rs,hh⟩:=A5 (Rep.val I hny ry r2) hl;obtain⟨e,he,ha⟩:=Gi (A:=X.A.in1) (Rep.val I hnx rx r1) (by show X.A.units+1+60<cLine;omega) hd rs;have q:=hp H (Same.refl H) _ (Rep.bl_ (fU x l));have he':∀y,y∈us.toArray->EqAt X.A.in1 s y ux (e y):=λy hy=>he y (by simpa using hy);have ha':us.toArray.any e=fU x l:=by simpa using ha
   rcases hh with hh|hh
   .exact in_tupleAt e hh he' (by rw[ha'];exact⟨.bl _,H,I,rfl,q⟩)
   .exact in_listAt e hh he' (by rw[ha'];exact⟨.bl _,H,I,rfl,q⟩)
  .exact hp.elim
 .exact hp.elim
noncomputable def ch(g g':T->T->Rs T)(fa fb fc:Y2)(Z:En):Rs T:=do
 let x <-fa Z
 let y <-fb Z
 let z <-g x y
 match z with
 |.bl ZC=>do
  let w <-fc Z
  g' y w
 |.bl ZD=>.ok (.bl ZD)
 |_=>.bad
def FT{op':Xx}{g g':T->T->Rs T}(ho:OpT X (Pp op) g)(ho':OpT X (Pp op') g')(ha:c8 X a fa)(hb:c8 X b fb)(hc:c8 X c fc)
  (hm:autoParam (lastMarks [op,op'] [b,c]=ZD) v_):c8 X (.Compare a [op,op'] [b,c] pos) (ch g g' fa fb fc):=by
 intro kw s σ H Q I ⟨Z,O,E,hq⟩;have h1:=br E hq;refine Compare_chain (cL (ha kw s σ H _ I h1) λv s1 q=>chain_link ?_) hm;obtain⟨x,H1,I1,r1,t,rt,s',E',q1⟩:=q;have h2:=br (f:=fb) E' q1;refine cL (hb kw s1 σ H1 _ I1 h2) λu s2 hh_=>?_;obtain⟨y,H2,I2,r2,t2,rt2,s'',E'',q2⟩:=hh_;refine cL (ho kw s2 σ H2 O t t2 x y v u (λv' H'=>∃t',Rep X.K O H' t' v'/\Same H2 H'/\Post X H' (match t' with
  |.bl ZC=>fc Z >>= λw=>g' t2 w
  |.bl ZD=>.ok (.bl ZD)
  |_=>.bad) (λt H'=>∀v,Rep X.K O H' t v->Q v H')) I2 (λp=>E''.fresh) (rt.same s'') rt2 r1 r2 (Post.mono q2.bind λt' H' s3 q v rv=>⟨t',rv,s3,q⟩)) λd s3 q=>?_
 obtain⟨z,H3,I3,r3,t3,rt3,sm3,q3⟩:=q;have E3:=E''.same sm3;split at q3
 .cases Rep.FM.mp rt3;cases r3;refine Ph (ite_tt (chain_last ?_));have h4:=br (f:=fc) E3 q3;refine cL (hc kw s3 σ H3 _ I3 h4) λw' s4 q=>?_;obtain⟨z',H4,I4,r4,t4,rt4,s4',E4,q4⟩:=q;exact ho' kw s4 σ H4 O t2 t4 y z' u w' Q I4 (λp=>E4.fresh) ((rt2.same sm3).same s4') rt4 r2 r4 q4
 .cases Rep.FM.mp rt3;cases r3;refine Ph (ite_ff ⟨.bl ZD,H3,I3,rfl,q3 H3 (Same.refl H3) _ (Rep.bl_ ZD)⟩)
 .exact q3.elim
noncomputable def tb(f:Y2)(Z:En):Rs Bool:=do
 let x <-f Z
 match x with
 |.bl k=>.ok k
 |_=>.bad
noncomputable def bt(f:Y3)(Z:En):Rs T:=do
 let k <-f Z
 .ok (.bl k)
def IH{f:Y2}(h:c8 X e f)(he:autoParam (∀whole,isTrue e X.env whole=(do let v <-whole;standAt e.pos;holding [v] (truthy v))) t_):xA X e (tb f):=by
 intro kw s σ H Q I ⟨Z,O,E,hq⟩;refine CC h he kw s σ H Q I ?_;obtain⟨Z1,O1,E1,h1⟩:=br E hq;refine⟨Z1,O1,E1,Post.mono h1 λts H1 s1 q vs r=>?_⟩;obtain⟨t',r',s',E',q'⟩:=q vs r;split at q'
 .exact⟨_,Rep.FM.mp r',q' H1 (Same.refl H1)⟩
 .exact q'.elim
def IJ{g:T->T->Rs T}(ho:OpT X (Pp op) g)(ha:c8 X a fa)(hb:c8 X b fb)(hm:RS op b=ZD:=by rfl):xA X (.Compare a [op] [b] pos) (tb (o2 g fa fb)):=by
 intro kw s σ H Q I ⟨Z,O,E,hq⟩;have hq':Post X H (o2 g fa fb Z) λt H'=>∀v,Rep X.K O H' t v->∃k,v=.bl k/\Q k H':=Post.mono hq.bind λt H' s' q v r=>by
  split at q
  .exact⟨_,Rep.FM.mp r,q H' (Same.refl H')⟩
  .exact q.elim
 have h1:=br E hq';refine UP (cL (ha kw s σ H _ I h1) λv s1 q=>?_) hm;obtain⟨x,H1,I1,r1,t,rt,s',E',q1⟩:=q;have h2:=br (f:=fb) E' q1;refine cL (hb kw s1 σ H1 _ I1 h2) λu s2 hh_=>?_;obtain⟨y,H2,I2,r2,t2,rt2,s'',E'',q2⟩:=hh_;refine cL (ho kw s2 σ H2 O t t2 x y v u _ I2 (λp=>E''.fresh) (rt.same s'') rt2 r1 r2 q2) λd s3 hh_=>?_;obtain⟨z,H3,I3,r3,k,e,q3⟩:=hh_;subst e;cases r3;exact Ph ⟨H3,I3,q3⟩
noncomputable def qP(f g:Y3)(Z:En):Rs Bool:=do
 let k <-f Z
 if k then g Z else .ok ZD
noncomputable def vX(f g:Y3)(Z:En):Rs Bool:=do
 let k <-f Z
 if k then .ok ZC else g Z
noncomputable def fO(f:Y3)(Z:En):Rs Bool:=do
 let k <-f Z
 .ok (!k)
variable {f g:Y3}{dv:List ZG}
abbrev HX(X:Cx)(e:ZG)(f:Y3):Prop:=PW X e (B0 X f)
def FD(ha:xA X a f):HX X (.BoolOp .And [a] pos) f:=FV ha
def IF(ha:xA X a f):HX X (.BoolOp .Or [a] pos) f:=CA ha
def IG(ha:xA X a f)(hb:HX X (.BoolOp .And (b::dv) pos) g):HX X (.BoolOp .And (a::b::dv) pos) (qP f g):=by
 intro wh kw s σ H Q I ⟨Z,O,E,hq⟩;refine Jf ha hb wh kw s σ H Q I ?_;obtain⟨Z1,O1,E1,h1⟩:=lI E hq;refine⟨Z1,O1,E1,Post.mono h1 λk H1 s1 q=>?_⟩;obtain⟨s',E',q'⟩:=q;cases k with
 |true=>rw[if_pos rfl];exact⟨Z,O,E',by simpa using q'⟩
 |false=>rw[if_neg OG];exact q' H1 (Same.refl H1)
def Lg(ha:xA X a f)(hb:HX X (.BoolOp .Or (b::dv) pos) g):HX X (.BoolOp .Or (a::b::dv) pos) (vX f g):=by
 intro wh kw s σ H Q I ⟨Z,O,E,hq⟩;refine Hu ha hb wh kw s σ H Q I ?_;obtain⟨Z1,O1,E1,h1⟩:=lI E hq;refine⟨Z1,O1,E1,Post.mono h1 λk H1 s1 q=>?_⟩;obtain⟨s',E',q'⟩:=q;cases k with
 |true=>rw[if_pos rfl];exact q' H1 (Same.refl H1)
 |false=>rw[if_neg OG];exact⟨Z,O,E',by simpa using q'⟩
def qt_w(h:HX X e f):xA X e f:=h.pt
def II(ha:xA X a f):xA X (.UnaryOp .Not a pos) (fO f):=by intro kw s σ H Q I ⟨Z,O,E,hq⟩;refine CD ha kw s σ H Q I ?_;obtain⟨Z1,O1,E1,h1⟩:=lI E hq;exact⟨Z1,O1,E1,Post.mono h1 λk H1 s1 ⟨s',E',q'⟩=>q' H1 (Same.refl H1)⟩
noncomputable def dO(f g:Y2)(Z:En):Rs T:=do
 let x <-f Z
 match x with
 |.bl ZC=>g Z
 |.bl ZD=>.ok (.bl ZD)
 |_=>.bad
noncomputable def F8(f g:Y2)(Z:En):Rs T:=do
 let x <-f Z
 match x with
 |.bl ZC=>.ok (.bl ZC)
 |.bl ZD=>g Z
 |_=>.bad
noncomputable def uo:T->Rs T
 |.bl k=>.ok (.bl (!k))
 |_=>.bad
def Lp{op}(h:c8 X a fa):c8 X (.BoolOp op [a] pos) fa:=Jn h
def Lz(ha:c8 X a fa)(hb:c8 X (.BoolOp .And (b::dv) pos) fb):c8 X (.BoolOp .And (a::b::dv) pos) (dO fa fb):=by
 intro kw s σ H Q I ⟨Z,O,E,hq⟩;refine Jq ha hb kw s σ H Q I ?_;obtain⟨Z1,O1,E1,h1⟩:=br E hq;refine⟨Z1,O1,E1,Post.mono h1 λts H1 s1 q vs r=>?_⟩;obtain⟨t',r',s',E',q'⟩:=q vs r;split at q'
 .exact⟨ZC,Rep.FM.mp r',by rw[if_pos rfl];exact⟨Z,O,E',q'⟩⟩
 .exact⟨ZD,Rep.FM.mp r',by rw[if_neg OG];exact q' H1 (Same.refl H1) _ (Rep.bl_ ZD)⟩
 .exact q'.elim
def q_or(ha:c8 X a fa)(hb:c8 X (.BoolOp .Or (b::dv) pos) fb):c8 X (.BoolOp .Or (a::b::dv) pos) (F8 fa fb):=by
 intro kw s σ H Q I ⟨Z,O,E,hq⟩;refine LD ha hb kw s σ H Q I ?_;obtain⟨Z1,O1,E1,h1⟩:=br E hq;refine⟨Z1,O1,E1,Post.mono h1 λts H1 s1 q vs r=>?_⟩;obtain⟨t',r',s',E',q'⟩:=q vs r;split at q'
 .exact⟨ZC,Rep.FM.mp r',by rw[if_pos rfl];exact q' H1 (Same.refl H1) _ (Rep.bl_ ZC)⟩
 .exact⟨ZD,Rep.FM.mp r',by rw[if_neg OG];exact⟨Z,O,E',q'⟩⟩
 .exact q'.elim
def Lq(ha:c8 X a fa):c8 X (.UnaryOp .Not a pos) (o1 uo fa):=by
 intro kw s σ H Q I ⟨Z,O,E,hq⟩;refine Jo ha kw s σ H Q I ?_;obtain⟨Z1,O1,E1,h1⟩:=br E hq;refine⟨Z1,O1,E1,Post.mono h1 λts H1 s1 q vs r=>?_⟩;obtain⟨t',r',s',E',q'⟩:=q vs r;unfold uo at q';split at q'
 .exact⟨_,Rep.FM.mp r',q' H1 (Same.refl H1) _ (Rep.bl_ _)⟩
 .exact q'.elim
noncomputable def DT(f:Y3)(fa fb:Y2)(Z:En):Rs T:=do
 let k <-f Z
 if k then fa Z else fb Z
def q_if(hc:xA X c f)(ha:c8 X a fa)(hb:c8 X b fb):c8 X (.IfExp c a b pos) (DT f fa fb):=by
 intro kw s σ H Q I ⟨Z,O,E,hq⟩;refine CP hc ha hb kw s σ H Q I ?_;obtain⟨Z1,O1,E1,h1⟩:=lI E hq;refine⟨Z1,O1,E1,Post.mono h1 λk H1 s1 q=>?_⟩;obtain⟨s',E',q'⟩:=q;cases k with
 |true=>rw[if_pos rfl];exact⟨Z,O,E',by simpa using q'⟩
 |false=>rw[if_neg OG];exact⟨Z,O,E',by simpa using q'⟩
end
end Tr
namespace HT
open PySem PyProof.Rows
def kW{t:ZE}{items:Array Ob}{Q:Bool->Oe->Prop}(ht:Xw s.heap t items)(h:Q ZC s):ZJ (ZK prog w) A (Ti (.ref t)) Q E s:=by unfold Ti;refine N8 (Se ht.typeIs (Om ?_));exact h
def getItem_tuple_whole{t sl:ZE}{items:Array Ob}(ht:Xw s.heap t items)(hs:s.heap.IsSliceOf sl vl vu .none)(pl:VU vl lo)(pu:VU vu hi)
  (hw:sIx items.size 0 lo=0/\sIx items.size items.size hi=items.size) (h:Q (.ref t) s):ZJ (ZK prog w) A (getItem (.ref t) (.ref sl)) Q E s:=by
 obtain⟨os,hos,hcs,hds⟩:=id hs;have hTs:s.TypeIs (.ref sl) "slice":=⟨os,hos,hcs⟩;unfold getItem;try with_reducible refine P8 ?_
 first|refine N8 (Om ?_)|skip
 refine N8 (T2 ht.typeIs (by decide) ?_);refine N8 (Ql (name:=Oq "__getitem__") ht.typeIs OR
  (Q6 OR ht.typeIs Th ?_ (TF _ _)))
 show ZJ _ _ (RT (.ref t) >>= _) _ _ s;refine N8 (Ug ht ?_);refine N8 (Se hTs ?_);rw[if_pos (by decide)];refine N8 (iQ hs pl pu ?_);have hyes:(((sIx items.size 0 lo:Nat):Int) == 0&&(1:Int) == 1&&(sIx items.size items.size hi - sIx items.size 0 lo) == items.size)=ZC:=by rw[hw.1,hw.2];simp
 show ZJ _ _ (if (((sIx items.size 0 lo:Nat):Int) == 0&&(1:Int) == 1&&(sIx items.size items.size hi - sIx items.size 0 lo) == items.size)=ZC then _ else _) _ _ s;rw[if_pos hyes];first
  |refine N8 (kW ht ?_)
  |refine kW ht ?_
 try rw[if_pos rfl]
 first
  |exact N8 (SD (Om ⟨_,rfl,Om h⟩))
  |exact N8 (SD (N8 (Om (Om ⟨_,rfl,Om h⟩))))
def mO{sl:ZE}{t:Tok}{Q:Int×Int×Nat->Oe->Prop}(hs:s.heap.IsSliceOf sl .none .none (.int (-1) t))
  (h:Q ((n:Int) - 1,-1,n) s):ZJ (ZK prog w) A (Q3 (.ref sl) (pure (n:Int))) Q E s:=by
 obtain⟨os,hos,hcs,hds⟩:=id hs;unfold Q3 TH;refine N8 (N8 (Qw hos hds (x:=.none) rfl (N8 (Qw hos hds (x:=.none) rfl (N8 (Qw hos hds (x:=.int (-1) t) rfl (Om ?_)))))));refine N8 (slicePart_int ?_);show ZJ _ _ (if ((-1:Int) == 0)=ZC then _ else _) _ _ s;rw[if_neg (by decide)];refine N8 (TK (N8 (TK (N8 (Om ?_)))));show ZJ _ _ (match P4 ZB ZB (-1) (n:Int)with| (lo,hi)=>pure (lo,(-1:Int),Px lo hi (-1))) _ _ s;have e1:P4 ZB ZB (-1) (n:Int)=((n:Int) - 1,-1):=by simp[P4]
 have e2:Px ((n:Int) - 1) (-1) (-1)=n:=by unfold Px;simp only[show ¬((-1:Int) > 0)by decide,if_false,W7,UC];split <;> omega
 rw[e1];show ZJ _ _ (pure ((n:Int) - 1,(-1:Int),Px ((n:Int) - 1) (-1) (-1))) _ _ s;rw[e2];exact Om h
def vR(xs:List Ob):((Oo xs.length).filterMap λ(m:Nat)=>xs.toArray[(((xs.length:Int) - 1)+(m:Int)*(-1)).toNat]?)=xs.reverse:=by
 apply V6;intro i;have key:∀m∈Oo xs.length,xs.toArray[(((xs.length:Int) - 1)+(m:Int)*(-1)).toNat]?=ZA (xs.reverse.getD m .none):=λm hm=>by
  have hm':m<xs.length:=OZ.mp hm;have e:(((xs.length:Int) - 1)+(m:Int)*(-1)).toNat=xs.length - 1 - m:=by omega
  rw[e,List.getElem?_toArray,Og (by omega)];have:m<xs.reverse.length:=by simpa using hm'
  simp[UE,Og this,U5]
 have hmap:((Oo xs.length).filterMap λ(m:Nat)=>xs.toArray[(((xs.length:Int) - 1)+(m:Int)*(-1)).toNat]?)=(Oo xs.length).map λm=>xs.reverse.getD m .none:=by
  have gen:∀(r:List Nat)(f:Nat->Option Ob)(g:Nat->Ob),(∀m∈r,f m=ZA (g m))->r.filterMap f=r.map g:=by
   intro r f g;induction r with
   |nil=>intro _;rfl
   |cons m r ih=>
    intro h;rw[P9,h m Of,Od,ih λm' hm'=>h m' (N9 _ hm')]
  exact gen _ _ _ key
 rw[hmap];rw[Ox];by_cases hi:i<xs.length
 .have hr:i<xs.reverse.length:=by simpa using hi
  rw[Qt hi];simp[UE,Og hr]
 .rw[PQ (by simpa using hi),PQ (by simpa using hi)];rfl
def slicePick_rev(xs:List Ob):Xl xs.toArray ZB ZB (ZA (-1))=xs.reverse.toArray:=by
 have e:Xl xs.toArray ZB ZB (ZA (-1))=((sliceRange ((xs.toArray.size:Int) - 1) (-1) (-1)).filterMap (xs.toArray[·]?)).toArray:=rfl;rw[e,<-vR xs,Oy];unfold sliceRange;have c:(if ((xs.length:Int) - 1) > -1 then(((xs.length:Int) - 1) - (-1) - (-1) - 1) / (-(-1:Int))else 0).toNat=xs.length:=by rw[W7,UC];split <;> omega
 show(((Oo (if ((xs.length:Int) - 1) > -1 then(((xs.length:Int) - 1) - (-1) - (-1) - 1) / (-(-1:Int))else 0).toNat).map λ(k:Nat)=>(((xs.length:Int) - 1)+(-1)*(k:Int)).toNat).filterMap (xs.toArray[·]?)).toArray=_;rw[c,Tx];congr 2;funext k;show xs.toArray[(((xs.length:Int) - 1)+(-1)*(k:Int)).toNat]?=_;rw[UF]
def getItem_tuple_rev{u sl:ZE}{items:List Ob}{t:Tok}(ht:Xw s.heap u items.toArray)(hs:s.heap.IsSliceOf sl .none .none (.int (-1) t))
  (h:Q (.ref s.heap.objs.size) {s with heap:=s.heap.push {cls:=.type "tuple",data:=.seq items.reverse.toArray}})
  (hsz:items.length<=ZI):ZJ (ZK prog w) A (getItem (.ref u) (.ref sl)) Q E s:=by
 have htake:sizeOk (.seq items.reverse.toArray):=by show items.reverse.toArray.size<=ZI;simpa using hsz
 obtain⟨os,hos,hcs,hds⟩:=id hs;have hTs:s.TypeIs (.ref sl) "slice":=⟨os,hos,hcs⟩;unfold getItem;try with_reducible refine P8 ?_
 first|refine N8 (Om ?_)|skip
 refine N8 (T2 ht.typeIs (by decide) ?_);refine N8 (Ql (name:=Oq "__getitem__") ht.typeIs OR
  (Q6 OR ht.typeIs Th ?_ (TF _ _)))
 show ZJ _ _ (RT (.ref u) >>= _) _ _ s;refine N8 (Ug ht ?_);refine N8 (Se hTs ?_);rw[if_pos (by decide)];refine N8 (mO (n:=items.toArray.size) hs ?_);show ZJ _ _ (if ((((items.toArray.size:Nat):Int) - 1) == 0&&(-1:Int) == 1&&items.toArray.size == items.toArray.size)=ZC then _ else _) _ _ s;rw[if_neg (by simp)];have e:((Oo items.toArray.size).filterMap λ(m:Nat)=>items.toArray[((((items.toArray.size:Nat):Int) - 1)+(m:Int)*(-1)).toNat]?)=items.reverse:=by rw[Oy];exact vR items
 rw[e];first
  |exact N8 (m:=Pn _) (Pu (Om ⟨_,rfl,Om h⟩) htake)
  |exact N8 (m:=Pn _) (Pu (N8 (Om (Om ⟨_,rfl,Om h⟩))) htake)
  |exact N8 (N8 (m:=Pn _) (Pu (Om (Om ⟨_,rfl,Om h⟩)) htake))
  |exact N8 (N8 (m:=Pn _) (Pu (Om ⟨_,rfl,Om h⟩) htake))
end HT
variable{i:Nat}
namespace Tr
open PySem PySem.Spec PyProof.Rows L2
variable{H:Hp}{O:Ow}{X:Cx}{Z:En}{e:ZG}{es:List ZG}{fa fb fc:Y2}{l:List T}{p pos:Pos}{v:V}{vs:List V}{x:Str}{σ:L2.St}
section
variable {a b c:ZG}
theorem Reps.atI{i:Int}{t:T}(r:Reps K O H l vs)(e:L2.atI l i=ZA t):∃v,L2.atI vs i=ZA v/\Rep K O H t v:=by
 unfold L2.atI at e ⊢;rw[r.length]at e;cases q:ixN vs.length i with
 |none=>rw[q]at e;cases e
 |some j=>
  rw[q]at e;obtain⟨v,e1,e2⟩:=r.get (i:=j) (t:=t) e;exact⟨v,e1,e2⟩
noncomputable def aU(x y:T):Rs T:=match x.items,y with
 |some l,.int i=>match L2.atI l i with
  |some t=>.ok t
  |none=>.bad
 |_,_=>.bad
def q_ix(ha:c8 X a fa)(hb:c8 X b fb)(hs:autoParam (kL b) w_):c8 X (.Subscript a b pos) (o2 aU fa fb):=by
 intro kw s σ H Q I ⟨Z,O,E,hq⟩;have h1:=br E hq;refine UZ (cL (ha kw s σ H _ I h1) λv s1 hh_=>?_);obtain⟨x,H1,I1,r1,t,rt,s',E',q1⟩:=hh_;have h2:=br (f:=fb) E' q1;refine cL (hb kw s1 σ H1 _ I1 h2) λu s2 hh_=>?_;obtain⟨y,H2,I2,r2,t2,rt2,s'',E'',q2⟩:=hh_;have rt':=rt.same s'';unfold aU at q2;split at q2
 .rename_i l i hl;split at q2
  .rename_i z hz;have hy:=Rep.AC.mp rt2;refine J5 a b kw s2 σ H2 x y v u Q I2 r1 r2 ?_ (hs _ _);cases t with
   |tup m=>
    cases hl;obtain⟨p,vs,e,n,q,rr⟩:=Rep.Fk.mp rt';obtain⟨w,ew,rw'⟩:=rr.atI hz;exact .inr (.inl ⟨p,vs,i,w,e,hy,SqT.of q,ew,q2 H2 (Same.refl H2) _ rw'⟩)
   |lst m=>
    cases hl;obtain⟨p,vs,e,n,q,rr⟩:=Rep.Do.mp rt';obtain⟨w,ew,rw'⟩:=rr.atI hz;exact .inl ⟨p,vs,i,w,e,hy,SqL.of q,ew,q2 H2 (Same.refl H2) _ rw'⟩
   |scr m=>
    cases hl;unfold Rep at rt';obtain⟨p,e,n,q⟩:=rt';obtain⟨w,ew,rw'⟩:=(Reps.ints (K:=X.K) (O:=O) (H:=H2) (ns:=m)).atI hz;exact .inl ⟨p,_,i,w,e,hy,q,ew,q2 H2 (Same.refl H2) _ rw'⟩
   |_=>cases hl
  .exact q2.elim
 .exact q2.elim
def Reps.cut(r:Reps K O H l vs)(lo hi:Option Int):Reps K O H (oj l lo hi) (w8 vs lo hi):=by unfold oj w8;rw[r.length];exact(r.drop _).take _
def Bq(h:HT.sIx l.length 0 lo=0/\HT.sIx l.length l.length hi=l.length):oj l lo hi=l:=by unfold oj;rw[h.1,h.2];simp
def sl_tup_whole:SlR X (λx lo hi H Q=>∃a xs,x=.ref a/\SqT X.K H a xs/\(HT.sIx xs.length 0 lo=0/\HT.sIx xs.length xs.length hi=xs.length)/\Q (.ref a) H):=by
 intro kw s σ H x v vl vu lo hi sl Q I rx hs pl pu h;obtain⟨a,xs,rfl,hx,hw,q⟩:=h;cases rx;obtain⟨its,r,ht,hz⟩:=I.tuple hx;have hlen:its.toArray.size=xs.length:=by rw[Oy];exact r.length.symm
 refine⟨"tuple",_,OR.lookup,ht.typeIs,?_⟩;exact HT.getItem_tuple_whole ht hs pl pu (by rw[hlen];exact hw) ⟨.ref a,H,I,rfl,q⟩
def pN(_:En):Rs (Option Int):=.ok ZB
noncomputable def pS(f:Y2)(Z:En):Rs (Option Int):=do
 let x <-f Z
 match x with
 |.int i=>.ok (ZA i)
 |_=>.bad
def tPO(X:Cx)(f:En->Rs (Option Int)):TO:=λσ H Q=>∃Z O,EnvO X.K O H Z σ/\Post X H (f Z) λb H'=>Q b H'
abbrev MG(X:Cx)(e:Option ZG)(f:En->Rs (Option Int)):Prop:=PO X e (tPO X f)
def FK:MG X ZB pN:=by intro kw s σ H Q I ⟨Z,O,E,hq⟩;exact FZ kw s σ H Q I (hq H (Same.refl H))
def FJ(ha:c8 X a fa):MG X (ZA a) (pS fa):=by
 intro kw s σ H Q I ⟨Z,O,E,hq⟩;refine FY ha kw s σ H Q I ?_;obtain⟨Z1,O1,E1,h1⟩:=br E hq;refine⟨Z1,O1,E1,Post.mono h1 λts H1 s1 q vs r=>?_⟩;obtain⟨t',r',s',E',q'⟩:=q vs r;split at q'
 .exact⟨_,Rep.AC.mp r',q' H1 (Same.refl H1)⟩
 .exact q'.elim
def vn{f:En->Rs (Option Int)}{k:Option Int->Rs α}{Q:α->Hp->Prop}(E:EnvO X.K O H Z σ)(h:Post X H (f Z >>= k) Q):
  tPO X f σ H λb H'=>Same H H'/\EnvO X.K O H' Z σ/\Post X H' (k b) Q:=
 ⟨Z,O,E,Post.mono h.bind λt H' s q=>⟨s,E.same s,q⟩⟩
def FR{lo hi:Option ZG}{p2:Pos}{fl fu:En->Rs (Option Int)}(ha:c8 X a fa)(hl:MG X lo fl)(hu:MG X hi fu):c8 X (.Subscript a (.Slice lo hi ZB p2) pos) (sl fa fl fu):=by
 intro kw s σ H Q I ⟨Z,O,E,hq⟩;refine CN (sl_tup.or (sl_tup_whole.or Fp)) ha hl hu kw s σ H Q I ?_;obtain⟨Z1,O1,E1,h1⟩:=br E hq;refine⟨Z1,O1,E1,Post.mono h1 λts H1 s1 q vs r=>?_⟩;obtain⟨t',r',s',E',q'⟩:=q vs r;obtain⟨Z2,O2,E2,h2⟩:=vn E' q';refine⟨Z2,O2,E2,Post.mono h2 λo1 H2 s2 q=>?_⟩;obtain⟨s2',E2',q2⟩:=q;obtain⟨Z3,O3,E3,h3⟩:=vn E2' q2;refine⟨Z3,O3,E3,Post.mono h3 λo2 H3 s3 q=>?_⟩;obtain⟨s3',E3',q3⟩:=q;have rt:=(r'.same s2').same s3';unfold slT at q3;split at q3
 .rename_i l;obtain⟨p,ws,e,n,q,rr⟩:=Rep.Fk.mp rt;have hlen:=rr.length;by_cases hw:HT.sIx ws.length 0 o1=0/\HT.sIx ws.length ws.length o2=ws.length
  .refine .inr (.inl ⟨p,ws,e,SqT.of q,hw,?_⟩);rw[<-hlen]at hw;refine q3 H3 (Same.refl H3) _ ?_;rw[Bq hw];exact Rep.Fk.mpr ⟨p,ws,rfl,n,q,rr⟩
  .exact .inl ⟨p,ws,e,SqT.of q,hw,λp' hp=>q3 _ (aQ hp _) _ (gP hp (E3'.fresh hp) (rr.cut o1 o2))⟩
 .rename_i l;obtain⟨p,ws,e,n,q,rr⟩:=Rep.Do.mp rt;exact .inr (.inr ⟨p,ws,e,SqL.of q,λp' hp=>q3 _ (aQ hp _) _ (gQ hp (E3'.fresh hp) (rr.cut o1 o2))⟩)
 .exact q3.elim
noncomputable def Fw:T->Rs T
 |.tup l=>.ok (.tup l.reverse)
 |.lst l=>.ok (.lst l.reverse)
 |_=>.bad
theorem Reps.reverse:∀{l:List T}{vs:List V},Reps K O H l vs->Reps K O H l.reverse vs.reverse
 |[],vs,r=>by rw[Reps.Da.mp r];exact Reps.GM
 |t::l,vs,r=>by obtain⟨v,us,rfl,p,q⟩:=Reps.me.mp r;rw[Sy,Sy];exact q.reverse.append (Reps.Gc p Reps.GM)
def Lo{p1 p2 p3:Pos}(ha:c8 X a fa):c8 X (.Subscript a (.Slice ZB ZB (ZA (.UnaryOp .USub (.Constant (.int 1) j p1) p2)) p3) pos) (o1 Fw fa):=by
 intro kw s σ H Q I ⟨Z,O,E,hq⟩;have h1:=br E hq;refine UZ (cL (ha kw s σ H _ I h1) λv s1 hh_=>?_);obtain⟨x,H1,I1,r1,t,rt,s',E',q1⟩:=hh_;refine wpAny_Slice ?_;rw[VV];refine Om (Om ?_);rw[evalPart_some];refine cL (Hw BU x5 kw s1 σ H1 (λw' H'=>w'=.int (-1)/\H'=H1) I1 ⟨1,rfl,rfl,rfl⟩) λsv s2 hh_=>?_;obtain⟨w',H2,I2,r2,e1,e2⟩:=hh_;subst e1 e2;obtain⟨tk,rfl⟩:=r2;have I4:Inv X kw σ H2 {s2 with heap:=s2.heap.push {cls:=.type "slice",data:=.fields #[.none,.none,.int (-1) tk]}}:=I2.kept (t':=s2.toks) λb ob q=>Oi _ q;unfold Fw at q1;split at q1
 .rename_i l;obtain⟨p,ws,e,n,q,rr⟩:=Rep.Fk.mp rt;subst e;cases r1;obtain⟨its,r,ht,hz⟩:=I4.tuple (SqT.of q);have hs:Xu (s2.heap.push {cls:=.type "slice",data:=.fields #[.none,.none,.int (-1) tk]}) s2.heap.objs.size .none .none (.int (-1) tk):=Tv ..;refine tail_any (ops:=[.ref p,.ref s2.heap.objs.size]) ht.typeIs OR.lookup ?_ (by with_unfolding_all rfl);refine HT.getItem_tuple_rev ht hs ?_ (by rw[<-r.length];exact hz);refine⟨.ref _,_,I4.laid (t':=s2.toks) (o:=.tup ws.reverse) (λb ob q=>Oi _ q) (Ou _) ?_,rfl,?_⟩
  .exact⟨by rw[Vj];exact hz,_,r.reverse,Vx _ _⟩
  .have hn:=I4.hok.fresh (Ou _);exact q1 _ (aQ hn _) _ (gP hn (E'.fresh hn) rr.reverse)
 .rename_i l;obtain⟨p,ws,e,n,q,rr⟩:=Rep.Do.mp rt;subst e;cases r1;obtain⟨its,r,ht,hz⟩:=I4.list (SqL.of q);have hs:Xu (s2.heap.push {cls:=.type "slice",data:=.fields #[.none,.none,.int (-1) tk]}) s2.heap.objs.size .none .none (.int (-1) tk):=Tv ..;refine tail_any (ops:=[.ref p,.ref s2.heap.objs.size]) ht.isList.typeIs slot_list_getitem.lookup ?_ (by with_unfolding_all rfl);refine T3 ht.isList hs .none .none (.int (-1) tk) (by simp) ?_ (by rw[Oy,<-r.length];exact hz);rw[HT.slicePick_rev];refine⟨.ref _,_,I4.laid (t':=s2.toks) (o:=.lst ws.reverse) (λb ob q=>Oi _ q) (Ou _) ?_,rfl,?_⟩
  .exact⟨by rw[Vj];exact hz,_,0,r.reverse,OA _ rfl⟩
  .have hn:=I4.hok.fresh (Ou _);exact q1 _ (aQ hn _) _ (gQ hn (E'.fresh hn) rr.reverse)
 .exact q1.elim
def CallT(X:Cx)(f:Ob)(g:List T->Rs T):Prop:=
 ∀(kw:Uf)(s:Oe)(σ:L2.St)(H:Hp)(O:Ow)(ts:List T)(vs:List V)(us:List Ob)(Q:VK),Inv X kw σ H s->(∀p,H p=ZB->¬ O p)->Reps X.K O H ts vs->Vals vs us ->
  Post X H (g ts) (λt H'=>∀v,Rep X.K O H' t v->Q v H')->ZJ (ZK X.prog X.w) X.A (call f us) (EP X kw σ Q) X.xe s
def CallT.of{r:List V->Hp->VK->Prop}(h:CallR X f r){g:List T->Rs T}
  (w:∀(H:Hp)(O:Ow)(ts:List T)(vs:List V)(Q:VK),(∀p,H p=ZB->¬ O p)->Reps X.K O H ts vs->Post X H (g ts) (λt H'=>∀v,Rep X.K O H' t v->Q v H')->r vs H Q):CallT X f g:=
 λkw s σ H O ts vs us Q I hf rs rv hp=>h kw s σ H vs us Q I rv (w H O ts vs Q hf rs hp)
def cl(g:List T->Rs T)(fs:Y0)(Z:En):Rs T:=fs Z >>= g
variable {fs:Y0}{id:String}{g:List T->Rs T}
def zo(hc:CallT X (.builtin id) g)(hm:X.mg x=ZB)(hv:Pc x=ZA (.builtin id))(ha:qT X (e::es) fs)(hg:Gl X x:=by rfl)(hn:autoParam (x≠ "__name__") s_)(hdb:autoParam ((x == ("__debug__" : Str))=ZD) s_)
  (he:Oz (e::es) X.env=(ZD,eval e X.env)::Oz es X.env:=by rfl) (hpl:(backTo pos (Oz es X.env)).any (·.1)=ZD:=by rfl):c8 X (.Call (.Name x p) (e::es) [] pos) (cl g fs):=by
 intro kw s σ H Q I ⟨Z,O,E,hq⟩;refine Pd (fg I hg hm hv ?_ hn hdb);have h1:=eF E hq;exact QD (cL (ha pos kw s σ H _ I h1) λus s1 ⟨vs,H1,I1,r1,ts,rs,s',E',q1⟩=>hc kw s1 σ H1 O ts vs us Q I1 (λp=>E'.fresh) rs r1 q1) he hpl
def Cz(hc:CallT X (.type Ty) g)(hm:X.mg x=ZB)(hv:Pc x=ZA (.type Ty))(ha:qT X (e::es) fs)(hg:Gl X x:=by rfl)(hn:autoParam (x≠ "__name__") s_)(hdb:autoParam ((x == ("__debug__" : Str))=ZD) s_)
  (he:Oz (e::es) X.env=(ZD,eval e X.env)::Oz es X.env:=by rfl) (hpl:(backTo pos (Oz es X.env)).any (·.1)=ZD:=by rfl):c8 X (.Call (.Name x p) (e::es) [] pos) (cl g fs):=by
 intro kw s σ H Q I ⟨Z,O,E,hq⟩;refine Pd (fg I hg hm hv ?_ hn hdb);have h1:=eF E hq;exact Pb (cL (ha pos kw s σ H _ I h1) λus s1 ⟨vs,H1,I1,r1,ts,rs,s',E',q1⟩=>hc kw s1 σ H1 O ts vs us Q I1 (λp=>E'.fresh) rs r1 q1) he hpl
def Reps.one{t:T}(r:Reps K O H [t] vs):∃v,vs=[v]/\Rep K O H t v:=by obtain⟨v,ws,rfl,p,q⟩:=Reps.me.mp r;cases Reps.Da.mp q;exact⟨v,rfl,p⟩
def Rep.sq{t:T}(r:Rep K O H t v)(h:t.items=ZA l):∃a vs,v=.ref a/\¬ O a/\Reps K O H l vs/\(SqL K H a vs\/SqT K H a vs):=by
 cases t with
 |tup m=>cases h;obtain⟨a,vs,e,n,q,z⟩:=Rep.Fk.mp r;exact⟨a,vs,e,n,z,.inr (SqT.of q)⟩
 |lst m=>cases h;obtain⟨a,vs,e,n,q,z⟩:=Rep.Do.mp r;exact⟨a,vs,e,n,z,.inl (SqL.of q)⟩
 |scr m=>cases h;unfold Rep at r;obtain⟨a,e,n,q⟩:=r;exact⟨a,_,e,n,Reps.ints,.inl q⟩
 |_=>cases h
noncomputable def cz:List T->Rs T
 |[.str x] =>if x.length<=ZI then .ok (.int x.length)else .bad
 |[x] =>match x.items with
  |some l=>.ok (.int l.length)
  |none=>.bad
 |_=>.bad
def cJ:CallT X (.builtin "len") cz:=CallT.of (call_len_seq.or uS) λH O ts vs Q hf rs hp=>by
 unfold cz at hp;split at hp
 .obtain⟨v,rfl,r⟩:=rs.one;split at hp
  .rename_i h;exact .inr ⟨_,by rw[Rep.GT.mp r],h,hp H (Same.refl H) _ (Rep.GE _)⟩
  .exact hp.elim
 .obtain⟨v,rfl,r⟩:=rs.one;split at hp
  .rename_i l hl;obtain⟨a,vs,rfl,n,z,q⟩:=r.sq hl;exact .inl ⟨a,vs,rfl,q,hp H (Same.refl H) _ (by rw[<-z.length];exact Rep.GE _)⟩
  .exact hp.elim
 .exact hp.elim
noncomputable def e9:List T->Rs T
 |[.tup l] =>.ok (.tup l)
 |[.lst l] =>.ok (.tup l)
 |_=>.bad
def fI:CallT X (.type "tuple") e9:=CallT.of rA λH O ts vs Q hf rs hp=>by
 unfold e9 at hp;split at hp
 .obtain⟨v,rfl,r⟩:=rs.one;obtain⟨a,ws,rfl,n,q,z⟩:=Rep.Fk.mp r;exact⟨a,ws,rfl,.inr ⟨SqT.of q,hp H (Same.refl H) _ (Rep.Fk.mpr ⟨a,ws,rfl,n,q,z⟩)⟩⟩
 .obtain⟨v,rfl,r⟩:=rs.one;obtain⟨a,ws,rfl,n,q,z⟩:=Rep.Do.mp r;exact⟨a,ws,rfl,.inl ⟨SqL.of q,λl hl=>hp _ (aQ hl _) _ (gP hl (hf l hl) z)⟩⟩
 .exact hp.elim
noncomputable def wM:List T->Rs T
 |[.int i] =>.ok (.int i)
 |[.bl k] =>.ok (.int (if k then 1 else 0))
 |_=>.bad
def yO:CallT X (.type "int") wM:=CallT.of Bw λH O ts vs Q hf rs hp=>by
 unfold wM at hp;split at hp
 .obtain⟨v,rfl,r⟩:=rs.one;exact .inl ⟨_,by rw[Rep.AC.mp r],hp H (Same.refl H) _ (Rep.GE _)⟩
 .obtain⟨v,rfl,r⟩:=rs.one;exact .inr ⟨_,by rw[Rep.FM.mp r],hp H (Same.refl H) _ (Rep.GE _)⟩
 .exact hp.elim
noncomputable def qL:List T->Option (List Bool)
 |[] =>ZA []
 |.bl k::r=>(qL r).map (k:: ·)
 |_=>ZB
noncomputable def rB:List T->Rs T
 |[.lst l] =>match qL l with
  |some ks=>.ok (.bl (ks.all λk=>k))
  |none=>.bad
 |_=>.bad
theorem qK:∀{l:List T}{ks:List Bool}{vs:List V}{us:List Ob},qL l=ZA ks->Reps K O H l vs->Vals vs us->us=ks.map Pq
 |[],ks,vs,us,e,r,v=>by cases e;cases Reps.Da.mp r;cases v;rfl
 |t::l,ks,vs,us,e,r,v=>by
  obtain⟨w,ws,rfl,p,q⟩:=Reps.me.mp r;cases t with
  |bl k=>
   unfold qL at e;cases z:qL l with
   |none=>rw[z]at e;cases e
   |some ks'=>
    rw[z]at e;cases e;cases v with
    |cons v1 v2=>
     cases Rep.FM.mp p;cases v1;rw[qK z q v2];rfl
  |_=>cases e
def uQ(hc:X.calm=ZC):CallT X (.builtin "all") rB:=by
 intro kw s σ H O ts vs us Q I hf rs rv hp;unfold rB at hp;split at hp
 .obtain⟨v,rfl,r⟩:=rs.one;split at hp
  .rename_i ks hk;obtain⟨a,ws,rfl,n,q,z⟩:=Rep.Do.mp r;obtain⟨u,rfl,ru⟩:=lH rv;cases ru;obtain⟨its,r',pl,hz⟩:=I.list (SqL.of q);have hits:=qK hk z r';refine call_all_walk (SA pl.isList ?_);have hne:a≠s.heap.objs.size:=λe=>by obtain⟨o,ho,_⟩:=pl.isList;rw[e]at ho;exact absurd (Ov ho) (Pa _)
   refine⟨s.heap.objs.size,_,_,_,_,_,λi=>(ks[i]?).getD ZC,rfl,Walks.list (A:=X.A.in1) (I.ok.hd hc) s.heap.objs.size a hne its.toArray,⟨⟨_,OA _ rfl,rfl,rfl⟩,?_⟩,?_,?_⟩
   .obtain⟨o,ho,hh⟩:=pl.isList;exact⟨o,Oi _ ho,hh⟩
   .intro i v s' Q' E' hP hQ';subst hits;dsimp only at hQ';have hP':(ks.map Pq)[i]?=ZA v:=by simpa using hP
    rw[Ox]at hP';cases e:ks[i]? with
    |none=>rw[e]at hP';cases hP'
    |some k=>
     rw[e]at hP' hQ';cases hP';exact Ph hQ'
   .intro h' tk hk';have hlen:its.toArray.size=ks.length:=by rw[hits];simp
    have e:((Oo its.toArray.size).all λi=>(ks[i]?).getD ZC)=(ks.all λk=>k):=by
     rw[hlen];rw[Pf,OH,OH];constructor
     .intro h x hx;obtain⟨i,hi,rfl⟩:=Rq hx;have:=h i (OZ.mpr hi);simpa [hi]using this
     .intro h i hi;have hi':=OZ.mp hi;have:=h ks[i] (PR hi');simpa [hi']using this
    rw[e];have I1:Inv X kw σ H {s with heap:=s.heap.push {cls:=.type "list_iterator",data:=.fields #[.ref a,.int 0 0]}}:=I.kept (t':=s.toks) λb o e=>Oi _ e;have I2:Inv X kw σ H {s with heap:=h',toks:=tk}:=by
     have:=I1.turned (h':=h') (t':=tk) (it:=s.heap.objs.size) (λb o hb e=>hk' b o (by simpa using hb) e) (I.hok.fresh (Ou _))
      (QH I.lt) (.inr I.sz) (λx c e z=>?_) (λp hp z=>?_)
     .exact this
     .obtain⟨v,q⟩:=I.cell x c e;exact absurd (Ot q.lt (R9 z.symm)) (Pa _)
     .exact absurd (Ot (Ov (I.pin p hp).1) (R9 z.symm)) (Pa _)
    exact⟨.bl _,H,I2,rfl,hp H (Same.refl H) _ (Rep.bl_ _)⟩
  .exact hp.elim
 .exact hp.elim
end
noncomputable def T.ty:T->Option String
 |.non=>ZA "NoneType"
 |.bl _=>ZA "bool"
 |.int _=>ZA "int"
 |.str _=>ZA "str"
 |.tup _=>ZA "tuple"
 |.lst _=>ZA "list"
 |.scr _=>ZB
 |.dct _ _=>ZB
noncomputable def wU(i b t l s:Bool)(Ty:String):Option Bool:=match Ty with
 | "int" =>ZA i| "bool" =>ZA b| "tuple" =>ZA t| "list" =>ZA l| "str" =>ZA s
 |_=>ZB
noncomputable def zX(n Ty:String):Option Bool:=match n with
 | "NoneType" =>wU ZD ZD ZD ZD ZD Ty
 | "bool" =>wU ZC ZC ZD ZD ZD Ty
 | "int" =>wU ZC ZD ZD ZD ZD Ty
 | "str" =>wU ZD ZD ZD ZD ZC Ty
 | "tuple" =>wU ZD ZD ZC ZD ZD Ty
 | "list" =>wU ZD ZD ZD ZC ZD Ty
 |_=>ZB
def Ba(K:N7){n:String}(h:zX n Ty=ZA b):PySem.W.kitOne K (.type n) (.type Ty)=ZA b:=by unfold zX at h;split at h <;> first| (cases h;done)| (unfold wU at h;split at h <;> first| (cases h;done)| (cases h;kernel_rfl))
noncomputable def GA(Ty:String)(t:T):Rs T:=match t.ty with
 |some n=>match zX n Ty with
  |some b=>.ok (.bl b)
  |none=>.bad
 |none=>.bad
def Rep.N5{t:T}{n:String}(r:Rep K O H t v)(h:t.ty=ZA n):nt K H v (.type n):=by
 cases t with
 |non=>cases h;cases Rep.M7.mp r;exact .non
 |bl b=>cases h;cases Rep.FM.mp r;exact .bl b
 |int b=>cases h;cases Rep.AC.mp r;exact .int b
 |str b=>cases h;cases Rep.GT.mp r;exact .str b
 |tup l=>cases h;obtain⟨a,vs,rfl,_,q,_⟩:=Rep.Fk.mp r;exact .tup q
 |lst l=>cases h;obtain⟨a,vs,rfl,_,q,_⟩:=Rep.Do.mp r;exact .lst q
 |scr l=>cases h
 |dct _ _=>cases h
variable{H':Hp}{M:Mn}{O':Ow}{g:T->En->Rs En}{gs:List T->En->Rs En}{iter tg:ZG}{kw:Uf}{ps:List Str}
section
variable {a b c:ZG}{fs:Y0}{p2:Pos}
def gz:Pc "isinstance" =ZA (.builtin "isinstance"):=by decide+kernel
def Lu{tn:Str}(hm:X.mg "isinstance" =ZB)(hmt:X.mg tn=ZB)(hv:Pc tn=ZA (.type Ty))(ha:c8 X a fa)(hg:Gl X "isinstance":=by rfl)(hgt:Gl X tn:=by rfl)
  (hn:autoParam (tn≠ "__name__") s_) (hd:autoParam ((tn == ("__debug__" : Str))=ZD) s_)
  (he:Oz [a,.Name tn p2] X.env=(ZD,eval a X.env)::Oz [.Name tn p2] X.env:=by rfl) (hpl:(backTo pos (Oz [.Name tn p2] X.env)).any (·.1)=ZD:=by rfl)
  (hs:Oz [.Name tn p2] X.env=(ZD,eval (.Name tn p2) X.env)::Oz [] X.env:=by rfl):
  c8 X (.Call (.Name "isinstance" p) [a,.Name tn p2] [] pos) (o1 (GA Ty) fa):=by
 intro kw s σ H Q I ⟨Z,O,E,hq⟩;refine Pd (fg I hg hm gz ?_ (by decide) (by decide));have hA:PA X [a,.Name tn p2] (ie (tP X fa) (ie (tC (.ty Ty)) tj)):=bF ha (bF (zB (v:=.ty Ty) hgt hmt hv rfl hn hd) dQ hs) he;obtain⟨Z1,O1,E1,h1⟩:=br E hq;refine QD (cL (hA pos kw s σ H (λvs H'=>∃v t,vs=[v,.ty Ty]/\Rep X.K O H' t v/\Post X H' (GA Ty t) (λt H'=>∀v,Rep X.K O H' t v->Q v H')) I ?_) λus s1 ⟨vs,H1,I1,r1,v,t,e1,rt,q⟩=>?_) he hpl
 .refine⟨Z1,O1,E1,Post.mono h1 λts H1 s1 q vs r=>?_⟩;obtain⟨t',r',s',E',q'⟩:=q vs r;exact⟨vs,t',rfl,r',q'⟩
 .subst e1;obtain⟨u,w',rfl,ru,rw'⟩:=zd r1;cases rw';unfold GA at q;split at q
  .rename_i n hn';split at q
   .rename_i bb hb;exact A9 I1 ru (rt.N5 hn') (Ba _ hb) λtk=>⟨.bl bb,H1,I1.tok _,rfl,q H1 (Same.refl H1) _ (Rep.bl_ _)⟩
   .exact q.elim
  .exact q.elim
def spP(K:N7)(n:Nat)(g:List T->Rs T):Sp:=λvs H Q _=>∃ts O,Reps K O H ts vs/\(∀a,O a->Mtb H a)/\ts.length=n ∧
 match g ts with
 |.ok t=>∀v H',Same H H'->Rep K O H' t v->Q v H'
 |_=>False
def RzC(P:OI)(w:Py)(mg:WF)(outer:List Env)(H:Hp)(s:Oe)(c:Str)(ev:Ob)(s':Oe):Prop:=
 ∃e T C H',ev=.ref e/\mg c=ZA (.ref C)/\s'.os=s.os/\Rl s'.gens/\Un (kG outer) [] H H' s.heap s'.heap/\HOk P w H' s'.heap/\Same H H'/\H' e=ZB/\s.heap.get? e=ZB/\ML s'.heap C e (ZA T)/\H' T=ZB/\s.heap.get? T=ZB
def FnX(P:OI)(w:Py)(K:N7)(mg:WF)(base:ZH)(k:Nat)(f:ZE)(fd:PX)(ps:List Str)(n:Nat)(g:List T->Rs T):Prop:=
 ∀(A:OW)(outer:List Env)(s:Oe)(H:Hp)(args:Args)(us:List Ob)(vs:List V)(O:Ow)(ts:List T)(c:Str)(R:Xk->Oe->Prop),Room k A->Env0 P w K mg base A outer s H->Vq s fd args (ps.zip us)->Vals vs us ->
  Reps K O H ts vs->(∀a,O a->Mtb H a)->ts.length=n->g ts=.err c->(∀ev s',RzC P w mg outer H s c ev s'->R (.error ev) s')->ZL (ZK P w) A (.call (.ref f) args) R s
structure BK (P:OI)(w:Py)(K:N7)(mg:WF)(base:ZH)(k:Nat)(f:ZE)(fd:PX)(ps:List Str)(n:Nat)(g:List T->Rs T):Prop where
 h:rC P w K mg base CX0 k f fd ps (spP K n g)
 x:FnX P w K mg base k f fd ps n g
def C4{h:ZH}{a:ZE}{o:HO}(x:ObjOk P w H h a o):∃u,h.get? a=ZA u:=by
 cases o with
 |lst xs=>obtain⟨_,_,_,_,e⟩:=x;exact⟨_,e⟩
 |tup xs=>obtain⟨_,_,_,ob,e,_⟩:=x;exact⟨_,e⟩
 |dK kvs=>obtain⟨_,_,_,_,o,_,_,e,_⟩:=x;exact⟨_,e⟩
 |dT kvs=>obtain⟨_,_,_,_,o,_,_,e,_⟩:=x;exact⟨_,e⟩
 |set S n=>obtain⟨o,_,_,_,e,_⟩:=x;exact⟨_,e⟩
 |ins C dx fs=>obtain⟨_,_,_,e,_⟩:=x;exact⟨_,e⟩
 |own y=>obtain⟨_,e⟩:=x;exact⟨_,e⟩
 |xd fs=>obtain⟨_,⟨_,_,_,e,_⟩,_⟩:=x;exact⟨_,e⟩
 |rng lo hi=>obtain⟨_,_,_,e⟩:=x;exact⟨_,e⟩
 |frz ob u=>obtain⟨e,_⟩:=x;exact⟨_,e⟩
 |tbl q=>obtain⟨_,e,_⟩:=x;exact⟨_,e⟩
 |met f y=>exact⟨_,(show h.get? a=ZA _ from x)⟩
 |ext φ=>obtain⟨_,⟨_,e⟩,_⟩:=x;exact⟨_,e⟩
def pZ(I:Inv X kw σ H s){e:ZE}(n:s.heap.get? e=ZB):H e=ZB:=by
 cases z:H e with
 |none=>rfl
 |some o=>
  obtain⟨o',ho'⟩:=C4 (I.hok e o z);rw[n]at ho';cases ho'
def lx(I:Inv X kw σ H s)(hex:X.ex=[]){e:ZE}(n:s.heap.get? e=ZB):X.s₀.heap.get? e=ZB:=by
 cases z:X.s₀.heap.get? e with
 |none=>rfl
 |some o=>
  obtain⟨o',ho'⟩:=I.base.there e o z (by rw[hex];simp);rw[n]at ho';cases ho'
def Je{f:ZE}{g:List T->Rs T}(F:BK X.prog X.w X.K X.mg X.base k f fd ps n g)(hr:Room k X.A)(hm:X.mg x=ZA (.ref f))(hk:Qx X.K (.ref f)=ZC)(hb:Binds X.K fd ps [])(hps:ps.length=n)
  (hl:∀Z ts,fs Z=.ok ts->ts.length=n) (ha:qT X (e::es) fs) (hg:Gl X x:=by rfl) (hdb:autoParam ((x == ("__debug__" : Str))=ZD) s_) (he:Oz (e::es) X.env=(ZD,eval e X.env)::Oz es X.env:=by rfl) (hpl:(backTo pos (Oz es X.env)).any (·.1)=ZD:=by rfl):
  c8 X (.Call (.Name x p) (e::es) [] pos) (cl g fs):=by
 intro kw s σ H Q I ⟨Z,O,E,hq⟩;have hq':Post X H (fs Z >>= g) λt H'=>∀v,Rep X.K O H' t v->Q v H':=hq;cases q:fs Z with
 |bad=>rw[q]at hq';exact hq'.elim
 |err c=>
  rw[q]at hq';refine zy (E:=E0) F.h hr hg hm hk hb .nil zC ha hdb he hpl kw s σ H Q I ⟨Z,O,E,?_⟩;rw[q];exact hq'
 |ok ts=>
  rw[q]at hq';have hq2:Post X H (g ts) λt H'=>∀v,Rep X.K O H' t v->Q v H':=hq';cases q2:g ts with
  |bad=>rw[q2]at hq2;exact hq2.elim
  |ok t=>
   rw[q2]at hq2;refine zy (E:=E0) F.h hr hg hm hk hb .nil zC ha hdb he hpl kw s σ H Q I ⟨Z,O,E,?_⟩;rw[q];intro H1 s1 vs rs;rw[PB];refine⟨ts,O,rs,(E.same s1).mtb,hl Z ts q,?_⟩;rw[q2];exact λv H' s2 r=>hq2 H' (s1.trans s2) v r
  |err c=>
   rw[q2]at hq2;refine Pd (je I hg hm ?_ hdb);refine Sg (h₀:=X.base) I.ok.mod.kin hk (cL (ha pos kw s σ H (λvs H'=>Same H H'/\Reps X.K O H' ts vs) I ⟨Z,O,E,?_⟩) (λus s1 ⟨vs,H1,I1,r,sm,rs⟩=>⟨I1.kIn,?_⟩)) he hpl
   .rw[q];exact λH' sm vs rs=>⟨sm,rs⟩
   .have hlen:us.length=ps.length:=by rw[<-r.length,<-rs.length,hl Z ts q,hps]
    have hb':=hb s1 us I1.kIn (by rw[PB];exact hlen);rw[PB]at hb';refine UY (Sd (F.x X.A X.stack s1 H1 ⟨us,[]⟩ us vs O ts c (λr s'=>match r with|.error ev=>X.xe ev s'|_=>False) hr I1.Ny hb' r rs (E.same sm).mtb (hl Z ts q) q2 λev s' w=>?_) λr s' hq=>?_)
    .obtain⟨ea,T,C,H',rfl,hmc,ho,hbare,hun,hok,sm2,hea,heo,fl,hT,hTo⟩:=w;have I2:Inv X kw σ H' s':=I1.Nt ho hun hok hbare (λb z=>absurd z (by simp));exact hq2 kw _ _ ⟨ea,ZA T,C,σ,H',rfl,hmc,I2,λb o q _=>sm2 b o (sm b o q),hea,λhex=>lx I1 hex heo,fl,(λt zt=>by cases zt;exact⟨hT,λhex=>lx I1 hex hTo⟩),λpp hpp=>⟨λzz=>(by have:=(I1.pin pp hpp).1;rw[zz,heo]at this;cases this),λzz=>(by cases zz;have:=(I1.pin pp hpp).1;rw[hTo]at this;cases this)⟩⟩
    .cases r with
     |error ev=>exact hq
     |ok fl=>exact hq.elim
def B1(X:Cx)(g:T->En->Rs En):TG:=λv σ H Q=>∃Z O M t,EnvM X.K O M H Z σ/\Rep X.K O H t v/\match g t Z with
 |.ok Z'=>∀σ',EnvM X.K O M H Z' σ'->Q σ' H
 |_=>False
abbrev ER(X:Cx)(tg:ZG)(g:T->En->Rs En):Prop:=PG X tg (B1 X g)
def tPGs(X:Cx)(g:List T->En->Rs En):G7:=λvs σ H Q=>∃Z O M ts,EnvM X.K O M H Z σ/\Reps X.K O H ts vs/\match g ts Z with
 |.ok Z'=>∀σ',EnvM X.K O M H Z' σ'->Q σ' H
 |_=>False
abbrev EL(X:Cx)(tg:List ZG)(g:List T->En->Rs En):Prop:=PGs X tg (tPGs X g)
def PG.imp{t t':TG}(h:PG X e t)(w:∀v σ H Q,t' v σ H Q->t v σ H Q):PG X e t':=λkw s σ H v u Q I r q=>h kw s σ H v u Q I r (w v σ H Q q)
def PGs.imp{e:List ZG}{t t':G7}(h:PGs X e t)(w:∀v σ H Q,t' v σ H Q->t v σ H Q):PGs X e t':=λkw s σ H v u Q I r q=>h kw s σ H v u Q I r (w v σ H Q q)
noncomputable def gN(i:Nat)(t:T)(Z:En):Rs En:=if i<Z.length then .ok (Z.set i (.va t))else .bad
def EnvM.set{t:T}(E:EnvM K O M H Z σ)(hi:i<Z.length)(r:Rep K O H t v):EnvM K O M H (Z.set i (.va t)) (σ.set i (ZA v)) where
 len:=by rw[P6,P6];exact E.len
 val:=λj u e=>by
  by_cases hj:i=j
  .subst hj;rw[OY hi]at e;cases e;exact⟨v,OY (by rw[<-E.len];exact hi),r⟩
  .rw[O5 hj]at e;obtain⟨w,e1,e2⟩:=E.val j u e;exact⟨w,by rw[O5 hj];exact e1,e2⟩
 own:=λj o e=>by
  by_cases hj:i=j
  .subst hj;rw[OY hi]at e;cases e
  .rw[O5 hj]at e;obtain⟨w,e1,e2⟩:=E.own j o e;exact⟨w,by rw[O5 hj];exact e1,e2⟩
 sub:=E.sub
 dis:=E.dis
 trk:=E.trk
def FQ(i:Nat)(hN:X.N.Nodup)(hi:X.N[i]?=ZA x:=by rfl)(hx:autoParam (Loc X.env.scope x) x_)(hf:autoParam (X.fn x=ZC\/X.env.scope.names.lookup x=ZA .local) r_):ER X (.Name x pos) (gN i):=
 PG.imp (F5 hN hi hx hf) λv σ H Q hh_=>by
  obtain⟨Z,O,M,t,E,r,h⟩:=hh_;unfold gN at h;split at h
  .rename_i Z' e;split at e
   .rename_i hl;cases e;exact h _ (E.set hl r)
   .cases e
  .exact h.elim
def u9(ts:List T)(Z:En):Rs En:=match ts with
 |[] =>.ok Z
 |_=>.bad
noncomputable def iY(g:T->En->Rs En)(gs:List T->En->Rs En)(ts:List T)(Z:En):Rs En:=match ts with
 |t::r=>do
  let Z1 <-g t Z
  gs r Z1
 |[] =>.bad
def FP:EL X [] u9:=PGs.imp F4 λvs σ H Q hh_=>by
 obtain⟨Z,O,M,ts,E,r,h⟩:=hh_;unfold u9 at h;cases ts with
 |nil=>exact⟨Reps.Da.mp r,h σ E⟩
 |cons _ _=>exact h.elim
def Cu(h1:ER X e g)(h2:EL X es gs)
  (hs:(Qv (e::es) X.env).map (·.2)=assign e X.env::(Qv es X.env).map (·.2):=by rfl):EL X (e::es) (iY g gs):=
 PGs.imp (CL h1 h2 hs) λvs σ H Q hh_=>by
  obtain⟨Z,O,M,ts,E,r,h⟩:=hh_;cases ts with
  |nil=>exact h.elim
  |cons t ts=>
   obtain⟨v,ws,rfl,p,q⟩:=Reps.me.mp r;refine⟨v,ws,rfl,Z,O,M,t,E,p,?_⟩;unfold iY at h;cases e1:g t Z with
   |bad=>simp[e1]at h
   |err c=>simp[e1]at h
   |ok Z1=>
    intro σ1 E1;refine⟨Z1,O,M,ts,E1,q,?_⟩;simp only[e1,aH]at h;cases e2:gs ts Z1 with
    |bad=>simp[e2]at h
    |err c=>simp[e2]at h
    |ok Z2=>
     simp only[e2]at h;exact λσ2 E2=>h σ2 E2
noncomputable def gT(n:Nat)(gs:List T->En->Rs En)(t:T)(Z:En):Rs En:=match t with
 |.tup l=>if l.length=n then gs l Z else .bad
 |_=>.bad
def Ja(hc:X.calm=ZC)(h:EL X es gs)(hn:(Qv es X.env).length=n:=by rfl)(hst:(Qv es X.env).findIdx? (·.1)=ZB:=by rfl):ER X (.Tuple es k pos) (gT n gs):=
 PG.imp (Jl hc h hn hst) λv σ H Q hh_=>by
  obtain⟨Z,O,M,t,E,r,h⟩:=hh_;unfold gT at h;cases t with
  |tup l=>
   obtain⟨a,vs,rfl,n',q,z⟩:=Rep.Fk.mp r;by_cases hl:l.length=n
   .simp only[if_pos hl]at h;exact⟨a,vs,rfl,SqT.of q,by rw[<-z.length];exact hl,Z,O,M,l,E,z,h⟩
   .simp only[if_neg hl]at h
  |_=>exact h.elim
def SqL.nn{a:ZE}(q:SqL K H a vs):¬ Nw K H a:=λ⟨h1,h2⟩=>by
 rcases q with(q|⟨o,q⟩)|⟨o,_,_,q,_⟩
 .rw[h1]at q;cases q
 .rw[h1]at q;cases q
 .rw[h2]at q;cases q
mutual
theorem Rep.more{K:N7}{O O':Ow}{H:Hp}(sub:∀a,O' a->O a\/Nw K H a):∀{t:T}{v:V},Rep K O H t v->Rep K O' H t v
 |.non,_,r=>by unfold Rep at r ⊢;exact r
 |.bl _,_,r=>by unfold Rep at r ⊢;exact r
 |.int _,_,r=>by unfold Rep at r ⊢;exact r
 |.str _,_,r=>by unfold Rep at r ⊢;exact r
 |.tup l,_,r=>by unfold Rep at r ⊢;obtain⟨a,vs,e,n,q,z⟩:=r;exact⟨a,vs,e,λp=>(sub a p).elim n λw=>(by rw[w.1]at q;cases q),q,Reps.more sub z⟩
 |.lst l,_,r=>by unfold Rep at r ⊢;obtain⟨a,vs,e,n,q,z⟩:=r;exact⟨a,vs,e,λp=>(sub a p).elim n λw=>(by rw[w.1]at q;cases q),q,Reps.more sub z⟩
 |.scr l,_,r=>by unfold Rep at r ⊢;obtain⟨a,e,n,q⟩:=r;exact⟨a,e,λp=>(sub a p).elim n λw=>Tr.SqL.nn q w,q⟩
 |.dct ks ts,_,r=>by unfold Rep at r ⊢;obtain⟨a,kvs,e,n,q,k,z⟩:=r;exact⟨a,kvs,e,λp=>(sub a p).elim n λw=>(by rcases q with q|⟨_,q⟩ <;> rw[w.1]at q <;> cases q),q,k,Reps.more sub z⟩
theorem Reps.more{K:N7}{O O':Ow}{H:Hp}(sub:∀a,O' a->O a\/Nw K H a):∀{l:List T}{vs:List V},Reps K O H l vs->Reps K O' H l vs
 |[],_,r=>by unfold Reps at r ⊢;exact r
 |t::l,_,r=>by unfold Reps at r ⊢;obtain⟨v,ws,e,p,q⟩:=r;exact⟨v,ws,e,Rep.more sub p,Reps.more sub q⟩
end
def Rep.move{P:Ow}{t:T}(hP:∀a,P a->O a\/Nw K H a)(hO:∀a,O' a->O a\/Nw K H a)(h:SameO P H H')(r:Rep K O H t v):Rep K O' H' t v:=
 Rep.less (O:=λa=>O' a\/P a) (λ_ z=>.inl z) (Rep.keep h (λ_ z=>.inr z) (Rep.more (λa z=>z.elim (hO a) (hP a)) r))
def Reps.move{P:Ow}{t:List T}{v:List V}(hP:∀a,P a->O a\/Nw K H a)(hO:∀a,O' a->O a\/Nw K H a)(h:SameO P H H')(r:Reps K O H t v):Reps K O' H' t v:=
 Reps.less (O:=λa=>O' a\/P a) (λ_ z=>.inl z) (Reps.keep h (λ_ z=>.inr z) (Reps.more (λa z=>z.elim (hO a) (hP a)) r))
def MK(K:N7)(O:Ow)(H:Hp)(ts:List T)(J:It):Prop:=∀(P O':Ow),(∀a,P a->O a\/Nw K H a)->(∀a,O' a->O a\/Nw K H a)->∀(i:Nat)(Hc:Hp),SameO P H Hc->(∀a,O' a->∃o,Hc a=ZA o) ->
 (ts.length<=i->J.stop i Hc)/\(∀t,ts[i]?=ZA t->J.go i Hc/\∀x Hc',J.yld i Hc x Hc'->Same Hc Hc'/\Rep K O' Hc' t x)
def MP(X:Cx)(f:Y0):TI:=λσ H R=>∃Z O,EnvO X.K O H Z σ/\Post X H (f Z) λts H'=>∀J,MK X.K O H' ts J->R J H'
abbrev BB(X:Cx)(tg iter:ZG)(f:Y0):Prop:=PI X tg iter (MP X f)
def PI.imp{t t':TI}(h:PI X tg iter t)(w:∀σ H R,t' σ H R->t σ H R):PI X tg iter t':=λkw s σ H R I q=>h kw s σ H R I (w σ H R q)
noncomputable def iL(f:Y2)(Z:En):Rs (List T):=do
 let x <-f Z
 match x with
 |.lst l=>.ok l
 |_=>.bad
def iT(f:Y2)(Z:En):Rs (List T):=do
 let x <-f Z
 match x with
 |.tup l=>.ok l
 |_=>.bad
def zm(ha:c8 X a fa):BB X tg a (iL fa):=PI.imp (F2 ha) λσ H R hh_=>by
 obtain⟨Z,O,E,h⟩:=hh_;obtain⟨Z1,O1,E1,h1⟩:=br E h;refine⟨Z1,O1,E1,Post.mono h1 λts H1 s1 q vs r=>?_⟩;obtain⟨t',r',s',E',q'⟩:=q vs r;split at q'
 .rename_i l;obtain⟨a,ws,rfl,n,q,z⟩:=Rep.Do.mp r';refine⟨a,rfl,⟨ws,SqL.of q⟩,q' H1 (Same.refl H1) _ λP O' hP hO i Hc hs ht=>?_⟩;have hnP:¬ P a:=λz=>(hP a z).elim n λw=>by rw[w.1]at q;cases q
  refine⟨λhi=>⟨ws,SqL.of (hs _ _ q hnP),by rw[<-z.length];exact hi⟩,λt ht'=>?_⟩;obtain⟨v,e1,e2⟩:=z.get ht';refine⟨⟨ws,v,SqL.of (hs _ _ q hnP),e1⟩,λx Hc' y=>?_⟩;obtain⟨e,y⟩:=y;subst e;have:=y ws (SqL.of (hs _ _ q hnP));rw[e1]at this;cases this;exact⟨Same.refl _,e2.move hP hO hs⟩
 .exact q'.elim
def IY(ha:c8 X a fa):BB X tg a (iT fa):=PI.imp (Jk ha) λσ H R hh_=>by
 obtain⟨Z,O,E,h⟩:=hh_;obtain⟨Z1,O1,E1,h1⟩:=br E h;refine⟨Z1,O1,E1,Post.mono h1 λts H1 s1 q vs r=>?_⟩;obtain⟨t',r',s',E',q'⟩:=q vs r;split at q'
 .rename_i l;obtain⟨a,ws,rfl,n,q,z⟩:=Rep.Fk.mp r';refine⟨a,rfl,⟨ws,SqT.of q⟩,q' H1 (Same.refl H1) _ λP O' hP hO i Hc hs ht=>?_⟩;have hnP:¬ P a:=λz=>(hP a z).elim n λw=>by rw[w.1]at q;cases q
  refine⟨λhi=>⟨ws,SqT.of (hs _ _ q hnP),by rw[<-z.length];exact hi⟩,λt ht'=>?_⟩;obtain⟨v,e1,e2⟩:=z.get ht';refine⟨⟨ws,v,SqT.of (hs _ _ q hnP),e1⟩,λx Hc' y=>?_⟩;obtain⟨e,y⟩:=y;subst e;have:=y ws (SqT.of (hs _ _ q hnP));rw[e1]at this;cases this;exact⟨Same.refl _,e2.move hP hO hs⟩
 .exact q'.elim
noncomputable def rng(lo hi:Int):List T:=(Oo (hi - lo).toNat).map λ(k:Nat)=>T.int (lo+(k:Int))
noncomputable def mh(i:Int):Bool:=decide (-(2 ^ 62)<=i)&&decide (i<2 ^ 62)
noncomputable def iR(f:Y0)(Z:En):Rs (List T):=do
 let x <-f Z
 match x with
 |[.int j] =>if mh j then .ok (rng 0 j)else .bad
 |[.int i,.int j] =>if mh i&&mh j then .ok (rng i j)else .bad
 |_=>.bad
def fE{i:Int}(h:mh i=ZC): -(2 ^ 62)<=i/\i<2 ^ 62:=by unfold mh at h;rw[Oa]at h;exact⟨of_decide_eq_true h.1,of_decide_eq_true h.2⟩
def oE(lo hi:Int):MK K O H (rng lo hi) (Itr lo (hi - lo).toNat):=λP O' hP hO i Hc hs ht=>by
 refine⟨λh=>?_,λt h=>?_⟩
 .show(hi - lo).toNat<=i;unfold rng at h;rw[Oc,OV]at h;exact h
 .unfold rng at h;rw[Ox]at h;by_cases hi':i<(hi - lo).toNat
  .rw[Qt hi']at h;cases h;refine⟨hi',λx Hc' y=>?_⟩;obtain⟨e,y⟩:=y;subst e y;exact⟨Same.refl _,Rep.GE _⟩
  .rw[PQ (by simpa using hi')]at h;cases h
def AK(hm:X.mg "range" =ZB)(ha:qT X [a] fs)(hg:Gl X "range":=by rfl)(hs:Oz [a] X.env=[(ZD,eval a X.env)]:=by rfl):BB X tg (.Call (.Name "range" p) [a] [] pos) (iR fs):=by
 intro kw s σ H R I ⟨Z,O,E,h⟩;have h1:=eF E h;refine Call_ (fg I hg hm boot_range (Pb (cL (ha pos kw s σ H _ I h1) λus s1 ⟨vs,H1,I1,r1,ts,rs,s',E',q1⟩=>?_) hs rfl));split at q1
 .obtain⟨v,rfl,r⟩:=rs.one;split at q1
  .rename_i j hj;obtain⟨b1,b2⟩:=fE hj;cases Rep.AC.mp r;cases r1 with
   |cons r rr=>
    cases rr;obtain⟨t,rfl⟩:=r;exact WB (lQ I1 (by omega) (by omega) b1 b2 (q1 H1 (Same.refl H1) _ (oE 0 j)))
  .exact q1.elim
 .obtain⟨v,ws,rfl,p1,q⟩:=Reps.me.mp rs;obtain⟨v2,rfl,r⟩:=q.one;split at q1
  .rename_i i j hj;rw[Oa]at hj;obtain⟨b1,b2⟩:=fE hj.1;obtain⟨b3,b4⟩:=fE hj.2;cases Rep.AC.mp p1;cases Rep.AC.mp r;cases r1 with
   |cons r rr=>
    cases rr with
    |cons r' rr=>
     cases rr;obtain⟨t,rfl⟩:=r;obtain⟨t',rfl⟩:=r';exact WC (lQ I1 b1 b2 b3 b4 (q1 H1 (Same.refl H1) _ (oE i j)))
  .exact q1.elim
 .exact q1.elim
def AJ(hm:X.mg "range" =ZB)(ha:qT X [a,b] fs)(hg:Gl X "range":=by rfl)(hs:Oz [a,b] X.env=[(ZD,eval a X.env),(ZD,eval b X.env)]:=by rfl)(hs2:Oz [b] X.env=[(ZD,eval b X.env)]:=by rfl):
  BB X tg (.Call (.Name "range" p) [a,b] [] pos) (iR fs):=by
 intro kw s σ H R I ⟨Z,O,E,h⟩;have h1:=eF E h;refine Call_ (fg I hg hm boot_range (Pb (cL (ha pos kw s σ H _ I h1) λus s1 ⟨vs,H1,I1,r1,ts,rs,s',E',q1⟩=>?_) (by rw[hs,hs2]) (by rw[hs2];rfl)));split at q1
 .obtain⟨v,rfl,r⟩:=rs.one;split at q1
  .rename_i j hj;obtain⟨b1,b2⟩:=fE hj;cases Rep.AC.mp r;cases r1 with
   |cons r rr=>
    cases rr;obtain⟨t,rfl⟩:=r;exact WB (lQ I1 (by omega) (by omega) b1 b2 (q1 H1 (Same.refl H1) _ (oE 0 j)))
  .exact q1.elim
 .obtain⟨v,ws,rfl,p1,q⟩:=Reps.me.mp rs;obtain⟨v2,rfl,r⟩:=q.one;split at q1
  .rename_i i j hj;rw[Oa]at hj;obtain⟨b1,b2⟩:=fE hj.1;obtain⟨b3,b4⟩:=fE hj.2;cases Rep.AC.mp p1;cases Rep.AC.mp r;cases r1 with
   |cons r rr=>
    cases rr with
    |cons r' rr=>
     cases rr;obtain⟨t,rfl⟩:=r;obtain⟨t',rfl⟩:=r';exact WC (lQ I1 b1 b2 b3 b4 (q1 H1 (Same.refl H1) _ (oE i j)))
  .exact q1.elim
 .exact q1.elim
end
variable{B:Ow}{D:u7}{N':List Str}{Q:VK}{body:List ZF}{f:Y3}{fe:Y2}{fi:Y0}{ifs:List ZG}{st:ZF}{tgt:T->En->Rs En}
section
variable {a b c:ZG}{fs:Y0}{p2:Pos}
def bU(src:List (Option Nat))(Z:En):En:=src.map λo=>match o with
 |some i=>match Z[i]? with
  |some (.va t)=>.va t
  |_=>.em
 |none=>.em
noncomputable def eE(tgt:T->En->Rs En)(fc:Y3)(fe:Y2):List T->Y0
 |[],_=>.ok []
 |t::r,Z=>do
  let Z1 <-tgt t Z
  let k <-fc Z1
  if k then do
   let y <-fe Z1
   let ys <-eE tgt fc fe r Z1
   .ok (y::ys)
  else eE tgt fc fe r Z1
noncomputable def d6(fi:Y0)(src:List (Option Nat))(tgt:T->En->Rs En)(fc:Y3)(fe:Y2)(Z:En):Rs T:=do
 let ts <-fi Z
 if ts.length<=ZI then match eE tgt fc fe ts (bU src Z)with
  |.ok ys=>.ok (.lst ys)
  |_=>.bad
 else .bad
def bT(_:En):Rs Bool:=.ok ZC
def tP0(K:N7)(f:Y2):TE:=λσ H Q=>∃Z O,EnvO K O H Z σ/\match f Z with
 |.ok t=>∀H',Same H H'->∀v,Rep K O H' t v->Q v H'
 |_=>False
def tPT0(K:N7)(f:Y3):TT:=λσ H Q=>∃Z O,EnvO K O H Z σ/\match f Z with
 |.ok t=>∀H',Same H H'->Q t H'
 |_=>False
def tP0.up{f:Y2}(h:tP0 X.K f σ H Q):tP X f σ H Q:=by
 obtain⟨Z,O,E,h⟩:=h;refine⟨Z,O,E,?_⟩;cases q:f Z with
 |ok t=>rw[q]at h;exact h
 |err c=>rw[q]at h;exact h.elim
 |bad=>rw[q]at h;exact h.elim
def tPT0.up{Q:Bool->Hp->Prop}(h:tPT0 X.K f σ H Q):B0 X f σ H Q:=by
 obtain⟨Z,O,E,h⟩:=h;refine⟨Z,O,E,?_⟩;cases q:f Z with
 |ok t=>rw[q]at h;exact h
 |err c=>rw[q]at h;exact h.elim
 |bad=>rw[q]at h;exact h.elim
def FN:BJ X [] (B0 X bT):=λkw s σ H Q I ⟨Z,O,E,h⟩=>tU kw s σ H Q I (h H (Same.refl H))
def FL(h:xA X c f):BJ X [c] (B0 X f):=F0 h
abbrev noM:Mn:=λ_ _=>False
def A2{src:List (Option Nat)}{o:OT}(e:(bU src Z)[j]?=ZA (.ow o)):False:=by
 unfold bU at e;rw[Ox]at e;cases q:src[j]? with
 |none=>rw[q]at e;cases e
 |some o'=>
  rw[q]at e;cases o' with
  |none=>cases e
  |some i=>
   have e':(match Z[i]? with|some (Sl.va t)=>Sl.va t|_=>Sl.em)=Sl.ow o:=OQ e;split at e' <;> cases e'
def wB(E:EnvO K O H Z σ)(src:List (Option Nat)):EnvM K O noM H (bU src Z) (gH src σ) where
 len:=by unfold bU gH;rw[Oc,Oc]
 val:=λj t e=>by
  unfold bU at e;unfold gH;rw[Ox]at e ⊢;cases q:src[j]? with
  |none=>rw[q]at e;cases e
  |some o=>
   rw[q]at e;cases o with
   |none=>cases e
   |some i=>
    have e':(match Z[i]? with|some (Sl.va t)=>Sl.va t|_=>Sl.em)=Sl.va t:=OQ e;cases q2:Z[i]? with
    |none=>rw[q2]at e';cases e'
    |some z=>
     rw[q2]at e';cases z with
     |em=>cases e'
     |ow l=>cases e'
     |va t'=>
      cases e';obtain⟨v,e1,e2⟩:=E.val i _ q2;exact⟨v,by simp[e1],e2⟩
 own:=λj o e=>(A2 e).elim
 sub:=λ_ _ z=>z.elim
 dis:=λ_ _ _ z=>z.elim
 trk:=E.mtb
def ORep.no{o:OT}(r:ORep K O zG H o v):False:=by
 cases o with
 |lst l=>obtain⟨a,_,_,e,_⟩:=r;exact(e a).mpr rfl
 |dct ks ts=>obtain⟨a,_,_,e,_⟩:=r;exact(e a).mpr rfl
 |dd ks rows=>obtain⟨a,_,_,_,e,_⟩:=r;exact(e a).mpr (.inl rfl)
theorem EnvM.move{P:Ow}(E:EnvM K O noM H Z σ)(hP:∀a,P a->O a\/Nw K H a)(hO:∀a,O' a->O a\/Nw K H a)(h:SameO P H H')(trk:∀a,O' a->Mtb H' a):EnvM K O' noM H' Z σ where
 len:=E.len
 val:=λi t e=>let ⟨v,e1,e2⟩:=E.val i t e;⟨v,e1,e2.move hP hO h⟩
 own:=λi o e=>let ⟨_,_,r⟩:=E.own i o e;r.no.elim
 sub:=λ_ _ z=>z.elim
 dis:=λ_ _ _ z=>z.elim
 trk:=trk
noncomputable def KO(fi:Y0)(src:List (Option Nat))(tgt:T->En->Rs En)(fc:Y3)(fe:Y2)(Z:En):Rs (List T):=fi Z >>= λts=>if ts.length<=ZI then(match eE tgt fc fe ts (bU src Z)with|.ok ys=>Rs.ok ys|_=>.bad)else .bad
def Dr{src:List (Option Nat)}{fc:Y3}:d6 fi src tgt fc fe Z=KO fi src tgt fc fe Z >>= λl=>.ok (.lst l):=by
 unfold d6 KO;cases fi Z with
 |bad=>rfl
 |err c=>rfl
 |ok ts=>
  rw[aH,aH];by_cases hz:ts.length<=ZI
  .rw[if_pos hz,if_pos hz];cases eE tgt fc fe ts (bU src Z) <;> rfl
  .rw[if_neg hz,if_neg hz];rfl
def Dq{src:List (Option Nat)}{fc:Y3}(E:EnvO X.K O H Z σ)
  (hq1:Post X H (KO fi src tgt fc fe Z) λall H1=>∀D ys H',Nw X.K H1 D->Same H1 H'->H' D=ZA (.lst ys)->Reps X.K (λa=>O a\/a=D) H' all ys->Q (.ref D) H'):Il X.K (MP X fi) src (B1 X tgt) (tPT0 X.K fc) (tP0 X.K fe) σ H Q:=by
 unfold KO at hq1;refine⟨Z,O,E,Post.mono hq1.bind λts H1 s1 q1 J hJ D hD hK=>?_⟩;have E1:=E.same s1;by_cases hz:ts.length<=ZI
 .rw[if_pos hz]at q1;cases hall:eE tgt fc fe ts (bU src Z)with
  |bad=>rw[hall]at q1;exact q1.elim
  |err c=>rw[hall]at q1;exact q1.elim
  |ok all=>
   rw[hall]at q1;have q2:∀D ys H',Nw X.K H1 D->Same H1 H'->H' D=ZA (.lst ys)->Reps X.K (λa=>O a\/a=D) H' all ys->Q (.ref D) H':=q1 H1 (Same.refl H1);have nD:Nw X.K H1 D:=⟨hD,hK⟩;let O':Ow:=λa=>O a\/a=D;have subO:∀a,O' a->O a\/Nw X.K H1 a:=λa z=>z.elim .inl λw=>.inr (w▸nD);refine⟨λi m σ' ys H'=>m=ts.length - i/\i<=ts.length/\ys.length<=i/\H' D=ZA (.lst ys)/\SameO (λa=>a=D) (upd H1 D (.lst [])) H' ∧
    ∃Z' yts zs,EnvM X.K O' noM H' Z' σ'/\Reps X.K O' H' yts ys/\eE tgt fc fe (ts.drop i) Z'=.ok zs/\yts++zs=all,⟨ts.length,?_⟩,?_⟩
   .have sN:Same H1 (upd H1 D (.lst [])):=aQ hD _;refine⟨by omega,Pk _,Ou _,aI,λb o e _=>e,bU src Z,[],all,?_,Reps.GM,by simpa using hall,rfl⟩;have E2:EnvM X.K O noM H1 (bU src Z) (gH src σ):=wB E1 src;exact E2.move (P:=λa=>a=D) (λa z=>.inr (z▸nD)) subO (λb o e _=>sN b o e) λa z=>by
     rcases z with z|z
     .exact(E1.mtb a z).same sN
     .rw[z];exact .inl ⟨_,aI⟩
   .rintro i m σ' ys H' ⟨rfl,hi',hyl,hDl,hsm,Z',yts,zs,E',ry,hl,hyz⟩;refine⟨hDl,?_⟩;have sm1:SameO (λa=>a=D) H1 H':=λb o e nb=>hsm b o (by rw[aG nb];exact e) nb;have it:=hJ (λa=>a=D) O' (λa z=>.inr (z▸nD)) subO i H' sm1 (λa z=>(E'.trk a z).some);by_cases hlt:i<ts.length
    .refine .inr ?_;have hti:ts[i]?=ZA ts[i]:=by simp
     obtain⟨go,yl⟩:=it.2 ts[i] hti;refine⟨go,by omega,λxx Hc y=>?_⟩;obtain⟨sc,rx⟩:=yl xx Hc y;have Ec:=E'.same sc;rw[Qy hlt]at hl;unfold eE at hl;refine⟨Z',O',noM,ts[i],Ec,rx,?_⟩;cases e1:tgt ts[i] Z' with
     |bad=>rw[e1]at hl;cases hl
     |err cc=>rw[e1]at hl;cases hl
     |ok Z1=>
      rw[e1,aH]at hl;intro σ1 Eg;refine⟨Z1,O',⟨noM,Eg⟩,?_⟩;cases e2:fc Z1 with
      |bad=>rw[e2]at hl;cases hl
      |err cc=>rw[e2]at hl;cases hl
      |ok k=>
       rw[e2,aH]at hl;intro H3 s3;have E3:=Eg.same s3;have tot:Same H' H3:=sc.trans s3;have D3:H3 D=ZA (.lst ys):=tot _ _ hDl;have sm3:SameO (λa=>a=D) (upd H1 D (.lst [])) H3:=λb o e nb=>tot _ _ (hsm b o e nb);cases k with
       |false=>
        refine L2.iteF ?_;have hl':eE tgt fc fe (ts.drop (i+1)) Z1=.ok zs:=by simpa using hl
        exact⟨ts.length - (i+1),by omega,rfl,hlt,by omega,D3,sm3,Z1,yts,zs,E3,ry.same tot,hl',hyz⟩
       |true=>
        refine L2.iteT ?_;have hl':(fe Z1 >>= λy=>eE tgt fc fe (ts.drop (i+1)) Z1 >>= λys=>Rs.ok (y::ys))=.ok zs:=by simpa using hl
        refine⟨Z1,O',⟨noM,E3⟩,?_⟩;cases e3:fe Z1 with
        |bad=>rw[e3]at hl';cases hl'
        |err cc=>rw[e3]at hl';cases hl'
        |ok yt=>
         rw[e3,aH]at hl';cases e4:eE tgt fc fe (ts.drop (i+1)) Z1 with
         |bad=>rw[e4]at hl';cases hl'
         |err cc=>rw[e4]at hl';cases hl'
         |ok zs'=>
          rw[e4,aH]at hl';have hzs:yt::zs'=zs:=by injection hl'
          intro H4 s4 v rv;have D4:H4 D=ZA (.lst ys):=s4 _ _ D3;have E4:=E3.same s4;have tot4:Same H' H4:=tot.trans s4;have smD:SameO (λa=>a=D) H4 (upd H4 D (.lst (ys++[v]))):=λb o e nb=>by rw[aG nb];exact e
          have inO:∀a,a=D->O' a\/Nw X.K H4 a:=λa z=>.inl (.inr z);refine⟨D4,ts.length - (i+1),by omega,rfl,hlt,?_,aI,λb o e nb=>smD b o (s4 _ _ (sm3 b o e nb)) nb,Z1,yts++[yt],zs',?_,?_,e4,?_⟩
          .rw[On,QJ];omega
          .exact E4.move inO (λa z=>.inl z) smD λaa z=>by
            by_cases hz:aa=D
            .rw[hz];exact .inl ⟨_,aI⟩
            .unfold Mtb;rw[aG hz];exact E4.trk aa z
          .have r1:Reps X.K O' H4 (yts++[yt]) (ys++[v]):=(ry.same tot4).append (Reps.Gc rv Reps.GM);exact r1.move inO (λa z=>.inl z) smD
          .rw[OU,List.singleton_append,hzs];exact hyz
    .refine .inl ⟨it.1 (by omega),?_⟩;have hi2:i=ts.length:=by omega
     subst hi2;rw[WK]at hl;have hzs:zs=[]:=by unfold eE at hl;injection hl with hl;exact hl.symm
     subst hzs;rw[PB]at hyz;subst hyz;have sF:Same H1 H':=λb o e=>sm1 b o e λz=>by rw[z,hD]at e;cases e
     exact q2 D ys H' nD sF hDl ry
 .rw[if_neg hz]at q1;exact q1.elim
def zS{src:List (Option Nat)}{fc:Y3}(h0:tP X (d6 fi src tgt fc fe) σ H Q):Il X.K (MP X fi) src (B1 X tgt) (tPT0 X.K fc) (tP0 X.K fe) σ H Q:=by
 obtain⟨Z,O,E,hq⟩:=h0;refine Dq E ?_;have e:d6 fi src tgt fc fe Z=KO fi src tgt fc fe Z >>= λl=>.ok (.lst l):=Dr;rw[e]at hq;cases q:KO fi src tgt fc fe Z with
 |bad=>rw[q]at hq;exact hq.elim
 |err c=>rw[q]at hq;exact hq
 |ok l=>
  rw[q,aH]at hq;intro H1 s1 D ys H' nD sD eD rD;exact hq H' (s1.trans sD) _ (Rep.Do.mpr ⟨D,ys,rfl,λz=>(E.same s1).fresh nD.1 z,eD,rD.less λa z=>.inl z⟩)
def q_lc{elt:ZG}{src:List (Option Nat)}{fc:Y3}
  (hc:X.calm=ZC) (S:LcScope X scope N' src) (hi:BB X tg iter fi)
  (block:∀cl C s₀ H₀ fp,ER (cA X scope cl N' C s₀ H₀ fp) tg tgt/\BJ (cA X scope cl N' C s₀ H₀ fp) ifs (B0 (cA X scope cl N' C s₀ H₀ fp) fc)/\c8 (cA X scope cl N' C s₀ H₀ fp) elt fe)
  (hs:autoParam (∀x,Pj iter X.env x=pure x) t_):
  c8 X (.ListComp elt [⟨tg,iter,ifs,0⟩] scope pos) (d6 fi src tgt fc fe):=by
 have hPG:∀cl C s₀ H₀ fp,PG (cA X scope cl N' C s₀ H₀ fp) tg (B1 X tgt):=λcl C s₀ H₀ fp=>(block cl C s₀ H₀ fp).1;have hPI:∀cl C s₀ H₀ fp,BJ (cA X scope cl N' C s₀ H₀ fp) ifs (tPT0 X.K fc):=λcl C s₀ H₀ fp kw s σ H Q I h=>(block cl C s₀ H₀ fp).2.1 kw s σ H Q I (tPT0.up (X:=cA X scope cl N' C s₀ H₀ fp) h);have hPE:∀cl C s₀ H₀ fp,PE (cA X scope cl N' C s₀ H₀ fp) elt (tP0 X.K fe):=λcl C s₀ H₀ fp kw s σ H Q I h=>(block cl C s₀ H₀ fp).2.2 kw s σ H Q I (tP0.up (X:=cA X scope cl N' C s₀ H₀ fp) h);exact PE.imp (vS (g:=B1 X tgt) (tc:=tPT0 X.K fc) (te:=tP0 X.K fe) hc S hi (λcl C s₀ H₀ fp=>⟨hPG cl C s₀ H₀ fp,hPI cl C s₀ H₀ fp,hPE cl C s₀ H₀ fp⟩) hs) λσ H Q h=>zS h
inductive Fl where
 |nx (Z:En)|rt (t:T)|bk (Z:En)|ct (Z:En)
abbrev Y1:=En->Rs Fl
def OO(B:Ow)(M:Mn):Ow:=λa=>B a\/M.u a
structure Ev (K:N7)(B:Ow)(M:Mn)(H:Hp)(Z:En)(σ:L2.St):Prop where
 env:EnvM K (OO B M) M H Z σ
 mine:∀a,M.u a->¬ B a
theorem Ev.same(h:Same H H')(e:Ev K B M H Z σ):Ev K B M H' Z σ:=⟨e.env.same h,e.mine⟩
def Ev.o(e:Ev K B M H Z σ):EnvO K (OO B M) H Z σ:=⟨M,e.env⟩
def PostF(X:Cx)(B P:Ow)(H:Hp)(r:Rs Fl)(D:u7):Prop:=match r with
 |.ok (.nx Z')=>∀σ' H' M',SameO P H H'->Ev X.K B M' H' Z' σ'->(∀a,M'.u a->P a\/Nw X.K H a)->D.nx σ' H'
 |.ok (.rt t)=>∀v H',SameO P H H'->Rep X.K B H' t v->D.rt v H'
 |.ok (.bk Z')=>∀σ' H' M',SameO P H H'->Ev X.K B M' H' Z' σ'->(∀a,M'.u a->P a\/Nw X.K H a)->D.bk σ' H'
 |.ok (.ct Z')=>∀σ' H' M',SameO P H H'->Ev X.K B M' H' Z' σ'->(∀a,M'.u a->P a\/Nw X.K H a)->D.ct σ' H'
 |.err c=>XA X P H c
 |.bad=>False
def MO(X:Cx)(F:Y1):TS:=λD σ H=>∃Z B M,Ev X.K B M H Z σ/\PostF X B M.u H (F Z) D
abbrev qQ(X:Cx)(s:ZF)(F:Y1):Prop:=PS X s (MO X F)
abbrev nu(X:Cx)(s:List ZF)(F:Y1):Prop:=PSs X s (MO X F)
theorem PostF.later{P P1:Ow}{H1:Hp}{r:Rs Fl}(h:PostF X B P H r D)(s:SameO P H H1)(sub:∀a,P1 a->P a\/Nw X.K H a):PostF X B P1 H1 r D:=by
 have back:∀a,P1 a\/Nw X.K H1 a->P a\/Nw X.K H a:=λa z=>z.elim (sub a) (ja s);cases r with
 |bad=>exact h
 |err c=>exact XA.later h s sub
 |ok f=>
  cases f with
  |nx Z'=>exact λσ' H' M' s' E' o'=>h σ' H' M' (s.trans s' sub) E' λa z=>back a (o' a z)
  |rt t=>exact λv H' s' r=>h v H' (s.trans s' sub) r
  |bk Z'=>exact λσ' H' M' s' E' o'=>h σ' H' M' (s.trans s' sub) E' λa z=>back a (o' a z)
  |ct Z'=>exact λσ' H' M' s' E' o'=>h σ' H' M' (s.trans s' sub) E' λa z=>back a (o' a z)
def PostF.xa{P:Ow}{c:Str}(h:PostF X B P H (.err c) D):XA X zG H c:=XA.later (P:=P) h (λ_ _ e _=>e) λ_ z=>z.elim
def sN(Z:En):Rs Fl:=.ok (.nx Z)
noncomputable def aD(F G:Y1)(Z:En):Rs Fl:=do
 let f <-F Z
 match f with
 |.nx Z'=>G Z'
 |f=>.ok f
def IQ:nu X [] sN:=PSs.imp zp λD σ H ⟨Z,B,M,E,h⟩=>h σ H M (λ_ _ e _=>e) E λa z=>.inl z
def FI{dv:List ZF}{F G:Y1}(h1:qQ X st F)(h2:nu X dv G):nu X (st::dv) (aD F G):=PSs.imp (lS h1 h2) λD σ H hh_=>by
 obtain⟨Z,B,M,E,h⟩:=hh_;refine⟨Z,B,M,E,?_⟩;unfold aD at h;cases q:F Z with
 |bad=>rw[q]at h;exact h.elim
 |err c=>rw[q]at h;exact h
 |ok f=>
  rw[q,aH]at h;cases f with
  |nx Z'=>exact λσ' H' M' s' E' o'=>⟨Z',B,M',E',h.later s' o'⟩
  |rt t=>exact h
  |bk Z'=>exact h
  |ct Z'=>exact h
def IP{F:Y1}(h:qQ X st F):nu X [st] F:=gF h
noncomputable def aW(f:Y2)(Z:En):Rs Fl:=do
 let t <-f Z
 .ok (.rt t)
def IL(ha:c8 X a fa):qQ X (.Return (ZA a) pos) (aW fa):=PS.imp (jK ha) λD σ H hh_=>by
 obtain⟨Z,B,M,E,h⟩:=hh_;refine⟨Z,OO B M,E.o,?_⟩;unfold aW at h;cases q:fa Z with
 |bad=>rw[q]at h;exact h.elim
 |err c=>rw[q]at h;exact PostF.xa h
 |ok t=>
  rw[q,aH]at h;exact λH' s v r=>h v H' (SameO.of s) (r.less λ_ z=>.inl z)
noncomputable def gE(f:Y3)(F G:Y1)(Z:En):Rs Fl:=do
 let k <-f Z
 if k then F Z else G Z
def Lj{A B:List ZF}{F G:Y1}(hc:xA X c f)(ha:nu X A F)(hb:nu X B G):qQ X (.If c A B pos) (gE f F G):=PS.imp (Hv hc ha hb) λD σ H hh_=>by
 obtain⟨Z,B,M,E,h⟩:=hh_;refine⟨Z,OO B M,E.o,?_⟩;unfold gE at h;cases q:f Z with
 |bad=>rw[q]at h;exact h.elim
 |err c=>rw[q]at h;exact PostF.xa h
 |ok k=>
  rw[q,aH]at h;intro H' s;have E':Ev X.K B M H' Z σ:=E.same s;cases k with
  |true=>refine L2.iteT ?_;exact⟨Z,B,M,E',PostF.later (by simpa using h) (SameO.of s) λa z=>.inl z⟩
  |false=>refine L2.iteF ?_;exact⟨Z,B,M,E',PostF.later (by simpa using h) (SameO.of s) λa z=>.inl z⟩
noncomputable def cI(f:Y2)(g:T->En->Rs En)(Z:En):Rs Fl:=do
 let t <-f Z
 match g t Z with
 |.ok Z'=>.ok (.nx Z')
 |_=>.bad
variable{f:Y2}
def Cb(E:Ev X.K B M H Z σ)(h:PostF X B M.u H (cI f g Z) D):B2 (tP X f) (B1 X g) D σ H:=by
 refine⟨Z,OO B M,E.o,?_⟩;unfold cI at h;cases q:f Z with
 |bad=>rw[q]at h;exact h.elim
 |err c=>rw[q]at h;exact PostF.xa h
 |ok t=>
  rw[q,aH]at h;intro H' s v r;refine⟨Z,OO B M,M,t,E.env.same s,r,?_⟩;cases q2:g t Z with
  |bad=>rw[q2]at h;exact h.elim
  |err c=>rw[q2]at h;exact h.elim
  |ok Z'=>
   rw[q2]at h;exact λσ' E'=>h σ' H' M (SameO.of s) ⟨E',E.mine⟩ λa z=>.inl z
def Fd{Q':VK}(h:tP X f σ H Q)(w:∀v H',Q v H'->Q' v H'):tP X f σ H Q':=by obtain⟨Z,O,E,q⟩:=h;exact⟨Z,O,E,Post.mono q λt H' _ z v r=>w v H' (z v r)⟩
def Li{elt:ZG}{spos py:Pos}{src:List (Option Nat)}{fc:Y3}(i:Nat){y:Str}
  (hc:X.calm=ZC) (S:LcScope X scope N' src) (hi:BB X tg iter fi)
  (block:∀cl C s₀ H₀ fp,ER (cA X scope cl N' C s₀ H₀ fp) tg tgt/\BJ (cA X scope cl N' C s₀ H₀ fp) ifs (B0 (cA X scope cl N' C s₀ H₀ fp) fc)/\c8 (cA X scope cl N' C s₀ H₀ fp) elt fe)
  (hN:X.N.Nodup) (hiy:X.N[i]?=ZA y:=by rfl) (hy:autoParam (Loc X.env.scope y) x_) (hsw:P7 (.ListComp elt [⟨tg,iter,ifs,0⟩] scope pos) (ZA (.Name y py)) spos.line X.env=pure ZC:=by rfl)
  (hf:autoParam (X.fn y=ZC\/X.env.scope.names.lookup y=ZA .local) r_) (hs:autoParam (∀x,Pj iter X.env x=pure x) t_):
  qQ X (.Assign [.Name y py] (.ListComp elt [⟨tg,iter,ifs,0⟩] scope pos) spos) (cI (d6 fi src tgt fc fe) (gN i)):=by
 have hPG:∀cl C s₀ H₀ fp,PG (cA X scope cl N' C s₀ H₀ fp) tg (B1 X tgt):=λcl C s₀ H₀ fp=>(block cl C s₀ H₀ fp).1;have hPI:∀cl C s₀ H₀ fp,BJ (cA X scope cl N' C s₀ H₀ fp) ifs (tPT0 X.K fc):=λcl C s₀ H₀ fp kw s σ H Q I h=>(block cl C s₀ H₀ fp).2.1 kw s σ H Q I (tPT0.up (X:=cA X scope cl N' C s₀ H₀ fp) h);have hPE:∀cl C s₀ H₀ fp,PE (cA X scope cl N' C s₀ H₀ fp) elt (tP0 X.K fe):=λcl C s₀ H₀ fp kw s σ H Q I h=>(block cl C s₀ H₀ fp).2.2 kw s σ H Q I (tP0.up (X:=cA X scope cl N' C s₀ H₀ fp) h);refine PS.imp (LA (g:=B1 X tgt) (tc:=tPT0 X.K fc) (te:=tP0 X.K fe) (i:=i) hc S hi (λcl C s₀ H₀ fp=>⟨hPG cl C s₀ H₀ fp,hPI cl C s₀ H₀ fp,hPE cl C s₀ H₀ fp⟩) hN hiy hy hsw hf hs) λD σ H ⟨Z,B,M,E,h⟩=>zS (Fd (Cb E h) λv H' z=>?_);obtain⟨Z',O,M',t,E',r,q⟩:=z;unfold gN at q;split at q
 .rename_i Z2 e;split at e
  .rename_i hl;cases e;exact q _ (E'.set hl r)
  .cases e
 .exact q.elim
def IW(ha:c8 X a fa)(hg:ER X tg g)(hs:VN [tg] a pos.line X.env=pure ZD:=by rfl)(hw:VO [tg] a X.env=pure ZB:=by rfl)
  (h1:(Qv [tg] X.env).map (·.2)=[assign tg X.env]:=by rfl):qQ X (.Assign [tg] a pos) (cI fa g):=PS.imp (Jh ha hg hs hw h1) λD σ H ⟨Z,B,M,E,h⟩=>Cb E h
noncomputable def xT(f:Y2)(Z:En):Rs Fl:=do
 let _ <-f Z
 .ok (.nx Z)
def FH(ha:c8 X a fa)(hs:P7 a ZB pos.line X.env=pure ZD:=by rfl):qQ X (.Expr a pos) (xT fa):=PS.imp (tT ha hs) λD σ H hh_=>by
 obtain⟨Z,B,M,E,h⟩:=hh_;refine⟨Z,OO B M,E.o,?_⟩;unfold xT at h;cases q:fa Z with
 |bad=>rw[q]at h;exact h.elim
 |err c=>rw[q]at h;exact PostF.xa h
 |ok t=>
  rw[q,aH]at h;exact λH' s v r=>h σ H' M (SameO.of s) (E.same s) λa z=>.inl z
noncomputable def bD(g:T->En->Rs En)(F:Y1):List T->Y1
 |[],Z=>.ok (.nx Z)
 |t::r,Z=>do
  let Z1 <-g t Z
  let f <-F Z1
  match f with
  |.nx Z2=>bD g F r Z2
  |.ct Z2=>bD g F r Z2
  |.bk Z2=>.ok (.nx Z2)
  |.rt t=>.ok (.rt t)
noncomputable def d7(fi:Y0)(g:T->En->Rs En)(F:Y1)(Z:En):Rs Fl:=do
 let ts <-fi Z
 match bD g F ts Z with
 |.ok f=>.ok f
 |_=>.bad
def mV{t:Sem α}{Q:α->Oe->Prop}(h:ZJ (ZK P w) A t Q (λ_ _=>False) s):ZJ (ZK P w) A t Q E s:=Qp h (λ_ _ q=>q) λ_ _ z=>z.elim
def FX{wi:TI}{g:TG}{tb:TS}(hc:X.calm=ZC)(hi:PI X tg iter wi)(hg:PG X.nox tg g)(hb:PSs X.nox body tb)
  (hs:autoParam (∀x,Pj iter X.env x=pure x) t_):PS X (.For tg iter body [] pos) (tFor wi g tb):=by
 intro kw s σ H D I h;refine wpAny_For (cL (hi kw s σ H _ I h) λv s1 h1=>cL h1 λitv s2 h2=>?_) hs;obtain⟨it,fp,tn,J,H2,e,I2,T,st2,f2,W,⟨m0,w0⟩,turn⟩:=h2;subst e;have stat:∀{H':Hp},(∀b∈fp,H' b=ZB)->∀b∈fp,qR X kw H' b:=λhn b hb=>⟨hn b hb,(f2 b hb).2⟩;refine codeAny_forLoop_any (λn s'=>∃i σ' H',Inv X kw σ' H' s'/\tn i s'.heap/\(∀b∈fp,H' b=ZB)/\W i n σ' H') ?_ m0 ⟨0,σ,H2,I2,st2,λb hb=>(f2 b hb).1,w0⟩;rintro n s3 ⟨i,σ3,H3,I3,st3,fr3,w3⟩;rcases turn i n σ3 H3 w3 with⟨stop,qn⟩|⟨go,N,hN,step⟩
 .refine mV (cL (T.done X.nox rfl rfl rfl hc i kw s3 σ3 H3 _ (I3.FB _) (stat fr3) st3 stop) λr s4 ⟨hr,I4⟩=>?_);subst hr;exact Sm ⟨σ3,H3,I4.FB _,qn⟩
 .refine mV (cL (T.item X.nox rfl rfl rfl hc i kw s3 σ3 H3 _ (I3.FB _) (stat fr3) st3 go) λr s4 ⟨u,hr,h4⟩=>?_);subst hr;refine mV (cL h4 λ_ s5 hh_=>?_);obtain⟨x,H5,I5,r5,y5,st5,fr5⟩:=hh_;have I5':=Inv.pinned (X:=X.nox) I5 (stat fr5) (T.obj _ _ st5);refine mV (cL (hg _ s5 σ3 H5 x u _ I5' r5 (step x H5 y5)) λ_ s6 hh_=>?_);obtain⟨σ6,H6,I6,q6⟩:=hh_;refine mV (cL (hb _ s6 σ6 H6 _ I6 q6) λf s7 q7=>?_);have again:∀{σ7:L2.St}{H7:Hp},Inv X.nox (kw++pE fp s5.heap) σ7 H7 s7->N σ7 H7->∃m,m<n/\∃i σ' H',Inv X kw σ' H' s7/\tn i s7.heap/\(∀b∈fp,H' b=ZB)/\W i m σ' H':=λ{σ7 H7} I7 n7=>by obtain⟨m',hm,w7⟩:=hN σ7 H7 n7;refine⟨m',hm,i+1,σ7,H7,(Inv.M5 (X:=X.nox) I7).FB _,T.keep _ _ _ st5 λb hb o e=>(I7.pin (b,o) (OL _ (OL _ (jb hb e)))).1,λb hb=>?_,w7⟩;obtain⟨o,e,d⟩:=T.obj _ _ st5 b hb;exact(I7.pin (b,o) (OL _ (OL _ (jb hb e)))).2.1
  cases f with
  |next=>obtain⟨σ7,H7,I7,n7⟩:=q7;exact again I7 n7
  |cont=>obtain⟨σ7,H7,I7,n7⟩:=q7;exact again I7 n7
  |brk=>obtain⟨σ7,H7,I7,q7⟩:=q7;exact⟨σ7,H7,(Inv.M5 (X:=X.nox) I7).FB _,q7⟩
  |ret v=>obtain⟨x7,σ7,H7,I7,r7,q7⟩:=q7;exact⟨x7,σ7,H7,(Inv.M5 (X:=X.nox) I7).FB _,r7,q7⟩
def IS{F:Y1}(hc:X.calm=ZC)(hi:BB X tg iter fi)(hg:ER X.nox tg g)(hb:nu X.nox body F)
  (hs:autoParam (∀x,Pj iter X.env x=pure x) t_):qQ X (.For tg iter body [] pos) (d7 fi g F):=PS.imp (FX hc hi hg hb hs) λD σ H hh_=>by
 obtain⟨Z,B,M,E,h⟩:=hh_;refine⟨Z,OO B M,E.o,?_⟩;unfold d7 at h;cases q:fi Z with
 |bad=>rw[q]at h;exact h.elim
 |err c=>rw[q]at h;exact PostF.xa h
 |ok ts=>
  rw[q,aH]at h;cases qq:bD g F ts Z with
  |bad=>rw[qq]at h;exact h.elim
  |err c=>rw[qq]at h;exact h.elim
  |ok fin=>
  rw[qq]at h;intro H1 s1 J hJ;have E1:Ev X.K B M H1 Z σ:=E.same s1;have h1:PostF X B M.u H1 (.ok fin) D:=PostF.later h (SameO.of s1) λa z=>.inl z;refine⟨λi m σ' H'=>m=ts.length - i/\i<=ts.length/\SameO M.u H1 H'/\∃Z' M',Ev X.K B M' H' Z' σ'/\(∀a,M'.u a->M.u a\/Nw X.K H1 a)/\bD g F (ts.drop i) Z'=.ok fin,
   ⟨ts.length,by omega,Pk _,λ_ _ e _=>e,Z,M,E1,λa z=>.inl z,by simpa using qq⟩,?_⟩
  rintro i m σ' H' ⟨rfl,hi',sm,Z',M',E',ow,hl⟩;have it:=hJ M.u (OO B M') (λa z=>.inl (.inr z)) (λa z=>z.elim (λw=>.inl (.inl w)) λw=>(ow a w).elim (λy=>.inl (.inr y)) .inr) i H' sm (λa z=>(E'.env.trk a z).some);by_cases hlt:i<ts.length
  .have hti:ts[i]?=ZA ts[i]:=by simp
   obtain⟨go,yl⟩:=it.2 ts[i] hti;rw[Qy hlt]at hl;unfold bD at hl;refine .inr ⟨go,λσ2 H2=>∃m',m'<ts.length - i/\(m'=ts.length - (i+1)/\i+1<=ts.length/\SameO M.u H1 H2/\∃Z2 M2,Ev X.K B M2 H2 Z2 σ2/\(∀a,M2.u a->M.u a\/Nw X.K H1 a)/\bD g F (ts.drop (i+1)) Z2=.ok fin),λσ2 H2 z=>z,λx Hc y=>?_⟩;obtain⟨sc,rx⟩:=yl x Hc y;refine⟨Z',OO B M',M',ts[i],E'.env.same sc,rx,?_⟩;cases e1:g ts[i] Z' with
   |bad=>rw[e1]at hl;cases hl
   |err cc=>rw[e1]at hl;cases hl
   |ok Z1=>
    rw[e1,aH]at hl;intro σ1 Eg;have E2:Ev X.K B M' Hc Z1 σ1:=⟨Eg,E'.mine⟩;refine⟨Z1,B,M',E2,?_⟩;have smc:SameO M.u H1 Hc:=λb o e n=>sc _ _ (sm b o e n);have onward:∀{σ3:L2.St}{H3:Hp}{Z3:En}{M3:Mn},SameO M'.u Hc H3->Ev X.K B M3 H3 Z3 σ3->(∀a,M3.u a->M'.u a\/Nw X.K Hc a)->bD g F (ts.drop (i+1)) Z3=.ok fin ->
      ∃m',m'<ts.length - i/\(m'=ts.length - (i+1)/\i+1<=ts.length/\SameO M.u H1 H3/\∃Z2 M2,Ev X.K B M2 H3 Z2 σ3/\(∀a,M2.u a->M.u a\/Nw X.K H1 a)/\bD g F (ts.drop (i+1)) Z2=.ok fin):=
     λ{σ3 H3 Z3 M3} s3 E3 o3 p3=>⟨_,by omega,rfl,hlt,smc.trans s3 ow,Z3,M3,E3,λa z=>(o3 a z).elim (ow a) (ja smc),p3⟩
    cases e2:F Z1 with
    |bad=>rw[e2]at hl;cases hl
    |err cc=>rw[e2]at hl;cases hl
    |ok f=>
     rw[e2,aH]at hl;cases f with
     |nx Z2=>exact λσ3 H3 M3 s3 E3 o3=>onward s3 E3 o3 hl
     |ct Z2=>exact λσ3 H3 M3 s3 E3 o3=>onward s3 E3 o3 hl
     |bk Z2=>
      cases hl;exact λσ3 H3 M3 s3 E3 o3=>h1 σ3 H3 M3 (smc.trans s3 ow) E3 λa z=>(o3 a z).elim (ow a) (ja smc)
     |rt t=>
      cases hl;exact λv H3 s3 r=>h1 v H3 (smc.trans s3 ow) r
  .refine .inl ⟨it.1 (by omega),?_⟩;have hi2:i=ts.length:=by omega
   subst hi2;rw[WK]at hl;cases hl;exact h1 σ' H' M' sm E' ow
noncomputable def cf(c:Y3)(F:Y1):Nat->Y1
 |0,_=>.bad
 |n+1,Z=>match c Z with
  |.ok ZD=>.ok (.nx Z)
  |.ok ZC=>match F Z with
   |.ok (.nx Z')=>cf c F n Z'
   |.ok (.ct Z')=>cf c F n Z'
   |.ok (.bk Z')=>.ok (.nx Z')
   |.ok (.rt t)=>.ok (.rt t)
   |_=>.bad
  |_=>.bad
def Cq{fc:Y3}{F:Y1}(n:Nat)(hc:xA X.nox c fc)(hb:nu X.nox body F):qQ X (.While c body [] pos) (cf fc F n):=by
 have base:PS X.nox (.While c body [] pos) (xJ (B0 X.nox fc) (MO X.nox F)):=CF PassesOwn.never hc hb;intro kw s σ H D I ⟨Z,B,M,E,h⟩;cases qq:cf fc F n Z with
 |bad=>rw[qq]at h;exact h.elim
 |err c=>
  exfalso;have:∀n Z,cf fc F n Z≠ .err c:=by
   intro n;induction n with
   |zero=>intro Z z;cases z
   |succ n ih=>
    intro Z z;unfold cf at z;split at z
    .cases z
    .split at z <;> first|exact ih _ z|cases z
    .cases z
  exact this n Z qq
 |ok fin=>
  rw[qq]at h;have goal:xJ (B0 X.nox fc) (MO X.nox F) D σ H:=by
   refine⟨λm σ' H'=>SameO M.u H H'/\∃Z' M',Ev X.K B M' H' Z' σ'/\(∀a,M'.u a->M.u a\/Nw X.K H a)/\cf fc F m Z'=.ok fin,⟨n,λ_ _ e _=>e,Z,M,E,λa z=>.inl z,qq⟩,?_⟩;rintro m σ' H' ⟨sm,Z',M',E',ow,hl⟩;cases m with
   |zero=>cases hl
   |succ m=>
    refine⟨Z',OO B M',E'.o,?_⟩;unfold cf at hl;cases e1:fc Z' with
    |bad=>rw[e1]at hl;cases hl
    |err cc=>rw[e1]at hl;cases hl
    |ok k=>
     rw[e1]at hl;intro H2 s2;have E2:Ev X.K B M' H2 Z' σ':=E'.same s2;have sm2:SameO M.u H H2:=λb o e n=>s2 _ _ (sm b o e n);cases k with
     |false=>
      cases hl;refine L2.iteF ?_;exact h σ' H2 M' sm2 E2 ow
     |true=>
      refine L2.iteT ?_;refine⟨λσ3 H3=>SameO M.u H H3/\∃Z3 M3,Ev X.K B M3 H3 Z3 σ3/\(∀a,M3.u a->M.u a\/Nw X.K H a)/\cf fc F m Z3=.ok fin,λσ3 H3 z=>⟨m,WJ m,z⟩,Z',B,M',E2,?_⟩;have hl':(match F Z' with|.ok (.nx Z')=>cf fc F m Z'|.ok (.ct Z')=>cf fc F m Z'|.ok (.bk Z')=>.ok (.nx Z')|.ok (.rt t)=>.ok (.rt t)|_=>.bad)=.ok fin:=hl;cases e2:F Z' with
      |bad=>rw[e2]at hl';cases hl'
      |err cc=>rw[e2]at hl';cases hl'
      |ok f=>
       rw[e2]at hl';cases f with
       |nx Z2=>exact λσ3 H3 M3 s3 E3 o3=>⟨sm2.trans s3 ow,Z2,M3,E3,λa z=>(o3 a z).elim (ow a) (ja sm2),hl'⟩
       |ct Z2=>exact λσ3 H3 M3 s3 E3 o3=>⟨sm2.trans s3 ow,Z2,M3,E3,λa z=>(o3 a z).elim (ow a) (ja sm2),hl'⟩
       |bk Z2=>
        cases hl';exact λσ3 H3 M3 s3 E3 o3=>h σ3 H3 M3 (sm2.trans s3 ow) E3 λa z=>(o3 a z).elim (ow a) (ja sm2)
       |rt t=>
        cases hl';exact λv H3 s3 r=>h v H3 (sm2.trans s3 ow) r
  refine mV (cL (base kw s σ H D (I.FB _) goal) λf s' q=>?_);cases f with
  |next=>obtain⟨σ7,H7,I7,n7⟩:=q;exact⟨σ7,H7,I7.FB _,n7⟩
  |cont=>obtain⟨σ7,H7,I7,n7⟩:=q;exact⟨σ7,H7,I7.FB _,n7⟩
  |brk=>obtain⟨σ7,H7,I7,n7⟩:=q;exact⟨σ7,H7,I7.FB _,n7⟩
  |ret v=>obtain⟨x7,σ7,H7,I7,r7,q7⟩:=q;exact⟨x7,σ7,H7,I7.FB _,r7,q7⟩
def K7(Z:En):Rs Fl:=.ok (.ct Z)
end
noncomputable def fo(F:Y1)(Z:En):Rs T:=do
 let f <-F Z
 match f with
 |.nx _=>.ok .non
 |.rt t=>.ok t
 |_=>.bad
noncomputable def bZ(n:Nat)(ts:List T):En:=ts.map Sl.va++OK (n - ts.length) Sl.em
variable{ts:List T}
def Az{o:OT}(e:(bZ n ts)[i]?=ZA (.ow o)):False:=by
 unfold bZ at e;by_cases hi:i<ts.length
 .rw[Rc (by simpa using hi),Ox,Og hi]at e;cases e
 .rw[RU (by simpa using hi),Rp]at e;split at e <;> cases e
variable{N:List Str}
def rL(r:Reps K O H ts vs)(hl:ts.length<=N.length)(trk:∀a,O a->Mtb H a):Ev K O noM H (bZ N.length ts) (start N vs):=by
 have hlen:=r.length;have sub:∀a,OO O noM a->O a:=λa z=>z.elim id λ⟨_,w⟩=>w.elim;refine⟨⟨by unfold bZ L2.start;simp;omega,λi t e=>?_,λi o e=>(Az e).elim,λ_ _ z=>z.elim,λ_ _ _ z=>z.elim,λa z=>trk a (sub a z)⟩,λa ⟨_,z⟩=>z.elim⟩;unfold bZ at e;unfold L2.start;by_cases hi:i<ts.length
 .rw[Rc (by simpa using hi),Ox,Og hi]at e;have e':ts[i]=t:=by injection e with e;injection e
  obtain⟨v,e1,e2⟩:=r.get (i:=i) (t:=t) (by rw[<-e'];simp);refine⟨v,?_,e2.less sub⟩;rw[Rc (by simp;omega),Ox,e1];rfl
 .rw[RU (by simpa using hi),Rp]at e;split at e <;> cases e
section
variable {mg:WF}{base:ZH}
def Mm{qual:Str}{f:ZE}{g:List T->Rs T}(Fn:L2.Fun K x qual st f fd)(S:dj N ps (az st))(hn:ps.length=n)
  (hbody:∀(cdv:Ob),fd.code=cdv->∀(A:OW)(outer:List Env)(s:Oe)(H:Hp)(E:XK),Room k (A.deeper (envOfC qual (az st) s.heap.objs.size f cdv)) ->
   ∃F,nu (jl CX0 P w K mg base N qual (az st) f cdv A outer s H E).nox (cZ st) F/\∀ts,ts.length=n->∀t,g ts=.ok t->fo F (bZ N.length ts)=.ok t):rC P w K mg base CX0 (k+1) f fd ps (spP K n g):=by
 have hpl:ps.length<=N.length:=by have:=congrArg PC S.pre;rw[Pr]at this;omega
 refine Fn.ok S (λvs H Q E h=>?_) (λcdv hcv A outer s H vs Q E hr h=>?_)
 .obtain⟨ts,O,r,_,hl,_⟩:=h;rw[<-r.length,hl,hn]
 .obtain⟨ts,O,r,trk,hl,h⟩:=h;obtain⟨F,hF,hv⟩:=hbody cdv hcv A outer s H E hr;refine⟨_,hF,bZ N.length ts,O,noM,rL r (by omega) trk,?_⟩;have no:∀a,¬noM.u a:=λa ⟨_,z⟩=>z;cases q:g ts with
  |bad=>rw[q]at h;exact h.elim
  |err c=>rw[q]at h;exact h.elim
  |ok t=>
   rw[q]at h;have hb:=hv ts hl t q;unfold fo at hb;cases q2:F (bZ N.length ts)with
   |bad=>rw[q2]at hb;cases hb
   |err c=>rw[q2]at hb;cases hb
   |ok fl=>
    rw[q2,aH]at hb;have sameOf:∀H',SameO noM.u H H'->Same H H':=λH' s b o e=>s b o e (no b);cases fl with
    |nx Z'=>cases hb;exact λσ' H' M' s' E' o'=>h .non H' (sameOf H' s') Rep.NF
    |rt t'=>cases hb;exact λv H' s' r'=>h v H' (sameOf H' s') r'
    |bk Z'=>cases hb
    |ct Z'=>cases hb
end
end Tr
namespace Enu
open PySem
open AutoSeq1 (wpAny_loadPart')
variable{its:Array Ob}
def E5{it tt:ZE}{x:Ob}(hi:s.heap.IsTupleIter it tt k)(ht:s.heap.IsTuple tt its)(hx:its[k]?=ZA x)
  (hQ:∀h',h'.IsTupleIter it tt (k+1)->SI it s.heap h'->Q x {s with heap:=h'}):ZJ (ZK prog w) A (Rb (.ref it)) Q E s:=by
 obtain⟨ob,g1,g2,g3⟩:=id hi;obtain⟨ot,k1,_,m,k3⟩:=ht;unfold Rb;refine N8 (Ql (name:=Oq "__next__") hi.typeIs Q4 (Q6 Q4 hi.typeIs Tc ?_ (S4 _)));show ZJ (ZK prog w) _ (field (.ref it) 0 >>= _) _ _ s;refine N8 (Qw g1 g3 (x:=.ref tt) rfl ?_);show ZJ (ZK prog w) _ (if (OB tt == Po)=ZC then _ else _) _ _ s;rw[if_neg (show ¬((OB tt == Po)=ZC)by exact OG)];show ZJ (ZK prog w) _ (field (.ref it) 1 >>= _) _ _ s;refine N8 (Qw g1 g3 (x:=.int k 0) rfl ?_);show ZJ (ZK prog w) _ (VX (.ref tt) >>= _) _ _ s;refine N8 (RZ k1 k3 ?_);simp only[hx,PD];refine N8 (Vd g1 g3 (by simp) (Om ⟨x,rfl,Om (hQ _ ?_ (Ve ..))⟩));refine⟨_,RF _ g1 (UG (Si g3 _)),(Obj.cls_mapFields ..).trans g2,?_⟩;rw[Si g3];simp[rawInt]
def tupStop{it tt:ZE}(hh:A.handled=ZB)(hi:s.heap.IsTupleIter it tt k)(ht:s.heap.IsTuple tt its)(hx:its[k]?=ZB)
  (hE:∀h' e,Heap.ExtBut it s.heap h'->(∃o,h'.get? e=ZA o/\o.cls=.type "StopIteration")->E (.ref e) {s with heap:=h'}):ZJ (ZK prog w) A (Rb (.ref it)) Q E s:=by
 obtain⟨ob,g1,g2,g3⟩:=id hi;obtain⟨ot,k1,_,m,k3⟩:=ht;unfold Rb;refine N8 (Ql (name:=Oq "__next__") hi.typeIs Q4 (Q6 Q4 hi.typeIs Tc ?_ (S4 _)));show ZJ (ZK prog w) _ (field (.ref it) 0 >>= _) _ _ s;refine N8 (Qw g1 g3 (x:=.ref tt) rfl ?_);show ZJ (ZK prog w) _ (if (OB tt == Po)=ZC then _ else _) _ _ s;rw[if_neg (show ¬((OB tt == Po)=ZC)by exact OG)];show ZJ (ZK prog w) _ (field (.ref it) 1 >>= _) _ _ s;refine N8 (Qw g1 g3 (x:=.int k 0) rfl ?_);show ZJ (ZK prog w) _ (VX (.ref tt) >>= _) _ _ s;refine N8 (RZ k1 k3 ?_);simp only[hx,PD];refine N8 (SD (N8 (Vd g1 g3 (by simp) ?_)));show ZJ (ZK prog w) _ (newExc (.type "StopIteration") [] >>= _) _ _ _;refine N8 ?_;simp only[newTuple,newExc];refine N8 (Pu ?_ (by size_fits));refine N8 (m:=firstArgMember _ _) (wpAny_of_eq (a:=Po) (by first| (simp only[firstArgMember];rfl)|rfl) ?_);refine Pu ?_ (by size_fits);simp only[raiseNew];refine N8 (wpAny_handled ?_);first|rw[hh]|rw[show A.in1.handled=ZB from hh]
 refine N8 (Om (wpAny_throw ?_));refine hE _ _ (((Ve ..).extBut.push _).push _) ⟨_,OA _ rfl,rfl⟩
def tupDraws(hh:A.handled=ZB)(it tt:ZE)(hne:tt≠it)(its:Array Ob):
  Draws prog w A it [it,tt] its.size (λi v=>its[i]?=ZA v) (λi h=>h.IsTupleIter it tt i/\h.IsTuple tt its) where
 live:=λ_ _ st=>by obtain⟨o,ho,_⟩:=st.1;exact⟨o,ho⟩
 frame:=λ_ _ _ st hk=>by obtain⟨⟨o,e,r⟩,⟨o',e',r'⟩⟩:=st;exact⟨⟨o,hk it (by simp) o e,r⟩,⟨o',hk tt (by simp) o' e',r'⟩⟩
 item:=λi s Q E hi st hQ=>by refine E5 st.1 st.2 (x:=its[i]) (by simp[hi]) λh' hit' hs'=>?_;obtain⟨o',e',r'⟩:=st.2;exact hQ _ h' s.toks (by simp[hi]) ⟨hit',⟨o',(hs'.2 tt hne).trans e',r'⟩⟩ hs'
 done:=λs Q E st hE=>tupStop hh st.1 st.2 (by simp) hE
def newT(l:ZE)(items:Array Ob)(n:Nat)(dct:Option ZE)(sl:Array (Option Ob)):
  Meets (Builtin.«enumerate.__new__» ⟨[.type "enumerate",.ref l],[]⟩) (λ_ R s=>s.heap.get? l=ZA {cls:=.type "tuple",dict:=dct,data:=.seq items n,slots:=sl} ∧
   R (.ok (.ret (.ref (s.heap.push {cls:=.type "tuple_iterator",data:=.fields #[.ref l,.int 0 0]}).objs.size)))
    {s with heap:=(s.heap.push {cls:=.type "tuple_iterator",data:=.fields #[.ref l,.int 0 0]}).push {cls:=.type "enumerate",data:=.fields #[.none,.bool ZD,.ref s.heap.objs.size,rawInt 0,.none,.none]}}):=
 .of_wp λprog w A R s h=>by
  obtain⟨hp,g,d,tk,os⟩:=s;obtain⟨hl,h⟩:=h;have hsub:=sub_enumerate;have hT:Heap.IsTuple (Shared.heap ⟨hp,g,d,tk,os⟩) l items:=⟨_,hl,rfl,n,rfl⟩;wp_walk using O4 hl;refine wpAny_stack_any λst=>Om ?_;split
  .rename_i c _ _ _ _ _;cases (c == Ry "enumerate")
   .wp_walk using O4 hl,So hT
    exact⟨_,rfl,h⟩
   .wp_walk using O4 hl,So hT
    exact⟨_,rfl,h⟩
  .wp_walk using O4 hl,So hT
   exact⟨_,rfl,h⟩
def callT{l:ZE}{items:Array Ob}(hL:s.heap.IsTuple l items)
  (h:∀h',IsEnum h' (s.heap.objs.size+1) s.heap.objs.size 0 .none->h'.IsTupleIter s.heap.objs.size l 0->h'.objs.size=s.heap.objs.size+2 ->
   (∀b o,s.heap.get? b=ZA o->h'.get? b=ZA o)->Q (.ref (s.heap.objs.size+1)) {s with heap:=h'}):ZJ (ZK prog w) A (call (.type "enumerate") [.ref l]) Q E s:=by
 obtain⟨⟨cc,dc,dd,ss⟩,hl,hc,n,hd⟩:=hL;replace hc:cc=.type "tuple":=hc;replace hd:dd=.seq items n:=hd;subst hc hd;refine callType_new F.called_enumerate (by decide) (F.typeCall_enumerate_1 _) (F.newCall_enumerate_1 _) (λobj=>F.args_object_init_2 obj _) F.entry_enumerate_new (newT l items n dc ss) ⟨hl,?_⟩;have hz:(s.heap.push {cls:=.type "tuple_iterator",data:=.fields #[.ref l,.int 0 0]}).objs.size=s.heap.objs.size+1:=RA ..;show _/\_;rw[hz];have he:IsEnum ((s.heap.push {cls:=.type "tuple_iterator",data:=.fields #[.ref l,.int 0 0]}).push
   {cls:=.type "enumerate",data:=.fields #[.none,.bool ZD,.ref s.heap.objs.size,rawInt 0,.none,.none]}) (s.heap.objs.size+1) s.heap.objs.size 0 .none:=by
  have q:=OA (s.heap.push {cls:=.type "tuple_iterator",data:=.fields #[.ref l,.int 0 0]})
   (o:={cls:=.type "enumerate",data:=.fields #[.none,.bool ZD,.ref s.heap.objs.size,rawInt 0,.none,.none]}) rfl
  rw[hz]at q;exact q
 refine⟨⟨_,he,rfl⟩,h _ he ⟨_,Oi _ (OA _ rfl),rfl,rfl⟩ (by rw[RA,hz]) λb o x=>Oi _ (Oi _ x)⟩
end Enu
namespace L2
open PySem PySem.Spec PyProof.Rows
variable{X:Cx}{fp:List ZE}{h':ZH}
section
variable {kw:Uf}{σ:L2.St}{H:Hp}
def Inv.ND{Tp:ZE}{xs:List V}(I:Inv X kw σ H s)(hf:∀b∈fp,qR X kw H b)(k:∀b o,b∉fp->s.heap.get? b=ZA o->h'.get? b=ZA o)
  (ht:∀b∈fp,∃o,h'.get? b=ZA o) (hT:s.heap.objs.size<=Tp) (new:ObjOk X.prog X.w (upd H Tp (.tup xs)) h' Tp (.tup xs)):Inv X kw σ (upd H Tp (.tup xs)) {s with heap:=h',toks:=t'}:=by
 have hn:H Tp=ZB:=I.hok.fresh hT;have qf:∀b o,s.heap.get? b=ZA o->b≠Tp:=λb o e=>O8 (Ot (Ov e) hT);have nf:∀b u,H b=ZA u->b∉fp:=λb u e z=>by rw[(hf b z).1]at e;cases e
 refine I.step (g':=s.gens) (d':=s.drawn) (ch:=fp) (λb hb=>⟨(hf b hb).2.2.2.1,(hf b hb).2.1,(hf b hb).2.2.2.2.1,(hf b hb).2.2.2.2.2⟩) (λb o _ _ hc e _=>k b o hc e) (λb o _ _ hc e _=>⟨o.slots,k b o hc e⟩)
  (λb o _ e n=>by rw[aG (qf b o e)];exact n) (λb o hc e=>⟨o,k b o hc e⟩) (λb ys e=>by rw[aG (cV e hn)];exact e) (λb o u e=>by rw[aG (cV e hn)];exact e)
  (λb ps e=>(by rw[aG (cV e hn),e])) (λm hm=>?_) (λb u e=>?_) I.bare
 .obtain⟨o,es,ep,ho,r⟩:=hm;exact⟨o,es,ep,k _ o (λz=>(hf _ z).2.1 rfl) ho,r⟩
 .by_cases hb:b=Tp
  .subst hb;rw[aI]at e;cases e;exact new
  .rw[aG hb]at e;refine(I.hok b u e).M6 (λc v hc q=>k c v ?_ q) (λc q=>by rw[aG (cV q hn)];exact q) λc ys q=>by rw[aG (cV q hn)];exact q
   rcases hc with z|z
   .rw[z];exact nf b u e
   .exact nf c _ z
def Inv.Nc(I:Inv X kw σ H s)(hf:∀b∈fp,qR X kw H b)(k:∀b o,b∉fp->s.heap.get? b=ZA o->h'.get? b=ZA o):Inv X kw σ H {s with heap:=h',toks:=t'}:=by
 have nf:∀b u,H b=ZA u->b∉fp:=λb u e z=>by rw[(hf b z).1]at e;cases e
 refine I.step (g':=s.gens) (d':=s.drawn) (ch:=fp) (λb hb=>⟨(hf b hb).2.2.2.1,(hf b hb).2.1,(hf b hb).2.2.2.2.1,(hf b hb).2.2.2.2.2⟩) (λb o _ _ hc e _=>k b o hc e) (λb o _ _ hc e _=>⟨o.slots,k b o hc e⟩)
  (λb o _ e n=>n) (λb o hc e=>⟨o,k b o hc e⟩) (λb ys e=>e) (λb o u e=>e)
  (λb ps e=>(by rw[e])) (λm hm=>?_) (λb u e=>?_) I.bare
 .obtain⟨o,es,ep,ho,r⟩:=hm;exact⟨o,es,ep,k _ o (λz=>(hf _ z).2.1 rfl) ho,r⟩
 .refine(I.hok b u e).M6 (λc v hc q=>k c v ?_ q) (λc q=>q) λc ys q=>q;rcases hc with z|z
  .rw[z];exact nf b u e
  .exact nf c _ z
end
def EO(K:N7)(H:Hp)(a:ZE)(tt:Bool)(xs:List V):Prop:=if tt then SqT K H a xs else SqL K H a xs
def MZ(K:N7)(a:ZE)(tt:Bool):It:=
 ⟨λi H=>∃xs x,EO K H a tt xs/\xs[i]?=ZA x,λi H x H'=>∃p v,x=.ref p/\H p=ZB/\H'=upd H p (.tup [.int (i:Nat),v])/\∀xs,EO K H a tt xs->xs[i]?=ZA v,λi H=>∃xs,EO K H a tt xs/\xs.length<=i⟩
def itAt(tt:Bool)(h:ZH)(it a:ZE)(i:Nat):Prop:=if tt then h.IsTupleIter it a i else h.IsListIter it a i
variable{h:ZH}
def itAt.obj{it a:ZE}(st:itAt tt h it a i):∃o,h.get? it=ZA o/\∀v,o.data≠ .cell v:=by
 cases tt with
 |true=>obtain⟨o,e,c,d⟩:=(show h.IsTupleIter it a i from st);exact⟨o,e,λv z=>by rw[d]at z;cases z⟩
 |false=>obtain⟨o,e,c,d⟩:=(show h.IsListIter it a i from st);exact⟨o,e,λv z=>by rw[d]at z;cases z⟩
def itAt.keep{it a:ZE}(st:itAt tt h it a i)(k:∀o,h.get? it=ZA o->h'.get? it=ZA o):itAt tt h' it a i:=by
 cases tt with
 |true=>obtain⟨o,e,r⟩:=(show h.IsTupleIter it a i from st);exact(show h'.IsTupleIter it a i from⟨o,k o e,r⟩)
 |false=>obtain⟨o,e,r⟩:=(show h.IsListIter it a i from st);exact(show h'.IsListIter it a i from⟨o,k o e,r⟩)
variable{elts:List ZG}{pos:Pos}
def Ax(tt:Bool)(a e it:ZE)(hei:e≠it):
  Bz P w K (.Tuple elts kk pos) (MZ K a tt) [e,it] e (λi h=>(∃old,IsEnum h e it i old)/\itAt tt h it a i) where
 mem:=by simp
 obj:=λi h st b hb=>by
  obtain⟨⟨old,he⟩,hi⟩:=st;rcases Oh.mp hb with rfl|hb
  .exact⟨_,he,λv z=>by have z':W2 _=Data.cell v:=z;cases z'⟩
  .rw[OF.mp hb];exact hi.obj
 keep:=λi h h' st k=>by obtain⟨⟨old,he⟩,hi⟩:=st;exact⟨⟨old,k e (by simp) _ he⟩,hi.keep λo q=>k it (by simp) o q⟩
 item:=by
  intro X hP hw hK hc i kw s σ H E I hf st hg;subst hP hw hK;obtain⟨xs,x,hq,hx⟩:=hg;obtain⟨⟨old,he⟩,hi⟩:=st;have key:∀(its:List Ob),Vals xs its->(∀ys,EO X.K H a tt ys->ys=xs)->∀(fp0:List ZE)(St:Nat->ZH->Prop),Draws X.prog X.w X.A.in1 it fp0 its.toArray.size (λi v=>its.toArray[i]?=ZA v) St->e∉fp0->it∈fp0->St i s.heap ->
    (∀h',St (i+1) h'->itAt tt h' it a (i+1)) ->
    ZJ (ZK X.prog X.w) X.A (pyNext (.ref e)) (λr s1=>∃u,r=ZA u/\ZJ (ZK X.prog X.w) X.A (Sn (.Tuple elts kk pos) (.ref e) u) (λ_ s2=>∃x' H',Inv X kw σ H' s2/\RelV x' u/\(MZ X.K a tt).yld i H x' H' ∧
     ((∃old,IsEnum s2.heap e it (i+1:Nat) old)/\itAt tt s2.heap it a (i+1))/\∀b∈ [e,it],H' b=ZB) E s1) E s:=by
   intro its rv uniq fp0 St D hef hif hst hnext;obtain⟨u,hu,ru⟩:=rv.get hx;have hlt:i<its.toArray.size:=by have:=(Oj.mp hu).1;simpa using this
   have W:=WalksT.enumerateD D e hei hef hif;refine W.item i s _ _ hlt ⟨⟨old,he⟩,hst⟩ λTp vals h1 tk hPt hTsz hTup hMid hk=>⟨.ref Tp,rfl,?_⟩;refine W.go elts kk pos i Tp {s with heap:=h1,toks:=tk} _ _ hMid λh2 hst2 hk2=>?_;obtain⟨t,x',hPx,hvals⟩:=hPt;subst hvals;have hxe:x'=u:=by
    have h1':its.toArray[i]?=ZA x':=hPx;have h2':its.toArray[i]?=ZA u:=by simpa using hu
    rw[h1']at h2';exact OQ h2'
   subst hxe;have hTw:=W.apart i Tp h1 hMid;obtain⟨oT,eT,rT⟩:=hTup;have eT2:h2.get? Tp=ZA oT:=hk2 Tp oT hTw eT;have kAll:∀b o,b∉ [e,it]->s.heap.get? b=ZA o->h2.get? b=ZA o:=λb o hb q=>hk2 b o hb (hk b o hb q);obtain⟨⟨old2,he2⟩,hs2⟩:=hst2;have hit2:=hnext h2 hs2;have there:∀b∈ [e,it],∃o,h2.get? b=ZA o:=λb hb=>by
    rcases Oh.mp hb with rfl|hb
    .exact⟨_,he2⟩
    .rw[OF.mp hb];obtain⟨o,q,_⟩:=hit2.obj;exact⟨o,q⟩
   have hn:H Tp=ZB:=I.hok.fresh hTsz;have new:ObjOk X.prog X.w (upd H Tp (.tup [.int (i:Nat),x])) h2 Tp (.tup [.int (i:Nat),x]):=
    ⟨by show 2<=ZI;decide,[.int (i:Nat) t,x'],.cons ⟨t,rfl⟩ (.cons ru .nil),⟨oT,eT2,rT⟩⟩
   have I2:=I.ND (t':=tk) hf kAll there hTsz new;refine⟨.ref Tp,_,I2,rfl,⟨Tp,x,rfl,hn,rfl,λys hy=>by rw[uniq ys hy];exact hx⟩,⟨⟨old2,he2⟩,hit2⟩,λb hb=>?_⟩;have hbT:b≠Tp:=λz=>by
    obtain⟨o,q⟩:∃o,s.heap.get? b=ZA o:=by
     rcases Oh.mp hb with rfl|hb
     .exact⟨_,he⟩
     .rw[OF.mp hb];obtain⟨o,q,_⟩:=hi.obj;exact⟨o,q⟩
    exact absurd (Ot (Ov q) hTsz) (by rw[z];exact Pa _)
   rw[aG hbT];exact(hf b hb).1
  have hne:∀b∈ [e,it],a≠b:=λb hb z=>by
   have hb':=(hf b hb).1;rw[<-z]at hb';have hbs:=hf b hb;cases tt with
   |true=>
    have hq':SqT X.K H a xs:=hq;rcases hq' with(q|⟨o,q⟩)|⟨o,its,n,q,_⟩
    .rw[hb']at q;cases q
    .rw[hb']at q;cases q
    .rcases hbs.2.2.2.1 with z1|z1
     .exact I.ok.noex a o (I.ok.mod.kin a o q) (z▸z1)
     .exact absurd (Ot (Ov (I.ok.bs a o (I.ok.mod.kin a o q)).1) (z▸z1)) (Pa _)
   |false=>
    have hq':SqL X.K H a xs:=hq;rcases hq' with(q|⟨o,q⟩)|⟨o,its,n,q,_⟩
    .rw[hb']at q;cases q
    .rw[hb']at q;cases q
    .rcases hbs.2.2.2.1 with z1|z1
     .exact I.ok.noex a o (I.ok.mod.kin a o q) (z▸z1)
     .exact absurd (Ot (Ov (I.ok.bs a o (I.ok.mod.kin a o q)).1) (z▸z1)) (Pa _)
  have hea:e≠a:=λz=>hne e (by simp) z.symm;have hia:it≠a:=λz=>hne it (by simp) z.symm;cases tt with
  |true=>
   have hq':SqT X.K H a xs:=hq;obtain⟨its,rv,p,hz⟩:=I.tuple hq';exact key its rv (λys hy=>I.Nb hy hq') _ _ (Enu.tupDraws (A:=X.A.in1) (I.ok.hd hc) it a (PN hia) its.toArray) (by simp[hei,hea]) (by simp) ⟨hi,p⟩ λh' z=>z.1
  |false=>
   have hq':SqL X.K H a xs:=hq;obtain⟨its,rv,p,hz⟩:=I.list hq';exact key its rv (λys hy=>I.Ni hy hq') _ _ (Draws.list (A:=X.A.in1) (I.ok.hd hc) it a (PN hia) its.toArray) (by simp[hei,hea]) (by simp) ⟨hi,p.isList⟩ λh' z=>z.1
 done:=by
  intro X hP hw hK hc i kw s σ H E I hf st hg;subst hP hw hK;obtain⟨xs,hq,hx⟩:=hg;obtain⟨⟨old,he⟩,hi⟩:=st;have fin:∀h',Heap.ExtBut it s.heap h'->(ZB:Option Ob)=ZB/\Inv X kw σ H {s with heap:=h'}:=λh' eb=>⟨rfl,I.Nc (t':=s.toks) hf λb o hb q=>eb b o (λz=>hb (by simp[z])) q⟩;cases tt with
  |true=>
   have hq':SqT X.K H a xs:=hq;obtain⟨its,rv,p,hz⟩:=I.tuple hq';have hl:=rv.length;have hnone:its.toArray[i]?=ZB:=by simp;omega
   have hT:s.TypeIs (.ref e) "enumerate":=⟨_,he,rfl⟩;unfold pyNext;refine N8 (VY (Ql (name:=Oq "__next__") hT UH (Q6 UH hT F.entry_enumerate_next ?_ (F.args_enumerate_next_1 _))));show ZJ (ZK X.prog X.w) _ (field (.ref e) 2 >>= _) _ _ _;refine N8 (Qw he rfl (x:=.ref it) rfl ?_);refine N8 (Enu.tupStop (I.ok.hd hc) hi p hnone λh' x he' hx'=>?_);obtain⟨o,ho,hcl⟩:=hx';exact N8 (WU (T:="StopIteration") (b:=ZC) ⟨o,ho,hcl⟩ isSubtype_stop (Om (fin h' he')))
  |false=>
   have hq':SqL X.K H a xs:=hq;obtain⟨its,rv,p,hz⟩:=I.list hq';have hl:=rv.length;have hnone:its.toArray[i]?=ZB:=by simp;omega
   exact wpAny_pyNext_enum_end (I.ok.hd hc) he hi p.isList hnone fin
 self:=λ_ _ _ _ _ st h=>by obtain⟨⟨old,he⟩,_⟩:=st;exact Wn he h
section
variable {tpos:Pos}
def qJ:Pc "enumerate" =ZA (.type "enumerate"):=by decide+kernel
def iEnu(K:N7)(tl:TA):TI:=λσ H R=>tl σ H λvs H1=>∃a tt,vs=[.ref a]/\(∃xs,EO K H1 a tt xs)/\R (MZ K a tt) H1
def F3{l:ZG}{tl:TA}{p:Pos}(hg:Gl X "enumerate")(hm:X.mg "enumerate" =ZB)(hl:PA X [l] tl)(hs:Oz [l] X.env=[(ZD,eval l X.env)]:=by rfl):PI X (.Tuple elts kk tpos) (.Call (.Name "enumerate" p) [l] [] pos) (iEnu X.K tl):=by
 intro kw s σ H R I h;refine Call_ (fg I hg hm qJ (Pb (cL (hl pos kw s σ H _ I h) λus s1 ⟨vs,H1,I1,r1,q1⟩=>?_) hs rfl));obtain⟨a,tt,e,⟨xs,hq⟩,q⟩:=q1;subst e;obtain⟨u,rfl,ru⟩:=lH r1;cases ru;have fin:∀h',IsEnum h' (s1.heap.objs.size+1) s1.heap.objs.size 0 .none->itAt tt h' s1.heap.objs.size a 0->h'.objs.size=s1.heap.objs.size+2->(∀b o,s1.heap.get? b=ZA o->h'.get? b=ZA o) ->
   ZJ (ZK X.prog X.w) X.A (pyIter (.ref (s1.heap.objs.size+1))) (MY X kw σ (.Tuple elts kk tpos) R) X.xe {s1 with heap:=h'}:=λh' he hi hsz hk=>by
  refine Wn he ?_;have I2:Inv X kw σ H1 {s1 with heap:=h'}:=I1.kept (t':=s1.toks) hk;refine⟨s1.heap.objs.size+1,[s1.heap.objs.size+1,s1.heap.objs.size],_,_,H1,rfl,I2,Ax tt a (s1.heap.objs.size+1) s1.heap.objs.size (WL _),⟨⟨_,he⟩,hi⟩,λb hb=>?_,q⟩;rcases Oh.mp hb with rfl|hb
  .exact I1.Nl (by omega) (I1.hok.fresh (by omega))
  .rw[OF.mp hb];exact I1.Nl (Ou _) (I1.hok.fresh (Ou _))
 cases tt with
 |true=>
  have hq':SqT X.K H1 a xs:=hq;obtain⟨its,rv,pl,hz⟩:=I1.tuple hq';exact Enu.callT pl λh' he hi hsz hk=>fin h' he hi hsz hk
 |false=>
  have hq':SqL X.K H1 a xs:=hq;obtain⟨its,rv,pl,hz⟩:=I1.list hq';exact call_enumerate_list pl.isList λh' he hi hsz hk=>fin h' he hi hsz hk
end
end L2
namespace Tr
open PySem PySem.Spec PyProof.Rows L2
section
variable {X:Cx}{a:ZG}{fa:Y2}{fs:Y0}{p pos:Pos}
noncomputable def iS(f:Y2)(Z:En):Rs (List T):=do
 let x <-f Z
 match x with
 |.lst l=>.ok l
 |.tup l=>.ok l
 |_=>.bad
def IZ{tg:ZG}(ha:c8 X a fa):BB X tg a (iS fa):=by
 intro kw s σ H R I ⟨Z,O,E,h⟩;unfold iS at h;cases q:fa Z with
 |bad=>rw[q]at h;exact h.elim
 |err c=>exact zm ha kw s σ H R I ⟨Z,O,E,by unfold iL;rw[q]at h ⊢;exact h⟩
 |ok x=>
  rw[q,aH]at h;cases x with
  |lst l=>exact zm ha kw s σ H R I ⟨Z,O,E,by unfold iL;rw[q];exact h⟩
  |tup l=>exact IY ha kw s σ H R I ⟨Z,O,E,by unfold iT;rw[q];exact h⟩
  |_=>exact h.elim
noncomputable def dN:Nat->List T->List T
 |_,[] =>[]
 |n,t::r=>.tup [.int n,t] ::dN (n+1) r
theorem sA:∀(l:List T)(n i:Nat),(dN n l)[i]?=(l[i]?).map λt=>T.tup [.int ((n+i:Nat):Int),t]
 |[],n,i=>by simp[dN]
 |t::l,n,0=>by simp[dN]
 |t::l,n,i+1=>by rw[dN,Rr,sA l (n+1) i,Rr];congr 2;funext t;congr 4;omega
theorem sy:∀(l:List T)(n:Nat),(dN n l).length=l.length
 |[],n=>rfl
 |t::l,n=>by rw[dN,Ol,Ol,sy l]
noncomputable def iE(f:Y0)(Z:En):Rs (List T):=do
 let xs <-f Z
 match xs with
 |[x] =>match x.items with
  |some l=>.ok (dN 0 l)
  |none=>.bad
 |_=>.bad
def FO{elts:List ZG}{tpos:Pos}(hm:X.mg "enumerate" =ZB)(ha:qT X [a] fs)(hg:Gl X "enumerate":=by rfl)(hs:Oz [a] X.env=[(ZD,eval a X.env)]:=by rfl):
  BB X (.Tuple elts kk tpos) (.Call (.Name "enumerate" p) [a] [] pos) (iE fs):=PI.imp (F3 hg hm ha hs) λσ H R hh_=>by
 obtain⟨Z,O,E,h⟩:=hh_;obtain⟨Z1,O1,E1,h1⟩:=eF E h;refine⟨Z1,O1,E1,Post.mono h1 λts H1 s1 q vs r=>?_⟩;obtain⟨t',r',s',E',q'⟩:=q vs r;split at q'
 .rename_i x0;obtain⟨v,rfl,rv⟩:=r'.one;split at q'
  .rename_i l hl;have main:∀(aa:ZE)(tt:Bool)(ws:List V),v=.ref aa->¬ O aa->Reps X.K O H1 l ws->EO X.K H1 aa tt ws->(∀P Hc,SameO P H1 Hc->¬ P aa->EO X.K Hc aa tt ws)->¬ Nw X.K H1 aa ->
     ∃a tt,[v]=[V.ref a]/\(∃xs,EO X.K H1 a tt xs)/\R (MZ X.K a tt) H1:=λaa tt ws e n z sq mv nn=>by
    refine⟨aa,tt,by rw[e],⟨ws,sq⟩,q' H1 (Same.refl H1) _ λP O' hP hO i Hc hsm htr=>?_⟩;have hnP:¬ P aa:=λy=>(hP aa y).elim n nn;have sqc:=mv P Hc hsm hnP;refine⟨λhi=>⟨ws,sqc,by rw[<-z.length,<-sy l 0];exact hi⟩,λt ht=>?_⟩;rw[sA]at ht;cases e1:l[i]? with
    |none=>rw[e1]at ht;cases ht
    |some t0=>
     rw[e1]at ht;cases ht;obtain⟨v0,f1,f2⟩:=z.get e1;refine⟨⟨ws,v0,sqc,f1⟩,λx Hc' y=>?_⟩;obtain⟨pp,vv,e2,hpn,e3,hy⟩:=y;have:=hy ws sqc;rw[f1]at this;cases this;subst e2 e3;refine⟨aQ hpn _,gP hpn (λzz=>?_) (Reps.Gc (by simpa using Rep.GE _) (Reps.Gc (f2.move hP hO hsm) Reps.GM))⟩;obtain⟨o,w⟩:=htr pp zz;rw[hpn]at w;cases w
   cases x0 with
   |tup m=>
    cases hl;obtain⟨aa,ws,e,n,qq,z⟩:=Rep.Fk.mp rv;exact main aa ZC ws e n z (show SqT X.K H1 aa ws from SqT.of qq) (λP Hc hsm hn=>show SqT X.K Hc aa ws from SqT.of (hsm _ _ qq hn)) λw=>by rw[w.1]at qq;cases qq
   |lst m=>
    cases hl;obtain⟨aa,ws,e,n,qq,z⟩:=Rep.Do.mp rv;exact main aa ZD ws e n z (show SqL X.K H1 aa ws from SqL.of qq) (λP Hc hsm hn=>show SqL X.K Hc aa ws from SqL.of (hsm _ _ qq hn)) λw=>by rw[w.1]at qq;cases qq
   |scr m=>
    cases hl;unfold Rep at rv;obtain⟨aa,e,n,qq⟩:=rv;exact main aa ZD _ e n Reps.ints (show SqL X.K H1 aa _ from qq) (λP Hc hsm hn=>show SqL X.K Hc aa _ from Tr.SqL.keep hsm hn qq) (Tr.SqL.nn qq)
   |_=>cases hl
  .exact q'.elim
 .exact q'.elim
end
end Tr
namespace Tm
open PySem PyProof.Rows
def mX:fillsNumberSlot (.type "tuple") "mul" =pure ZD:=
 PySem.fillsNumberSlot_seq (id:="tuple.__mul__") (r:=ZA (.builtin "tuple.__rmul__")) Uj.lookup (by decide+kernel) V7.lookup (by decide+kernel)
def tQ:seqRepeat? (.type "tuple")=pure (ZA (.builtin "tuple.__mul__")):=by unfold seqRepeat?;rw[WM (T:="tuple") (name:="__mul__") (id:="tuple.__mul__") Uj.lookup (by decide+kernel),WM (T:="tuple") (name:="__rmul__") (id:="tuple.__rmul__") V7.lookup (by decide+kernel)];rfl
def xX(a:Int)(t:Tok)(l:ZE)(items:Array Ob)(n:Nat)(dd:Option ZE)(sl:Array (Option Ob)):
  Meets (Builtin.«int.__rmul__» ⟨[.int a t,.ref l],[]⟩) (λ_ R s=>s.heap.get? l=ZA {cls:=.type "tuple",dict:=dd,data:=.seq items n,slots:=sl}/\R (.ok (.ret U6)) s):=
 .of_wp λprog w A R s h=>by obtain⟨hp,g,d,tk,os⟩:=s;obtain⟨hl,h⟩:=h;wp_walk;exact⟨_,rfl,h⟩
open AutoSeq1 (wpAny_loadPart')
def Dd(l:ZE)(items:Array Ob)(n:Nat)(dd:Option ZE)(sl:Array (Option Ob))(x:Int)(u:Tok)(h1:1<x)(h2:x<2 ^ 31)(hne:items.isEmpty=ZD)(hz:items.size*x.toNat<=ZI)
  (hz2:(TR (λa b=>a++b) #[] (OK x.toNat items)).size<=ZI):
  Meets (Builtin.«tuple.__mul__» ⟨[.ref l,.int x u],[]⟩) (λ_ R s=>s.heap.get? l=ZA {cls:=.type "tuple",dict:=dd,data:=.seq items n,slots:=sl} ∧
   R (.ok (.ret (OB s.heap.objs.size))) {s with heap:=s.heap.push {cls:=Ry "tuple",data:=Data.seq (TR (λa b=>a++b) #[] (OK x.toNat items))}}):=
 .of_wp λprog w A R s h=>by
  obtain⟨hp,g,d,tk,os⟩:=s;obtain⟨hl,h⟩:=h;have hT:Xw hp l items:=⟨_,hl,rfl,n,rfl⟩;have hx:((items.size:Nat):Int)*x=((items.size*x.toNat:Nat):Int):=by
   have e:x=((x.toNat:Nat):Int):=by omega
   rw[Int.natCast_mul,<-e]
  wp_walk using O4 hl
  rw[if_neg (by simp;omega)];refine N8 (Ug (s:=⟨hp,g,d,tk,os⟩) hT ?_);dsimp only;rw[if_neg (by rw[hne];simp;omega),if_neg (by rw[hne];simp;omega),hx,if_neg (by have:(ZI:Nat)<=1000000000:=(by decide);omega),if_neg (by unfold Builtin.Tuple.tupleTooMany;rw[decide_eq_true_iff];omega)];refine N8 (m:=Pn _) (Pu ?_ hz2);exact Om ⟨_,rfl,h⟩
def mul_tuple{t:ZE}{k:Int}{tk:Tok}(ht:Xw s.heap t vs.toArray)(h1:1<k)(h2:k<2 ^ 31)(hv:vs≠ [])(hz:vs.length*k.toNat<=ZI)
  (h:Q (.ref s.heap.objs.size) {s with heap:=s.heap.push {cls:=.type "tuple",data:=.seq (OK k.toNat vs).flatten.toArray}}):
  ZJ (ZK prog w) A (Qz .Mult (.ref t) (.int k tk)) Q E s:=by
 obtain⟨⟨cls,dd,data,sl⟩,ho,hc,n,hd⟩:=id ht;simp only at hc hd;subst hc hd;have e:TR (λa b=>a++b) #[] (OK k.toNat vs.toArray)=(OK k.toNat vs).flatten.toArray:=by have q:=L2.foldl_rep vs k.toNat [];simpa using q
 refine TL (T:="tuple") (U:="int") (by decide) ⟨_,ho,rfl⟩ (λs'=>U0 s' k tk) mX W5 S9 tQ WH.lookup
  (Sf S9 (U0 s k tk) WI (V5 _ _) (xX k tk t vs.toArray n dd sl)
   ⟨ho,rfl,⟨_,ho,rfl⟩,Sf Uj ⟨_,ho,rfl⟩ F.entry_tuple_mul (F.args_tuple_mul_2 _ _) (Dd t vs.toArray n dd sl k tk h1 h2 (by simpa using hv) (by simpa using hz) (by rw[e,Oy,L2.len_rep,Wr];exact hz)) ⟨ho,?_⟩⟩)
 rw[e];exact h
end Tm
variable{Q:Option Ob->Oe->Prop}
namespace Tr
open PySem PySem.Spec PyProof.Rows L2
variable{X:Cx}
noncomputable def cu(x y:T):Rs T:=match x,y with
 |.tup l,.int k=>if 1<k/\k<2 ^ 31/\l≠ []/\l.length*k.toNat<=ZI then .ok (.tup (OK k.toNat l).flatten)else .bad
 |x,y=>yp x y
instance (l:List T):Decidable (l≠ []):=by cases l <;> simp <;> infer_instance
def df:OpT X (Qz .Mult) cu:=by
 intro kw s σ H O x y vx vy ux uy Q I hf rx ry r1 r2 hp;unfold cu at hp;split at hp
 .rename_i l k;split at hp
  .rename_i h;obtain⟨a,vs,e1,n1,q1,z1⟩:=Rep.Fk.mp rx;subst e1;cases Rep.AC.mp ry;cases r1;obtain⟨tk,rfl⟩:=r2;obtain⟨its,rv,pl,hz⟩:=I.tuple (SqT.of q1);have hl1:=z1.length;have hl2:=rv.length;have hne:its≠ []:=λz=>h.2.2.1 (List.eq_nil_of_length_eq_zero (by rw[hl1,hl2,z];rfl));refine Tm.mul_tuple pl h.1 h.2.1 hne (by rw[<-hl2,<-hl1];exact h.2.2.2) ?_;have hn:=I.hok.fresh (Ou _);refine⟨.ref _,_,I.laid (t':=s.toks) (o:=.tup (OK k.toNat vs).flatten) (λb ob q=>Oi _ q) (Ou _) ?_,rfl,hp _ (aQ hn _) _ (gP hn (hf _ hn) (z1.rep _))⟩;refine⟨?_,_,rv.rep k.toNat,Vx _ _⟩;rw[len_rep,Wr,<-hl1];exact h.2.2.2
  .exact hp.elim
 .exact Jr kw s σ H O _ _ vx vy ux uy Q I hf rx ry r1 r2 hp
noncomputable def Gn(outer:List (Str×RQ))(N:List Str)(names:List (Str×RQ))(N':List Str)(src:List (Option Nat)):Bool:=
 names.all (λy=>y.2 != .cell||names.lookup y.1 == ZA .cell)&&names.all (λy=>y.2 != .local||names.lookup y.1 == ZA .local)&&src.length == N'.length&&
 (Oo N'.length).all (λj=>match src[j]? with
  |some (ZA i)=>match N'[j]? with
   |some x=>N[i]? == ZA x&&names.lookup x == ZA .free
   |none=>ZC
  |_=>ZC)&&
 names.all (λy=>y.2 != .free||(outer.lookup y.1 == ZA .cell||outer.lookup y.1 == ZA .free))
variable{N:List Str}
theorem LcScope.by{N':List Str}{src:List (Option Nat)}{names:List (Str×RQ)}(hN:X.N=N)(hs:X.env.scope.names=names)(hk:scope.kind=.function)(h:Gn names N scope.names N' src=ZC):LcScope X scope N' src:=by
 unfold Gn at h;simp only[Oa]at h;obtain⟨⟨⟨⟨h1,h2⟩,h3⟩,h4⟩,h5⟩:=h;have a1:=OH.mp h1;have a2:=OH.mp h2;have a4:=OH.mp h4;have a5:=OH.mp h5;refine⟨hk,λy hy hl=>by have:=a1 y hy;rw[hl]at this;simpa using this,λy hy hl=>?_,by simpa using h3,λj i x e1 e2=>?_,λx hx=>?_⟩
 .have:=a2 y hy;rw[hl]at this;simpa using this
 .have hj:j<N'.length:=(Oj.mp e2).1;have:=a4 j (OZ.mpr hj);rw[e1]at this;simp only[e2]at this;rw[Oa]at this;rw[hN];exact⟨by simpa using this.1,by simpa using this.2⟩
 .have:=a5 _ hx;simp only[bne_self_eq_false,Ub,Td]at this;show X.env.scope.names.lookup x=_\/X.env.scope.names.lookup x=_;rw[hs];rcases this with z|z
  .exact .inl (by simpa using z)
  .exact .inr (by simpa using z)
def b8:ZG->Bool
 |.Starred .. =>ZD
 |_=>ZC
noncomputable def bj:List ZG->Bool
 |[] =>ZC
 |e::r=>b8 e&&bj r
variable{e:ZG}{env:Env}{es:List ZG}
def bo(h:b8 e=ZC):Oz (e::es) env=(ZD,eval e env)::Oz es env:=by cases e <;> first|rfl|cases h
theorem gi{pos:Pos}{env:Env}:∀{es:List ZG},bj es=ZC->(backTo pos (Oz es env)).any (·.1)=ZD
 |[],_=>rfl
 |e::r,h=>by unfold bj at h;rw[Oa]at h;rw[bo h.1];have ih:=gi (pos:=pos) (env:=env) h.2;show(ZD||(backTo pos (Oz r env)).any (·.1))=ZD;rw[ih];rfl
variable{a:ZG}{f fa:Y2}{g:List T->Rs T}{p pos:Pos}{ps:List Str}{x:Str}
section
variable {b:ZG}{fs:Y0}{p2:Pos}
def qa_c{g:Y0}(he:c8 X e f)(hr:qT X es g)(hn:b8 e=ZC:=by rfl):qT X (e::es) (ae f g):=oq he hr (bo hn)
def q_cB{id:String}(hc:CallT X (.builtin id) g)(hm:X.mg x=ZB)(hv:Pc x=ZA (.builtin id))(ha:qT X (e::es) fs)(hn:bj (e::es)=ZC:=by rfl)(hg:Gl X x:=by rfl)(h1:autoParam (x≠ "__name__") s_)(h2:autoParam ((x == ("__debug__" : Str))=ZD) s_):
  c8 X (.Call (.Name x p) (e::es) [] pos) (cl g fs):=by
 unfold bj at hn;rw[Oa]at hn;exact zo hc hm hv ha hg h1 h2 (bo hn.1) (gi hn.2)
def q_cT(hc:CallT X (.type Ty) g)(hm:X.mg x=ZB)(hv:Pc x=ZA (.type Ty))(ha:qT X (e::es) fs)(hn:bj (e::es)=ZC:=by rfl)(hg:Gl X x:=by rfl)(h1:autoParam (x≠ "__name__") s_)(h2:autoParam ((x == ("__debug__" : Str))=ZD) s_):
  c8 X (.Call (.Name x p) (e::es) [] pos) (cl g fs):=by
 unfold bj at hn;rw[Oa]at hn;exact Cz hc hm hv ha hg h1 h2 (bo hn.1) (gi hn.2)
def q_c{f:ZE}(F:BK X.prog X.w X.K X.mg X.base k f fd ps n g)(hr:Room k X.A)(hm:X.mg x=ZA (.ref f))(hk:Qx X.K (.ref f)=ZC)(hb:Binds X.K fd ps [])
  (hl:∀Z ts,fs Z=.ok ts->ts.length=n) (ha:qT X (e::es) fs) (hps:ps.length=n:=by rfl) (hn:bj (e::es)=ZC:=by rfl) (hg:Gl X x:=by rfl) (h2:autoParam ((x == ("__debug__" : Str))=ZD) s_):c8 X (.Call (.Name x p) (e::es) [] pos) (cl g fs):=by
 unfold bj at hn;rw[Oa]at hn;exact Je F hr hm hk hb hps hl ha hg h2 (bo hn.1) (gi hn.2)
def q_is{tn:Str}(hm:X.mg "isinstance" =ZB)(hmt:X.mg tn=ZB)(hv:Pc tn=ZA (.type Ty))(ha:c8 X a fa)(hn:b8 a=ZC:=by rfl)(hg:Gl X "isinstance":=by rfl)(hgt:Gl X tn:=by rfl)
  (h1:autoParam (tn≠ "__name__") s_) (h2:autoParam ((tn == ("__debug__" : Str))=ZD) s_):c8 X (.Call (.Name "isinstance" p) [a,.Name tn p2] [] pos) (o1 (GA Ty) fa):=
 Lu hm hmt hv ha hg hgt h1 h2 (bo hn) (gi rfl) (bo rfl)
end
def HU(Z:En)(ts:List T)(h:aj Z=.ok ts):ts.length=0:=by cases h;rfl
def HS{g:Y0}(hg:∀Z ts,g Z=.ok ts->ts.length=n)(Z:En)(ts:List T)(h:ae f g Z=.ok ts):ts.length=n+1:=by
 unfold ae at h;cases q:f Z with
 |bad=>rw[q]at h;cases h
 |err c=>rw[q]at h;cases h
 |ok t=>
  rw[q,aH]at h;cases q2:g Z with
  |bad=>rw[q2]at h;cases h
  |err c=>rw[q2]at h;cases h
  |ok r=>
   rw[q2,aH]at h;cases h;rw[Ol,hg Z r q2]
def gZ(h:Room k A):A.units+60<cLine:=by have:=h.un;omega
def Bb(h:Room k A):A.units+61<cLine:=by have:=h.un;omega
structure Fn (K:N7)(mg:WF)(x:Str)(st:ZF)(ps:List Str)(f:ZE)(fd:PX):Prop where
 fn:L2.Fun K x x st f fd
 bd:Binds K fd ps []
 mg:mg x=ZA (.ref f)
noncomputable def val(n m:Nat)(F:Y1)(ts:List T):Rs T:=if ts.length=n then fo F (bZ m ts)else .bad
variable{ts:List T}
def Ic{F:Y1}{t:T}(h:val n m F ts=.ok t):fo F (bZ m ts)=.ok t:=by
 unfold val at h;split at h
 .exact h
 .cases h
variable{H:Hp}
def sp_script{a:ZE}{E:XK}(hS:SqL K H a (ns.map V.int))(h:g [.scr ns]=.ok (.bl ZC)):spP K 1 g [.ref a] H (λv _=>v=.bl ZC) E:=by
 refine⟨[.scr ns],λ_=>False,Reps.Gc ?_ Reps.GM,λ_ z=>z.elim,rfl,?_⟩
 .unfold Rep;exact⟨a,rfl,λz=>z,hS⟩
 .rw[h];exact λv H' _ r=>Rep.FM.mp r
def vE{l:List α}{z:α}(h:l[i]?=ZA z):l.set i z=l:=by obtain⟨hi,rfl⟩:=Oj.mp h;exact UI hi
def Mn.set(M:Mn)(i:Nat)(m:Ow):Mn:=λj=>if j=i then m else M j
variable{M:Mn}{m:Ow}
def Mn.Nh{a:ZE}(h:(M.set i m).u a):m a\/M.u a:=by
 obtain⟨j,h⟩:=h;unfold Mn.set at h;by_cases z:j=i
 .rw[if_pos z]at h;exact .inl h
 .rw[if_neg z]at h;exact .inr ⟨j,h⟩
def Mn.NP:M.set i m i=m:=by unfold Mn.set;rw[if_pos rfl]
def Mn.Nj(h:j≠i):M.set i m j=M j:=by unfold Mn.set;rw[if_neg h]
variable{H':Hp}{O O':Ow}
theorem RowsR.move{P:Ow}(hP:∀a,P a->O a\/Nw K H a)(hO:∀a,O' a->O a\/Nw K H a)(h:SameO P H H'):∀{rs:List (List T×List T)}{as:List ZE},(∀b∈as,¬P b)->RowsR K O H rs as->RowsR K O' H' rs as
 |[],_,_,r=>r
 |_::_,_,hb,⟨b,bs,kvs,e1,e2,e3,e4,e5⟩=>by subst e1;exact⟨b,bs,kvs,rfl,h _ _ e2 (hb b Of),e3,e4.move hP hO h,e5.move hP hO h λc hc=>hb c (N9 _ hc)⟩
variable{v:V}
theorem ORep.move{P M:Ow}{o:OT}(hP:∀a,P a->O a\/Nw K H a)(hO:∀a,O' a->O a\/Nw K H a)(h:SameO P H H')(hM:∀a,M a->¬ P a)(r:ORep K O M H o v):ORep K O' M H' o v:=by
 cases o with
 |lst l=>obtain⟨a,vs,e1,e2,e3,e4⟩:=r;exact⟨a,vs,e1,e2,h _ _ e3 (hM a ((e2 a).mpr rfl)),e4.move hP hO h⟩
 |dct ks ts=>obtain⟨a,kvs,e1,e2,e3,e4,e5⟩:=r;exact⟨a,kvs,e1,e2,h _ _ e3 (hM a ((e2 a).mpr rfl)),e4,e5.move hP hO h⟩
 |dd ks rows=>
  obtain⟨a,kvs,as,e1,e2,e3,e4,e5,e6,e7,e8⟩:=r;exact⟨a,kvs,as,e1,e2,e3,e4,h _ _ e5 (hM a ((e2 a).mpr (.inl rfl))),e6,e7,e8.move hP hO h λb hb=>hM b ((e2 b).mpr (.inr hb))⟩
theorem RowsR.mtb:∀{rs:List (List T×List T)}{as:List ZE},RowsR K O H rs as->∀b∈as,∃kvs,H b=ZA (.dT kvs)
 |[],_,r,b,hb=>by unfold RowsR at r;subst r;simp at hb
 |_::_,_,⟨b0,bs,kvs,e1,e2,e3,e4,e5⟩,b,hb=>by
  subst e1;rcases Oh.mp hb with rfl|hb
  .exact⟨kvs,e2⟩
  .exact e5.mtb b hb
def OT.isD:OT->Bool
 |.lst _=>ZD
 |_=>ZC
def ORep.kind{M:Ow}{o:OT}(r:ORep K O M H o v):∀a,M a->if o.isD then ∃kvs,H a=ZA (.dT kvs)else ∃vs,H a=ZA (.lst vs):=λa z=>by
 cases o with
 |lst l=>obtain⟨b,vs,e1,e2,e3,e4⟩:=r;cases (e2 a).mp z;exact⟨vs,e3⟩
 |dct ks ts=>obtain⟨b,kvs,e1,e2,e3,e4,e5⟩:=r;cases (e2 a).mp z;exact⟨kvs,e3⟩
 |dd ks rows=>
  obtain⟨b,kvs,as,e1,e2,e3,e4,e5,e6,e7,e8⟩:=r;rcases(e2 a).mp z with z|z
  .cases z;exact⟨kvs,e5⟩
  .exact e8.mtb a z
def ORep.mtb{M:Ow}{o:OT}(r:ORep K O M H o v)(a:ZE)(z:M a):Mtb H a:=by
 have:=r.kind a z;split at this
 .exact .inr this
 .exact .inl this
theorem vI:∀{rs:List (List T×List T)}{as:List ZE},(∀b∈as,¬O b)->RowsR K O H rs as->Reps K O H (rs.map λr=>T.dct r.1 r.2) (as.map V.ref)
 |[],_,_,r=>by unfold RowsR at r;subst r;exact Reps.GM
 |_::_,_,hn,⟨b,bs,kvs,e1,e2,e3,e4,e5⟩=>by subst e1;exact Reps.Gc (Rep.FS.mpr ⟨b,kvs,rfl,hn b Of,.inl e2,e3,e4⟩) (vI (λc hc=>hn c (N9 _ hc)) e5)
theorem RowsR.less(sub:∀a,O' a->O a):∀{rs:List (List T×List T)}{as:List ZE},RowsR K O H rs as->RowsR K O' H rs as
 |[],_,r=>r
 |_::_,_,⟨b,bs,kvs,e1,e2,e3,e4,e5⟩=>⟨b,bs,kvs,e1,e2,e3,e4.less sub,e5.less sub⟩
def ORep.rep{M:Ow}{o:OT}(sub:∀a,O' a->O a)(hn:∀a,M a->¬ O' a)(r:ORep K O M H o v):Rep K O' H o.view v:=by
 cases o with
 |lst l=>obtain⟨a,vs,e1,e2,e3,e4⟩:=r;exact Rep.Do.mpr ⟨a,vs,e1,hn a ((e2 a).mpr rfl),e3,e4.less sub⟩
 |dct ks ts=>obtain⟨a,kvs,e1,e2,e3,e4,e5⟩:=r;exact Rep.FS.mpr ⟨a,kvs,e1,hn a ((e2 a).mpr rfl),.inl e3,e4,e5.less sub⟩
 |dd ks rows=>
  obtain⟨a,kvs,as,e1,e2,e3,e4,e5,e6,e7,e8⟩:=r;refine Rep.FS.mpr ⟨a,kvs,e1,hn a ((e2 a).mpr (.inl rfl)),.inl e5,e6,?_⟩;rw[e7];exact vI (λb hb=>hn b ((e2 b).mpr (.inr hb))) (e8.less sub)
variable{B:Ow}{Z:En}{σ:L2.St}
section
variable {o o':OT}
def Ev.new(E:Ev K B M H Z σ)(hl:i<Z.length)(hm:∀a,m a->Nw K H a)(s:Same H H')(r:ORep K (OO B (M.set i m)) m H' o v):
  Ev K B (M.set i m) H' (Z.set i (.ow o)) (σ.set i (ZA v))/\∀a,(M.set i m).u a->M.u a\/Nw K H a:=by
 have hls:i<σ.length:=by rw[<-E.env.len];exact hl
 have sub:∀a,(M.set i m).u a->M.u a\/Nw K H a:=λa z=>(Mn.Nh z).elim (λw=>.inr (hm a w)) .inl;have subO:∀a,OO B (M.set i m) a->OO B M a\/Nw K H a:=λa z=>z.elim (λw=>.inl (.inl w)) λw=>(sub a w).elim (λy=>.inl (.inr y)) .inr;have fO:∀a,Nw K H a->¬ OO B M a:=λa w z=>by obtain⟨o,e⟩:=(E.env.trk a z).some;rw[w.1]at e;cases e
 refine⟨⟨⟨by rw[P6,P6];exact E.env.len,λj t e=>?_,λj o' e=>?_,λj a z=>.inr ⟨j,z⟩,λj k a z1 z2=>?_,λa z=>?_⟩,λa z=>?_⟩,sub⟩
 .by_cases hj:i=j
  .subst hj;rw[OY hl]at e;cases e
  .rw[O5 hj]at e;obtain⟨w,e1,e2⟩:=E.env.val j t e;exact⟨w,by rw[O5 hj];exact e1,(e2.more subO).same s⟩
 .by_cases hj:i=j
  .subst hj;rw[OY hl]at e;cases e;exact⟨v,OY hls,by rw[Mn.NP];exact r⟩
  .rw[O5 hj]at e;obtain⟨w,e1,e2⟩:=E.env.own j o' e;refine⟨w,by rw[O5 hj];exact e1,?_⟩;rw[Mn.Nj (λz=>hj z.symm)];exact(e2.move (P:=zG) (λ_ z=>z.elim) subO (λb u q _=>q) λ_ _ z=>z).same s
 .unfold Mn.set at z1 z2;by_cases hj:j=i
  .by_cases hk:k=i
   .exact hj.trans hk.symm
   .rw[if_pos hj]at z1;rw[if_neg hk]at z2;exact(fO a (hm a z1) (.inr ⟨k,z2⟩)).elim
  .by_cases hk:k=i
   .rw[if_neg hj]at z1;rw[if_pos hk]at z2;exact(fO a (hm a z2) (.inr ⟨j,z1⟩)).elim
   .rw[if_neg hj]at z1;rw[if_neg hk]at z2;exact E.env.dis j k a z1 z2
 .rcases z with z|z
  .exact(E.env.trk a (.inl z)).same s
  .rcases Mn.Nh z with w|w
   .exact r.mtb a w
   .exact(E.env.trk a (.inr w)).same s
 .intro hb;rcases Mn.Nh z with w|w
  .exact fO a (hm a w) (.inl hb)
  .exact E.mine a w hb
def Ev.put(E:Ev K B M H Z σ)(hi:Z[i]?=ZA (.ow o))(hs:σ[i]?=ZA (ZA v))(s:SameO (M i) H H')(r:ORep K (OO B M) (M i) H' o' v):Ev K B M H' (Z.set i (.ow o')) σ/\SameO M.u H H':=by
 have hl:i<Z.length:=(Oj.mp hi).1;have inO:∀a,M i a->OO B M a\/Nw K H a:=λa z=>.inl (.inr ⟨i,z⟩);have idO:∀a,OO B M a->OO B M a\/Nw K H a:=λa z=>.inl z;refine⟨⟨⟨by rw[P6];exact E.env.len,λj t e=>?_,λj o2 e=>?_,E.env.sub,E.env.dis,λa z=>?_⟩,E.mine⟩,λb u e n=>s b u e λz=>n ⟨i,z⟩⟩
 .by_cases hj:i=j
  .subst hj;rw[OY hl]at e;cases e
  .rw[O5 hj]at e;obtain⟨w,e1,e2⟩:=E.env.val j t e;exact⟨w,e1,e2.move inO idO s⟩
 .by_cases hj:i=j
  .subst hj;rw[OY hl]at e;cases e;exact⟨v,hs,r⟩
  .rw[O5 hj]at e;obtain⟨w,e1,e2⟩:=E.env.own j o2 e;exact⟨w,e1,e2.move inO idO s λa z y=>hj (E.env.dis i j a y z)⟩
 .by_cases hz:M i a
  .exact r.mtb a hz
  .rcases E.env.trk a z with⟨vs,e⟩|⟨kvs,e⟩
   .exact .inl ⟨vs,s _ _ e hz⟩
   .exact .inr ⟨kvs,s _ _ e hz⟩
noncomputable def disown(i:Nat)(Z:En):En:=match Z[i]? with
 |some (.ow o)=>Z.set i (.va o.view)
 |_=>Z
theorem EnvM.disown(E:EnvM K O M H Z σ)(i:Nat)(sub:∀a,O' a->O a)(hn:∀a,M i a->¬ O' a)(hin:∀j a,j≠i->M j a->O' a):EnvM K O' (M.set i zG) H (disown i Z) σ:=by
 have base:EnvM K O' (M.set i zG) H (Z.set i (match Z[i]? with|some (.ow o)=>.va o.view|some x=>x|none=>.em)) σ:=by
  refine⟨by rw[P6];exact E.len,λj t e=>?_,λj o e=>?_,λj a z=>?_,λj k a z1 z2=>?_,λa z=>E.trk a (sub a z)⟩
  .by_cases hj:i=j
   .subst hj;by_cases hl:i<Z.length
    .rw[OY hl]at e;cases q:Z[i]? with
     |none=>rw[q]at e;cases e
     |some z=>
      rw[q]at e;cases z with
      |em=>cases e
      |va t'=>cases e;obtain⟨w,e1,e2⟩:=E.val i _ q;exact⟨w,e1,e2.less sub⟩
      |ow o=>cases e;obtain⟨w,e1,e2⟩:=E.own i _ q;exact⟨w,e1,e2.rep sub hn⟩
    .rw[PQ (by rw[P6];omega)]at e;cases e
   .rw[O5 hj]at e;obtain⟨w,e1,e2⟩:=E.val j t e;exact⟨w,e1,e2.less sub⟩
  .by_cases hj:i=j
   .subst hj;by_cases hl:i<Z.length
    .rw[OY hl]at e;cases q:Z[i]? with
     |none=>rw[q]at e;cases e
     |some z=>
      rw[q]at e;cases z with
      |em=>cases e
      |va t'=>cases e
      |ow o=>cases e
    .rw[PQ (by rw[P6];omega)]at e;cases e
   .rw[O5 hj]at e;obtain⟨w,e1,e2⟩:=E.own j o e;refine⟨w,e1,?_⟩;rw[Mn.Nj (λz=>hj z.symm)];exact e2.move (P:=zG) (λ_ z=>z.elim) (λa z=>.inl (sub a z)) (λb u q _=>q) λ_ _ z=>z
  .unfold Mn.set at z;by_cases hj:j=i
   .rw[if_pos hj]at z;exact z.elim
   .rw[if_neg hj]at z;exact hin j a hj z
  .unfold Mn.set at z1 z2;by_cases hj:j=i
   .rw[if_pos hj]at z1;exact z1.elim
   .by_cases hk:k=i
    .rw[if_pos hk]at z2;exact z2.elim
    .rw[if_neg hj]at z1;rw[if_neg hk]at z2;exact E.dis j k a z1 z2
 unfold Tr.disown;cases q:Z[i]? with
 |none=>rw[q,List.set_eq_of_length_le (List.getElem?_eq_none_iff.mp q)]at base;exact base
 |some z=>
  rw[q]at base;cases z with
  |em=>rw[vE q]at base;exact base
  |va t=>rw[vE q]at base;exact base
  |ow o=>exact base
theorem Ev.disown(E:Ev K B M H Z σ)(i:Nat):Ev K B (M.set i zG) H (disown i Z) σ/\∀a,(M.set i zG).u a->M.u a:=by
 have sub:∀a,(M.set i zG).u a->M.u a:=λa z=>(Mn.Nh z).elim (λw=>w.elim) id;refine⟨⟨E.env.disown i (λa z=>z.elim .inl λw=>.inr (sub a w)) (λa z y=>?_) λj a hj z=>.inr ⟨j,by rw[Mn.Nj hj];exact z⟩,λa z=>E.mine a (sub a z)⟩,sub⟩;rcases y with y|⟨j,y⟩
 .exact E.mine a ⟨i,z⟩ y
 .unfold Mn.set at y;by_cases hj:j=i
  .rw[if_pos hj]at y;exact y
  .rw[if_neg hj]at y;exact hj (E.env.dis j i a y z)
end
variable{H1:Hp}{apos cpos:Pos}{st:ZF}
section
variable {p2 p3:Pos}
def Ev.subO(hm:∀a,m a->Nw K H a)(a:ZE)(z:OO B (M.set i m) a):OO B M a\/Nw K H a:=
 z.elim (λw=>.inl (.inl w)) λw=>(Mn.Nh w).elim (λy=>.inr (hm a y)) λy=>.inl (.inr y)
def lW(s:Same H H1){a:ZE}(n:Nw K H1 a):Nw K H a:=(ja (SameO.of (P:=zG) s) n).elim (λz=>z.elim) id
def K0(X:Cx)(t:TA):TE:=λσ H Q=>t σ H λxs H1=>xs.length<=ZI/\∀p,Nw X.K H1 p->Q (.ref p) (upd H1 p (.lst xs))
def F6{t:TA}(h:PA X es t):PE X (.List es pos) (K0 X t):=by
 intro kw s σ H Q I hq;refine VQ (cL (h pos kw s σ H _ I hq) λus s1 ⟨xs,H1,I1,r,z,q⟩=>⟨by rw[<-r.length];exact z,?_⟩);have hf:H1 s1.heap.objs.size=ZB:=I1.hok.fresh (Ou _);have hk:X.K.lookup s1.heap.objs.size=ZB:=by
  cases q:X.K.lookup s1.heap.objs.size with
  |none=>rfl
  |some o=>exact absurd (Ov (I1.kIn _ o q)) (Pa _)
 refine⟨.ref s1.heap.objs.size,upd H1 s1.heap.objs.size (.lst xs),I1.laid (t':=s1.toks) (λb u e=>Oi _ e) (Ou _) ?_,rfl,q _ ⟨hf,hk⟩⟩;exact⟨z,us,0,r,OA _ rfl⟩
noncomputable def jy(i:Nat)(f:Y0)(Z:En):Rs Fl:=do
 let l <-f Z
 if i<Z.length/\l.length<=ZI then .ok (.nx (Z.set i (.ow (.lst l))))else .bad
def FF(i:Nat){f:Y0}(hN:X.N.Nodup)(ha:qT X es f)(hi:X.N[i]?=ZA x:=by rfl)(hx:autoParam (Loc X.env.scope x) x_)(hs:P7 (.List es p2) (ZA (.Name x p3)) pos.line X.env=pure ZD:=by rfl)
  (hf:autoParam (X.fn x=ZC\/X.env.scope.names.lookup x=ZA .local) r_):qQ X (.Assign [.Name x p3] (.List es p2) pos) (jy i f):=PS.imp (pC hN hi hx (F6 ha) hs hf) λD σ H hh_=>by
 obtain⟨Z,B,M,E,h⟩:=hh_;refine⟨Z,OO B M,E.o,?_⟩;unfold jy at h;cases q:f Z with
 |bad=>rw[q]at h;exact h.elim
 |err c=>rw[q]at h;exact PostF.xa h
 |ok l=>
  rw[q,aH]at h;intro H1 s1 vs rs;by_cases hl:i<Z.length/\l.length<=ZI
  .rw[if_pos hl]at h;refine⟨by rw[<-rs.length];exact hl.2,λp hp=>?_⟩;have hm:∀a,a=p->Nw X.K H1 a:=λa z=>z▸hp;obtain⟨E2,sub⟩:=(E.same s1).new (m:=λa=>a=p) (o:=.lst l) (v:=.ref p) (H':=upd H1 p (.lst vs)) hl.1 hm (aQ hp.1 _) ⟨p,vs,rfl,λb=>Ta,aI,(rs.more (Ev.subO hm)).same (aQ hp.1 _)⟩;exact h _ _ _ (SameO.of (s1.trans (aQ hp.1 _))) E2 λa z=>(sub a z).imp_right (lW s1)
  .rw[if_neg hl]at h;exact h.elim
noncomputable def iU(i:Nat)(f:Y2)(Z:En):Rs Fl:=match Z[i]? with
 |some (.ow (.lst l))=>f Z >>= λt=>if l.length<ZI then .ok (.nx (Z.set i (.ow (.lst (l++[t])))))else .bad
 |_=>.bad
def Ev.putL{o:OT}{l':List T}{b:ZE}{vs':List V}(E:Ev K B M H Z σ)(hi:Z[i]?=ZA (.ow o))(hs:σ[i]?=ZA (ZA (.ref b)))(hM:∀c,M i c↔c=b)(r:Reps K (OO B M) H l' vs'):
  Ev K B M (upd H b (.lst vs')) (Z.set i (.ow (.lst l'))) σ/\SameO M.u H (upd H b (.lst vs')):=by
 have sm:SameO (M i) H (upd H b (.lst vs')):=λc u e nb=>by rw[aG (λz=>nb ((hM c).mpr z))];exact e
 exact E.put hi hs sm ⟨b,vs',rfl,hM,aI,r.move (P:=M i) (λa z=>.inl (.inr ⟨i,z⟩)) (λa z=>.inl z) sm⟩
def IX(i:Nat)(ha:c8 X a fa)(hN:X.N[i]?=ZA x:=by rfl)(hv:autoParam (uZ X.env.scope x) u_)(hn:b8 a=ZC:=by rfl)
  (hbase:QB (.Name x p2) "append" X.env (eval (.Name x p2) X.env)=eval (.Name x p2) X.env:=by rfl) (hline:(apos.endLine == cpos.line)=ZC:=by rfl)
  (hd:autoParam ((x == ("__debug__" : Str))=ZD) s_) (hcd:autoParam ((x == ("__classdict__" : Str))=ZD) s_)
  (hsw:P7 (.Call (.Attribute (.Name x p2) "append" apos) [a] [] cpos) ZB pos.line X.env=pure ZD:=by rfl):qQ X (.Expr (.Call (.Attribute (.Name x p2) "append" apos) [a] [] cpos) pos) (iU i fa):=by
 have h1:Oz [a] X.env=(ZD,eval a X.env)::Oz [] X.env:=bo hn;refine PS.imp (tT (zA QN PySem.F.slot_list_append PySem.F.type_list_append rZ (i9 hN hv hd hcd) (bF ha dQ h1) hbase ?_ hline h1 rfl) hsw) λD σ H ⟨Z,B,M,E,h⟩=>?_
 .rw[h1];rfl
 unfold iU at h;split at h
 .rename_i l hl;obtain⟨v0,e1,b,vs,rfl,hM,e3,e4⟩:=E.env.own i _ hl;refine⟨.ref b,e1,.inl ⟨rfl,vs,SqL.of e3⟩,Z,OO B M,E.o,?_⟩;cases q:fa Z with
  |bad=>rw[q]at h;exact h.elim
  |err c=>rw[q]at h;exact PostF.xa h
  |ok t=>
   rw[q,aH]at h;split at h
   .rename_i hz;intro H1 s1 v r;have e3':=s1 _ _ e3;refine⟨b,vs,v,rfl,rfl,e3',by rw[<-e4.length];exact hz,?_⟩;obtain⟨g1,g2⟩:=(E.same s1).putL (l':=l++[t]) (vs':=vs++[v]) hl e1 hM ((e4.same s1).append (Reps.Gc r Reps.GM));exact h σ _ M (λc o e nb=>g2 c o (s1 _ _ e) nb) g1 λc z=>.inl z
   .exact h.elim
 .exact h.elim
noncomputable def Kg(i:Nat)(l:List T)(Z:En):T->Rs Fl
 |.lst m=>if l.length+m.length<=ZI then .ok (.nx (Z.set i (.ow (.lst (l++m)))))else .bad
 |_=>.bad
noncomputable def pz(i:Nat)(f:Y2)(Z:En):Rs Fl:=match Z[i]? with
 |some (.ow (.lst l))=>f Z >>= Kg i l Z
 |_=>.bad
def IT(i:Nat)(ha:c8 X a fa)(hN:X.N[i]?=ZA x:=by rfl)(hv:autoParam (uZ X.env.scope x) u_)(hn:b8 a=ZC:=by rfl)
  (hbase:QB (.Name x p2) "extend" X.env (eval (.Name x p2) X.env)=eval (.Name x p2) X.env:=by rfl) (hline:(apos.endLine == cpos.line)=ZC:=by rfl)
  (hd:autoParam ((x == ("__debug__" : Str))=ZD) s_) (hcd:autoParam ((x == ("__classdict__" : Str))=ZD) s_)
  (hsw:P7 (.Call (.Attribute (.Name x p2) "extend" apos) [a] [] cpos) ZB pos.line X.env=pure ZD:=by rfl):qQ X (.Expr (.Call (.Attribute (.Name x p2) "extend" apos) [a] [] cpos) pos) (pz i fa):=by
 have h1:Oz [a] X.env=(ZD,eval a X.env)::Oz [] X.env:=bo hn;refine PS.imp (tT (zA QN PySem.F.slot_list_extend PySem.F.type_list_extend AW (i9 hN hv hd hcd) (bF ha dQ h1) hbase ?_ hline h1 rfl) hsw) λD σ H ⟨Z,B,M,E,h⟩=>?_
 .rw[h1];rfl
 unfold pz at h;split at h
 .rename_i l hl;obtain⟨v0,e1,b,vs,rfl,hM,e3,e4⟩:=E.env.own i _ hl;refine⟨.ref b,e1,.inl ⟨rfl,vs,SqL.of e3⟩,Z,OO B M,E.o,?_⟩;cases q:fa Z with
  |bad=>rw[q]at h;exact h.elim
  |err c=>rw[q]at h;exact PostF.xa h
  |ok t=>
   rw[q,aH]at h;unfold Kg at h;split at h
   .rename_i m;split at h
    .rename_i hz;intro H1 s1 v r;obtain⟨c,ws,rfl,nO,hc,rm⟩:=Rep.Do.mp r;have e3':=s1 _ _ e3;refine⟨b,c,vs,ws,rfl,rfl,e3',hc,by rw[<-e4.length,<-rm.length];exact hz,?_⟩;obtain⟨g1,g2⟩:=(E.same s1).putL (l':=l++m) (vs':=vs++ws) hl e1 hM ((e4.same s1).append rm);exact h σ _ M (λc o e nb=>g2 c o (s1 _ _ e) nb) g1 λc z=>.inl z
    .exact h.elim
   .exact h.elim
 .exact h.elim
def nX(i:Nat)(F:Y1)(Z:En):Rs Fl:=F (disown i Z)
def IU(i:Nat){F:Y1}(h:qQ X st F):qQ X st (nX i F):=PS.imp h λD σ H hh_=>by obtain⟨Z,B,M,E,q⟩:=hh_;obtain⟨E',sub⟩:=E.disown i;exact⟨disown i Z,B,_,E',PostF.later q (λ_ _ e _=>e) λa z=>.inl (sub a z)⟩
mutual
def T.nk(D:Bool):T->Bool
 |.scr _=>ZD
 |.dct _ ts=>!D&&nks D ts
 |.lst l=>D&&nks D l
 |.tup l=>nks D l
 |_=>ZC
def nks(D:Bool):List T->Bool
 |[] =>ZC
 |t::l=>t.nk D&&nks D l
end
mutual
theorem Rep.lend{K:N7}{O O':Ow}{H:Hp}{D:Bool}(hk:∀a,O a->O' a\/if D then ∃kvs,Rd H a (.dT kvs)else ∃vs,H a=ZA (.lst vs)):∀{t:T}{v:V},t.nk D=ZC->Rep K O' H t v->Rep K O H t v
 |.non,_,_,r=>by unfold Rep at r ⊢;exact r
 |.bl _,_,_,r=>by unfold Rep at r ⊢;exact r
 |.int _,_,_,r=>by unfold Rep at r ⊢;exact r
 |.str _,_,_,r=>by unfold Rep at r ⊢;exact r
 |.tup l,_,h,r=>by
  unfold Rep at r ⊢;unfold T.nk at h;obtain⟨a,vs,e,n,q,z⟩:=r;refine⟨a,vs,e,λp=>(hk a p).elim n λw=>?_,q,Reps.lend hk h z⟩;split at w
  .obtain⟨_,w|⟨_,w⟩⟩:=w <;> rw[q]at w <;> cases w
  .obtain⟨_,w⟩:=w;rw[q]at w;cases w
 |.lst l,_,h,r=>by unfold Rep at r ⊢;unfold T.nk at h;rw[Oa]at h;obtain⟨h1,h2⟩:=h;subst h1;obtain⟨a,vs,e,n,q,z⟩:=r;refine⟨a,vs,e,λp=>(hk a p).elim n λw=>?_,q,Reps.lend hk h2 z⟩;rw[if_pos rfl]at w;obtain⟨_,w|⟨_,w⟩⟩:=w <;> rw[q]at w <;> cases w
 |.scr l,_,h,r=>by unfold T.nk at h;cases h
 |.dct ks ts,_,h,r=>by
  unfold Rep at r ⊢;unfold T.nk at h;rw[Oa]at h;obtain⟨h1,h2⟩:=h;cases D with
  |true=>cases h1
  |false=>
   obtain⟨a,kvs,e,n,q,k,z⟩:=r;refine⟨a,kvs,e,λp=>(hk a p).elim n λw=>?_,q,k,Reps.lend hk h2 z⟩;rw[if_neg OG]at w;obtain⟨_,w⟩:=w;rcases q with q|⟨_,q⟩ <;> rw[q]at w <;> cases w
theorem Reps.lend{K:N7}{O O':Ow}{H:Hp}{D:Bool}(hk:∀a,O a->O' a\/if D then ∃kvs,Rd H a (.dT kvs)else ∃vs,H a=ZA (.lst vs)):∀{l:List T}{vs:List V},nks D l=ZC->Reps K O' H l vs->Reps K O H l vs
 |[],_,_,r=>by unfold Reps at r ⊢;exact r
 |t::l,_,h,r=>by unfold Reps at r ⊢;unfold nks at h;rw[Oa]at h;obtain⟨v,ws,e,p,q⟩:=r;exact⟨v,ws,e,Rep.lend hk h.1 p,Reps.lend hk h.2 q⟩
end
noncomputable def ln(i:Nat)(f:Y2)(Z:En):Rs T:=match Z[i]? with
 |some (.ow o)=>f (disown i Z) >>= λt=>if t.nk o.isD=ZC then .ok t else .bad
 |_=>f Z
def JO(i:Nat)(f:Y3)(Z:En):Rs Bool:=f (disown i Z)
def sS(E:EnvM K O M H Z σ)(i:Nat):EnvM K (λa=>O a/\¬ M i a) (M.set i zG) H (disown i Z) σ:=
 E.disown i (λa z=>z.1) (λa z y=>y.2 z) λj a hj z=>⟨E.sub j a z,λy=>hj (E.dis j i a z y)⟩
def q_ln(i:Nat)(h:c8 X e f):c8 X e (ln i f):=PE.imp h λσ H Q ⟨Z,O,⟨M,E⟩,q⟩=>by
 unfold ln at q;split at q
 .rename_i o hi;refine⟨disown i Z,_,⟨_,sS E i⟩,?_⟩;obtain⟨w,e1,r⟩:=E.own i o hi;refine Post.mono (Post.bind q) λt H' s q2 v rv=>?_;split at q2
  .rename_i hk;have kd:=(r.same s).kind;refine q2 H' (Same.refl _) v (Rep.lend (λa z=>?_) hk rv);by_cases hm:M i a
   .refine .inr ?_;have this:=kd a hm;by_cases hD:o.isD=ZC
    .rw[if_pos hD]at this ⊢;exact this.imp λ_ z=>.inl z
    .rw[if_neg hD]at this ⊢;exact this
   .exact .inl ⟨z,hm⟩
  .exact q2.elim
 .exact⟨Z,O,⟨M,E⟩,q⟩
def Lh(i:Nat){f:Y3}(h:xA X e f):xA X e (JO i f):=PT.imp h λσ H Q ⟨Z,O,⟨M,E⟩,q⟩=>⟨disown i Z,_,⟨_,sS E i⟩,q⟩
end
noncomputable def lD:List T->List T->List Key->Option T
 |k'::ks,v::vs,k=>if keyOf k'=ZA k then ZA v else lD ks vs k
 |_,_,_=>ZB
noncomputable def hW(k v:T):List T->List T->List T×List T
 |k'::ks,v'::vs=>if keyOf k'=keyOf k then(k'::ks,v::vs)else(k'::(hW k v ks vs).1,v'::(hW k v ks vs).2)
 |_,_=>([k],[v])
noncomputable def bP(x y:T):Rs T:=match x,keyOf y with
 |.dct ks vs,ZA k=>match lD ks vs k with
  |some t=>.ok t
  |none=>.bad
 |_,_=>.bad
noncomputable def jB(x y:T):Rs T:=match x,keyOf y with
 |.dct ks vs,ZA k=>match lD ks vs k with
  |some t=>.ok t
  |none=>.ok .non
 |_,_=>.bad
noncomputable def Bk(x y:T):Rs T:=match y,keyOf x with
 |.dct ks vs,ZA k=>.ok (.bl (lD ks vs k).isSome)
 |_,_=>.bad
noncomputable def oD(g:T->T->Rs T)(fa fb:Y2)(Z:En):Rs T:=fa Z >>= λx=>match x with
 |.dct ks vs=>fb Z >>= g (.dct ks vs)
 |_=>.bad
noncomputable def oL(g:T->T->Rs T)(fa fb:Y2)(Z:En):Rs T:=fa Z >>= λx=>match x with
 |.lst l=>fb Z >>= g (.lst l)
 |_=>.bad
noncomputable def KJ:List T->Option (List (T×T))
 |[] =>ZA []
 |.tup [k,v] ::l=>match keyOf k,KJ l with
  |some _,ZA r=>ZA ((k,v)::r)
  |_,_=>ZB
 |_=>ZB
noncomputable def jY:List (T×T)->List T×List T->List T×List T
 |[],d=>d
 | (k,v)::r,d=>jY r (hW k v d.1 d.2)
noncomputable def Aj:List T->Rs T
 |[.lst l] =>match KJ l with
  |some ps=>if l.length<=1000 then .ok (.dct (jY ps ([],[])).1 (jY ps ([],[])).2)else .bad
  |none=>.bad
 |_=>.bad
noncomputable def nP:List T->Bool
 |[] =>ZC
 |k::l=>(keyOf k).isSome&&nP l
noncomputable def rO(i:Nat)(f:Y2)(Z:En):Rs Fl:=f Z >>= λt=>Aj [t] >>= λd=>match d with
 |.dct ks vs=>if i<Z.length then .ok (.nx (Z.set i (.ow (.dct ks vs))))else .bad
 |_=>.bad
noncomputable def AF(i:Nat)(fk fv:Y2)(Z:En):Rs Fl:=match Z[i]? with
 |some (.ow (.dct ks vs))=>fv Z >>= λv=>fk Z >>= λk=>match keyOf k with
  |some _=>if ks.length<1000 then .ok (.nx (Z.set i (.ow (.dct (hW k v ks vs).1 (hW k v ks vs).2))))else .bad
  |none=>.bad
 |_=>.bad
noncomputable def pw(i j:Nat)(Z:En):Rs Fl:=match Z[j]? with
 |some (.va (.lst l))=>if i<Z.length/\nP l=ZC/\(l.map keyOf).Nodup/\l.length<=1000 then .ok (.nx (Z.set i (.ow (.dd l (l.map λ_=>(l,l.map λ_=>.non))))))else .bad
 |_=>.bad
noncomputable def rg:List T->List (List T×List T)->List Key->Option (List T×List T)
 |k'::ks,r::rs,k=>if keyOf k'=ZA k then ZA r else rg ks rs k
 |_,_,_=>ZB
noncomputable def rf(k:List Key)(x:List T×List T):List T->List (List T×List T)->List (List T×List T)
 |k'::ks,r::rs=>if keyOf k'=ZA k then x::rs else r::rf k x ks rs
 |_,rs=>rs
noncomputable def jx(i:Nat)(fa fb fv:Y2)(Z:En):Rs Fl:=match Z[i]? with
 |some (.ow (.dd ks rows))=>fv Z >>= λv=>fa Z >>= λa=>match(keyOf a).bind λka=>(rg ks rows ka).map λr=>(ka,r)with
  |some (ka,r)=>fb Z >>= λb=>if (keyOf b).isSome=ZC/\r.1.length<1000 then .ok (.nx (Z.set i (.ow (.dd ks (rf ka (hW b v r.1 r.2) ks rows)))))else .bad
  |none=>.bad
 |_=>.bad
def gm:List T->Option (List Int)
 |[] =>ZA []
 |.int i::l=>(gm l).map (i:: ·)
 |_=>ZB
noncomputable def lmin(i:Int):List Int->Int
 |[] =>i
 |j::l=>lmin (if j<i then j else i) l
noncomputable def mZ(i:Int):List Int->Int
 |[] =>i
 |j::l=>mZ (if i<j then j else i) l
noncomputable def Dg:List T->Rs T
 |[.lst l] =>match gm l with
  |some (i::ns)=>.ok (.int (mZ i ns))
  |_=>.bad
 |[.int i,.int j] =>.ok (.int (mZ i [j]))
 |_=>.bad
noncomputable def kJ(x:T):List T->Nat->Option Nat
 |[],_=>ZB
 |t::l,n=>if aS t x then ZA n else kJ x l (n+1)
noncomputable def il(y x:T):Rs T:=match y with
 |.lst l=>if (x.dep<=60\/deps l<=60)/\x.nd=ZC/\nds l=ZC then match kJ x l 0 with
   |some n=>.ok (.int n)
   |none=>.bad
  else .bad
 |_=>.bad
noncomputable def AD(ms:List (List T->Rs T))(f0:Y2)(fs:Y0)(Z:En):Rs T:=f0 Z >>= λk=>match k with
 |.int i=>match L2.atI ms i with
  |some m=>fs Z >>= m
  |none=>.bad
 |_=>.bad
noncomputable def Ca(i:Nat)(f:Y2)(Z:En):Rs Fl:=match Z[i]? with
 |some (.va (.int a))=>f Z >>= λy=>match y with
  |.int b=>.ok (.nx (Z.set i (.va (.int (a+b)))))
  |_=>.bad
 |_=>.bad
noncomputable def lR(f:Y0)(Z:En):Rs T:=f Z >>= λx=>match x with
 |[.int i,.int j] =>if mh i&&mh j&&decide ((j - i).toNat<=1000)then .ok (.lst (rng i j))else .bad
 |[.int j] =>if mh j&&decide (j.toNat<=1000)then .ok (.lst (rng 0 j))else .bad
 |_=>.bad
noncomputable def Mi(f:Y0)(Z:En):Rs (List T):=f Z >>= λx=>match x with
 |[.int i,.int j,.int (-1)] =>if mh i&&mh j then .ok ((Oo (i - j).toNat).map λ(k:Nat)=>T.int (i - (k:Int)))else .bad
 |_=>.bad
def FU:Nat:=1000000000000
variable{h:ZH}
theorem iD{b b':ZH}:∀{l:List Env},h.FunFrames b l->(∀a∈l.filterMap (·.frame),b'.get? a=ZB)->h.FunFrames b' l
 |[],_,_=>trivial
 |env::dv,⟨hk,⟨L,o,hf,hn,ho,hd⟩,hr⟩,q=>by rw[P9,hf]at q;exact⟨hk,⟨L,o,hf,q L Of,ho,hd⟩,iD hr λa ha=>q a (N9 _ ha)⟩
variable{C e:ZE}{M:Xi}{outer:List Env}
structure Hb (fs:List ZE)(C e:ZE)(T:Option ZE)(h h':ZH)(T':ZE):Prop where
 flt:ML h' C e (ZA T')
 new:T=ZA T'\/h.get? T'=ZB
 keep:∀b o,b∉fs->b≠e->T≠ZA b->h.get? b=ZA o->h'.get? b=ZA o
 slot:∀b o,b∈fs->h.get? b=ZA o->∃sl,h'.get? b=ZA {o with slots:=sl}
def JP{base:ZH}{L:ZE}{T:Option ZE}{Q:Unit->Oe->Prop}(hfr:A.frames=ZA (env::outer))(hl:s.heap.FunFrames base (env::outer))(hf:env.frame=ZA L)
  (F:ML s.heap C e T) (h:∀h' T',Hb ((env::outer).filterMap (·.frame)) C e T s.heap h' T'->Q () {s with heap:=h'}):ZJ M A (leaving env (.ref e)) Q E s:=by
 generalize hB:Uz s.heap (e::(T.toList++(env::outer).filterMap (·.frame)))=B;have bm:∀b,b∈e::(T.toList++(env::outer).filterMap (·.frame))->B.get? b=ZB:=λb m=>by rw[<-hB];exact SZ _ m
 have hl':s.heap.FunFrames B (env::outer):=iD hl λa ha=>bm a (N9 _ (OL _ ha));have hst:B.StaysIn s.heap:=λb o q=>by rw[<-hB]at q;exact Tt _ q
 have hen:B.get? e=ZB:=bm e Of;have main:∀h',Heap.Left B (env::outer) e (.ref C) s.heap h'->Q () {s with heap:=h'}:=λh' q=>by
  obtain⟨x1,x2,⟨oe,vs,T',oT,ts,he,hc,hd,h1,hnT,hTe,hT,hdT,h3⟩,x4⟩:=q;refine h h' T' ⟨⟨hTe,oe,vs,he,hc,hd,h1,oT,ts,hT,hdT,h3⟩,?_,λb o n1 n2 n3 q=>?_,λb o m q=>?_⟩
  .cases q:s.heap.get? T' with
   |none=>exact .inr rfl
   |some o=>
    left;by_cases z:T'∈e::(T.toList++(env::outer).filterMap (·.frame))
    .rcases Oh.mp z with z|z
     .exact absurd z hTe
     .rcases OS.mp z with z|z
      .cases T with
       |none=>simp at z
       |some t=>simp at z;rw[z]
      .obtain⟨_,o',ho',hnf⟩:=x2.mem z;rw[hT]at ho';cases ho';exact absurd hdT (hnf ts)
    .rw[<-hB,Rn _ q z]at hnT;cases hnT
  .refine x1 b o ?_;rw[<-hB];refine Rn _ q λz=>?_;rcases Oh.mp z with z|z
   .exact n2 z
   .rcases OS.mp z with z|z
    .cases T with
     |none=>simp at z
     |some t=>simp at z;exact n3 (by rw[z])
    .exact n1 z
  .obtain⟨_,o',ho',hnf⟩:=hl.mem m;rw[q]at ho';cases ho';exact x4 b o q hnf
 cases T with
 |none=>
  obtain⟨oe,vs,he,hc,hd,h1⟩:=F;refine wpAny_leaving_first hfr hl' hf he hst hen hd h1 λh' x=>main h' ?_;rw[hc]at x;exact x
 |some t=>
  obtain⟨hte,oe,vs,he,hc,hd,h1,oT,ts,hT,hdT,h3⟩:=F;exact wpAny_leaving_next hfr hl' hf ⟨oe,vs,t,oT,ts,he,hc,hd,h1,bm t (N9 _ (O9 _ (by simp))),hte,hT,hdT,h3⟩ hst hen main
structure OwnExc (K:N7)(C:ZE)(bm:List Ob):Prop where
 at_:∀h:ZH,K.In h->∃nm q N bs hdct sn sub ab col dd k0 k1 k2 k3 k5 mN,h.get? C=ZA (PZ nm q C N bs bm hdct sn sub ab col dd k0 k1 k2 k3 k5 "ValueError.__new__")/\h.Ns N mN/\mN "__init__" =ZB/\OwnTail h nU bm
def OwnExc.base(O:OwnExc K C bm)(k:K.In h):bm.contains (.type "BaseException")=ZC:=by obtain⟨_,_,_,_,_,_,_,_,_,_,_,_,_,_,_,_,_,_,_,T⟩:=O.at_ h k;exact T.hasType (by decide)
def B9(c:Str)(_:En):Rs Fl:=.err c
variable{c:Str}{p1:Pos}
def Cr{msg:Str}{np:Pos}(O:OwnExc X.K C bm)(hc:X.calm=ZC)(hm:X.mg c=ZA (.ref C))(hg:Gl X c:=by rfl)(hd:autoParam ((c == ("__debug__" : Str))=ZD) s_):
  qQ X (.Raise (ZA (.Call (.Name c np) [.Constant (.str msg) j p1] [] cpos)) ZB pos) (B9 c):=by
 intro kw s σ H D I ⟨Z,B,M,E,k⟩;have k:XA X M.u H c:=k;obtain⟨nm,q,N,bs,hdct,sn,sub,ab,col,dd,k0,k1,k2,k3,k5,mN,hC,hN,hni,T⟩:=O.at_ s.heap I.kIn;refine wpAny_Raise_call_subU (C:=C) (mN:=mN) (nm:=nm) (q:=q) (N:=N) (bs:=bs) (hdct:=hdct) (sn:=sn) (sub:=sub) (ab:=ab) (col:=col) (dd:=dd) (k0:=k0) (k1:=k1) (k2:=k2) (k3:=k3) (k5:=k5) Tj (Bn:="ValueError") (by decide) Tj (O.base I.kIn) (I.ok.hd hc) (by rfl) hni (je I hg hm ⟨rfl,?_⟩ hd);show ZJ _ _ (evalArgs (.ref C) ZC ((ZD,eval (.Constant (.str msg) j p1) X.env)::backTo cpos (Oz [] X.env)) []) _ _ s;refine RV (RC (Vv (Rh ?_)));refine⟨rfl,by show 1<=ZI;decide,hC,hN,T,λh' e hm'=>k kw _ _ ?_⟩;obtain⟨t,ht,ht2,ht3⟩:=hm'.there;have I':Inv X kw σ H {s with heap:=h',toks:=s.toks+1}:=I.kept (t':=s.toks+1) λb o z=>hm'.keeps b o z;refine⟨e,ZB,C,σ,H,rfl,hm,I',λb o z _=>z,?_,?_,⟨_,_,ht,rfl,rfl,rfl⟩,(λt z=>by cases z),λp hp=>⟨λz=>?_,λz=>by cases z⟩⟩
 .exact pZ I hm'.new
 .exact λhex=>lx I hex hm'.new
 .have:=(I.pin p hp).1;rw[z,show s.heap.get? e=ZB from hm'.new]at this;cases this
variable{f:ZE}{mg:WF}{qual:Str}
section
variable {base:ZH}
def Kd(Fn:L2.Fun K x qual st f fd)(S:dj N ps (az st))(hn:ps.length=n)
  (hbody:∀(cdv:Ob),fd.code=cdv->∀(A:OW)(outer:List Env)(s:Oe)(H:Hp)(E:XK),Room k (A.deeper (envOfC qual (az st) s.heap.objs.size f cdv)) ->
   ∃F,(∀xe,nu ((jl CX0 P w K mg base N qual (az st) f cdv A outer s H E).FB xe) (cZ st) F)/\∀ts,ts.length=n->∀c,g ts=.err c->F (bZ N.length ts)=.err c):FnX P w K mg base (k+1) f fd ps n g:=by
 intro A outer s H args us vs O ts c R hr e0 hb r rs trk hl hg hR;have hpl:ps.length<=N.length:=by have:=congrArg PC S.pre;rw[Pr]at this;omega
 obtain⟨oc,od,kV,doc,pm,an,cdv,ct,osl,rfl,lk,hcd⟩:=Fn.ex;have hlen:vs.length=ps.length:=by rw[<-rs.length,hl,hn]
 have KX:K.In s.heap:=e0.mod.kin.keeps λb o e=>(e0.bs b o e).1;have lim:s.heap.NoLimit:=e0.mod.nolimit.keeps λb o e=>(e0.bs b o e).1;have hkind:∀y∈ps.zip us,(az st).names.lookup y.1=ZA .local\/((az st).names.lookup y.1=ZA .cell/\((QX (s.heap.objs.size+1) (az st).names []).lookup y.1).isSome=ZC):=λ⟨n,v⟩ hy=>by
  rcases S.par n (Rj hy).1 with q|q
  .exact .inl q
  .exact .inr ⟨q,Q1 _ _ _ (.inl q)⟩
 refine SS hr.depth (KX _ _ lk) rfl S.co S.gen rfl (Tu KX hcd) (hb _ _ _ _ ?_);refine Q5 S.kind hkind λenv he s1 x=>?_;subst he;refine⟨lim.keeps x.toInCall.keep,Wz ?_⟩;obtain⟨F,hF,hv⟩:=hbody cdv rfl A outer s H E0 (hr.deeper _);let xe:WP:=λev s'=>ZJ (ZK P w) (A.deeper (envOfC qual (az st) s.heap.objs.size f cdv)) (leaving (envOfC qual (az st) s.heap.objs.size f cdv) ev) (λ_ s''=>R (.error ev) s'') (λe' s''=>R (.error e') s'') s';have I:Inv ((jl CX0 P w K mg base N qual (az st) f cdv A outer s H E0).FB xe) [] (start N vs) H s1:=(kF S hr.hd e0 hlen r x).FB _;have no:∀a,¬noM.u a:=λa ⟨_,z⟩=>z;refine Qp (hF xe [] s1 (start N vs) H {nx:=λ_ _=>False,rt:=λ_ _=>False,bk:=λ_ _=>False,ct:=λ_ _=>False} I ⟨bZ N.length ts,O,noM,rL rs (by omega) trk,?_⟩) (λfl s' z=>?_) λe s' hs=>hs
 rotate_left
 .cases fl with
  |next=>obtain⟨_,_,_,z⟩:=z;exact z.elim
  |cont=>obtain⟨_,_,_,z⟩:=z;exact z.elim
  |brk=>obtain⟨_,_,_,z⟩:=z;exact z.elim
  |ret v=>obtain⟨_,_,_,_,_,z⟩:=z;exact z.elim
 rw[hv ts hl c hg];intro kw ev s' w';show ZJ _ _ _ _ _ _;obtain⟨e,T,C,σ',H',rfl,hm,I',sm,he,heo,fl,hT,_⟩:=w';have heo:=heo rfl;have hT:∀t,T=ZA t->H' t=ZB/\s.heap.get? t=ZB:=λt z=>⟨(hT t z).1,(hT t z).2 rfl⟩;refine JP (base:=base) (outer:=outer) (L:=s.heap.objs.size) I'.ok.frames I'.stack rfl fl λh' T' g=>hR _ _ ?_;have hex:((jl CX0 P w K mg base N qual (az st) f cdv A outer s H E0).FB xe).ex=[]:=rfl;have Tn:H' T'=ZB/\s.heap.get? T'=ZB:=by
  rcases g.new with z|z
  .exact hT T' z
  .exact⟨pZ I' z,lx I' hex z⟩
 have out:∀b o,s.heap.get? b=ZA o->b≠s.heap.objs.size:=λb o q z=>by have:=Ov q;rw[z]at this;exact absurd this (Pa _)
 have mem:∀b,b∈kG ((envOfC qual (az st) s.heap.objs.size f cdv)::outer)->b=s.heap.objs.size\/b∈kG outer:=λb z=>by have z':b∈s.heap.objs.size::kG outer:=z;exact Oh.mp z'
 have ne:∀b o,s.heap.get? b=ZA o->b≠e/\T≠ZA b:=λb o q=>⟨λz=>(by subst z;rw[show s.heap.get? b=ZB from heo]at q;cases q),λz=>(by rw[show s.heap.get? b=ZB from(hT b z).2]at q;cases q)⟩;have keepH:∀b u,H' b≠ZB->s'.heap.get? b=ZA u->h'.get? b=ZA u:=λb u hb q=>by refine g.keep b u (λz=>hb (I'.IR b z)) (λz=>hb (by rw[z];exact he)) (λz=>hb (hT b z).1) q
 refine⟨e,T',C,H',rfl,hm,I'.os,I'.bare,⟨λb o q n hb hx=>?_,λb o q n hb hx=>?_,λb o q n hx=>I'.base.free b o q n hx,λb o q hx=>?_,I'.base.tups,I'.base.frzs,I'.base.tbls⟩,λa o q=>?_,λb o q=>sm b o q (no b),he,heo,g.flt,Tn.1,Tn.2⟩
 .exact g.keep b o (λz=>(mem b z).elim (out b o q) hb) (ne b o q).1 (ne b o q).2 (I'.base.keep b o q n hb hx)
 .obtain⟨sl,q1⟩:=I'.base.slot b o q n hb hx;obtain⟨sl',q2⟩:=g.slot b _ (N9 _ hb) q1;exact⟨sl',q2⟩
 .obtain⟨o',q1⟩:=I'.base.there b o q hx;by_cases z:b∈kG ((envOfC qual (az st) s.heap.objs.size f cdv)::outer)
  .obtain⟨sl,q2⟩:=g.slot b o' z q1;exact⟨_,q2⟩
  .exact⟨o',g.keep b o' z (ne b o q).1 (ne b o q).2 q1⟩
 .refine(I'.hok a o q).M6 (λb u hb z=>keepH b u ?_ z) (λ_ z=>z) λ_ _ z=>z;rcases hb with rfl|hb
  .rw[q];simp
  .rw[hb];simp
end
def EY{m:Nat}{F:Y1}(h:val n m F ts=.err c):F (bZ m ts)=.err c:=by
 unfold val at h;split at h
 .unfold fo at h;cases z:F (bZ m ts)with
  |bad=>rw[z]at h;cases h
  |err c'=>rw[z]at h;cases h;rfl
  |ok f=>
   rw[z,aH]at h;cases f <;> cases h
 .cases h
section
variable {base:ZH}
def Kf{F:Y1}(Fn:L2.Fun K x qual st f fd)(S:dj N ps (az st))(hn:ps.length=n)
  (hbody:∀(cdv:Ob),fd.code=cdv->∀(A:OW)(outer:List Env)(s:Oe)(H:Hp)(E:XK),Room k (A.deeper (envOfC qual (az st) s.heap.objs.size f cdv)) ->
   ∀xe,nu ((jl CX0 P w K mg base N qual (az st) f cdv A outer s H E).FB xe) (cZ st) F):BK P w K mg base (k+1) f fd ps n (val n N.length F):=
 ⟨Mm Fn S hn λcdv hcv A outer s H E hr=>⟨F,hbody cdv hcv A outer s H E hr _,λts _ _ h=>Ic h⟩,Kd Fn S hn λcdv hcv A outer s H E hr=>⟨F,hbody cdv hcv A outer s H E hr,λts _ c h=>EY h⟩⟩
end
variable{args:List ZG}{as:List ZE}{gs:List (List T->Rs T)}{kw:Uf}{vs:List V}
section
variable {Q:VK}
def K8(F:BK X.prog X.w X.K X.mg X.base k f fd ps n g)(hr:Room k X.A)(hb:Binds X.K fd ps [])(hps:ps.length=n)(I:Inv X kw σ H s)(r:Vals vs us)(rs:Reps X.K O H ts vs)(mt:∀a,O a->Mtb H a)(hl:ts.length=n)
  (hq:Post X H (g ts) λt H'=>∀v,Rep X.K O H' t v->Q v H'):ZJ (ZK X.prog X.w) X.A (call (.ref f) us) (EP X kw σ Q) X.xe s:=by
 cases q2:g ts with
 |bad=>rw[q2]at hq;exact hq.elim
 |ok t=>
  rw[q2]at hq;refine xU (E:=E0) (dvs:=[]) (ds:=[]) F.h hr hb .nil zC I r ⟨ts,O,by simpa using rs,mt,hl,?_⟩;rw[q2];exact λv H' s2 rr=>hq H' s2 v rr
 |err c=>
  rw[q2]at hq;have hlen:us.length=ps.length:=by rw[<-r.length,<-rs.length,hl,hps]
  have hb':=hb s us I.kIn (by rw[PB];exact hlen);rw[PB]at hb';refine UY (Sd (F.x X.A X.stack s H ⟨us,[]⟩ us vs O ts c (λr s'=>match r with|.error ev=>X.xe ev s'|_=>False) hr I.Ny hb' r rs mt hl q2 λev s' w=>?_) λr s' hq=>?_)
  .obtain⟨ea,T,C,H',rfl,hmc,ho,hbare,hun,hok,sm2,hea,heo,fl,hT,hTo⟩:=w;have I2:Inv X kw σ H' s':=I.Nt ho hun hok hbare (λb z=>absurd z (by simp));exact hq kw _ _ ⟨ea,ZA T,C,σ,H',rfl,hmc,I2,λb o q _=>sm2 b o q,hea,λhex=>lx I hex heo,fl,(λt zt=>by cases zt;exact⟨hT,λhex=>lx I hex hTo⟩),λpp hpp=>⟨λzz=>(by have:=(I.pin pp hpp).1;rw[zz,heo]at this;cases this),λzz=>(by cases zz;have:=(I.pin pp hpp).1;rw[hTo]at this;cases this)⟩⟩
  .cases r with
   |error ev=>exact hq
   |ok fl=>exact hq.elim
inductive Sels (X:Cx) (n:Nat):List ZG->List ZE->List (List T->Rs T)->Prop
 |nil:Sels X n [] [] []
 |cons {x:Str} {p:Pos} {es:List ZG} {as:List ZE} {gs:List (List T->Rs T)} {k:Nat} {f:ZE} {fd:PX} {ps:List Str} {g:List T->Rs T}:BK X.prog X.w X.K X.mg X.base k f fd ps n g->Room k X.A->X.mg x=ZA (.ref f)->Qx X.K (.ref f)=ZC->Binds X.K fd ps []->ps.length=n->Gl X x->(x == ("__debug__" : Str))=ZD ->
   Sels X n es as gs->Sels X n (.Name x p::es) (f::as) (g::gs)
def seln:Sels X n [] [] []:=.nil
def selc(F:BK X.prog X.w X.K X.mg X.base k f fd ps n g)(hr:Room k X.A)(hm:X.mg x=ZA (.ref f))(hk:Qx X.K (.ref f)=ZC)(hb:Binds X.K fd ps [])(h:Sels X n es as gs)(hps:ps.length=n:=by rfl)(hg:Gl X x:=by rfl)(hd:autoParam ((x == ("__debug__" : Str))=ZD) s_):
  Sels X n (.Name x p::es) (f::as) (g::gs):=.cons F hr hm hk hb hps hg hd h
theorem Sels.pa:∀{es:List ZG}{as:List ZE}{gs:List (List T->Rs T)},Sels X n es as gs->PA X es (λσ H Q=>Q (as.map V.ref) H):=by
 intro es as gs h;induction h with
 |nil=>exact λpos kw s σ H Q I h=>dQ pos kw s σ H Q I h
 |cons F hr hm hk hb hps hg hd h i=>exact λpos kw s σ H Q I q=>bF (tX (v:=.ref _) hg hm rfl hd) i (bo rfl) pos kw s σ H Q I q
theorem Sels.len:∀{es:List ZG}{as:List ZE}{gs:List (List T->Rs T)},Sels X n es as gs->as.length=gs.length:=by
 intro es as gs h;induction h with
 |nil=>rfl
 |cons _ _ _ _ _ _ _ _ h i=>rw[Ol,Ol,i]
theorem Sels.at_:∀{es:List ZG}{as:List ZE}{gs:List (List T->Rs T)},Sels X n es as gs->∀{j:Nat}{g:List T->Rs T},gs[j]?=ZA g->∃f fd ps k,as[j]?=ZA f/\BK X.prog X.w X.K X.mg X.base k f fd ps n g/\Room k X.A/\Qx X.K (.ref f)=ZC/\Binds X.K fd ps []/\ps.length=n:=by
 intro es as gs h;induction h with
 |nil=>intro j g e;simp at e
 |cons F hr hm hk hb hps hg hd h i=>
  intro j g e;cases j with
  |zero=>simp at e;subst e;exact⟨_,_,_,_,rfl,F,hr,hk,hb,hps⟩
  |succ j=>obtain⟨f,fd,ps,k,e1,r⟩:=i (j:=j) (by simpa using e);exact⟨f,fd,ps,k,by simpa using e1,r⟩
def oR{b:ZG}{Q:WP}
  (h:ZJ M A (eval (.Subscript a b p) env) (λf s₁=>ZJ M A (callWith pos f [] (backTo pos (Oz args env)) (VS pos (Tg [] env))) Q E s₁) E s):
  ZJ M A (eval (.Call (.Subscript a b p) args [] pos) env) Q E s:=by
 rw[show eval (.Call (.Subscript a b p) args [] pos) env=(do callWith pos (<-eval (.Subscript a b p) env) [] (backTo pos (Oz args env)) (VS pos (Tg [] env)))from rfl];exact N8 h
def EE{xs:List α}{ys:List β}{i:Int}{y:β}(hl:xs.length=ys.length)(h:L2.atI ys i=ZA y):∃j:Nat,ys[j]?=ZA y/\∀x,xs[j]?=ZA x->L2.atI xs i=ZA x:=by
 unfold L2.atI at h ⊢;rw[hl];cases q:ixN ys.length i with
 |none=>rw[q]at h;cases h
 |some j=>rw[q]at h;exact⟨j,h,λx e=>e⟩
def Ln{a0 i0:ZG}{p2:Pos}{f0:Y2}{fs:Y0}(S:Sels X n es as gs)(h0:c8 X i0 f0)(hl:∀Z ts,fs Z=.ok ts->ts.length=n)(ha:qT X (a0::args) fs)
  (hn:bj (a0::args)=ZC:=by rfl) (hs:autoParam (kL i0) w_) (hz:autoParam (es.length<=100) s_):c8 X (.Call (.Subscript (.List es p1) i0 p2) (a0::args) [] pos) (AD gs f0 fs):=by
 intro kw s σ H Q I ⟨Z,O,E,hq⟩;have hes:as.length<=ZI:=by
  have:∀{es:List ZG}{as:List ZE}{gs:List (List T->Rs T)},Sels X n es as gs->es.length=as.length:=by
   intro es as gs h;induction h with
   |nil=>rfl
   |cons _ _ _ _ _ _ _ _ _ ih=>rw[Ol,Ol,ih]
  rw[<-this S,PJ];omega
 have hq':Post X H (f0 Z >>= λk=>match k with|.int i=>(match L2.atI gs i with|some m=>fs Z >>= m|none=>.bad)|_=>.bad) λt H'=>∀v,Rep X.K O H' t v->Q v H':=hq;refine oR (cL (LG ix_list (tW S.pa) h0 hs kw s σ H (λv H'=>∃(i:Int)(m:List T->Rs T)(j:Nat),L2.atI gs i=ZA m/\gs[j]?=ZA m/\(∀x,as[j]?=ZA x->v=.ref x)/\Same H H'/\Post X H' (fs Z >>= m) λt H'=>∀v,Rep X.K O H' t v->Q v H') I ?_) λf s1 r=>?_)
 .refine⟨by rw[Oc];exact hes,λl hl0=>?_⟩;have E1:=E.same (aQ hl0 (.lst (as.map V.ref)));have s1:Same H (upd H l (.lst (as.map V.ref))):=aQ hl0 _;refine⟨Z,O,E1,Post.mono (Post.bind (Post.later hq' s1)) λt H2 s2 q2 v rv=>?_⟩;cases t with
  |int i=>
   have hv:=Rep.AC.mp rv;subst hv;simp only at q2;cases z:L2.atI gs i with
   |none=>rw[z]at q2;exact q2.elim
   |some m=>
    rw[z]at q2;obtain⟨j,z1,z2⟩:=EE (xs:=as) S.len z;obtain⟨f,fd,ps,k,e1,_⟩:=S.at_ z1;have z3:L2.atI (as.map V.ref) i=ZA (.ref f):=by
     have:=z2 f e1;unfold L2.atI at this ⊢;rw[Oc];cases y:ixN as.length i with
     |none=>rw[y]at this;cases this
     |some j'=>
      rw[y]at this;show(as.map V.ref)[j']?=_;rw[Ox];have:as[j']?=ZA f:=this;rw[this];rfl
    refine⟨l,as.map V.ref,i,.ref f,rfl,rfl,SqL.of (s2 _ _ aI),z3,i,m,j,z,z1,λx ex=>?_,s1.trans s2,q2⟩;rw[e1]at ex;cases ex;rfl
  |_=>exact q2.elim
 .obtain⟨v,H1,I1,rv,i,m,j,z,z1,hv,sm,q⟩:=r;obtain⟨f',fd,ps,k,e1,F,hr,hk,hb,hps⟩:=S.at_ z1;cases hv f' e1;cases rv;unfold bj at hn;rw[Oa]at hn;refine Sg (h₀:=X.base) I.ok.mod.kin hk (cL (ha pos kw s1 σ H1 (λvs H'=>∃ts,fs Z=.ok ts/\Reps X.K O H' ts vs/\Same H1 H'/\Post X H' (m ts) λt H'=>∀v,Rep X.K O H' t v->Q v H') I1 ⟨Z,O,E.same sm,?_⟩) (λus s2 ⟨vs,H2,I2,r,ts,et,rs,s2',q2⟩=>⟨I2.kIn,?_⟩)) (bo hn.1) (gi hn.2)
  .cases y:fs Z with
   |bad=>rw[y]at q;exact q.elim
   |err c=>rw[y]at q;exact q
   |ok ts=>
    rw[y]at q;exact λH' s' vs rs=>⟨ts,rfl,rs,s',Post.later q s'⟩
  .exact K8 F hr hb hps I2 r rs ((E.same sm).same s2').mtb (hl Z ts et) q2
end
def Lk:qQ X (.Continue pos) K7:=PS.imp vP λD σ H ⟨Z,B,M,E,h⟩=>h σ H M (λ_ _ e _=>e) E λa z=>.inl z
def IV(i:Nat){pos':Pos}(hN:X.N.Nodup)(ha:c8 X a fa)(hi:X.N[i]?=ZA x:=by rfl)(hx:autoParam (Loc X.env.scope x) x_)(hf:autoParam (X.fn x=ZC\/X.env.scope.names.lookup x=ZA .local) r_):
  qQ X (.AugAssign (.Name x pos') .Add a pos) (Ca i fa):=PS.imp (Jg hN hi hx ha J7 hf) λD σ H hh_=>by
 obtain⟨Z,B,M,E,h⟩:=hh_;unfold Ca at h;split at h
 .rename_i n e;obtain⟨v,e1,r⟩:=E.env.val i _ e;cases Rep.AC.mp r;have hl:i<Z.length:=(Oj.mp e).1;refine⟨.int n,e1,Z,OO B M,E.o,?_⟩;cases q:fa Z with
  |bad=>rw[q]at h;exact h.elim
  |err c=>rw[q]at h;exact PostF.xa h
  |ok t=>
   rw[q,aH]at h;cases t with
   |int m=>
    intro H1 s1 v rv;cases Rep.AC.mp rv;exact⟨n,m,rfl,rfl,h _ _ M (SameO.of s1) ⟨(E.env.same s1).set hl (Rep.GE _),E.mine⟩ λa z=>.inl z⟩
   |_=>exact h.elim
 .exact h.elim
inductive OTail (h:ZH):List Ob->Prop
 |base:OTail h nU
 |own {A:ZE} {c0:Ob} {dd:Option ZE} {cd:ClassData} {sl:Array (Option Ob)} {mA:WF} {tl:List Ob} :
   h.get? A=ZA {cls:=c0,dict:=dd,data:=.cls cd,slots:=sl}->h.Ns cd.ns mA->(∀n∈calmNames,mA n=ZB)->OTail h tl->OTail h (.ref A::tl)
def OTail.tail(T:OTail h tl):OwnTail h nU tl:=by
 induction T with
 |base=>exact .base
 |own hA hN hq _ ih=>exact .own hA hN (hq _ (.head _)) ih
variable{d:Drawn}{dd:Option ZE}{g:Array VM}{k0 y:Option Ob}{mN:WF}{n nm q:Str}{sn:List Str}{tk:Tok}
section
variable {t:Nat}
def G5(hn:n∈calmNames)(T:OTail h tl)(hrest:Xn nU n=pure y)(hq:Q y ⟨h,g,d,t,os⟩):
  ZJ M A (Xn tl n) Q E ⟨h,g,d,t,os⟩:=by
 induction T with
 |base=>rw[hrest];exact Om hq
 |own hA hN hni _ ih=>
  rw[WV];refine N8 (wpAny_classOwn_cls hA hN ?_);rw[hni n hn];exact ih
def LS:mroOf (.type "ValueError")=pure nU:=by rw[mroOf_type];kernel_rfl
variable {N:ZE}{bs:List Ob}{sub:List Ob}
def yu(hn:n∈calmNames)(hC:h.get? C=ZA (PZ nm q C N bs bm hdct sn sub ab col dd k0 k1 k2 k3 k5 newId))(hN:h.Ns N mN)(hmN:∀n∈calmNames,mN n=ZB)(T:OTail h bm)
  (hB:SB (.type "ValueError") n=pure y) (hq:Q y ⟨h,g,d,t,os⟩):ZJ M A (SB (.ref C) n) Q E ⟨h,g,d,t,os⟩:=by
 have hrest:Xn nU n=pure y:=by rw[typeLookup_eq,LS]at hB;exact hB
 rw[typeLookup_eq];refine N8 (wpAny_mroOf_exc hC ?_);rw[WV];refine N8 (wpAny_classOwn_exc hC hN ?_);rw[hmN n hn];exact G5 hn T hrest hq
def Dl:SB (.type "ValueError") "__class__" =pure (ZA (.builtin "object.__class__")):=by rw[Sq,Ra];kernel_rfl
def yv:SB (.type "ValueError") "__getattr__" =pure ZB:=by rw[Sq,Ra];kernel_rfl
def ga_V:Slot "ValueError" "__getattribute__" "BaseException.__getattribute__":=.of (owner:="BaseException") (n:="__getattribute__") (by rw[Sq,Ra];kernel_rfl) (by decide+kernel) (by decide+kernel) (by decide+kernel) (by first|exact .inl (by decide+kernel)|exact .inr (by decide+kernel)) (by rw[isSubtype_type];kernel_rfl)
variable {a:ZE}{o:Obj}{vs:Array Ob}
def GZ(hC:h.get? C=ZA (PZ nm q C N bs bm hdct sn sub ab col dd k0 k1 k2 k3 k5 newId))(T:OTail h bm)
  (hx:h.get? a=ZA o) (hc:o.cls=.ref C) (hq:R (.ok (.ret (.ref C))) ⟨h,g,d,t,os⟩):
  ZL (ZK prog w) A (.call (.builtin "getset_descriptor.__get__") ⟨[.builtin "object.__class__",.ref a,.ref C],[]⟩) R ⟨h,g,d,t,os⟩:=by
 have hT5:(⟨h,g,d,t,os⟩:Oe).TypeIs (.builtin "object.__class__") "getset_descriptor":=SJ;have hcB:(OB C::bm).contains (.type (".".intercalate ("object.__class__".cutAt '.').dropLast))=ZC:=by rw[F.owner_object_class,Qi,T.tail.hasType (b:=ZC) (by decide)];rfl
 refine S3 VA.plain F.entry_gs_get (VA.check _ _ _ _ _ _ _ _ hT5 (F.args_gs_get _ _ _) ?_);repeat (any_goals (first|assumption| (with_reducible refine Pv hx ?_;rw[hc])| (with_reducible refine QY hC ?_;rw[hcB])|wp_step))
 refine⟨Code.quiet_builtin _ (by decide+kernel),QZ F.entry_object_class ?_⟩;repeat (any_goals (first|assumption| (with_reducible refine Pv hx ?_;rw[hc])|wp_step))
def DY{nameV:Ob}{Q:Unit->Oe->Prop}(hC:h.get? C=ZA (PZ nm q C N bs bm hdct sn sub ab col dd k0 k1 k2 k3 k5 newId))(T:OTail h bm)
  (hx:h.get? a=ZA o) (hc:o.cls=.ref C) (hq:Q () ⟨h,g,d,t,os⟩):ZJ M A (WW "BaseException.__getattribute__" ⟨[.ref a,nameV],[]⟩) Q E ⟨h,g,d,t,os⟩:=by
 have hk:builtinKind "BaseException.__getattribute__" =ZA .slot:=by decide+kernel
 have hsplit:splitId "BaseException.__getattribute__" =ZA ("BaseException","__getattribute__"):=by decide+kernel
 have hcB:(OB C::bm).contains (.type "BaseException")=ZC:=by rw[Qi,T.tail.hasType (b:=ZC) (by decide)];rfl
 have ha:=F.args_bexc_ga (.ref a) nameV;simp only[WW,hk,hsplit];refine N8 ?_
 .unfold isInstance;repeat (first| (with_reducible refine Pv hx ?_;rw[hc])| (with_reducible refine QY hC ?_;rw[hcB])|wp_step)
  exact hq
def Bt{Q:Fin->Oe->Prop}(hC:h.get? C=ZA (PZ nm q C N bs bm hdct sn sub ab col dd k0 k1 k2 k3 k5 newId))(hN:h.Ns N mN)
  (hmN:∀n∈calmNames,mN n=ZB) (T:OTail h bm) (hx:h.get? a=ZA o) (hc:o.cls=.ref C) (hd:o.data=.fields vs) (hq:Q (.done (.ret (.ref C))) ⟨h,g,d,t,os⟩):
  ZJ (ZK prog w) A (Builtin.«object.__getattribute__» ⟨[.ref a,.str "__class__" tk],[]⟩) Q E ⟨h,g,d,t,os⟩:=by
 have hT5:(⟨h,g,d,t,os⟩:Oe).TypeIs (.builtin "object.__class__") "getset_descriptor":=SJ;have f5:=SJ;have f6:=VA.lookup;have f7:=F.slot_gs_set.lookup;have hmA:("__class__" : Str)∈calmNames:=.tail _ (.tail _ (.tail _ (.head _)));repeat (any_goals (first|assumption| (with_reducible refine Pv hx ?_;rw[hc])|with_reducible refine yu hmA hC hN hmN T Dl ?_|wp_step))
 refine GZ hC T hx hc ?_;repeat (any_goals (first|assumption|wp_step))
def Ez(hC:h.get? C=ZA (PZ nm q C N bs bm hdct sn sub ab col dd k0 k1 k2 k3 k5 newId))(hN:h.Ns N mN)
  (hmN:∀n∈calmNames,mN n=ZB) (T:OTail h bm) (hx:h.get? a=ZA o) (hc:o.cls=.ref C) (hd:o.data=.fields vs) (hq:R (.ok (.ret (.ref C))) ⟨h,g,d,t,os⟩):
  ZL (ZK prog w) A (.call (.builtin "BaseException.__getattribute__") ⟨[.ref a,.str "__class__" tk],[]⟩) R ⟨h,g,d,t,os⟩:=
 S3 ga_V.plain F.entry_bexc_ga (DY hC T hx hc (Bt hC hN hmN T hx hc hd hq))
def Kt{fill expr:Bool}{Q:WP}(hC:h.get? C=ZA (PZ nm q C N bs bm hdct sn sub ab col dd k0 k1 k2 k3 k5 newId))(hN:h.Ns N mN)
  (hmN:∀n∈calmNames,mN n=ZB) (T:OTail h bm) (hx:h.get? a=ZA o) (hc:o.cls=.ref C) (hd:o.data=.fields vs) (hq:Q (.ref C) ⟨h,g,d,t,os⟩):
  ZJ (ZK prog w) A (getAttrBy (.ref a) (.str "__class__" tk) fill expr) Q E ⟨h,g,d,t,os⟩:=by
 have f3:=ga_V.bind (.ref a);have hx0:(expr&&onTheHeap (RO "BaseException.__getattribute__"))=ZD:=by cases expr <;> rfl
 have hx2:(RO "BaseException.__getattribute__" == RO "object.__getattribute__")=ZD:=by decide+kernel
 have hx1:(onTheHeap (OB C)&&RO "BaseException.__getattribute__" == RO "object.__getattribute__")=ZD:=by rw[hx2];rfl
 have hm1:("__getattribute__" : Str)∈calmNames:=.tail _ (.head _);have hm2:("__getattr__" : Str)∈calmNames:=.tail _ (.tail _ (.head _));repeat (any_goals (first|assumption| (with_reducible refine Pv hx ?_;rw[hc])|with_reducible refine yu hm1 hC hN hmN T ga_V.lookup ?_|with_reducible refine yu hm2 hC hN hmN T yv ?_|wp_step))
 refine Ez hC hN hmN T hx hc hd ?_;repeat (any_goals (first|assumption|wp_step))
def EA(hC:h.get? C=ZA (PZ nm q C N bs bm hdct sn sub ab col dd k0 k1 k2 k3 k5 newId))(hN:h.Ns N mN)
  (hmN:∀n∈calmNames,mN n=ZB) (T:OTail h bm) (hx:h.get? a=ZA o) (hc:o.cls=.ref C) (hd:o.data=.fields vs) (hq:Q (ZA (.ref C)) ⟨h,g,d,t+1,os⟩):
  ZJ (ZK prog w) A (getAttr? (.ref a) "__class__") Q E ⟨h,g,d,t,os⟩:=by
 unfold getAttr? getAttrBy?;repeat (any_goals (first|assumption|with_reducible apply Kt hC hN hmN T hx hc hd|wp_step))
end
variable{D:ZE}{Q:Fin->Oe->Prop}
section
variable {t:Nat}
variable {N:ZE}{bs:List Ob}{sub:List Ob}
variable {a:ZE}{o:Obj}{vs:Array Ob}
def AS{dep:Int}(hx:h.get? a=ZA o)(hc:o.cls=.ref C)(hq:Q (.done (.ret (.bool ZC))) ⟨h,g,d,t,os⟩):
  ZJ (ZK prog w) A (Builtin.«isinstance.nested» ⟨[.ref a,.ref C,.int dep tk],[]⟩) Q E ⟨h,g,d,t,os⟩:=by
 have e:(OB C == OB C)=ZC:=by simp
 repeat (any_goals (first|assumption| (with_reducible refine Pv hx ?_;rw[hc])|wp_step))
def JF{dep:Int}(hC:h.get? C=ZA (PZ nm q C N bs bm hdct sn sub ab col dd k0 k1 k2 k3 k5 newId))(T:OTail h bm)(hx:h.get? a=ZA o)(hc:o.cls=.ref C)
  (hq:Q (.done (.ret (.bool ZC))) ⟨h,g,d,t,os⟩):ZJ (ZK prog w) A (Builtin.«isinstance.nested» ⟨[.ref a,.type "ValueError",.int dep tk],[]⟩) Q E ⟨h,g,d,t,os⟩:=by
 have e:(OB C == Ry "ValueError")=ZD:=rfl;have hty:typeOf (.type "ValueError")=pure (.type "type"):=by kernel_rfl
 have hcB:(OB C::bm).contains (.type "ValueError")=ZC:=by rw[Qi,T.tail.hasType (b:=ZC) (by decide)];rfl
 repeat (any_goals (first|assumption| (with_reducible refine Pv hx ?_;rw[hc])| (with_reducible refine QY hC ?_;rw[hcB])|wp_step))
def C9{oD:Obj}{cD:ClassData}{dep:Int}(hC:h.get? C=ZA (PZ nm q C N bs bm hdct sn sub ab col dd k0 k1 k2 k3 k5 newId))(hN:h.Ns N mN)(hmN:∀n∈calmNames,mN n=ZB)(T:OTail h bm)
  (hx:h.get? a=ZA o) (hc:o.cls=.ref C) (hd:o.data=.fields vs) (hD:h.get? D=ZA oD) (hDt:oD.cls=.type "type") (hDd:oD.data=.cls cD) (hne:(OB C == OB D)=ZD) (hnb:(OB C::bm).contains (.ref D)=ZD)
  (hq:Q (.done (.ret (.bool ZD))) ⟨h,g,d,t+1,os⟩):ZJ (ZK prog w) A (Builtin.«isinstance.nested» ⟨[.ref a,.ref D,.int dep tk],[]⟩) Q E ⟨h,g,d,t,os⟩:=by
 repeat (any_goals (first|assumption| (with_reducible refine Pv hx ?_;rw[hc])| (with_reducible refine Pv hD ?_;rw[hDt])| (with_reducible refine Pv hD ?_;rw[hDd])| (with_reducible refine Pv hC ?_)| (with_reducible refine QY hC ?_;rw[hnb])|with_reducible refine EA hC hN hmN T hx hc hd ?_|wp_step))
end
structure OX (K:N7)(C:ZE)(bm:List Ob):Prop where
 at_:∀h:ZH,K.In h->∃nm q N bs hdct sn sub ab col dd k0 k1 k2 k3 k5 mN,h.get? C=ZA (PZ nm q C N bs bm hdct sn sub ab col dd k0 k1 k2 k3 k5 "ValueError.__new__")/\h.Ns N mN/\(∀n∈calmNames,mN n=ZB)/\OTail h bm
def OX.own(O:OX K C bm):OwnExc K C bm:=⟨λh k=>by obtain⟨nm,q,N,bs,hdct,sn,sub,ab,col,dd,k0,k1,k2,k3,k5,mN,h1,h2,h3,h4⟩:=O.at_ h k;exact⟨nm,q,N,bs,hdct,sn,sub,ab,col,dd,k0,k1,k2,k3,k5,mN,h1,h2,h3 _ (.head _),h4.tail⟩⟩
variable{Q:VK}{oe:Obj}
section
variable {ev:Array Ob}{bmD:List Ob}
def tIs(e:ZE)(b:Bool):TE:=λσ H Q=>σ[0]?=ZA (ZA (.ref e))/\Q (.bl b) H
def DN(hp:(e,oe)∈X.pn)(hc:oe.cls=.ref C)(hd:oe.data=.fields ev)(OC:OX X.K C bm)(OD:OX X.K D bmD)(b:Bool)(hb:(decide (C=D))=b)(hnb:C≠D->bm.contains (.ref D)=ZD)
  (I:Inv X kw σ H s) (q:Q (.bl b) H):ZJ (ZK X.prog X.w) X.A (call (.builtin "isinstance") [.ref e,.ref D]) (EP X kw σ Q) X.xe s:=by
 have hx:s.heap.get? e=ZA oe:=(I.pin (e,oe) (O9 _ hp)).1;obtain⟨nm,qq,N,bs,hdct,sn,sub,ab,col,dd,k0,k1,k2,k3,k5,mN,hC,hN,hmN,T⟩:=OC.at_ s.heap I.kIn;obtain⟨nm',qq',N',bs',hdct',sn',sub',ab',col',dd',k0',k1',k2',k3',k5',mN',hD,_⟩:=OD.at_ s.heap I.kIn;obtain⟨h,g,d,t,os⟩:=s;refine VZ ?_ (by intro z;cases z);by_cases z:C=D
 .subst z;have:b=ZC:=by rw[<-hb];simp
  subst this;exact AS hx hc ⟨.bl ZC,H,I,rfl,q⟩
 .have:b=ZD:=by rw[<-hb];simp[z]
  subst this;refine C9 hC hN hmN T hx hc hd hD rfl rfl ?_ ?_ ⟨.bl ZD,H,I.tok _,rfl,q⟩
  .rw[beq_eq_false_iff_ne];exact λy=>z (T5 y)
  .rw[Qi,hnb z,Bool.or_false,beq_eq_false_iff_ne];exact λy=>z (T5 y).symm
def DO(hp:(e,oe)∈X.pn)(hc:oe.cls=.ref C)(OC:OX X.K C bm)
  (I:Inv X kw σ H s) (q:Q (.bl ZC) H):ZJ (ZK X.prog X.w) X.A (call (.builtin "isinstance") [.ref e,.type "ValueError"]) (EP X kw σ Q) X.xe s:=by
 have hx:s.heap.get? e=ZA oe:=(I.pin (e,oe) (O9 _ hp)).1;obtain⟨nm,qq,N,bs,hdct,sn,sub,ab,col,dd,k0,k1,k2,k3,k5,mN,hC,hN,hmN,T⟩:=OC.at_ s.heap I.kIn;obtain⟨h,g,d,t,os⟩:=s;refine VZ ?_ (by intro z;cases z);exact JF hC T hx hc ⟨.bl ZC,H,I,rfl,q⟩
def mQ{en dn:Str}{p2:Pos}(hN:X.N[0]?=ZA en)(hv:uZ X.env.scope en)(hp:(e,oe)∈X.pn)(hc:oe.cls=.ref C)(hd:oe.data=.fields ev)(OC:OX X.K C bm)(OD:OX X.K D bmD)(b:Bool)(hb:(decide (C=D))=b)(hnb:C≠D->bm.contains (.ref D)=ZD)
  (hm:X.mg "isinstance" =ZB) (hmD:X.mg dn=ZA (.ref D)) (hg:Gl X "isinstance":=by rfl) (hgD:Gl X dn:=by rfl) (hde:autoParam ((en == ("__debug__" : Str))=ZD) s_) (hce:autoParam ((en == ("__classdict__" : Str))=ZD) s_) (hdd:autoParam ((dn == ("__debug__" : Str))=ZD) s_)
  (he:Oz [.Name en p1,.Name dn p2] X.env=(ZD,eval (.Name en p1) X.env)::Oz [.Name dn p2] X.env:=by rfl) (hpl:(backTo pos (Oz [.Name dn p2] X.env)).any (·.1)=ZD:=by rfl)
  (hs:Oz [.Name dn p2] X.env=(ZD,eval (.Name dn p2) X.env)::Oz [] X.env:=by rfl):
  PE X (.Call (.Name "isinstance" p) [.Name en p1,.Name dn p2] [] pos) (tIs e b):=by
 intro kw s σ H Q I ⟨hσ,q⟩;refine Pd (fg I hg hm gz ?_ (by decide) (by decide));have hA:PA X [.Name en p1,.Name dn p2] (ie (oX 0) (ie (tC (.ref D)) tj)):=bF (i9 hN hv hde hce) (bF (tX hgD hmD rfl hdd) dQ hs) he;refine QD (cL (hA pos kw s σ H (λvs H'=>vs=[.ref e,.ref D]/\H'=H) I ⟨.ref e,hσ,rfl,rfl⟩) λus s1 ⟨vs,H1,I1,r1,e1,e2⟩=>?_) he hpl;subst e1;obtain⟨u,w',rfl,ru,rw'⟩:=zd r1;cases ru;cases rw';subst e2;exact DN hp hc hd OC OD b hb hnb I1 q
end
def eqB(a b:Bool):MeetsSeq.EqGives (.bool a) (.bool b) (a == b):=λprog w A E s Q h=>(PySem.SeqAt.EqAt.bool_bool a b (A:=A) (s:=s)) prog w E Q h
theorem sW:∀{ks:List Bool}{us:List Ob},Vals (ks.map V.bl) us->us=ks.map Pq
 |[],us,r=>by cases r;rfl
 |k::ks,us,r=>by
  cases r with
  |cons r1 r2=>cases r1;rw[sW r2];rfl
def mf:Ob->Bool
 |.bool b=>b
 |_=>ZD
def FA:V->List V->Hp->VK->Prop:=λx vs H Q=>∃(l:ZE)(ks:List Bool),x=.ref l/\vs=[.bl ZC]/\H l=ZA (.lst (ks.map V.bl))/\Q (.int (ks.countP id:Nat)) H
def AX:MtR X "list.count" FA:=by
 intro kw s σ H x vs v us Q I rx rv h;obtain⟨l,ks,rfl,rfl,hH,q⟩:=h;cases rx;obtain⟨u,rfl,ru⟩:=rv.one;cases ru;obtain⟨z,its,n,r,hl,e⟩:=I.KM hH;have hi:=sW r;subst hi;refine Sf F.slot_list_count ⟨_,e,rfl⟩ F.entry_list_count (F.args_list_count_2 _ _) (MeetsSeq.list_count l (ks.map Pq).toArray n (.bool ZC) mf λy hy=>?_) ⟨e,?_⟩
 .have hy':y∈ks.map Pq:=by simpa using hy
  obtain⟨k,_,rfl⟩:=Os.mp hy';have:=eqB k ZC;cases k <;> exact this
 .have hc:(ks.map Pq).toArray.toList.countP mf=ks.countP id:=by simp only[List.countP_map];rfl
  rw[hc];exact⟨.int _,H,I.tok _,⟨_,rfl⟩,q⟩
def Fy:V->List V->Hp->VK->Prop:=λx vs H Q=>∃(l:ZE)(ks:List Bool)(j:Nat),x=.ref l/\vs=[.bl ZC]/\H l=ZA (.lst (ks.map V.bl))/\ks[j]?=ZA ZC/\(∀m,m<j->ks[m]?=ZA ZD)/\j<=1000/\Q (.int (j:Nat)) H
def AV:MtR X "list.index" Fy:=by
 intro kw s σ H x vs v us Q I rx rv h;obtain⟨l,ks,j,rfl,rfl,hH,hj,hno,hs,q⟩:=h;cases rx;obtain⟨u,rfl,ru⟩:=rv.one;cases ru;obtain⟨z,its,n,r,hl,e⟩:=I.KM hH;have hi:=sW r;subst hi;have hjl:j<ks.length:=(Oj.mp hj).1;refine Sf V8 ⟨_,e,rfl⟩ VB (Vk _ _) (MeetsSeq.list_index l (ks.map Pq).toArray n (.bool ZC) mf (λy hy=>?_) j (by simpa using hjl) (by omega) ?_ ?_) ⟨e,?_⟩
 .have hy':y∈ks.map Pq:=by simpa using hy
  obtain⟨k,_,rfl⟩:=Os.mp hy';have:=eqB k ZC;cases k <;> exact this
 .have:ks[j]=ZC:=by have:=(Oj.mp hj).2;exact this
  simp[this,mf]
 .intro m hm hmj;have hmk:m<ks.length:=by simpa using hm
  have:=(Oj.mp (hno m hmj)).2;simp[this,mf]
 .exact⟨.int _,H,I.tok _,⟨_,rfl⟩,q⟩
noncomputable abbrev MU(P:OI)(w:Py)(K:N7)(mg:WF)(base:ZH)(N:List Str)(qual:Str)(scope:RJ)(f:ZE)(cd:Ob)(A:OW)(outer:List Env)(s:Oe)(H:Hp)(e:ZE)(oe:Obj):Cx:=
 {jl CX0 P w K mg base N qual scope f cd A outer s H E0 with calm:=ZD,pn:=[(e,oe)],xe:=λ_ _=>False}
section
variable {base:ZH}
def yE 
  (S:dj N ps scope) (e0:Env0 P w K mg base A outer s H) (hl:vs.length=ps.length) (r:Vals vs us)
  (x:InCallC s s.heap.objs.size (bindL (envOfC qual scope s.heap.objs.size f cd).kindOf (ps.zip us) λ_=>ZB) (QX (s.heap.objs.size+1) scope.names []) (bindC (envOfC qual scope s.heap.objs.size f cd).kindOf (ps.zip us) λ_=>ZB) s1)
  (he:s.heap.get? e=ZA oe) (hH:H e=ZB) (hf:e∉kG outer) (hc:∀v,oe.data≠ .cell v):
  Inv (MU P w K mg base N qual scope f cd A outer s H e oe) [] (start N vs) H s1:=by
 have e0':Env0 P w K mg base {A with handled:=ZB} outer s H:=⟨e0.frames,e0.mod,e0.bs,e0.bsz,e0.funs,e0.frf,e0.hok,e0.bare,e0.tb⟩;have I:=kF (CX:=CX0) (E:=E0) S (A:={A with handled:=ZB}) rfl e0' hl r x;obtain⟨h1,tk,hs1,hk⟩:=x.done;have ok:=I.ok;refine⟨⟨ok.mod,ok.kind,ok.glob,ok.blt,ok.above,ok.inj,ok.has,ok.cab,(λz=>by cases z),U4 e0.frames,.inr ⟨rfl,rfl⟩,ok.exf,ok.bs,ok.bsz,ok.noex,ok.exfs,ok.funs,ok.frf,ok.tb⟩,I.os,I.bare,I.base,I.loc,I.cell,I.free,I.freeC,λp hp=>?_,I.hok,I.len⟩;have hp':p=(e,oe):=by simpa using hp
 subst hp';refine⟨?_,hH,?_,hf,hc⟩
 .rw[hs1];exact hk e oe he
 .exact O8 (Ov he)
def Ke{args:Args}(Fn:L2.Fun K x qual st f fd)(S:dj N ps (az st))(hlen:vs.length=ps.length)
  (hr:A.depth+3<RY) (e0:Env0 P w K mg base A outer s H) (hb:Vq s fd args (ps.zip us)) (r:Vals vs us) (he:s.heap.get? e=ZA oe) (hH:H e=ZB) (hf:e∉kG outer) (hc:∀v,oe.data≠ .cell v)
  (hbody:∀(cdv:Ob),∃t,PSs (MU P w K mg base N qual (az st) f cdv A outer s H e oe) (cZ st) t/\t {nx:=λ_ _=>False,rt:=Q} (start N vs) H):
  ZL (ZK P w) A (.call (.ref f) args) (CR CX0 outer P w H s Q E0) s:=by
 obtain⟨oc,od,kV,doc,pm,an,cdv,ct,osl,rfl,lk,hcd⟩:=Fn.ex;have KX:K.In s.heap:=e0.mod.kin.keeps λb o e=>(e0.bs b o e).1;have lim:s.heap.NoLimit:=e0.mod.nolimit.keeps λb o e=>(e0.bs b o e).1;have hkind:∀y∈ps.zip us,(az st).names.lookup y.1=ZA .local\/((az st).names.lookup y.1=ZA .cell/\((QX (s.heap.objs.size+1) (az st).names []).lookup y.1).isSome=ZC):=λ⟨n,v⟩ hy=>by
  rcases S.par n (Rj hy).1 with q|q
  .exact .inl q
  .exact .inr ⟨q,Q1 _ _ _ (.inl q)⟩
 refine SS (by omega) (KX _ _ lk) rfl S.co S.gen rfl (Tu KX hcd) (hb _ _ _ _ ?_);refine Q5 S.kind hkind λenv hen s1 x=>?_;subst hen;refine⟨lim.keeps x.toInCall.keep,Wz ?_⟩;obtain⟨t,ht,hq⟩:=hbody cdv;have I:=yE S e0 hlen r x he hH hf hc;refine Qp (ht [] s1 (start N vs) H _ I hq) (λfl s' hs=>?_) λe s' hs=>hs.elim;cases fl with
 |ret u=>
  obtain⟨v,σ',H',J,rv,q⟩:=hs;exact⟨v,H',J.os,J.bare,J.base,J.hok,rv,q⟩
 |next=>obtain⟨_,_,_,q⟩:=hs;exact q.elim
 |brk=>obtain⟨_,_,_,q⟩:=hs;exact q.elim
 |cont=>obtain⟨_,_,_,q⟩:=hs;exact q.elim
end
def LP{base:ZH}{L:ZE}{T:Option ZE}{Q:Unit->Oe->Prop}(hfr:A.frames=ZA (env::outer))(hl:s.heap.FunFrames base (env::outer))(hf:env.frame=ZA L)
  (F:ML s.heap C e T) (h:∀h' T',Hb ((env::outer).filterMap (·.frame)) C e T s.heap h' T'->Q () {s with heap:=h'}):
  ZJ M A (Xm (.ref e) env) (λ_ s'=>ZJ M A (setFlight (.ref e) ZB) Q E s') E s:=by
 generalize hB:Uz s.heap (e::(T.toList++(env::outer).filterMap (·.frame)))=B;have bm:∀b,b∈e::(T.toList++(env::outer).filterMap (·.frame))->B.get? b=ZB:=λb m=>by rw[<-hB];exact SZ _ m
 have hl':s.heap.FunFrames B (env::outer):=iD hl λa ha=>bm a (N9 _ (OL _ ha));have hst:B.StaysIn s.heap:=λb o q=>by rw[<-hB]at q;exact Tt _ q
 have hen:B.get? e=ZB:=bm e Of;have main:∀h',Heap.Left B (env::outer) e (.ref C) s.heap h'->Q () {s with heap:=h'}:=λh' q=>by
  obtain⟨x1,x2,⟨oe,vs,T',oT,ts,he,hc,hd,h1,hnT,hTe,hT,hdT,h3⟩,x4⟩:=q;refine h h' T' ⟨⟨hTe,oe,vs,he,hc,hd,h1,oT,ts,hT,hdT,h3⟩,?_,λb o n1 n2 n3 q=>?_,λb o m q=>?_⟩
  .cases q:s.heap.get? T' with
   |none=>exact .inr rfl
   |some o=>
    left;by_cases z:T'∈e::(T.toList++(env::outer).filterMap (·.frame))
    .rcases Oh.mp z with z|z
     .exact absurd z hTe
     .rcases OS.mp z with z|z
      .cases T with
       |none=>simp at z
       |some t=>simp at z;rw[z]
      .obtain⟨_,o',ho',hnf⟩:=x2.mem z;rw[hT]at ho';cases ho';exact absurd hdT (hnf ts)
    .rw[<-hB,Rn _ q z]at hnT;cases hnT
  .refine x1 b o ?_;rw[<-hB];refine Rn _ q λz=>?_;rcases Oh.mp z with z|z
   .exact n2 z
   .rcases OS.mp z with z|z
    .cases T with
     |none=>simp at z
     |some t=>simp at z;exact n3 (by rw[z])
    .exact n1 z
  .obtain⟨_,o',ho',hnf⟩:=hl.mem m;rw[q]at ho';cases ho';exact x4 b o q hnf
 cases T with
 |none=>
  obtain⟨oe,vs,he,hc,hd,h1⟩:=F;unfold Xm;simp only[hf];refine N8 (Qw he hd h1 ?_);rw[if_neg (by decide)];refine wpAny_newEntry hfr hl' hf he hst hen hd (PY.mp h1).1 λh' x=>main h' ?_;rw[hc]at x;exact x
 |some t=>
  obtain⟨hte,oe,vs,he,hc,hd,h1,oT,ts,hT,hdT,h3⟩:=F;have hnT:B.get? t=ZB:=bm t (N9 _ (O9 _ (by simp)));unfold Xm;simp only[hf];refine N8 (Qw he hd h1 ?_);rw[if_pos (show(OB t != Po)=ZC from by simp)];refine N8 (Qw hT hdT h3 ?_);rw[if_neg (show ¬((Po == rawInt L)=ZC)from by simp[rawInt])];refine N8 (Vd hT hdT (PY.mp h3).1 ?_);have other:∀b,b≠t->(s.heap.update t (VC (·.setIfInBounds 3 Po))).get? b=s.heap.get? b:=λb hb=>Pl _ _ (PN hb);have noRec:∀b o,s.heap.get? b=ZA o->(∀vs,o.data≠ .fields vs)->b≠t:=λb o hb hnf q=>by rw[q,hT]at hb;injection hb with hb;subst hb;exact hnf ts hdT
  refine wpAny_newEntry hfr (hl'.of_keeps λb o hb hnf=>⟨o,(other b (noRec b o hb hnf)).trans hb,rfl⟩) hf ((other e (PN hte)).trans he)
   (λb o hbo=>(other b λq=>by rw[q,hnT]at hbo;cases hbo).trans (hst b o hbo)) hen hd (PY.mp h1).1
   λh' x=>main h' ?_
  obtain⟨x1,x2,x3,x4⟩:=x;rw[hc]at x3;exact⟨x1,x2,x3,λb o hb hnf=>x4 b o ((other b (noRec b o hb hnf)).trans hb) hnf⟩
variable{h':ZH}
def Inv.gone{T':ZE}{T:Option ZE}(I:Inv X kw σ H s)(hst:X.stack=X.env::X.outer)(hfe:X.env.frame=ZA X.env.locals)(hcl:∀x c,X.env.cells.lookup x≠ZA c)(hex:X.ex=[])
  (g:Hb ((X.env::X.outer).filterMap (·.frame)) C e T s.heap h' T') (he:H e=ZB) (heo:X.s₀.heap.get? e=ZB) (hT:∀t,T=ZA t->H t=ZB/\X.s₀.heap.get? t=ZB) (hp:∀p∈X.pn++kw,p.1≠e/\T≠ZA p.1):
  Inv X kw σ H {s with heap:=h'}:=by
 have mem:∀b,b∈(X.env::X.outer).filterMap (·.frame)↔b=X.env.locals\/b∈X.fs:=λb=>by rw[P9,hfe];exact Oh
 have out:∀b o,X.s₀.heap.get? b=ZA o->b≠X.env.locals:=λb o q z=>by have h1:=Ov q;have h2:=I.ok.above;rw[z]at h1;exact absurd (Ot h1 h2) (Pa _)
 have ne:∀b o,X.s₀.heap.get? b=ZA o->b≠e/\T≠ZA b:=λb o q=>⟨λz=>(by subst z;rw[heo]at q;cases q),λz=>(by rw[(hT b z).2]at q;cases q)⟩;have fr:∀b,b∈(X.env::X.outer).filterMap (·.frame)->H b=ZB:=λb z=>I.IR b (by rw[hst];exact z);have keepH:∀b u,H b≠ZB->s.heap.get? b=ZA u->h'.get? b=ZA u:=λb u hb q=>by refine g.keep b u (λz=>hb (fr b z)) (λz=>hb (by rw[z];exact he)) (λz=>hb (hT b z).1) q
 refine⟨I.ok,I.os,I.bare,⟨λb o q n hb hx=>?_,λb o q n hb hx=>?_,I.base.free,λb o q hx=>?_,I.base.tups,I.base.frzs,I.base.tbls⟩,?_,λx c z=>absurd z (hcl x c),I.free,I.freeC,λp hp'=>?_,λa o q=>?_,I.len⟩
 .exact g.keep b o (λz=>((mem b).mp z).elim (out b o q) hb) (ne b o q).1 (ne b o q).2 (I.base.keep b o q n hb hx)
 .obtain⟨sl,q1⟩:=I.base.slot b o q n hb hx;obtain⟨sl',q2⟩:=g.slot b _ ((mem b).mpr (.inr hb)) q1;exact⟨sl',q2⟩
 .obtain⟨o',q1⟩:=I.base.there b o q hx;by_cases z:b∈(X.env::X.outer).filterMap (·.frame)
  .obtain⟨sl,q2⟩:=g.slot b o' z q1;exact⟨_,q2⟩
  .exact⟨o',g.keep b o' z (ne b o q).1 (ne b o q).2 q1⟩
 .obtain⟨m,⟨o,es,ep,ho,hd,r⟩,hl⟩:=I.loc;obtain⟨sl,q2⟩:=g.slot X.env.locals o ((mem _).mpr (.inl rfl)) ho;refine⟨m,⟨_,es,ep,q2,hd,r⟩,λi x v a1 a2 a3=>?_⟩;obtain⟨u,ru,lk⟩:=hl i x v a1 a2 a3;refine⟨u,ru,?_⟩;rcases lk with z|⟨_,c,z,_⟩
  .exact .inl z
  .exact absurd z (hcl x c)
 .obtain⟨b1,b2,b3,b4,b5⟩:=I.pin p hp';exact⟨g.keep p.1 p.2 (λz=>((mem _).mp z).elim b3 b4) (hp p hp').1 (hp p hp').2 b1,b2,b3,b4,b5⟩
 .refine(I.hok a o q).M6 (λb u hb z=>keepH b u ?_ z) (λ_ z=>z) λ_ _ z=>z;rcases hb with rfl|hb
  .rw[q];simp
  .rw[hb];simp
variable{N:ZE}{Q:Bool->Oe->Prop}{dd':Option ZE}{sn':List Str}
section
variable {t:Nat}
variable {bs:List Ob}{sub:List Ob}
variable {nm' q':Str}{N':ZE}{bm':List Ob}{k0' k1' k2' k3' k5':Option Ob}{newId':String}
def AY(hC:h.get? C=ZA (PZ nm q C N bs bm hdct sn sub ab col dd k0 k1 k2 k3 k5 newId))(hD:h.get? D=ZA (PZ nm' q' D N' bs' bm' hdct' sn' sub' ab' col' dd' k0' k1' k2' k3' k5' newId'))
  (he:h.get? e=ZA oe) (hcls:oe.cls=.ref C) (hb:bm'.contains (.type "BaseException")=ZC) (hin:(OB C::bm).contains (.ref D)=ZC) (hq:Q ZC ⟨h,g,d,t,os⟩):ZJ M A (excMatches (.ref e) (.ref D)) Q E ⟨h,g,d,t,os⟩:=by
 have hcB:(OB D::bm').contains (.type "BaseException")=ZC:=by rw[Qi,hb,Wv]
 have f:=tc_notTuple;unfold excMatches;repeat (first| (with_reducible refine Pv he ?_;rw[hcls])|with_reducible refine Pv hD ?_| (with_reducible refine QY hD ?_;rw[hcB])| (with_reducible refine QY hC ?_;rw[hin])|wp_step)
 exact hq
end
noncomputable abbrev yN(X:Cx)(e:ZE)(oe:Obj):Cx:={X with A:=X.A.mark (ZA (.ref e)),calm:=ZD,pn:=(e,oe)::X.pn,xe:=λ_ _=>False}
def zY(I:Inv X kw σ H s)(he:s.heap.get? e=ZA oe)(hH:H e=ZB)(hne:e≠X.env.locals)(hf:e∉X.fs)(hc:∀v,oe.data≠ .cell v):Inv (yN X e oe) kw σ H s:=by
 have ok:=I.ok;refine⟨⟨ok.mod,ok.kind,ok.glob,ok.blt,ok.above,ok.inj,ok.has,ok.cab,(λz=>by cases z),?_,ok.stk,ok.exf,ok.bs,ok.bsz,ok.noex,ok.exfs,ok.funs,ok.frf,ok.tb⟩,I.os,I.bare,I.base,I.loc,I.cell,I.free,I.freeC,λp hp=>?_,I.hok,I.len⟩
 .exact ok.frames
 .rcases Oh.mp (show p∈(e,oe)::(X.pn++kw)from hp)with z|z
  .subst z;exact⟨he,hH,hne,hf,hc⟩
  .exact I.pin p z
def GB(ok:X.Ok)(I:Inv (yN X e oe) kw σ H s):Inv X kw σ H s:=
 ⟨ok,I.os,I.bare,I.base,I.loc,I.cell,I.free,I.freeC,λp hp=>I.pin p (N9 _ hp),I.hok,I.len⟩
def Inv.forget{tk:Nat}{m:WF}(I:Inv X kw σ H s)(hcl:∀x c,X.env.cells.lookup x≠ZA c)(hn:h'.Ns X.env.locals m)(hs:SI X.env.locals s.heap h'):Inv X kw (OK X.N.length ZB) H {s with heap:=h',toks:=tk}:=by
 have out:∀b o,X.s₀.heap.get? b=ZA o->b≠X.env.locals:=λb o q z=>by have h1:=Ov q;have h2:=I.ok.above;rw[z]at h1;exact absurd (Ot h1 h2) (Pa _)
 have kp:∀b o,b≠X.env.locals->s.heap.get? b=ZA o->h'.get? b=ZA o:=λb o n q=>hs.extBut b o n q;refine⟨I.ok,I.os,I.bare,⟨λb o q n hb hx=>kp b o (out b o q) (I.base.keep b o q n hb hx),λb o q n hb hx=>?_,I.base.free,λb o q hx=>?_,I.base.tups,I.base.frzs,I.base.tbls⟩,⟨m,hn,λi x v a1 a2 a3=>?_⟩,λx c z=>absurd z (hcl x c),I.free,I.freeC,λp hp=>?_,λa o q=>?_,by simp⟩
 .obtain⟨sl,q1⟩:=I.base.slot b o q n hb hx;exact⟨sl,kp b _ (out b o q) q1⟩
 .obtain⟨o',q1⟩:=I.base.there b o q hx;exact⟨o',kp b o' (out b o q) q1⟩
 .rw[Rp]at a2;split at a2 <;> cases a2
 .obtain⟨b1,b2,b3,b4,b5⟩:=I.pin p hp;exact⟨kp p.1 p.2 b3 b1,b2,b3,b4,b5⟩
 .have nl:∀b u,H b=ZA u->b≠X.env.locals:=λb u q z=>by rw[z,I.free]at q;cases q
  refine(I.hok a o q).M6 (λb u hb z=>kp b u ?_ z) (λ_ z=>z) λ_ _ z=>z;rcases hb with rfl|hb
  .exact nl _ _ q
  .exact nl _ _ hb
noncomputable def vG(F:Y1)(h:Str->Rs T)(Z:En):Rs Fl:=match F Z with
 |.err c=>match h c with
  |.ok t=>.ok (.rt t)
  |_=>.bad
 |r=>r
def u4(X:Cx)(i:Nat)(suite:List ZF)(CE:ZE)(h:Str->Rs T):Prop:=
 ∀(c:Str)(C:ZE)(t:T),X.mg c=ZA (.ref C)->h c=.ok t->∃bm,OX X.K C bm/\(OB C::bm).contains (.ref CE)=ZC ∧
  ∀(e:ZE)(oe:Obj)(ev:Array Ob),oe.cls=.ref C->oe.data=.fields ev->∀(kw:Uf)(s:Oe)(σ:L2.St)(H:Hp)(O:Ow)(Q:VK),Inv (yN X e oe) kw σ H s->H e=ZB->e∉kG X.stack->σ[i]?=ZA (ZA (.ref e))->(∀p,H p=ZB->¬ O p) ->
   (∀v H',Same H H'->Rep X.K O H' t v->Q v H')->ZJ (ZK X.prog X.w) (yN X e oe).A (execs suite X.env) (SP (yN X e oe) kw {nx:=λ_ _=>False,rt:=Q}) (λ_ _=>False) s
def Inv.NQ(kw:Uf)(I:Inv X kw σ H s):Inv {X with pn:=X.pn++kw} [] σ H s:=
 ⟨⟨I.ok.mod,I.ok.kind,I.ok.glob,I.ok.blt,I.ok.above,I.ok.inj,I.ok.has,I.ok.cab,I.ok.hd,I.ok.frames,I.ok.stk,I.ok.exf,I.ok.bs,I.ok.bsz,I.ok.noex,I.ok.exfs,I.ok.funs,I.ok.frf,I.ok.tb⟩,I.os,I.bare,I.base,I.loc,I.cell,I.free,I.freeC,λp hp=>I.pin p (by rw[PB]at hp;exact hp),I.hok,I.len⟩
def Inv.NV{pins1:Uf}{xe:WP}(I:Inv {X with pn:=X.pn++kw,xe:=xe} pins1 σ H s):Inv X kw σ H s:=
 ⟨⟨I.ok.mod,I.ok.kind,I.ok.glob,I.ok.blt,I.ok.above,I.ok.inj,I.ok.has,I.ok.cab,I.ok.hd,I.ok.frames,I.ok.stk,I.ok.exf,I.ok.bs,I.ok.bsz,I.ok.noex,I.ok.exfs,I.ok.funs,I.ok.frf,I.ok.tb⟩,I.os,I.bare,I.base,I.loc,I.cell,I.free,I.freeC,λp hp=>I.pin p (O9 _ hp),I.hok,I.len⟩
def JM{bmD:List Ob}{P:Xi}(OC:OX K C bm)(OD:OX K D bmD)(k:K.In s.heap)(he:s.heap.get? e=ZA oe)(hc:oe.cls=.ref C)(hi:(OB C::bm).contains (.ref D)=ZC)(q:Q ZC s):ZJ P A (excMatches (.ref e) (.ref D)) Q E s:=by obtain⟨_,_,_,_,_,_,_,_,_,_,_,_,_,_,_,_,hC,_⟩:=OC.at_ _ k;obtain⟨_,_,_,_,_,_,_,_,_,_,_,_,_,_,_,_,hD,_,_,TD⟩:=OD.at_ _ k;exact AY hC hD he hc (TD.tail.hasType (by decide)) hi q
def IK{body suite:List ZF}{b0:ZF}{F:Y1}{h:Str->Rs T}{ce:Str}{CE:ZE}{np hpos:Pos}(hst:X.stack=X.env::X.outer)(hfe:X.env.frame=ZA X.env.locals)(hcl:∀x c,X.env.cells.lookup x≠ZA c)(hex:X.ex=[])
  (hN:X.N.Nodup) (hi:X.N[i]?=ZA n) (hloc:X.env.scope.names.lookup n=ZA .local) (hm:X.mg ce=ZA (.ref CE)) (OE:OX X.K CE bmE)
  (hb:∀pn xe,nu {X with pn:=pn,xe:=xe} body F) (hs:u4 X i (b0::suite) CE h) (hg:Gl X ce:=by rfl) (hd:autoParam ((ce == ("__debug__" : Str))=ZD) s_):
  qQ X (.Try body [.ExceptHandler (ZA (.Name ce np)) (ZA n) (b0::suite) hpos] [] [] pos) (vG F h):=by
 intro kw s σ H D I ⟨Z,B,M,E,hq⟩;refine wpAny_Try_except ?_;unfold vG at hq;cases q:F Z with
 |bad=>rw[q]at hq;exact hq.elim
 |ok fl=>
  rw[q]at hq;refine Qp (hb X.pn (λ_ _=>False) kw s σ H D (I.FB _) ⟨Z,B,M,E,by rw[q];cases fl <;> exact hq⟩) (λf s1 r=>?_) (λe s1 z=>z.elim);cases f with
  |next=>obtain⟨σ7,H7,I7,q7⟩:=r;exact Sm ⟨σ7,H7,I7.FB _,q7⟩
  |ret u=>obtain⟨x7,σ7,H7,I7,r7,q7⟩:=r;exact⟨x7,σ7,H7,I7.FB _,r7,q7⟩
  |brk=>obtain⟨σ7,H7,I7,q7⟩:=r;exact⟨σ7,H7,I7.FB _,q7⟩
  |cont=>obtain⟨σ7,H7,I7,q7⟩:=r;exact⟨σ7,H7,I7.FB _,q7⟩
 |err c=>
  rw[q]at hq;cases q2:h c with
  |bad=>simp only[q2]at hq;exact hq.elim
  |err c'=>simp only[q2]at hq;exact hq.elim
  |ok t=>
   simp only[q2]at hq;have hq':∀v H',SameO M.u H H'->Rep X.K B H' t v->D.rt v H':=hq;refine Qp (hb (X.pn++kw) _ [] s σ H {nx:=λ_ _=>False,rt:=λ_ _=>False,bk:=λ_ _=>False,ct:=λ_ _=>False} ((Tr.Inv.NQ kw I).FB _) ⟨Z,B,M,E,?_⟩) (λfl s' z=>?_) λ_ _ z=>z
   rotate_left
   .cases fl with
    |next=>obtain⟨_,_,_,z⟩:=z;exact z.elim
    |cont=>obtain⟨_,_,_,z⟩:=z;exact z.elim
    |brk=>obtain⟨_,_,_,z⟩:=z;exact z.elim
    |ret v=>obtain⟨_,_,_,_,_,z⟩:=z;exact z.elim
   rw[q];intro pins1 ev s1 w;refine L2.hold λG' gg=>?_;obtain⟨e,T,C,σ1,H1,rfl,hmc,I1,sm,he,heo,fl,hT,hpp⟩:=w;refine gg ?_;clear gg G';have I1:Inv X kw σ1 H1 s1:=Tr.Inv.NV (X:=X) I1;have hpp:∀p∈X.pn++kw,p.1≠e/\T≠ZA p.1:=λp hp=>hpp p (O9 _ hp);have heo:=heo hex;have hT:∀t,T=ZA t->H1 t=ZB/\X.s₀.heap.get? t=ZB:=λt z=>⟨(hT t z).1,(hT t z).2 hex⟩;show ZJ _ _ _ _ _ _;have hfr:X.A.frames=ZA (X.env::X.outer):=by rw[<-hst];exact I1.ok.frames
   have hstk:s1.heap.FunFrames X.base (X.env::X.outer):=by rw[<-hst];exact I1.stack
   refine LP hfr hstk hfe fl λh' T' g=>?_;have I2:=Inv.gone I1 hst hfe hcl hex g he heo hT hpp;have Tn:H1 T'=ZB/\X.s₀.heap.get? T'=ZB/\∀p∈X.pn++kw,p.1≠T':=by
    rcases g.new with z|z
    .exact⟨(hT T' z).1,(hT T' z).2,λp hp y=>(hpp p hp).2 (by rw[z,y])⟩
    .exact⟨pZ I1 z,lx I1 hex z,λp hp y=>by have:=(I1.pin p hp).1;rw[y,z]at this;cases this⟩
   obtain⟨bm,OC,hin,run⟩:=hs c C t hmc q2;refine L2.hold λG' gg=>?_;obtain⟨hTe,oe,ev,hoe,hoc,hod,h1,oT,ts,hoT,hdT,h3⟩:=g.flt;refine gg ?_;clear gg G';have nfr:∀b o vs,h'.get? b=ZA o->o.data=.fields vs->b∉(X.env::X.outer).filterMap (·.frame):=λb o vs hb hd z=>by have:=I2.stack;rw[hst]at this;obtain⟨_,o',ho',hnf⟩:=this.mem z;rw[show h'.get? b=ZA o' from ho']at hb;cases hb;exact hnf vs hd
   have hel:e≠X.env.locals:=λz=>nfr e oe ev hoe hod (by rw[P9,hfe];exact z▸Of);have hef:e∉X.fs:=λz=>nfr e oe ev hoe hod (by rw[P9,hfe];exact N9 _ z);have hcell:∀v,oe.data≠ .cell v:=λv z=>by rw[hod]at z;cases z
   have I3:Inv (yN X e oe) kw σ1 H1 {s1 with heap:=h'}:=zY I2 hoe he hel hef hcell;refine wpAny_handleBy_cons (codeAny_handlers_test (je (X:=yN X e oe) I3 hg hm ?_ hd)) (by intro z;cases z);refine JM OC OE I3.kIn hoe hoc hin (codeAny_handlers_suite_as ?_);refine wpAny_setFlight_none hoe hod h1 hoT hdT (PY.mp h3).1 ?_;generalize hU:h'.update T' (VC (·.setIfInBounds 3 Po))=h2;have kp:∀b,b≠T'->h2.get? b=h'.get? b:=λb hb=>by rw[<-hU];exact Pl _ _ (PN hb)
   have hT2:h2.get? T'=ZA (VC (·.setIfInBounds 3 Po) oT):=by rw[<-hU];exact RF _ hoT (UG (Si hdT _))
   have hoe2:h2.get? e=ZA oe:=(kp e (PN hTe)).trans hoe;have g2:Hb ((X.env::X.outer).filterMap (·.frame)) C e (ZA T') h' h2 T':=⟨⟨hTe,oe,ev,hoe2,hoc,hod,h1,_,_,hT2,Si hdT _,by simp[(PY.mp h3).1]⟩,.inl rfl,λb o _ _ n3 q=>(kp b λz=>n3 (by rw[z])).trans q,λb o m q=>⟨o.slots,(kp b λz=>nfr T' oT ts hoT hdT (z▸m)).trans q⟩⟩;have I4:Inv X kw σ1 H1 {s1 with heap:=h2}:=Inv.gone (s:={s1 with heap:=h'}) I2 hst hfe hcl hex g2 he heo (λt z=>by cases z;exact⟨Tn.1,Tn.2.1⟩) λp hp=>⟨(hpp p hp).1,λz=>Tn.2.2 p hp (OQ z).symm⟩;have I5:Inv (yN X e oe) kw σ1 H1 {s1 with heap:=h2}:=zY I4 hoe2 he hel hef hcell;refine lJ (X:=yN X e oe) (v:=.ref e) I5 hN hi (.inl hloc) rfl (λs3 I6=>?_) (.inr hloc);have hil:i<σ1.length:=by rw[I1.len];exact(Oj.mp hi).1
   refine Qp (run e oe ev hoc hod kw s3 _ H1 B (λv H'=>Same H1 H'/\Rep X.K B H' t v) I6 he (λz=>?_) (by simp[hil]) (λp hp z=>?_) λv H' s' r=>⟨s',r⟩) (λf s4 r=>?_) λ_ _ z=>z.elim
   .rw[hst]at z;exact nfr e oe ev hoe hod z
   .obtain⟨o,ho⟩:=(E.env.trk p (.inl z)).some;have:=sm p o ho (λw=>E.mine p w z);rw[hp]at this;cases this
   .cases f with
    |next=>obtain⟨_,_,_,z⟩:=r;exact z.elim
    |brk=>obtain⟨_,_,_,z⟩:=r;exact z.elim
    |cont=>obtain⟨_,_,_,z⟩:=r;exact z.elim
    |ret u=>
     obtain⟨v,σ',H',I7,rv,s',rt⟩:=r;obtain⟨m,hn,_⟩:=I7.loc;refine wpAny_nameGoes (show X.env.kindOf n=ZA .local from hloc) hn (by rw[I.ok.kind];rfl) λh8 m8 hn8 hs8=>?_;exact⟨v,_,H',Inv.forget (GB I.ok I7) hcl hn8 hs8,rv,hq' v H' (λb o y nn=>s' b o (sm b o y nn)) rt⟩
def Kw:Pc "ValueError" =ZA (.type "ValueError"):=by decide+kernel
def Jp{en:Str}{p2:Pos}(hN:X.N[0]?=ZA en)(hv:uZ X.env.scope en)(hp:(e,oe)∈X.pn)(hc:oe.cls=.ref C)(OC:OX X.K C bm)
  (hm:X.mg "isinstance" =ZB) (hmD:X.mg "ValueError" =ZB) (hg:Gl X "isinstance":=by rfl) (hgD:Gl X "ValueError":=by rfl) (hde:autoParam ((en == ("__debug__" : Str))=ZD) s_) (hce:autoParam ((en == ("__classdict__" : Str))=ZD) s_)
  (he:Oz [.Name en p1,.Name "ValueError" p2] X.env=(ZD,eval (.Name en p1) X.env)::Oz [.Name "ValueError" p2] X.env:=by rfl) (hpl:(backTo pos (Oz [.Name "ValueError" p2] X.env)).any (·.1)=ZD:=by rfl)
  (hs:Oz [.Name "ValueError" p2] X.env=(ZD,eval (.Name "ValueError" p2) X.env)::Oz [] X.env:=by rfl):
  PE X (.Call (.Name "isinstance" p) [.Name en p1,.Name "ValueError" p2] [] pos) (tIs e ZC):=by
 intro kw s σ H Q I ⟨hσ,q⟩;refine Pd (fg I hg hm gz ?_ (by decide) (by decide));have hA:PA X [.Name en p1,.Name "ValueError" p2] (ie (oX 0) (ie (tC (.ty "ValueError")) tj)):=bF (i9 hN hv hde hce) (bF (zB (v:=.ty "ValueError") hgD hmD Kw rfl) dQ hs) he;refine QD (cL (hA pos kw s σ H (λvs H'=>vs=[.ref e,.ty "ValueError"]/\H'=H) I ⟨.ref e,hσ,rfl,rfl⟩) λus s1 ⟨vs,H1,I1,r1,e1,e2⟩=>?_) he hpl;subst e1;obtain⟨u,w',rfl,ru,rw'⟩:=zd r1;cases ru;cases rw';subst e2;exact DO hp hc OC I1 q
def LO{ob:Ob}{oe:Option ZE}{es:Array DictEntry}{n:Nat}{oz:Array (Option Ob)}(r:K.lookup N=ZA ⟨ob,oe,.dict es n,oz⟩)(s:(es.toList.all λe=>B4 e.key)=ZC)
  (u0:SG K N "__init__" =ZA ZB) (u1:SG K N "__getattribute__" =ZA ZB) (u2:SG K N "__getattr__" =ZA ZB) (u3:SG K N "__class__" =ZA ZB):
  ∀h:ZH,K.In h->∃mN,h.Ns N mN/\∀n∈calmNames,mN n=ZB:=λh k=>by
 refine⟨nsFind es,⟨_,es,n,k _ _ r,rfl,λe he=>?_,λ_=>rfl⟩,λx hx=>?_⟩
 .have:=OH.mp s e (by simpa using he);cases q:e.key <;> rw[q]at this <;> first|exact⟨_,_,rfl⟩|cases this
 .have key:∀x,SG K N x=ZA ZB->nsFind es x=ZB:=λx u=>by
   unfold SG at u;rw[r]at u;simp only at u;split at u
   .cases u
   .rename_i he;unfold nsFind findBy;rw[<-Vw,he];rfl
  unfold calmNames at hx;simp only[Oh,Pe,or_false]at hx;rcases hx with rfl|rfl|rfl|rfl
  .exact key _ u0
  .exact key _ u1
  .exact key _ u2
  .exact key _ u3
section
variable {bs:List Ob}{sub:List Ob}
variable {nm' q':Str}{N':ZE}{k0' k1' k2' k3' k5':Option Ob}
def F7(w:K.lookup C=ZA (PZ nm q C N bs nU hdct sn sub ab col dd k0 k1 k2 k3 k5 "ValueError.__new__"))(ns:∀h:ZH,K.In h->∃mN,h.Ns N mN/\∀n∈calmNames,mN n=ZB):OX K C nU:=⟨λh k=>by obtain⟨mN,h1,h2⟩:=ns h k;exact⟨nm,q,N,bs,hdct,sn,sub,ab,col,dd,k0,k1,k2,k3,k5,mN,k _ _ w,h1,h2,.base⟩⟩
def CW(w:K.lookup C=ZA (PZ nm q C N bs (.ref D::nU) hdct sn sub ab col dd k0 k1 k2 k3 k5 "ValueError.__new__"))(ns:∀h:ZH,K.In h->∃mN,h.Ns N mN/\∀n∈calmNames,mN n=ZB)
  (wD:K.lookup D=ZA (PZ nm' q' D N' bs' nU hdct' sn' sub' ab' col' dd' k0' k1' k2' k3' k5' "ValueError.__new__")) (nsD:∀h:ZH,K.In h->∃mN,h.Ns N' mN/\∀n∈calmNames,mN n=ZB):OX K C (.ref D::nU):=⟨λh k=>by
 obtain⟨mN,h1,h2⟩:=ns h k;obtain⟨mD,d1,d2⟩:=nsD h k;exact⟨nm,q,N,bs,hdct,sn,sub,ab,col,dd,k0,k1,k2,k3,k5,mN,k _ _ w,h1,h2,.own (k _ _ wD) d1 d2 .base⟩⟩
end
def K9(h:Room k A):A.depth+3<RY:=by have:=h.dp;omega
def Ce(i j:Int):rng i j=((Oo (j - i).toNat).map λ(k:Nat)=>i+(k:Int)).map T.int:=by unfold rng;rw[ON];rfl
theorem zc:∀{xs:List V}{us:List Ob},xs.length=us.length->(∀(m:Nat)(u:Ob),us[m]?=ZA u->∃x,xs[m]?=ZA x/\RelV x u)->Vals xs us
 |[],[],_,_=>.nil
 |[],_::_,h,_=>by cases h
 |_::_,[],h,_=>by cases h
 |x::xs,u::us,h,k=>by obtain⟨y,e,r⟩:=k 0 u rfl;cases e;exact .cons r (zc (by simpa using h) λm v hv=>k (m+1) v hv)
def zI{Q:VK}{i j:Int}{t t' t2:Tok}{tk0:Nat}(hc:X.A.handled=ZB)(I1:Inv X kw σ H1 s1)(c1 : -(2 ^ 62)<=i)(c2:i<2 ^ 62)(c3 : -(2 ^ 62)<=j)(c4:j<2 ^ 62)(k3:(j - i).toNat<=1000)(fr:∀p,H1 p=ZB->¬ O p)
  (q1:∀H',Same H1 H'->∀v,Rep X.K O H' (.lst (rng i j)) v->Q v H'):
  ZJ (ZK X.prog X.w) X.A (call (.type "list") [.ref s1.heap.objs.size]) (EP X kw σ Q) X.xe {s1 with heap:=s1.heap.push {cls:=.type "range",data:=.fields #[.int i t,.int j t',.int 1 t2]},toks:=tk0}:=by
 refine call_list_range (n:=(j - i).toNat) hc (W3 ..) (small_one c1 c2 c3 c4) (by rw[rangeSize_one];split <;> omega) (by omega) λh' tk acc' c' kp hS hacc=>?_;have I2:Inv X kw σ H1 {s1 with heap:=s1.heap.push {cls:=.type "range",data:=.fields #[.int i t,.int j t',.int 1 t2]},toks:=tk0}:=I1.kept λb o e=>Oi _ e;have hn:H1 (s1.heap.push {cls:=.type "range",data:=.fields #[.int i t,.int j t',.int 1 t2]}).objs.size=ZB:=I2.hok.fresh (Ou _);have hv:Vals (((Oo (j - i).toNat).map λ(k:Nat)=>i+(k:Int)).map V.int) acc'.toList:=by
  refine zc ?_ ?_
  .simp[hacc.1]
  .intro m u hu;have hu':acc'[m]?=ZA u:=by simpa using hu
   obtain⟨tk,rfl⟩:=hacc.2 m u hu';have hm:m<(j - i).toNat:=by have:=(PY.mp hu').1;rw[hacc.1]at this;exact this
   refine⟨.int (i+(m:Int)),by simp[hm],⟨tk,?_⟩⟩;rw[Int.mul_one]
 have I3:Inv X kw σ (upd H1 _ (.lst _)) {s1 with heap:=h',toks:=tk}:=I2.laid (t':=tk) (o:=.lst (((Oo (j - i).toNat).map λ(k:Nat)=>i+(k:Int)).map V.int)) kp (Ou _) ⟨by rw[Oc,Oc,OV,PJ];omega,acc'.toList,c',hv,by simpa using hS⟩;refine⟨.ref _,_,I3,rfl,q1 _ (aQ hn _) _ ?_⟩;rw[Ce];exact gQ hn (fr _ hn) Reps.ints
def Cw{fs:Y0}{p2 pos2:Pos}(hc:X.calm=ZC)(h1:X.mg "list" =ZB)(h2:X.mg "range" =ZB)(ha:qT X (a::es) fs)(g1:Gl X "list":=by rfl)(g2:Gl X "range":=by rfl)
  (hn:bj (a::es)=ZC:=by rfl)
  (he2:Oz [.Call (.Name "range" p2) (a::es) [] pos2] X.env=(ZD,eval (.Call (.Name "range" p2) (a::es) [] pos2) X.env)::Oz [] X.env:=by rfl) (hpl2:(backTo pos (Oz [] X.env)).any (·.1)=ZD:=by rfl):
  c8 X (.Call (.Name "list" p1) [.Call (.Name "range" p2) (a::es) [] pos2] [] pos) (lR fs):=by
 unfold bj at hn;rw[Oa]at hn;intro kw s σ H Q I ⟨Z,O,E,hq⟩;have hz:=eF E hq;have b1:Pc ("list" : Str)=ZA (.type "list"):=by decide+kernel
 have b2:Pc ("range" : Str)=ZA (.type "range"):=by decide+kernel
 refine Pd (fg I g1 h1 b1 ?_ (by decide) (by decide));refine Pb ?_ he2 hpl2;rw[he2];show ZJ _ _ (spliced ((ZD,eval (.Call (.Name "range" p2) (a::es) [] pos2) X.env)::backTo pos (Oz [] X.env))) _ _ s;refine RC ?_;refine Pd (fg I g2 h2 b2 ?_ (by decide) (by decide));refine Pb (cL (ha pos2 kw s σ H _ I hz) λus s1 ⟨vs,H1,I1,r1,ts,rs,sm,E1,q1⟩=>?_) (bo hn.1) (gi hn.2);split at q1
 .rename_i i j;split at q1
  .rename_i hk;rw[Oa,Oa]at hk;obtain⟨⟨k1,k2⟩,k3⟩:=hk;obtain⟨c1,c2⟩:=fE k1;obtain⟨c3,c4⟩:=fE k2;have k3:=of_decide_eq_true k3;obtain⟨v,ws,rfl,r2,q⟩:=Reps.me.mp rs;obtain⟨v2,rfl,r3⟩:=q.one;cases Rep.AC.mp r2;cases Rep.AC.mp r3;cases r1 with
   |cons ra rr=>
    cases rr with
    |cons rb rr=>
     cases rr;obtain⟨t,rfl⟩:=ra;obtain⟨t',rfl⟩:=rb;exact WC (Rh (zI (I.ok.hd hc) I1 c1 c2 c3 c4 k3 (λp=>E1.fresh) q1))
  .exact q1.elim
 .rename_i j;split at q1
  .rename_i hk;rw[Oa]at hk;obtain⟨k2,k3⟩:=hk;obtain⟨c3,c4⟩:=fE k2;have k3:=of_decide_eq_true k3;obtain⟨v,rfl,r2⟩:=rs.one;cases Rep.AC.mp r2;cases r1 with
   |cons ra rr=>
    cases rr;obtain⟨t,rfl⟩:=ra;exact WB (Rh (zI (I.ok.hd hc) I1 (by omega) (by omega) c3 c4 (by rw[Int.sub_zero];exact k3) (λp=>E1.fresh) q1))
  .exact q1.elim
 .exact q1.elim
end Tr
variable{Q:WP}
namespace L2
open PySem PySem.Spec PyProof.Rows
variable{y:V}
section
variable {κ:Type}[DecidableEq κ]
noncomputable def iO(kvs:List (κ×V))(k:κ):Option V:=(kvs.find? λkv=>decide (kv.1=k)).map (·.2)
noncomputable def dP(kvs:List (κ×V))(k:κ)(v:V):List (κ×V):=
 if (kvs.any λkv=>decide (kv.1=k))=ZC then kvs.map (λkv=>if kv.1=k then(kv.1,v)else kv)else kvs++[(k,v)]
def BQ{k:κ}:iO ([]:List (κ×V)) k=ZB:=rfl
def gL{p:κ×V}{r:List (κ×V)}{k:κ}(e:p.1=k):iO (p::r) k=ZA p.2:=by simp[iO,RG,e]
def gM{p:κ×V}{r:List (κ×V)}{k:κ}(e:¬ p.1=k):iO (p::r) k=iO r k:=by simp[iO,RG,e]
theorem vg(k:κ):∀kvs:List (κ×V),(kvs.any λkv=>decide (kv.1=k))=(iO kvs k).isSome
 |[] =>rfl
 |p::r=>by
  rw[Q7];by_cases e:p.1=k
  .simp only[gL e,decide_eq_true e,Ww,Vz]
  .rw[gM e,decide_eq_false e,Ub];exact vg k r
def ip(kvs:List (κ×V))(k:κ)(v:V):(dP kvs k v).length<=kvs.length+1:=by
 unfold dP;split
 .rw[Oc];omega
 .rw[On,Ol,UJ];omega
def RelO.M9{o:Option V}{u:Option Ob}(r:RelO o u):o.isSome=u.isSome:=by
 cases o with
 |none=>cases u with
  |none=>rfl
  |some _=>exact(show False from r).elim
 |some _=>cases u with
  |none=>exact(show False from r).elim
  |some _=>rfl
def RelO.getD{o:Option V}{u:Option Ob}{d:V}{d':Ob}(r:RelO o u)(rd:RelV d d'):RelV (o.getD d) (u.getD d'):=by
 cases o with
 |none=>cases u with
  |none=>exact rd
  |some _=>exact(show False from r).elim
 |some _=>cases u with
  |none=>exact(show False from r).elim
  |some _=>exact r
def KV.val{kvs:List (κ×V)}{vs:List (κ×Ob)}(r:KV kvs vs)(k:κ):RelO (iO kvs k) (valueAt vs k):=by
 unfold KV at r;induction r with
 |nil=>exact RM
 |@cons p q ps qs h t ih=>
  obtain⟨h1,h2⟩:=h;by_cases e:p.1=k
  .have e':q.1=k:=h1.symm.trans e;have b:valueAt (q::qs) k=ZA q.2:=by simp[valueAt,RG,e']
   rw[gL e,b];exact h2
  .have e':¬ q.1=k:=λz=>e (h1.trans z);have b:valueAt (q::qs) k=valueAt qs k:=by simp[valueAt,RG,e']
   rw[gM e,b];exact ih
def KV.any{kvs:List (κ×V)}{vs:List (κ×Ob)}(r:KV kvs vs)(k:κ):(kvs.any λkv=>decide (kv.1=k))=vs.any λkv=>decide (kv.1=k):=by
 unfold KV at r;induction r with
 |nil=>rfl
 |cons h t ih=>rw[Q7,Q7,ih,h.1]
def KV.NK{kvs:List (κ×V)}{vs:List (κ×Ob)}(r:KV kvs vs)(k:κ){u:Ob}(ry:RelV y u):
  KV (kvs.map λkv=>if kv.1=k then(kv.1,y)else kv) (vs.map λkv=>if kv.1=k then(kv.1,u)else kv):=by
 unfold KV at r ⊢;induction r with
 |nil=>exact .nil
 |@cons p q ps qs h t ih=>
  rw[Od,Od];refine .cons ?_ ih;obtain⟨h1,h2⟩:=h;by_cases e:p.1=k
  .rw[if_pos e,if_pos (h1.symm.trans e)];exact⟨h1,ry⟩
  .rw[if_neg e,if_neg (λz=>e (h1.trans z))];exact⟨h1,h2⟩
def KV.put{kvs:List (κ×V)}{vs:List (κ×Ob)}(r:KV kvs vs)(k:κ){u:Ob}(ry:RelV y u):KV (dP kvs k y) (stored vs k u):=by
 unfold dP stored;rw[r.any k];by_cases e:(vs.any λkv=>decide (kv.1=k))=ZC
 .rw[if_pos e,if_pos e];exact r.NK k ry
 .rw[if_neg e,if_neg e];exact Paired.snoc r ⟨rfl,ry⟩
def KV.length{kvs:List (κ×V)}{vs:List (κ×Ob)}(r:KV kvs vs):kvs.length=vs.length:=Ua r
end
def wL{k:Key}{u:Ob}(r:RelV (kV k) u):(du P w).is k u=ZC:=by
 cases k with
 |inl i=>obtain⟨t,e⟩:=(show ∃t,u=Qe i t from r);subst e;exact wu P w i t
 |inr x=>obtain⟨t,e⟩:=(show ∃t,u=QF x t from r);subst e;exact wt P w x t
theorem sg:∀{ks:List Key}{us:List Ob},Vals (ks.map kV) us->ItemsAre (du P w) ks us
 |[],_,r=>by rw[Tz]at r;cases r;exact .nil
 |k::ks,_,r=>by
  rw[Od]at r;cases r with
  |cons h t=>exact .cons (wL h) (sg t)
abbrev KT(H:Hp):List (List Key×V)->List (List Key×ZE×Ob)->Prop:=Ul λp q=>p.1=q.1/\H q.2.1=ZA (.tup (p.1.map kV))/\RelV p.2 q.2.2
variable{H:Hp}{kvs:List (List Key×V)}{xs:List (List Key×ZE×Ob)}
def KT.val(r:KT H kvs xs)(k:List Key):RelO (iO kvs k) ((atKey xs k).map (·.2)):=by
 induction r with
 |nil=>exact RM
 |@cons p q ps qs h t ih=>
  obtain⟨h1,_,h2⟩:=h;by_cases e:p.1=k
  .have e':q.1=k:=h1.symm.trans e;have b:atKey (q::qs) k=ZA q.2:=by simp[atKey,RG,e']
   rw[gL e,b];exact h2
  .have e':¬ q.1=k:=λz=>e (h1.trans z);have b:atKey (q::qs) k=atKey qs k:=by simp[atKey,RG,e']
   rw[gM e,b];exact ih
def KT.NK(r:KT H kvs xs)(k:List Key){u:Ob}(ry:RelV y u):
  KT H (kvs.map λkv=>if kv.1=k then(kv.1,y)else kv) (xs.map (putAt k u)):=by
 induction r with
 |nil=>exact .nil
 |@cons p q ps qs h t ih=>
  rw[Od,Od];refine .cons ?_ ih;obtain⟨h1,h2,h3⟩:=h;unfold putAt;by_cases e:p.1=k
  .rw[if_pos e,if_pos (h1.symm.trans e)];exact⟨h1,h2,ry⟩
  .rw[if_neg e,if_neg (λz=>e (h1.trans z))];exact⟨h1,h2,h3⟩
variable{b:ZE}
def KT.put(r:KT H kvs xs)(k:List Key){u:Ob}(hb:H b=ZA (.tup (k.map kV)))(ry:RelV y u):
  KT H (dP kvs k y) (storedH xs k b u):=by
 have e:(kvs.any λkv=>decide (kv.1=k))=(atKey xs k).isSome:=by rw[vg,(r.val k).M9,V9]
 unfold dP storedH;rw[e];by_cases q:(atKey xs k).isSome=ZC
 .rw[if_pos q,if_pos q];exact r.NK k ry
 .rw[if_neg q,if_neg q];exact Paired.snoc r ⟨rfl,hb,ry⟩
variable{H':Hp}
def KT.keeps(r:KT H kvs xs)(ht:∀b ys,H b=ZA (.tup ys)->H' b=ZA (.tup ys)):KT H' kvs xs:=
 Paired.NC r λ_ _ z=>⟨z.1,ht _ _ z.2.1,z.2.2⟩
variable{a:ZE}
section
variable {h:ZH}
def rQ{u:HO}(ok:HOk P w H h)(e:Rd H a u):ObjOk P w H h a u:=e.ok ok
def sH{kvs:List (Key×V)}(ok:HOk P w H h)(e:Rd H a (.dK kvs)):kvs.length<=ZI/\(a == Qu)=ZD/\∃vs,KV kvs vs/\h.DictOf (du P w) a vs:=
 show ObjOk P w H h a (.dK kvs)from rQ ok e
def Mu{kvs:List (Key×V)}(ok:HOk P w H h)(e:H a=ZA (.dK kvs)):kvs.length<=ZI/\(a == Qu)=ZD/\∃vs,KV kvs vs/\h.DictOf (du P w) a vs:=sH ok (.inl e)
def key_of{ks:List Key}(ok:HOk P w H h)(e:H a=ZA (.tup (ks.map kV))):(TZ (du P w)).is h ks a:=by obtain⟨_,its,r,o,h1,h2,n,h3⟩:=(show ObjOk P w H h a (.tup (ks.map kV))from ok a _ e);exact⟨o,its.toArray,n,h1,h2,h3,by simpa using sg r⟩
def k9(ok:HOk P w H h)(e:Rd H a (.dT kvs)):kvs.length<=ZI/\(a == Qu)=ZD ∧
  ∃xs,KT H kvs xs/\h.DictOfH (TZ (du P w)) a xs:=by
 obtain⟨z,y,xs,r,o,es,ep,h1,h2,h3,h4,h5⟩:=(show ObjOk P w H h a (.dT kvs)from rQ ok e);refine⟨z,y,xs,r,o,es,ep,h1,h2,h3,h4,λx hx=>?_,h5⟩;have all:∀{l:List (List Key×V)}{m:List (List Key×ZE×Ob)},KT H l m->∀x∈m,(TZ (du P w)).is h x.1 x.2.1:=by
  intro l m q;induction q with
  |nil=>intro x hx;exact nomatch hx
  |@cons p q ps qs hq t ih=>
   intro x hx;rcases Oh.mp hx with e|hx
   .subst e;exact key_of ok (by rw[<-hq.1];exact hq.2.1)
   .exact ih x hx
 exact all r x hx
def Es(ok:HOk P w H h)(e:H a=ZA (.dT kvs)):kvs.length<=ZI/\(a == Qu)=ZD ∧
  ∃xs,KT H kvs xs/\h.DictOfH (TZ (du P w)) a xs:=k9 ok (.inl e)
end
def DGet(H:Hp)(a:ZE)(y:V)(r:Option V):Prop:=
 (∃kvs k,Rd H a (.dK kvs)/\y=kV k/\r=iO kvs k)\/∃kvs k b,Rd H a (.dT kvs)/\y=.ref b/\H b=ZA (.tup (k.map kV))/\r=iO kvs k
def DPut(H:Hp)(a:ZE)(y v:V)(H':Hp):Prop:=
 (∃kvs k,H a=ZA (.dK kvs)/\y=kV k/\kvs.length<ZI/\H'=upd H a (.dK (dP kvs k v))) ∨
 ∃kvs k b,H a=ZA (.dT kvs)/\y=.ref b/\H b=ZA (.tup (k.map kV))/\kvs.length<ZI/\H'=upd H a (.dT (dP kvs k v))
variable{k:List Key}
def DGet.t(e:H a=ZA (.dT kvs))(eb:H b=ZA (.tup (k.map kV))):DGet H a (.ref b) (iO kvs k):=.inr ⟨kvs,k,b,.inl e,rfl,eb,rfl⟩
def DPut.t{v:V}(e:H a=ZA (.dT kvs))(eb:H b=ZA (.tup (k.map kV)))(hl:kvs.length<ZI):
  DPut H a (.ref b) v (upd H a (.dT (dP kvs k v))):=.inr ⟨kvs,k,b,e,rfl,eb,hl,rfl⟩
variable{X:Cx}{h':ZH}{kw:Uf}{σ:St}
section
variable {v:V}{u r:Ob}{o:Option V}
def Inv.big(I:Inv X kw σ H s):Qu<s.heap.objs.size:=by have h:OM<s.heap.objs.size:=(I.mod.glob.keeps I.bk).lt;exact UD (by decide) h
def Bp(hu:A.units+1<cLine)(I:Inv X kw σ H s)(g:DGet H a y (ZA v))(ry:RelV y u)(h:∀w' s',Inv X kw σ H s'->RelV v w'->Q w' s'):
  ZJ (ZK X.prog X.w) A (getItem (.ref a) u) Q E s:=by
 rcases g with⟨kvs,k,e,ey,l⟩|⟨kvs,k,b,e,ey,eb,l⟩
 .subst ey;obtain⟨z,hd,vs,rel,dd⟩:=sH I.hok e;obtain⟨w',hw,rw'⟩:=RelO.some_of (v:=v) (o:=valueAt vs k) (by rw[l];exact rel.val k);exact wpAny_getItem_of (wL ry) dd.mapOf hw (h w' _ (I.tok _) rw')
 .subst ey;cases (show u=OB b from ry);obtain⟨z,hd,xs,rel,dd⟩:=k9 I.hok e;obtain⟨w',hw,rw'⟩:=RelO.some_of (v:=v) (o:=(atKey xs k).map (·.2)) (by rw[l];exact rel.val k);obtain⟨p,hp,hp2⟩:=Qr.mp hw;refine wpAny_getItem_heap (QK hu) (key_of I.hok eb) dd hp ?_;rw[hp2];exact h w' _ (I.tok _) rw'
def d_in(hu:A.units+1<cLine)(I:Inv X kw σ H s)(g:DGet H a y o)(ry:RelV y u)(h:∀s',Inv X kw σ H s'->Q (.bool o.isSome) s'):
  ZJ (ZK X.prog X.w) A (Pp .In u (.ref a)) Q E s:=by
 rcases g with⟨kvs,k,e,ey,l⟩|⟨kvs,k,b,e,ey,eb,l⟩
 .subst ey;obtain⟨z,hd,vs,rel,dd⟩:=sH I.hok e;refine wpAny_in_of (wL ry) hd dd.mapOf ?_;rw[<-(rel.val k).M9,<-l];exact h _ (I.tok _)
 .subst ey;cases (show u=OB b from ry);obtain⟨z,hd,xs,rel,dd⟩:=k9 I.hok e;refine wpAny_in_heap (QK hu) (key_of I.hok eb) hd dd ?_;have q:=(rel.val k).M9;rw[V9]at q;rw[<-q,<-l];exact h _ (I.tok _)
def uP{ob:HO}(I:Inv X kw σ H s)(mu:MH (H a))(hs:SI a s.heap h')(he:∃q,h'.get? a=ZA q)(new:ObjOk X.prog X.w (upd H a ob) h' a ob):
  Inv X kw σ (upd H a ob) {s with heap:=h',toks:=t'}:=
 I.write (x:=a) (e:=a) mu (.inl rfl) (λb q hb z=>(hs.2 b hb).trans z) he new
def Kp{kvs:List (Key×V)}{vs:List (Key×Ob)}(z:kvs.length<=ZI)(hd:(a == Qu)=ZD)(rel:KV kvs vs)(dd:h'.DictOf (du P w) a vs):
  ObjOk P w H' h' a (.dK kvs):=⟨z,hd,vs,rel,dd⟩
def Bo{Q:Unit->Oe->Prop}(hu:A.units+1<cLine)(I:Inv X kw σ H s)(g:DPut H a y v H')(ry:RelV y u)(rv:RelV v r)(h:∀s',Inv X kw σ H' s'->Q () s'):
  ZJ (ZK X.prog X.w) A (setItem (.ref a) u r) Q E s:=by
 rcases g with⟨kvs,k,e,ey,l,eH⟩|⟨kvs,k,b,e,ey,eb,l,eH⟩
 .subst ey eH;obtain⟨z,hd,vs,rel,dd⟩:=Mu I.hok e;have hz:vs.length<=ZI:=by rw[<-rel.length];exact z
  have hl:(dP kvs k v).length<=ZI:=by have:=ip kvs k v;omega
  refine wpAny_setItem_pairs (hsz:=hz) (wL ry) dd λh' dd' hs=>h _ ?_;have he:∃q,h'.get? a=ZA q:=let ⟨q,_,_,hq,_⟩:=dd';⟨q,hq⟩;exact uP I (by rw[e];exact RM) hs he (Kp hl hd (rel.put k rv) dd')
 .subst ey eH;cases (show u=OB b from ry);obtain⟨z,hd,xs,rel,dd⟩:=Es I.hok e;have hz:xs.length<=ZI:=by rw[<-Ua rel];exact z
  have hl:(dP kvs k v).length<=ZI:=by have:=ip kvs k v;omega
  refine wpAny_setItem_heap (hsz:=hz) (QK hu) (key_of I.hok eb) dd λh' dd' hs=>h _ ?_;obtain⟨q,es,ep,hq,h2,h3,h4,_,h5⟩:=dd';refine uP I (by rw[e];exact RM) hs ⟨q,hq⟩ ⟨hl,hd,_,(rel.put k eb rv).keeps λc ys ec=>?_,q,es,ep,hq,h2,h3,h4,h5⟩;rw[aG (lZ ec e (λz=>nomatch z))];exact ec
end
def BC(i:ZG):Prop:=∀ov iv,Vr i ZD ov iv=operate [ov,iv] (getItem ov iv)
variable{pos:Pos}{value:ZG}
def Ff{env:Env}{slice:ZG}{T id:String}
  (hl:SB (.type T) "__getitem__" =pure (ZA (.builtin id))) (hs:BC slice)
  (h:ZJ (ZK prog w) A (eval value env) (λo s₁=>ZJ (ZK prog w) A (eval slice env) (λi s₂=>s₂.TypeIs o T/\ZJ (ZK prog w) A (getItem o i) Q E s₂) E s₁) E s):
  ZJ (ZK prog w) A (eval (.Subscript value slice pos) env) Q E s:=by
 refine UZ (Qp h (λo s₁ h₁=>Qp h₁ (λi s₂ h₂=>?_) λ_ _ x=>x) λ_ _ x=>x);obtain⟨hT,h₂⟩:=h₂;unfold VW;refine N8 ?_;rw[getitemInPython_of_ne hT.not_modules];refine N8 (wpAny_specialOf hT hl ?_);have fin:ZJ (ZK prog w) A (Vr slice ZD o i) (λr s₃=>ZJ (ZK prog w) A (letTemporaryGo value o r >>= λ_=>pure r) Q E s₃) E s₂:=by rw[hs o i];exact wpAny_operating (Qp h₂ (λr s₃ h₃=>N8 (wpAny_letTemporaryGo (Om h₃))) λ_ _ x=>x)
 first
  |exact Om (N8 fin)
  |exact N8 (Om (N8 fin))
  |exact N8 fin
def wZ{o:Option V}(I:Inv X kw σ H s)(g:DGet H a y o):s.TypeIs (.ref a) "dict":=by
 rcases g with⟨kvs,k,e,_,_⟩|⟨kvs,k,b,e,_,_,_⟩
 .obtain⟨_,_,vs,_,dd⟩:=sH I.hok e;exact dd.typeIs
 .obtain⟨_,_,xs,_,dd⟩:=k9 I.hok e;exact dd.typeIs
def K2(td ty:TE):TE:=λσ H Q=>td σ H λx H1=>ty σ H1 λy H2=>∃a v,x=.ref a/\DGet H2 a y (ZA v)/\Q v H2
def K6(td ty tv:TE):TS:=λD σ H=>tv σ H λv H1=>td σ H1 λx H2=>ty σ H2 λy H3=>∃a H4,x=.ref a/\DPut H3 a y v H4/\D.nx σ H4
section
variable {o i e:ZG}{pos' tpos:Pos}{td ty tv:TE}
def zx(hu:X.A.units+1<cLine)(ho:PE X o td)(hi:PE X i ty)(hs:BC i):PE X (.Subscript o i pos) (K2 td ty):=by intro kw s σ H Q I h;refine Ff PySem.F.slot_dict_getitem.lookup hs (cL (ho kw s σ H _ I h) λu s1 ⟨x,H1,I1,rx,q1⟩=>cL (hi kw s1 σ H1 _ I1 q1) λiv s2 hh_=>?_);obtain⟨y,H2,I2,ry,a,v,ex,g,q2⟩:=hh_;subst ex;obtain rfl:u=OB a:=rx;exact⟨wZ I2 g,Bp hu I2 g ry λw' s3 I3 rw'=>⟨v,H2,I3,rw',q2⟩⟩
def zq(hu:X.A.units+1<cLine)(ho:PE X o td)(hi:PE X i ty)(hv:PE X value tv)(hs:P7 value (ZA (.Subscript o i pos')) pos.line X.env=pure ZD):
  PS X (.Assign [.Subscript o i pos'] value pos) (K6 td ty tv):=by
 intro kw s σ H D I h;refine wpAny_Assign_Subscript (cL (hv kw s σ H _ I h) λr s1 ⟨v,H1,I1,rv,q1⟩=>cL (ho kw s1 σ H1 _ I1 q1) λu s2 ⟨x,H2,I2,rx,q2⟩=>cL (hi kw s2 σ H2 _ I2 q2) λiv s3 ⟨y,H3,I3,ry,a,H4,ex,g,q3⟩=>?_) hs;subst ex;obtain rfl:u=OB a:=rx;exact Bo hu I3 g ry rv λs4 I4=>⟨σ,H4,I4,q3⟩
end
def Et(h:ZH)(hb:Qu<h.objs.size):ObjOk P w H (h.push {cls:=.type "dict",data:=.dict #[]}) h.objs.size (.dT []):=
 ⟨Pk _,beq_eq_false_iff_ne.mpr (PN (O8 hb)),[],.nil,_,#[],0,OA _ rfl,⟨rfl,rfl,rfl⟩,rfl,rfl,Re⟩
structure M1 (X:Cx)(o:ZG)(m:Str)(apos:Pos)(e:ZG)(cpos:Pos):Prop where
 base:QB o m X.env (eval o X.env)=eval o X.env
 few:((backTo cpos (Oz [e] X.env)).all (λx=>!x.1)&&(VS cpos (Tg [] X.env)).all (λx=>x.1.isSome)
  &&decide (([e]:List ZG).length+([]:List Wm).length+(if ([]:List Wm).isEmpty then 0 else 1)<30))=ZC
 line:(apos.endLine == cpos.line)=ZC
 trees:backTo cpos (Oz [e] X.env)=[(ZD,eval e X.env)]
structure M2 (X:Cx)(o:ZG)(m:Str)(apos:Pos)(e f:ZG)(cpos:Pos):Prop where
 base:QB o m X.env (eval o X.env)=eval o X.env
 few:((backTo cpos (Oz [e,f] X.env)).all (λx=>!x.1)&&(VS cpos (Tg [] X.env)).all (λx=>x.1.isSome)
  &&decide (([e,f]:List ZG).length+([]:List Wm).length+(if ([]:List Wm).isEmpty then 0 else 1)<30))=ZC
 line:(apos.endLine == cpos.line)=ZC
 trees:backTo cpos (Oz [e,f] X.env)=[(ZD,eval e X.env),(ZD,eval f X.env)]
def IsD(H:Hp)(a:ZE):Prop:=(∃kvs,Rd H a (.dK kvs))\/∃kvs,Rd H a (.dT kvs)
def J6(I:Inv X kw σ H s)(d:IsD H a):
  s.TypeIs (.ref a) "dict"/\(∀b,OB a=.ref b->∃ob,s.heap.get? b=ZA ob/\ob.dict=ZB)/\(a == Qu)=ZD:=by
 rcases d with⟨kvs,e⟩|⟨kvs,e⟩
 .obtain⟨_,hd,vs,_,dd⟩:=sH I.hok e;refine⟨dd.typeIs,λb q=>?_,hd⟩;cases q;obtain⟨ob,_,_,h1,h2,_⟩:=dd;exact⟨ob,h1,h2.2.1⟩
 .obtain⟨_,hd,xs,_,dd⟩:=k9 I.hok e;refine⟨dd.typeIs,λb q=>?_,hd⟩;cases q;obtain⟨ob,_,_,h1,h2,_⟩:=dd;exact⟨ob,h1,h2.2.1⟩
section
variable {d:V}{u r:Ob}{o:Option V}
def Kr(hu:A.units+1<cLine)(I:Inv X kw σ H s)(g:DGet H a y o)(ry:RelV y u)(h:∀w' s',Inv X kw σ H s'->RelV (o.getD .non) w'->Q w' s'):
  ZJ (ZK X.prog X.w) A (call (.builtin "dict.get") [.ref a,u]) Q E s:=by
 rcases g with⟨kvs,k,e,ey,l⟩|⟨kvs,k,b,e,ey,eb,l⟩
 .subst ey;obtain⟨z,hd,vs,rel,dd⟩:=sH I.hok e;refine call_meetsIn SH dd.typeIs Uo (T6 _ _) (meets_dict_get (du X.prog X.w) a (wL ry) hd) ⟨_,dd.mapOf,h _ _ (I.tok _) ?_⟩;rw[l];exact(rel.val k).getD rfl
 .subst ey;cases (show u=OB b from ry);obtain⟨z,hd,xs,rel,dd⟩:=k9 I.hok e;refine call_meetsIn SH dd.typeIs Uo (T6 _ _) (meetsH_dict_get (TZ (du X.prog X.w)) a b hd) ⟨QK hu,k,xs,key_of I.hok eb,dd,h _ _ (I.tok _) ?_⟩;rw[l];exact(rel.val k).getD rfl
end
def Io(td ty:TE):TE:=λσ H Q=>td σ H λx H1=>∃a,x=.ref a/\IsD H1 a/\ty σ H1 λy H2=>∃o,DGet H2 a y o/\Q (o.getD .non) H2
section
variable {o e f:ZG}{apos cpos:Pos}{td ty tx:TE}
def CS(hu:X.A.units+1<cLine)(ho:PE X o td)(he:PE X e ty)(m:M1 X o "get" apos e cpos):PE X (.Call (.Attribute o "get" apos) [e] [] cpos) (Io td ty):=by intro kw s σ H Q I h;refine wpAny_Call_method m.base m.few m.line PySem.F.plainAttrs_dict SH PySem.F.type_dict_get (cL (ho kw s σ H _ I h) λu s1 hh_=>?_);obtain⟨x,H1,I1,rx,a,ex,d,q1⟩:=hh_;subst ex;obtain rfl:u=OB a:=rx;obtain⟨t1,t2,_⟩:=J6 I1 d;refine⟨t1,t2,?_⟩;rw[m.trees];refine Su rfl (RV (RC (cL (he kw s1 σ H1 _ I1 q1) λiv s2 ⟨y,H2,I2,ry,ov,g,q2⟩=>Rh ?_)));exact Kr hu I2 g ry λw' s3 I3 rw'=>⟨_,H2,I3,rw',q2⟩
end
end L2
namespace Tr
open PySem PySem.Spec PyProof.Rows L2
variable{H:Hp}{a:ZE}{k:List Key}{kvs:List (List Key×V)}
def DGet.NM{b:ZE}(e:Rd H a (.dT kvs))(eb:H b=ZA (.tup (k.map kV))):DGet H a (.ref b) (iO kvs k):=.inr ⟨kvs,k,b,e,rfl,eb,rfl⟩
def mi{k:Nat}(h:Room k A):A.units+1<cLine:=by have:=h.un;omega
variable{O:Ow}
theorem qt:∀{l:List T}{vs:List V}{k:List Key},qu l=ZA k->Reps K O H l vs->vs=k.map kV
 |[],vs,k,h,r=>by cases Reps.Da.mp r;cases h;rfl
 |t::l,vs,k,h,r=>by
  obtain⟨v,ws,rfl,p,q⟩:=Reps.me.mp r;unfold qu at h;cases e1:HG t with
  |none=>rw[e1]at h;cases h
  |some a=>
   cases e2:qu l with
   |none=>rw[e1,e2]at h;cases h
   |some b=>
    rw[e1,e2]at h;cases h;rw[qt e2 q,Od];congr 1;cases t with
    |int i=>cases e1;exact Rep.AC.mp p
    |str x=>cases e1;exact Rep.GT.mp p
    |_=>cases e1
variable{v:V}
def iq{y:T}(h:keyOf y=ZA k)(r:Rep K O H y v):∃b,v=.ref b/\H b=ZA (.tup (k.map kV)):=by
 cases y with
 |tup l=>
  obtain⟨a,vs,e1,_,e3,e4⟩:=Rep.Fk.mp r;rw[qt h e4]at e3;exact⟨a,e1,e3⟩
 |_=>cases h
theorem mr:∀{ks ts:List T}{kvs:List (List Key×V)},ks.map keyOf=kvs.map (λp=>ZA p.1)->Reps K O H ts (kvs.map (·.2))->match lD ks ts k with
  |some t=>∃v,iO kvs k=ZA v/\Rep K O H t v
  |none=>iO kvs k=ZB
 |[],ts,kvs,h,r=>by
  cases kvs with
  |nil=>unfold lD;exact BQ
  |cons _ _=>cases h
 |k'::ks,ts,kvs,h,r=>by
  cases kvs with
  |nil=>cases h
  |cons p kvs=>
   rw[Od,Od]at h;injection h with h1 h2;rw[Od]at r;cases ts with
   |nil=>have:=Reps.Da.mp r;cases this
   |cons t ts=>
    obtain⟨v,ws,e,q1,q2⟩:=Reps.me.mp r;injection e with e1 e2;subst e1 e2;unfold lD;by_cases hk:keyOf k'=ZA k
    .rw[if_pos hk];rw[h1]at hk;injection hk with hk;exact⟨_,gL hk,q1⟩
    .rw[if_neg hk];have hk2:¬ p.1=k:=λz=>hk (by rw[h1,z]);rw[gM hk2];exact mr h2 q2
def tR [DecidableEq κ]{k:κ}{p:κ×V}{r:List (κ×V)}(h:¬ p.1=k):dP (p::r) k v=p::dP r k v:=by
 unfold dP;rw[Q7,decide_eq_false h,Ub];by_cases q:(r.any λkv=>decide (kv.1=k))=ZC
 .rw[if_pos q,if_pos q,Od,if_neg h]
 .rw[if_neg q,if_neg q];rfl
def tS [DecidableEq κ]{k:κ}{p:κ×V}{r:List (κ×V)}(h:p.1=k)(hn:∀q∈r,q.1≠k):dP (p::r) k v=(p.1,v)::r:=by
 unfold dP;rw[Q7,decide_eq_true h,Ww,if_pos rfl,Od,if_pos h];congr 1;conv=>rhs;rw[<-RH r]
 exact OP λq hq=>if_neg (hn q hq)
theorem mq{kT vT:T}(hk:keyOf kT=ZA k)(hv:Rep K O H vT v):∀{ks ts:List T}{kvs:List (List Key×V)},ks.map keyOf=kvs.map (λp=>ZA p.1)->Reps K O H ts (kvs.map (·.2))->(kvs.map (·.1)).Nodup ->
  (hW kT vT ks ts).1.map keyOf=(dP kvs k v).map (λp=>ZA p.1)/\Reps K O H (hW kT vT ks ts).2 ((dP kvs k v).map (·.2))
 |[],ts,kvs,h,r,_=>by
  cases kvs with
  |nil=>
   unfold hW;refine⟨?_,Reps.Gc hv Reps.GM⟩;simp[dP,hk]
  |cons _ _=>cases h
 |k'::ks,ts,kvs,h,r,hn=>by
  cases kvs with
  |nil=>cases h
  |cons p kvs=>
   rw[Od,Od]at h;injection h with h1 h2;rw[Od]at r;rw[Od]at hn;obtain⟨n1,n2⟩:=O0.mp hn;cases ts with
   |nil=>have:=Reps.Da.mp r;cases this
   |cons t ts=>
    obtain⟨v',ws,e,q1,q2⟩:=Reps.me.mp r;injection e with e1 e2;subst e1 e2;unfold hW;by_cases hz:keyOf k'=keyOf kT
    .rw[if_pos hz];have hp:p.1=k:=by rw[hz,hk]at h1;injection h1 with h1;exact h1.symm
     rw[tS hp λq hq z=>n1 (by rw[hp,<-z];exact List.mem_map_of_mem hq)];exact⟨by rw[Od,Od,h1,h2],Reps.Gc hv q2⟩
    .rw[if_neg hz];have hp:¬ p.1=k:=λz=>hz (by rw[h1,z,hk]);obtain⟨a1,a2⟩:=mq hk hv h2 q2 n2;rw[tR hp];exact⟨by rw[Od,Od,h1,a1],Reps.Gc q1 a2⟩
def Ha{xs:List (List Key×ZE×Ob)}(rel:KT H kvs xs):kvs.map (·.1)=xs.map (·.1):=by
 induction rel with
 |nil=>rfl
 |cons h t ih=>rw[Od,Od,ih,h.1]
variable{X:Cx}
def w6{kw:Uf}{σ:L2.St}(I:Inv X kw σ H s)(e:H a=ZA (.dT kvs)):(kvs.map (·.1)).Nodup/\kvs.length<=ZI:=by obtain⟨z,_,xs,rel,_,_,_,_,_,_,_,_,hn⟩:=Es I.hok e;rw[Ha rel];exact⟨hn,z⟩
variable{a b:ZG}{fa fb:Y2}{pos:Pos}
def Lw(hu:X.A.units+1<cLine)(ha:c8 X a fa)(hb:c8 X b fb)(hs:autoParam (BC b) w_):c8 X (.Subscript a b pos) (o2 bP fa fb):=by
 refine PE.imp (zx hu ha hb hs) λσ H Q ⟨Z,O,E,hq⟩=>?_;obtain⟨Z1,O1,E1,h1⟩:=br E hq;refine⟨Z1,O1,E1,Post.mono h1 λt H1 s1 q v r=>?_⟩;obtain⟨t',r',s',E',q'⟩:=q v r;obtain⟨Z2,O2,E2,h2⟩:=br (f:=fb) E' q';refine⟨Z2,O2,E2,Post.mono h2 λt2 H2 s2 q2 v2 r2=>?_⟩;obtain⟨t2',r2',s2',E2',q2'⟩:=q2 v2 r2;have r'':=r'.same s2';unfold bP at q2';split at q2'
 .rename_i ks vs k hk;split at q2'
  .rename_i x hx;obtain⟨a,kvs,e1,e2,e3,e4,e5⟩:=Rep.FS.mp r'';obtain⟨b,f1,f2⟩:=iq hk r2';have g:=mr (k:=k) e4 e5;rw[hx]at g;obtain⟨w,g1,g2⟩:=g;exact⟨a,w,e1,by rw[f1,<-g1];exact DGet.NM e3 f2,q2' H2 (Same.refl H2) w g2⟩
  .exact q2'.elim
 .exact q2'.elim
open PySem.SeqAt
variable{x:T}
def Df(rx:ReV s x ux)(hu:A.units+60<cLine){l:List T}(hd:x.dep<=60\/deps l<=60)(r:ReVs s l us):
  ∃e:Ob->Bool,(∀y∈us,EqAt A s y ux (e y))/\us.map e=l.map λt=>aS t x:=by
 classical
 have ex:∀y∈us,∃t∈l,ReV s t y:=λy hy=>by
  obtain⟨i,hi,rfl⟩:=Rq hy;have hl:=r.length;have e1:l[i]?=ZA l[i]:=by simp
  obtain⟨u,q1,q2⟩:=r.get e1;have:us[i]?=ZA us[i]:=by simp
  rw[this]at q1;cases q1;exact⟨l[i],PR _,q2⟩
 let e:Ob->Bool:=λy=>decide (∃t∈l,ReV s t y/\aS t x=ZC)
 have dep:∀t∈l,t.dep<=60\/x.dep<=60:=λt ht=>by
  rcases hd with h|h
  .exact .inr h
  .obtain⟨i,hi,rfl⟩:=Rq ht;exact .inl (OJ (i5 (i:=i) (by simp)) h)
 have uniq:∀y t t',ReV s t y->ReV s t' y->aS t x=aS t' x:=λy t t' z z'=>by rw[<-my t,<-my t',ReV.nf z z']
 have agree:∀y t,t∈l->ReV s t y->e y=aS t x:=λy t h z=>by
  show decide (∃t∈l,ReV s t y/\aS t x=ZC)=aS t x;cases q:aS t x with
  |true=>exact decide_eq_true ⟨t,h,z,q⟩
  |false=>
   refine decide_eq_false ?_;rintro ⟨t',h',z',q'⟩;rw[<-uniq y t t' z z',q]at q';cases q'
 refine⟨e,λy hy=>?_,?_⟩
 .obtain⟨t,h,z⟩:=ex y hy;rw[agree y t h z];exact(Ee 60 A s t x y ux (dep t h) hu z rx).1
 .have go:∀(l':List T)(us':List Ob),(∀t∈l',t∈l)->ReVs s l' us'->us'.map e=l'.map λy=>aS y x:=by
   intro l';induction l' with
   |nil=>intro us' _ r';rw[ReVs.Da.mp r'];rfl
   |cons t l' ih=>
    intro us' sub r';obtain⟨u,ws,rfl,p,q⟩:=ReVs.me.mp r';rw[Od,Od,ih ws (λt ht=>sub t (N9 _ ht)) q,agree u t (sub t Of) p]
  exact go l us (λ_ h=>h) r
theorem qD:∀{l:List T}{n k:Nat},kJ x l n=ZA k->n<=k/\(l.map λt=>aS t x)[k - n]?=ZA ZC/\∀m,m<k - n->(l.map λt=>aS t x)[m]?=ZA ZD
 |[],n,k,h=>by cases h
 |t::l,n,k,h=>by
  unfold kJ at h;cases q:aS t x with
  |true=>
   rw[q,if_pos rfl]at h;cases h;refine⟨Ou _,?_,λm hm=>by omega⟩;rw[SK,Od,q];rfl
  |false=>
   rw[q,if_neg (by decide)]at h;obtain⟨h1,h2,h3⟩:=qD h;have e:k - n=(k - (n+1))+1:=by omega
   refine⟨by omega,?_,λm hm=>?_⟩
   .rw[e,Od,Rr];exact h2
   .cases m with
    |zero=>rw[Od,q];rfl
    |succ m=>rw[Od,Rr];exact h3 m (by omega)
section
variable {apos cpos:Pos}
def Cy(hu:X.A.units+61<cLine)(ha:c8 X a fa)(hb:c8 X b fb)(hn:b8 b=ZC:=by rfl)
  (hbase:QB a "index" X.env (eval a X.env)=eval a X.env:=by rfl) (hline:(apos.endLine == cpos.line)=ZC:=by rfl):c8 X (.Call (.Attribute a "index" apos) [b] [] cpos) (oL il fa fb):=by
 have hs:Oz [b] X.env=(ZD,eval b X.env)::Oz [] X.env:=bo hn;intro kw s σ H Q I ⟨Z,O,E,hq⟩;refine Ux hbase (by rw[hs];rfl) hline rfl (cL (ha kw s σ H _ I (br E hq)) λv s1 hh_=>?_);obtain⟨x,H1,I1,r1,t,rt,s',E',q1⟩:=hh_;cases t with
 |lst l=>
  obtain⟨c,vs,e1,e2,e3,e4⟩:=Rep.Do.mp rt;subst e1;obtain rfl:v=OB c:=r1;obtain⟨h1,h2⟩:=BW I1 (show RelV (.ref c) (.ref c)from rfl) (.inl ⟨rfl,vs,SqL.of e3⟩);refine⟨_,_,QN,T7,T8,h1,h2,?_⟩;rw[hs];refine Su rfl (RV (RC (cL (hb kw s1 σ H1 _ I1 (br (f:=fb) E' q1)) λu s2 ⟨y,H2,I2,r2,t2,rt2,s'',E'',q2⟩=>Rh ?_)));unfold il at q2;split at q2
  .rename_i l' heq;cases heq;split at q2
   .rename_i hd3;obtain⟨hd,hnx,hny⟩:=hd3;split at q2
    .rename_i k hk;have rv:=Rep.val I2 (show(T.lst l).nd=ZC by unfold T.nd;exact hny) (rt.same s'') (show RelV (.ref c) (.ref c)from rfl);unfold ReV at rv;obtain⟨c',us,ec,hl,rs⟩:=rv;cases ec;obtain⟨⟨cls,dd,data,sl⟩,ho,hc,n,hdd⟩:=id hl;simp only at hc hdd;subst hc hdd;obtain⟨e,he,ha⟩:=Df (A:=X.A.in1) (Rep.val I2 hnx rt2 r2) (by show X.A.units+1+60<cLine;omega) hd rs;obtain⟨_,k1,k2⟩:=qD hk;rw[SL]at k1 k2;rw[<-ha]at k1 k2;have hkl:k<us.length:=by have:=(Oj.mp k1).1;rwa [Oc]at this
     have hz:us.length<=ZI:=by have z:=(I2.KM (s'' _ _ e3)).1;have h3:=rs.length;have h4:=e4.length;omega
     refine Sf V8 ⟨_,ho,rfl⟩ VB (Vk _ _) (list_indexAt c us.toArray n dd sl u e k (by simpa using hkl) (by rw[PJ]at hz;omega) ?_ ?_) ⟨ho,λy hy=>he y (by simpa using hy),?_⟩
     .have:=(Oj.mp k1).2;rw[Rw]at this;simpa using this
     .intro m hm hmk;have:=(Oj.mp (k2 m hmk)).2;rw[Rw]at this;simpa using this
     .exact⟨.int _,H2,I2.tok _,⟨_,rfl⟩,q2 H2 (Same.refl H2) _ (Rep.GE _)⟩
    .exact q2.elim
   .exact q2.elim
  .rename_i hno;exact(hno l rfl).elim
 |_=>exact q1.elim
def Jd(hu:X.A.units+1<cLine)(ha:c8 X a fa)(hb:c8 X b fb)(hn:b8 b=ZC:=by rfl)
  (hbase:QB a "get" X.env (eval a X.env)=eval a X.env:=by rfl) (hline:(apos.endLine == cpos.line)=ZC:=by rfl):c8 X (.Call (.Attribute a "get" apos) [b] [] cpos) (oD jB fa fb):=by
 have hs:Oz [b] X.env=(ZD,eval b X.env)::Oz [] X.env:=bo hn;refine PE.imp (CS hu ha hb ⟨hbase,by rw[hs];rfl,hline,by rw[hs];rfl⟩) λσ H Q ⟨Z,O,E,hq⟩=>?_;obtain⟨Z1,O1,E1,h1⟩:=br E hq;refine⟨Z1,O1,E1,Post.mono h1 λt H1 s1 q v r=>?_⟩;obtain⟨t',r',s',E',q'⟩:=q v r;cases t' with
 |dct ks vs=>
  obtain⟨c,kvs,e1,e2,e3,e4,e5⟩:=Rep.FS.mp r';refine⟨c,e1,.inr ⟨kvs,e3⟩,?_⟩;obtain⟨Z2,O2,E2,h2⟩:=br (f:=fb) E' q';refine⟨Z2,O2,E2,Post.mono h2 λt2 H2 s2 q2 v2 r2=>?_⟩;obtain⟨t2',r2',s2',E2',q2'⟩:=q2 v2 r2;unfold jB at q2';split at q2'
  .rename_i ks' vs' k heq hk;cases heq;obtain⟨b,f1,f2⟩:=iq hk r2';have g:=mr (k:=k) e4 (e5.same s2');refine⟨iO kvs k,by rw[f1];exact DGet.NM (Rd.NI (P:=zG) (SameO.of s2') (λz=>z) e3) f2,?_⟩;cases hx:lD ks vs k with
   |some z=>
    rw[hx]at g q2';obtain⟨w,g1,g2⟩:=g;rw[g1];exact q2' H2 (Same.refl H2) w g2
   |none=>
    rw[hx]at g q2';rw[g];exact q2' H2 (Same.refl H2) .non Rep.NF
  .exact q2'.elim
 |_=>exact q'.elim
def C0(hu:X.A.units+1<cLine):OpT X (Pp .In) Bk:=by
 intro kw s σ H O x y vx vy ux uy Q I hf rx ry r1 r2 hp;unfold Bk at hp;split at hp
 .rename_i ks vs k hk;obtain⟨c,kvs,e1,e2,e3,e4,e5⟩:=Rep.FS.mp ry;obtain⟨b,f1,f2⟩:=iq hk rx;subst e1 f1;obtain rfl:uy=OB c:=r2;have g:=mr (k:=k) e4 e5;have hsome:(lD ks vs k).isSome=(iO kvs k).isSome:=by
   cases hx:lD ks vs k with
   |some z=>rw[hx]at g;obtain⟨w,g1,_⟩:=g;rw[g1];rfl
   |none=>rw[hx]at g;rw[g];rfl
  refine d_in hu I (DGet.NM e3 f2) r1 λs' I'=>⟨.bl _,H,I',rfl,?_⟩;rw[<-hsome];exact hp H (Same.refl H) _ (Rep.bl_ _)
 .exact hp.elim
end
section
variable {c:ZG}{fc:Y2}{p2 p3 p4:Pos}{x:Str}
def IM(i:Nat)(hu:X.A.units+1<cLine)(hb:c8 X b fb)(hc:c8 X c fc)(hN:X.N[i]?=ZA x:=by rfl)(hv:autoParam (uZ X.env.scope x) u_)
  (hd:autoParam ((x == ("__debug__" : Str))=ZD) s_) (hcd:autoParam ((x == ("__classdict__" : Str))=ZD) s_)
  (hs:P7 c (ZA (.Subscript (.Name x p2) b p3)) pos.line X.env=pure ZD:=by rfl):qQ X (.Assign [.Subscript (.Name x p2) b p3] c pos) (AF i fb fc):=by
 intro kw s σ H D I ⟨Z,B,M,E,h⟩;refine zq hu (i9 hN hv hd hcd) hb hc hs kw s σ H D I ?_;unfold AF at h;split at h
 .rename_i ks vs hl;obtain⟨v0,e1,d,kvs,rfl,hM,e3,e4,e5⟩:=E.env.own i _ hl;obtain⟨nd,nz⟩:=w6 I e3;refine⟨Z,OO B M,E.o,?_⟩;cases q:fc Z with
  |bad=>rw[q]at h;exact h.elim
  |err c=>rw[q]at h;exact PostF.xa h
  |ok vT=>
   rw[q,aH]at h;intro H1 s1 v r;refine⟨.ref d,e1,Z,OO B M,(E.same s1).o,?_⟩;have h1:=h.later (SameO.of s1) (P1:=M.u) λa z=>.inl z;cases q2:fb Z with
   |bad=>rw[q2]at h1;exact h1.elim
   |err c=>rw[q2]at h1;exact PostF.xa h1
   |ok kT=>
    rw[q2,aH]at h1;intro H2 s2 y ry;cases q3:keyOf kT with
    |none=>rw[q3]at h1;exact h1.elim
    |some k=>
     rw[q3]at h1;have h2:=h1.later (SameO.of s2) (P1:=M.u) λa z=>.inl z;have hlen:ks.length=kvs.length:=by have:=congrArg PC e4;simpa using this
     by_cases hz:ks.length<1000
     .simp only[if_pos hz]at h2;obtain⟨kb,f1,f2⟩:=iq q3 ry;have e3':=s2 _ _ (s1 _ _ e3);obtain⟨g1,g2⟩:=mq q3 (r.same s2) e4 ((e5.same s1).same s2) nd;refine⟨d,upd H2 d (.dT (dP kvs k v)),rfl,by rw[f1];exact DPut.t e3' f2 (by rw[PJ];omega),?_⟩;have sm:SameO (M i) H2 (upd H2 d (.dT (dP kvs k v))):=λc u e nb=>by rw[aG (λz=>nb ((hM c).mpr z))];exact e
      obtain⟨g3,g4⟩:=((E.same s1).same s2).put (o':=.dct (hW kT vT ks vs).1 (hW kT vT ks vs).2) hl e1 sm ⟨d,_,rfl,hM,aI,g1,g2.move (P:=M i) (λa z=>.inl (.inr ⟨i,z⟩)) (λa z=>.inl z) sm⟩;exact h2 σ _ M g4 g3 λc z=>.inl z
     .simp only[if_neg hz]at h2;exact h2.elim
 .exact h.elim
theorem vf:∀{kvs:List (List Key×V)}{as:List ZE}{v:V},kvs.map (·.2)=as.map V.ref->iO kvs k=ZA v->∃b∈as,v=.ref b
 |[],as,v,_,h=>by cases h
 |p::kvs,as,v,e,h=>by
  cases as with
  |nil=>cases e
  |cons b0 bs=>
   rw[Od,Od]at e;injection e with e1 e2;by_cases hk:p.1=k
   .rw[gL hk]at h;cases h;exact⟨b0,Of,e1⟩
   .rw[gM hk]at h;obtain⟨b,hb,e⟩:=vf e2 h;exact⟨b,N9 _ hb,e⟩
theorem vM{r:List T×List T}:∀{ks:List T}{rows:List (List T×List T)}{kvs:List (List Key×V)}{as:List ZE},ks.map keyOf=kvs.map (λp=>ZA p.1)->kvs.map (·.2)=as.map V.ref->RowsR K O H rows as->rg ks rows k=ZA r ->
  ∃b kv,iO kvs k=ZA (.ref b)/\b∈as/\H b=ZA (.dT kv)/\r.1.map keyOf=kv.map (λp=>ZA p.1)/\Reps K O H r.2 (kv.map (·.2))
 |[],rows,kvs,as,h1,h2,h3,h=>by unfold rg at h;cases h
 |k'::ks,rows,kvs,as,h1,h2,h3,h=>by
  cases rows with
  |nil=>unfold rg at h;cases h
  |cons r0 rows=>
   cases kvs with
   |nil=>cases h1
   |cons p kvs=>
    rw[Od,Od]at h1;injection h1 with h1 h1';obtain⟨b0,bs,kv0,rfl,e2,e3,e4,e5⟩:=h3;rw[Od,Od]at h2;injection h2 with h2 h2';unfold rg at h;by_cases hk:keyOf k'=ZA k
    .rw[if_pos hk]at h;cases h;rw[h1]at hk;injection hk with hk;exact⟨b0,kv0,by rw[gL hk,h2],Of,e2,e3,e4⟩
    .rw[if_neg hk]at h;have hk2:¬ p.1=k:=λz=>hk (by rw[h1,z]);obtain⟨b,kv,g1,g2,g3⟩:=vM h1' h2' e5 h;exact⟨b,kv,by rw[gM hk2];exact g1,N9 _ g2,g3⟩
theorem vH{H':Hp}{xr:List T×List T}{b:ZE}{kv':List (List Key×V)}(hO:O b)(hS:SameO (λc=>c=b) H H')(hb:H' b=ZA (.dT kv'))(hx1:xr.1.map keyOf=kv'.map (λp=>ZA p.1))(hx2:Reps K O H' xr.2 (kv'.map (·.2))):
  ∀{ks:List T}{rows:List (List T×List T)}{kvs:List (List Key×V)}{as:List ZE},ks.map keyOf=kvs.map (λp=>ZA p.1)->kvs.map (·.2)=as.map V.ref->RowsR K O H rows as->as.Nodup->iO kvs k=ZA (.ref b)->RowsR K O H' (rf k xr ks rows) as
 |[],rows,kvs,as,h1,h2,h3,hn,h=>by
  cases kvs with
  |nil=>cases h
  |cons _ _=>cases h1
 |k'::ks,rows,kvs,as,h1,h2,h3,hn,h=>by
  have inO:∀a,a=b->O a\/Nw K H a:=λa z=>.inl (z▸hO);cases kvs with
  |nil=>cases h1
  |cons p kvs=>
   rw[Od,Od]at h1;injection h1 with h1 h1';cases rows with
   |nil=>unfold RowsR at h3;subst h3;cases h2
   |cons r0 rows=>
    obtain⟨b0,bs,kv0,rfl,e2,e3,e4,e5⟩:=h3;rw[Od,Od]at h2;injection h2 with h2 h2';obtain⟨n1,n2⟩:=O0.mp hn;unfold rf;by_cases hk:keyOf k'=ZA k
    .rw[if_pos hk];rw[h1]at hk;injection hk with hk;rw[gL hk,h2]at h;cases h;exact⟨b,bs,kv',rfl,hb,hx1,hx2,e5.move (P:=λc=>c=b) inO (λa z=>.inl z) hS λc hc z=>n1 (z▸hc)⟩
    .rw[if_neg hk];have hk2:¬ p.1=k:=λz=>hk (by rw[h1,z]);rw[gM hk2]at h;obtain⟨b',hb',e'⟩:=vf h2' h;cases e';have hne:b0≠b:=λz=>n1 (z▸hb');exact⟨b0,bs,kv0,rfl,hS _ _ e2 hne,e3,e4.move (P:=λc=>c=b) inO (λa z=>.inl z) hS,vH hO hS hb hx1 hx2 h1' h2' e5 n2 h⟩
def FE(i:Nat)(hu:X.A.units+1<cLine)(ha:c8 X a fa)(hb:c8 X b fb)(hc:c8 X c fc)(hsl:autoParam (BC a) w_)(hN:X.N[i]?=ZA x:=by rfl)(hv:autoParam (uZ X.env.scope x) u_)
  (hd:autoParam ((x == ("__debug__" : Str))=ZD) s_) (hcd:autoParam ((x == ("__classdict__" : Str))=ZD) s_)
  (hs:P7 c (ZA (.Subscript (.Subscript (.Name x p2) a p3) b p4)) pos.line X.env=pure ZD:=by rfl):qQ X (.Assign [.Subscript (.Subscript (.Name x p2) a p3) b p4] c pos) (jx i fa fb fc):=by
 intro kw s σ H D I ⟨Z,B,M,E,h⟩;refine zq hu (zx hu (i9 hN hv hd hcd) ha hsl) hb hc hs kw s σ H D I ?_;unfold jx at h;split at h
 .rename_i ks rows hl;obtain⟨v0,e1,d,kvs,as,rfl,hM,na,nas,e5,e6,e7,e8⟩:=E.env.own i _ hl;refine⟨Z,OO B M,E.o,?_⟩;cases q:fc Z with
  |bad=>rw[q]at h;exact h.elim
  |err c=>rw[q]at h;exact PostF.xa h
  |ok vT=>
   rw[q,aH]at h;intro H1 s1 v r;refine⟨.ref d,e1,Z,OO B M,(E.same s1).o,?_⟩;have h1:=h.later (SameO.of s1) (P1:=M.u) λa z=>.inl z;cases q2:fa Z with
   |bad=>rw[q2]at h1;exact h1.elim
   |err c=>rw[q2]at h1;exact PostF.xa h1
   |ok aT=>
    rw[q2,aH]at h1;intro H2 s2 y ry;have h2:=h1.later (SameO.of s2) (P1:=M.u) λa z=>.inl z;have E2:=(E.same s1).same s2;have s12:=s1.trans s2;split at h2
    .rename_i ka rr hk;obtain⟨ka',q3,hk⟩:=Option.bind_eq_some_iff.mp hk;obtain⟨r',q4,hk⟩:=Qr.mp hk;cases hk;obtain⟨rb,kv,g1,g2,g3,g4,g5⟩:=vM e6 e7 e8 q4;obtain⟨ndr,nzr⟩:=w6 I g3;obtain⟨ab,f1,f2⟩:=iq q3 ry;refine⟨d,.ref rb,rfl,by rw[f1,<-g1];exact DGet.t (s12 _ _ e5) f2,Z,OO B M,E2.o,?_⟩;cases q5:fb Z with
     |bad=>rw[q5]at h2;exact h2.elim
     |err c=>rw[q5]at h2;exact PostF.xa h2
     |ok bT=>
      rw[q5,aH]at h2;intro H3 s3 y2 ry2;have h3:=h2.later (SameO.of s3) (P1:=M.u) λa z=>.inl z;have s13:=s12.trans s3;have E3:=E2.same s3;have hlen:rr.1.length=kv.length:=by have:=congrArg PC g4;simpa using this
      by_cases hz:(keyOf bT).isSome=ZC/\rr.1.length<1000
      .rw[if_pos hz]at h3;obtain⟨kb,q6⟩:=R8.mp hz.1;obtain⟨bb,f3,f4⟩:=iq q6 ry2;obtain⟨u1,u2⟩:=mq q6 ((r.same s2).same s3) g4 (g5.same s13) ndr;refine⟨rb,upd H3 rb (.dT (dP kv kb v)),rfl,by rw[f3];exact DPut.t (s13 _ _ g3) f4 (by rw[PJ];omega),?_⟩;have mrb:M i rb:=(hM rb).mpr (.inr g2);have hOb:OO B M rb:=.inr ⟨i,mrb⟩;have sm1:SameO (λc=>c=rb) H3 (upd H3 rb (.dT (dP kv kb v))):=λc u e nb=>by rw[aG nb];exact e
       have sm:SameO (M i) H3 (upd H3 rb (.dT (dP kv kb v))):=λc u e nb=>sm1 c u e λz=>nb (z▸mrb);have inO:∀a,a=rb->OO B M a\/Nw X.K H3 a:=λa z=>.inl (z▸hOb);have dne:d≠rb:=λz=>na (z▸g2);obtain⟨g6,g7⟩:=E3.put (o':=.dd ks (rf ka (hW bT vT rr.1 rr.2) ks rows)) hl e1 sm ⟨d,kvs,as,rfl,hM,na,nas,sm1 _ _ (s13 _ _ e5) dne,e6,e7,vH hOb sm1 aI u1 (u2.move (P:=λc=>c=rb) inO (λa z=>.inl z) sm1) e6 e7 (e8.same s13) nas g1⟩;exact h3 σ _ M g7 g6 λc z=>.inl z
      .rw[if_neg hz]at h3;exact h3.elim
    .exact h2.elim
 .exact h.elim
end
end Tr
namespace PySem
open Sem (wp)
namespace F
def lk_list_keys:SB (.type "list") "keys" =pure ZB:=by rw[Sq,Ra];kernel_rfl
def lk_list_getattr:SB (.type "list") "__getattr__" =pure ZB:=by rw[Sq,Ra];kernel_rfl
end F
variable{tk:Tok}
section
variable {h:ZH}{g:Array VM}{d:Drawn}{t:Nat}{a:ZE}{its:Array Ob}
def n6{Q:Fin->Oe->Prop}(hx:h.get? a=ZA {cls:=.type "list",data:=.seq its n})(hh:A.handled=ZB)
  (hq:∀h' tk' e,W8 h h' e (.ref a) "keys"->E (.ref e) ⟨h',g,d,tk',os⟩):
  ZJ (ZK prog w) A (Builtin.«object.__getattribute__» ⟨[.ref a,.str "keys" tk],[]⟩) Q E ⟨h,g,d,t,os⟩:=by
 have hT:(⟨h,g,d,t,os⟩:Oe).TypeIs (.ref a) "list":=⟨_,hx,rfl⟩;have f4:=F.lk_list_keys;repeat (any_goals (first|assumption|wp_step))
 exact wpAny_raiseAttrError hh (λh' tk e hx=>hq h' tk e hx) (attrMsg_fits (by decide+kernel) (by rw[PJ];decide))
def qo(hx:h.get? a=ZA {cls:=.type "list",data:=.seq its n})(hh:A.handled=ZB)
  (hq:∀h' tk' e,W8 h h' e (.ref a) "keys"->R (.error (.ref e)) ⟨h',g,d,tk',os⟩):
  ZL (ZK prog w) A (.call (.builtin "list.__getattribute__") ⟨[.ref a,.str "keys" tk],[]⟩) R ⟨h,g,d,t,os⟩:=
 S3 Rk.plain F.entry_list_ga (Rk.check _ _ _ _ _ _ _ _ (show(⟨h,g,d,t,os⟩:Oe).TypeIs (.ref a) "list" from⟨_,hx,rfl⟩) (F.args_list_getattribute_2 _ _) (n6 hx hh hq))
def qr{Q:Option Ob->Oe->Prop}(hx:h.get? a=ZA {cls:=.type "list",data:=.seq its n})(hh:A.handled=ZB)
  (hq:∀h' tk',(∀b o,h.get? b=ZA o->h'.get? b=ZA o)->Q ZB ⟨h',g,d,tk',os⟩):ZJ (ZK prog w) A (getAttr? (.ref a) "keys") Q E ⟨h,g,d,t,os⟩:=by
 have hT:∀tk,(⟨h,g,d,tk,os⟩:Oe).TypeIs (.ref a) "list":=λ_=>⟨_,hx,rfl⟩;have f1:=sub_AttributeError;have f2:=Rk.lookup;have f3:=Rk.bind (.ref a);have f5:=F.lk_list_getattr;unfold getAttr? getAttrBy? getAttrBy;repeat (any_goals (first|assumption|exact hT _|wp_step))
 refine qo hx hh λh' tk' e hx'=>?_;obtain⟨t',u',he⟩:=hx'.there;repeat (any_goals (first|assumption|exact hT _|wp_step))
 exact hq _ _ hx'.keeps
end
end PySem
namespace PySem.F
def entry_dict_update_loop:entryFor table "dict.update.loop" =ZA Builtin.«dict.update.loop»:=entryFor_of_tree (by kernel_rfl)
def plain_dict_update_loop:plainId "dict.update.loop" =ZC:=by decide+kernel
end PySem.F
variable{Q:Option Nat->SQ->Prop}
namespace Tr
open PySem PySem.Spec PyProof.Rows L2
noncomputable def fR(kvs:List (List Key×V)):List (List Key×V)->List (List Key×V)
 |[] =>kvs
 |p::ps=>fR (dP kvs p.1 p.2) ps
def PairsAt(H:Hp):List V->List (List Key×V)->Prop
 |[],ps=>ps=[]
 |x::xs,ps=>∃b kb p r,ps=p::r/\x=.ref b/\H b=ZA (.tup [.ref kb,p.2])/\H kb=ZA (.tup (p.1.map kV))/\PairsAt H xs r
variable{H:Hp}{d:ZE}{kvs:List (List Key×V)}
theorem PairsAt.upd{o:HO}(hd:H d=ZA (.dT kvs)):∀{xs:List V}{ps:List (List Key×V)},PairsAt H xs ps->PairsAt (L2.upd H d o) xs ps
 |[],_,h=>h
 |x::xs,_,⟨b,kb,p,r,e1,e2,e3,e4,e5⟩=>⟨b,kb,p,r,e1,e2,by rw[aG (lZ e3 hd (λz=>nomatch z))];exact e3,by rw[aG (lZ e4 hd (λz=>nomatch z))];exact e4,e5.upd hd⟩
def sX{a b:HO}:upd (upd H d a) d b=upd H d b:=by
 funext c
 by_cases h:c=d
 .rw[h,aI,aI]
 .rw[aG h,aG h,aG h]
variable{X:Cx}{kw:Uf}{xs:List V}{σ:L2.St}
section
variable {res:Ob}{R:Xk->Oe->Prop}{l it:ZE}
def Bm(hh:A.handled=ZB)(hu:A.units+3<cLine):∀(k i:Nat)(s:Oe)(H:Hp)(kvs ps:List (List Key×V)),xs.length - i=k->i<=xs.length->H l=ZA (.lst xs)->H d=ZA (.dT kvs)->kvs.length+(xs.length - i)<=1000->Inv X kw σ H s->s.heap.IsListIter it l i->qR X kw H it->PairsAt H (xs.drop i) ps ->
  (∀s',Inv X kw σ (upd H d (.dT (fR kvs ps))) s'->R (.ok (.ret res)) s')->ZL (ZK X.prog X.w) A (.builtin "dict.update.loop" ⟨[.ref d,.ref it,rawInt i,res],[]⟩) R s:=by
 intro k;induction k with
 |zero=>
  intro i s H kvs ps hk hi hl hd hz I hit hf hp hR;refine QZ F.entry_dict_update_loop ?_;rw[Qn F.plain_dict_update_loop _];obtain⟨z,its,n,r,hlen,e⟩:=I.KM hl;have hL:s.heap.IsList l its.toArray:=⟨_,e,rfl,n,rfl⟩;show ZJ _ A.in1 (pyNext (.ref it) >>= _) _ _ s;refine N8 (UO hh hit hL (by simp;omega) λh' hm=>?_);show ZJ _ _ (Builtin.Dict.addKeywords d [] >>= _) _ _ _;refine N8 (Om (Om ?_));have hnil:xs.drop i=[]:=Q2 (by omega);rw[hnil]at hp;unfold PairsAt at hp;subst hp;have e2:upd H d (.dT (fR kvs []))=H:=by
   funext b
   by_cases hb:b=d
   .rw[hb,aI,hd];rfl
   .rw[aG hb]
  rw[e2]at hR;exact hR _ (I.Nc (fp:=[it]) (t':=s.toks) (λb hb=>by rw[OF.mp hb];exact hf) λb o hb eb=>hm b o (λz=>hb (by rw[z];exact OF.mpr rfl)) eb)
 |succ k ih=>
  intro i s H kvs ps hk hi hl hd hz I hit hf hp hR;refine QZ F.entry_dict_update_loop ?_;rw[Qn F.plain_dict_update_loop _];obtain⟨z,its,n,r,hlen,e⟩:=I.KM hl;have hL:s.heap.IsList l its.toArray:=⟨_,e,rfl,n,rfl⟩;have hlt:i<xs.length:=by omega
  have hlt':i<its.length:=by omega
  show ZJ _ A.in1 (pyNext (.ref it) >>= _) _ _ s;refine N8 (Ut hit hL (x:=its[i]) (by simp[hlt']) λh' hit' hm=>?_);have I1:Inv X kw σ H {s with heap:=h'}:=I.Nc (fp:=[it]) (t':=s.toks) (λb hb=>by rw[OF.mp hb];exact hf) λb o hb eb=>(hm.2 b (λz=>hb (by rw[z];exact OF.mpr rfl))).trans eb;have hdrop:xs.drop i=xs[i] ::xs.drop (i+1):=Qy hlt;rw[hdrop]at hp;refine L2.hold λG' gg=>?_;obtain⟨b,kb,p,r',rfl,ex,hb,hkb,hp'⟩:=hp;refine gg ?_;clear gg G';have rx:RelV xs[i] its[i]:=by obtain⟨u,q1,q2⟩:=r.get (Og hlt);rw[Og hlt']at q1;cases q1;exact q2
  rw[ex]at rx;have eu:its[i]=OB b:=rx;rw[eu];refine L2.hold λG' gg=>?_;obtain⟨z2,its2,r2,ob,hob1,hob2,nb,hob3⟩:=(show ObjOk X.prog X.w H h' b (.tup [.ref kb,p.2])from I1.hok b _ hb);refine gg ?_;clear gg G';obtain⟨u1,us1,q1,rfl⟩:∃u1 us1,RelV (V.ref kb) u1/\its2=u1::us1:=by cases r2 with|cons a b=>exact⟨_,_,a,rfl⟩
  cases r2 with
  |cons ra rb=>
   obtain⟨u2,q2,rfl⟩:∃u2,RelV p.2 u2/\us1=[u2]:=by cases rb with|cons a b=>cases b;exact⟨_,a,rfl⟩
   obtain rfl:u1=OB kb:=q1;show ZJ _ A.in1 (holding [OB b] _ >>= _) _ _ _;refine N8 (P8 ?_);refine N8 (SF ?_);unfold Builtin.Dict.pairItems;refine N8 (Se (s:={s with heap:=h'}) (T:="tuple") ⟨ob,hob1,hob2⟩ ?_);rw[if_pos (by decide)];refine N8 (RZ (s:={s with heap:=h'}) hob1 hob3 (Om ?_));show ZJ _ _ (holding [OB kb,u2] (dictSet d (.ref kb) u2)) _ _ _;refine P8 ?_;obtain⟨zz,hds,xs2,rel,dd⟩:=Es I1.hok hd;have hzl:xs2.length<=ZI:=by rw[<-Ua rel];exact zz
   have hkl:kvs.length<ZI:=by rw[PJ];omega
   have hl2:(dP kvs p.1 p.2).length<=ZI:=by have:=ip kvs p.1 p.2;omega
   refine wpAny_dictSet_heap (hsz:=hzl) (QK (by show A.units+1<cLine;omega)) (key_of I1.hok hkb) dd λh2 dd2 hs2=>?_;obtain⟨q,es,ep,hq,h22,h3,h4,_,h5⟩:=dd2;have I2:Inv X kw σ (upd H d (.dT (dP kvs p.1 p.2))) {s with heap:=h2,toks:=s.toks+(TZ (du X.prog X.w)).draws p.1}:=
    uP (s:={s with heap:=h'}) I1 (by rw[hd];exact RM) hs2 ⟨q,hq⟩ ⟨hl2,hds,_,(rel.put p.1 hkb q2).keeps λc ys ec=>by rw[aG (lZ ec hd (λz=>nomatch z))];exact ec,q,es,ep,hq,h22,h3,h4,h5⟩
   have hld:l≠d:=lZ hl hd (λz=>nomatch z);have hitd:it≠d:=λz=>by have:=hf.1;rw[z,hd]at this;cases this
   have hcast:(i:Int)+1=((i+1:Nat):Int):=by omega
   refine Om ⟨Rv F.plain_dict_update_loop _,?_⟩;rw[hcast];refine ih (i+1) _ (upd H d (.dT (dP kvs p.1 p.2))) (dP kvs p.1 p.2) r' (by omega) (by omega) (by rw[aG hld];exact hl) aI (by have:=ip kvs p.1 p.2;omega) I2 ?_ ⟨by rw[aG hitd];exact hf.1,hf.2⟩ (hp'.upd hd) λs' I'=>?_
   .obtain⟨oi,ho1,ho2,ho3⟩:=hit';exact⟨oi,(hs2.2 it hitd).trans ho1,ho2,ho3⟩
   .rw[sX]at I';exact hR s' I'
end
theorem PairsAt.same{H':Hp}(s:Same H H'):∀{xs:List V}{ps:List (List Key×V)},PairsAt H xs ps->PairsAt H' xs ps
 |[],_,h=>h
 |x::xs,_,⟨b,kb,p,r,e1,e2,e3,e4,e5⟩=>⟨b,kb,p,r,e1,e2,s _ _ e3,s _ _ e4,e5.same s⟩
section
variable {l:ZE}{ps:List (List Key×V)}
def w4{Q:WP}(hh:A.handled=ZB)(hu:A.units+8<cLine)(I:Inv X kw σ H s)(hl:H l=ZA (.lst xs))(hz:xs.length<=1000)(hp:PairsAt H xs ps)
  (h:∀p s',Nw X.K H p->Inv X kw σ (upd H p (.dT (fR [] ps))) s'->Q (.ref p) s'):ZJ (ZK X.prog X.w) A (call (.type "dict") [.ref l]) Q E s:=by
 have hk:X.K.lookup s.heap.objs.size=ZB:=by
  cases q:X.K.lookup s.heap.objs.size with
  |none=>rfl
  |some o=>exact absurd (Ov (I.kIn _ o q)) (Pa _)
 have hn:H s.heap.objs.size=ZB:=I.hok.fresh (Ou _);have hlp:l≠s.heap.objs.size:=λz=>by rw[z,hn]at hl;cases hl
 refine callType_codes (Q₁:=λobj s₁=>obj=.ref s.heap.objs.size/\s₁= {s with heap:=s.heap.push {cls:=.type "dict",data:=.dict #[]}}) F.kt_called_dict (F.kt_typeCall_dict_1 _) F.entry_dict_init (kt_code_dict_new _ ⟨rfl,rfl⟩) ?_;rintro obj s₁ ⟨rfl,rfl⟩;have I1:Inv X kw σ (upd H s.heap.objs.size (.dT [])) {s with heap:=s.heap.push {cls:=.type "dict",data:=.dict #[]}}:=I.laid (a:=s.heap.objs.size) (o:=.dT []) (t':=s.toks) (λ_ _ q=>Oi _ q) (Ou _) (Et s.heap I.big);have hT:({s with heap:=s.heap.push {cls:=.type "dict",data:=.dict #[]}}:Oe).TypeIs (.ref s.heap.objs.size) "dict":=⟨_,OA _ rfl,rfl⟩;have hl1:upd H s.heap.objs.size (.dT []) l=ZA (.lst xs):=by rw[aG hlp];exact hl
 obtain⟨z,its,n,r,hlen,e⟩:=I1.KM hl1;refine⟨hT,F.args_dict_init_2 _ _,?_⟩;unfold Builtin.«dict.__init__»;refine N8 ?_;unfold Builtin.Dict.selfAndRest;refine N8 (US hT ?_);show ZJ _ _ (pure (s.heap.objs.size,[OB l])) _ _ _;refine Om ?_;show ZJ _ _ (T9 "dict.__init__" s.heap.objs.size (.ref l) [] .none) _ _ _;unfold T9;refine N8 (Se (T:="list") ⟨_,e,rfl⟩ ?_);rw[if_pos (by decide)];refine N8 (qr e hh λh' tk' kp=>?_);have I2:Inv X kw σ (upd H s.heap.objs.size (.dT [])) {s with heap:=h',toks:=tk'}:=I1.kept (t':=tk') kp;rw[if_pos (by rfl)];refine N8 (SD ?_);have eL:({s with heap:=h',toks:=tk'}:Oe).heap.IsList l its.toArray:=⟨_,kp _ _ e,rfl,n,rfl⟩;refine N8 (SA eL ?_);have I3:Inv X kw σ (upd H s.heap.objs.size (.dT [])) {s with heap:=h'.push {cls:=.type "list_iterator",data:=.fields #[.ref l,.int 0 0]},toks:=tk'}:=I2.kept (t':=tk') λb u q=>Oi _ q;have hpl:s.heap.objs.size<h'.objs.size:=Ov (kp _ _ (OA _ rfl));have hni:upd H s.heap.objs.size (.dT []) h'.objs.size=ZB:=by rw[aG (QH hpl)];exact I.hok.fresh (Qc hpl)
 have hp1:PairsAt (upd H s.heap.objs.size (.dT [])) xs ps:=hp.same (aQ hn _);refine Om ⟨Rv F.plain_dict_update_loop _,?_⟩;refine Bm (A:=A.in1) (X:=X) (kw:=kw) (σ:=σ) (l:=l) (xs:=xs) (it:=h'.objs.size) hh (by show A.units+1+3<cLine;omega) xs.length 0 _ (upd H s.heap.objs.size (.dT [])) [] ps (by omega) (Pk _) hl1 aI (by simp;omega) I3 ⟨_,OA _ rfl,rfl,rfl⟩ (I2.Nl (Ou _) hni) hp1 λs' I'=>?_;rw[sX]at I';exact⟨rfl,h _ _ ⟨hn,hk⟩ I'⟩
end
def hu8(h:Room k A):A.units+8<cLine:=by have:=h.un;omega
def yg{k:List Key}{v:V}(h:(kvs.map (·.1)).Nodup):((dP kvs k v).map (·.1)).Nodup:=by
 unfold dP;by_cases a:(kvs.any λkv=>decide (kv.1=k))=ZC
 .rw[if_pos a,ON];have:((λx=>x.1)∘λkv:List Key×V=>if kv.1=k then(kv.1,v)else kv)=λx=>x.1:=by
   funext x
   show(if x.1=k then(x.1,v)else x).1=x.1;by_cases e:x.1=k
   .rw[if_pos e]
   .rw[if_neg e]
  rw[this];exact h
 .rw[if_neg a,PH,PV];refine⟨h,by simp,λx hx y hy=>?_⟩;simp only[Od,Tz,OF]at hy;subst hy;intro z;subst z;obtain⟨p,hp,e⟩:=Os.mp hx;exact a (Rx.mpr ⟨p,hp,decide_eq_true e⟩)
def MX(K:N7)(O:Ow)(H:Hp):List (T×T)->List (List Key×V)->Prop
 |[],ps=>ps=[]
 |a::l,ps=>∃p r,ps=p::r/\keyOf a.1=ZA p.1/\Rep K O H a.2 p.2/\MX K O H l r
variable{O:Ow}
theorem sG:∀{l:List (T×T)}{ps:List (List Key×V)}{ks ts:List T}{kvs:List (List Key×V)},MX K O H l ps->ks.map keyOf=kvs.map (λp=>ZA p.1)->Reps K O H ts (kvs.map (·.2))->(kvs.map (·.1)).Nodup ->
  (jY l (ks,ts)).1.map keyOf=(fR kvs ps).map (λp=>ZA p.1)/\Reps K O H (jY l (ks,ts)).2 ((fR kvs ps).map (·.2))
 |[],ps,ks,ts,kvs,h,h1,h2,hn=>by unfold MX at h;subst h;exact⟨h1,h2⟩
 | (a,b)::l,ps,ks,ts,kvs,h,h1,h2,hn=>by obtain⟨p,r,rfl,e1,e2,e3⟩:=h;obtain⟨g1,g2⟩:=mq (vT:=b) e1 e2 h1 h2 hn;show(jY l (hW a b ks ts)).1.map keyOf=(fR (dP kvs p.1 p.2) r).map (λp=>ZA p.1)/\Reps K O H (jY l (hW a b ks ts)).2 ((fR (dP kvs p.1 p.2) r).map (·.2));exact sG (l:=l) e3 g1 g2 (yg hn)
theorem zr:∀{l:List T}{tps:List (T×T)}{xs:List V},KJ l=ZA tps->Reps K O H l xs->∃ps,PairsAt H xs ps/\MX K O H tps ps
 |[],tps,xs,h,r=>by cases Reps.Da.mp r;cases h;exact⟨[],rfl,rfl⟩
 |t::l,tps,xs,h,r=>by
  obtain⟨v,ws,rfl,p,q⟩:=Reps.me.mp r;unfold KJ at h;split at h
  .rename_i heq;cases heq
  .rename_i k v' l' heq;cases heq;split at h
   .rename_i kk rr hk hr;cases h;obtain⟨ps,g1,g2⟩:=zr hr q;obtain⟨b,vs,e1,e2,e3,e4⟩:=Rep.Fk.mp p;obtain⟨u1,us1,rfl,f1,f2⟩:=Reps.me.mp e4;obtain⟨u2,us2,rfl,f3,f4⟩:=Reps.me.mp f2;cases Reps.Da.mp f4;obtain⟨kb,f5,f6⟩:=iq hk f1;subst f5;exact⟨(kk,u2)::ps,⟨b,kb,(kk,u2),ps,rfl,e1,e3,f6,g1⟩,⟨(kk,u2),ps,rfl,hk,f3,g2⟩⟩
   .cases h
  .cases h
section
variable {e:ZG}{f:Y2}{x y:Str}{p pos p2 p3:Pos}
def Im(X:Cx)(f:Y2):TE:=λσ H Q=>tP X f σ H λv H'=>∃a xs ps,v=.ref a/\H' a=ZA (.lst xs)/\xs.length<=1000/\PairsAt H' xs ps/\∀q,Nw X.K H' q->Q (.ref q) (upd H' q (.dT (fR [] ps)))
def CQ(hu:X.A.units+8<cLine)(hc:X.calm=ZC)(hm:X.mg "dict" =ZB)(ha:c8 X e f)(hg:Gl X "dict")(hs:b8 e=ZC):PE X (.Call (.Name "dict" p) [e] [] pos) (Im X f):=by
 have h1:Oz [e] X.env=(ZD,eval e X.env)::Oz [] X.env:=bo hs;intro kw s σ H Q I hq;refine Pd (fg I hg hm (show Pc "dict" =ZA (.type "dict")by decide+kernel) ?_ (by decide) (by decide));refine Pb (cL (bF (te:=tP X f) ha dQ h1 pos kw s σ H (λxs H'=>∃v,xs=[v]/\∃a xs ps,v=.ref a/\H' a=ZA (.lst xs)/\xs.length<=1000/\PairsAt H' xs ps/\∀q,Nw X.K H' q->Q (.ref q) (upd H' q (.dT (fR [] ps)))) I ?_) λus s1 hh=>?_) h1 rfl
 .obtain⟨Z,O,E,h⟩:=hq;exact⟨Z,O,E,Post.mono h λt H' _ g v r=>⟨v,rfl,g v r⟩⟩
 .obtain⟨vs,H1,I1,r1,v,rfl,a,xs,ps,ev,e1,e2,e3,e4⟩:=hh;subst ev;obtain⟨u,rfl,ru⟩:=r1.one;obtain rfl:u=OB a:=ru;exact w4 (I1.ok.hd hc) hu I1 e1 e2 e3 λq s' nw I'=>⟨.ref q,_,I',rfl,e4 q nw⟩
def FG(i:Nat)(hu:X.A.units+8<cLine)(hc:X.calm=ZC)(hm:X.mg "dict" =ZB)(hN:X.N.Nodup)(ha:c8 X e f)(hst:b8 e=ZC:=by rfl)(hg:Gl X "dict":=by rfl)(hi:X.N[i]?=ZA x:=by rfl)(hx:autoParam (Loc X.env.scope x) x_)(hs:P7 (.Call (.Name "dict" p) [e] [] p2) (ZA (.Name x p3)) pos.line X.env=pure ZD:=by rfl)
  (hf:autoParam (X.fn x=ZC\/X.env.scope.names.lookup x=ZA .local) r_):qQ X (.Assign [.Name x p3] (.Call (.Name "dict" p) [e] [] p2) pos) (rO i f):=PS.imp (pC hN hi hx (CQ hu hc hm ha hg hst) hs hf) λD σ H hh_=>by
 obtain⟨Z,B,M,E,h⟩:=hh_;refine⟨Z,OO B M,E.o,?_⟩;unfold rO at h;cases q:f Z with
 |bad=>rw[q]at h;exact h.elim
 |err c=>rw[q]at h;exact PostF.xa h
 |ok t=>
  rw[q,aH]at h;intro H1 s1 v r;have h1:=h.later (SameO.of s1) (P1:=M.u) λa z=>.inl z;cases t with
  |lst l=>
   obtain⟨a,xs,rfl,e2,e3,e4⟩:=Rep.Do.mp r;unfold Aj at h1;split at h1
   .rename_i l' heq;cases heq;split at h1
    .rename_i tps hps;by_cases hz:l.length<=1000
     .rw[if_pos hz,aH]at h1;obtain⟨ps,g1,g2⟩:=zr hps e4;refine⟨a,xs,ps,rfl,e3,by rw[<-e4.length];exact hz,g1,λnd nw=>?_⟩;by_cases hl:i<Z.length
      .simp only[if_pos hl]at h1;have hm:∀a,a=nd->Nw X.K H1 a:=λa z=>z▸nw;obtain⟨k1,k2⟩:=sG (ks:=[]) (ts:=[]) (kvs:=[]) g2 rfl Reps.GM Re;obtain⟨E2,sub⟩:=(E.same s1).new (m:=λa=>a=nd) (o:=.dct (jY tps ([],[])).1 (jY tps ([],[])).2) (v:=.ref nd) (H':=upd H1 nd (.dT (fR [] ps))) hl hm (aQ nw.1 _) ⟨nd,_,rfl,λb=>Ta,aI,k1,(k2.more (Ev.subO hm)).same (aQ nw.1 _)⟩;exact h1 _ _ _ (SameO.of (aQ nw.1 _)) E2 sub
      .simp only[if_neg hl]at h1;exact h1.elim
     .rw[if_neg hz]at h1;exact h1.elim
    .exact h1.elim
   .rename_i hno;exact(hno l rfl).elim
  |_=>exact h1.elim
end
theorem pY:∀{l:List T}{ns:List Int}{xs:List V}{us:List Ob},gm l=ZA ns->Reps K O H l xs->Vals xs us->Qq us ns
 |[],ns,xs,us,h,r,v=>by cases Reps.Da.mp r;cases v;cases h;exact .nil
 |t::l,ns,xs,us,h,r,v=>by
  obtain⟨w,ws,rfl,p,q⟩:=Reps.me.mp r;cases v with
  |cons v1 v2=>
   cases t with
   |int i=>
    unfold gm at h;obtain⟨m,h1,rfl⟩:=Qr.mp h;cases Rep.AC.mp p;obtain⟨k,rfl⟩:=v1;exact .cons _ _ (pY h1 q v2)
   |_=>cases h
theorem r6:∀(l:List Int)(i:Int),mZ i l∈i::l/\∀a∈i::l,a<=mZ i l
 |[],i=>⟨Of,λa h=>by cases OF.mp h;exact Qb _⟩
 |j::l,i=>by
  obtain⟨h1,h2⟩:=r6 l (if i<j then j else i);unfold mZ;have h3:=h2 _ Of;refine⟨?_,λa ha=>?_⟩
  .rcases Oh.mp h1 with e|e
   .rw[e];by_cases h:i<j
    .rw[if_pos h];simp
    .rw[if_neg h];simp
   .exact N9 _ (N9 _ e)
  .rcases Oh.mp ha with rfl|ha
   .by_cases h:a<j
    .rw[if_pos h]at h3 ⊢;omega
    .rw[if_neg h]at h3 ⊢;omega
   .rcases Oh.mp ha with rfl|ha
    .by_cases h:i<a
     .rw[if_pos h]at h3 ⊢;omega
     .rw[if_neg h]at h3 ⊢;omega
    .exact h2 a (N9 _ ha)
def Ks(hc:X.calm=ZC):CallT X (.builtin "max") Dg:=by
 intro kw s σ H O ts vs us Q I hf rs rv hp;unfold Dg at hp;split at hp
 .rename_i l;obtain⟨v,rfl,r⟩:=rs.one;split at hp
  .rename_i i ns hk;obtain⟨a,ws,rfl,n,q,z⟩:=Rep.Do.mp r;obtain⟨u,rfl,ru⟩:=lH rv;cases ru;obtain⟨its,r',pl,hz⟩:=I.list (SqL.of q);have hi:=pY hk z r';obtain⟨xs,e⟩:=hi.allInts.items;have hns:i::ns=xs.toList.map (·.1):=by rw[<-hi.numsOf,<-nums_intItems,<-e]
   have hl:s.heap.IsList a (intItems xs):=by rw[<-e];exact pl.isList
   have hsz:0<xs.size:=by have h3:=congrArg PC hns;rw[Ol,Oc]at h3;rw[<-PP];omega
   refine max_intList (I.ok.hd hc) hl hsz λv h' tk hv hk'=>?_;obtain⟨t,rfl⟩:=intItems_at hv;obtain⟨h1,h2⟩:=argBest_gt (numAt xs) (xs.size - 1);refine⟨.int _,H,I.kept (t':=tk) hk',⟨_,rfl⟩,?_⟩;have eM:numAt xs (argBest (λi j=>decide (numAt xs i > numAt xs j)) (xs.size - 1))=mZ i ns:=by
    obtain⟨g1,g2⟩:=r6 ns i;have m1:numAt xs (argBest (λi j=>decide (numAt xs i > numAt xs j)) (xs.size - 1))∈i::ns:=by rw[hns,numAt_eq];exact PySem.getD_mem (by rw[Oc,PP];omega)
    have k1:=g2 _ m1;rw[hns]at g1;obtain⟨j,hj,ej⟩:=mem_getD g1;rw[Oc,PP]at hj;rw[<-numAt_eq]at ej;have k2:=h2 j (by omega);rw[ej]at k2;exact Int.le_antisymm k1 k2
   rw[eM];exact hp H (Same.refl H) _ (Rep.GE _)
  .exact hp.elim
 .rename_i i j;obtain⟨v,ws,rfl,p,q⟩:=Reps.me.mp rs;obtain⟨v2,rfl,p2⟩:=q.one;cases Rep.AC.mp p;cases Rep.AC.mp p2;refine Bv hc kw s σ H _ us Q I rv ⟨i,j,rfl,?_⟩;exact hp H (Same.refl H) _ (Rep.GE _)
 .exact hp.elim
noncomputable def gO:List T->Option (List (List Int))
 |[] =>ZA []
 |.tup l::r=>match gm l,gO r with
  |some ns,ZA k=>if ns=[]then ZB else ZA (ns::k)
  |_,_=>ZB
 |_=>ZB
def nN(a b:List Int):Bool:=!cO b a
theorem iW:∀l,cO l l=ZD
 |[] =>rfl
 |a::l=>by unfold cO;rw[if_pos rfl];exact iW l
theorem l6:∀a b c,cO a b=ZC->cO b c=ZC->cO a c=ZC
 |[],[],_,h,_=>absurd h (by simp[cO])
 |_::_,[],_,h,_=>absurd h (by simp[cO])
 |[],_::_,[],_,h=>absurd h (by simp[cO])
 |[],_::_,_::_,_,_=>rfl
 |_::_,_::_,[],_,h=>absurd h (by simp[cO])
 |x::a,y::b,z::c,h,g=>by
  unfold cO at h g ⊢;by_cases e:x=y
  .subst e;rw[if_pos rfl]at h;by_cases e2:x=z
   .rw[if_pos e2]at g ⊢;exact l6 a b c h g
   .rw[if_neg e2]at g ⊢;exact g
  .rw[if_neg e]at h;by_cases e2:y=z
   .subst e2;rw[if_neg e];exact h
   .rw[if_neg e2]at g;have h1:=of_decide_eq_true h;have h2:=of_decide_eq_true g;rw[if_neg (by omega)];exact decide_eq_true (by omega)
theorem jQ:∀a b,cO a b=ZD->cO b a=ZD->a=b
 |[],[],_,_=>rfl
 |[],_::_,h,_=>absurd h (by simp[cO])
 |_::_,[],_,h=>absurd h (by simp[cO])
 |x::a,y::b,h,g=>by
  unfold cO at h g;by_cases e:x=y
  .subst e;rw[if_pos rfl]at h g;rw[jQ a b h g]
  .rw[if_neg e]at h;rw[if_neg (λz=>e z.symm)]at g;have h1:=of_decide_eq_false h;have h2:=of_decide_eq_false g;omega
def ql(a b c:List Int)(h:cO a c=ZC):cO a b=ZC\/cO b c=ZC:=by
 cases h1:cO a b with
 |true=>exact .inl rfl
 |false=>
  cases h2:cO b a with
  |true=>exact .inr (l6 _ _ _ h2 h)
  |false=>rw[<-jQ _ _ h1 h2];exact .inr h
def JS(a b c:List Int)(h:nN a b=ZC)(g:nN b c=ZC):nN a c=ZC:=by
 unfold nN at*;cases z:cO c a with
 |false=>rfl
 |true=>
  rcases ql c b a z with y|y
  .rw[y]at g;cases g
  .rw[y]at h;cases h
def Gm(a b:List Int):(nN a b||nN b a)=ZC:=by
 unfold nN;cases z:cO b a with
 |false=>rfl
 |true=>
  cases y:cO a b with
  |false=>rfl
  |true=>have:=l6 _ _ _ z y;rw[iW]at this;cases this
def Dp(a b:List Int)(h:nN a b=ZC)(g:nN b a=ZC):a=b:=by
 unfold nN at h g;refine jQ a b ?_ ?_
 .cases z:cO a b with
  |false=>rfl
  |true=>rw[z]at g;cases g
 .cases z:cO b a with
  |false=>rfl
  |true=>rw[z]at h;cases h
def iP{k m:List (List Int)}(p:m.Perm k)(s:m.Pairwise (λa b=>nN a b=ZC)):m=k.mergeSort nN:=
 List.Perm.eq_of_pairwise (le:=λa b=>nN a b=ZC) (λa b _ _ h g=>Dp a b h g) s (List.pairwise_mergeSort JS Gm k) (p.trans (List.mergeSort_perm k nN).symm)
theorem zO:∀(l m:List Int),HT.lexLt l m=cO l m
 |[],[] =>rfl
 |[],_::_=>rfl
 |_::_,[] =>rfl
 |a::l,b::m=>by rw[HT.lexLt_cons,zO l m];rfl
structure SrtB (k0:U2)(o:Array Xv)(st:SQ):Prop where
 p:(arrOf st).Perm o
 k:kindOf st=k0
 f:S7 st=ZB
 e:R0 st= #[]
def SrtB.len{o:Array Xv}(b:SrtB k0 o st):(arrOf st).size=o.size:=b.p.size_eq
variable{xs:Array Xv}
def SrtB.arr{o:Array Xv}(b:SrtB k0 o st)(h:xs.Perm (arrOf st)):SrtB k0 o (setArr st xs):=⟨h.trans b.p,b.k,b.f,b.e⟩
def xg(κ:KeyKind)(k0:U2)(prog:OI)(w:Py)(A:OW)(s:Oe):Prop:=
 ∀(E:WP)(x y:Ob)(a b:κ.α)(Q:Bool->Oe->Prop),κ.keyOf x=ZA a->κ.keyOf y=ZA b->Q (κ.blt a b) s->ZJ (ZK prog w) A (keyLt' k0 x y) Q E s
noncomputable abbrev gk(κ:KeyKind)(st:SQ)(i:Nat):κ.α:=KK κ (arrOf st) i
variable{κ:KeyKind}
def EZ(h:Qs κ xs n)(hl:κ.kle (KK κ xs (n - 1)) (KK κ xs n)):Qs κ xs (n+1):=λi j le lt=>by
 rcases Rm j n with z|z
 .exact h i j le z
 .obtain rfl:j=n:=by omega
  rcases Rm i j with y|y
  .exact SV (h i (j - 1) (by omega) (by omega)) hl
  .rw[show i=j by omega];exact RI _
def oK(h:Vs κ xs n)(hl:κ.kle (KK κ xs n) (KK κ xs (n - 1))):Vs κ xs (n+1):=λi j le lt=>by
 rcases Rm j n with z|z
 .exact h i j le z
 .obtain rfl:j=n:=by omega
  rcases Rm i j with y|y
  .exact SV hl (h i (j - 1) (by omega) (by omega))
  .rw[show i=j by omega];exact RI _
def BR(h:n<=1):Qs κ xs n:=λi j le lt=>by rw[show i=j by omega];exact RI _
def Ko(h:n<=1):Vs κ xs n:=λi j le lt=>by rw[show i=j by omega];exact RI _
section
variable {o:Array Xv}
def Ho(b:SrtB k0 o st)(ks:KeysOf κ o)(hi:i<o.size):∃z,(arrOf st)[i]?=ZA z/\κ.keyOf z.1=ZA (gk κ st i):=by have h1:i<(arrOf st).size:=b.len▸hi;obtain⟨a,ha⟩:=ks _ ((Tq.mp b.p).mem_iff.mp (Array.getElem_mem_toList h1));have e:=getElem?_pos (arrOf st) i h1;refine⟨_,e,?_⟩;show _=ZA (KK κ (arrOf st) i);unfold KK;rw[e,ha];simp[ha]
def vC(c:xg κ k0 prog w A s)(ks:KeysOf κ o)(b:SrtB k0 o st){Q:Option Bool->SQ->Prop}(hi:i<o.size)(hj:j<o.size)(q:Q (ZA (κ.blt (gk κ st i) (gk κ st j))) st):
  wpS (ZK prog w) A E s (ltAt' i j) Q st:=by
 obtain⟨⟨x,x2⟩,e1,k1⟩:=Ho b ks hi;obtain⟨⟨y,y2⟩,e2,k2⟩:=Ho b ks hj;rw[ltAt'_eq];refine PL (Xo ?_);dsimp only;rw[elem'_eq,elem'_eq,e1,e2];refine PL (QC (PL (QC ?_)));rw[lt'_eq];refine PL (Xo ?_);rw[b.k];exact PL (wpS_lift (VY (c _ x y _ _ _ k1 k2 ⟨rfl,QC q⟩)))
def Hn{Q:AscSt->SQ->Prop}(c:xg κ k0 prog w A s)(ks:KeysOf κ o)(b:SrtB k0 o st)(hm:m<=o.size)(h1:1<=a)(h2:a<=m)(so:Qs κ (arrOf st) a)
  (q:∀n,a<=n->n<=m->Qs κ (arrOf st) n->(n≠m->κ.klt (gk κ st n) (gk κ st (n - 1)))->Q (ZB,n) st):wpS (ZK prog w) A E s (ascLoop a m) Q st:=by
 unfold ascLoop;refine SU (I:=λn r st'=>r=(ZB,n)/\st'=st/\Qs κ (arrOf st) n) (λn r st' l1 l2 hI=>?_) (λr st' hI=>?_) ⟨rfl,rfl,so⟩
 .obtain⟨rfl,rfl,sn⟩:=hI;refine PL (vC c ks b (Ot l2 hm) (RD (Wa _ _) (Ot l2 hm)) ?_);cases z:κ.blt (gk κ st' n) (gk κ st' (n - 1))with
  |true=>exact QC (q n l1 (Qc l2) sn λ_=>z)
  |false=>exact QC ⟨rfl,rfl,EZ sn z⟩
 .obtain⟨rfl,rfl,sn⟩:=hI;have e:max a m=m:=SW h2;rw[e]at sn ⊢;exact q m h2 (Ou _) sn λh=>absurd rfl h
def tI{Q:Unit->SQ->Prop}(b:SrtB k0 o st)(q:∀st',SrtB k0 o st'->arrOf st'=mirror (arrOf st) i j ((j - i) / 2)->Q () st'):wpS (ZK prog w) A E s (reverseSlice' i j) Q st:=by rw[reverseSlice'_eq];exact Wo (q _ (b.arr (mirror_perm _ _ _ _)) rfl)
abbrev EK(κ:KeyKind)(k0:U2)(o:Array Xv)(m:Nat)(Q:Option Nat->SQ->Prop):Prop:=∀n st',SrtB k0 o st'->1<=n->n<=m->Qs κ (arrOf st') n->Q (ZA n) st'
def zg(c:xg κ k0 prog w A s)(ks:KeysOf κ o)(b:SrtB k0 o st)(hm:m<=o.size)(h1:1<=n)(h2:n<=m)(dn:Vs κ (arrOf st) n)(q:EK κ k0 o m Q):
  wpS (ZK prog w) A E s (tail3 n m) Q st:=by
 unfold tail3;refine PL (tI b λst' b' e=>PL (Hn c ks b' hm h1 h2 (λi j le lt=>?_) λk l1 l2 so _=>QC (q k st' b' (by omega) l2 so)));have hz:n<=(arrOf st).size:=by rw[b.len];omega
 rw[e,KK_mirror hz,KK_mirror hz,if_pos ⟨Pk _,by omega⟩,if_pos ⟨Pk _,by omega⟩];exact dn _ _ (by omega) (by omega)
def t9(g1:k - 1<=i)(g2:i<k):i=k - 1:=UK (S0 g2) g1
def K5{Q:DescSt->SQ->Prop}(c:xg κ k0 prog w A s)(ks:KeysOf κ o)(b:SrtB k0 o st)(hm:m<=o.size)(h1:1<=n)(h2:n<=m)(dn:Vs κ (arrOf st) n)
  (q:∀k r st',SrtB k0 o st'->n<=k->k<=m->Vs κ (arrOf st') k->r+1<=k->(∀i,k - (r+1)<=i->i<k->gk κ st' i=gk κ st' (k - 1))->Q (ZB,k,r) st'):wpS (ZK prog w) A E s (descLoop n m) Q st:=by
 unfold descLoop;refine SU (I:=λk c st'=>∃r,c=(ZB,k,r)/\SrtB k0 o st'/\Vs κ (arrOf st') k/\r+1<=k/\∀i,k - (r+1)<=i->i<k->gk κ st' i=gk κ st' (k - 1)) (λk r st' l1 l2 hI=>?_) (λr st' hI=>?_)
  ⟨0,rfl,b,dn,h1,λi g1 g2=>by rw[t9 g1 g2]⟩
 .obtain⟨r,rfl,b',d',hr,eq⟩:=hI;dsimp only;have kk:=Ot l2 hm;have kp:k - 1<o.size:=RD (Wa _ _) kk;have hz:k<=(arrOf st').size:=by rw[b'.len];exact Qc kk
  refine PL (vC c ks b' kk kp ?_);cases z:κ.blt (gk κ st' k) (gk κ st' (k - 1))with
  |true=>
   have d2:=oK d' (TU z);show wpS _ _ _ _ (if r > 0 then _ else _) _ _;by_cases hr0:r > 0
   .rw[if_pos hr0];refine PL (tI b' λst2 b2 e2=>QC ⟨0,rfl,b2,λi j le lt=>?_,Uk (Pk _),λi g1 g2=>by rw[t9 g1 g2]⟩);rw[e2,Q0 hz eq,Q0 hz eq];exact d2 i j le lt
   .rw[if_neg hr0];exact QC ⟨0,rfl,b',d2,Uk (Pk _),λi g1 g2=>by rw[t9 g1 g2]⟩
  |false=>
   refine PL (vC c ks b' kp kk ?_);cases y:κ.blt (gk κ st' (k - 1)) (gk κ st' k)with
   |true=>exact QC (q k r st' b' l1 (Qc l2) d' hr eq)
   |false=>
    refine QC ⟨r+1,rfl,b',oK d' y,Uk hr,λi g1 g2=>?_⟩;have e:gk κ st' k=gk κ st' (k - 1):=Vl y z;rw[VD];rcases Rm i k with g3|g3
    .rw[e];exact eq i (by rw[Nat.add_sub_add_right]at g1;exact g1) g3
    .rw[UK (TV g2) g3]
 .obtain⟨r,rfl,b',d',hr,eq⟩:=hI;have e:max n m=m:=SW h2;rw[e]at d' hr eq ⊢;exact q m r st' b' h2 (Ou _) d' hr eq
def zh(c:xg κ k0 prog w A s)(ks:KeysOf κ o)(b:SrtB k0 o st)(hm:m<=o.size)(h2:n+1<=m)(dn:Vs κ (arrOf st) (n+1))(q:EK κ k0 o m Q):
  wpS (ZK prog w) A E s (descPart n m) Q st:=by
 unfold descPart;refine PL (wpS_lift (SD ⟨rfl,PL (K5 c ks b hm (by omega) h2 dn λk r st' b' l1 l2 d' hr eq=>?_)⟩));dsimp only;have hz:k<=(arrOf st').size:=by rw[b'.len];omega
 by_cases hr0:r > 0
 .rw[if_pos hr0];refine PL (tI b' λst2 b2 e2=>zg c ks b2 hm (by omega) l2 (λi j le lt=>?_) q);rw[e2,Q0 hz eq,Q0 hz eq];exact d' i j le lt
 .rw[if_neg hr0];exact zg c ks b' hm (by omega) l2 d' q
def Iu(c:xg κ k0 prog w A s)(ks:KeysOf κ o)(b:SrtB k0 o st)(hm:m<=o.size)(h1:1<=m)(q:EK κ k0 o m Q):wpS (ZK prog w) A E s (countRun' 0 m) Q st:=by
 rw[countRun0_eq];refine PL (Hn c ks b hm (Ou 1) h1 (BR (Ou 1)) λn l1 l2 so lt=>?_);dsimp only;by_cases e:n=m
 .rw[if_pos (beq_iff_eq.mpr e)];exact QC (q n st b l1 l2 so)
 rw[if_neg (λz=>e (beq_iff_eq.mp z))];have fall:=TU (lt e);by_cases g:n > 1
 .rw[if_pos g];refine PL (vC c ks b (by omega) (by omega) ?_);cases z:κ.blt (gk κ st 0) (gk κ st (n - 1))with
  |true=>exact QC (q n st b l1 l2 so)
  |false=>
   have all:∀k,0<=k->k<n->gk κ st k=gk κ st (n - 1):=λk _ hk=>
    Vl (so k (n - 1) (by omega) (by omega)) (SV (show κ.kle (gk κ st (n - 1)) (gk κ st 0)from z) (so 0 k (by omega) hk))
   have hz:n<=(arrOf st).size:=by rw[b.len];omega
   refine PL (tI b λst2 b2 e2=>zh c ks b2 hm (by omega) (oK (λi j le lt=>?_) ?_) q)
   .rw[e2,Q0 hz all,Q0 hz all];show κ.kle (gk κ st j) (gk κ st i);rw[all i (Pk _) (by omega),all j (Pk _) (by omega)];exact RI _
   .rw[e2,Q0 hz all,Q0 hz all];exact fall
 .rw[if_neg g];exact zh c ks b hm (by omega) (oK (Ko (by omega)) fall) q
def JK{l u:Nat}(h:l<u):l<=(l+u) / 2/\(l+u) / 2<u:=⟨by omega,by omega⟩
def Ka{l:Nat}(hk:k<xs.size)(lk:l<=k)(so:Qs κ xs k)(lo:∀i,i<l->κ.kle (KK κ xs i) (KK κ xs k))(hi:∀i,l<=i->i<k->κ.klt (KK κ xs k) (KK κ xs i)):Qs κ (bubble xs k (k - l)) (k+1):=λi j le lt=>by
 rw[KK_bubble hk (Wa _ _),KK_bubble hk (Wa _ _),Nat.sub_sub_self lk];have lt:=TV lt;rcases Wb i l with i1|i1|i1
 .rw[if_neg (O8 i1),if_neg λz=>Nat.lt_asymm z.1 i1];rcases Wb j l with j1|j1|j1
  .rw[if_neg (O8 j1),if_neg λz=>Nat.lt_asymm z.1 j1];exact so _ _ le (Ot j1 lk)
  .rw[if_pos j1];exact lo i i1
  .rw[if_neg (QH j1),if_pos ⟨j1,lt⟩];exact so _ _ (S0 (UD i1 j1)) (Ot (S1 j1) lt)
 .rw[if_pos i1];rcases Nat.lt_or_eq_of_le (i1▸le:l<=j)with j1|j1
  .rw[if_neg (QH j1),if_pos ⟨j1,lt⟩];exact TU (hi _ (S0 j1) (Ot (S1 j1) lt))
  .rw[if_pos j1.symm];exact RI _
 .have j1:=Ot i1 le;rw[if_neg (QH i1),if_pos ⟨i1,OJ le lt⟩,if_neg (QH j1),if_pos ⟨j1,lt⟩];exact so _ _ (Nat.sub_le_sub_right le 1) (Ot (S1 j1) lt)
def Iv{Q:Bool->SQ->Prop}(c:xg κ k0 prog w A s)(ks:KeysOf κ o)(b:SrtB k0 o st)(h1:1<=n)(hn:n<=o.size)(ha:a<=n)(so:Qs κ (arrOf st) a)
  (q:∀st',SrtB k0 o st'->Qs κ (arrOf st') n->Q ZC st'):wpS (ZK prog w) A E s (binarySort' 0 n a) Q st:=by
 rw[binarySort'_eq];simp only[Sa];refine PL (SU (I:=λk r st'=>r=(ZB,())/\SrtB k0 o st'/\Qs κ (arrOf st') k) (λk r st1 l1 l2 hI=>?_) (λr st1 hI=>?_) ⟨rfl,b,?_⟩)
 .obtain⟨rfl,b1,so1⟩:=hI;have hk:k<o.size:=Ot l2 hn;refine PL (wpS_mono (SU (I:=λx r st2=>st2=st1/\∃l u,r=(ZB,l,u)/\l<=u/\u<=k/\u<=k+l - x/\(∀i,i<l->κ.kle (gk κ st1 i) (gk κ st1 k))/\∀i,u<=i->i<k->κ.klt (gk κ st1 k) (gk κ st1 i))
   (Q:=λr st2=>st2=st1/\∃l u,r=(ZB,l,u)/\l<=k/\(∀i,i<l->κ.kle (gk κ st1 i) (gk κ st1 k))/\∀i,l<=i->i<k->κ.klt (gk κ st1 k) (gk κ st1 i)) (λx r st2 y1 y2 hJ=>?stp) (λr st2 hJ=>?fin) ⟨rfl,0,k,rfl,Pk _,Ou _,Ou _,λi hi=>absurd hi (W9 _),λi g1 g2=>absurd g2 (Nat.not_lt.mpr g1)⟩) λr st2 hJ=>?pst)
  case stp=>
   obtain⟨rfl,l,u,rfl,lu,uk,mz,lo,hi⟩:=hJ;dsimp only;by_cases g:l ≥ u
   .rw[if_pos g];exact QC ⟨rfl,l,u,rfl,OJ lu uk,lo,λi g1 g2=>hi i (OJ g g1) g2⟩
   .rw[if_neg g];have hm:=JK (Nat.lt_of_not_le g);generalize (l+u) / 2=m at hm ⊢;have mk:m<k:=Ot hm.2 uk;refine PL (vC c ks b1 hk (UD mk hk) ?_);have am:u<=k+(m+1) - (x+1)/\m<=k+l - (x+1):=by clear lo hi so so1 q ks c b b1 hn ha h1;omega
    cases z:κ.blt (gk κ st2 k) (gk κ st2 m)with
    |true=>exact QC ⟨rfl,l,m,rfl,hm.1,Qc mk,am.2,lo,λi g1 g2=>KeyOrd.klt_of_klt_of_kle z (so1 _ i g1 g2)⟩
    |false=>exact QC ⟨rfl,m+1,u,rfl,hm.2,uk,am.1,λi g1=>SV (so1 i m (TV g1) mk) z,hi⟩
  case fin=>
   obtain⟨rfl,l,u,rfl,lu,uk,mz,lo,hi⟩:=hJ;have e:u<=l:=by clear lo hi so so1 q ks c b b1 hn ha h1;omega
   exact⟨rfl,l,u,rfl,OJ lu uk,lo,λi g1 g2=>hi i (OJ e g1) g2⟩
  case pst=>
   obtain⟨rfl,l,u,rfl,lk,lo,hi⟩:=hJ;dsimp only;rw[moveDown'_eq];exact PL (Wo (QC ⟨rfl,b1.arr (bubble_perm _ _ _),Ka (by rw[b1.len];exact hk) lk so1 lo hi⟩))
 .obtain⟨rfl,b1,so1⟩:=hI;rw[SW (Nat.max_le.mpr ⟨ha,h1⟩)]at so1;exact QC (q st1 b1 so1)
 .rcases Nat.le_total a 1 with g|g
  .rw[SW g];exact BR (Ou 1)
  .rw[Nat.max_eq_left g];exact so
def Iw{Q:Unit->SQ->Prop}(c:xg κ k0 prog w A s)(ks:KeysOf κ o)(b:SrtB k0 o st)(h2:2<=o.size)(h64:o.size<64)
  (q:∀st',(arrOf st').Perm o->S7 st'=ZB->Qs κ (arrOf st') o.size->Q () st'):wpS (ZK prog w) A E s sortRuns' Q st:=by
 rw[sortRuns'_eq];refine PL (Xo ?_);dsimp only;have hmr:minRun' o.size o.size 0=o.size:=by
  cases hz:o.size with
  |zero=>omega
  |succ f=>rw[minRun'_succ,if_pos (by omega)]
 simp only[b.len,hmr];refine PL (wpS_mono (SU (I:=λx r st1=>(x=0/\r=(ZB,0)/\SrtB k0 o st1)\/(x≠0/\r=(ZB,o.size)/\(arrOf st1).Perm o/\S7 st1=ZB/\(R0 st1).size=1/\Qs κ (arrOf st1) o.size))
  (Q:=λr st1=>r=(ZB,o.size)/\(arrOf st1).Perm o/\S7 st1=ZB/\(R0 st1).size=1/\Qs κ (arrOf st1) o.size) (λx r st1 l1 l2 hI=>?stp) (λr st1 hI=>?fin) (.inl ⟨rfl,rfl,b⟩)) λr st1 hI=>?pst)
 case stp=>
  rcases hI with⟨rfl,rfl,b1⟩|⟨_,rfl,hI⟩
  .dsimp only;rw[if_neg (by omega)];simp only[SL,Wu,Sa];refine PL (Iu c ks b1 (Ou _) (by omega) λn st2 b2 n1 n2 so2=>?_);dsimp only;have fin:∀st3,SrtB k0 o st3->Qs κ (arrOf st3) o.size->(arrOf (Wp st3 ((R0 st3).push (0,o.size,0)))).Perm o/\S7 (Wp st3 ((R0 st3).push (0,o.size,0)))=ZB ∧
     (R0 (Wp st3 ((R0 st3).push (0,o.size,0)))).size=1/\Qs κ (arrOf (Wp st3 ((R0 st3).push (0,o.size,0)))) o.size:=λst3 b3 so3=>⟨b3.p,b3.f,by
    show((R0 st3).push _).size=1;rw[b3.e];rfl,so3⟩
   by_cases g:n<o.size
   .rw[if_pos g];refine PL (wpS_lift (SD ⟨rfl,PL (Iv c ks b2 (Sz h2) (Ou _) n2 so2 λst3 b3 so3=>?_)⟩));simp only[Bool.not_true,Qg,if_false];refine PL (Xo ?_);rw[show(R0 st3).back?=ZB by rw[b3.e];rfl];exact PL (Wo (QC (.inr ⟨by omega,rfl,fin st3 b3 so3⟩)))
   .rw[if_neg g];obtain rfl:n=o.size:=by omega
    refine PL (Xo ?_);rw[show(R0 st2).back?=ZB by rw[b2.e];rfl];exact PL (Wo (QC (.inr ⟨by omega,rfl,fin st2 b2 so2⟩)))
  .dsimp only;rw[if_pos (Ou _)];exact QC ⟨rfl,hI⟩
 case fin=>
  rcases hI with⟨h,_,_⟩|⟨_,hI⟩
  .omega
  .exact hI
 case pst=>
  obtain⟨rfl,hp,hf,he,hs⟩:=hI;dsimp only;refine PL (wpS_mono (SU (I:=λ_ r st2=>st2=st1/\r=(ZB,())) (Q:=λr st2=>st2=st1/\r=(ZB,())) (λx r st2 _ _ hJ=>?stp) (λ_ _ h=>h) ⟨rfl,rfl⟩) λr st2 hJ=>?pst);case stp=>
   obtain⟨rfl,rfl⟩:=hJ;refine PL (Xo ?_);rw[if_pos (R9 he)];exact QC ⟨rfl,rfl⟩
  case pst=>
   obtain⟨rfl,rfl⟩:=hJ;exact QC (q _ hp hf hs)
end
theorem km:∀{m:List T}{ns:List Int},gm m=ZA ns->m=ns.map .int
 |[],ns,h=>by cases h;rfl
 |t::m,ns,h=>by
  cases t with
  |int i=>
   unfold gm at h;obtain⟨k,h1,rfl⟩:=Qr.mp h;rw[km h1];rfl
  |_=>cases h
variable (R:RK)
variable {R:RK}
variable{h:ZH}
theorem RK.key_of(r:R.V h v ns):R.key h v=ZA ns:=by unfold RK.key;have e:∃ns,R.V h v ns:=⟨ns,r⟩;rw[dif_pos e,R.inj e.choose_spec r]
theorem RK.Nu(e:R.key h v=ZA ns):R.V h v ns:=by
 unfold RK.key at e;split at e
 .rename_i g;cases e;exact g.choose_spec
 .cases e
def RK.kind(R:RK)(h:ZH):PyProof.Rows.KeyKind:={α:=List Int,blt:=cO,irrefl:=iW,trans:=l6,negTrans:=ql,total:=jQ,keyOf:=R.key h,dflt:=[]}
def RK.row(R:RK)(h:ZH)(v:Ob):List Int:=(R.key h v).getD []
theorem RK.NN(r:R.V h v ns):R.row h v=ns:=by unfold RK.row;rw[RK.key_of r];rfl
theorem Kc(v:Ob):firstOfTuple' v=(typeOf v >>= λt=>if t != .type "tuple" then pure ZB else Builtin.List.listItems v >>= λxs=>pure xs[0]?):=rfl
theorem Ac:∀{vs:List Ob}{Q:List (Option Ob)->Oe->Prop},(∀v∈vs,∃ns,R.V s.heap v ns)->(∀us ns,Qq us ns->us.length=vs.length->Q (us.map ZA) s)->ZJ (ZK prog w) A (vs.mapM firstOfTuple') Q E s
 |[],Q,_,q=>by rw[List.mapM_nil];exact Om (q [] [] .nil rfl)
 |v::vs,Q,h,q=>by rw[List.mapM_cons,Kc];obtain⟨ns,r⟩:=h _ Of;obtain⟨a,its,n,o,m,t,rfl,e,hc,d,e0⟩:=R.fst r;refine N8 (N8 (Se (T:="tuple") ⟨o,e,hc⟩ ?_));rw[if_neg (by decide+kernel)];refine N8 (WD e d (Om ?_));rw[e0];exact N8 (Ac (λv hv=>h v (N9 _ hv)) λus ns j hl=>Om (q (.int m t::us) (m::ns) (.cons m t j) (by rw[Ol,Ol,hl])))
theorem kk3{Q:U2->Oe->Prop}(hv:∀v∈vs,∃ns,R.V s.heap v ns)(ne:vs≠ [])(q:Q (tuples' ZC) s):ZJ (ZK prog w) A (keyKind' vs.toArray) Q E s:=by
 rw[keyKind'_eq,Wc];refine N8 ?_;rw[map_eq_pure_bind];refine N8 (Ac hv λus ns i hl=>Om ?_);rw[if_pos (by simp)];refine N8 (SD ?_);have ef:(us.map ZA).toArray.filterMap id=us.toArray:=by simp
 rw[ef,oneTypeOnly'_eq,Wc,mapM_typeOf_ints i];cases i with
 |nil=>exact absurd (List.length_eq_zero_iff.mp hl.symm) ne
 |@cons m t us' ns' i'=>
  simp only[map_pure,pure_bind];have hall:((VE (λ_=>Ry "int") (Qe m t::us')).toArray.all λx=>x == Ry "int")=ZC:=by simp only[List.all_toArray,Wt,OH];intro _ _;rfl
  rw[show(VE (λ_=>Ry "int") (Qe m t::us')).toArray[0]?=ZA (Ry "int")by simp];simp only[hall,if_true,pure_bind];exact Om q
theorem out3{o:Array Xv}(hp:xs.Perm o)(hs:Qs (R.kind h) xs o.size):xs.toList.Perm o.toList/\(xs.toList.map λp=>R.row h p.1).Pairwise (λa b=>nN a b=ZC):=by
 refine⟨Tq.mp hp,?_⟩;rw[RW];intro i j hi hj hij;have hi':i<xs.size:=by simpa using hi
 have hj':j<xs.size:=by simpa using hj
 have z:cO (KK (R.kind h) xs j) (KK (R.kind h) xs i)=ZD:=hs i j (Qc hij) (by rw[<-hp.size_eq];exact hj');have g:∀k (hk:k<xs.size),KK (R.kind h) xs k=R.row h xs[k].1:=λk hk=>by unfold KK;rw[getElem?_pos xs k hk];rfl
 rw[g i hi',g j hj']at z;simp only[Rw,Array.getElem_toList];unfold nN;rw[z];rfl
theorem run3{ks:List Ob}{Q:SQ->Oe->Prop}(hu:A.units+60<cLine)(hl:ks.length=vs.length)(hk:∀v∈ks,∃ns,R.V s.heap v ns)(h2:2<=vs.length)(h64:vs.length<64)
  (q:∀st',S7 st'=ZB->(arrOf st').toList.Perm (ks.zip vs)->((arrOf st').toList.map λp=>R.row s.heap p.1).Pairwise (λa b=>nN a b=ZC)->Q st' s):
  ZJ (ZK prog w) A ((sortRuns').run (SortSt.mk' (tuples' ZC) (ks.toArray.zip vs.toArray) #[] 7 ZB)) (λr s'=>Q r.2 s') E s:=by
 have hz:(ks.toArray.zip vs.toArray).size=vs.length:=by simp[hl]
 have hz2:(ks.toArray.zip vs.toArray).toList=ks.zip vs:=by simp
 have kso:PyProof.Rows.KeysOf (R.kind s.heap) (ks.toArray.zip vs.toArray):=λp hp=>by rw[hz2]at hp;obtain⟨ns,r⟩:=hk p.1 (Rj hp).1;exact⟨ns,RK.key_of r⟩
 refine Qp (Iw (κ:=R.kind s.heap) (k0:=tuples' ZC) (o:=ks.toArray.zip vs.toArray) (st:=SortSt.mk' (tuples' ZC) (ks.toArray.zip vs.toArray) #[] 7 ZB)
  (Q:=λ_ st'=>(arrOf st').Perm (ks.toArray.zip vs.toArray)/\S7 st'=ZB/\Qs (R.kind s.heap) (arrOf st') (ks.toArray.zip vs.toArray).size) (λE x y a b Q hx hy q=>R.lt hu (RK.Nu hx) (RK.Nu hy) q) kso ⟨Array.Perm.refl _,rfl,rfl,rfl⟩
  (by rw[hz];omega) (by rw[hz];exact h64) λst' a1 a2 a3=>⟨a1,a2,a3⟩) ?_ λ_ _ e=>e
 rintro ⟨⟨⟩,st'⟩ s' ⟨rfl,hp,hf,hs⟩;obtain⟨g1,g2⟩:=out3 hp hs;exact q st' hf (by rw[<-hz2];exact g1) g2
end Tr
namespace L2
open PySem PySem.Spec PyProof.Rows
def wU{b:Nat}:b∈ [n+4,n,n+1,n+2,n+3] ↔n<=b/\b<n+5:=by simp only[Oh,Pe,or_false];omega
end L2
namespace Tr
open PySem PySem.Spec PyProof.Rows L2
def Wk(K:N7)(O:Ow)(H1:Hp)(l:List T)(v:V):Prop:=∃(aa:ZE)(tt:Bool)(ws:List V),v=.ref aa/\¬ O aa/\Reps K O H1 l ws/\EO K H1 aa tt ws/\(∀P Hc,SameO P H1 Hc->¬ P aa->EO K Hc aa tt ws)/\¬ Nw K H1 aa
noncomputable def c0(g:List T->Rs T)(_:En):Rs T:=match g []with
 |.ok t=>.ok t
 |_=>.bad
section
variable {X:Cx}{a b:ZG}{pos p2 p3:Pos}{x:Str}
def q_c0{f:ZE}{ps:List Str}{g:List T->Rs T}{p:Pos}(F:BK X.prog X.w X.K X.mg X.base k f fd ps 0 g)(hr:Room k X.A)(hm:X.mg x=ZA (.ref f))(hk:Qx X.K (.ref f)=ZC)(hb:Binds X.K fd ps [])
  (hg:Gl X x:=by rfl) (hdb:autoParam ((x == ("__debug__" : Str))=ZD) s_):c8 X (.Call (.Name x p) [] [] pos) (c0 g):=by
 intro kw s σ H Q I ⟨Z,O,E,hq⟩;unfold c0 at hq;cases q2:g []with
 |bad=>rw[q2]at hq;exact hq.elim
 |err c=>rw[q2]at hq;exact hq.elim
 |ok t=>
  rw[q2]at hq;refine CT (E:=E0) F.h hr hg hm hk hb .nil zC hdb kw s σ H Q I ?_;refine⟨[],O,Reps.GM,E.mtb,rfl,?_⟩;rw[q2];exact λv H' s2 r=>hq H' s2 v r
end
end Tr
variable{b:Int}
namespace L2
open PySem PySem.Spec PyProof.Rows
def nG(a b:Int):Ro a b (-1)=if a > b then a - b else 0:=by unfold Ro;simp only[show ¬((-1:Int) > 0)by decide,if_false,W7,UC];split <;> omega
def Fm{a:Int}(ha : -(2 ^ 62)<=a)(ha':a<2 ^ 62)(hb : -(2 ^ 62)<=b)(hb':b<2 ^ 62):Vf a b (-1)=ZC:=by unfold Vf;rw[nG];simp only[Builtin.Range.rangeFitsLong,Oa,Td,decide_eq_true_eq,beq_iff_eq,show ¬((-1:Int) > 0)by decide,if_false];split <;> omega
def Itm(lo:Int)(n:Nat):It:=⟨λi _=>i<n,λi H x H'=>H'=H/\x=.int (lo - i),λi _=>n<=i⟩
variable{tg:ZG}
def vh(it:ZE)(lo:Int)(n:Nat):Bz P w K tg (Itm lo n) [it] it (λi h=>Vp h it (lo+(i:Nat)*(-1)) ((n:Int) - (i:Nat)) (-1)) where
 mem:=by simp
 obj:=λi h st b hb=>by
  have e:b=it:=by simpa using hb
  subst e;exact⟨_,st,λv z=>by have z':W2 _=Data.cell v:=z;cases z'⟩
 keep:=λi h h' st k=>k it (by simp) _ st
 item:=by intro X hP hw hK hc i kw s σ H E I hf st hg;subst hP hw hK;obtain⟨f0,f1,f2,f3,f4,f5⟩:=hf it (by simp);have W:=Walks.range (prog:=X.prog) (w:=X.w) (I.ok.hd hc) it lo (-1) n;refine W.item i s _ _ hg st λv h' tk hv st' kk=>?_;obtain⟨t,rfl⟩:=hv;have I1:Inv X kw σ H {s with heap:=h',toks:=tk}:=I.turned (λb o hb e=>kk b o (by simpa using hb) e) f0 f1 f3 f4 f5;refine⟨_,rfl,Ab (s:={s with heap:=h',toks:=tk}) (n:="range_iterator") st' rfl rfl (by decide) ⟨.int (lo - i),H,I1,⟨t,?_⟩,⟨rfl,rfl⟩,st',λb hb=>(hf b hb).1⟩⟩;congr 1;omega
 done:=by intro X hP hw hK hc i kw s σ H E I hf st hg;subst hP hw hK;obtain⟨f0,f1,f2,f3,f4,f5⟩:=hf it (by simp);exact Uu (I.ok.hd hc) st (by have:n<=i:=hg;omega) λh' eb=>⟨rfl,I.turned (t':=s.toks) (λb o hb e=>eb b o hb e) f0 f1 f3 f4 f5⟩
 self:=λ_ _ _ _ _ st h=>Uv st h
section
variable {X:Cx}
def AH{kw:Uf}{σ:St}{H:Hp}{R:It->Hp->Prop}{lo hi:Int}{t u v:Tok}(I:Inv X kw σ H s)(h1 : -(2 ^ 62)<=lo)(h2:lo<2 ^ 62)(h3 : -(2 ^ 62)<=hi)(h4:hi<2 ^ 62)
  (q:R (Itm lo (lo - hi).toNat) H):ZJ (ZK X.prog X.w) X.A (pyIter (.ref s.heap.objs.size)) (MY X kw σ tg R) E {s with heap:=s.heap.push {cls:=.type "range",data:=.fields #[.int lo t,.int hi u,.int (-1) v]},toks:=tk}:=by
 refine VP (W3 ..) (Fm h1 h2 h3 h4) ?_;have I1:Inv X kw σ H {s with heap:=s.heap.push {cls:=.type "range",data:=.fields #[.int lo t,.int hi u,.int (-1) v]},toks:=tk}:=I.kept λb o e=>Oi _ e;refine⟨(s.heap.push {cls:=.type "range",data:=.fields #[.int lo t,.int hi u,.int (-1) v]}).objs.size,[(s.heap.push {cls:=.type "range",data:=.fields #[.int lo t,.int hi u,.int (-1) v]}).objs.size],_,_,H,rfl,
  I1.kept (t':=tk) λb o e=>Oi _ e,vh _ lo (lo - hi).toNat,?_,λb hb=>?_,q⟩
 .have e1:lo+((0:Nat):Int)*(-1)=lo:=by simp
  have e2:(((lo - hi).toNat:Nat):Int) - ((0:Nat):Int)=Ro lo hi (-1):=by rw[nG];split <;> omega
  show Vp _ _ (lo+((0:Nat):Int)*(-1)) ((((lo - hi).toNat:Nat):Int) - ((0:Nat):Int)) (-1);rw[e1,e2];exact OA _ rfl
 .have e:b=(s.heap.push {cls:=.type "range",data:=.fields #[.int lo t,.int hi u,.int (-1) v]}).objs.size:=by simpa using hb
  subst e;exact I1.Nl (Ou _) (I1.hok.fresh (Ou _))
end
end L2
namespace Tr
open PySem PySem.Spec PyProof.Rows L2
section
variable {X:Cx}{a b c:ZG}{fs:Y0}{p pos:Pos}
def Me{O:Ow}{H:Hp}(lo:Int)(n:Nat):MK K O H ((Oo n).map λ(k:Nat)=>T.int (lo - (k:Int))) (Itm lo n):=λP O' hP hO i Hc hs ht=>by
 refine⟨λh=>?_,λt h=>?_⟩
 .show n<=i;rw[Oc,OV]at h;exact h
 .rw[Ox]at h;by_cases hi':i<n
  .rw[Qt hi']at h;cases h;refine⟨hi',λx Hc' y=>?_⟩;obtain⟨e,y⟩:=y;subst e y;exact⟨Same.refl _,Rep.GE _⟩
  .rw[PQ (by simpa using hi')]at h;cases h
def AI{tg:ZG}(hm:X.mg "range" =ZB)(ha:qT X [a,b,c] fs)(hg:Gl X "range":=by rfl)(hn:bj [a,b,c]=ZC:=by rfl):BB X tg (.Call (.Name "range" p) [a,b,c] [] pos) (Mi fs):=by
 unfold bj at hn;rw[Oa]at hn;intro kw s σ H R I ⟨Z,O,E,h⟩;have h1:=eF E h;refine Call_ (fg I hg hm boot_range (Pb (cL (ha pos kw s σ H _ I h1) λus s1 q=>?_) (bo hn.1) (gi hn.2)));obtain⟨vs,H1,I1,r1,ts,rs,s',E',q1⟩:=q;split at q1
 .rename_i i j;by_cases hj:(mh i&&mh j)=ZC
  .rw[if_pos hj]at q1;rw[Oa]at hj;obtain⟨b1,b2⟩:=fE hj.1;obtain⟨b3,b4⟩:=fE hj.2;obtain⟨v,ws,rfl,p1,q⟩:=Reps.me.mp rs;obtain⟨v2,ws2,rfl,p2,q2⟩:=Reps.me.mp q;obtain⟨v3,rfl,p3⟩:=q2.one;cases Rep.AC.mp p1;cases Rep.AC.mp p2;cases Rep.AC.mp p3;cases r1 with
   |cons r rr=>
    cases rr with
    |cons r' rr=>
     cases rr with
     |cons r'' rr=>
      cases rr;obtain⟨t,rfl⟩:=r;obtain⟨t',rfl⟩:=r';obtain⟨t'',rfl⟩:=r'';refine call_range_3 (by decide) (AH I1 b1 b2 b3 b4 (q1 H1 (Same.refl H1) _ (Me i _))) (TN (Us ?_));omega
  .rw[if_neg hj]at q1;exact q1.elim
 .exact q1.elim
end
end Tr
namespace PySem
open Sem (wp)
open L2 (itAt)
structure PW (prog:OI)(w:Py)(A:OW)(I:ZE)(T:String)(fp wr:List ZE)(n:Nat)(R:Nat->Ob->Ob->Prop)(St:Nat->Option ZE->ZH->Prop):Prop where
 sub:∀b∈wr,b∈fp
 ty:∀i o (s:Oe),St i o s.heap->s.TypeIs (.ref I) T
 frame:∀i o h h',St i o h->(∀b∈fp,∀ob,h.get? b=ZA ob->h'.get? b=ZA ob)->St i o h'
 item:∀i o (s:Oe) (Q:Option Ob->Oe->Prop) (E:WP),i<n->St i o s.heap->(∀t,o=ZA t->∃ob,s.heap.get? t=ZA ob) ->
  (∀p h' tk x y,R i x y->s.heap.objs.size<=p->IsPair h' p x y->St (i+1) (ZA (o.getD p)) h'->(∀b ob,b∉wr->s.heap.get? b=ZA ob->h'.get? b=ZA ob)->Q (ZA (.ref p)) {s with heap:=h',toks:=tk})->ZJ (ZK prog w) A (pyNext (.ref I)) Q E s
 done:∀o (s:Oe) (Q:Option Ob->Oe->Prop) (E:WP),St n o s.heap->(∀t,o=ZA t->∃ob,s.heap.get? t=ZA ob)->(∀h' tk,(∀b ob,b∉wr->s.heap.get? b=ZA ob->h'.get? b=ZA ob)->Q ZB {s with heap:=h',toks:=tk})->ZJ (ZK prog w) A (pyNext (.ref I)) Q E s
 self:∀i o (s:Oe) (Q:WP) (E:WP),St i o s.heap->Q (.ref I) s->ZJ (ZK prog w) A (pyIter (.ref I)) Q E s
end PySem
namespace Tr
open PySem PySem.Spec PyProof.Rows L2
def bkV:Ob->V
 |.int n _=>.int n
 |.ref a=>.ref a
 |_=>.non
variable{X:Cx}{a b:ZG}{p p1 pos:Pos}
section
variable {fs:Y0}{p2:Pos}
theorem rS:∀{m:List T}{ns:List Int},gm m=ZA ns->m=ns.map .int
 |[],ns,h=>by cases h;rfl
 |t::m,ns,h=>by
  cases t with
  |int i=>
   unfold gm at h;obtain⟨k,h1,rfl⟩:=Qr.mp h;rw[rS h1];rfl
  |_=>cases h
end
structure QE (X:Cx)(e:ZG)(f:Y2):Prop where
 h:c8 X e f
structure QA (X:Cx)(e:List ZG)(f:Y0):Prop where
 h:qT X e f
structure QT (X:Cx)(e:ZG)(f:Y3):Prop where
 h:xA X e f
structure QW (X:Cx)(e:ZG)(f:Y3):Prop where
 h:HX X e f
structure QS (X:Cx)(e:ZF)(f:Y1):Prop where
 h:qQ X e f
structure BA (X:Cx)(e:List ZF)(f:Y1):Prop where
 h:nu X e f
structure QG (X:Cx)(e:ZG)(f:T->En->Rs En):Prop where
 h:ER X e f
structure MW (X:Cx)(e:List ZG)(f:List T->En->Rs En):Prop where
 h:EL X e f
structure QI (X:Cx)(t e:ZG)(f:Y0):Prop where
 h:BB X t e f
structure QO (X:Cx)(e:Option ZG)(f:En->Rs (Option Int)):Prop where
 h:MG X e f
structure MF (X:Cx)(e:List ZG)(f:Y3):Prop where
 h:BJ X e (B0 X f)
variable{x:Str}
def af(i:Nat)(hN:(Cx.N X)[i]?=ZA x:=by rfl)(hv:autoParam (uZ (Q8 (Cx.env X)) x) u_)(hd:autoParam ((x == Oq "__debug__")=ZD) s_)(hcd:autoParam ((x == Oq "__classdict__")=ZD) s_):QE X (O7 x pos) (vr i):=
 ⟨Cv i hN hv hd hcd⟩
variable{i:Int}
def ai:QE X (S5 (Const.int i) j pos) (cn (T.int i)):=
 ⟨Lv ⟩
def iN{i:Bool}:QE X (S5 (Const.bool i) j pos) (cn (T.bl i)):=
 ⟨q_bl ⟩
def bQ:QE X (S5 Const.none j pos) (cn T.non):=
 ⟨Lr ⟩
def sU{i:Str}:QE X (S5 (Const.str i) j pos) (cn (T.str i)):=
 ⟨Ll ⟩
def EX{u:Ob}(hm:Cx.mg X x=ZA u)(r:L2.RelV (V.int i) u)(hg:Gl X x:=by rfl)(hd:autoParam ((x == Oq "__debug__")=ZD) s_):QE X (O7 x pos) (cn (T.int i)):=
 ⟨Jc hm r hg hd⟩
def ag:QA X [] aj:=
 ⟨xY ⟩
def ah{X:Cx}{e:ZG}{es:List ZG}{f:Y2}{g:Y0}(he:QE X e f)(hr:QA X es g)(hn:b8 e=ZC:=by rfl):QA X (e::es) (ae f g):=
 ⟨qa_c he.h hr.h hn⟩
def aO{X:Cx}{es:List ZG}{x1:Nat}{pos:Pos}{f:Y0}(h:QA X es f):QE X (Expr.Tuple es x1 pos) (aP f):=
 ⟨Hs h.h⟩
variable{es:List ZG}
def cE{f:Y0}(h:QA X es f):QE X (Xa es pos) (dz f):=
 ⟨Ls h.h⟩
variable{fa fb:Y2}{g:T->T->Rs T}
def au{op:W0}(ho:OpT X (Qz op) g)(ha:QE X a fa)(hb:QE X b fb):QE X (Expr.BinOp a op b pos) (o2 g fa fb):=
 ⟨Ly ho ha.h hb.h⟩
def dB(ho:OpT X (Pp op) g)(ha:QE X a fa)(hb:QE X b fb)(hm:RS op b=ZD:=by rfl):QE X (Wx a [op] [b] pos) (o2 g fa fb):=
 ⟨Lx ho ha.h hb.h hm⟩
def mF(ha:QE X a fa):QE X (UL UnaryOp.USub a pos) (o1 kQ fa):=
 ⟨Ht ha.h⟩
variable{c:ZG}
def ve{fc:Y2}{op':Xx}{g':T->T->Rs T}(ho:OpT X (Pp op) g)(ho':OpT X (Pp op') g')(ha:QE X a fa)(hb:QE X b fb)(hc:QE X c fc)(hm:autoParam (lastMarks [op,op'] [b,c]=ZD) v_):QE X (Wx a [op,op'] [b,c] pos) (ch g g' fa fb fc):=
 ⟨FT ho ho' ha.h hb.h hc.h hm⟩
variable{e:ZG}
def cY{f:Y2}(h:QE X e f)(he:autoParam (∀(whole:Sem Ob),PySem.isTrue e (Cx.env X) whole=(do let v <-whole;standAt (Expr.pos e);holding [v] (truthy v))) t_):QT X e (tb f):=
 ⟨IH h.h he⟩
def ba(ho:OpT X (Pp op) g)(ha:QE X a fa)(hb:QE X b fb)(hm:RS op b=ZD:=by rfl):QT X (Wx a [op] [b] pos) (tb (o2 g fa fb)):=
 ⟨IJ ho ha.h hb.h hm⟩
variable{f:Y3}
def vc(ha:QT X a f):QW X (Rf UX [a] pos) f:=
 ⟨FD ha.h⟩
def kh(ha:QT X a f):QW X (Rf VG [a] pos) f:=
 ⟨IF ha.h⟩
def yY{g:Y3}{dv:List ZG}(ha:QT X a f)(hb:QW X (Rf UX (b::dv) pos) g):QW X (Rf UX (a::b::dv) pos) (qP f g):=
 ⟨IG ha.h hb.h⟩
def mC{g:Y3}{dv:List ZG}(ha:QT X a f)(hb:QW X (Rf VG (b::dv) pos) g):QW X (Rf VG (a::b::dv) pos) (vX f g):=
 ⟨Lg ha.h hb.h⟩
def nv(h:QW X e f):QT X e f:=
 ⟨qt_w h.h⟩
def eX(ha:QT X a f):QT X (UL UnaryOp.Not a pos) (fO f):=
 ⟨II ha.h⟩
def dJ{op:BoolOp}(h:QE X a fa):QE X (Rf op [a] pos) fa:=
 ⟨Lp h.h⟩
def dC{dv:List ZG}(ha:QE X a fa)(hb:QE X (Rf UX (b::dv) pos) fb):QE X (Rf UX (a::b::dv) pos) (dO fa fb):=
 ⟨Lz ha.h hb.h⟩
def Hf{dv:List ZG}(ha:QE X a fa)(hb:QE X (Rf VG (b::dv) pos) fb):QE X (Rf VG (a::b::dv) pos) (F8 fa fb):=
 ⟨q_or ha.h hb.h⟩
def xF(ha:QE X a fa):QE X (UL UnaryOp.Not a pos) (o1 uo fa):=
 ⟨Lq ha.h⟩
def yZ(hc:QT X c f)(ha:QE X a fa)(hb:QE X b fb):QE X (Expr.IfExp c a b pos) (DT f fa fb):=
 ⟨q_if hc.h ha.h hb.h⟩
def aF(ha:QE X a fa)(hb:QE X b fb)(hs:autoParam (kL b) w_):QE X (Qd a b pos) (o2 aU fa fb):=
 ⟨q_ix ha.h hb.h hs⟩
def cR:QO X ZB pN:=
 ⟨FK ⟩
def cQ(ha:QE X a fa):QO X (ZA a) (pS fa):=
 ⟨FJ ha.h⟩
def cS{lo hi:Option ZG}{p2:Pos}{fl fu:En->Rs (Option Int)}(ha:QE X a fa)(hl:QO X lo fl)(hu:QO X hi fu):QE X (Qd a (Expr.Slice lo hi ZB p2) pos) (sl fa fl fu):=
 ⟨FR ha.h hl.h hu.h⟩
variable{p3:Pos}
def Ia{p2:Pos}(ha:QE X a fa):QE X (Qd a (Expr.Slice ZB ZB (ZA (UL UnaryOp.USub (S5 (Const.int 1) j p1) p2)) p3) pos) (o1 Fw fa):=
 ⟨Lo ha.h⟩
variable{g:List T->Rs T}
def c9{fs:Y0}{id:String}(hc:CallT X (RO id) g)(hm:Cx.mg X x=ZB)(hv:Pc x=ZA (RO id))(ha:QA X (e::es) fs)(hn:bj (e::es)=ZC:=by rfl)(hg:Gl X x:=by rfl)(h1:autoParam (x≠Oq "__name__") s_)(h2:autoParam ((x == Oq "__debug__")=ZD) s_):QE X (Qj (O7 x p) (e::es) [] pos) (cl g fs):=
 ⟨q_cB hc hm hv ha.h hn hg h1 h2⟩
def ju{fs:Y0}(hc:CallT X (Ry Ty) g)(hm:Cx.mg X x=ZB)(hv:Pc x=ZA (Ry Ty))(ha:QA X (e::es) fs)(hn:bj (e::es)=ZC:=by rfl)(hg:Gl X x:=by rfl)(h1:autoParam (x≠Oq "__name__") s_)(h2:autoParam ((x == Oq "__debug__")=ZD) s_):QE X (Qj (O7 x p) (e::es) [] pos) (cl g fs):=
 ⟨q_cT hc hm hv ha.h hn hg h1 h2⟩
variable{ps:List Str}
def zq_c{fs:Y0}{f:ZE}(F:BK (Cx.prog X) (Cx.w X) (Cx.K X) (Cx.mg X) (Cx.base X) k f fd ps n g)(hr:Room k (Cx.A X))(hm:Cx.mg X x=ZA (OB f))(hk:W.keepIn (Cx.K X) (OB f)=ZC)(hb:L2.Binds (Cx.K X) fd ps [])(hl:∀(Z:En)(ts:List T),fs Z=Rs.ok ts->PC ts=n)(ha:QA X (e::es) fs)(hps:PC ps=n:=by rfl)(hn:bj (e::es)=ZC:=by rfl)(hg:Gl X x:=by rfl)(h2:autoParam ((x == Oq "__debug__")=ZD) s_):QE X (Qj (O7 x p) (e::es) [] pos) (cl g fs):=
 ⟨q_c F hr hm hk hb hl ha.h hps hn hg h2⟩
def BO{p2:Pos}{tn:Str}(hm:Cx.mg X (Oq "isinstance")=ZB)(hmt:Cx.mg X tn=ZB)(hv:Pc tn=ZA (Ry Ty))(ha:QE X a fa)(hn:b8 a=ZC:=by rfl)(hg:Gl X (Oq "isinstance"):=by rfl)(hgt:Gl X tn:=by rfl)(h1:autoParam (tn≠Oq "__name__") s_)(h2:autoParam ((tn == Oq "__debug__")=ZD) s_):QE X (Qj (O7 (Oq "isinstance") p) [a,O7 tn p2] [] pos) (o1 (GA Ty) fa):=
 ⟨q_is hm hmt hv ha.h hn hg hgt h1 h2⟩
def ak(i:Nat)(hN:RP (Cx.N X))(hi:(Cx.N X)[i]?=ZA x:=by rfl)(hx:autoParam (L2.Loc (Q8 (Cx.env X)) x) x_)(hf:autoParam (Cx.fn X x=ZC\/R5 x (Uc (Q8 (Cx.env X)))=ZA NameKind.local) r_):QG X (O7 x pos) (gN i):=
 ⟨FQ i hN hi hx hf⟩
def gh:MW X [] u9:=
 ⟨FP ⟩
variable{g:T->En->Rs En}{gs:List T->En->Rs En}
def bu(h1:QG X e g)(h2:MW X es gs)(hs:VE (λx=>WY x) (Qv (e::es) (Cx.env X))=assign e (Cx.env X)::VE (λx=>WY x) (Qv es (Cx.env X)):=by rfl):MW X (e::es) (iY g gs):=
 ⟨Cu h1.h h2.h hs⟩
def hZ(hc:Cx.calm X=ZC)(h:MW X es gs)(hn:PC (Qv es (Cx.env X))=n:=by rfl)(hst:List.findIdx? (λx=>WZ x) (Qv es (Cx.env X))=ZB:=by rfl):QG X (Expr.Tuple es k pos) (gT n gs):=
 ⟨Ja hc h.h hn hst⟩
variable{tg:ZG}
def cg{fs:Y0}(hm:Cx.mg X (Oq "range")=ZB)(ha:QA X [a] fs)(hg:Gl X (Oq "range"):=by rfl)(hs:Oz [a] (Cx.env X)=[(ZD,eval a (Cx.env X))]:=by rfl):QI X tg (Qj (O7 (Oq "range") p) [a] [] pos) (iR fs):=
 ⟨AK hm ha.h hg hs⟩
def xE{fs:Y0}(hm:Cx.mg X (Oq "range")=ZB)(ha:QA X [a,b] fs)(hg:Gl X (Oq "range"):=by rfl)(hs:Oz [a,b] (Cx.env X)=[(ZD,eval a (Cx.env X)),(ZD,eval b (Cx.env X))]:=by rfl)(hs2:Oz [b] (Cx.env X)=[(ZD,eval b (Cx.env X))]:=by rfl):QI X tg (Qj (O7 (Oq "range") p) [a,b] [] pos) (iR fs):=
 ⟨AJ hm ha.h hg hs hs2⟩
def bY:MF X [] bT:=
 ⟨FN ⟩
def fq(h:QT X c f):MF X [c] f:=
 ⟨FL h.h⟩
variable{N':List Str}{fc:Y3}{fe:Y2}{fi:Y0}{ifs:List ZG}{iter:ZG}{tgt:T->En->Rs En}
def Hg{elt:ZG}{src:List (Option Nat)}(hc:Cx.calm X=ZC)(S:LcScope X scope N' src)(hi:QI X tg iter fi)(block:∀(cl:List (Str×ZE))(C:ZE)(s₀:Oe)(H₀:Hp)(fp:List ZE),QG (cA X scope cl N' C s₀ H₀ fp) tg tgt/\MF (cA X scope cl N' C s₀ H₀ fp) ifs fc/\QE (cA X scope cl N' C s₀ H₀ fp) elt fe)(hs:autoParam (∀(x:Ob),Pj iter (Cx.env X) x=pure x) t_):QE X (Ud elt [{target:=tg,iter:=iter,ifs:=ifs,is_async:=0}] scope pos) (d6 fi src tgt fc fe):=
 ⟨q_lc hc S hi.h (λa1 a2 a3 a4 a5=>⟨(block a1 a2 a3 a4 a5).1.h,(block a1 a2 a3 a4 a5).2.1.h,(block a1 a2 a3 a4 a5).2.2.h⟩) hs⟩
def bz:BA X [] sN:=
 ⟨IQ ⟩
variable{st:ZF}
def ao{dv:List ZF}{F G:Y1}(h1:QS X st F)(h2:BA X dv G):BA X (st::dv) (aD F G):=
 ⟨FI h1.h h2.h⟩
def aq{F:Y1}(h:QS X st F):BA X [st] F:=
 ⟨IP h.h⟩
def ax(ha:QE X a fa):QS X (Stmt.Return (ZA a) pos) (aW fa):=
 ⟨IL ha.h⟩
def cb{A B:List ZF}{F G:Y1}(hc:QT X c f)(ha:BA X A F)(hb:BA X B G):QS X (Stmt.If c A B pos) (gE f F G):=
 ⟨Lj hc.h ha.h hb.h⟩
def BN{elt:ZG}{spos py:Pos}{src:List (Option Nat)}(i:Nat){y:Str}(hc:Cx.calm X=ZC)(S:LcScope X scope N' src)(hi:QI X tg iter fi)(block:∀(cl:List (Str×ZE))(C:ZE)(s₀:Oe)(H₀:Hp)(fp:List ZE),QG (cA X scope cl N' C s₀ H₀ fp) tg tgt/\MF (cA X scope cl N' C s₀ H₀ fp) ifs fc/\QE (cA X scope cl N' C s₀ H₀ fp) elt fe)(hN:RP (Cx.N X))(hiy:(Cx.N X)[i]?=ZA y:=by rfl)(hy:autoParam (L2.Loc (Q8 (Cx.env X)) y) x_)(hsw:P7 (Ud elt [{target:=tg,iter:=iter,ifs:=ifs,is_async:=0}] scope pos) (ZA (O7 y py)) (R1 spos) (Cx.env X)=pure ZC:=by rfl)(hf:autoParam (Cx.fn X y=ZC\/R5 y (Uc (Q8 (Cx.env X)))=ZA NameKind.local) r_)(hs:autoParam (∀(x:Ob),Pj iter (Cx.env X) x=pure x) t_):QS X (Te [O7 y py] (Ud elt [{target:=tg,iter:=iter,ifs:=ifs,is_async:=0}] scope pos) spos) (cI (d6 fi src tgt fc fe) (gN i)):=
 ⟨Li i hc S hi.h (λa1 a2 a3 a4 a5=>⟨(block a1 a2 a3 a4 a5).1.h,(block a1 a2 a3 a4 a5).2.1.h,(block a1 a2 a3 a4 a5).2.2.h⟩) hN hiy hy hsw hf hs⟩
def aA(ha:QE X a fa)(hg:QG X tg g)(hs:VN [tg] a (R1 pos) (Cx.env X)=pure ZD:=by rfl)(hw:VO [tg] a (Cx.env X)=pure ZB:=by rfl)(h1:VE (λx=>WY x) (Qv [tg] (Cx.env X))=[assign tg (Cx.env X)]:=by rfl):QS X (Te [tg] a pos) (cI fa g):=
 ⟨IW ha.h hg.h hs hw h1⟩
def gf(ha:QE X a fa)(hs:P7 a ZB (R1 pos) (Cx.env X)=pure ZD:=by rfl):QS X (Stmt.Expr a pos) (xT fa):=
 ⟨FH ha.h hs⟩
variable{body:List ZF}
def bX{F:Y1}(hc:Cx.calm X=ZC)(hi:QI X tg iter fi)(hg:QG (Cx.nox X) tg g)(hb:BA (Cx.nox X) body F)(hs:autoParam (∀(x:Ob),Pj iter (Cx.env X) x=pure x) t_):QS X (Stmt.For tg iter body [] pos) (d7 fi g F):=
 ⟨IS hc hi.h hg.h hb.h hs⟩
def rG{F:Y1}(n:Nat)(hc:QT (Cx.nox X) c fc)(hb:BA (Cx.nox X) body F):QS X (Stmt.While c body [] pos) (cf fc F n):=
 ⟨Cq n hc.h hb.h⟩
def bc(ha:QE X a fa):QI X tg a (iS fa):=
 ⟨IZ ha.h⟩
def jE{fs:Y0}{elts:List ZG}{tpos:Pos}(hm:Cx.mg X (Oq "enumerate")=ZB)(ha:QA X [a] fs)(hg:Gl X (Oq "enumerate"):=by rfl)(hs:Oz [a] (Cx.env X)=[(ZD,eval a (Cx.env X))]:=by rfl):QI X (Expr.Tuple elts kk tpos) (Qj (O7 (Oq "enumerate") p) [a] [] pos) (iE fs):=
 ⟨FO hm ha.h hg hs⟩
variable{f:Y0}
def iM{p2:Pos}(i:Nat)(hN:RP (Cx.N X))(ha:QA X es f)(hi:(Cx.N X)[i]?=ZA x:=by rfl)(hx:autoParam (L2.Loc (Q8 (Cx.env X)) x) x_)(hs:P7 (Xa es p2) (ZA (O7 x p3)) (R1 pos) (Cx.env X)=pure ZD:=by rfl)(hf:autoParam (Cx.fn X x=ZC\/R5 x (Uc (Q8 (Cx.env X)))=ZA NameKind.local) r_):QS X (Te [O7 x p3] (Xa es p2) pos) (jy i f):=
 ⟨FF i hN ha.h hi hx hs hf⟩
variable{apos cpos:Pos}
def hY{p2:Pos}(i:Nat)(ha:QE X a fa)(hN:(Cx.N X)[i]?=ZA x:=by rfl)(hv:autoParam (uZ (Q8 (Cx.env X)) x) u_)(hn:b8 a=ZC:=by rfl)(hbase:QB (O7 x p2) (Oq "append") (Cx.env X) (eval (O7 x p2) (Cx.env X))=eval (O7 x p2) (Cx.env X):=by rfl)(hline:(Vm apos == R1 cpos)=ZC:=by rfl)(hd:autoParam ((x == Oq "__debug__")=ZD) s_)(hcd:autoParam ((x == Oq "__classdict__")=ZD) s_)(hsw:P7 (Qj (RX (O7 x p2) (Oq "append") apos) [a] [] cpos) ZB (R1 pos) (Cx.env X)=pure ZD:=by rfl):QS X (Stmt.Expr (Qj (RX (O7 x p2) (Oq "append") apos) [a] [] cpos) pos) (iU i fa):=
 ⟨IX i ha.h hN hv hn hbase hline hd hcd hsw⟩
def sT{p2:Pos}(i:Nat)(ha:QE X a fa)(hN:(Cx.N X)[i]?=ZA x:=by rfl)(hv:autoParam (uZ (Q8 (Cx.env X)) x) u_)(hn:b8 a=ZC:=by rfl)(hbase:QB (O7 x p2) (Oq "extend") (Cx.env X) (eval (O7 x p2) (Cx.env X))=eval (O7 x p2) (Cx.env X):=by rfl)(hline:(Vm apos == R1 cpos)=ZC:=by rfl)(hd:autoParam ((x == Oq "__debug__")=ZD) s_)(hcd:autoParam ((x == Oq "__classdict__")=ZD) s_)(hsw:P7 (Qj (RX (O7 x p2) (Oq "extend") apos) [a] [] cpos) ZB (R1 pos) (Cx.env X)=pure ZD:=by rfl):QS X (Stmt.Expr (Qj (RX (O7 x p2) (Oq "extend") apos) [a] [] cpos) pos) (pz i fa):=
 ⟨IT i ha.h hN hv hn hbase hline hd hcd hsw⟩
def i6(i:Nat){F:Y1}(h:QS X st F):QS X st (nX i F):=
 ⟨IU i h.h⟩
def kU(i:Nat){f:Y2}(h:QE X e f):QE X e (ln i f):=
 ⟨q_ln i h.h⟩
def HY(i:Nat){f:Y3}(h:QT X e f):QT X e (JO i f):=
 ⟨Lh i h.h⟩
variable{args:List ZG}{f0:Y2}{gs:List (List T->Rs T)}
def H0{a0 i0:ZG}{p2:Pos}{as:List ZE}{fs:Y0}(S:Sels X n es as gs)(h0:QE X i0 f0)(hl:∀(Z:En)(ts:List T),fs Z=Rs.ok ts->PC ts=n)(ha:QA X (a0::args) fs)(hn:bj (a0::args)=ZC:=by rfl)(hs:autoParam (kL i0) w_)(hz:autoParam (PC es<=100) s_):QE X (Qj (Qd (Xa es p1) i0 p2) (a0::args) [] pos) (AD gs f0 fs):=
 ⟨Ln S h0.h hl ha.h hn hs hz⟩
def HZ:QS X (Stmt.Continue pos) K7:=
 ⟨Lk ⟩
def EU(i:Nat){pos':Pos}(hN:RP (Cx.N X))(ha:QE X a fa)(hi:(Cx.N X)[i]?=ZA x:=by rfl)(hx:autoParam (L2.Loc (Q8 (Cx.env X)) x) x_)(hf:autoParam (Cx.fn X x=ZC\/R5 x (Uc (Q8 (Cx.env X)))=ZA NameKind.local) r_):QS X (Stmt.AugAssign (O7 x pos') Operator.Add a pos) (Ca i fa):=
 ⟨IV i hN ha.h hi hx hf⟩
def rH{fs:Y0}{p2 pos2:Pos}(hc:Cx.calm X=ZC)(h1:Cx.mg X (Oq "list")=ZB)(h2:Cx.mg X (Oq "range")=ZB)(ha:QA X (a::es) fs)(g1:Gl X (Oq "list"):=by rfl)(g2:Gl X (Oq "range"):=by rfl)(hn:bj (a::es)=ZC:=by rfl)(he2:Oz [Qj (O7 (Oq "range") p2) (a::es) [] pos2] (Cx.env X)=(ZD,eval (Qj (O7 (Oq "range") p2) (a::es) [] pos2) (Cx.env X))::Oz [] (Cx.env X):=by rfl)(hpl2:(List.any (backTo pos (Oz [] (Cx.env X))) λx=>WZ x)=ZD:=by rfl):QE X (Qj (O7 (Oq "list") p1) [Qj (O7 (Oq "range") p2) (a::es) [] pos2] [] pos) (lR fs):=
 ⟨Cw hc h1 h2 ha.h g1 g2 hn he2 hpl2⟩
variable{C:ZE}
def mE{c:Str}{msg:Str}{np:Pos}(O:OX X.K C bm)(hm:X.mg c=ZA (.ref C))(hc:X.calm=ZC:=by rfl)(hg:Gl X c:=by rfl)(hd:autoParam ((c == ("__debug__" : Str))=ZD) s_):
  QS X (.Raise (ZA (.Call (.Name c np) [.Constant (.str msg) j p1] [] cpos)) ZB pos) (B9 c):=⟨Cr O.own hc hm hg hd⟩
variable{n:Str}
def ES{suite:List ZF}{b0:ZF}{F:Y1}{h:Str->Rs T}{ce:Str}{CE:ZE}(i:Nat){np hpos:Pos}(hN:X.N.Nodup)(hm:X.mg ce=ZA (.ref CE))(OE:OX X.K CE bmE)
  (hb:∀pn xe,BA {X with pn:=pn,xe:=xe} body F) (hs:u4 X i (b0::suite) CE h) (hst:X.stack=X.env::X.outer:=by rfl) (hfe:X.env.frame=ZA X.env.locals:=by rfl) (hcl:∀x c,X.env.cells.lookup x≠ZA c) (hex:X.ex=[]:=by rfl)
  (hi:X.N[i]?=ZA n:=by rfl) (hloc:X.env.scope.names.lookup n=ZA .local:=by rfl) (hg:Gl X ce:=by rfl) (hd:autoParam ((ce == ("__debug__" : Str))=ZD) s_):
  QS X (.Try body [.ExceptHandler (ZA (.Name ce np)) (ZA n) (b0::suite) hpos] [] [] pos) (vG F h):=⟨IK hst hfe hcl hex hN hi hloc hm OE (λpn xe=>(hb pn xe).h) hs hg hd⟩
variable{N:List Str}{mg:WF}
def sV{base:ZH}{qual:Str}{f:ZE}{n:Nat}{F:Y1}(Fn:L2.Fun K x qual st f fd)(S:dj N ps (az st))(hn:ps.length=n)
  (hbody:∀(cdv:Ob),fd.code=cdv->∀(A:OW)(outer:List Env)(s:Oe)(H:Hp)(E:XK),Room k (A.deeper (envOfC qual (az st) s.heap.objs.size f cdv)) ->
   ∀xe,BA ((jl CX0 P w K mg base N qual (az st) f cdv A outer s H E).FB xe) (cZ st) F):BK P w K mg base (k+1) f fd ps n (val n N.length F):=Kf Fn S hn λcdv hcv A outer s H E hr xe=>(hbody cdv hcv A outer s H E hr xe).h
def dm(hu:SM (Cx.A X)+1<cLine)(ha:QE X a fa)(hb:QE X b fb)(hs:autoParam (BC b) w_):QE X (Qd a b pos) (o2 bP fa fb):=
 ⟨Lw hu ha.h hb.h hs⟩
def za(hu:SM (Cx.A X)+1<cLine)(ha:QE X a fa)(hb:QE X b fb)(hn:b8 b=ZC:=by rfl)(hbase:QB a (Oq "get") (Cx.env X) (eval a (Cx.env X))=eval a (Cx.env X):=by rfl)(hline:(Vm apos == R1 cpos)=ZC:=by rfl):QE X (Qj (RX a (Oq "get") apos) [b] [] cpos) (oD jB fa fb):=
 ⟨Jd hu ha.h hb.h hn hbase hline⟩
def Av(hu:SM (Cx.A X)+61<cLine)(ha:QE X a fa)(hb:QE X b fb)(hn:b8 b=ZC:=by rfl)(hbase:QB a (Oq "index") (Cx.env X) (eval a (Cx.env X))=eval a (Cx.env X):=by rfl)(hline:(Vm apos == R1 cpos)=ZC:=by rfl):QE X (Qj (RX a (Oq "index") apos) [b] [] cpos) (oL il fa fb):=
 ⟨Cy hu ha.h hb.h hn hbase hline⟩
def BM{f:Y2}{p2:Pos}(i:Nat)(hu:SM (Cx.A X)+8<cLine)(hc:Cx.calm X=ZC)(hm:Cx.mg X (Oq "dict")=ZB)(hN:RP (Cx.N X))(ha:QE X e f)(hst:b8 e=ZC:=by rfl)(hg:Gl X (Oq "dict"):=by rfl)(hi:(Cx.N X)[i]?=ZA x:=by rfl)(hx:autoParam (L2.Loc (Q8 (Cx.env X)) x) x_)(hs:P7 (Qj (O7 (Oq "dict") p) [e] [] p2) (ZA (O7 x p3)) (R1 pos) (Cx.env X)=pure ZD:=by rfl)(hf:autoParam (Cx.fn X x=ZC\/R5 x (Uc (Q8 (Cx.env X)))=ZA NameKind.local) r_):QS X (Te [O7 x p3] (Qj (O7 (Oq "dict") p) [e] [] p2) pos) (rO i f):=
 ⟨FG i hu hc hm hN ha.h hst hg hi hx hs hf⟩
def ET{fc:Y2}{p2:Pos}(i:Nat)(hu:SM (Cx.A X)+1<cLine)(hb:QE X b fb)(hc:QE X c fc)(hN:(Cx.N X)[i]?=ZA x:=by rfl)(hv:autoParam (uZ (Q8 (Cx.env X)) x) u_)(hd:autoParam ((x == Oq "__debug__")=ZD) s_)(hcd:autoParam ((x == Oq "__classdict__")=ZD) s_)(hs:P7 c (ZA (Qd (O7 x p2) b p3)) (R1 pos) (Cx.env X)=pure ZD:=by rfl):QS X (Te [Qd (O7 x p2) b p3] c pos) (AF i fb fc):=
 ⟨IM i hu hb.h hc.h hN hv hd hcd hs⟩
def oP{fc:Y2}{p2 p4:Pos}(i:Nat)(hu:SM (Cx.A X)+1<cLine)(ha:QE X a fa)(hb:QE X b fb)(hc:QE X c fc)(hsl:autoParam (BC a) w_)(hN:(Cx.N X)[i]?=ZA x:=by rfl)(hv:autoParam (uZ (Q8 (Cx.env X)) x) u_)(hd:autoParam ((x == Oq "__debug__")=ZD) s_)(hcd:autoParam ((x == Oq "__classdict__")=ZD) s_)(hs:P7 c (ZA (Qd (Qd (O7 x p2) a p3) b p4)) (R1 pos) (Cx.env X)=pure ZD:=by rfl):QS X (Te [Qd (Qd (O7 x p2) a p3) b p4] c pos) (jx i fa fb fc):=
 ⟨FE i hu ha.h hb.h hc.h hsl hN hv hd hcd hs⟩
def LcScope.byN{src:List (Option Nat)}(hN:X.N=N)(hk:scope.kind=.function)(h:Gn scope.names N scope.names N' src=ZC)
  (hf:(scope.names.all λy=>y.2 != .free||(X.env.scope.names.lookup y.1 == ZA .cell||X.env.scope.names.lookup y.1 == ZA .free))=ZC):LcScope X scope N' src:=by
 have z:=LcScope.by (X:={X with env:={X.env with scope:=scope}}) hN rfl hk h
 refine⟨hk,z.cel,z.loc,z.len,z.from_,λx hx=>?_⟩;have:=OH.mp hf _ hx;simp only[bne_self_eq_false,Ub,Td]at this;show X.env.scope.names.lookup x=_\/X.env.scope.names.lookup x=_;rcases this with z|z
 .exact .inl (by simpa using z)
 .exact .inr (by simpa using z)
open PySem.W
def D6(h:ZH):(D7 h).In h:=by
 have key:∀(l:List Nat)(a:ZE)(o:Obj),(l.filterMap λa=>(h.get? a).map λo=>(a,o)).lookup a=ZA o->h.get? a=ZA o:=by
  intro l;induction l with
  |nil=>intro a o e;cases e
  |cons b r ih=>
   intro a o e;cases hb:h.get? b with
   |none=>rw[List.filterMap_cons_none (by rw[hb];rfl)]at e;exact ih a o e
   |some ob=>
    rw[List.filterMap_cons_some (b:=(b,ob)) (by rw[hb];rfl),Pt]at e;cases q:a == b with
    |true=>rw[q]at e;cases e;rw[eq_of_beq q];exact hb
    |false=>rw[q]at e;exact ih a o e
 exact λa o e=>key _ a o e
variable{K:Frag}
def HN(e:obF K n=exF n st):∃f fd,nsIn K OM n=ZA (ZA (.ref f))/\L2.Fun K n n st f fd:=by
 unfold obF at e;split at e
 .rename_i f hf;split at e
  .rename_i oc od d sl hl;cases d;unfold exF at e;simp only[Sx,Vu]at e;obtain⟨h1,h2,h3,h4,h5,h6,h7,h8,h9,h10,h11⟩:=e;subst h1 h2 h3 h4 h5 h6 h7 h8 h9;exact⟨f,_,hf,Kb hl h10 h11⟩
  .cases e
 .cases e
def pW{N:ZE}(e:LN K N n=ZC):nsIn K N n=ZA ZB:=by
 unfold LN at e;split at e
 .assumption
 .cases e
def JA(e:MT K n=ZA i):∃t,nsIn K OM n=ZA (ZA (.int i t)):=by
 unfold MT at e;split at e
 .rename_i i' t h;cases e;exact⟨t,h⟩
 .cases e
def oU{l:List Ob}(e:BX l=ZC):l=nU:=eq_of_beq e
def iA{D:Option ZE}(e:Ge K D n=ZA C):nsIn K OM n=ZA (ZA (.ref C)) ∧
  ∃nm q N bs bm hd sn su ab co dd k0 k1 k2 k3 k5,BS D bm=ZC/\K.lookup C=ZA (PZ nm q C N bs bm hd sn su ab co dd k0 k1 k2 k3 k5 "ValueError.__new__")/\∀h:ZH,K.In h->∃mN,h.Ns N mN/\∀n∈calmNames,mN n=ZB:=by
 unfold Ge at e;split at e
 .rename_i C' hC;split at e
  .rename_i t dd c k0 k1 k2 k3 b k5 hl;split at e
   .rename_i E m ob oe es ep oz hm hN;split at e
    .rename_i hq;cases e;simp only[Oa,beq_iff_eq,TX]at hq;obtain⟨⟨⟨⟨⟨⟨h1,h2⟩,h3⟩,h4⟩,h5⟩,h6⟩,h7⟩:=hq;have z:=OH.mp h5;refine⟨hC,c.name,c.qualname,c.ns,c.bases,m,c.hasDict,c.slotNames,c.subclasses,c.abstract,c.collection,dd,k0,k1,k2,k3,k5,h7,?_,LO hN h4 (pW (z _ (.head _))) (pW (z _ (.tail _ (.head _)))) (pW (z _ (.tail _ (.tail _ (.head _))))) (pW (z _ (.tail _ (.tail _ (.tail _ (.head _))))))⟩;rw[hl];cases c;simp only at hm h3;subst h1 h2 hm h3 h6;rfl
    .cases e
   .cases e
  .cases e
 .cases e
def ox0(e:Ge K ZB n=ZA C):OX K C nU:=by obtain⟨_,_,_,_,_,_,_,_,_,_,_,_,_,_,_,_,_,hu,hl,hn⟩:=iA e;cases oU hu;exact F7 hl hn
variable{D:ZE}{m:Str}
def KL(e:Ge K (ZA D) n=ZA C)(d:Ge K ZB m=ZA D):OX K C (.ref D::nU):=by
 obtain⟨_,_,_,_,_,bm,_,_,_,_,_,_,_,_,_,_,_,hu,hl,hn⟩:=iA e;obtain⟨_,_,_,_,_,_,_,_,_,_,_,_,_,_,_,_,_,hu',hl',hn'⟩:=iA d;cases oU hu';unfold BS at hu;simp only at hu;split at hu
 .rw[Oa]at hu;cases eq_of_beq hu.1;cases oU hu.2;exact CW hl hn hl' hn'
 .cases hu
def gK{o:Option α}{r:List (Option α)}{l:List α}(e:yT (o::r)=ZA l):∃a l',o=ZA a/\l=a::l'/\yT r=ZA l':=by
 cases o with
 |none=>cases e
 |some a=>
  unfold yT at e;split at e
  .rename_i l' h;cases e;exact⟨a,l',rfl,rfl,h⟩
  .cases e
def EG{l:List α}(e:yT ([]:List (Option α))=ZA l):l=[]:=by cases e;rfl
theorem rV:∀{l:List ZE},uq l=ZC->l.Nodup
 |[],_=>.nil
 |a::r,h=>by unfold uq at h;rw[Oa]at h;refine O0.mpr ⟨λhm=>?_,rV h.2⟩;have:=OH.mp h.1 a hm;simp at this
def Jz{es:List Str}(e:MS K (m::es)=ZC):∃D l,Ge K ZB m=ZA D/\yT (es.map (Ge K (ZA D)))=ZA l/\(l++[D]).Nodup:=by
 rw[MS]at e;split at e
 .rename_i D hD;split at e
  .rename_i l hl;exact⟨D,l,hD,hl,rV e⟩
  .cases e
 .cases e
section
variable {S:rF}{top:Nat->ZF}{h:ZH}
theorem uw{f g:α->β}:∀{l:List α}(j:Nat){a:α},l.map f=l.map g->l[j]?=ZA a->f a=g a
 |[],_,_,_,q=>by cases q
 |b::l,0,a,e,q=>by cases q;exact(Xc.inj e).1
 |b::l,j+1,a,e,q=>uw (l:=l) j (Xc.inj e).2 q
def L9(j:Nat){i:Nat}(X:K.In h)(G:h.Ns OM mg)(e:pV S K=nV S top)(q:S.tab[j]?=ZA (n,i))
  (hb:∀(kV doc pm:Ob)(an:Option ZE)(cdv ct:Ob)(us:List Ob),us.length=ps.length->VR (fnOf n n (iu (top i)) (cZ (top i)) (az (top i)) .none kV doc pm an cdv ct) ⟨us,[]⟩=pure (ps.zip us)):
  ∃f fd,Fn K mg n (top i) ps f fd:=by
 obtain⟨f,fd,h1,h2⟩:=HN (uw j (congrArg (·.1) e) q);exact⟨f,fd,h2,h2.binds hb,mg_of X G h1⟩
def L7(j:Nat){i:Nat}{fa:ZE}(X:K.In h)(G:h.Ns OM mg)(e:pV S K=nV S top)(q:S.tab[j]?=ZA (n,i))(hfa:mg n=ZA (.ref fa))
  (hb:∀(kV doc pm:Ob)(an:Option ZE)(cdv ct u:Ob),VR (fnOf n n (iu (top i)) (cZ (top i)) (az (top i)) .none kV doc pm an cdv ct) ⟨[u],[]⟩=pure [(x,u)]):
  ∃fd,Fn K mg n (top i) [x] fa fd/\∀(s:Oe)(u:Ob),Vq s fd ⟨[u],[]⟩ [(x,u)]:=by
 obtain⟨f,fd,h1,h2⟩:=HN (uw j (congrArg (·.1) e) q);have z:=hfa.symm.trans (mg_of X G h1);cases z;have hh:=h2;obtain⟨oc,od,kV,doc,pm,an,cdv,ct,osl,rfl,lk,hcd⟩:=hh.ex;exact⟨_,⟨h2,.all λus hl=>by obtain⟨u,rfl⟩:=List.length_eq_one_iff.1 hl;exact hb kV doc pm an cdv ct u,mg_of X G h1⟩,λs u=>.of_eq (hb kV doc pm an cdv ct u)⟩
def fD(j:Nat)(X:K.In h)(G:h.Ns OM mg)(e:pV S K=nV S top)(q:S.zs[j]?=ZA n):mg n=ZB:=
 mg_none_of X G (pW (OH.mp (congrArg (·.2.1) e:S.zs.all (LN K OM)=ZC) n (Pz q)))
def se(j:Nat)(X:K.In h)(G:h.Ns OM mg)(e:pV S K=nV S top)(q:S.cs[j]?=ZA (n,i)):∃t,mg n=ZA (.int i t):=by obtain⟨t,ht⟩:=JA (uw (f:=λc=>MT K c.1) (g:=λc=>ZA c.2) j (congrArg (·.2.2.1) e) q);exact⟨t,mg_of X G ht⟩
def Ma(e:pV S K=nV S top):MS K S.es=ZC:=congrArg (·.2.2.2) e
end
def left_of{p:OI}{loose:List Str}{Xt:Oe->Bool}{Yf:Oe->α}{Ya:Py->α}{N:Nat}{g0:Bool}
  (e:opening p=plainProg p.main.scope.names) (hN:Nat.ble 600 N=ZC) (f:∀s,fenceModules? p s=ZA s)
  (h:∀(w:Py)(os:Wi),(topFrom treeTable p w N ⟨boot_heap w.params,⟨[]⟩,boot_drawn,boot_toks,os⟩).map (λs=>(openSeen q loose (Xh p.main.body) Xt g0 s,Yf s))=ZA (openGood q loose,Ya w)):
  LeftO p q loose Xt Yf Ya N g0:=λw=>by
 obtain⟨⟨h0,gs,d,k,os⟩,e1,e2⟩:=Qr.mp (boot_open e hN f w);simp only[Vu]at e2;obtain⟨rfl,rfl,rfl,rfl⟩:=e2;unfold openEnds;rw[e1];exact h w os
structure Cl (P:OI)(w:Py)(K:Frag)(mg:WF)(base:ZH)(k:Nat)(x:Str)(n:Nat)(m:List T->Rs T):Prop where
 ex:∃f fd ps,mg x=ZA (.ref f)/\keepIn K (.ref f)=ZC/\Binds K fd ps []/\ps.length=n/\BK P w K mg base k f fd ps n m
abbrev fV(K:Frag)(mg:WF)(x:Str)(st:ZF)(ps:List Str):Prop:=∃f fd,Fn K mg x st ps f fd
section
variable {base:ZH}{n:Nat}{F:Y1}
def Mw(H:fV K mg x st ps)(S:dj N ps (az st))(hn:ps.length=n)
  (hbody:∀(f:ZE)(cdv:Ob)(A:OW)(outer:List Env)(s:Oe)(H:Hp)(E:XK),Room k (A.deeper (envOfC x (az st) s.heap.objs.size f cdv)) ->
   ∀xe,BA ((jl CX0 P w K mg base N x (az st) f cdv A outer s H E).FB xe) (cZ st) F):Cl P w K mg base (k+1) x n (val n N.length F):=by
 obtain⟨f,fd,h⟩:=H;exact⟨f,fd,ps,h.mg,h.fn.kp,h.bd,hn,sV h.fn S hn λcdv _=>hbody f cdv⟩
def Ku(H:fV K mg x st ps)(S:dj N ps (az st))(hn:ps.length=n)
  (hbody:∀(f:ZE)(cdv:Ob),(∃o fd,mg x=ZA (.ref f)/\K.lookup f=ZA o/\o.data=.func fd/\fd.code=cdv)->∀(A:OW)(outer:List Env)(s:Oe)(H:Hp)(E:XK),Room k (A.deeper (envOfC x (az st) s.heap.objs.size f cdv)) ->
   ∀xe,BA ((jl CX0 P w K mg base N x (az st) f cdv A outer s H E).FB xe) (cZ st) F):Cl P w K mg base (k+1) x n (val n N.length F):=by
 obtain⟨f,fd,h⟩:=H;refine⟨f,fd,ps,h.mg,h.fn.kp,h.bd,hn,sV h.fn S hn λcdv hc=>hbody f cdv ?_⟩;have hh:=h.fn;obtain⟨oc,od,kV,doc,pm,an,cdv',ct,osl,rfl,lk,hcd⟩:=hh.ex;exact⟨_,_,h.mg,lk,rfl,hc⟩
end
variable{g:List T->Rs T}
section
variable {fs:Y0}{n k':Nat}
def aK(c:Cl X.prog X.w X.K X.mg X.base k x n g)(hr:Room k' X.A)(ha:QA X (e::es) fs)(hk:autoParam (k<=k') s_)(hl:∀(Z:En)(ts:List T),fs Z=.ok ts->ts.length=n:=by repeat first|exact HU|refine HS ?_)
  (hn:bj (e::es)=ZC:=by rfl) (hg:Gl X x:=by rfl) (h2:autoParam ((x == Oq "__debug__")=ZD) s_):QE X (.Call (.Name x p) (e::es) [] pos) (cl g fs):=by
 obtain⟨f,fd,ps,h1,h3,h4,h5,h6⟩:=c.ex;exact zq_c h6 (hr.mono hk) h1 h3 h4 hl ha h5 hn hg h2
def vd(h:∃t,X.mg x=ZA (.int i t))(hg:Gl X x:=by rfl)(hd:autoParam ((x == Oq "__debug__")=ZD) s_):QE X (.Name x pos) (cn (.int i)):=by obtain⟨t,h⟩:=h;exact EX h ⟨_,rfl⟩ hg hd
abbrev G9(X:Cx)(n:Nat)(es:List ZG)(gs:List (List T->Rs T)):Prop:=∃as,Sels X n es as gs
def selN:G9 X n [] []:=⟨_,seln⟩
def Fs(c:Cl X.prog X.w X.K X.mg X.base k x n g)(hr:Room k' X.A)(h:G9 X n es gs)(hk:autoParam (k<=k') s_)(hg:Gl X x:=by rfl)(hd:autoParam ((x == Oq "__debug__")=ZD) s_):G9 X n (.Name x p::es) (g::gs):=by obtain⟨f,fd,ps,h1,h3,h4,h5,h6⟩:=c.ex;obtain⟨as,h⟩:=h;exact⟨_,selc h6 (hr.mono hk) h1 h3 h4 h h5 hg hd⟩
def EW{a0 i0:ZG}{p2:Pos}(S:G9 X n es gs)(h0:QE X i0 f0)(ha:QA X (a0::args) fs)(hl:∀(Z:En)(ts:List T),fs Z=.ok ts->ts.length=n:=by repeat first|exact HU|refine HS ?_)
  (hn:bj (a0::args)=ZC:=by rfl) (hs:autoParam (kL i0) w_) (hz:autoParam (PC es<=100) s_):QE X (.Call (.Subscript (.List es p1) i0 p2) (a0::args) [] pos) (AD gs f0 fs):=by
 obtain⟨as,S⟩:=S;exact H0 S h0 hl ha hn hs hz
end
variable{H:Hp}
theorem PairsAt.snoc{b kb:ZE}{p:List Key×V}(h1:H b=ZA (.tup [.ref kb,p.2]))(h2:H kb=ZA (.tup (p.1.map kV))):∀{xs:List V}{ps:List (List Key×V)},PairsAt H xs ps->PairsAt H (xs++[.ref b]) (ps++[p])
 |[],_,h=>by unfold PairsAt at h;subst h;exact⟨b,kb,p,[],rfl,rfl,h1,h2,rfl⟩
 |x::xs,_,⟨b',kb',p',r,e1,e2,e3,e4,e5⟩=>by subst e1;exact⟨b',kb',p',r++[p],rfl,e2,e3,e4,e5.snoc h1 h2⟩
theorem PairsAt.move{H':Hp}{zs:List V}(hD:H D=ZA (.lst zs))(s:SameO (λa=>a=D) H H'):∀{xs:List V}{ps:List (List Key×V)},PairsAt H xs ps->PairsAt H' xs ps
 |[],_,h=>h
 |x::xs,_,⟨b,kb,p,r,e1,e2,e3,e4,e5⟩=>⟨b,kb,p,r,e1,e2,s _ _ e3 (lZ e3 hD (λz=>nomatch z)),s _ _ e4 (lZ e4 hD (λz=>nomatch z)),e5.move hD s⟩
theorem PairsAt.len:∀{xs:List V}{ps:List (List Key×V)},PairsAt H xs ps->xs.length=ps.length
 |[],_,h=>by unfold PairsAt at h;subst h;rfl
 |x::xs,_,⟨b,kb,p,r,e1,e2,e3,e4,e5⟩=>by subst e1;rw[Ol,Ol,e5.len]
variable{O:Ow}{Q:VK}{Z:En}{kk:List (List Key)}{l:List T}{σ:L2.St}
def wA{src:List (Option Nat)}{wi:TI}{te:TE}(E:EnvO X.K O H Z σ)(hwi:∀R,(∀H1,Same H H1->∀J,MK X.K O H1 l J->R J H1)->wi σ H R)(hz:l.length<=1000)(hk:l.map keyOf=kk.map ZA)(hs:0<src.length)
  (Acc:Hp->ZE->List V->Prop) (a0:∀H1 D,Same H H1->Nw X.K H1 D->Acc (upd H1 D (.lst [])) D [])
  (am:∀H1 H2 D vs ys,Acc H1 D vs->H1 D=ZA (.lst ys)->SameO (λa=>a=D) H1 H2->Acc H2 D vs)
  (hte:∀t∈l,∀σ' H' O' D vs ys (Q':VK),EnvM X.K O' noM H' ((bU src Z).set 0 (.va t)) σ'->Acc H' D vs->H' D=ZA (.lst ys)->(∀v H'',Same H' H''->Acc H'' D (vs++[v])->Q' v H'')->te σ' H' Q')
  (hq:∀H1 D ys ps H',Same H H1->Nw X.K H1 D->Same H1 H'->H' D=ZA (.lst ys)->PairsAt H' ys ps->ps.map (·.1)=kk->Acc H' D (ps.map (·.2))->Q (.ref D) H'):
  Il X.K wi src (B1 X (gN 0)) vm (Fc (ie (oX 0) (ie te tj))) σ H Q:=by
 refine hwi _ λH1 s1 J hJ D hD hK=>?_;have nD:Nw X.K H1 D:=⟨hD,hK⟩;have E1:=E.same s1;have lk:l.length=kk.length:=by have:=congrArg PC hk;rwa [Oc,Oc]at this
 have hlen:0<(bU src Z).length:=by unfold bU;rw[Oc];exact hs
 let O':Ow:=λa=>O a\/a=D
 have subO:∀a,O' a->O a\/Nw X.K H1 a:=λa z=>z.elim .inl λw=>.inr (w▸nD);refine⟨λi m σ' ys H'=>m=l.length - i/\i<=l.length/\ys.length=i/\H' D=ZA (.lst ys)/\SameO (λa=>a=D) (upd H1 D (.lst [])) H' ∧
  ∃s0 ps,EnvM X.K O' noM H' ((bU src Z).set 0 s0) σ'/\PairsAt H' ys ps/\ps.map (·.1)=kk.take i/\Acc H' D (ps.map (·.2)),⟨l.length,?_⟩,?_⟩
 .have sN:Same H1 (upd H1 D (.lst [])):=aQ hD _;refine⟨by omega,Pk _,rfl,aI,λb o e _=>e,(bU src Z)[0],[],?_,rfl,rfl,a0 H1 D s1 nD⟩;rw[UI];exact(wB E1 src).move (P:=λa=>a=D) (λa z=>.inr (z▸nD)) subO (λb o e _=>sN b o e) λa z=>by
   rcases z with z|z
   .exact(E1.mtb a z).same sN
   .rw[z];exact .inl ⟨_,aI⟩
 .rintro i m σ' ys H' ⟨rfl,hi',hyl,hDl,hsm,s0,ps,E',hp,hkk,hacc⟩;refine⟨hDl,?_⟩;have sm1:SameO (λa=>a=D) H1 H':=λb o e nb=>hsm b o (by rw[aG nb];exact e) nb;have it:=hJ (λa=>a=D) O' (λa z=>.inr (z▸nD)) subO i H' sm1 (λa z=>(E'.trk a z).some);by_cases hlt:i<l.length
  .refine .inr ?_;obtain⟨go,yl⟩:=it.2 l[i] (by simp);refine⟨go,by rw[hyl,PJ];omega,λxx Hc y=>?_⟩;obtain⟨sc,rx⟩:=yl xx Hc y;have Ec:=E'.same sc;have eg:gN 0 l[i] ((bU src Z).set 0 s0)=.ok ((bU src Z).set 0 (.va l[i])):=by unfold gN;rw[if_pos (by rw[P6];exact hlen),Wy]
   refine⟨(bU src Z).set 0 s0,O',noM,l[i],Ec,rx,?_⟩;rw[eg];intro σ1 Eg;unfold vm;dsimp only;rw[if_pos rfl];obtain⟨kv,ekv,rkv⟩:=Eg.val 0 l[i] (by rw[OY hlen]);refine⟨kv,ekv,?_⟩;have aC:Acc Hc D (ps.map (·.2)):=am H' Hc D _ ys hacc hDl λb o e _=>sc b o e;have DC:Hc D=ZA (.lst ys):=sc _ _ hDl;refine hte l[i] (PR hlt) σ1 Hc O' D _ ys _ Eg aC DC λv H4 s4 acc4=>⟨by show 2<=ZI;rw[PJ];omega,λp hpn=>?_⟩;have D4:H4 D=ZA (.lst ys):=s4 _ _ DC;have pD:p≠D:=λz=>by rw[z,D4]at hpn;cases hpn
   have E4:=Eg.same s4;have ki:kk[i]'(by omega)=kk[i]'(by omega):=rfl;have hki:keyOf l[i]=ZA (kk[i]'(by omega)):=by have:=congrArg (λz=>z[i]?) hk;simp only[Ox,Og hlt,Og (show i<kk.length by omega),Xd]at this;exact OQ this
   obtain⟨kb,rfl,hkb⟩:=iq hki (rkv.same s4);have s46:SameO (λa=>a=D) H4 (upd (upd H4 p (.tup [.ref kb,v])) D (.lst (ys++[.ref p]))):=λb o e nb=>by rw[aG nb,aG (λz=>by rw[z,hpn]at e;cases e)];exact e
   refine⟨by rw[aG (PN pD)];exact D4,l.length - (i+1),by omega,rfl,hlt,?_,aI,λb o e nb=>s46 b o (s4 _ _ (sc _ _ (hsm b o e nb))) nb,.va l[i],ps++[(kk[i]'(by omega),v)],?_,?_,?_,?_⟩
   .rw[On,hyl];rfl
   .exact E4.move (λa z=>.inl (.inr z)) (λa z=>.inl z) s46 λaa z=>by
     by_cases hz:aa=D
     .rw[hz];exact .inl ⟨_,aI⟩
     .exact(E4.trk aa z).elim (λ⟨vs,e⟩=>.inl ⟨vs,s46 _ _ e hz⟩) λ⟨vs,e⟩=>.inr ⟨vs,s46 _ _ e hz⟩
   .refine((hp.same (sc.trans s4)).move D4 s46).snoc (kb:=kb) (p:=(kk[i]'(by omega),v)) ?_ ?_
    .rw[aG pD,aI]
    .exact s46 _ _ hkb (lZ hkb D4 (λz=>nomatch z))
   .rw[PH,hkk];show kk.take i++[kk[i]'(by omega)]=kk.take (i+1);rw[List.take_append_getElem]
   .rw[PH];exact am H4 _ D _ ys acc4 D4 s46
  .refine .inl ⟨it.1 (by omega),?_⟩;have sF:Same H1 H':=λb o e=>sm1 b o e λz=>by rw[z,hD]at e;cases e
   exact hq H1 D ys ps H' s1 nD sF hDl hp (by rw[hkk,Sv (by omega)]) hacc
def tq(K:N7)(t:TE):TE:=λσ H Q=>t σ H λv H'=>∃a xs ps,v=.ref a/\H' a=ZA (.lst xs)/\xs.length<=1000/\PairsAt H' xs ps/\∀q,Nw K H' q->Q (.ref q) (upd H' q (.dT (fR [] ps)))
def vU{t:TE}(hu:X.A.units+8<cLine)(hc:X.calm=ZC)(hm:X.mg "dict" =ZB)(ha:PE X e t)(hg:Gl X "dict")(hs:b8 e=ZC):PE X (.Call (.Name "dict" p) [e] [] pos) (tq X.K t):=by
 have h1:Oz [e] X.env=(ZD,eval e X.env)::Oz [] X.env:=bo hs;intro kw s σ H Q I hq;refine Pd (fg I hg hm (show Pc "dict" =ZA (.type "dict")by decide+kernel) ?_ (by decide) (by decide));refine Pb (cL (bF (te:=t) ha dQ h1 pos kw s σ H (λzs H'=>match zs with|[v] =>∃a xs ps,v=.ref a/\H' a=ZA (.lst xs)/\xs.length<=1000/\PairsAt H' xs ps/\∀q,Nw X.K H' q->Q (.ref q) (upd H' q (.dT (fR [] ps)))|_=>False) I ?_) λus s1 hh=>?_) h1 rfl
 .exact hq
 .obtain⟨vs,H1,I1,r1,hv⟩:=hh
  match vs,hv,r1 with
  |[v],hv,r1=>
  obtain⟨a,xs,ps,ev,e1,e2,e3,e4⟩:=hv;subst ev;obtain⟨u,rfl,ru⟩:=r1.one;obtain rfl:u=OB a:=ru;exact w4 (I1.ok.hd hc) hu I1 e1 e2 e3 λq s' nw I'=>⟨.ref q,_,I',rfl,e4 q nw⟩
theorem mP:∀(ps kvs:List (List Key×V)),((kvs++ps).map (·.1)).Nodup->fR kvs ps=kvs++ps
 |[],kvs,_=>by rw[fR,PB]
 |p::ps,kvs,h=>by
  have e:dP kvs p.1 p.2=kvs++[p]:=by unfold dP;rw[if_neg];intro z;obtain⟨q,hq,e⟩:=Rx.mp z;have e:=of_decide_eq_true e;rw[PH,PV]at h;exact h.2.2 q.1 (Os.mpr ⟨q,hq,rfl⟩) p.1 (by simp) e
  rw[fR,e,mP ps (kvs++[p]) (by rw[OU];exact h),OU];rfl
def gV(kk:List (List Key)):List (List Key×V):=kk.map λk=>(k,V.non)
def xV:∀{ps:List (List Key×V)},ps.map (·.1)=kk->(∀v∈ps.map (·.2),v=V.non)->ps=gV kk:=by
 intro ps h1 h2;subst h1;unfold gV;rw[ON];conv=>lhs;rw[<-RH ps]
 exact OP λp hp=>Prod.ext rfl (h2 p.2 (Os.mpr ⟨p,hp,rfl⟩))
variable{K:N7}
def tPI0(K:N7)(f:Y0):TI:=λσ H R=>∃Z O,EnvO K O H Z σ/\match f Z with
 |.ok ts=>∀H',Same H H'->∀J,MK K O H' ts J->R J H'
 |_=>False
def tPI0.up{R:It->Hp->Prop}(h:tPI0 X.K f σ H R):MP X f σ H R:=by
 obtain⟨Z,O,E,h⟩:=h;refine⟨Z,O,E,?_⟩;cases q:f Z with
 |ok t=>rw[q]at h;exact h
 |err c=>rw[q]at h;exact h.elim
 |bad=>rw[q]at h;exact h.elim
def xK(X:Cx)(src:List (Option Nat)):TE:=tq X.K (Il X.K (tPI0 X.K (iS (vr 1))) src (B1 X (gN 0)) vm (Fc (ie (oX 0) (ie (tC .non) tj))))
def Jm{eb tb ib:ZG}{q1 pc lp:Pos}{jj:Nat}{src:List (Option Nat)}{x1}(hu:X.A.units+8<cLine)(hc:X.calm=ZC)(hm:X.mg "dict" =ZB)(hg:Gl X "dict")(S:LcScope X sc N' src)(hi:BB X tb ib (iS (vr 1)))
  (blk:∀cl C s₀ H₀ fp,ER (cA X sc cl N' C s₀ H₀ fp) tb (gN 0)/\PE (cA X sc cl N' C s₀ H₀ fp) eb (oX 0)/\b8 eb=ZC) (hs:∀x,Pj ib X.env x=pure x):
  PE X (.Call (.Name "dict" p) [.ListComp (.Tuple [eb,.Constant .none jj pc] x1 q1) [⟨tb,ib,[],0⟩] sc lp] [] pos) (xK X src):=
 PE.imp (vU hu hc hm (vS hc S hi (λcl C s₀ H₀ fp=>⟨(blk cl C s₀ H₀ fp).1,tU,tV (bF (blk cl C s₀ H₀ fp).2.1 (bF CO dQ (bo rfl)) (bo (blk cl C s₀ H₀ fp).2.2))⟩) hs) hg rfl) λσ H Q h=>tPI0.up h
def Cd{src:List (Option Nat)}(E:EnvO X.K O H Z σ)(hf:iS (vr 1) Z=.ok l)(hz:l.length<=1000)(hk:l.map keyOf=kk.map ZA)(hn:kk.Nodup)(hs:0<src.length)
  (hq:∀d H',Same H H'->Nw X.K H d->H' d=ZA (.dT (gV kk))->Q (.ref d) H'):xK X src σ H Q:=by
 have lk:l.length=kk.length:=by have:=congrArg PC hk;rwa [Oc,Oc]at this
 unfold xK tq;refine wA (X:=X) (te:=tC .non) E (λR h=>⟨Z,O,E,by rw[hf];exact h⟩) hz hk hs (λ_ _ vs=>∀v∈vs,v=V.non) (λ_ _ _ _ v h=>nomatch h) (λ_ _ _ _ _ h _ _=>h) (λt ht σ' H' O' D vs ys Q' _ acc _ k=>k _ H' (Same.refl H') λv hv=>?_) λH1 D ys ps H' s1 nD s2 hD hp h1 h2=>?_
 .rcases OS.mp hv with z|z
  .exact acc v z
  .exact OF.mp z
 .have e:ps=gV kk:=xV h1 h2;refine⟨D,ys,ps,rfl,hD,by rw[hp.len,e];unfold gV;rw[Oc];omega,hp,λq nq=>?_⟩;have e2:fR [] ps=gV kk:=by rw[mP ps [] (by rw[P5,h1];exact hn),P5,e]
  rw[e2];exact hq q _ ((s1.trans s2).trans (aQ nq.1 _)) (lW (s1.trans s2) nq) aI
theorem vN:∀(l:List T)(kk:List (List Key)),l.length=kk.length->Reps K O H (l.map λ_=>T.non) ((gV kk).map (·.2))
 |[],[],_=>Reps.GM
 |_::l,_::kk,h=>Reps.Gc Rep.NF (vN l kk (by simpa using h))
 |[],_::_,h=>by simp at h
 |_::_,[],h=>by simp at h
theorem vJ(hk:l.map keyOf=kk.map ZA):∀{m:List T}{ds:List ZE},m.length=ds.length->(∀d∈ds,H d=ZA (.dT (gV kk)))->RowsR K O H (m.map λ_=>(l,l.map λ_=>T.non)) ds
 |[],[],_,_=>rfl
 |_::m,d::ds,h,hd=>⟨d,ds,gV kk,rfl,hd d Of,by unfold gV;rw[ON];exact hk,vN l kk (by have:=congrArg PC hk;rwa [Oc,Oc]at this),vJ hk (by simpa using h) λe he=>hd e (N9 _ he)⟩
 |[],_::_,h,_=>by simp at h
 |_::_,[],h,_=>by simp at h
theorem zW:∀{l:List T},nP l=ZC->∃kk:List (List Key),l.map keyOf=kk.map ZA
 |[],_=>⟨[],rfl⟩
 |t::l,h=>by unfold nP at h;rw[Oa]at h;obtain⟨kk,e⟩:=zW h.2;obtain⟨k,ek⟩:=R8.mp h.1;exact⟨k::kk,by rw[Od,Od,ek,e]⟩
def Ct(i j:Nat){ea r ta ia:ZG}{q1 lp p2:Pos}{x1}{src:List (Option Nat)}(hu:X.A.units+8<cLine)(hc:X.calm=ZC)(hm:X.mg "dict" =ZB)(hN:X.N.Nodup)
  (S:LcScope X sc N' [ZB,ZA j]) (hi:BB X ta ia (iS (vr j))) (hsr:0<src.length)
  (blk:∀cl C s₀ H₀ fp,ER (cA X sc cl N' C s₀ H₀ fp) ta (gN 0)/\PE (cA X sc cl N' C s₀ H₀ fp) ea (oX 0)/\PE (cA X sc cl N' C s₀ H₀ fp) r (xK X src)) (h1:b8 ea=ZC:=by rfl) (h2:b8 r=ZC:=by rfl)
  (hs:autoParam (∀x,Pj ia X.env x=pure x) t_) (hg:Gl X "dict":=by rfl) (hix:X.N[i]?=ZA x:=by rfl) (hx:autoParam (Loc X.env.scope x) x_)
  (hsw:P7 (.Call (.Name "dict" p) [.ListComp (.Tuple [ea,r] x1 q1) [⟨ta,ia,[],0⟩] sc lp] [] p2) (ZA (.Name x p3)) pos.line X.env=pure ZD:=by rfl)
  (hf:autoParam (X.fn x=ZC\/X.env.scope.names.lookup x=ZA .local) r_):
  qQ X (.Assign [.Name x p3] (.Call (.Name "dict" p) [.ListComp (.Tuple [ea,r] x1 q1) [⟨ta,ia,[],0⟩] sc lp] [] p2) pos) (pw i j):=
 PS.imp (pC hN hix hx (vU hu hc hm (vS (g:=B1 X (gN 0)) (tc:=vm) (te:=Fc (ie (oX 0) (ie (xK X src) tj))) hc S hi (λcl C s₀ H₀ fp=>⟨(blk cl C s₀ H₀ fp).1,tU,tV (bF (blk cl C s₀ H₀ fp).2.1 (bF (blk cl C s₀ H₀ fp).2.2 dQ (bo h2)) (bo h1))⟩) hs) hg rfl) hsw hf) λD σ H hh_=>by
  obtain⟨Z,B,M,E,h⟩:=hh_;unfold pw at h;cases qj:Z[j]? with
  |none=>rw[qj]at h;exact h.elim
  |some z=>
   rw[qj]at h
   match z,h,qj with
   |.va (.lst l),h,qj=>
    dsimp only at h;by_cases hh:i<Z.length/\nP l=ZC/\(l.map keyOf).Nodup/\l.length<=1000
    .rw[if_pos hh]at h;obtain⟨hl,hky,hnd,hz⟩:=hh;obtain⟨kk,hk⟩:=zW hky;have lk:l.length=kk.length:=by have:=congrArg PC hk;rwa [Oc,Oc]at this
     have hn:kk.Nodup:=by rw[hk]at hnd;exact(Wd.mp hnd).imp λh z=>h (by rw[z])
     have fj:iS (vr j) Z=.ok l:=by unfold iS vr;rw[qj];rfl
     have hlc:bU [ZB,ZA j] Z=[.em,.va (.lst l)]:=by unfold bU;simp[qj]
     unfold B2 tq;refine wA (X:=X) (te:=xK X src) E.o (λR h=>⟨Z,OO B M,E.o,by rw[fj];exact h⟩) hz hk (by simp)
      (λH' D vs=>H D=ZB/\Same H H'/\∃ds:List ZE,vs=ds.map V.ref/\ds.Nodup/\∀d∈ds,Nw X.K H d/\H' d=ZA (.dT (gV kk)))
      (λH1 D s1 nD=>⟨(lW s1 nD).1,s1.trans (aQ nD.1 _),[],rfl,Re,λd h=>nomatch h⟩)
      (λH1 H2 D vs ys ⟨c1,c2,ds,c3,c4,c5⟩ hD s=>⟨c1,(λb o e=>s b o (c2 b o e) (λz=>by rw[z,c1]at e;cases e)),ds,c3,c4,λd hd=>⟨(c5 d hd).1,s _ _ (c5 d hd).2 (lZ (c5 d hd).2 hD (λz=>nomatch z))⟩⟩)
      (λt ht σ' H' O' D vs ys Q' E' ⟨c1,c2,ds,c3,c4,c5⟩ hD k=>Cd (l:=l) (kk:=kk) ⟨noM,E'⟩ (by rw[hlc];rfl) hz hk hn hsr λd H'' s' nd hd=>?_) λH1 D ys ps H' s1 nD s2 hD hp e1 ⟨c1,c2,ds,c3,c4,c5⟩=>?_
     .refine k _ H'' s' ⟨c1,c2.trans s',ds++[d],by rw[c3,PH];rfl,?_,λe he=>?_⟩
      .refine PV.mpr ⟨c4,by simp,λu hu w hw=>?_⟩;rw[OF.mp hw];intro z;have:=(c5 u hu).2;rw[z,nd.1]at this;cases this
      .rcases OS.mp he with z|z
       .exact⟨(c5 e z).1,s' _ _ (c5 e z).2⟩
       .rw[OF.mp z];exact⟨lW c2 nd,hd⟩
     .have hpl:ps.length=kk.length:=by rw[<-e1,Oc]
      refine⟨D,ys,ps,rfl,hD,by rw[hp.len];omega,hp,λq nq=>?_⟩;have e2:fR [] ps=ps:=by rw[mP ps [] (by rw[P5,e1];exact hn),P5]
      rw[e2];have qd:q∉ds:=λz=>by have:=(c5 q z).2;rw[nq.1]at this;cases this
      have dl:ds.length=ps.length:=by have:=congrArg PC c3;rw[Oc,Oc]at this;exact this.symm
      have hm':∀b,b=q\/b∈ds->Nw X.K H b:=λb z=>z.elim (λw=>w▸lW c2 nq) λw=>(c5 b w).1;have sF:Same H (upd H' q (.dT ps)):=c2.trans (aQ nq.1 _);obtain⟨E2,sub⟩:=E.new (m:=λb=>b=q\/b∈ds) (o:=.dd l (l.map λ_=>(l,l.map λ_=>.non))) (v:=.ref q) (H':=upd H' q (.dT ps)) hl hm' sF ⟨q,ps,ds,rfl,λb=>Ta,qd,c4,aI,by rw[hk,<-e1,ON];rfl,c3,vJ hk (by omega) λd hd=>by rw[aG (show d≠q from λz=>qd (z▸hd))];exact(c5 d hd).2⟩;exact h _ _ _ (SameO.of sF) E2 sub
    .rw[if_neg hh]at h;exact h.elim
   |.em,h,_=>exact h.elim
   |.ow _,h,_=>exact h.elim
   |.va .non,h,_=>exact h.elim
   |.va (.bl _),h,_=>exact h.elim
   |.va (.int _),h,_=>exact h.elim
   |.va (.str _),h,_=>exact h.elim
   |.va (.tup _),h,_=>exact h.elim
   |.va (.scr _),h,_=>exact h.elim
   |.va (.dct _ _),h,_=>exact h.elim
def Au(i j:Nat){ea r ta ia:ZG}{q1 lp p2:Pos}{x1}{src:List (Option Nat)}(hu:X.A.units+8<cLine)(hc:X.calm=ZC)(hm:X.mg "dict" =ZB)(hN:X.N.Nodup)
  (S:LcScope X sc N' [ZB,ZA j]) (hi:QI X ta ia (iS (vr j))) (hsr:0<src.length)
  (blk:∀cl C s₀ H₀ fp,QG (cA X sc cl N' C s₀ H₀ fp) ta (gN 0)/\PE (cA X sc cl N' C s₀ H₀ fp) ea (oX 0)/\PE (cA X sc cl N' C s₀ H₀ fp) r (xK X src)) (h1:b8 ea=ZC:=by rfl) (h2:b8 r=ZC:=by rfl)
  (hs:autoParam (∀x,Pj ia X.env x=pure x) t_) (hg:Gl X "dict":=by rfl) (hix:X.N[i]?=ZA x:=by rfl) (hx:autoParam (Loc X.env.scope x) x_)
  (hsw:P7 (.Call (.Name "dict" p) [.ListComp (.Tuple [ea,r] x1 q1) [⟨ta,ia,[],0⟩] sc lp] [] p2) (ZA (.Name x p3)) pos.line X.env=pure ZD:=by rfl)
  (hf:autoParam (X.fn x=ZC\/X.env.scope.names.lookup x=ZA .local) r_):
  QS X (.Assign [.Name x p3] (.Call (.Name "dict" p) [.ListComp (.Tuple [ea,r] x1 q1) [⟨ta,ia,[],0⟩] sc lp] [] p2) pos) (pw i j):=
 ⟨Ct i j hu hc hm hN S hi.h hsr (λcl C s₀ H₀ fp=>⟨(blk cl C s₀ H₀ fp).1.h,(blk cl C s₀ H₀ fp).2⟩) h1 h2 hs hg hix hx hsw hf⟩
def KQ{k':Nat}(c:Cl X.prog X.w X.K X.mg X.base k x 0 g)(hr:Room k' X.A)(hk:autoParam (k<=k') s_)(hg:Gl X x:=by rfl)(h2:autoParam ((x == Oq "__debug__")=ZD) s_):QE X (.Call (.Name x p) [] [] pos) (c0 g):=by obtain⟨f,fd,ps,h1,h3,h4,h5,h6⟩:=c.ex;exact⟨q_c0 h6 (hr.mono hk) h1 h3 h4 hg h2⟩
def fsc{P:List Str}(h1:sc.kind=.function:=by rfl)(h2:sc.isCoroutine=ZD:=by rfl)(h3:sc.isGenerator=ZD:=by rfl)(h4:autoParam (N.Nodup) y_)(h5:N.take P.length=P:=by rfl)
  (h6:autoParam (∀x∈P,sc.names.lookup x=ZA .local\/sc.names.lookup x=ZA .cell) y_) (h7:autoParam (∀y∈sc.names,y.2≠ .free) y_):dj N P sc:=⟨h1,h2,h3,h4,h5,h6,h7⟩
def xC{fs:Y0}(hm:X.mg "range" =ZB)(ha:QA X [a,b,c] fs)(hg:Gl X "range":=by rfl)(hn:bj [a,b,c]=ZC:=by rfl):QI X tg (.Call (.Name "range" p) [a,b,c] [] pos) (Mi fs):=⟨AI hm ha.h hg hn⟩
noncomputable def tbl(pl:List Nat)(L:Bool):SetTable:={mask:=7,place:=pl.toArray,dummies:=#[],finger:=0,led:=L,moves:=0,plain:=ZC}
end Tr
variable{Q:WP}
namespace L2
open PySem PySem.Spec PyProof.Rows PySem.W
def M0(K:Frag)(mg:WF):Prop:=∃bm ob,mg "__builtins__" =ZA (.ref bm)/\bm≠Sb/\bm≠OM/\K.lookup bm=ZA ob/\ob.cls=.type "module"/\ob.dict=ZA Sb/\ob.data=.plain
variable{pos:Pos}
def yS{pos':Pos}{c:Ob}(l:List Ob)(h:TriplesOk l):T1 pos' (l++[rawInt pos.line,rawInt pos.col,c])=ZA v->T1 pos' l=ZA v\/v=c:=by
 fun_induction TriplesOk l with
 |case1=>
  intro e;simp only[P5,T1,rawInt]at e;split at e
  .exact .inr (OQ e).symm
  .cases e
 |case2 a t b u x dv ih=>
  intro e;simp only[WN,T1]at e ⊢;split at e
  .rename_i hc;rw[if_pos hc];exact .inl e
  .rename_i hc;rw[if_neg hc];exact ih h e
 |case3 l h1 h2=>exact h.elim
variable{H:Hp}{body:ZG}
section
variable {X:Cx}{kw:Uf}{σ:List (Option V)}
def MJ(H:Hp)(P:ZE)(h:ZH)(mg:WF)(q:Str)(params:SR)(body:ZG)(scope:RJ)(f:ZE):Prop:=∃c ctv,h.get? f=ZA (kla_obj "<lambda>" q params body scope [] ((mg "__name__").getD .none) c ctv)/\h.CodeRec (.ref c) q/\H c=ZA (.own P)
def Du{c P:ZE}(I:Inv X kw σ H s)(hcode:X.env.code=.ref c)(C:CodeHd X.base c P)(hP:H P=ZA (.tbl (X.env.qual++ "<lambda>")))(B:M0 X.K X.mg)
  (hdef:defaultsOf params X.env=([],[])) (hcl:U1 scope X.env=pure [])  
  (q:∀f H' h' tk,s.heap.objs.size<=f->Same H H'->Inv X kw σ H' {s with heap:=h',toks:=tk}->H' f=ZB->MJ H' P h' X.mg (X.env.qual++ "<lambda>") params body scope f->Q (.ref f) {s with heap:=h',toks:=tk}):
  ZJ (ZK X.prog X.w) X.A (eval (.Lambda params body scope pos) X.env) Q E s:=by
 refine kla_eval hdef ?_;obtain⟨bm,ob,b1,b2,b3,b4,b5,b6,b7⟩:=B;have eb:X.base.get? bm=ZA ob:=I.mod.kin bm ob b4;have hbP:bm≠P:=λz=>by have:=(I.bs bm ob eb).2;rw[z,hP]at this;cases this
 have hgs:s.heap.Ns OM X.mg:=I.mod.glob.keeps I.bk;have hgP:OM≠P:=λz=>by obtain⟨o,es,ep,e,_⟩:=I.mod.glob;have:=(I.bs _ o e).2;rw[z,hP]at this;cases this
 have hB:s.heap.BuiltinsAt X.mg P:=⟨bm,ob,b1,b2,b3,hbP,I.bk _ _ eb,b5,b6,b7⟩;have hC:CodeHd s.heap c P:=C.keeps I.bk;obtain⟨ps,e,ht,r⟩:=I.hok P _ hP;cases hf:T1 pos ps.toList with
 |none=>
  have hnf:=hf;refine kla_makeFunction (mg:=X.mg) hcl I.ok.glob hgs hcode hC e ht hnf hgP hB λc' ctv h' tk hx hge hlt hrec htb=>?_;have hn':H c'=ZB:=I.hok.fresh hge;have ncP:c'≠P:=λz=>by rw[z,hP]at hn';cases hn'
  have same:Same H (upd H c' (.own P)):=λb o eb=>by rw[aG (λz=>by rw[z,hn']at eb;cases eb)];exact eb
  have pk:∀b u,b≠P->s.heap.get? b=ZA u->(h'.push (kla_obj "<lambda>" (X.env.qual++ "<lambda>") params body scope [] ((X.mg "__name__").getD .none) c' ctv)).get? b=ZA u:=λb u n eb=>Oi _ (hx b u n eb);obtain⟨c₂,oc,vs,t,ee,hoc,hd,hv⟩:=hrec;cases ee;have htb':=Oi (kla_obj "<lambda>" (X.env.qual++ "<lambda>") params body scope [] ((X.mg "__name__").getD .none) c' ctv) htb;have hoc':=Oi (kla_obj "<lambda>" (X.env.qual++ "<lambda>") params body scope [] ((X.mg "__name__").getD .none) c' ctv) hoc;have sz:s.heap.objs.size<=h'.objs.size:=Qc (RD hge hlt);refine q h'.objs.size (upd H c' (.own P)) _ tk sz same ?_ ?_ ⟨c',ctv,OA _ rfl,⟨c',oc,vs,t,rfl,hoc',hd,hv⟩,aI⟩
  .refine I.un ⟨λb u eb n _ _=>pk b u (λz=>by rw[z,hP]at n;cases n) eb,λb u eb n _ _=>⟨u.slots,pk b u (λz=>by rw[z,hP]at n;cases n) eb⟩,λb u eb n _=>?_,λb u eb _=>?_,λb xs eb=>same _ _ eb,λb o u eb=>same _ _ eb,λb ps eb=>same _ _ eb⟩ λb u eb=>?_
   .rw[aG (O8 (Ot (Ov eb) hge))];exact n
   .by_cases hb:b=P
    .exact⟨_,hb▸htb'⟩
    .exact⟨u,pk b u hb eb⟩
   .by_cases hb:b=c'
    .subst hb;rw[aI]at eb;cases eb;exact⟨oc,hoc'⟩
    .rw[aG hb]at eb;by_cases hbP:b=P
     .subst hbP;rw[hP]at eb;cases eb;refine⟨_,htb',?_,λpos' v ev=>?_⟩
      .have:=TriplesOk_snoc pos.line pos.col (.ref c') ps.toList ht;simpa using this
      .have ev':T1 pos' (ps.toList++[rawInt pos.line,rawInt pos.col,.ref c'])=ZA v:=by simpa using ev
       rcases yS ps.toList ht ev' with z|z
       .obtain⟨c2,o2,v2,t2,a1,a2,a3,a4⟩:=r pos' v z;exact⟨c2,o2,v2,t2,a1,same _ _ a2,pk _ _ (λz=>by rw[z,hP]at a2;cases a2) a3,a4⟩
       .exact⟨c',oc,vs,t,z,aI,hoc',hd,hv⟩
     .exact(I.hok b u eb).M6 (λd v hd' qd=>pk d v (λz=>by
       rcases hd' with hd'|hd'
       .exact hbP (hd'.symm.trans z)
       .rw[z,hP]at hd';cases hd') qd) (λd qd=>same _ _ qd) λd xs qd=>same _ _ qd
  .rw[aG (QH hlt)];exact I.hok.fresh sz
 |some v=>
  obtain⟨c',oc,vs,t,rfl,ho,e2,d2,v2⟩:=r pos v hf;refine kla_makeFunctionHit (mg:=X.mg) hcl I.ok.glob hgs hcode hC e ht hf hB λctv h' tk hk hsz=>?_;have kk:∀b u,s.heap.get? b=ZA u->(h'.push (kla_obj "<lambda>" (X.env.qual++ "<lambda>") params body scope [] ((X.mg "__name__").getD .none) c' ctv)).get? b=ZA u:=λb u eb=>Oi _ (hk b u eb);exact q h'.objs.size H _ tk hsz (λ_ _ e=>e) (I.kept kk) (I.hok.fresh hsz) ⟨c',ctv,OA _ rfl,⟨c',oc,vs,t,rfl,kk _ _ e2,d2,v2⟩,ho⟩
end
def MI(h:ZH)(mg:WF)(q:Str)(params:SR)(body:ZG)(scope:RJ)(f:ZE):Prop:=∃c ctv,h.get? f=ZA (kla_obj "<lambda>" q params body scope [] ((mg "__name__").getD .none) c ctv)/\h.CodeRec (.ref c) q
def Dv{CX:BL}{K:Frag}{mg:WF}{base:ZH}{f:ZE}{q:Str}{N ps:List Str}{outer:List Env}{vs:List V}{Q:VK}{E:XK}
  (L:MI s.heap mg q params body scope f) (S:dj N ps scope) (hr:Room (k+1) A) (e0:Env0 P w K mg base A outer s H)
  (hb:∀c ctv,VR (kla_fn "<lambda>" q params body scope [] ((mg "__name__").getD .none) (.ref c) ctv) ⟨us,[]⟩=pure (ps.zip us)) (hl:vs.length=ps.length) (r:Vals vs us)
  (hbody:∀c,∃t,PE (jl CX P w K mg base N q scope f (.ref c) A outer s H E) body t/\t (start N vs) H Q):
  ZL (ZK P w) A (.call (.ref f) ⟨us,[]⟩) (CR CX outer P w H s Q E) s:=by
 obtain⟨c,ctv,ho,hcd⟩:=L;have lim:s.heap.NoLimit:=e0.mod.nolimit.keeps λb o e=>(e0.bs b o e).1;have hkind:∀y∈ps.zip us,scope.names.lookup y.1=ZA .local\/(scope.names.lookup y.1=ZA .cell/\((QX (s.heap.objs.size+1) scope.names []).lookup y.1).isSome=ZC):=λ⟨n,v⟩ hy=>by
  rcases S.par n (Rj hy).1 with q|q
  .exact .inl q
  .exact .inr ⟨q,Q1 _ _ _ (.inl q)⟩
 refine kla_callFunE hr.depth ho rfl S.co S.gen rfl hcd ?_;rw[hb c ctv];refine Om (Q5 S.kind hkind λenv he s1 x=>?_);subst he;refine⟨lim.keeps x.toInCall.keep,kla_codeExpr ?_⟩;obtain⟨t,ht,hq⟩:=hbody c;have I:Inv (jl CX P w K mg base N q scope f (.ref c) A outer s H E) [] (start N vs) H s1:=kF S hr.hd e0 hl r x;exact Qp (ht [] s1 (start N vs) H _ I hq) (λu s' ⟨v,H',J,rv,q⟩=>⟨v,H',J.os,J.bare,J.base,J.hok,rv,q⟩) λe s' hs=>hs
end L2
namespace HT
open PySem PyProof.Rows
open PySem.SeqAt
open PySem.AutoSeq1 (wpAny_loadPart')
open PySem.MeetsSeq PySem.MeetsSeq2 PySem.MeetsSeq3
def oF(h:Qq vs ns):∀{i:Nat}{v:Ob},vs[i]?=ZA v->∃n t,ns[i]?=ZA n/\v=.int n t:=by
 induction h with
 |nil=>intro i v e;cases e
 |cons n t r ih=>
  intro i v e;cases i with
  |zero=>cases e;exact⟨n,t,rfl,rfl⟩
  |succ i=>exact ih (by simpa using e)
def Dh(l b:ZE)(items items2:Array Ob)(n n2:Nat)(dd dd2:Option ZE)(sl sl2:Array (Option Ob))(ns ms:List Int)(hi:Qq items.toList ns)(hj:Qq items2.toList ms)(k:Nat):
  ∀i:Nat,items.size - i=k->i<=items.size->i<=items2.size->Meets (Builtin.«list.__eq__.loop» ⟨[.ref l,.ref b,rawInt i,rawInt 0],[]⟩)
   (λ_ R s=>s.heap.get? l=ZA {cls:=.type "list",dict:=dd,data:=.seq items n,slots:=sl}/\s.heap.get? b=ZA {cls:=.type "list",dict:=dd2,data:=.seq items2 n2,slots:=sl2} ∧
    R (.ok (.ret (.bool (lexLt (ns.drop i) (ms.drop i))))) s):=by
 have z1:items.size=ns.length:=by rw[<-hi.length];simp
 have z2:items2.size=ms.length:=by rw[<-hj.length];simp
 induction k with
 |zero=>
  intro i hk h1 h2 prog w A R s h;obtain⟨hp,g,d,tk,os⟩:=s;obtain⟨hl,hb,h⟩:=h;wp_walk using O4 hl,O4 hb;have hi1:items[((i:Nat):Int).toNat]?=ZB:=by simp;omega
  have hv:lexLt (ns.drop i) (ms.drop i)=decide (items.size<items2.size):=by
   rw[Q2 (by omega)];cases q:ms.drop i with
   |nil=>
    have:=List.drop_eq_nil_iff.mp q;rw[rq];exact(decide_eq_false (by omega)).symm
   |cons y ys=>
    have:i<ms.length:=by have:=congrArg PC q;rw[QL,Ol]at this;omega
    rw[qi];exact(decide_eq_true (by omega)).symm
  rw[hv]at h;rw[hi1];wp_walk using O4 hl,O4 hb;exact h
 |succ k ih=>
  intro i hk h1 h2 prog w A R s h;obtain⟨hp,g,d,tk,os⟩:=s;obtain⟨hl,hb,h⟩:=h;wp_walk using O4 hl,O4 hb;have hlt:i<items.size:=by omega
  have hi1:items[((i:Nat):Int).toNat]?=ZA items[i]:=by simp[hlt]
  obtain⟨a,t,ha,hva⟩:=oF hi (i:=i) (v:=items[i]) (by simp[hlt]);obtain⟨hl1,ha1⟩:=Oj.mp ha;have hdn:ns.drop i=a::ns.drop (i+1):=by rw[Qy hl1,ha1]
  by_cases hlt2:i<items2.size
  .have hi2:items2[((i:Nat):Int).toNat]?=ZA items2[i]:=by simp[hlt2]
   obtain⟨c,u,hc',hvc⟩:=oF hj (i:=i) (v:=items2[i]) (by simp[hlt2]);obtain⟨hl2,hc2⟩:=Oj.mp hc';have hdm:ms.drop i=c::ms.drop (i+1):=by rw[Qy hl2,hc2]
   have hc:((i:Int)+1)=((i+1:Nat):Int):=by push_cast;rfl
   rw[hdn,hdm,lexLt_cons]at h;rw[hi1,hi2,hva,hvc];obtain⟨e,he,hiff⟩:=Ef A.in1 ⟨hp,g,d,tk,os⟩ a t c u;refine N8 (he prog w _ _ ?_);cases e with
   |true=>
    rw[if_pos (hiff.mp rfl)]at h;wp_walk;rw[hc];exact⟨Rv plain_eq_loop _,QZ entry_eq_loop (by rw[Qn plain_eq_loop _];exact ih (i+1) (by omega) (by omega) (by omega) prog w A R _ ⟨hl,hb,h⟩)⟩
   |false=>
    rw[if_neg (λq=>absurd (hiff.mpr q) OG)]at h;wp_walk using O4 hl,O4 hb;rw[hi1,hi2,hva,hvc];have hri:=Cp A.in1 ⟨hp,g,d,tk,os⟩ a t c u prog w;wp_walk using hri;exact h
  .have hi2:items2[((i:Nat):Int).toNat]?=ZB:=by simp;omega
   have hm:ms.drop i=[]:=Q2 (by omega);rw[hdn,hm,qk]at h;rw[hi1,hi2];wp_walk using O4 hl,O4 hb;have hf:decide (items.size<items2.size)=ZD:=decide_eq_false (by omega);rw[<-hf]at h;exact h
def uB(l b:ZE)(items items2:Array Ob)(n n2:Nat)(dd dd2:Option ZE)(sl sl2:Array (Option Ob))(ns ms:List Int)(hi:Qq items.toList ns)(hj:Qq items2.toList ms):
  Meets (Builtin.«list.__lt__» ⟨[.ref l,.ref b],[]⟩)
   (λ_ R s=>s.heap.get? l=ZA {cls:=.type "list",dict:=dd,data:=.seq items n,slots:=sl}/\s.heap.get? b=ZA {cls:=.type "list",dict:=dd2,data:=.seq items2 n2,slots:=sl2} ∧
    R (.ok (.ret (.bool (lexLt ns ms)))) s):=by
 intro prog w A R s h;obtain⟨hp,g,d,tk,os⟩:=s;obtain⟨hl,hb,h⟩:=h;have f3:=AutoSeq1.sub_list_list;wp_walk using O4 hl,O4 hb;exact⟨Rv plain_eq_loop _,QZ entry_eq_loop (by rw[Qn plain_eq_loop _];exact Dh l b items items2 n n2 dd dd2 sl sl2 ns ms hi hj _ 0 rfl (Pk _) (Pk _) prog w A R _ ⟨hl,hb,by simpa using h⟩)⟩
variable{items2:Array Ob}
def lt_lstInts{l b:ZE}{items:Array Ob}{n2:Nat}(hl:s.heap.get? l=ZA (seqObj "list" items n))(hb:s.heap.get? b=ZA (seqObj "list" items2 n2))(hi:Qq items.toList ns)(hj:Qq items2.toList ms)
  (hu:A.units<cLine) (h:Q (.bool (lexLt ns ms)) s):ZJ (ZK prog w) A (Pp .Lt (.ref l) (.ref b)) Q E s:=
 Sw (op:=.Lt) ⟨_,hl,rfl⟩ ⟨_,hb,rfl⟩ PySem.F.slot_list_lt PySem.F.entry_list_lt (PySem.F.args_list_lt_2 _ _) (uB l b items items2 n n2 ZB ZB #[] #[] ns ms hi hj)
  ⟨hl,hb,show Pq (lexLt ns ms)≠U6/\Q (.bool (lexLt ns ms)) s from⟨(λx=>nomatch x),h⟩⟩ hu
def KA:∀{ns ms:List Int},ns.length=ms.length->((Oo ns.length).all λj=>ns.getD j 0 == ms.getD j 0)=decide (ns=ms):=λ{ns ms} h=>by
 rw[Pf,OH,decide_eq_true_iff];constructor
 .intro g;refine R3 h λi h1 h2=>?_;have:=g i (OZ.mpr h1);rw[beq_iff_eq,O6,O6,Og h1,Og h2]at this;exact this
 .rintro rfl i _;exact beq_self_eq_true _
def eq_lstInts{l b:ZE}{items:Array Ob}{n2:Nat}{Q:Bool->Oe->Prop}(hl:s.heap.get? l=ZA (seqObj "list" items n))(hb:s.heap.get? b=ZA (seqObj "list" items2 n2))(hi:Qq items.toList ns)(hj:Qq items2.toList ms)
  (hu:A.units<cLine) (h:Q (decide (ns=ms)) s):ZJ (ZK prog w) A (eqBool (.ref l) (.ref b)) Q E s:=by
 have z1:items.size=ns.length:=by rw[<-hi.length];simp
 have z2:items2.size=ms.length:=by rw[<-hj.length];simp
 unfold eqBool;refine P8 ?_;refine Xp (λhab=>?_) (λ_=>?_)
 .cases eq_of_beq hab;rw[hl]at hb;cases hb;rw[decide_eq_true (hi.nums.symm.trans hj.nums)]at h;show ZJ (ZK prog w) _ (pure ZC) Q E s;exact Om h
 .refine N8 ?_;by_cases hsz:items.size=items2.size
  .refine Sw (op:=.Eq) ⟨_,hl,rfl⟩ ⟨_,hb,rfl⟩ U3 UA (Uq _ _) (list_eqAt l b items items2 n n2 ZB ZB #[] #[] hsz λj=>ns.getD j 0 == ms.getD j 0) ⟨hl,hb,λj h1 h2=>?_,?_⟩ hu
   .obtain⟨x,t,hx,hvx⟩:=oF hi (i:=j) (v:=items[j]) (by simp[h1]);obtain⟨y,u,hy,hvy⟩:=oF hj (i:=j) (v:=items2[j]) (by simp[h2]);rw[hvx,hvy,O6,O6,hx,hy];exact Vt x t y u
   .rw[z1,KA (by omega)];exact⟨(λx=>nomatch x),Ph h⟩
  .refine Sw (op:=.Eq) ⟨_,hl,rfl⟩ ⟨_,hb,rfl⟩ U3 UA (Uq _ _) (list_eq_lengthsAt l b items items2 n n2 ZB ZB #[] #[] (by simpa using hsz)) ⟨hl,hb,?_⟩ hu;rw[decide_eq_false (λz=>hsz (by rw[z1,z2,z]))]at h;exact⟨(λx=>nomatch x),Ph h⟩
end HT
namespace Tr
open PySem PySem.Spec PyProof.Rows L2 PySem.W
noncomputable def iX:RJ:={kind:=.function,names:=[("numbers",.local),("len",.globalImplicit)],isGenerator:=ZD,isCoroutine:=ZD,more:=[]}
noncomputable def m6(p:Pos):SR:={posonlyargs:=[],args:=[{arg:="numbers",annotation:=ZB,pos:=p}],vararg:=ZB,kwonlyargs:=[],kw_defaults:=[],kwarg:=ZB,defaults:=[]}
noncomputable def oA(p1 p2 p3 p4 p5 p6:Pos):ZG:=.Tuple [.UnaryOp .USub (.Call (.Name "len" p1) [.Name "numbers" p2] [] p3) p4,.Name "numbers" p5] 0 p6
structure KpF (F:List ZE)(h h':ZH):Prop where
 keep:∀b o,b∉F->h.get? b=ZA o->h'.get? b=ZA o
 slot:∀b o,b∈F->h.get? b=ZA o->∃sl,h'.get? b=ZA {o with slots:=sl}
variable{h:ZH}
def KpF.trans{F:List ZE}{h1 h2:ZH}(a:KpF F h h1)(b:KpF F h1 h2):KpF F h h2:=⟨λc o n e=>b.keep c o n (a.keep c o n e),λc o n e=>by obtain⟨sl,e1⟩:=a.slot c o n e;obtain⟨sl',e2⟩:=b.slot c _ n e1;exact⟨sl',e2⟩⟩
def VF(F:List ZE)(h:ZH)(v:Ob)(ns:List Int):Prop:=∃k t tk b its n ms,v=.ref k/\k∉F/\b∉F/\h.IsTuple k #[.int t tk,.ref b]/\h.get? b=ZA (seqObj "list" its n)/\Qq its.toList ms/\ns=t::ms
def VF.keep{F:List ZE}{h':ZH}(a:VF F h v ns)(k:∀b o,b∉F->h.get? b=ZA o->h'.get? b=ZA o):VF F h' v ns:=by obtain⟨q,t,tk,b,its,n,ms,e,h1,h2,⟨o,g,r⟩,h4,h5,h6⟩:=a;exact⟨q,t,tk,b,its,n,ms,e,h1,h2,⟨o,k _ _ h1 g,r⟩,k _ _ h2 h4,h5,h6⟩
variable{H:Hp}
def Fi{b:ZE}(hok:HOk P w H h)(q:SqL [] H b (ms.map V.int)):(∃u,H b=ZA u)/\∃its n,h.get? b=ZA (seqObj "list" its n)/\Qq its.toList ms:=by
 have back:∀{xs:List Int}{us:List Ob},Vals (xs.map V.int) us->Qq us xs:=by
  intro xs;induction xs with
  |nil=>intro us r;cases r;exact .nil
  |cons x xs ih=>
   intro us r;cases r with
   |cons a r=>
    obtain⟨t,rfl⟩:=a;exact .cons x t (ih r)
 rcases q with(q|⟨o,q⟩)|⟨o,xs,n,z,_⟩
 .obtain⟨_,its,n,rv,e⟩:=hok b _ q;exact⟨⟨_,q⟩,its.toArray,n,e,by simpa using back rv⟩
 .obtain⟨_,_,its,n,rv,e⟩:=hok b _ q;exact⟨⟨_,q⟩,its.toArray,n,e,by simpa using back rv⟩
 .cases z
variable{CX:BL}{G:List ZE}{X:Cx}{a f:ZE}{mg:WF}{p1 p3 p4 p5 p6:Pos}{kw:Uf}{σ:L2.St}
section
variable{q:Str}
def Dw{base:ZH}{outer:List Env}{E:XK}{p2:Pos}(hm:mg "len" =ZB):
  c8 (jl CX P w [] mg base ["numbers"] q iX f cd A outer s H E) (oA p1 p2 p3 p4 p5 p6) (aP (ae (o1 kQ (cl cz (ae (vr 0) aj))) (ae (vr 0) aj))):=
 Hs (oq (Ht (zo cJ hm (by decide+kernel) (oq (Cv 0) xY))) (oq (Cv 0) xY))
def Dt{ob:Obj}{pp p2:Pos}(I:Inv X kw σ H s)(hr:Room (k+3) X.A)(L:MI s.heap X.mg q (m6 pp) (oA p1 p2 p3 p4 p5 p6) iX f)
  (ha:H a≠ZB) (ho:s.heap.get? a=ZA (seqObj "list" its.toArray n)) (hi:Qq its ms) (hz':its.length<=ZI) (hm:X.mg "len" =ZB) (hG:∀c∈G,c≠a/\∃o,s.heap.get? c=ZA o):
  ZJ (ZK X.prog X.w) X.A.in1.in1 (call (.ref f) [.ref a]) (λu s'=>s'.os=s.os/\Rl s'.gens/\KpF (kG X.stack) s.heap s'.heap/\VF G s'.heap u ((-(ms.length:Int))::ms)) E s:=by
 have hl:=hi.length;have e0:=I.Ny;let H2:Hp:=λb=>if b=a then ZA (.frz (seqObj "list" its.toArray n) (.lst (ms.map V.int)))else ZB;have h2a:H2 a=ZA (.frz (seqObj "list" its.toArray n) (.lst (ms.map V.int))):=if_pos rfl;have h2n:∀b,b≠a->H2 b=ZB:=λb hb=>if_neg hb;have naF:∀b∈kG X.stack,b≠a:=λb hb z=>ha (z▸e0.frf b hb);have hok2:HOk X.prog X.w H2 s.heap:=λb u e=>by
  by_cases hb:b=a
  .subst hb;rw[h2a]at e;cases e;exact⟨ho,by rw[Oc];omega,its,n,mG hi,ho⟩
  .rw[h2n b hb]at e;cases e
 have e1:Env0 X.prog X.w [] X.mg X.base X.A X.stack s H2:=⟨e0.frames,⟨(λb o e=>by cases e),e0.mod.glob,e0.mod.blt,e0.mod.nolimit⟩,λb o e=>⟨(e0.bs b o e).1,h2n b λz=>ha (z▸(e0.bs b o e).2)⟩,e0.bsz,e0.funs,λb hb=>h2n b (naF b hb),hok2,e0.bare,λf o fd c oc vs P _ e=>by cases e⟩;refine UY (Sd (Dv (CX:=λ_ _ _ _ _ _=>False) (E:=λ_ _ _=>False) (N:=["numbers"]) (ps:=["numbers"]) (us:=[.ref a]) (vs:=[.ref a]) (Q:=λv H'=>Same H2 H'/\∃kk b,v=.ref kk/\H' kk=ZA (.tup [.int (-(ms.length:Int)),.ref b])/\SqL [] H' b (ms.map V.int)) L fsc hr.in1.in1 e1.in1.in1 (λc ctv=>rfl) rfl (.cons rfl .nil) λc=>⟨_,Dw hm,[.va (.scr ms)],zG,⟨λ_ _=>False,rfl,λi t e=>?_,λi o e=>?_,λ_ _ z=>z.elim,λ_ _ _ z=>z.elim,λ_ z=>z.elim⟩,?_⟩) λr s' hq=>?_)
 .cases i with
  |zero=>cases e;exact⟨.ref a,rfl,by unfold Rep;exact⟨a,rfl,λz=>z,.inl (.inr ⟨_,h2a⟩)⟩⟩
  |succ i=>simp at e
 .cases i with
  |zero=>cases e
  |succ i=>simp at e
 .have ev:aP (ae (o1 kQ (cl cz (ae (vr 0) aj))) (ae (vr 0) aj)) [.va (.scr ms)]=.ok (.tup [.int (-(ms.length:Int)),.scr ms]):=by
   have e1:cl cz (ae (vr 0) aj) [.va (.scr ms)]=.ok (.int ms.length):=by show Rs.ok (T.int ((ms.map T.int).length:Nat))=_;rw[Oc]
   have e2:o1 kQ (cl cz (ae (vr 0) aj)) [.va (.scr ms)]=.ok (.int (-(ms.length:Int))):=by unfold o1;rw[e1];rfl
   unfold aP;rw[ae,e2];show(if ([T.int (-(ms.length:Int)),T.scr ms]:List T).length<=ZI then Rs.ok (T.tup [.int (-(ms.length:Int)),.scr ms])else .bad)=_;rw[if_pos (by rw[PJ];simp)]
  rw[ev];intro H' sm v rv;refine⟨sm,?_⟩;obtain⟨kk,vs,rfl,_,hk,rs⟩:=Rep.Fk.mp rv;obtain⟨v1,w1,rfl,r1,rs⟩:=Reps.me.mp rs;obtain⟨v2,w2,rfl,r2,rs⟩:=Reps.me.mp rs;cases Reps.Da.mp rs;cases Rep.AC.mp r1;unfold Rep at r2;obtain⟨b,rfl,_,sq⟩:=r2;exact⟨kk,b,rfl,hk,sq⟩
 .cases r with
  |error e=>exact QQ hq
  |ok fl=>
   cases fl with
   |next=>exact QQ hq
   |brk=>exact QQ hq
   |cont=>exact QQ hq
   |ret u=>
    obtain⟨v,H',os,bare,un,hok,rv,sm,kk,b,rfl,hk,sq⟩:=hq;obtain rfl:u=OB kk:=rv;have nF:∀c u,H' c=ZA u->c∉G:=λc u e hc=>by obtain⟨na,o,eo⟩:=hG c hc;have:=un.free c o eo (h2n c na) (by simp);rw[e]at this;cases this
    obtain⟨⟨u2,hb2⟩,xs,m,ho2,hi2⟩:=Fi hok sq;obtain⟨_,its2,rv2,tp⟩:=hok kk _ hk;have tp':∃tk,its2=[.int (-(ms.length:Int)) tk,.ref b]:=by
     cases rv2 with
     |cons a1 r=>
      obtain⟨t,rfl⟩:=a1;cases r with
      |cons a2 r=>
       cases r;exact⟨t,by rw[show _=OB b from a2]⟩
    obtain⟨tk,rfl⟩:=tp';refine⟨os,bare,⟨λc o hc e=>?_,λc o hc e=>?_⟩,kk,_,tk,b,xs,m,ms,rfl,nF _ _ hk,nF _ _ hb2,tp,ho2,hi2,rfl⟩
    .by_cases hca:c=a
     .subst hca;rw[ho]at e;cases e;exact(hok c _ (un.frzs c _ _ h2a)).1
     .exact un.keep c o e (h2n c hca) hc (by simp)
    .exact un.slot c o e (h2n c (naF c hc)) hc (by simp)
end
def A0(t u:Int)(a b:List Int):cO (t::a) (u::b)=if t=u then cO a b else decide (t<u):=rfl
theorem Dy{a:Int}{t u:Tok}{Q:Bool->Oe->Prop}(h:Q (decide (a<b)) s):∀k,ZJ (ZK prog w) A (oneLt' k (.int a t) (.int b u)) Q E s
 |true=>oneLt_int h
 |false=>by rw[oneLt'_eq];simp only[Qg,if_false];exact N8 (wpAny_lt_int (show ZJ (ZK prog w) A (truthOfDropped (.bool (decide (a<b)))) Q E s from Ph h))
theorem zN:∀(l m:List Int),HT.lexLt l m=cO l m
 |[],[] =>rfl
 |[],_::_=>rfl
 |_::_,[] =>rfl
 |a::l,b::m=>by rw[HT.lexLt_cons,zN l m];rfl
def Cg(G:List ZE):RK where
 V:=VF G
 inj:=λu u'=>by obtain⟨k,t,tk,b,its,n,ms,e,_,_,⟨o,h1,_,c1,h2⟩,h3,h4,h5⟩:=u;obtain⟨k',t',tk',b',its',n',ms',e',_,_,⟨o',h1',_,c1',h2'⟩,h3',h4',h5'⟩:=u';subst e;cases e';rw[h1]at h1';cases h1';rw[h2]at h2';cases h2';rw[h3]at h3';cases h3';rw[h5,h5',<-h4.nums,<-h4'.nums]
 on:=λa up=>a.keep λb o _ e=>up b o e
 fst:=λq=>by obtain⟨k,t,tk,b,its,n,ms,e,_,_,⟨o,h1,c1,c2,h2⟩,_⟩:=q;exact⟨k,_,c2,o,t,tk,e,h1,c1,h2,rfl⟩
 lt:=λ{prog w A s E x y a b Q} hu vx vy q=>by
  obtain⟨xk,t,k,xb,xi,xn,xm,ex,_,_,⟨xo,xh,xc,xq,xd⟩,xl,xi',xr⟩:=vx;obtain⟨yk,u,k',yb,yi,yn,ym,ey,_,_,⟨yo,yh,yc,yq,yd⟩,yl,yi',yr⟩:=vy;subst ex ey xr yr;refine kat_lt xh xd yh yd ?_;refine kat_cons (WS ?_);rw[A0]at q;by_cases z:t=u
  .rw[beq_iff_eq.mpr z];rw[if_pos z]at q;refine kat_yes (kat_cons (HT.eq_lstInts xl yl xi' yi' (by omega) ?_));by_cases z2:xm=ym
   .rw[decide_eq_true z2];subst z2;rw[iW]at q;exact kat_yes (kat_nil q)
   .rw[decide_eq_false z2];refine kat_no (kat_one _ _ (HT.lt_lstInts xl yl xi' yi' (by omega) ?_));rw[zN];exact q
  .rw[beq_eq_false_iff_ne.mpr z];rw[if_neg z]at q;exact kat_no (Dy q _)
theorem nH{R:α->β->Prop}{a:α}{b:β}(h:R a b):∀{l:List α}{m:List β},Ul R l m->Ul R (l++[a]) (m++[b])
 |_,_,.nil=>.cons h .nil
 |_,_,.cons r t=>.cons r (nH h t)
theorem lj{R:α->β->Prop}:∀{l:List α}{m:List β},Ul R l m->l.length=m.length
 |_,_,.nil=>rfl
 |_,_,.cons _ t=>by rw[Ol,Ol,lj t]
theorem pF:∀{l:List Ob}{m:List (List Int)},Ul (VF G h) l m->l.map ((Cg G).row h)=m:=by
 intro l m h;induction h with
 |nil=>rfl
 |cons r t i=>rw[Od,RK.NN (R:=Cg G) r,i]
theorem pG{R:α->β->Prop}:∀{l:List α}{m:List β},Ul R l m->∀a∈l,∃b,R a b:=by
 intro l m h;induction h with
 |nil=>intro a h;cases h
 |cons r t i=>
  intro a h;rcases Oh.mp h with rfl|h
  .exact⟨_,r⟩
  .exact i a h
variable{kA:Array Ob}{kS:ZE}
section
variable {F:List ZE}{L:ZE}{rows:List (List Int)}{P:Fin->Oe->Prop}
def uC{h0 h':ZH}(k:KpF F h0 h)(ha:h0.objs.size<=a)(u:∀b o,b≠a->h.get? b=ZA o->h'.get? b=ZA o):KpF F h0 h':=
 ⟨λb o n e=>u b o (O8 (Ot (Ov e) ha)) (k.keep b o n e),λb o n e=>let ⟨sl,e1⟩:=k.slot b o n e;⟨sl,u b _ (O8 (Ot (Ov e) ha)) e1⟩⟩
def Srt(rows:List (List Int))(vs out:List Ob):Prop:=∃ps:List (List Int×Ob),ps.Perm (rows.zip vs)/\out=ps.map WY/\(ps.map WZ).Pairwise (λa b=>nN a b=ZC)
def Gs{e e1:Nat}(hs:s0.heap.objs.size<=L)(hk:s0.heap.objs.size<=kS)(hne:kS≠L)(os:s.os=s0.os)(bare:Rl s.gens)(kp:KpF F s0.heap s.heap)
  (hL:s.heap.get? L=ZA (seqObj "list" #[] e1)) (hK:s.heap.get? kS=ZA (seqObj "list" kA e)) (hkz:kA.size<=64) (hf:S7 st=ZB) (hz:(arrOf st).size<=64)
  (q:∀s3 c,s3.os=s0.os->Rl s3.gens->KpF F s0.heap s3.heap->s3.heap.get? L=ZA (seqObj "list" ((arrOf st).map (·.2)) c)->P (.done (.ret .none)) s3):
  ZJ (ZK prog w) A (ksk_tail L ZD e1 (.ref kS) st) P E s:=by
 have u1:∀b o,b≠kS->s.heap.get? b=ZA o->(s.heap.update kS (PF λ_=>(#[]:Array Ob))).get? b=ZA o:=λb o n e=>by rw[Rt _ _ _ _ n];exact e
 have hL1:=u1 L _ hne.symm hL;generalize hg:(arrOf st).map (·.2)=g at q;have hgz:g.size<=ZI:=by rw[<-hg,Array.size_map,PJ];omega
 obtain⟨c2,hc2⟩:∃c2,((s.heap.update kS (PF λ_=>(#[]:Array Ob))).update L (PF λ_=>g)).get? L=ZA (seqObj "list" g c2):=⟨_,UT hL1 λ_=>g⟩;have kp3:KpF F s0.heap ((s.heap.update kS (PF λ_=>(#[]:Array Ob))).update L (PF λ_=>g)):=uC (uC kp hk u1) hs λb o n e=>by rw[Rt _ _ _ _ n];exact e
 unfold ksk_tail;simp only[Qg,if_false];rw[hg];refine N8 (Uh hK rfl ?_ (by rw[PJ];omega) (Pk _));refine N8 (Ui ?_);refine N8 (seqEpoch_at hL1 rfl ?_);refine N8 (Uh hL1 rfl ?_ (Pk _) (OJ hgz (Xe _)));rw[hf];simp only[bne_self_eq_false,Qg,if_false];exact Om (q {s with heap:=_} c2 os bare kp3 hc2)
def JT{e e1:Nat}(hu:A.units+60<cLine)(hs:s0.heap.objs.size<=L)(hk:s0.heap.objs.size<=kS)(hne:kS≠L)(os:s.os=s0.os)(bare:Rl s.gens)(kp:KpF F s0.heap s.heap)
  (hL:s.heap.get? L=ZA (seqObj "list" #[] e1)) (hK:s.heap.get? kS=ZA (seqObj "list" kA e)) (pr:Ul (VF G s.heap) kA.toList rows) (hlen:rows.length=vs.length) (h64:vs.length<64)
  (q:∀s3 out c,s3.os=s0.os->Rl s3.gens->KpF F s0.heap s3.heap->s3.heap.get? L=ZA (seqObj "list" out c)->Srt rows vs out.toList->P (.done (.ret .none)) s3):
  ZJ (ZK prog w) A (ksk_end L ZD vs.toArray e1 (.ref kS) kA) P E s:=by
 have hkl:kA.toList.length=vs.length:=by rw[lj pr,hlen]
 have hsz:kA.size=vs.length:=by rw[<-PP];exact hkl
 have fin:∀st:SQ,S7 st=ZB->(arrOf st).toList.Perm (kA.toList.zip vs)->((arrOf st).toList.map λp=>(Cg G).row s.heap p.1).Pairwise (λa b=>nN a b=ZC)->ZJ (ZK prog w) A (ksk_tail L ZD e1 (.ref kS) st) P E s:=λst hf hp hs'=>by
  have hz:(arrOf st).size<=64:=by have:=hp.length_eq;rw[PP,Xf]at this;omega
  refine Gs hs hk hne os bare kp hL hK (by omega) hf hz λs3 c o1 o2 o3 o4=>q s3 _ c o1 o2 o3 o4 ⟨(arrOf st).toList.map λp=>((Cg G).row s.heap p.1,p.2),?_,?_,?_⟩
  .have:=hp.map λp:Ob×Ob=>((Cg G).row s.heap p.1,p.2);rw[show(kA.toList.zip vs).map (λp:Ob×Ob=>((Cg G).row s.heap p.1,p.2))=(kA.toList.map ((Cg G).row s.heap)).zip vs by rw[List.zip_map_left];exact OP λ_ _=>rfl,pF pr]at this;exact this
  .rw[Array.toList_map,ON];rfl
  .rw[ON];exact hs'
 unfold ksk_end;simp only[Qg,if_false];by_cases h2:vs.toArray.size<2
 .rw[if_pos h2,if_pos h2];refine N8 (Om ?_);rw[StateT.run_pure];refine N8 (Om ?_);try dsimp only
  refine fin (SortSt.mk' general' (kA.zip vs.toArray) #[] 7 ZB) rfl (by show(kA.zip vs.toArray).toList.Perm _;simp) ?_;show(((kA.zip vs.toArray).toList.map _).Pairwise _);have:(kA.zip vs.toArray).toList.length<=1:=by rw[Oy]at h2;simp;omega
  generalize (kA.zip vs.toArray).toList=l at this;cases l with
  |nil=>exact V4
  |cons x l=>
   cases l with
   |nil=>exact List.pairwise_singleton _ _
   |cons y l=>simp at this
 .rw[if_neg h2,if_neg h2];rw[Oy]at h2;have hv:∀v∈kA.toList,∃ns,(Cg G).V s.heap v ns:=λv hm=>pG pr v hm;have kz:kA=kA.toList.toArray:=by simp
  rw[kz];refine N8 (kk3 (R:=Cg G) hv (λz=>by rw[z]at hkl;simp at hkl;omega) ?_);refine N8 (Qp (run3 (R:=Cg G) (ks:=kA.toList) (vs:=vs) (Q:=λst' s'=>s'=s/\S7 st'=ZB/\(arrOf st').toList.Perm (kA.toList.zip vs)/\((arrOf st').toList.map λp=>(Cg G).row s.heap p.1).Pairwise (λa b=>nN a b=ZC)) hu hkl hv (by omega) h64 λst' hf hp hs=>⟨rfl,hf,hp,hs⟩) (λr s' he=>?_) λ_ _ e=>e);obtain⟨es,hf,hp,hs⟩:=he;subst es;exact fin _ hf hp hs
def JU{f:Ob}{M:Oe->Prop}(hu:A.units+60<cLine)(hF:∀b∈F,b<s0.heap.objs.size)(hs:s0.heap.objs.size<=L)(os:s.os=s0.os)(bare:Rl s.gens)(kp:KpF F s0.heap s.heap)
  (ho:s.heap.get? L=ZA (seqObj "list" vs.toArray n)) (hlen:rows.length=vs.length) (h64:vs.length<64)
  (turn:∀(i:Nat)(v:Ob)(ns:List Int)(kS:ZE),s0.heap.objs.size<=kS->vs[i]?=ZA v->rows[i]?=ZA ns->∀s':Oe,s'.os=s0.os->Rl s'.gens->KpF F s0.heap s'.heap->(∃o,s'.heap.get? kS=ZA o) ->
   ZJ (ZK prog w) A (call f [v]) (λu s''=>s''.os=s'.os/\Rl s''.gens/\KpF F s'.heap s''.heap/\VF (kS::F) s''.heap u ns) (λ_ _=>False) s')
  (q:∀s3 out c,s3.os=s0.os->Rl s3.gens->KpF F s0.heap s3.heap->s3.heap.get? L=ZA (seqObj "list" out c)->Srt rows vs out.toList->P (.done (.ret .none)) s3):
  ZJ (ZK prog w) A (ksk_tree L f ZD) P E s:=by
 obtain⟨e1,ho1⟩:∃e1,(s.heap.update L (PF λ_=>(#[]:Array Ob))).get? L=ZA (seqObj "list" #[] e1):=⟨_,UT ho λ_=>#[]⟩;have ha:=Ov ho;have kp1:KpF F s0.heap (s.heap.update L (PF λ_=>(#[]:Array Ob))):=uC kp hs λb o n e=>by rw[Rt _ _ _ _ n];exact e
 unfold ksk_tree;refine N8 (WD ho rfl ?_);refine N8 (Uh ho rfl ?_ (by rw[Oy,PJ];omega) (Pk _));refine N8 (seqEpoch_at ho1 rfl ?_);refine N8 (wpAny_newTuple ?_ (by show vs.length<=_;rw[PJ];omega));refine N8 (wpAny_newList ?_ (Pk _));refine P8 ?_;have hsz:((s.heap.update L (PF λ_=>(#[]:Array Ob))).push (seqObj "tuple" vs.toArray 0)).objs.size=s.heap.objs.size+1:=by rw[size_push',WO]
 have up:∀b o,(s.heap.update L (PF λ_=>(#[]:Array Ob))).get? b=ZA o->(((s.heap.update L (PF λ_=>(#[]:Array Ob))).push (seqObj "tuple" vs.toArray 0)).push (seqObj "list" #[] 0)).get? b=ZA o:=λb o e=>Oi _ (Oi _ e);have kp2:KpF F s0.heap (((s.heap.update L (PF λ_=>(#[]:Array Ob))).push (seqObj "tuple" vs.toArray 0)).push (seqObj "list" #[] 0)):=⟨λb o n e=>up b o (kp1.keep b o n e),λb o n e=>let ⟨sl,e'⟩:=kp1.slot b o n e;⟨sl,up b _ e'⟩⟩;have hL2:=up L _ ho1;have hK2:(((s.heap.update L (PF λ_=>(#[]:Array Ob))).push (seqObj "tuple" vs.toArray 0)).push (seqObj "list" #[] 0)).get? (s.heap.objs.size+1)=ZA (seqObj "list" #[] 0):=by rw[<-hsz];exact OA _ rfl
 show ZJ _ _ (ksk_rest L f ZD vs.toArray e1 (.ref ((s.heap.update L (PF λ_=>(#[]:Array Ob))).push (seqObj "tuple" vs.toArray 0)).objs.size)) _ _ {s with heap:=((s.heap.update L (PF λ_=>(#[]:Array Ob))).push (seqObj "tuple" vs.toArray 0)).push (seqObj "list" #[] 0)};rw[hsz];generalize hkS:s.heap.objs.size+1=kS at hK2 ⊢;have hne:kS≠L:=by rw[<-hkS];exact QH (RN ha)
 have hk:s0.heap.objs.size<=kS:=by rw[<-hkS];exact OJ hs (Nat.le_succ_of_le (Qc ha))
 have nF:∀a,s0.heap.objs.size<=a->a∉F:=λa h z=>absurd (hF a z) (Nat.not_lt.mpr h);generalize ((s.heap.update L (PF λ_=>(#[]:Array Ob))).push (seqObj "tuple" vs.toArray 0)).push (seqObj "list" #[] 0)=h6 at kp2 hL2 hK2 ⊢;unfold ksk_rest;refine N8 (SD ?_);first
  |rw[List.forIn_toArray]
  | (rw[<-VH];simp only[List.toList_toArray])
  |rw[<-VH]
 refine N8 (ksk_fold (λi s'=>s'.os=s0.os/\Rl s'.gens/\KpF F s0.heap s'.heap/\s'.heap.get? L=ZA (seqObj "list" #[] e1)/\∃kA e,s'.heap.get? kS=ZA (seqObj "list" kA e)/\Ul (VF (kS::F) s'.heap) kA.toList (rows.take i)) vs 0 {s with heap:=h6}
  ⟨os,bare,kp2,hL2,#[],0,hK2,by simpa using Paired.nil⟩ ?step ?done)
 case step=>
  rintro j x s' hx ⟨o1,o2,o3,o4,kA,e,o5,o6⟩;simp only[Sa]at o6 ⊢;have hj:j<vs.length:=(Oj.mp hx).1;obtain⟨ns,hns⟩:∃k,rows[j]?=ZA k:=⟨_,Og (by omega)⟩;have hz:kA.size<=vs.length:=by have h1:=lj o6;rw[PP,Pr]at h1;omega
  refine N8 (VY (Qp (turn j x ns kS hk hx hns s' o1 o2 o3 ⟨_,o5⟩) (λu s'' he=>?_) λ_ _ hF=>hF.elim));obtain⟨r1,r2,r3,r4⟩:=he;try dsimp only
  have k5:=r3.keep _ _ (nF kS hk) o5;have u1:∀b o,b≠kS->s''.heap.get? b=ZA o->(s''.heap.update kS (PF (·.push u))).get? b=ZA o:=λb o n e=>by rw[Rt _ _ _ _ n];exact e
  have ek:rows.take (j+1)=rows.take j++[ns]:=by rw[List.take_add_one,hns];simp
  have ea:(kA.push u).toList=kA.toList++[u]:=by simp
  have vk:∀v ms,VF (kS::F) s''.heap v ms->VF (kS::F) (s''.heap.update kS (PF (·.push u))) v ms:=λv ms z=>z.keep λb o n e=>u1 b o (λy=>n (by simp[y])) e;refine N8 (Uh k5 rfl ?_ (by rw[PJ];omega) (OJ (R9 (Array.size_push ..)) (by rw[PJ];omega)));refine Om ⟨rfl,r1.trans o1,r2,uC (o3.trans r3) hk u1,u1 L _ hne.symm (r3.keep _ _ (nF L hs) o4),kA.push u,_,UT k5 (·.push u),?_⟩;rw[ea,ek];exact nH (vk _ _ r4) (Paired.NC o6 λv ms z=>vk v ms (z.keep λb o n e=>r3.keep b o (λy=>n (N9 _ y)) e))
 case done=>
  rintro s' ⟨o1,o2,o3,o4,kA,e,o5,o6⟩;have e3:rows.take (0+vs.length)=rows:=Sv (by omega);rw[e3]at o6;try dsimp only
  refine N8 (WD o5 rfl ?_);exact JT hu hs hk hne o1 o2 o3 o4 o5 o6 hlen h64 q
end
noncomputable def jO:List T->Option (List (List Int))
 |[] =>ZA []
 |.lst l::r=>match gm l,jO r with
  |some ns,ZA k=>ZA (ns::k)
  |_,_=>ZB
 |_=>ZB
def BI(ns:List Int):List Int:=(-(ns.length:Int))::ns
noncomputable def vB:List T->Rs T
 |[.lst l] =>match jO l with
  |some k=>if k.length<64 then .ok (.lst (((k.map BI).mergeSort nN).map λr=>.lst (r.tail.map .int)))else .bad
  |none=>.bad
 |_=>.bad
variable{K:Frag}{O:Ow}{P c:ZE}{e:ZG}
section
variable {H':Hp}
def DP(I:Inv X kw σ H s)(os:s'.os=s.os)(bare:Rl s'.gens)(kp:KpF (kG X.stack) s.heap s'.heap)(free:∀b o,s.heap.get? b=ZA o->H b=ZB->H' b=ZB)(same:Same H H')(hok:HOk X.prog X.w H' s'.heap):Inv X kw σ H' s':=by
 obtain⟨hh,g,d,t,os'⟩:=s';obtain rfl:os'=s.os:=os;refine I.call (ch:=[]) ⟨λb o e n hb _=>kp.keep b o hb e,λb o e n hb _=>kp.slot b o hb e,λb o e n _=>free b o e n,λb o e _=>?_,λb xs e=>same _ _ e,λb o u e=>same _ _ e,λb q e=>same _ _ e⟩ hok bare λb z=>absurd z (by simp);by_cases hb:b∈kG X.stack
 .obtain⟨sl,e'⟩:=kp.slot b o hb e;exact⟨_,e'⟩
 .exact⟨o,kp.keep b o hb e⟩
def DU(I:Inv X kw σ H s)(kp:KpF (kG X.stack) s.heap s'.heap):HOk X.prog X.w H s'.heap:=λb u e=>
 (I.hok b u e).M6 (λc v hc q=>kp.keep c v (λz=>by
  have:=I.IR c z;rcases hc with rfl|hc
  .rw[e]at this;cases this
  .rw[hc]at this;cases this) q) (λ_ q=>q) λ_ _ q=>q
theorem uA:∀{l:List T}{k:List (List Int)}{ws:List V}{its:List Ob},jO l=ZA k->Reps K O H l ws->Vals ws its->k.length=its.length/\∀(j:Nat)(r:List Int)(v:Ob),(k.map BI)[j]?=ZA r->its[j]?=ZA v->∃ns b,r=BI ns/\v=.ref b/\Rep K O H (.lst (ns.map .int)) (.ref b)
 |[],k,ws,its,h,rs,rv=>by cases h;cases Reps.Da.mp rs;cases rv;exact⟨rfl,λj r v e=>by simp at e⟩
 |t::l,k,ws,its,h,rs,rv=>by
  obtain⟨v0,ws',rfl,r0,rs'⟩:=Reps.me.mp rs;cases rv with
  |cons a rv=>
   cases t with
   |lst m=>
    unfold jO at h;split at h
    .rename_i ns k' h1 h2;cases h;obtain⟨g1,g2⟩:=uA h2 rs' rv;refine⟨by rw[Ol,Ol,g1],λj r v e1 e2=>?_⟩;cases j with
     |zero=>
      cases e1;cases e2;obtain⟨b,vs,rfl,_⟩:=Rep.Do.mp r0;refine⟨ns,b,rfl,a,?_⟩;rw[<-rS h1];exact r0
     |succ j=>exact g2 j r v (by simpa using e1) (by simpa using e2)
    .cases h
   |_=>unfold jO at h;cases h
theorem m9:∀{xs:List Int}{us:List Ob},Vals (xs.map V.int) us->Qq us xs
 |[],us,r=>by cases r;exact .nil
 |x::xs,us,r=>by
  cases r with
  |cons a r=>
   obtain⟨t,rfl⟩:=a;exact .cons x t (m9 r)
theorem vA:∀{ps:List (List Int×Ob)},(∀p∈ps,∃ns b,p.1=BI ns/\p.2=.ref b/\Rep K O H (.lst (ns.map .int)) (.ref b))->Vals (ps.map λp=>bkV p.2) (ps.map WY)/\Reps K O H (ps.map λp=>.lst (p.1.tail.map .int)) (ps.map λp=>bkV p.2)
 |[],_=>⟨.nil,Reps.GM⟩
 |p::ps,h=>by obtain⟨ns,b,e1,e2,r⟩:=h p Of;obtain⟨g1,g2⟩:=vA λq hq=>h q (N9 _ hq);rw[Od,Od,Od,e1,e2];exact⟨.cons rfl g1,Reps.Gc r g2⟩
def Jb{fs:Y0}{p pos kp p8 pp p2:Pos}(hr:Room (k+3) X.A)(hm:X.mg "sorted" =ZB)(hml:X.mg "len" =ZB)(hcode:X.env.code=.ref c)(C:CodeHd X.base c P)(hTb:∀H,Tb X.K X.mg H->H P=ZA (.tbl (X.env.qual++ "<lambda>")))(B:M0 X.K X.mg)(ha:qT X [e] fs)
  (hst:bj [e]=ZC:=by rfl) (hg:Gl X "sorted":=by rfl) (hcl:U1 iX X.env=pure []:=by rfl):
  c8 X (.Call (.Name "sorted" p) [e] [⟨ZA "key",.Lambda (m6 pp) (oA p1 p2 p3 p4 p5 p6) iX p8,kp⟩] pos) (cl vB fs):=by
 intro kw s σ H Q I ⟨Z,O,Ev,hq⟩;unfold bj at hst;rw[Oa]at hst;have e2:Oz [e] X.env=(ZD,eval e X.env)::Oz [] X.env:=bo hst.1;refine Pd (fg I hg hm (show Pc "sorted" =ZA (.builtin "sorted")by decide+kernel) ?_ (by decide) (by decide));refine callWith_kw (cL (ha pos kw s σ H _ I (eF Ev hq)) λus s1 ⟨vs,H1,I1,r1,ts,rs,sm1,E',q1⟩=>?_) (by rw[e2];rfl) (by rw[e2];rfl);refine kws_cons (Du I1 hcode C (hTb H1 I1.tb) B rfl hcl λf H2 h2 tk2 hf sm2 I2 hfn L2_=>kws_nil ?_);obtain⟨cc,ctv,lo,lc,lown⟩:=L2_;have q2:=Post.later q1 sm2;have rs2:=rs.same sm2;have E2:=E'.same sm2;unfold vB at q2;split at q2
 .rename_i l;split at q2
  .rename_i kk hk;by_cases h64:kk.length<64
   .rw[if_pos h64]at q2;obtain⟨v1,rfl,ra⟩:=rs2.one;obtain⟨c1,ws,rfl,n1,hx,rx⟩:=Rep.Do.mp ra;obtain⟨u1,rfl,z1⟩:=Vals.one r1;obtain rfl:u1=OB c1:=z1;obtain⟨z,its,n,rv,hlen,eo⟩:=I2.KM hx;obtain⟨g1,g2⟩:=uA hk rx rv;have hF:∀b∈kG X.stack,b<h2.objs.size:=λb hb=>by obtain⟨o,eo,_⟩:=(I2.stack.mem hb).2;exact Ov eo
    have hF1:∀b∈kG X.stack,b<s1.heap.objs.size:=λb hb=>by obtain⟨o,eo,_⟩:=(I1.stack.mem hb).2;exact Ov eo
    have fF:f∉kG X.stack:=λhb=>absurd (hF1 f hb) (Nat.not_lt.mpr hf);have cF:cc∉kG X.stack:=λhb=>by have:=I2.IR cc hb;rw[lown]at this;cases this
    have i64:its.length<64:=by omega
    show ZJ (ZK X.prog X.w) X.A (call (.builtin "sorted") [.ref c1] [(Oq "key",.ref f)]) _ _ {s1 with heap:=h2,toks:=tk2};refine call_function_entry_kw kind_sorted plain_sorted entry_sorted (ksk_s1 _ _) ?_;unfold Builtin.«sorted»;refine N8 (m:=checkCount "sorted" 1 1 _) (Om ?_);refine N8 (collect_list (s:={s1 with heap:=h2,toks:=tk2}) ⟨_,eo,rfl,n,rfl⟩ ?_ (by rw[PJ];omega));refine N8 (wpAny_newList ?_ (by rw[PJ];omega));have hsz:((h2.push (seqObj "list" #[] 0)).update h2.objs.size (PF (· ++its.toArray))).objs.size=h2.objs.size+1:=by rw[WO,size_push']
    have hoL:(((h2.push (seqObj "list" #[] 0)).update h2.objs.size (PF (· ++its.toArray))).push (seqObj "list" its.toArray 0)).get? (h2.objs.size+1)=ZA (seqObj "list" its.toArray 0):=by rw[<-hsz];exact OA _ rfl
    have keep:∀b o,h2.get? b=ZA o->(((h2.push (seqObj "list" #[] 0)).update h2.objs.size (PF (· ++its.toArray))).push (seqObj "list" its.toArray 0)).get? b=ZA o:=λb o q=>by have hlt:b<h2.objs.size:=Ov q;rw[We _ _ _ (by rw[hsz];exact O8 (RN hlt)),Rt _ _ _ _ (O8 hlt),We _ _ _ (O8 hlt)];exact q
    show ZJ _ _ _ _ _ {s1 with heap:=((h2.push (seqObj "list" #[] 0)).update h2.objs.size (PF (· ++its.toArray))).push (seqObj "list" its.toArray 0),toks:=tk2};rw[hsz];refine N8 (P8 (wpAny_call_entry_kw slot_list_sort ⟨_,hoL,rfl⟩ entry_list_sort ?body (ksk_l1 _ _)));show ZJ (ZK X.prog X.w) X.A.in1.in1 (Builtin.«list.sort» ⟨[.ref (h2.objs.size+1)],[(Oq "key",.ref f)]⟩) _ _ _;rw[ksk_t1];refine JU (F:=kG X.stack) (s0:={s1 with heap:=h2,toks:=tk2}) (rows:=kk.map BI) (by have:=hr.un;show X.A.units+1+1+60<cLine;omega) hF (Xe _) rfl I2.bare ⟨λb o _ e=>keep b o e,λb o _ e=>⟨o.slots,keep b o e⟩⟩ hoL (by rw[Oc];exact g1) i64 (M:=λ_=>True) (λi v row kS hkS hv hrow s' o1 o2 o3 ⟨ok,hok⟩=>?_) λs3 out cx o1 o2 o3 o4 ⟨ps,t1,t2,t3⟩=>⟨_,rfl,?_⟩
    .obtain⟨ns,b,rfl,rfl,rb⟩:=g2 i row v hrow hv;obtain⟨b',wb,eb,nb,hb,rwb⟩:=Rep.Do.mp rb;cases eb;cases Reps.Nr rwb;have I3:Inv X kw σ H2 s':=DP I2 o1 o2 o3 (λ_ _ _ n=>n) (λ_ _ e=>e) (DU I2 o3);obtain⟨zb,itb,nb',rvb,hlb,eob⟩:=I3.KM hb;have bl:b<h2.objs.size:=I2.hok.lt hb;have:=Dt (k:=k) (G:=kS::kG X.stack) (E:=λ_ _=>False) (ob:=default) I3 hr (f:=f) (q:=X.env.qual++ "<lambda>") (pp:=pp) (p1:=p1) (p2:=p2) (p3:=p3) (p4:=p4) (p5:=p5) (p6:=p6) ⟨cc,ctv,o3.keep _ _ fF lo,let ⟨c2,oc,vs,t,a1,a2,a3⟩:=lc;⟨c2,oc,vs,t,a1,o3.keep _ _ (by cases a1;exact cF) a2,a3⟩⟩ (a:=b) (its:=itb) (n:=nb') (ms:=ns) (by rw[hb];simp) eob (m9 rvb) (by rw[<-hlb];exact zb) hml λc hc=>?_
     .exact this
     .rcases Oh.mp hc with rfl|hc
      .exact⟨QH (Ot bl hkS),ok,hok⟩
      .refine⟨λz=>?_,?_⟩
       .have:=I2.IR c hc;rw[z,hb]at this;cases this
       .obtain⟨o,eo,_⟩:=(I3.stack.mem hc).2;exact⟨o,eo⟩
    .refine Om ⟨_,rfl,?_⟩;have pm:∀p∈ps,∃ns b,p.1=BI ns/\p.2=.ref b/\Rep X.K O H2 (.lst (ns.map .int)) (.ref b):=λp hp=>by have hp':=t1.mem_iff.mp hp;obtain⟨j,hj⟩:=S2 hp';rw[List.getElem?_zip_eq_some]at hj;exact g2 j p.1 p.2 hj.1 hj.2
     obtain⟨v1,v2⟩:=vA pm;have hL:H2 (h2.objs.size+1)=ZB:=I2.hok.fresh (Xe _);have eS:=iP (k:=kk.map BI) (m:=ps.map WZ) (by have:=t1.map WZ;rwa [List.map_fst_zip (by rw[Oc];omega)]at this) t3
     have hps:ps.length=its.length:=by have:=t1.length_eq;rw[Xf,Oc]at this;omega
     refine⟨.ref (h2.objs.size+1),upd H2 (h2.objs.size+1) (.lst (ps.map λp=>bkV p.2)),DP I2 o1 o2 o3 (λb o e n=>by rw[aG (O8 (RN (Ov e)))];exact n) (aQ hL _) (λb u e=>?_),rfl,q2 _ (aQ hL _) _ ?_⟩
     .by_cases hb:b=h2.objs.size+1
      .subst hb;rw[aI]at e;cases e;refine⟨by rw[Oc,hps,PJ];omega,out.toList,cx,by rw[t2];exact v1,?_⟩;rw[o4]
      .rw[aG hb]at e;exact(DU I2 o3 b u e).M6 (λ_ _ _ q=>q) (λd q=>aQ hL _ _ _ q) λd xs q=>aQ hL _ _ _ q
     .rw[<-eS,ON];exact gQ hL (E2.fresh hL) v2
   .rw[if_neg h64]at q2;exact q2.elim
  .exact q2.elim
 .exact q2.elim
end
theorem kD(P a:ZE):∀l:Frag,(l.filter λp=>!(p.1 == P)).lookup a=if a=P then ZB else l.lookup a
 |[] =>by rw[List.filter_nil];split <;> rfl
 | (b,o)::l=>by
  by_cases hb:b=P
  .subst hb;rw[List.filter_cons_of_neg (by simp),kD b a l];split
   .rfl
   .rename_i h;rw[Pt,beq_false_of_ne h]
  .rw[Sj (by simp[hb]),Pt,Pt,kD P a l];cases q:a == b with
   |true=>
    have:=eq_of_beq q;subst this;simp[hb]
   |false=>rfl
structure LmK (K:Frag)(f c P:ZE):Prop where
 nm:nsIn K OM "most_kept" =ZA (ZA (.ref f))
 fn:∃o d,K.lookup f=ZA o/\o.data=.func d/\d.code=.ref c
 cd:∃oc vs,K.lookup c=ZA oc/\oc.data=.fields vs/\vs[11]?=ZA (.ref P)
 hd:∀h:ZH,K.In h->CodeHd h c P
def E8(e:E9 K=ZA (c,P)):∃f,LmK K f c P:=by
 unfold E9 at e;split at e
 .rename_i f hf;split at e
  .rename_i oc od d osl hl;split at e
   .rename_i c' hc;split at e
    .rename_i n dd vs sl hk;split at e <;> try cases e
     rename_i P' h11;split at e <;> try cases e
     rename_i file tf h18;split at e <;> try cases e
     rename_i flags tg h7;split at e <;> try cases e
     rename_i inF h9;split at e
     .rename_i text tt h10;split at e
      .rename_i hn;cases e;simp only[Oa,beq_iff_eq,bne_iff_ne]at hn;obtain⟨rfl,hne⟩:=hn;refine⟨f,hf,⟨_,d,hl,rfl,hc⟩,⟨_,vs,hk,rfl,h11⟩,λh KX=>⟨_,vs,file,tf,flags,tg,inF,text,tt,KX _ _ hk,rfl,rfl,h11,?_,?_,?_,?_,?_,hne⟩⟩
       .simp[Qk,h11]
       .simp[Qk,h18]
       .simp[Qk,h7]
       .simp[Qk,h9]
       .simp[Qk,h10]
      .cases e
     .cases e
    .cases e
   .cases e
  .cases e
 .cases e
def Kx(X:K.In h)(G:h.Ns OM mg)(e:Ky K=ZC):M0 K mg:=by
 unfold Ky at e;split at e
 .rename_i bm hb;split at e
  .rename_i n d sl hl;simp only[Oa,beq_iff_eq,bne_iff_ne]at e;obtain⟨⟨h1,h2⟩,rfl,rfl⟩:=e;exact⟨bm,_,mg_of X G hb,h1,h2,hl,rfl,rfl,rfl⟩
  .simp at e
 .cases e
def LmK.tb(L:LmK K f c P)(X:K.In h)(G:h.Ns OM mg)(hH:H P=ZA (.tbl n5)):Tb K mg H:=λf' o fd c' oc vs P' a1 a2 a3 a4 a5 a6 a7=>by rw[mg_of X G L.nm]at a1;cases a1;obtain⟨o2,d2,b1,b2,b3⟩:=L.fn;rw[b1]at a2;cases a2;rw[b2]at a3;cases a3;rw[b3]at a4;cases a4;obtain⟨oc2,vs2,c1,c2,c3⟩:=L.cd;rw[c1]at a5;cases a5;rw[c2]at a6;cases a6;rw[c3]at a7;cases a7;exact hH
def D5(h:ZH)(P:ZE):(qy h P).In h:=λa o e=>by
 unfold qy at e;rw[kD]at e;split at e
 .cases e
 .exact D6 h a o e
def D2(h:ZH)(P:ZE):(qy h P).lookup P=ZB:=by unfold qy;rw[kD,if_pos rfl]
def HW(S:rF)(top:Nat->ZF)(h:ZH):Prop:=∃(K:Frag)(f c P:ZE),K.In h/\pV S K=nV S top/\K.lookup P=ZB/\LmK K f c P/\Ky K=ZC/\h.get? P=ZA (tabObj #[])
variable{S:rF}
def Dj{top:Nat->ZF}(e:zJ S h=(nV S top,ZC)):HW S top h:=by
 unfold zJ at e;split at e
 .rename_i c0 P h0;obtain⟨e1,e2⟩:=T4 e;split at e2
  .rename_i c P' h1;simp only[Oa,beq_iff_eq]at e2;obtain⟨⟨rfl,e3⟩,e4⟩:=e2;split at e4
   .rename_i ps sl hP;simp only[Oa,beq_iff_eq]at e4;obtain⟨f,L⟩:=E8 h1;refine⟨_,f,c,P',D5 h P',e1,D2 h P',L,e3,?_⟩;rw[hP,SN e4.1,SN e4.2]
   .cases e4
  .cases e2
 .cases (T4 e).2
noncomputable def hookX(S:rF)(top:Nat->ZF):Hook:=
 ⟨_,λs=>zJ S s.heap,λ_=>(nV S top,ZC),λ_ h=>HW S top h,λ_ s e=>Dj e,λ_ _ _ q k=>by obtain⟨K,f,c,P,a,b,d,l,m,t⟩:=q;exact⟨K,f,c,P,a.keeps k,b,d,l,m,k _ _ t⟩⟩
def walk_x{l:OpenLaw}{loose:List Str}{XP:(WF)->ZH->Prop}{d:DefRec}{top:Nat->ZF}{sp:Frag->Sp}{x:Str}
  (hn:l.most=ZA n) (hn2:n<=ZI) (hdf:d.params.defaults=[]) (hr:Room k callerA)
  (F:∀(w:Py)(K:Frag)(mg:WF)(fa:ZE)(h:ZH),K.In h->pV S K=nV S top->(∃f c P,LmK K f c P)->Ky K=ZC->h.Ns OM mg->mg d.name=ZA (.ref fa) ->
   ∃fd:PX,(∀(s:Oe)(u:Ob),Vq s fd ⟨[u],[]⟩ [(x,u)])/\∀base:ZH,K.In base->base.Ns OM mg->rC l.prog w K mg base CX k fa fd [x] (sp K))
  (hsp:∀(K:Frag)(H:Hp)(a:ZE)(ns:List Int),ns.length<=n->KD H->SqL K H a (ns.map V.int)->sp K [.ref a] H (λv _=>v=.bl ZC) λ_ _ _=>False)
  (hCX:∀(H:Hp)(s:Oe)(e:Ob)(s':Oe),CX [] H s (λ_ _ _=>False) e s'->False):
  WalkO q loose XP (hookX S top).says l.row.toRowW d [] (λf vs=>PySem.call f vs):=by
 refine Att.attach_call hn hdf λw s₀ s₁ mg mb fa o pm cd doc a vs ns G Y ho hd hcd hmg hobj hints hlen hg=>?_;obtain⟨K,f,c,P,KX,e,hPK,L,hbm,hP⟩:=Y;obtain⟨fd,hb,hF⟩:=F w K mg fa _ KX e ⟨f,c,P,L⟩ hbm G.T.g hmg;exact Ds KX G.T.g G.T.b G.T.builtins G.T.nolimit hg hobj hints (OJ hlen hn2) hr (P0:=P) (c0:=c) ((L.hd _ KX).tab hP) hPK (λH hH=>L.tb KX G.T.g hH) hF hb (λH hO hS=>hsp K H a ns hlen hO hS) λH e s'=>hCX H s₁ e s'
def KG(K:Frag)(mg:WF)(base:ZH):Prop:=∃f c P,mg "most_kept" =ZA (.ref f)/\(∃o d,K.lookup f=ZA o/\o.data=.func d/\d.code=.ref c)/\CodeHd base c P/\(∀H,Tb K mg H->H P=ZA (.tbl n5))/\M0 K mg
def Gp{base:ZH}(L:∃f c P,LmK K f c P)(b:Ky K=ZC)(X:K.In h)(G:h.Ns OM mg)(X2:K.In base):KG K mg base:=by obtain⟨f,c,P,L⟩:=L;have hL:=L;obtain⟨o,d,b1,b2,b3⟩:=hL.fn;obtain⟨oc,vs,c1,c2,c3⟩:=hL.cd;have m:=mg_of X G L.nm;exact⟨f,c,P,m,⟨o,d,b1,b2,b3⟩,L.hd base X2,λH t=>t f o d c oc vs P m b1 b2 b3 c1 c2 c3,Kx X G b⟩
section
variable {fs:Y0}{p pos kp p8 pp p2:Pos}
def EV(L:KG X.K X.mg X.base)(hx:∃o fd,X.mg "most_kept" =ZA (.ref f)/\X.K.lookup f=ZA o/\o.data=.func fd/\fd.code=X.env.code)(hr:Room (k+3) X.A)(hm:X.mg "sorted" =ZB)(hml:X.mg "len" =ZB)(ha:QA X [e] fs)
  (hq:X.env.qual= "most_kept" ++ ".<locals>.":=by rfl) (hst:bj [e]=ZC:=by rfl) (hg:Gl X "sorted":=by rfl) (hcl:U1 iX X.env=pure []:=by rfl):
  QE X (.Call (.Name "sorted" p) [e] [⟨ZA "key",.Lambda (m6 pp) (oA p1 p2 p3 p4 p5 p6) iX p8,kp⟩] pos) (cl vB fs):=by
 obtain⟨f',c,P,m,⟨o,d,b1,b2,b3⟩,C,T,B⟩:=L;obtain⟨o',d',m',a1,a2,a3⟩:=hx;rw[m]at m';cases m';rw[b1]at a1;cases a1;rw[b2]at a2;cases a2;exact⟨Jb hr hm hml (a3.symm.trans b3) C (λH t=>by rw[hq];exact T H t) B ha.h hst hg hcl⟩
end
noncomputable def zl:T->T->Option Bool
 |.dct ks us,.dct ks' us'=>if ks.map keyOf=ks'.map keyOf/\us.length=us'.length/\deps us<=50/\nds us=ZC/\nds us'=ZC then ZA (beqTs us us')else ZB
 |_,_=>ZB
noncomputable def jJ:List T->List T->Option Bool
 |[],[] =>ZA ZC
 |t::l,u::m=>match zl t u,jJ l m with
  |some a,ZA b=>ZA (a&&b)
  |_,_=>ZB
 |_,_=>ZB
noncomputable def Bf:T->T->Rs T
 |.dct ks rs,.dct ks' rs'=>if ks.map keyOf=ks'.map keyOf then match jJ rs rs' with
   |some b=>.ok (.bl b)
   |none=>.bad
  else .bad
 |_,_=>.bad
noncomputable def gD(b:List Int):List (List Int)->List Int
 |[] =>b
 |k::l=>gD (if cO k b=ZC then k else b) l
noncomputable def wy:List T->Rs T
 |[.lst l] =>match jO l with
  |some (k::ks)=>.ok (.lst ((gD k ks).map .int))
  |_=>.bad
 |_=>.bad
end Tr
namespace PySem.W
open PySem PySem.Calls
open PyProof.Rows
def EqW(prog:OI)(w:Py)(A:OW)(s:Oe)(u v:Ob)(b:Bool):Prop:=∀(E:WP)(Q:Bool->Oe->Prop),Q b s->ZJ (ZK prog w) A (eqBool u v) Q E s
section
variable {K:Type}[DecidableEq K]
variable {knd:HeapKind prog w K}
def Fj{nm:String}{a b:ZE}{xs ys:List (K×ZE×Ob)}{Q:Bool->Oe->Prop}(hu:knd.room A)(ha:(a == Qu)=ZD)(hb:(b == Qu)=ZD)
  (da:s.heap.DictOfH knd a xs) (db:s.heap.DictOfH knd b ys) (hk:xs.map (·.1)=ys.map (·.1)) (he:∀j x y,xs[j]?=ZA x->ys[j]?=ZA y->EqW prog w A s x.2.2 y.2.2 (e j)) (h:Q ((Oo xs.length).all e) s):
  ZJ (ZK prog w) A (Ur nm a b) Q E s:=by
 obtain⟨oa,eA,ep,pA,_,qA,hea,hia,hna⟩:=da;obtain⟨ob,eB,ep',pB,_,qB,heb,hib,hnb⟩:=db;have hla:eA.size=xs.length:=Xq hea;have hlb:eB.size=ys.length:=Xq heb;have hl:xs.length=ys.length:=by have:=congrArg PC hk;simpa using this
 have n1:¬ (a == Qu)=ZC:=λz=>by rw[ha]at z;cases z
 have n2:¬ (b == Qu)=ZC:=λz=>by rw[hb]at z;cases z
 unfold Ur;unfold Builtin.Dict.showsAll;rw[if_neg n1,if_neg n2];refine N8 (Om (N8 (Om (N8 (SE pA qA ?_)))));dsimp only;apply N8;refine SE pB qB ?_;have sz_:eA.size=eB.size:=by omega
 rw[if_neg (by rw[sz_];simp)];refine N8 (Xr pA qA ?_);refine N8 ?_;simp only[UV,Std.Legacy.Range.size,Nat.div_one,VD,SL];refine wpAny_forIn_list _
  (λtl q s'=>s'=s/\q=(ZB,())/\∃i,tl=List.range' i (eA.size - i)/\i<=eA.size/\∀j,j<i->e j=ZC)
  _ ?_ ?_ _ _ ⟨rfl,rfl,0,by simp,Pk _,λj hj=>absurd hj (W9 _)⟩
 .rintro x tl q s' ⟨rfl,rfl,i,hr,hi,all_⟩;have lt_:i<eA.size:=by
   rcases Rm i eA.size with h|h
   .exact h
   .exact absurd hr (by rw[Nat.sub_eq_zero_of_le h];simp)
  obtain⟨rfl,lft⟩:x=i/\tl=List.range' (i+1) (eA.size - (i+1)):=by
   have e:eA.size - i=(eA.size - (i+1))+1:=by omega
   rw[e]at hr;rw[WQ]at hr;injection hr with h1 h2;exact⟨h1,h2⟩
  have h1:x<xs.length:=by omega
  have h2:x<ys.length:=by omega
  have kk:xs[x].1=ys[x].1:=by have:=congrArg (λl=>l[x]?) hk;simpa [Og h1,Og h2]using this
  have e1:eA[x]?=ZA (Wj knd xs[x]):=by rw[entry_at hea x,Og h1];rfl
  have e2:eB[x]?=ZA (Wj knd ys[x]):=by rw[entry_at heb x,Og h2];rfl
  refine N8 (SE pA qA ?_);rw[e1];show ZJ _ _ (holding [OB xs[x].2.1,xs[x].2.2] _ >>= _) _ _ _;refine N8 (P8 (N8 (wpAny_dictFind_heap hu (hia _ (PR h1)) pB qB heb hib hnb (λno=>?_) λj p hj=>?_)))
  .exact absurd (show ys[x]?=ZA (xs[x].1,ys[x].2)by rw[Og h2,kk]) (no x _)
  .obtain rfl:j=x:=by obtain⟨hjl,ej⟩:=Oj.mp hj;refine(Wf (l:=ys.map (·.1)) (by rw[Oc];exact hjl) hnb).mp ?_;rw[Ox,Ox,hj,Og h2];show ZA xs[x].1=ZA ys[x].1;rw[kk]
   dsimp only;refine N8 (SE pB qB ?_);rw[e2];refine P8 (he j _ _ (Og h1) (Og h2) _ _ ?_);cases ee:e j with
   |false=>
    rw[show(!ZD)=ZC from rfl,if_pos rfl];apply Om;apply Om;rw[List.all_eq_false.mpr ⟨j,OZ.mpr h1,by rw[ee];decide⟩]at h;exact h
   |true=>
    rw[if_neg (show ¬(!ZC)=ZC by decide)];refine N8 (Xr pA qA ?_);rw[if_neg (by simp)];refine Om ⟨rfl,rfl,j+1,lft,lt_,λk hk=>?_⟩;rcases Nat.lt_succ_iff_lt_or_eq.mp hk with z|rfl
    .exact all_ k z
    .exact ee
 .rintro q s' ⟨rfl,rfl,i,hr,hi,all_⟩;have hin:i=eA.size:=by
   rcases Rm i eA.size with h|h
   .have e:eA.size - i=(eA.size - (i+1))+1:=by omega
    exact absurd hr (by rw[e,WQ];simp)
   .exact UK hi h
  refine Om ?_;rw[OH.mpr (λk hk=>all_ k (by have:=OZ.mp hk;omega))]at h;exact h
def jk{a b:ZE}{xs ys:List (K×ZE×Ob)}(hu:A.units<cLine)(hr:knd.room A.in1)(ha:(a == Qu)=ZD)(hb:(b == Qu)=ZD)
  (da:s.heap.DictOfH knd a xs) (db:s.heap.DictOfH knd b ys) (hk:xs.map (·.1)=ys.map (·.1)) (he:∀j x y,xs[j]?=ZA x->ys[j]?=ZA y->EqW prog w A.in1 s x.2.2 y.2.2 (e j)) (h:Q (.bool ((Oo xs.length).all e)) s):
  ZJ (ZK prog w) A (Pp .Eq (OB a) (OB b)) Q E s:=by
 have ta:=da.typeIs;have tb:=db.typeIs;refine wpAny_richCompare_same_room (op:=.Eq) ta tb F.slot_dict_eq ?_ hu;refine Q6 F.slot_dict_eq ta F.entry_dict_eq ?_ (F.args_dict_eq_2 _ _);show ZJ _ _ (TJ "__eq__" ⟨[OB a,OB b],[]⟩ >>= _) _ _ s;apply N8;unfold TJ;apply N8;refine US ta ?_;show ZJ _ _ (pure ((OB a:Ob),(OB b:Ob))) _ _ s;apply Om;apply N8;refine WU (T:="dict") tb F.sub_dict_dict ?_;simp only[if_false,Qg,Bool.not_true];refine N8 (Om (N8 (Om (N8 (Fj hr ha hb da db hk he ?_)))));exact Om ⟨_,rfl,(by intro z;cases z),by simpa using h⟩
end
end PySem.W
variable{k:Bool}
namespace Tr
open PySem PySem.Spec PyProof.Rows L2 PySem.SeqAt
open PySem.W (EqW jk)
variable{H:Hp}{kvs:List (List Key×V)}{xs:List (List Key×ZE×Ob)}
def oC(r:KT H kvs xs):xs.map (·.1)=kvs.map (·.1):=by
 unfold KT at r;induction r with
 |nil=>rfl
 |cons h t ih=>rw[Od,Od,ih,h.1]
def oB(r:KT H kvs xs):Vals (kvs.map (·.2)) (xs.map (·.2.2)):=by
 unfold KT at r;induction r with
 |nil=>exact .nil
 |cons h t ih=>exact .cons h.2.2 ih
def r9{ks ks':List T}{kvs':List (List Key×V)}(h:ks.map keyOf=ks'.map keyOf)(e:ks.map keyOf=kvs.map (λp=>ZA p.1))(e':ks'.map keyOf=kvs'.map (λp=>ZA p.1)):kvs.map (·.1)=kvs'.map (·.1):=by rw[e,e']at h;have:=congrArg (List.filterMap id) h;simpa [Tx,Wg]using this
variable{a:ZE}{h:ZH}
def Eu{K:Type}[DecidableEq K]{knd:HeapKind prog w K}{xs ys:List (K×ZE×Ob)}(d:h.DictOfH knd a xs)(e:h.DictOfH knd a ys):xs.map (·.2.2)=ys.map (·.2.2):=by obtain⟨o,es,ep,h1,_,h2,h3,_⟩:=d;obtain⟨o',es',ep',h1',_,h2',h3',_⟩:=e;rw[h1]at h1';cases h1';rw[h2]at h2';cases h2';rw[h3]at h3';have:=congrArg (VE DictEntry.val) h3';simpa [Wj,Wg]using this
def EqW.refs{b:ZE}(hne:a≠b)(h:∀(E:WP)(Q:WP),Q (.bool k) s->ZJ (ZK prog w) A (Pp .Eq (.ref a) (.ref b)) Q E s):EqW prog w A s (.ref a) (.ref b) k:=λE Q hq=>by unfold eqBool;refine P8 ?_;refine Xp (λz=>absurd (T5 (eq_of_beq z)) hne) λ_=>?_;exact N8 (show ZJ (ZK prog w) A (Pp .Eq (.ref a) (.ref b)) _ E s from h E _ (Ph hq))
variable{X:Cx}
section
variable {kw:Uf}{σ:L2.St}{O:Ow}
def Fu(I:Inv X kw σ H s)(hu:A.units+53<cLine){ks us ks' us':List T}{v v':V}{u u':Ob}(r:Rep X.K O H (.dct ks us) v)(q:RelV v u)(r':Rep X.K O H (.dct ks' us') v')(q':RelV v' u')
  (hk:ks.map keyOf=ks'.map keyOf) (hl:us.length=us'.length) (hd:deps us<=50) (hn:nds us=ZC) (hn':nds us'=ZC):EqW X.prog X.w A s u u' (beqTs us us'):=by
 obtain⟨a,kvs,rfl,_,e,e1,rv⟩:=Rep.FS.mp r;obtain⟨b,kvs',rfl,_,e',e1',rv'⟩:=Rep.FS.mp r';obtain rfl:u=.ref a:=q;obtain rfl:u'=.ref b:=q';obtain⟨_,na,xs,kt,dd⟩:=k9 I.hok e;obtain⟨_,nb,ys,kt',dd'⟩:=k9 I.hok e';have V1:ReVs s us (xs.map (·.2.2)):=Reps.val I hn rv (oB kt);have V2:ReVs s us' (ys.map (·.2.2)):=Reps.val I hn' rv' (oB kt');by_cases hab:a=b
 .subst hab;rw[<-Eu dd dd']at V2;rw[ReVs.refl V1 V2];exact λE Q hq=>EqAt.same _ _ _ E Q hq
 .refine EqW.refs hab λE Q hq=>?_;have l1:=V1.length;rw[Oc]at l1;refine jk (e:=λj=>aS (us.getD j .non) (us'.getD j .non)) (by omega) (QK (by omega)) na nb dd dd' (by rw[oC kt,oC kt'];exact r9 hk e1 e1') (λj x y hx hy=>?_) ?_
  .have h1:j<us.length:=by rw[l1];exact(Oj.mp hx).1
   have h2:j<us'.length:=by omega
   obtain⟨w1,z1,t1⟩:=V1.get (Og h1);obtain⟨w2,z2,t2⟩:=V2.get (Og h2);rw[Ox,hx]at z1;rw[Ox,hy]at z2;cases z1;cases z2;show EqW _ _ _ _ _ _ (aS (us.getD j .non) (us'.getD j .non));rw[show us.getD j .non=us[j]by simp[h1],show us'.getD j .non=us'[j]by simp[h2]];have:=(Ee 50 A.in1 s us[j] us'[j] _ _ (.inl (OJ (i5 (Og h1)) hd)) (by show A.units+1+50<cLine;omega) t1 t2).1;exact λE Q hq=>this _ _ E Q hq
  .have q:=kK us us' (λj=>aS (us.getD j .non) (us'.getD j .non)) λj t u h1 h2=>by simp[UE,h1,h2]
   rw[q,<-hl,Wu]at hq;rw[<-l1];simpa using hq
theorem vK(I:Inv X kw σ H s)(hu:A.units+53<cLine):∀{rs rs':List T}{vs vs':List V}{us us':List Ob}{b:Bool},Reps X.K O H rs vs->Vals vs us->Reps X.K O H rs' vs'->Vals vs' us'->jJ rs rs'=ZA b ->
  ∃e:Nat->Bool,(∀(j:Nat) u u',us[j]?=ZA u->us'[j]?=ZA u'->EqW X.prog X.w A s u u' (e j))/\b=(Oo us.length).all e
 |[],[],vs,vs',us,us',b,r,v,r',v',h=>by cases Reps.Da.mp r;cases v;cases h;exact⟨λ_=>ZC,λj u u' z=>by simp at z,rfl⟩
 |[],_::_,_,_,_,_,_,_,_,_,_,h=>by cases h
 |_::_,[],_,_,_,_,_,_,_,_,_,h=>by cases h
 |t::l,t'::l',vs,vs',us,us',b,r,v,r',v',h=>by
  obtain⟨x,xs,rfl,p,q⟩:=Reps.me.mp r;obtain⟨x',xs',rfl,p',q'⟩:=Reps.me.mp r';cases v with
  |@cons _ u _ us v1 v2=>
   cases v' with
   |@cons _ u' _ us' v1' v2'=>
    unfold jJ at h;split at h
    .rename_i a c h1 h2;cases h;obtain⟨e,he,hb⟩:=vK I hu q v2 q' v2' h2;have h0:EqW X.prog X.w A s u u' a:=by
      unfold zl at h1;split at h1
      .split at h1
       .rename_i z;cases h1;exact Fu I hu p v1 p' v1' z.1 z.2.1 z.2.2.1 z.2.2.2.1 z.2.2.2.2
       .cases h1
      .cases h1
     refine⟨λj=>match j with|0=>a|j+1=>e j,λj w w' z z'=>?_,by rw[Ol,j0,hb]⟩;cases j with
     |zero=>cases z;cases z';exact h0
     |succ j=>exact he j w w' z z'
    .cases h
def CZ(hu:X.A.units+60<cLine):OpT X (Pp .Eq) Bf:=by
 intro kw s σ H O x y vx vy ux uy Q I hf rx ry r1 r2 hp;unfold Bf at hp;split at hp
 .rename_i ks rs ks' rs';by_cases hk:ks.map keyOf=ks'.map keyOf
  .rw[if_pos hk]at hp;cases hb:jJ rs rs' with
   |none=>rw[hb]at hp;exact hp.elim
   |some k=>
    rw[hb]at hp;obtain⟨a,kvs,rfl,_,e,e1,rv⟩:=Rep.FS.mp rx;obtain⟨b,kvs',rfl,_,e',e1',rv'⟩:=Rep.FS.mp ry;obtain rfl:ux=.ref a:=r1;obtain rfl:uy=.ref b:=r2;obtain⟨_,na,xs,kt,dd⟩:=k9 I.hok e;obtain⟨_,nb,ys,kt',dd'⟩:=k9 I.hok e';obtain⟨ee,he,hbb⟩:=vK I (A:=X.A.in1) (by show X.A.units+1+53<cLine;omega) rv (oB kt) rv' (oB kt') hb;refine jk (e:=ee) (by omega) (QK (by omega)) na nb dd dd' (by rw[oC kt,oC kt'];exact r9 hk e1 e1') (λj x y hx hy=>he j _ _ (by rw[Ox,hx];rfl) (by rw[Ox,hy];rfl)) ?_;rw[Oc]at hbb;rw[<-hbb];exact⟨.bl k,H,I,rfl,hp H (Same.refl H) _ (Rep.bl_ _)⟩
  .rw[if_neg hk]at hp;exact hp.elim
 .exact hp.elim
end
section
variable {h0:ZH}{its:Array Ob}{I l S:ZE}{res:List Int}{r:Nat->List Int}
def KH(h0 h:ZH):Prop:=∀b o,h0.get? b=ZA o->h.get? b=ZA o
def CmR(prog:OI)(w:Py)(A:OW)(h0:ZH)(its:Array Ob)(r:Nat->List Int):Prop:=
 ∀(i j:Nat)(x y:Ob)(s:Oe)(Q E:WP),KH h0 s.heap->its[i]?=ZA x->its[j]?=ZA y->Q (.bool (cO (r i) (r j))) s->ZJ (ZK prog w) A (richCompare .Lt x y) Q E s
noncomputable def two(v:Ob)(c:Nat):Obj:={cls:=.type "list",dict:=ZB,data:=.seq #[v,v] c,slots:=#[]}
def JI(hh:A.handled=ZB)(h1:l≠I)(h2:S≠I)(h3:S≠l)(h4:∀b o,h0.get? b=ZA o->b≠I/\b≠S)(hc:CmR prog w A.in1 h0 its r):
  ∀(m j b:Nat)(s:Oe)(x:Ob)(c:Nat),j+m=its.size->its[b]?=ZA x->s.heap.IsListIter I l j->s.heap.IsList l its->s.heap.get? S=ZA (two x c)->KH h0 s.heap->res=gD (r b) ((Oo m).map λq=>r (j+q)) ->
   (∀b' x' h' tk,its[b']?=ZA x'->r b'=res->KH h0 h'->R (.ok (.ret x')) {s with heap:=h',toks:=tk})->ZL (ZK prog w) A (.builtin "min.loop" ⟨[.ref I,.none,.ref S],[]⟩) R s:=by
 have W:=Walks.list (prog:=prog) (w:=w) (A:=A.in1) hh I l h1 its;have nm:(toString "min" ++toString ".loop" : String)= "min.loop":=by decide
 intro m;induction m with
 |zero=>
  intro j b s x c e ex i1 i2 eS kp er hR;refine QZ Ss (by rw[Qn P2 _];refine N8 (m:=VX _) (RZ eS rfl (N8 (m:=tryCatch _ _) (SF (W.done s _ _ ⟨by rw[<-e];exact i1,i2⟩ λh' tk k1=>?_))));have eS':=k1 S _ (by simpa using h2) eS;refine N8 (m:=updateSeq S _) (UU eS' rfl (N8 (Ui (Om (hR b x _ tk ex er.symm λa o q=>?_)))));have n:=h4 a o q;exact(Pl _ _ (PN n.2)).trans (k1 a o (by simpa using n.1) (kp a o q)))
 |succ m ih=>
  intro j b s x c e ex i1 i2 eS kp er hR;have hj:j<its.size:=by omega
  refine QZ Ss (by
   rw[Qn P2 _];refine N8 (m:=VX _) (RZ eS rfl (N8 (m:=tryCatch _ _) (SF (W.item j s _ _ hj ⟨i1,i2⟩ λy h' tk ey st k1=>?_))));have eS':=k1 S _ (by simpa using h2) eS;have kp':KH h0 h':=λa o q=>k1 a o (by simpa using(h4 a o q).1) (kp a o q);have er':res=gD (if cO (r j) (r b)=ZC then r j else r b) ((Oo m).map λq=>r (j+1+q)):=by rw[er,RB,Od,ON];show gD (if cO (r (j+0)) (r b)=ZC then r (j+0)else r b) _=_;rw[Nat.add_zero];congr 1;refine OP λq _=>?_;show r (j+(q+1))=_;rw[show j+(q+1)=j+1+q by omega]
   refine N8 (m:=tryCatch (holding [y,y] _) _) (SF (P8 (N8 (hc j b y x {s with heap:=h',toks:=tk} _ _ kp' ey ex (N8 (P8 (Ph (N8 (Ui (Om ?_))))))))));cases q:cO (r j) (r b)with
   |true=>
    rw[q,if_pos rfl]at er';rw[if_pos rfl];refine N8 (m:=updateSeq S _) (UU eS' rfl (N8 (Ui ?_)));rw[nm];refine Om ⟨Rv P2 _,ih (j+1) j _ y _ (by omega) ey (st.1.at λo z=>?_) (st.2.at λo z=>?_) (RF _ eS' rfl) (λa o z=>(Pl _ _ (PN (h4 a o z).2)).trans (kp' a o z)) er' λb' x' h'' tk'=>hR b' x' h'' tk'⟩
    .exact(Pl _ _ h2).trans z
    .exact(Pl _ _ h3).trans z
   |false=>
    rw[q,if_neg (by decide)]at er';rw[if_neg (by decide)];refine N8 (Ui ?_);rw[nm];exact Om ⟨Rv P2 _,ih (j+1) b _ x c (by omega) ex st.1 st.2 eS' kp' er' λb' x' h'' tk'=>hR b' x' h'' tk'⟩)
def De{k:List Int}{ks:List (List Int)}(hh:A.handled=ZB)(hl:s.heap.IsList l its)(hz:its.size=ks.length+1)(hk:∀i,r i=(k::ks).getD i [])(hc:CmR prog w A.in1 s.heap its r)
  (h:∀b x h' tk,its[b]?=ZA x->r b=gD k ks->KH s.heap h'->Q x {s with heap:=h',toks:=tk}):ZJ (ZK prog w) A (call (.builtin "min") [.ref l]) Q E s:=by
 have nm:(toString "min" ++toString ".loop" : String)= "min.loop":=by decide
 have hlt:l<s.heap.objs.size:=hl.elim λ_ e=>Ov e.1;refine call_function_tree PySem.F.kind_min PySem.F.plain_min PySem.F.entry_min (PySem.F.args_min1 _) (N8 (m:=S8 "min" _ 0 _) (wpAny_of_eq (show S8 "min" ["key","default"] 0 ⟨[],[]⟩=pure [ZB,ZB]from rfl) (N8 (Om (N8 (SA hl ?_))))));refine N8 (Pu ?_);rw[nm];generalize hI:s.heap.push {cls:=.type "list_iterator",data:=.fields #[.ref l,.int 0 0]}=hp;have hsz:hp.objs.size=s.heap.objs.size+1:=by rw[<-hI];exact RA ..
 have st:hp.IsListIter s.heap.objs.size l 0/\hp.IsList l its:=by rw[<-hI];exact⟨⟨_,OA _ rfl,rfl,rfl⟩,hl.push _⟩
 have kp:KH s.heap hp:=λb o e=>by rw[<-hI];exact Oi _ e
 have n1:l≠s.heap.objs.size:=O8 hlt;have n2:hp.objs.size≠s.heap.objs.size:=by rw[hsz];exact WL _
 have n3:hp.objs.size≠l:=λz=>U7 (show s.heap.objs.size+1<s.heap.objs.size from by rw[<-hsz,z];exact hlt);have n4:∀b o,s.heap.get? b=ZA o->b≠s.heap.objs.size/\b≠hp.objs.size:=λb o e=>by have:=Ov e;exact⟨O8 this,λz=>U7 (show s.heap.objs.size+1<s.heap.objs.size from by rw[<-hsz,<-z];exact this)⟩
 have W:=Walks.list (prog:=prog) (w:=w) (A:=A.in1) hh s.heap.objs.size l n1 its;refine Om ⟨Rv P2 _,QZ Ss (by
  rw[Qn P2 _];have eS:(hp.push {cls:=.type "list",data:=.seq #[] 0}).get? hp.objs.size=ZA _:=OA _ rfl;refine N8 (m:=VX _) (RZ eS rfl (N8 (m:=tryCatch _ _) (SF (W.item 0 _ _ _ (by omega) ⟨st.1.at λo e=>Oi _ e,st.2.push _⟩ λy h' tk ey st' k1=>?_))));have eS':=k1 hp.objs.size _ (by simpa using n2) eS;refine N8 (m:=updateSeq hp.objs.size _) (UU eS' rfl ?_);rw[nm];have kp':KH s.heap (h'.update hp.objs.size (PF λ_=>#[y,y])):=λa o e=>(Pl _ _ (PN (n4 a o e).2)).trans (k1 a o (by simpa using(n4 a o e).1) (Oi _ (kp a o e)));refine Om ⟨Rv P2 _,JI (h0:=s.heap) (res:=gD k ks) hh n1 n2 n3 n4 hc ks.length 1 0 _ y _ (by omega) ey (st'.1.at λo z=>?_) (st'.2.at λo z=>?_) (RF _ eS' rfl) kp' ?_ λb x h'' tk' ex er kp''=>h b x h'' tk' ex er kp''⟩
  .exact(Pl _ _ n2).trans z
  .exact(Pl _ _ n3).trans z
  .rw[hk 0];show _=gD k _;congr 1;refine R3 (by simp) λi a1 a2=>?_;rw[Rw,TB,hk,show 1+i=i+1 by omega];simp[a1])⟩
end
def GY(hc:X.calm=ZC)(hu:X.A.units+60<cLine):CallT X (.builtin "min") wy:=by
 intro kw s σ H O ts vs us Q I hf rs rv hp;unfold wy at hp;split at hp
 .rename_i l;obtain⟨v,rfl,r⟩:=rs.one;split at hp
  .rename_i k ks hk;obtain⟨a,ws,rfl,n,q,z⟩:=Rep.Do.mp r;obtain⟨u,rfl,ru⟩:=Vals.one rv;obtain rfl:u=OB a:=ru;obtain⟨zz,its,m,r',hlen,eo⟩:=I.KM q;obtain⟨g1,g2⟩:=uA hk z r';have at_:∀(i:Nat)(x:Ob),its[i]?=ZA x->∃b,x=.ref b/\Rep X.K O H (.lst (((k::ks).getD i []).map .int)) (.ref b):=λi x e=>by
    have hi:i<(k::ks).length:=by rw[g1];exact(Oj.mp e).1
    obtain⟨ns,b,e1,e2,e3⟩:=g2 i (BI ((k::ks).getD i [])) x (by rw[Ox,Og hi,O6,Og hi];rfl) e;have:(k::ks).getD i []=ns:=congrArg List.tail e1;rw[this];exact⟨b,e2,e3⟩
   have hd:∀(b:ZE)(ns:List Int),Rep X.K O H (.lst (ns.map .int)) (.ref b)->∃(js:List Ob)(c:Nat),s.heap.get? b=ZA (seqObj "list" js.toArray c)/\Qq js ns:=λb ns e=>by obtain⟨b',vs',eb,_,q',z'⟩:=Rep.Do.mp e;cases eb;obtain⟨_,js,c,r2,_,eo2⟩:=I.KM q';cases Reps.Nr z';exact⟨js,c,eo2,m9 r2⟩
   refine De (l:=a) (its:=its.toArray) (r:=λi=>(k::ks).getD i []) (k:=k) (ks:=ks) (I.ok.hd hc) ⟨_,eo,rfl,m,rfl⟩ (by rw[Oy,<-g1,Ol]) (λi=>rfl) (λi j x y s' Q' E' kp ex ey hq=>?_) λb x h' tk ex er kp=>?_
   .obtain⟨b1,rfl,p1⟩:=at_ i x (by simpa using ex);obtain⟨b2,rfl,p2⟩:=at_ j y (by simpa using ey);obtain⟨js1,c1,o1,i1⟩:=hd b1 _ p1;obtain⟨js2,c2,o2,i2⟩:=hd b2 _ p2;exact HT.lt_lstInts (kp _ _ o1) (kp _ _ o2) (by simpa using i1) (by simpa using i2) (show X.A.units+1<cLine by omega) (by rw[zO];exact hq)
   .obtain⟨b1,rfl,p1⟩:=at_ b x (by simpa using ex);rw[show(k::ks).getD b []=gD k ks from er]at p1;exact⟨.ref b1,H,I.kept (t':=tk) kp,rfl,hp H (Same.refl H) _ p1⟩
  .exact hp.elim
 .exact hp.elim
variable{mg:WF}{ps:List Str}
section
variable {base:ZH}{x:Str}{st:ZF}{k:Nat}{F:Y1}
def aN(N:List Str)(H:fV K mg x st ps)
  (hbody:N.Nodup->∀(f:ZE)(cdv:Ob)(A:OW)(outer:List Env)(s:Oe)(H:Hp)(E:XK),Room k (A.deeper (envOfC x (az st) s.heap.objs.size f cdv)) ->
   ∀xe,BA ((jl CX0 P w K mg base N x (az st) f cdv A outer s H E).FB xe) (cZ st) F) (S:autoParam (dj N ps (az st)) z_) (hn:ps.length=n:=by rfl):Cl P w K mg base (k+1) x n (val n N.length F):=Mw H S hn (hbody S.nd)
end
def cG{pos:Pos}{elt tg iter:ZG}{ifs:List ZG}{src:List (Option Nat)}{fi:Y0}{tgt:T->En->Rs En}{fc:Y3}{fe:Y2}(N' N:List Str)(st:ZF)(hi:QI X tg iter fi)
  (block:N'.Nodup->∀(cl:List (Str×ZE))(C:ZE)(s₀:Oe)(H₀:Hp)(fp:List ZE),QG (cA X scope cl N' C s₀ H₀ fp) tg tgt/\MF (cA X scope cl N' C s₀ H₀ fp) ifs fc/\QE (cA X scope cl N' C s₀ H₀ fp) elt fe)
  (hc:Cx.calm X=ZC:=by rfl) (hN:X.N=N:=by rfl) (hm:X.env.scope.names=(az st).names:=by rfl) (hk:scope.kind=.function:=by rfl) (h:autoParam (Gn (az st).names N scope.names N' src=ZC) y_) (nd:autoParam (N'.Nodup) y_) (hs:autoParam (∀(x:Ob),Pj iter (Cx.env X) x=pure x) t_):
  QE X (Ud elt [{target:=tg,iter:=iter,ifs:=ifs,is_async:=0}] scope pos) (d6 fi src tgt fc fe):=Hg hc (LcScope.by hN hm hk h) hi (block nd) hs
@[elab_as_elim] theorem LZ {α:Type} {p:List α->Prop} (h:p []):∀us:List α,us.length=0->p us
 |[],_=>h
@[elab_as_elim] theorem HF {α:Type} {p:List α->Prop} (h:∀a,p [a]):∀us:List α,us.length=1->p us
 |[a],_=>h a
@[elab_as_elim] theorem LY {α:Type} {p:List α->Prop} (h:∀a b,p [a,b]):∀us:List α,us.length=2->p us
 |[a,b],_=>h a b
@[elab_as_elim] theorem LW {α:Type} {p:List α->Prop} (h:∀a b c,p [a,b,c]):∀us:List α,us.length=3->p us
 |[a,b,c],_=>h a b c
section
variable {S:rF}{top:Nat->ZF}
def cy(j:Nat){n:Str}(X:K.In h)(G:h.Ns OM mg)(e:pV S K=nV S top)(q:S.tab[j]?=ZA (n,i):=by rfl)
  (hb:∀(kV doc pm:Ob)(an:Option ZE)(cdv ct:Ob)(us:List Ob),us.length=ps.length->VR (R6 n n (iu (top i)) (cZ (top i)) (az (top i)) .none kV doc pm an cdv ct) ⟨us,[]⟩=pure (ps.zip us):=by intro _ _ _ _ _ _ us hl;first|exact HF (λ_=>rfl) us hl|exact LY (λ_ _=>rfl) us hl|exact LW (λ_ _ _=>rfl) us hl|exact LZ rfl us hl):
  ∃f fd,Fn K mg n (top i) ps f fd:=L9 j X G e q hb
end
end Tr
namespace G
open PySem PySem.Spec PyProof.Rows L2 Tr
structure Bl (mg:WF):Prop where
 b_ValueError:mg "ValueError" =ZB
 b_all:mg "all" =ZB
 b_bool:mg "bool" =ZB
 b_dict:mg "dict" =ZB
 b_enumerate:mg "enumerate" =ZB
 b_int:mg "int" =ZB
 b_isinstance:mg "isinstance" =ZB
 b_len:mg "len" =ZB
 b_list:mg "list" =ZB
 b_max:mg "max" =ZB
 b_min:mg "min" =ZB
 b_range:mg "range" =ZB
 b_sorted:mg "sorted" =ZB
 b_tuple:mg "tuple" =ZB
structure Cs (mg:WF):Prop where
 MOST_CLOCKS:∃t,mg "MOST_CLOCKS" =ZA (.int 4 t)
 MOST_LETTERS:∃t,mg "MOST_LETTERS" =ZA (.int 8 t)
 MOST_READINGS:∃t,mg "MOST_READINGS" =ZA (.int 4 t)
 LAST_READING:∃t,mg "LAST_READING" =ZA (.int 99 t)
 SLOWEST:∃t,mg "SLOWEST" =ZA (.int 9 t)
 LONGEST:∃t,mg "LONGEST" =ZA (.int 999 t)
def uT:Pc "bool" =ZA (.type "bool"):=by decide+kernel
def ix:Pc "int" =ZA (.type "int"):=by decide+kernel
def bW:Pc "tuple" =ZA (.type "tuple"):=by decide+kernel
structure Xs (K:N7)(mg:WF)(ac bi bn bv ca ci cr:ZE):Prop where
 m_NoRecord:mg "NoRecord" =ZA (.ref ac)
 m_NoEvent:mg "NoEvent" =ZA (.ref bi)
 m_NoNumber:mg "NoNumber" =ZA (.ref bn)
 m_NoWorld:mg "NoWorld" =ZA (.ref bv)
 m_Barred:mg "Barred" =ZA (.ref ca)
 m_Nothing:mg "Nothing" =ZA (.ref ci)
 m_ClockError:mg "ClockError" =ZA (.ref cr)
 o_NoRecord:OX K ac (.ref cr::nU)
 o_NoEvent:OX K bi (.ref cr::nU)
 o_NoNumber:OX K bn (.ref cr::nU)
 o_NoWorld:OX K bv (.ref cr::nU)
 o_Barred:OX K ca (.ref cr::nU)
 o_Nothing:OX K ci (.ref cr::nU)
 o_ClockError:OX K cr nU
 d:[ac,bi,bn,bv,ca,ci,cr].Nodup
abbrev cH:ZF:=top 68
def aaD:dj ["_law_e","_law_flags"] ["_law_e"] (az cH):=⟨rfl,rfl,rfl,by decide+kernel,rfl,by decide+kernel,by decide+kernel⟩
noncomputable def cM(j:Nat):T:=.tup [.str "refused",.int (j:Nat)]
noncomputable def ng(c:Str):Rs T:=if c= "NoRecord" then .ok (cM 0)else if c= "NoEvent" then .ok (cM 1)else if c= "NoNumber" then .ok (cM 2)else if c= "NoWorld" then .ok (cM 3)else if c= "Barred" then .ok (cM 4)else if c= "Nothing" then .ok (cM 5)else .bad
variable{C ca cr bi bn ac bv ci f:ZE}{ev:Array Ob}{mg:WF}{oe:Obj}
section
variable {base:ZH}
def Xs.ne{D:ZE}(h:C≠D):(OB C::nU).contains (.ref D)=ZD:=by
 rw[Qi];have:(OB D == OB C)=ZD:=by rw[beq_eq_false_iff_ne];exact λz=>h (T5 z).symm
 rw[this];rfl
def Co{e:ZE}{outer:List Env}{H:Hp}{Q:VK}(S:Xs K mg ac bi bn bv ca ci cr)(OC:OX K C (.ref cr::nU))
  (hc:oe.cls=.ref C) (hd:oe.data=.fields ev) (hi:mg "isinstance" =ZB) (hv:mg "ValueError" =ZB) (f8:cr≠ac) (gt:cr≠bi) (ii:cr≠bn) (im:cr≠bv) (io:cr≠ca) (jp:cr≠ci)
  {b0 b1 b2 b3 b4 b5:Bool} (h0:decide (C=ac)=b0) (h1:decide (C=bi)=b1) (h2:decide (C=bn)=b2) (h3:decide (C=bv)=b3) (h4:decide (C=ca)=b4) (h5:decide (C=ci)=b5)
  (cnt:[b0,b1,b2,b3,b4,b5].countP id=1) (hj:[b0,b1,b2,b3,b4,b5][j]?=ZA ZC) (hno:∀m,m<j->[b0,b1,b2,b3,b4,b5][m]?=ZA ZD)
  (q:∀p H',Same H H'->H p=ZB->H' p=ZA (.tup [.str "refused",.int (j:Nat)])->Q (.ref p) H') (cdv:Ob):
  ∃t,PSs (MU P w K mg base ["_law_e","_law_flags"] "_law_refused" (az cH) f cdv A outer s H e oe) (cZ cH) t/\t {nx:=λ_ _=>False,rt:=Q} (start ["_law_e","_law_flags"] [.ref e]) H:=by
 have nd:=aaD.nd;have hp:(e,oe)∈(MU P w K mg base ["_law_e","_law_flags"] "_law_refused" (az cH) f cdv A outer s H e oe).pn:=Of;refine⟨_,lS (pC (i:=1) nd rfl (TN rfl) (tW (bF (mQ rfl (TN rfl) hp hc hd OC S.o_NoRecord b0 h0 (λ_=>Xs.ne f8) hi S.m_NoRecord) (bF (mQ rfl (TN rfl) hp hc hd OC S.o_NoEvent b1 h1 (λ_=>Xs.ne gt) hi S.m_NoEvent) (bF (mQ rfl (TN rfl) hp hc hd OC S.o_NoNumber b2 h2 (λ_=>Xs.ne ii) hi S.m_NoNumber) dQ)))))
  (lS (pC (i:=1) nd rfl (TN rfl) (LF C2 (pv 1) (tW (bF (mQ rfl (TN rfl) hp hc hd OC S.o_NoWorld b3 h3 (λ_=>Xs.ne im) hi S.m_NoWorld) (bF (mQ rfl (TN rfl) hp hc hd OC S.o_Barred b4 h4 (λ_=>Xs.ne io) hi S.m_Barred) (bF (mQ rfl (TN rfl) hp hc hd OC S.o_Nothing b5 h5 (λ_=>Xs.ne jp) hi S.m_Nothing) dQ))))))
  (lS (Hv (PW.pt (Hu (FW LH (zA QN PySem.F.slot_list_count PySem.F.type_list_count AX (pv 1) (bF CU dQ)) x5 (JC _)) (CA (CD (CC (Jp rfl (TN rfl) hp hc OC hi hv)))))) (gF CG) zp)
  (gF (jK (tV (bF CM (bF (zA QN T7 T8 AV (pv 1) (bF CU dQ)) dQ))))))),?_⟩
 refine⟨rfl,rfl,rfl,(by show 3<=ZI;decide),λl1 n1=>?_⟩;refine⟨.ref l1,rfl,rfl,rfl,rfl,(by show 3<=ZI;decide),λl2 n2=>?_⟩;have ne21:l1≠l2:=λz=>by subst z;rw[aI]at n2;cases n2
 refine⟨l1,l2,[.bl b0,.bl b1,.bl b2],[.bl b3,.bl b4,.bl b5],rfl,rfl,by rw[aG ne21,aI],aI,(by show 3+3<=ZI;decide),λl3 n3=>?_⟩;refine⟨.ref l3,rfl,.inl ⟨rfl,_,SqL.of aI⟩,⟨l3,[b0,b1,b2,b3,b4,b5],rfl,rfl,aI,?_⟩⟩;have hz:(!decide (V.int (([b0,b1,b2,b3,b4,b5].countP id:Nat):Int)=V.int 1))=ZD:=by rw[cnt];simp
 refine⟨rfl,ZD,congrArg V.bl hz,iteF ⟨rfl,ZC,rfl,iteF ?_⟩⟩;have hj6:j<6:=by have:=(Oj.mp hj).1;simpa using this
 refine⟨.ref l3,rfl,.inl ⟨rfl,_,SqL.of aI⟩,⟨l3,[b0,b1,b2,b3,b4,b5],j,rfl,rfl,aI,hj,hno,by omega,(by show 2<=ZI;decide),λp np=>q p _ ?_ ?_ aI⟩⟩
 rotate_left
 .have m3:p≠l3:=λz=>by subst z;rw[aI]at np;cases np
  have m2:p≠l2:=λz=>by subst z;rw[aG m3,aI]at np;cases np
  have m1:p≠l1:=λz=>by subst z;rw[aG m3,aG m2,aI]at np;cases np
  rw[aG m3,aG m2,aG m1]at np;exact np
 intro b o hb;have m1:b≠l1:=λz=>by subst z;rw[n1]at hb;cases hb
 have m2:b≠l2:=λz=>by subst z;rw[aG m1,hb]at n2;cases n2
 have m3:b≠l3:=λz=>by subst z;rw[aG m2,aG m1,hb]at n3;cases n3
 have m4:b≠p:=λz=>by subst z;rw[aG m3,aG m2,aG m1,hb]at np;cases np
 rw[aG m4,aG m3,aG m2,aG m1];exact hb
end
variable{X:Cx}{p1:Pos}
def tRC(X:Cx)(i:Nat)(e:ZE)(j:Nat):TE:=λσ H Q=>σ[i]?=ZA (ZA (.ref e))/\H e=ZB/\e∉kG X.stack/\∀p H',Same H H'->H p=ZB->H' p=ZA (.tup [.str "refused",.int (j:Nat)])->Q (.ref p) H'
def fW{en:Str}{p pos:Pos}{e:ZE}(hN:X.N[i]?=ZA en)(hv:uZ X.env.scope en)
  (Fn_:Fn X.K X.mg "_law_refused" cH ["_law_e"] f fd) (S:Xs X.K X.mg ac bi bn bv ca ci cr) (OC:OX X.K C (.ref cr::nU))
  (hc:oe.cls=.ref C) (hd:oe.data=.fields ev) (hi:X.mg "isinstance" =ZB) (hvv:X.mg "ValueError" =ZB) (f8:cr≠ac) (gt:cr≠bi) (ii:cr≠bn) (im:cr≠bv) (io:cr≠ca) (jp:cr≠ci)
  {b0 b1 b2 b3 b4 b5:Bool} (h0:decide (C=ac)=b0) (h1:decide (C=bi)=b1) (h2:decide (C=bn)=b2) (h3:decide (C=bv)=b3) (h4:decide (C=ca)=b4) (h5:decide (C=ci)=b5)
  (cnt:[b0,b1,b2,b3,b4,b5].countP id=1) (hj:[b0,b1,b2,b3,b4,b5][j]?=ZA ZC) (hno:∀m,m<j->[b0,b1,b2,b3,b4,b5][m]?=ZA ZD) (hr:X.A.depth+3<RY)
  (hg:Gl (yN X e oe) "_law_refused":=by rfl) (hde:autoParam ((en == ("__debug__" : Str))=ZD) s_) (hce:autoParam ((en == ("__classdict__" : Str))=ZD) s_)
  (he:Oz [.Name en p1] X.env=(ZD,eval (.Name en p1) X.env)::Oz [] X.env:=by rfl) (hpl:(backTo pos (Oz [] X.env)).any (·.1)=ZD:=by rfl):
  PE (yN X e oe) (.Call (.Name "_law_refused" p) [.Name en p1] [] pos) (tRC X i e j):=by
 intro kw s σ H Q I ⟨hσ,hH,hf,q⟩;refine Pd (je (X:=yN X e oe) I hg Fn_.mg ?_ (by decide));have hA:PA (yN X e oe) [.Name en p1] (ie (oX i) tj):=bF (i9 (X:=yN X e oe) hN hv hde hce) dQ he;refine Sg (h₀:=X.base) I.ok.mod.kin Fn_.fn.kp (cL (hA pos kw s σ H (λvs H'=>vs=[.ref e]/\H'=H) I ⟨.ref e,hσ,rfl,rfl⟩) λus s1 ⟨vs,H1,I1,r,e1,e2⟩=>⟨I1.kIn,?_⟩) he hpl;subst e1;subst e2;obtain⟨u,rfl,ru⟩:=lH r;cases ru;have hoe:s1.heap.get? e=ZA oe:=(I1.pin (e,oe) (O9 _ Of)).1;have hb:=Fn_.bd s1 [.ref e] I1.kIn rfl;refine UY (Sd (Ke (Q:=Q) Fn_.fn aaD (vs:=[.ref e]) rfl hr I1.Ny hb r hoe hH hf (λv z=>by rw[hd]at z;cases z) λcdv=>Co S OC hc hd hi hvv f8 gt ii im io jp h0 h1 h2 h3 h4 h5 cnt hj hno q cdv) λr s' hq=>?_);cases r with
 |error ev=>exact hq.elim
 |ok fl=>
  cases fl with
  |ret u=>exact I1.after hq
  |next=>exact hq.elim
  |brk=>exact hq.elim
  |cont=>exact hq.elim
def kj{O:Ow}{H H':Hp}{p:ZE}(hO:∀p,H p=ZB->¬ O p)(hp:H p=ZB)(h:H' p=ZA (.tup [.str "refused",.int (j:Nat)])):Rep K O H' (cM j) (.ref p):=
 Rep.Fk.mpr ⟨p,_,rfl,hO p hp,h,Reps.Gc (Rep.NO _) (Reps.Gc (Rep.GE _) Reps.GM)⟩
def B3{en:Str}{p pos rp:Pos}(hN:X.N[i]?=ZA en)(hv:uZ X.env.scope en)
  (Fn_:Fn X.K X.mg "_law_refused" cH ["_law_e"] f fd) (S:Xs X.K X.mg ac bi bn bv ca ci cr) (hi:X.mg "isinstance" =ZB) (hvv:X.mg "ValueError" =ZB) (hr:X.A.depth+3<RY)
  (hg:autoParam (∀e oe,Gl (yN X e oe) "_law_refused") w_) (hde:autoParam ((en == ("__debug__" : Str))=ZD) s_) (hce:autoParam ((en == ("__classdict__" : Str))=ZD) s_)
  (he:Oz [.Name en p1] X.env=(ZD,eval (.Name en p1) X.env)::Oz [] X.env:=by rfl) (hpl:(backTo pos (Oz [] X.env)).any (·.1)=ZD:=by rfl):
  u4 X i [.Return (ZA (.Call (.Name "_law_refused" p) [.Name en p1] [] pos)) rp] cr ng:=by
 have dd:=S.d;have ap:∀{a b:ZE}(i j:Nat),i<j->[ac,bi,bn,bv,ca,ci,cr][i]?=ZA a->[ac,bi,bn,bv,ca,ci,cr][j]?=ZA b->a≠b:=λ{a b} i j hij ha hb z=>by have:=(Wf (Oj.mp ha).1 dd).mp (ha.trans (z▸hb.symm));omega
 have hin:∀C:ZE,(OB C:: .ref cr::nU).contains (.ref cr)=ZC:=λC=>by rw[Qi,Qi,beq_self_eq_true,Ww,Wv]
 have f8:cr≠ac:=(PN (ap 0 6 (by decide) rfl rfl));have gt:cr≠bi:=(PN (ap 1 6 (by decide) rfl rfl));have ii:cr≠bn:=(PN (ap 2 6 (by decide) rfl rfl));have im:cr≠bv:=(PN (ap 3 6 (by decide) rfl rfl));have io:cr≠ca:=(PN (ap 4 6 (by decide) rfl rfl));have jp:cr≠ci:=(PN (ap 5 6 (by decide) rfl rfl));intro c C t hm ht;unfold ng at ht;by_cases z0:c= "NoRecord"
 .rw[if_pos z0]at ht;cases ht;rw[z0,S.m_NoRecord]at hm;cases hm;refine⟨_,S.o_NoRecord,hin _,λe oe ev hc hd kw s σ H O Q I hH hf hσ hO q=>?_⟩;exact gF (jK (fW hN hv Fn_ S S.o_NoRecord hc hd hi hvv f8 gt ii im io jp (b0:=ZC) (b1:=ZD) (b2:=ZD) (b3:=ZD) (b4:=ZD) (b5:=ZD) (by simp) (by rw[decide_eq_false (ap 0 1 (by decide) rfl rfl)]) (by rw[decide_eq_false (ap 0 2 (by decide) rfl rfl)]) (by rw[decide_eq_false (ap 0 3 (by decide) rfl rfl)]) (by rw[decide_eq_false (ap 0 4 (by decide) rfl rfl)]) (by rw[decide_eq_false (ap 0 5 (by decide) rfl rfl)]) (by decide) (j:=0) rfl (λm hm=>by omega) hr (hg e oe) hde hce he hpl)) kw s σ H _ I ⟨hσ,hH,hf,λp H' sm hp h=>q _ _ sm (kj hO hp h)⟩
 rw[if_neg z0]at ht;by_cases z1:c= "NoEvent"
 .rw[if_pos z1]at ht;cases ht;rw[z1,S.m_NoEvent]at hm;cases hm;refine⟨_,S.o_NoEvent,hin _,λe oe ev hc hd kw s σ H O Q I hH hf hσ hO q=>?_⟩;exact gF (jK (fW hN hv Fn_ S S.o_NoEvent hc hd hi hvv f8 gt ii im io jp (b0:=ZD) (b1:=ZC) (b2:=ZD) (b3:=ZD) (b4:=ZD) (b5:=ZD) (by rw[decide_eq_false (PN (ap 0 1 (by decide) rfl rfl))]) (by simp) (by rw[decide_eq_false (ap 1 2 (by decide) rfl rfl)]) (by rw[decide_eq_false (ap 1 3 (by decide) rfl rfl)]) (by rw[decide_eq_false (ap 1 4 (by decide) rfl rfl)]) (by rw[decide_eq_false (ap 1 5 (by decide) rfl rfl)]) (by decide) (j:=1) rfl (λm hm=>by match m,hm with|0,_=>rfl) hr (hg e oe) hde hce he hpl)) kw s σ H _ I ⟨hσ,hH,hf,λp H' sm hp h=>q _ _ sm (kj hO hp h)⟩
 rw[if_neg z1]at ht;by_cases z2:c= "NoNumber"
 .rw[if_pos z2]at ht;cases ht;rw[z2,S.m_NoNumber]at hm;cases hm;refine⟨_,S.o_NoNumber,hin _,λe oe ev hc hd kw s σ H O Q I hH hf hσ hO q=>?_⟩;exact gF (jK (fW hN hv Fn_ S S.o_NoNumber hc hd hi hvv f8 gt ii im io jp (b0:=ZD) (b1:=ZD) (b2:=ZC) (b3:=ZD) (b4:=ZD) (b5:=ZD) (by rw[decide_eq_false (PN (ap 0 2 (by decide) rfl rfl))]) (by rw[decide_eq_false (PN (ap 1 2 (by decide) rfl rfl))]) (by simp) (by rw[decide_eq_false (ap 2 3 (by decide) rfl rfl)]) (by rw[decide_eq_false (ap 2 4 (by decide) rfl rfl)]) (by rw[decide_eq_false (ap 2 5 (by decide) rfl rfl)]) (by decide) (j:=2) rfl (λm hm=>by match m,hm with|0,_=>rfl|1,_=>rfl) hr (hg e oe) hde hce he hpl)) kw s σ H _ I ⟨hσ,hH,hf,λp H' sm hp h=>q _ _ sm (kj hO hp h)⟩
 rw[if_neg z2]at ht;by_cases z3:c= "NoWorld"
 .rw[if_pos z3]at ht;cases ht;rw[z3,S.m_NoWorld]at hm;cases hm;refine⟨_,S.o_NoWorld,hin _,λe oe ev hc hd kw s σ H O Q I hH hf hσ hO q=>?_⟩;exact gF (jK (fW hN hv Fn_ S S.o_NoWorld hc hd hi hvv f8 gt ii im io jp (b0:=ZD) (b1:=ZD) (b2:=ZD) (b3:=ZC) (b4:=ZD) (b5:=ZD) (by rw[decide_eq_false (PN (ap 0 3 (by decide) rfl rfl))]) (by rw[decide_eq_false (PN (ap 1 3 (by decide) rfl rfl))]) (by rw[decide_eq_false (PN (ap 2 3 (by decide) rfl rfl))]) (by simp) (by rw[decide_eq_false (ap 3 4 (by decide) rfl rfl)]) (by rw[decide_eq_false (ap 3 5 (by decide) rfl rfl)]) (by decide) (j:=3) rfl (λm hm=>by match m,hm with|0,_=>rfl|1,_=>rfl|2,_=>rfl) hr (hg e oe) hde hce he hpl)) kw s σ H _ I ⟨hσ,hH,hf,λp H' sm hp h=>q _ _ sm (kj hO hp h)⟩
 rw[if_neg z3]at ht;by_cases z4:c= "Barred"
 .rw[if_pos z4]at ht;cases ht;rw[z4,S.m_Barred]at hm;cases hm;refine⟨_,S.o_Barred,hin _,λe oe ev hc hd kw s σ H O Q I hH hf hσ hO q=>?_⟩;exact gF (jK (fW hN hv Fn_ S S.o_Barred hc hd hi hvv f8 gt ii im io jp (b0:=ZD) (b1:=ZD) (b2:=ZD) (b3:=ZD) (b4:=ZC) (b5:=ZD) (by rw[decide_eq_false (PN (ap 0 4 (by decide) rfl rfl))]) (by rw[decide_eq_false (PN (ap 1 4 (by decide) rfl rfl))]) (by rw[decide_eq_false (PN (ap 2 4 (by decide) rfl rfl))]) (by rw[decide_eq_false (PN (ap 3 4 (by decide) rfl rfl))]) (by simp) (by rw[decide_eq_false (ap 4 5 (by decide) rfl rfl)]) (by decide) (j:=4) rfl (λm hm=>by match m,hm with|0,_=>rfl|1,_=>rfl|2,_=>rfl|3,_=>rfl) hr (hg e oe) hde hce he hpl)) kw s σ H _ I ⟨hσ,hH,hf,λp H' sm hp h=>q _ _ sm (kj hO hp h)⟩
 rw[if_neg z4]at ht;by_cases z5:c= "Nothing"
 .rw[if_pos z5]at ht;cases ht;rw[z5,S.m_Nothing]at hm;cases hm;refine⟨_,S.o_Nothing,hin _,λe oe ev hc hd kw s σ H O Q I hH hf hσ hO q=>?_⟩;exact gF (jK (fW hN hv Fn_ S S.o_Nothing hc hd hi hvv f8 gt ii im io jp (b0:=ZD) (b1:=ZD) (b2:=ZD) (b3:=ZD) (b4:=ZD) (b5:=ZC) (by rw[decide_eq_false (PN (ap 0 5 (by decide) rfl rfl))]) (by rw[decide_eq_false (PN (ap 1 5 (by decide) rfl rfl))]) (by rw[decide_eq_false (PN (ap 2 5 (by decide) rfl rfl))]) (by rw[decide_eq_false (PN (ap 3 5 (by decide) rfl rfl))]) (by rw[decide_eq_false (PN (ap 4 5 (by decide) rfl rfl))]) (by simp) (by decide) (j:=5) rfl (λm hm=>by match m,hm with|0,_=>rfl|1,_=>rfl|2,_=>rfl|3,_=>rfl|4,_=>rfl) hr (hg e oe) hde hce he hpl)) kw s σ H _ I ⟨hσ,hH,hf,λp H' sm hp h=>q _ _ sm (kj hO hp h)⟩
 rw[if_neg z5]at ht;cases ht
def sR:Y1:=
 (aW (dO (o1 (GA "tuple") (vr 0)) (ch KN KN (vr 1) (cl cz (ae (vr 0) aj)) (vr 2))))
def aR:List T->Rs T:=val 3 3 sR
def yV:Y1:=
 (aW (dO (o1 (GA "int") (vr 0)) (o1 uo (o1 (GA "bool") (vr 0)))))
def jc:List T->Rs T:=val 1 1 yV
def xp:Y1:=
 (aW (dO (cl jc (ae (vr 0) aj)) (ch KN KN (vr 1) (vr 0) (vr 2))))
def bq:List T->Rs T:=val 3 3 xp
def BH:Y1:=
 (aW (dO (cl bq (ae (vr 0) (ae (cn (.int 1)) (ae (cn (.int 9)) aj)))) (cl bq (ae (vr 1) (ae (vr 0) (ae (cn (.int 9)) aj))))))
def kC:List T->Rs T:=val 2 2 BH
def As:Y1:=
 (aW (cl rB (ae (d6 (iR (ae (o2 fM (cl cz (ae (vr 0) aj)) (cn (.int 1))) aj)) [ZB,ZA 0] (gN 0) bT (o2 wz (o2 aU (vr 1) (vr 0)) (o2 aU (vr 1) (o2 aV (vr 0) (cn (.int 1)))))) aj)))
def kB:List T->Rs T:=val 1 1 As
def fL:Y1:=
 (aD (gE (fO (tb (cl aR (ae (vr 0) (ae (cn (.int 1)) (ae (cn (.int 4)) aj)))))) (aW (cn (.bl ZD))) sN) (aW (dO (cl rB (ae (d6 (iS (vr 0)) [ZB] (gN 0) bT (cl bq (ae (vr 0) (ae (cn (.int 0)) (ae (cn (.int 99)) aj))))) aj)) (cl kB (ae (vr 0) aj)))))
def cv:List T->Rs T:=val 1 1 fL
def jm:Y1:=
 (aW (dO (cl aR (ae (vr 0) (ae (cn (.int 3)) (ae (cn (.int 3)) aj)))) (dO (cl kC (ae (o2 aU (vr 0) (cn (.int 0))) (ae (o2 aU (vr 0) (cn (.int 1))) aj))) (cl cv (ae (o2 aU (vr 0) (cn (.int 2))) aj)))))
def dS:List T->Rs T:=val 1 1 jm
def jn:Y1:=
 (aW (dO (cl aR (ae (vr 0) (ae (cn (.int 1)) (ae (cn (.int 4)) aj)))) (cl rB (ae (d6 (iS (vr 0)) [ZB] (gN 0) bT (cl dS (ae (vr 0) aj))) aj))))
def eh:List T->Rs T:=val 1 1 jn
def yW:Y1:=
 (aD (gE (vX (fO (tb (cl aR (ae (vr 1) (ae (cn (.int 2)) (ae (cn (.int 2)) aj)))))) (fO (tb (cl bq (ae (o2 aU (vr 1) (cn (.int 0))) (ae (cn (.int 0)) (ae (o2 fM (cl cz (ae (vr 0) aj)) (cn (.int 1))) aj))))))) (aW (cn (.bl ZD))) sN) (aW (cl bq (ae (o2 aU (vr 1) (cn (.int 1))) (ae (cn (.int 0)) (ae (o2 fM (cl cz (ae (o2 aU (o2 aU (vr 0) (o2 aU (vr 1) (cn (.int 0)))) (cn (.int 2))) aj)) (cn (.int 1))) aj))))))
def gW:List T->Rs T:=val 2 2 yW
def yX:Y1:=
 (aW (dO (cl bq (ae (vr 0) (ae (cn (.int 0)) (ae (cn (.int 999)) aj)))) (F8 (o2 ji (vr 1) (cn .non)) (cl bq (ae (vr 1) (ae (vr 0) (ae (cn (.int 999)) aj)))))))
def jd:List T->Rs T:=val 2 2 yX
def xu:Y1:=
 (aD (gE (vX (fO (tb (cl aR (ae (vr 1) (ae (cn (.int 4)) (ae (cn (.int 4)) aj)))))) (fO (tb (cl jd (ae (o2 aU (vr 1) (cn (.int 2))) (ae (o2 aU (vr 1) (cn (.int 3))) aj)))))) (aW (cn (.bl ZD))) sN) (aW (dO (cl gW (ae (vr 0) (ae (o2 aU (vr 1) (cn (.int 0))) aj))) (dO (cl gW (ae (vr 0) (ae (o2 aU (vr 1) (cn (.int 1))) aj))) (o2 qf (o2 aU (vr 1) (cn (.int 0))) (o2 aU (vr 1) (cn (.int 1))))))))
def gn:List T->Rs T:=val 2 2 xu
def iH:Y1:=
 (aW (dO (cl aR (ae (vr 1) (ae (cn (.int 0)) (ae (cn (.int 8)) aj)))) (cl rB (ae (d6 (iS (vr 1)) [ZB,ZA 0] (gN 0) bT (cl gn (ae (vr 1) (ae (vr 0) aj)))) aj))))
def dH:List T->Rs T:=val 2 2 iH
def xt:Y1:=
 (aW (dO (cl aR (ae (vr 0) (ae (cn (.int 2)) (ae (cn (.int 2)) aj)))) (dO (cl eh (ae (o2 aU (vr 0) (cn (.int 0))) aj)) (cl dH (ae (o2 aU (vr 0) (cn (.int 0))) (ae (o2 aU (vr 0) (cn (.int 1))) aj))))))
def ik:List T->Rs T:=val 1 1 xt
def eR:Y1:=
 (gE (fO (tb (cl ik (ae (vr 0) aj)))) (B9 "NoRecord") sN)
def cm:List T->Rs T:=val 1 1 eR
abbrev bcF:Y1:=(aD (cI (aP (ae (vr 0) (ae (vr 4) aj))) (gN 5)) (aD (cI (aP (ae (vr 0) (ae (o2 aV (vr 4) (cn (.int 1))) aj))) (gN 6)) (aD (cI (o2 fM (o2 aU (vr 2) (o2 aV (vr 4) (cn (.int 1)))) (o2 aU (vr 2) (vr 4))) (gN 7)) (aD (iU 3 (aP (ae (vr 5) (ae (vr 6) (ae (o2 cu (vr 7) (o2 aU (vr 1) (cn (.int 1)))) aj))))) (iU 3 (aP (ae (vr 6) (ae (vr 5) (ae (o2 cu (o1 kQ (vr 7)) (o2 aU (vr 1) (cn (.int 0)))) aj)))))))))
def fK:Y1:=
 (aD (cI (o2 aU (vr 1) (cn (.int 2))) (gN 2)) (aD (jy 3 aj) (aD (d7 (iR (ae (o2 fM (cl cz (ae (vr 2) aj)) (cn (.int 1))) aj)) (gN 4) bcF) (nX 3 (aW (vr 3))))))
def dg:List T->Rs T:=val 2 8 fK
def fh:Y1:=
 (aD (jy 1 (ae (aP (ae (o2 aU (vr 0) (cn (.int 1))) (ae (o2 aU (vr 0) (cn (.int 0))) (ae (o1 kQ (o2 aU (vr 0) (cn (.int 2)))) aj)))) aj)) (aD (gE (tb (o2 fS (o2 aU (vr 0) (cn (.int 3))) (cn .non))) (iU 1 (aP (ae (o2 aU (vr 0) (cn (.int 0))) (ae (o2 aU (vr 0) (cn (.int 1))) (ae (o2 aU (vr 0) (cn (.int 3))) aj))))) sN) (nX 1 (aW (vr 1)))))
def cW:List T->Rs T:=val 1 2 fh
abbrev bdF:Y1:=pz 1 (cl dg (ae (vr 2) (ae (vr 3) aj)))
def kf:Y1:=
 (aD (xT (cl cm (ae (vr 0) aj))) (aD (jy 1 aj) (aD (d7 (iE (ae (o2 aU (vr 0) (cn (.int 0))) aj)) (gT 2 (iY (gN 2) (iY (gN 3) u9))) bdF) (aD (d7 (iS (o2 aU (vr 0) (cn (.int 1)))) (gN 4) (pz 1 (cl cW (ae (vr 4) aj)))) (nX 1 (aW (vr 1)))))))
def eJ:List T->Rs T:=val 1 5 kf
def eU:Y1:=
 (gE (fO (tb (cl bq (ae (vr 1) (ae (cn (.int 0)) (ae (o2 fM (vr 0) (cn (.int 1))) aj)))))) (B9 "NoNumber") sN)
def eG:List T->Rs T:=val 2 2 eU
abbrev peF:Y1:=pz 1 (d6 (iR (ae (cl cz (ae (o2 aU (vr 3) (cn (.int 2))) aj)) aj)) [ZB,ZA 2] (gN 0) bT (aP (ae (vr 1) (ae (vr 0) aj))))
def qS:Y1:=
 (aD (xT (cl cm (ae (vr 0) aj))) (aD (jy 1 aj) (aD (d7 (iE (ae (o2 aU (vr 0) (cn (.int 0))) aj)) (gT 2 (iY (gN 2) (iY (gN 3) u9))) peF) (nX 1 (aW (vr 1))))))
def eI:List T->Rs T:=val 1 4 qS
def ke:Y1:=
 (aD (cI (oD jB (vr 0) (o2 aU (vr 1) (cn (.int 1)))) (gN 3)) (aW (F8 (o2 ji (vr 3) (cn .non)) (o2 wz (o2 aV (o2 aU (vr 2) (cn (.int 0))) (o2 aU (vr 1) (cn (.int 2)))) (o2 aU (vr 3) (cn (.int 0)))))))
def dU:List T->Rs T:=val 3 4 ke
abbrev EN:Y1:=(aD (cI (ln 2 (oD jB (vr 2) (o2 aU (vr 5) (cn (.int 0))))) (gN 6)) (aD (gE (vX (tb (o2 ji (vr 6) (cn .non))) (fO (JO 2 (tb (cl dU (ae (vr 2) (ae (vr 5) (ae (vr 6) aj)))))))) K7 sN) (aD (cI (o2 aV (o2 aU (vr 6) (cn (.int 1))) (dz (ae (vr 4) aj))) (gN 7)) (aD (cI (d6 (iS (vr 7)) [ZB,ZA 0] (gN 0) bT (o2 aU (o2 aU (vr 1) (vr 0)) (cn (.int 0)))) (gN 8)) (aD (gE (tb (o2 sh (o2 aU (vr 5) (cn (.int 1))) (vr 8))) (aW (aP (ae (cn .non) (ae (sl (vr 7) (pS (oL il (vr 8) (o2 aU (vr 5) (cn (.int 1))))) pN) aj)))) sN) (aD (AF 2 (o2 aU (vr 5) (cn (.int 1))) (aP (ae (o2 aV (o2 aU (vr 6) (cn (.int 0))) (o2 aU (vr 5) (cn (.int 2)))) (ae (vr 7) aj)))) (cI (cn (.bl ZC)) (gN 3))))))))
def kc:Y1:=
 (aD (rO 2 (d6 (iS (vr 1)) [ZB] (gN 0) bT (aP (ae (vr 0) (ae (aP (ae (cn (.int 0)) (ae (dz aj) aj))) aj))))) (aD (cI (cn (.bl ZC)) (gN 3)) (aD (cf (tb (vr 3)) (aD (cI (cn (.bl ZD)) (gN 3)) (d7 (iE (ae (vr 0) aj)) (gT 2 (iY (gN 4) (iY (gN 5) u9))) EN)) FU) (nX 2 (aW (aP (ae (vr 2) (ae (cn .non) aj))))))))
def fz:List T->Rs T:=val 2 9 kc
def fX:Y1:=
 (aD (cI (cl eI (ae (vr 0) aj)) (gN 2)) (aD (cI (o2 aU (cl fz (ae (vr 1) (ae (vr 2) aj))) (cn (.int 0))) (gN 3)) (aD (gE (tb (o2 ji (vr 3) (cn .non))) (aW (cn .non)) sN) (aW (cl e9 (ae (d6 (iS (vr 2)) [ZB,ZA 3] (gN 0) bT (o2 aU (o2 bP (vr 1) (vr 0)) (cn (.int 0)))) aj))))))
def d9:List T->Rs T:=val 2 4 fX
def Hd:Y1:=
 (aW (cl d9 (ae (vr 0) (ae (cl eJ (ae (vr 0) aj)) aj))))
def ku:List T->Rs T:=val 1 1 Hd
def xv:Y1:=
 (aW (o2 fS (cl ku (ae (vr 0) aj)) (cn .non)))
def aM:List T->Rs T:=val 1 1 xv
def dF:Y1:=
 (gE (fO (tb (cl aM (ae (vr 0) aj)))) (B9 "NoWorld") sN)
def bH:List T->Rs T:=val 1 1 dF
def cq:Y1:=
 (aD (cI (cl eJ (ae (vr 0) aj)) (gN 2)) (aD (xT (cl eG (ae (cl cz (ae (vr 2) aj)) (ae (vr 1) aj)))) (aD (xT (cl bH (ae (vr 0) aj))) (aD (cI (o2 aU (vr 2) (vr 1)) (gN 3)) (aD (cI (o2 aU (cl fz (ae (o2 aV (sl (vr 2) pN (pS (vr 1))) (sl (vr 2) (pS (o2 aV (vr 1) (cn (.int 1)))) pN)) (ae (dz (ae (o2 aU (vr 3) (cn (.int 0))) aj)) aj))) (cn (.int 0))) (gN 4)) (aW (dO (o2 Bk (o2 aU (vr 3) (cn (.int 1))) (vr 4)) (o2 KN (o2 aU (o2 bP (vr 4) (o2 aU (vr 3) (cn (.int 1)))) (cn (.int 0))) (o2 aU (vr 3) (cn (.int 2)))))))))))
def cp:List T->Rs T:=val 2 5 cq
def rE:Y1:=
 (aW (lR (ae (cl cz (ae (o2 aU (vr 0) (cn (.int 1))) aj)) aj)))
def bL:List T->Rs T:=val 1 1 rE
def u6:Y1:=
 (aW (o2 aU (cl fz (ae (cl eJ (ae (vr 0) aj)) (ae (dz (ae (vr 1) aj)) aj))) (cn (.int 0))))
def fy:List T->Rs T:=val 2 2 u6
def BG:Y1:=
 (aW (DT (tb (o2 Bk (vr 1) (vr 0))) (o2 aU (o2 bP (vr 0) (vr 1)) (cn (.int 0))) (cn .non)))
def gI:List T->Rs T:=val 2 2 BG
abbrev amF:Y1:=(aD (cI (cl fy (ae (vr 0) (ae (vr 3) aj))) (gN 4)) (iU 2 (cl e9 (ae (d6 (iS (vr 1)) [ZB,ZA 4] (gN 0) bT (cl gI (ae (vr 1) (ae (vr 0) aj)))) aj))))
def lF:Y1:=
 (aD (xT (cl bH (ae (vr 0) aj))) (aD (cI (cl eI (ae (vr 0) aj)) (gN 1)) (aD (jy 2 aj) (aD (d7 (iS (vr 1)) (gN 3) amF) (aW (ln 2 (cl e9 (ae (vr 2) aj))))))))
def gX:List T->Rs T:=val 1 5 lF
def iG:Y1:=
 (aD (gE (tb (o2 qf (cl eI (ae (vr 0) aj)) (cl eI (ae (vr 1) aj)))) (aW (cn (.bl ZD))) sN) (aD (gE (vX (fO (tb (cl aM (ae (vr 0) aj)))) (fO (tb (cl aM (ae (vr 1) aj))))) (aW (dO (o1 uo (cl aM (ae (vr 0) aj))) (o1 uo (cl aM (ae (vr 1) aj))))) sN) (aW (o2 oh (cl gX (ae (vr 0) aj)) (cl gX (ae (vr 1) aj))))))
def ck:List T->Rs T:=val 2 2 iG
def xj:Y1:=
 (aW (aP (ae (o2 aU (vr 0) (cn (.int 0))) (ae (cl e9 (ae (d6 (iS (vr 1)) [ZB,ZA 0] (gN 0) bT (o2 aU (o2 aU (vr 1) (cn (.int 1))) (vr 0))) aj)) aj))))
def bR:List T->Rs T:=val 2 2 xj
def BE:Y1:=
 (aW (d6 (iS (vr 0)) [ZB,ZA 1] (gN 0) (tb (o2 qf (vr 0) (vr 1))) (vr 0)))
def d8:List T->Rs T:=val 2 2 BE
def cX:Y1:=
 (aD (xT (cl bH (ae (vr 0) aj))) (aD (cI (cl bL (ae (vr 0) aj)) (gN 1)) (aW (d6 (iS (vr 1)) [ZB,ZA 0,ZA 1] (gN 0) (tb (cl ck (ae (cl bR (ae (vr 1) (ae (cl d8 (ae (vr 2) (ae (vr 0) aj))) aj))) (ae (vr 1) aj)))) (vr 0)))))
def bA:List T->Rs T:=val 1 2 cX
def dG:Y1:=
 (aD (xT (cl bH (ae (vr 0) aj))) (aD (cI (vr 0) (gN 1)) (aD (d7 (Mi (ae (o2 fM (cl cz (ae (o2 aU (vr 0) (cn (.int 1))) aj)) (cn (.int 1))) (ae (o1 kQ (cn (.int 1))) (ae (o1 kQ (cn (.int 1))) aj)))) (gN 2) (aD (cI (cl bR (ae (vr 1) (ae (cl d8 (ae (cl bL (ae (vr 1) aj)) (ae (vr 2) aj))) aj))) (gN 3)) (gE (tb (cl ck (ae (vr 3) (ae (vr 0) aj)))) (cI (vr 3) (gN 1)) sN))) (aW (vr 1)))))
def b9:List T->Rs T:=val 1 4 dG
def BF:Y1:=
 (aD (cI (dz (ae (dz aj) aj)) (gN 1)) (aD (d7 (iS (vr 0)) (gN 2) (cI (o2 aV (vr 1) (d6 (iS (vr 1)) [ZB,ZA 2] (gN 0) bT (o2 aV (vr 0) (dz (ae (vr 1) aj))))) (gN 1))) (aW (vr 1))))
def kx:List T->Rs T:=val 1 3 BF
def gw:Y1:=
 (aD (xT (cl cm (ae (vr 0) aj))) (aD (cI (cl vB (ae (cl kx (ae (cl bL (ae (vr 0) aj)) aj)) aj)) (gN 1)) (aD (cI (cn (.int 0)) (gN 2)) (aD (cf (fO (tb (cl aM (ae (cl bR (ae (vr 0) (ae (o2 aU (vr 1) (vr 2)) aj))) aj)))) (Ca 2 (cn (.int 1))) FU) (aW (o2 aU (vr 1) (vr 2)))))))
def dR:List T->Rs T:=val 1 3 gw
def hV:Y1:=
 (aD (gE (tb (cl aM (ae (vr 0) aj))) (aW (dz aj)) sN) (aD (cI (cl bL (ae (vr 0) aj)) (gN 1)) (aW (d6 (iS (vr 1)) [ZB,ZA 0,ZA 1] (gN 0) (tb (cl aM (ae (cl bR (ae (vr 1) (ae (cl d8 (ae (vr 2) (ae (vr 0) aj))) aj))) aj))) (vr 0)))))
def ff:List T->Rs T:=val 1 2 hV
def dk:Y1:=
 (vG (aD (gE (tb (o2 wz (vr 0) (cn (.int 4)))) (aW (AD [bA,b9,dR,ff] (vr 0) (ae (vr 1) aj))) sN) (aW (cl cp (ae (vr 1) (ae (vr 2) aj))))) ng)
def aY:List T->Rs T:=val 3 4 dk
def fY:Y1:=
 (aD (cI (aP (ae (aP (ae (aP (ae (cn (.int 1)) (ae (cn (.int 1)) (ae (aP (ae (cn (.int 0)) (ae (cn (.int 1)) aj))) aj)))) (ae (aP (ae (cn (.int 1)) (ae (cn (.int 1)) (ae (aP (ae (cn (.int 0)) aj)) aj)))) aj))) (ae (aP (ae (aP (ae (aP (ae (cn (.int 1)) (ae (cn (.int 0)) aj))) (ae (aP (ae (cn (.int 0)) (ae (cn (.int 0)) aj))) (ae (cn (.int 1)) (ae (cn .non) aj))))) (ae (aP (ae (aP (ae (cn (.int 1)) (ae (cn (.int 0)) aj))) (ae (aP (ae (cn (.int 0)) (ae (cn (.int 1)) aj))) (ae (cn (.int 2)) (ae (cn .non) aj))))) aj))) aj))) (gN 0)) (aW (dO (o2 oh (cl aY (ae (cn (.int 0)) (ae (vr 0) (ae (cn .non) aj)))) (dz (ae (cn (.int 0)) (ae (cn (.int 1)) aj)))) (o2 oh (cl aY (ae (cn (.int 1)) (ae (vr 0) (ae (cn .non) aj)))) (aP (ae (o2 aU (vr 0) (cn (.int 0))) (ae (sl (o2 aU (vr 0) (cn (.int 1))) pN (pS (cn (.int 1)))) aj)))))))
def dw:List T->Rs T:=val 0 1 fY
abbrev evF:Y1:=cI (o2 aV (vr 1) (d6 (iR (ae (cl cz (ae (o2 aU (vr 3) (cn (.int 2))) aj)) aj)) [ZB,ZA 2] (gN 0) bT (aP (ae (vr 1) (ae (vr 0) aj))))) (gN 1)
def lb:Y1:=
 (aD (cI (dz aj) (gN 1)) (aD (d7 (iE (ae (vr 0) aj)) (gT 2 (iY (gN 2) (iY (gN 3) u9))) evF) (aW (vr 1))))
def bf:List T->Rs T:=val 1 4 lb
def jq:Y1:=
 (aD (cI (cl e9 (ae (d6 (iS (sl (o2 aU (vr 0) (cn (.int 0))) pN (pS (cn (.int 2))))) [ZB] (gN 0) bT (o2 aV (sl (vr 0) pN (pS (cn (.int 2)))) (aP (ae (sl (o2 aU (vr 0) (cn (.int 2))) pN (pS (cn (.int 2)))) aj)))) aj)) (gN 1)) (aD (cI (cl bf (ae (vr 1) aj)) (gN 2)) (aW (aP (ae (vr 1) (ae (cl e9 (ae (d6 (iS (o2 aU (vr 0) (cn (.int 1)))) [ZB,ZA 2] (gN 0) (qP (tb (o2 sh (o2 aU (vr 0) (cn (.int 0))) (vr 1))) (tb (o2 sh (o2 aU (vr 0) (cn (.int 1))) (vr 1)))) (vr 0)) aj)) aj))))))
def gG:List T->Rs T:=val 1 3 jq
abbrev lkF:Y1:=(aD (cI (o2 fM (o2 aU (vr 5) (vr 6)) (o2 aU (vr 5) (o2 fM (vr 6) (cn (.int 1))))) (gN 7)) (aD (iU 1 (aP (ae (aP (ae (vr 2) (ae (o2 fM (vr 6) (cn (.int 1))) aj))) (ae (aP (ae (vr 2) (ae (vr 6) aj))) (ae (o2 cu (vr 4) (vr 7)) aj))))) (iU 1 (aP (ae (aP (ae (vr 2) (ae (vr 6) aj))) (ae (aP (ae (vr 2) (ae (o2 fM (vr 6) (cn (.int 1))) aj))) (ae (o2 fM (cn (.int 0)) (o2 cu (vr 3) (vr 7))) aj)))))))
abbrev llF:Y1:=(aD (iU 1 (aP (ae (vr 9) (ae (vr 8) (ae (o2 fM (cn (.int 0)) (vr 10)) aj))))) (gE (tb (o2 fS (vr 11) (cn .non))) (iU 1 (aP (ae (vr 8) (ae (vr 9) (ae (vr 11) aj))))) sN))
def iK:Y1:=
 (aD (jy 1 aj) (aD (d7 (iE (ae (o2 aU (vr 0) (cn (.int 0))) aj)) (gT 2 (iY (gN 2) (iY (gT 3 (iY (gN 3) (iY (gN 4) (iY (gN 5) u9)))) u9))) (d7 (iR (ae (cn (.int 1)) (ae (cl cz (ae (vr 5) aj)) aj))) (gN 6) lkF)) (aD (d7 (iS (o2 aU (vr 0) (cn (.int 1)))) (gT 4 (iY (gN 8) (iY (gN 9) (iY (gN 10) (iY (gN 11) u9))))) llF) (nX 1 (aW (vr 1))))))
def bV:List T->Rs T:=val 1 12 iK
abbrev KS:Y1:=(gE (qP (tb (o2 fS (ln 2 (o2 bP (o2 bP (vr 2) (vr 3)) (vr 6))) (cn .non))) (tb (o2 fS (ln 2 (o2 bP (o2 bP (vr 2) (vr 6)) (vr 4))) (cn .non)))) (aD (cI (o2 aV (ln 2 (o2 bP (o2 bP (vr 2) (vr 3)) (vr 6))) (ln 2 (o2 bP (o2 bP (vr 2) (vr 6)) (vr 4)))) (gN 7)) (gE (vX (tb (o2 ji (ln 2 (o2 bP (o2 bP (vr 2) (vr 3)) (vr 4))) (cn .non))) (tb (o2 wz (vr 7) (ln 2 (o2 bP (o2 bP (vr 2) (vr 3)) (vr 4)))))) (jx 2 (vr 3) (vr 4) (vr 7)) sN)) sN)
def jo:Y1:=
 (aD (pw 2 0) (aD (d7 (iS (vr 0)) (gN 3) (jx 2 (vr 3) (vr 3) (cn (.int 0)))) (aD (d7 (iS (vr 1)) (gT 3 (iY (gN 3) (iY (gN 4) (iY (gN 5) u9)))) (gE (vX (tb (o2 ji (ln 2 (o2 bP (o2 bP (vr 2) (vr 3)) (vr 4))) (cn .non))) (tb (o2 wz (vr 5) (ln 2 (o2 bP (o2 bP (vr 2) (vr 3)) (vr 4)))))) (jx 2 (vr 3) (vr 4) (vr 5)) sN)) (aD (d7 (iS (vr 0)) (gN 6) (d7 (iS (vr 0)) (gN 3) (d7 (iS (vr 0)) (gN 4) KS))) (nX 2 (aW (DT (tb (o2 oh (d6 (iS (vr 0)) [ZB,ZA 2] (gN 0) (tb (o2 wz (o2 bP (o2 bP (vr 1) (vr 0)) (vr 0)) (cn (.int 0)))) (vr 0)) (dz aj))) (vr 2) (cn .non))))))))
def bO:List T->Rs T:=val 2 8 jo
def kg:Y1:=
 (aD (gE (tb (o2 oh (vr 0) (dz aj))) (aW (o2 cu (cn (.int 7)) (vr 1))) sN) (aW (o2 aV (o2 aU (vr 0) (o2 l5 (vr 1) (cl cz (ae (vr 0) aj)))) (o2 cu (cn (.int 6553)) (o2 mm (vr 1) (cl cz (ae (vr 0) aj)))))))
def gq:List T->Rs T:=val 2 2 kg
def jr:Y1:=
 (aD (cI (o2 l5 (o2 aV (o2 cu (o2 l5 (cl gq (ae (vr 0) (ae (vr 1) aj))) (cn (.int 2147483563))) (cn (.int 69069))) (o2 cu (cn (.int 104723)) (o2 aV (vr 1) (cn (.int 1))))) (cn (.int 2147483563))) (gN 3)) (aD (cI (o2 l5 (o2 aV (o2 cu (vr 3) (vr 3)) (o2 mm (vr 3) (cn (.int 3)))) (cn (.int 2147483399))) (gN 3)) (aW (o2 l5 (o2 mm (o2 l5 (o2 aV (o2 cu (vr 3) (vr 3)) (o2 mm (vr 3) (cn (.int 7)))) (cn (.int 2147483647))) (cn (.int 11))) (vr 2)))))
def aJ:List T->Rs T:=val 3 4 jr
def eV:Y1:=
 (aD (cI (cl bf (ae (vr 2) aj)) (gN 3)) (aD (gE (tb (o2 wz (cl cz (ae (vr 3) aj)) (cn (.int 2)))) (aW (cn .non)) sN) (aD (cI (cl aJ (ae (vr 0) (ae (vr 1) (ae (cl cz (ae (vr 3) aj)) aj)))) (gN 4)) (aD (cI (o2 l5 (o2 aV (o2 aV (vr 4) (cn (.int 1))) (cl aJ (ae (vr 0) (ae (o2 aV (vr 1) (cn (.int 1))) (ae (o2 fM (cl cz (ae (vr 3) aj)) (cn (.int 1))) aj))))) (cl cz (ae (vr 3) aj))) (gN 5)) (aD (cI (cl aJ (ae (vr 0) (ae (o2 aV (vr 1) (cn (.int 2))) (ae (cn (.int 8)) aj)))) (gN 6)) (aD (cI (DT (tb (o2 oh (cl aJ (ae (vr 0) (ae (o2 aV (vr 1) (cn (.int 3))) (ae (cn (.int 3)) aj)))) (cn (.int 0)))) (cn .non) (o2 aV (vr 6) (cl aJ (ae (vr 0) (ae (o2 aV (vr 1) (cn (.int 4))) (ae (cn (.int 9)) aj)))))) (gN 7)) (aW (aP (ae (o2 aU (vr 3) (vr 4)) (ae (o2 aU (vr 3) (vr 5)) (ae (vr 6) (ae (vr 7) aj))))))))))))
def dI:List T->Rs T:=val 3 8 eV
abbrev clF:Y1:=cI (o2 aV (vr 3) (aP (ae (o2 aV (o2 aV (o2 aU (vr 3) (o1 kQ (cn (.int 1)))) (cn (.int 1))) (cl aJ (ae (vr 0) (ae (o2 aV (o2 aV (vr 1) (cn (.int 3))) (vr 4)) (ae (cn (.int 5)) aj))))) aj))) (gN 3)
def jt:Y1:=
 (aD (cI (o2 aV (cn (.int 1)) (cl aJ (ae (vr 0) (ae (vr 1) (ae (cn (.int 3)) aj))))) (gN 2)) (aD (cI (aP (ae (cl aJ (ae (vr 0) (ae (o2 aV (vr 1) (cn (.int 2))) (ae (cn (.int 6)) aj)))) aj)) (gN 3)) (aD (d7 (iR (ae (cl aJ (ae (vr 0) (ae (o2 aV (vr 1) (cn (.int 1))) (ae (cn (.int 3)) aj)))) aj)) (gN 4) clF) (aW (aP (ae (vr 2) (ae (o2 aV (vr 2) (cl aJ (ae (vr 0) (ae (o2 aV (vr 1) (cn (.int 6))) (ae (cn (.int 3)) aj))))) (ae (vr 3) aj))))))))
def dh:List T->Rs T:=val 2 5 jt
abbrev leF:Y1:=aD (cI (cl dI (ae (vr 0) (ae (o2 aV (o2 aV (vr 1) (cn (.int 31))) (o2 cu (cn (.int 6)) (vr 5))) (ae (vr 3) aj)))) (gN 6)) (cI (o2 aV (vr 4) (o2 cu (dz (ae (vr 6) aj)) (cl wM (ae (o2 fS (vr 6) (cn .non)) aj)))) (gN 4))
def iJ:Y1:=
 (aD (cI (cl e9 (ae (d6 (iR (ae (o2 aV (cn (.int 1)) (cl aJ (ae (vr 0) (ae (vr 1) (ae (cn (.int 3)) aj))))) aj)) [ZB,ZA 0,ZA 1] (gN 0) bT (cl dh (ae (vr 1) (ae (o2 aV (o2 aV (vr 2) (cn (.int 1))) (o2 cu (cn (.int 8)) (vr 0))) aj)))) aj)) (gN 3)) (aD (cI (dz aj) (gN 4)) (aD (d7 (iR (ae (cl aJ (ae (vr 0) (ae (o2 aV (vr 1) (cn (.int 30))) (ae (o2 aV (vr 2) (cn (.int 1))) aj)))) aj)) (gN 5) leF) (aW (aP (ae (vr 3) (ae (cl e9 (ae (vr 4) aj)) aj)))))))
def f9:List T->Rs T:=val 3 7 iJ
def xw:Y1:=
 (aD (cI (dz (ae (dz aj) aj)) (gN 1)) (aD (d7 (iR (ae (vr 0) aj)) (gN 2) (cI (o2 aV (vr 1) (d6 (iS (vr 1)) [ZB,ZA 2] (gN 0) bT (o2 aV (vr 0) (dz (ae (vr 1) aj))))) (gN 1))) (aW (vr 1))))
def gp:List T->Rs T:=val 1 3 xw
def lG:Y1:=
 (aD (cI (aP (ae (o2 aU (vr 0) (cn (.int 0))) (ae (cl e9 (ae (d6 (iS (vr 1)) [ZB,ZA 0] (gN 0) bT (o2 aU (o2 aU (vr 1) (cn (.int 1))) (vr 0))) aj)) aj))) (gN 2)) (aW (o2 fS (cl bO (ae (cl bf (ae (o2 aU (vr 0) (cn (.int 0))) aj)) (ae (cl bV (ae (vr 2) aj)) aj))) (cn .non))))
def gY:List T->Rs T:=val 2 3 lG
def gA:Y1:=
 (aD (cI (cl bf (ae (o2 aU (vr 0) (cn (.int 0))) aj)) (gN 1)) (aD (cI (cl bO (ae (vr 1) (ae (cl bV (ae (vr 0) aj)) aj))) (gN 2)) (aD (cI (dz aj) (gN 3)) (aD (d7 (iR (ae (cl cz (ae (o2 aU (vr 0) (cn (.int 1))) aj)) aj)) (gN 4) (aD (cI (aP (ae (o2 aU (vr 0) (cn (.int 0))) (ae (o2 aV (sl (o2 aU (vr 0) (cn (.int 1))) pN (pS (vr 4))) (sl (o2 aU (vr 0) (cn (.int 1))) (pS (o2 aV (vr 4) (cn (.int 1)))) pN)) aj))) (gN 5)) (cI (o2 aV (vr 3) (o2 cu (dz (ae (vr 4) aj)) (cl wM (ae (o2 Bf (cl bO (ae (vr 1) (ae (cl bV (ae (vr 5) aj)) aj))) (vr 2)) aj)))) (gN 3)))) (aW (vr 3))))))
def de:List T->Rs T:=val 1 6 gA
def iI:Y1:=
 (aD (cI (cl gG (ae (cl f9 (ae (vr 0) (ae (cn (.int 0)) (ae (cn (.int 6)) aj)))) aj)) (gN 1)) (aD (cI (aP (ae (o2 aU (vr 1) (cn (.int 0))) (ae (sl (o2 aU (vr 1) (cn (.int 1))) pN (pS (cn (.int 4)))) aj))) (gN 1)) (aD (cI (cl bf (ae (o2 aU (vr 1) (cn (.int 0))) aj)) (gN 2)) (aD (cI (cl bV (ae (vr 1) aj)) (gN 3)) (aD (cI (cl bO (ae (vr 2) (ae (vr 3) aj))) (gN 4)) (aD (cI (cl cz (ae (o2 aU (vr 1) (cn (.int 1))) aj)) (gN 5)) (aD (cI (d6 (iS (cl gp (ae (vr 5) aj))) [ZB,ZA 1] (gN 0) (tb (cl gY (ae (vr 1) (ae (vr 0) aj)))) (vr 0)) (gN 6)) (aD (cI (cl Dg (ae (d6 (iS (vr 6)) [ZB] (gN 0) bT (cl cz (ae (vr 0) aj))) aj)) (gN 7)) (aD (gE (tb (o2 qf (cl aY (ae (cn (.int 2)) (ae (vr 1) (ae (cn .non) aj)))) (cl wy (ae (d6 (iS (vr 6)) [ZB,ZA 7] (gN 0) (tb (o2 oh (cl cz (ae (vr 0) aj)) (vr 1))) (vr 0)) aj)))) (aW (cn (.bl ZD))) sN) (aD (cI (d6 (iR (ae (vr 5) aj)) [ZB,ZA 5,ZA 6] (gN 0) (tb (o2 sh (d6 (iR (ae (vr 1) aj)) [ZB,ZA 0] (gN 0) (tb (o2 qf (vr 0) (vr 1))) (vr 0)) (vr 2))) (vr 0)) (gN 8)) (aD (gE (tb (o2 qf (cl aY (ae (cn (.int 3)) (ae (vr 1) (ae (cn .non) aj)))) (DT (tb (o2 ji (vr 4) (cn .non))) (vr 8) (dz aj)))) (aW (cn (.bl ZD))) sN) (aD (cI (o2 aU (dz (ae (o1 kQ (cn (.int 1))) (ae (cl cz (ae (vr 3) aj)) (ae (cn (.bl ZC)) (ae (cn .non) (ae (cn (.str "0")) aj)))))) (cl aJ (ae (vr 0) (ae (cn (.int 80)) (ae (cn (.int 5)) aj))))) (gN 9)) (aD (gE (tb (o2 qf (cl aY (ae (cn (.int 4)) (ae (vr 1) (ae (vr 9) aj)))) (aP (ae (cn (.str "refused")) (ae (cn (.int 2)) aj))))) (aW (cn (.bl ZD))) sN) (aD (gE (tb (o2 qf (d6 (iR (ae (cn (.int 5)) aj)) [ZB,ZA 1,ZA 9] (gN 0) bT (cl aY (ae (vr 0) (ae (sl (vr 1) pN (pS (cn (.int 1)))) (ae (vr 2) aj))))) (o2 cu (dz (ae (aP (ae (cn (.str "refused")) (ae (cn (.int 0)) aj))) aj)) (cn (.int 5))))) (aW (cn (.bl ZD))) sN) (aD (gE (tb (o2 ji (vr 4) (cn .non))) (aD (cI (o2 aV (d6 (iS (aP (ae (cn (.int 0)) (ae (cn (.int 1)) aj)))) [ZB,ZA 1] (gN 0) bT (cl aY (ae (vr 0) (ae (vr 1) (ae (cn (.int 0)) aj))))) (o2 cu (dz (ae (cl aY (ae (cn (.int 4)) (ae (vr 1) (ae (cn (.int 0)) aj)))) aj)) (cl wM (ae (o2 qf (vr 3) (dz aj)) aj)))) (gN 10)) (aW (o2 oh (vr 10) (o2 cu (dz (ae (aP (ae (cn (.str "refused")) (ae (cn (.int 3)) aj))) aj)) (cl cz (ae (vr 10) aj)))))) sN) (aD (d7 (iR (ae (cl cz (ae (vr 3) aj)) aj)) (gN 11) (gE (tb (o2 qf (cl aY (ae (cn (.int 4)) (ae (vr 1) (ae (vr 11) aj)))) (o2 Bf (cl bO (ae (vr 2) (ae (o2 aV (sl (vr 3) pN (pS (vr 11))) (sl (vr 3) (pS (o2 aV (vr 11) (cn (.int 1)))) pN)) aj))) (vr 4)))) (aW (cn (.bl ZD))) sN)) (aD (cI (vr 1) (gN 12)) (aD (d7 (iS (o1 Fw (lR (ae (vr 5) aj)))) (gN 11) (gE (tb (o2 sh (vr 11) (cl de (ae (vr 12) aj)))) (cI (aP (ae (o2 aU (vr 12) (cn (.int 0))) (ae (o2 aV (sl (o2 aU (vr 12) (cn (.int 1))) pN (pS (vr 11))) (sl (o2 aU (vr 12) (cn (.int 1))) (pS (o2 aV (vr 11) (cn (.int 1)))) pN)) aj))) (gN 12)) sN)) (aW (dO (o2 oh (cl aY (ae (cn (.int 0)) (ae (vr 1) (ae (cn .non) aj)))) (cl de (ae (vr 1) aj))) (o2 oh (cl aY (ae (cn (.int 1)) (ae (vr 1) (ae (cn .non) aj)))) (vr 12))))))))))))))))))))))
def fZ:List T->Rs T:=val 1 13 iI
def MM:Y1:=
 (aW (dO (c0 dw) (cl fZ (ae (vr 0) aj))))
def m_law:List T->Rs T:=val 1 1 MM
section
variable (P:OI)(w:Py)(base:ZH)
abbrev xO:ZF:=top 17
theorem yf(F:fV K mg "is_long" xO ["thing","least","most"])(B:Bl mg):Cl P w K mg base 1 "is_long" 3 aR:=
 aN ["thing","least","most"] F λd f c A o s H E hr x=>(aq (ax (dC (BO B.b_isinstance B.b_tuple bW (af 0)) (dJ (ve vV vV (af 1) (c9 cJ B.b_len Qm (ah (af 0) ag)) (af 2))))))
abbrev vp:ZF:=top 15
theorem vY(F:fV K mg "is_whole" vp ["thing"])(B:Bl mg):Cl P w K mg base 1 "is_whole" 1 jc:=
 aN ["thing"] F λd f c A o s H E hr x=>(aq (ax (dC (BO B.b_isinstance B.b_int ix (af 0)) (dJ (xF (BO B.b_isinstance B.b_bool uT (af 0)))))))
abbrev tu:ZF:=top 16
theorem uc(F:fV K mg "is_within" tu ["thing","least","most"])(aaK:Cl P w K mg base 1 "is_whole" 1 jc):Cl P w K mg base 2 "is_within" 3 bq:=
 aN ["thing","least","most"] F λd f c A o s H E hr x=>(aq (ax (dC (aK aaK hr (ah (af 0) ag)) (dJ (ve vV vV (af 1) (af 0) (af 2))))))
abbrev xN:ZF:=top 20
theorem ye(F:fV K mg "is_pace" xN ["slow","fast"])(aa1:Cl P w K mg base 2 "is_within" 3 bq)(C:Cs mg):Cl P w K mg base 3 "is_pace" 2 kC:=
 aN ["slow","fast"] F λd f c A o s H E hr x=>(aq (ax (dC (aK aa1 hr (ah (af 0) (ah ai (ah (vd C.SLOWEST) ag)))) (dJ (aK aa1 hr (ah (af 1) (ah (af 0) (ah (vd C.SLOWEST) ag))))))))
abbrev vo:ZF:=top 18
abbrev wj:List Str:=["numbers"]
theorem C5(F:fV K mg "rises" vo ["numbers"])(B:Bl mg):Cl P w K mg base 1 "rises" 1 kB:=
 aN wj F λd f c A o s H E hr x=>(aq (ax (c9 (uQ rfl) B.b_all boot_all (ah (cG ["k","numbers"] wj vo (cg B.b_range (ah (au fw (c9 cJ B.b_len Qm (ah (af 0) ag)) ai) ag)) (λd _ _ _ _ _=>⟨(ak 0 d),bY,(dB pH (aF (af 1) (af 0)) (aF (af 1) (au aL (af 0) ai)))⟩)) ag))))
abbrev jw:ZF:=top 19
abbrev jz:List Str:=["thing"]
theorem nZ(F:fV K mg "are_readings" jw ["thing"])(aa3:Cl P w K mg base 1 "is_long" 3 aR)(aaS:Cl P w K mg base 1 "rises" 1 kB)(aa1:Cl P w K mg base 2 "is_within" 3 bq)(B:Bl mg)(C:Cs mg):Cl P w K mg base 3 "are_readings" 1 cv:=
 aN jz F λd f c A o s H E hr x=>(ao (cb (eX (cY (aK aa3 hr (ah (af 0) (ah ai (ah (vd C.MOST_READINGS) ag)))))) (aq (ax iN)) bz) (aq (ax (dC (c9 (uQ rfl) B.b_all boot_all (ah (cG ["part"] jz jw (bc (af 0)) (λd _ _ _ _ _=>⟨(ak 0 d),bY,(aK aa1 hr (ah (af 0) (ah ai (ah (vd C.LAST_READING) ag))))⟩)) ag)) (dJ (aK aaS hr (ah (af 0) ag)))))))
abbrev vz:ZF:=top 21
theorem v7(F:fV K mg "is_clock" vz ["thing"])(aa3:Cl P w K mg base 1 "is_long" 3 aR)(aaP:Cl P w K mg base 3 "is_pace" 2 kC)(aaq:Cl P w K mg base 3 "are_readings" 1 cv):Cl P w K mg base 4 "is_clock" 1 dS:=
 aN ["thing"] F λd f c A o s H E hr x=>(aq (ax (dC (aK aa3 hr (ah (af 0) (ah ai (ah ai ag)))) (dC (aK aaP hr (ah (aF (af 0) ai) (ah (aF (af 0) ai) ag))) (dJ (aK aaq hr (ah (aF (af 0) ai) ag)))))))
abbrev kY:ZF:=top 22
abbrev k6:List Str:=["thing"]
theorem rj(F:fV K mg "are_clocks" kY ["thing"])(aa3:Cl P w K mg base 1 "is_long" 3 aR)(aaL:Cl P w K mg base 4 "is_clock" 1 dS)(B:Bl mg)(C:Cs mg):Cl P w K mg base 5 "are_clocks" 1 eh:=
 aN k6 F λd f c A o s H E hr x=>(aq (ax (dC (aK aa3 hr (ah (af 0) (ah ai (ah (vd C.MOST_CLOCKS) ag)))) (dJ (c9 (uQ rfl) B.b_all boot_all (ah (cG ["part"] k6 kY (bc (af 0)) (λd _ _ _ _ _=>⟨(ak 0 d),bY,(aK aaL hr (ah (af 0) ag))⟩)) ag))))))
abbrev vq:ZF:=top 23
theorem vZ(F:fV K mg "is_event" vq ["clocks","thing"])(aa1:Cl P w K mg base 2 "is_within" 3 bq)(aa3:Cl P w K mg base 1 "is_long" 3 aR)(B:Bl mg):Cl P w K mg base 3 "is_event" 2 gW:=
 aN ["clocks","thing"] F λd f c A o s H E hr x=>(ao (cb (nv (mC (eX (cY (aK aa3 hr (ah (af 1) (ah ai (ah ai ag)))))) (kh (eX (cY (aK aa1 hr (ah (aF (af 1) ai) (ah ai (ah (au fw (c9 cJ B.b_len Qm (ah (af 0) ag)) ai) ag))))))))) (aq (ax iN)) bz) (aq (ax (aK aa1 hr (ah (aF (af 1) ai) (ah ai (ah (au fw (c9 cJ B.b_len Qm (ah (aF (aF (af 0) (aF (af 1) ai)) ai) ag)) ai) ag)))))))
abbrev vt:ZF:=top 24
theorem v5(F:fV K mg "is_delay" vt ["least","most"])(aa1:Cl P w K mg base 2 "is_within" 3 bq)(C:Cs mg):Cl P w K mg base 3 "is_delay" 2 jd:=
 aN ["least","most"] F λd f c A o s H E hr x=>(aq (ax (dC (aK aa1 hr (ah (af 0) (ah ai (ah (vd C.LONGEST) ag)))) (dJ (Hf (dB nJ (af 1) bQ) (dJ (aK aa1 hr (ah (af 1) (ah (af 0) (ah (vd C.LONGEST) ag))))))))))
abbrev tD:ZF:=top 25
theorem ue(F:fV K mg "is_letter" tD ["clocks","thing"])(aax:Cl P w K mg base 3 "is_event" 2 gW)(aa3:Cl P w K mg base 1 "is_long" 3 aR)(aaM:Cl P w K mg base 3 "is_delay" 2 jd):Cl P w K mg base 4 "is_letter" 2 gn:=
 aN ["clocks","thing"] F λd f c A o s H E hr x=>(ao (cb (nv (mC (eX (cY (aK aa3 hr (ah (af 1) (ah ai (ah ai ag)))))) (kh (eX (cY (aK aaM hr (ah (aF (af 1) ai) (ah (aF (af 1) ai) ag)))))))) (aq (ax iN)) bz) (aq (ax (dC (aK aax hr (ah (af 0) (ah (aF (af 1) ai) ag))) (dC (aK aax hr (ah (af 0) (ah (aF (af 1) ai) ag))) (dJ (dB (kZ (gZ hr)) (aF (af 1) ai) (aF (af 1) ai))))))))
abbrev jG:ZF:=top 26
abbrev jL:List Str:=["clocks","thing"]
theorem pM(F:fV K mg "are_letters" jG ["clocks","thing"])(aa3:Cl P w K mg base 1 "is_long" 3 aR)(aaE:Cl P w K mg base 4 "is_letter" 2 gn)(B:Bl mg)(C:Cs mg):Cl P w K mg base 5 "are_letters" 2 dH:=
 aN jL F λd f c A o s H E hr x=>(aq (ax (dC (aK aa3 hr (ah (af 1) (ah ai (ah (vd C.MOST_LETTERS) ag)))) (dJ (c9 (uQ rfl) B.b_all boot_all (ah (cG ["part","clocks"] jL jG (bc (af 1)) (λd _ _ _ _ _=>⟨(ak 0 d),bY,(aK aaE hr (ah (af 1) (ah (af 0) ag)))⟩)) ag))))))
abbrev tw:ZF:=top 27
theorem ud(F:fV K mg "is_record" tw ["thing"])(aa3:Cl P w K mg base 1 "is_long" 3 aR)(aaz:Cl P w K mg base 5 "are_clocks" 1 eh)(aar:Cl P w K mg base 5 "are_letters" 2 dH):Cl P w K mg base 6 "is_record" 1 ik:=
 aN ["thing"] F λd f c A o s H E hr x=>(aq (ax (dC (aK aa3 hr (ah (af 0) (ah ai (ah ai ag)))) (dC (aK aaz hr (ah (aF (af 0) ai) ag)) (dJ (aK aar hr (ah (aF (af 0) ai) (ah (aF (af 0) ai) ag))))))))
abbrev o8:ZF:=top 28
theorem pJ(F:fV K mg "need_record" o8 ["thing"])(aaF:Cl P w K mg base 6 "is_record" 1 ik)(S:Xs K mg ac bi bn bv ca ci cr):Cl P w K mg base 7 "need_record" 1 cm:=
 aN ["thing"] F λd f c A o s H E hr x=>(aq (cb (eX (cY (aK aaF hr (ah (af 0) ag)))) (aq (mE S.o_NoRecord S.m_NoRecord)) bz))
abbrev lg:ZF:=top 32
theorem lr(F:fV K mg "bounds_of_clock" lg ["number","clock"])(B:Bl mg):Cl P w K mg base 1 "bounds_of_clock" 2 dg:=
 aN ["number","clock","readings","told","k","first","second","steps"] F λd f c A o s H E hr x=>(by(apply ao;exact(aA (aF (af 1) ai) (ak 2 d));apply ao;exact(iM 3 d ag);apply ao;exact(bX rfl (cg B.b_range (ah (au fw (c9 cJ B.b_len Qm (ah (af 2) ag)) ai) ag)) (ak 4 d) (by(apply ao;exact(aA (aO (ah (af 0) (ah (af 4) ag))) (ak 5 d));apply ao;exact(aA (aO (ah (af 0) (ah (au aL (af 4) ai) ag))) (ak 6 d));apply ao;exact(aA (au fw (aF (af 2) (au aL (af 4) ai)) (aF (af 2) (af 4))) (ak 7 d));apply ao;exact(hY 3 (aO (ah (af 5) (ah (af 6) (ah (au df (af 7) (aF (af 1) ai)) ag)))));exact aq (hY 3 (aO (ah (af 6) (ah (af 5) (ah (au df (mF (af 7)) (aF (af 1) ai)) ag))))))));exact aq (i6 3 (ax (af 3)))))
abbrev kN:ZF:=top 33
theorem kP(F:fV K mg "bounds_of_letter" kN ["letter"]):Cl P w K mg base 1 "bounds_of_letter" 1 cW:=
 aN ["letter","told"] F λd f c A o s H E hr x=>(by(apply ao;exact(iM 1 d (ah (aO (ah (aF (af 0) ai) (ah (aF (af 0) ai) (ah (mF (aF (af 0) ai)) ag)))) ag));apply ao;exact(cb (ba gS (aF (af 0) ai) bQ) (aq (hY 1 (aO (ah (aF (af 0) ai) (ah (aF (af 0) ai) (ah (aF (af 0) ai) ag)))))) bz);exact aq (i6 1 (ax (af 1)))))
abbrev AA:ZF:=top 34
theorem AO(F:fV K mg "bounds" AA ["record"])(aab:Cl P w K mg base 7 "need_record" 1 cm)(aak:Cl P w K mg base 1 "bounds_of_clock" 2 dg)(aai:Cl P w K mg base 1 "bounds_of_letter" 1 cW)(B:Bl mg):Cl P w K mg base 8 "bounds" 1 eJ:=
 aN ["record","told","number","clock","letter"] F λd f c A o s H E hr x=>(by(apply ao;exact(gf (aK aab hr (ah (af 0) ag)));apply ao;exact(iM 1 d ag);apply ao;exact(bX rfl (jE B.b_enumerate (ah (aF (af 0) ai) ag)) (hZ rfl (bu (ak 2 d) (bu (ak 3 d) gh))) (aq (sT 1 (aK aak hr (ah (af 2) (ah (af 3) ag))))));apply ao;exact(bX rfl (bc (aF (af 0) ai)) (ak 4 d) (aq (sT 1 (aK aai hr (ah (af 4) ag)))));exact aq (i6 1 (ax (af 1)))))
abbrev o9:ZF:=top 29
theorem pK(F:fV K mg "need_number" o9 ["many","thing"])(aa1:Cl P w K mg base 2 "is_within" 3 bq)(S:Xs K mg ac bi bn bv ca ci cr):Cl P w K mg base 3 "need_number" 2 eG:=
 aN ["many","thing"] F λd f c A o s H E hr x=>(aq (cb (eX (cY (aK aa1 hr (ah (af 1) (ah ai (ah (au fw (af 0) ai) ag)))))) (aq (mE S.o_NoNumber S.m_NoNumber)) bz))
abbrev rM:ZF:=top 30
abbrev rW:List Str:=["record","told","number","clock"]
theorem AN(F:fV K mg "events" rM ["record"])(aab:Cl P w K mg base 7 "need_record" 1 cm)(B:Bl mg):Cl P w K mg base 8 "events" 1 eI:=
 aN rW F λd f c A o s H E hr x=>(by(apply ao;exact(gf (aK aab hr (ah (af 0) ag)));apply ao;exact(iM 1 d ag);apply ao;exact(bX rfl (jE B.b_enumerate (ah (aF (af 0) ai) ag)) (hZ rfl (bu (ak 2 d) (bu (ak 3 d) gh))) (aq (sT 1 (cG ["k","number"] rW rM (cg B.b_range (ah (c9 cJ B.b_len Qm (ah (aF (af 3) ai) ag)) ag)) (λd _ _ _ _ _=>⟨(ak 0 d),bY,(aO (ah (af 1) (ah (af 0) ag)))⟩)))));exact aq (i6 1 (ax (af 1)))))
abbrev tE:ZF:=top 37
theorem uf(F:fV K mg "is_better" tE ["best","bound","ahead"]):Cl P w K mg base 1 "is_better" 3 dU:=
 aN ["best","bound","ahead","known"] F λd f c A o s H E hr x=>(ao (aA (za (mi hr) (af 0) (aF (af 1) ai)) (ak 3 d)) (aq (ax (Hf (dB nJ (af 3) bQ) (dJ (dB pH (au aL (aF (af 2) ai) (aF (af 1) ai)) (aF (af 3) ai)))))))
abbrev mK:ZF:=top 36
noncomputable abbrev mY:List Str:=["limits","starts","best","moved","number","bound","ahead","walk","passed"]
theorem AM(F:fV K mg "settle" mK ["limits","starts"])(aaG:Cl P w K mg base 1 "is_better" 3 dU)(B:Bl mg):Cl P w K mg base 2 "settle" 2 fz:=
 aN mY F λd f c A o s H E hr x=>(by(apply ao;exact(BM 2 (hu8 hr) rfl B.b_dict d (cG ["event"] mY mK (bc (af 1)) (λd _ _ _ _ _=>⟨(ak 0 d),bY,(aO (ah (af 0) (ah (aO (ah ai (ah (cE ag) ag))) ag)))⟩)));apply ao;exact(aA iN (ak 3 d));apply ao;exact(rG FU (cY (af 3)) (ao (aA iN (ak 3 d)) (aq (bX rfl (jE B.b_enumerate (ah (af 0) ag)) (hZ rfl (bu (ak 4 d) (bu (ak 5 d) gh))) (by(apply ao;exact(aA (kU 2 (za (mi hr) (af 2) (aF (af 5) ai))) (ak 6 d));apply ao;exact(cb (nv (mC (ba nJ (af 6) bQ) (kh (eX (HY 2 (cY (aK aaG hr (ah (af 2) (ah (af 5) (ah (af 6) ag)))))))))) (aq HZ) bz);apply ao;exact(aA (au aL (aF (af 6) ai) (cE (ah (af 4) ag))) (ak 7 d));apply ao;exact(BN 8 (N':=["step","limits"]) (src:=[ZB,ZA 0]) rfl (LcScope.by (N:=mY) (names:=(az mK).names) rfl rfl rfl (by decide+kernel)) (bc (af 7)) (λ_ _ _ _ _=>⟨(ak 0 (show RP (["step","limits"]:List Str)by decide+kernel)),bY,(aF (aF (af 1) (af 0)) ai)⟩) d);apply ao;exact(cb (ba (vW (Bb hr)) (aF (af 5) ai) (af 8)) (aq (ax (aO (ah bQ (ah (cS (af 7) (cQ (Av (Bb hr) (af 8) (aF (af 5) ai))) cR) ag))))) bz);apply ao;exact(ET 2 (mi hr) (aF (af 5) ai) (aO (ah (au aL (aF (af 6) ai) (aF (af 5) ai)) (ah (af 7) ag))));exact aq (aA iN (ak 3 d))))))));exact aq (i6 2 (ax (aO (ah (af 2) (ah bQ ag)))))))
abbrev ig:ZF:=top 39
abbrev ij:List Str:=["record","limits","places","best"]
theorem lU(F:fV K mg "greatest_world" ig ["record","limits"])(aae:Cl P w K mg base 8 "events" 1 eI)(aaf:Cl P w K mg base 2 "settle" 2 fz)(B:Bl mg):Cl P w K mg base 9 "greatest_world" 2 d9:=
 aN ij F λd f c A o s H E hr x=>(by(apply ao;exact(aA (aK aae hr (ah (af 0) ag)) (ak 2 d));apply ao;exact(aA (aF (aK aaf hr (ah (af 1) (ah (af 2) ag))) ai) (ak 3 d));apply ao;exact(cb (ba nJ (af 3) bQ) (aq (ax bQ)) bz);exact aq (ax (ju fI B.b_tuple bW (ah (cG ["event","best"] ij ig (bc (af 2)) (λd _ _ _ _ _=>⟨(ak 0 d),bY,(aF (dm (mi hr) (af 1) (af 0)) ai)⟩)) ag)))))
abbrev B6:ZF:=top 40
theorem C3(F:fV K mg "world" B6 ["record"])(aal:Cl P w K mg base 9 "greatest_world" 2 d9)(aag:Cl P w K mg base 8 "bounds" 1 eJ):Cl P w K mg base 10 "world" 1 ku:=
 aN ["record"] F λd f c A o s H E hr x=>(aq (ax (aK aal hr (ah (af 0) (ah (aK aag hr (ah (af 0) ag)) ag)))))
abbrev tF:ZF:=top 41
theorem ug(F:fV K mg "has_world" tF ["record"])(aaT:Cl P w K mg base 10 "world" 1 ku):Cl P w K mg base 11 "has_world" 1 aM:=
 aN ["record"] F λd f c A o s H E hr x=>(aq (ax (dB gS (aK aaT hr (ah (af 0) ag)) bQ)))
abbrev qX:ZF:=top 42
theorem ri(F:fV K mg "need_world" qX ["record"])(aa4:Cl P w K mg base 11 "has_world" 1 aM)(S:Xs K mg ac bi bn bv ca ci cr):Cl P w K mg base 12 "need_world" 1 bH:=
 aN ["record"] F λd f c A o s H E hr x=>(aq (cb (eX (cY (aK aa4 hr (ah (af 0) ag)))) (aq (mE S.o_NoWorld S.m_NoWorld)) bz))
abbrev pd:ZF:=top 48
theorem pL(F:fV K mg "is_needless" pd ["record","number"])(aag:Cl P w K mg base 8 "bounds" 1 eJ)(aas:Cl P w K mg base 3 "need_number" 2 eG)(aa7:Cl P w K mg base 12 "need_world" 1 bH)(aaf:Cl P w K mg base 2 "settle" 2 fz)(B:Bl mg):Cl P w K mg base 13 "is_needless" 2 cp:=
 aN ["record","number","limits","bound","walks"] F λd f c A o s H E hr x=>(by(apply ao;exact(aA (aK aag hr (ah (af 0) ag)) (ak 2 d));apply ao;exact(gf (aK aas hr (ah (c9 cJ B.b_len Qm (ah (af 2) ag)) (ah (af 1) ag))));apply ao;exact(gf (aK aa7 hr (ah (af 0) ag)));apply ao;exact(aA (aF (af 2) (af 1)) (ak 3 d));apply ao;exact(aA (aF (aK aaf hr (ah (au aL (cS (af 2) cR (cQ (af 1))) (cS (af 2) (cQ (au aL (af 1) ai)) cR)) (ah (cE (ah (aF (af 3) ai) ag)) ag))) ai) (ak 4 d));exact aq (ax (dC (dB (C0 (mi hr)) (aF (af 3) ai) (af 4)) (dJ (dB vV (aF (dm (mi hr) (af 4) (aF (af 3) ai)) ai) (aF (af 3) ai)))))))
abbrev pe:ZF:=top 49
theorem pO(F:fV K mg "all_letters" pe ["record"])(B:Bl mg):Cl P w K mg base 1 "all_letters" 1 bL:=
 aN ["record"] F λd f c A o s H E hr x=>(aq (ax (rH rfl B.b_list B.b_range (ah (c9 cJ B.b_len Qm (ah (aF (af 0) ai) ag)) ag))))
abbrev qW:ZF:=top 44
theorem rh(F:fV K mg "walks_from" qW ["record","one"])(aaf:Cl P w K mg base 2 "settle" 2 fz)(aag:Cl P w K mg base 8 "bounds" 1 eJ):Cl P w K mg base 9 "walks_from" 2 fy:=
 aN ["record","one"] F λd f c A o s H E hr x=>(aq (ax (aF (aK aaf hr (ah (aK aag hr (ah (af 0) ag)) (ah (cE (ah (af 1) ag)) ag))) ai)))
abbrev xM:ZF:=top 45
theorem ya(F:fV K mg "most_of" xM ["walks","other"]):Cl P w K mg base 1 "most_of" 2 gI:=
 aN ["walks","other"] F λd f c A o s H E hr x=>(aq (ax (yZ (ba (C0 (mi hr)) (af 1) (af 0)) (aF (dm (mi hr) (af 0) (af 1)) ai) bQ)))
abbrev nC:ZF:=top 46
noncomputable abbrev nL:List Str:=["record","places","told","one","walks"]
theorem v9(F:fV K mg "all_most" nC ["record"])(aa7:Cl P w K mg base 12 "need_world" 1 bH)(aae:Cl P w K mg base 8 "events" 1 eI)(aaA:Cl P w K mg base 9 "walks_from" 2 fy)(aaQ:Cl P w K mg base 1 "most_of" 2 gI)(B:Bl mg):Cl P w K mg base 13 "all_most" 1 gX:=
 aN nL F λd f c A o s H E hr x=>(by(apply ao;exact(gf (aK aa7 hr (ah (af 0) ag)));apply ao;exact(aA (aK aae hr (ah (af 0) ag)) (ak 1 d));apply ao;exact(iM 2 d ag);apply ao;exact(bX rfl (bc (af 1)) (ak 3 d) (ao (aA (aK aaA hr (ah (af 0) (ah (af 3) ag))) (ak 4 d)) (aq (hY 2 (ju fI B.b_tuple bW (ah (cG ["other","walks"] nL nC (bc (af 1)) (λd _ _ _ _ _=>⟨(ak 0 d),bY,(aK aaQ hr (ah (af 1) (ah (af 0) ag)))⟩)) ag))))));exact aq (ax (kU 2 (ju fI B.b_tuple bW (ah (af 2) ag))))))
abbrev o7:ZF:=top 54
theorem pI(F:fV K mg "same_worlds" o7 ["one","other"])(aae:Cl P w K mg base 8 "events" 1 eI)(aay:Cl P w K mg base 13 "all_most" 1 gX)(aa4:Cl P w K mg base 11 "has_world" 1 aM):Cl P w K mg base 14 "same_worlds" 2 ck:=
 aN ["one","other"] F λd f c A o s H E hr x=>(by(apply ao;exact(cb (ba (kZ (gZ hr)) (aK aae hr (ah (af 0) ag)) (aK aae hr (ah (af 1) ag))) (aq (ax iN)) bz);apply ao;exact(cb (nv (mC (eX (cY (aK aa4 hr (ah (af 0) ag)))) (kh (eX (cY (aK aa4 hr (ah (af 1) ag))))))) (aq (ax (dC (xF (aK aa4 hr (ah (af 0) ag))) (dJ (xF (aK aa4 hr (ah (af 1) ag))))))) bz);exact aq (ax (dB (k4 (gZ hr)) (aK aay hr (ah (af 0) ag)) (aK aay hr (ah (af 1) ag))))))
abbrev lK:ZF:=top 50
abbrev lX:List Str:=["record","numbers"]
theorem ua(F:fV K mg "with_only" lK ["record","numbers"])(B:Bl mg):Cl P w K mg base 1 "with_only" 2 bR:=
 aN lX F λd f c A o s H E hr x=>(aq (ax (aO (ah (aF (af 0) ai) (ah (ju fI B.b_tuple bW (ah (cG ["number","record"] lX lK (bc (af 1)) (λd _ _ _ _ _=>⟨(ak 0 d),bY,(aF (aF (af 1) ai) (af 0))⟩)) ag)) ag)))))
abbrev oY:ZF:=top 51
abbrev p0:List Str:=["numbers","number"]
theorem x8(F:fV K mg "without" oY ["numbers","number"]):Cl P w K mg base 1 "without" 2 d8:=
 aN p0 F λd f c A o s H E hr x=>(aq (ax (cG ["other","number"] p0 oY (bc (af 0)) (λd _ _ _ _ _=>⟨(ak 0 d),(fq (ba (kZ (gZ hr)) (af 0) (af 1))),(af 0)⟩))))
abbrev gB:ZF:=top 52
abbrev gC:List Str:=["record","numbers"]
theorem kO(F:fV K mg "needless_letters" gB ["record"])(aa7:Cl P w K mg base 12 "need_world" 1 bH)(aa6:Cl P w K mg base 1 "all_letters" 1 bL)(aac:Cl P w K mg base 14 "same_worlds" 2 ck)(aa9:Cl P w K mg base 1 "with_only" 2 bR)(aad:Cl P w K mg base 1 "without" 2 d8):Cl P w K mg base 15 "needless_letters" 1 bA:=
 aN gC F λd f c A o s H E hr x=>(by(apply ao;exact(gf (aK aa7 hr (ah (af 0) ag)));apply ao;exact(aA (aK aa6 hr (ah (af 0) ag)) (ak 1 d));exact aq (ax (cG ["number","record","numbers"] gC gB (bc (af 1)) (λd _ _ _ _ _=>⟨(ak 0 d),(fq (cY (aK aac hr (ah (aK aa9 hr (ah (af 1) (ah (aK aad hr (ah (af 2) (ah (af 0) ag))) ag))) (ah (af 1) ag))))),(af 0)⟩)))))
abbrev mL:ZF:=top 53
theorem mT(F:fV K mg "least_letters" mL ["record"])(aa7:Cl P w K mg base 12 "need_world" 1 bH)(aa9:Cl P w K mg base 1 "with_only" 2 bR)(aac:Cl P w K mg base 14 "same_worlds" 2 ck)(aad:Cl P w K mg base 1 "without" 2 d8)(aa6:Cl P w K mg base 1 "all_letters" 1 bL)(B:Bl mg):Cl P w K mg base 15 "least_letters" 1 b9:=
 aN ["record","least","number","less"] F λd f c A o s H E hr x=>(by(apply ao;exact(gf (aK aa7 hr (ah (af 0) ag)));apply ao;exact(aA (af 0) (ak 1 d));apply ao;exact(bX rfl (xC B.b_range (ah (au fw (c9 cJ B.b_len Qm (ah (aF (af 0) ai) ag)) ai) (ah (mF ai) (ah (mF ai) ag)))) (ak 2 d) (ao (aA (aK aa9 hr (ah (af 1) (ah (aK aad hr (ah (aK aa6 hr (ah (af 1) ag)) (ah (af 2) ag))) ag))) (ak 3 d)) (aq (cb (cY (aK aac hr (ah (af 3) (ah (af 0) ag)))) (aq (aA (af 3) (ak 1 d))) bz))));exact aq (ax (af 1))))
abbrev oZ:ZF:=top 55
abbrev qc:List Str:=["numbers","told","number"]
theorem x9(F:fV K mg "sets_of" oZ ["numbers"]):Cl P w K mg base 1 "sets_of" 1 kx:=
 aN qc F λd f c A o s H E hr x=>(by(apply ao;exact(aA (cE (ah (cE ag) ag)) (ak 1 d));apply ao;exact(bX rfl (bc (af 0)) (ak 2 d) (aq (aA (au aL (af 1) (cG ["part","number"] qc oZ (bc (af 1)) (λd _ _ _ _ _=>⟨(ak 0 d),bY,(au aL (af 0) (cE (ah (af 1) ag)))⟩))) (ak 1 d))));exact aq (ax (af 1))))
abbrev lL:ZF:=top 56
abbrev ur:List Str:=["record","sets","place"]
theorem aan:dj ur ["record"] (az lL):=fsc
theorem ub(F:fV K mg "most_kept" lL ["record"])(aab:Cl P w K mg base 7 "need_record" 1 cm)(aaR:Cl P w K mg base 1 "sets_of" 1 kx)(aa4:Cl P w K mg base 11 "has_world" 1 aM)(aa6:Cl P w K mg base 1 "all_letters" 1 bL)(aa9:Cl P w K mg base 1 "with_only" 2 bR)(B:Bl mg)(LX:KG K mg base):Cl P w K mg base 12 "most_kept" 1 dR:=
 Ku F aan rfl λf c hx A o s H E hr x=>(by(apply ao;exact(gf (aK aab hr (ah (af 0) ag)));apply ao;exact(aA (EV LX hx hr B.b_sorted B.b_len (ah (aK aaR hr (ah (aK aa6 hr (ah (af 0) ag)) ag)) ag)) (ak 1 aan.nd));apply ao;exact(aA ai (ak 2 aan.nd));apply ao;exact(rG FU (eX (cY (aK aa4 hr (ah (aK aa9 hr (ah (af 0) (ah (aF (af 1) (af 2)) ag))) ag)))) (aq (EU 2 aan.nd ai)));exact aq (ax (aF (af 1) (af 2)))))
abbrev nB:ZF:=top 57
abbrev nK:List Str:=["record","numbers"]
theorem v8(F:fV K mg "culprits" nB ["record"])(aa4:Cl P w K mg base 11 "has_world" 1 aM)(aa6:Cl P w K mg base 1 "all_letters" 1 bL)(aa9:Cl P w K mg base 1 "with_only" 2 bR)(aad:Cl P w K mg base 1 "without" 2 d8):Cl P w K mg base 12 "culprits" 1 ff:=
 aN nK F λd f c A o s H E hr x=>(by(apply ao;exact(cb (cY (aK aa4 hr (ah (af 0) ag))) (aq (ax (cE ag))) bz);apply ao;exact(aA (aK aa6 hr (ah (af 0) ag)) (ak 1 d));exact aq (ax (cG ["number","record","numbers"] nK nB (bc (af 1)) (λd _ _ _ _ _=>⟨(ak 0 d),(fq (cY (aK aa4 hr (ah (aK aa9 hr (ah (af 1) (ah (aK aad hr (ah (af 2) (ah (af 0) ag))) ag))) ag)))),(af 0)⟩)))))
abbrev tG:ZF:=top 69
theorem uh(F:fV K mg "_law_told" tG ["_law_ask","_law_record_here","_law_number"])(aat:Cl P w K mg base 13 "is_needless" 2 cp)(aaj:Cl P w K mg base 15 "needless_letters" 1 bA)(aao:Cl P w K mg base 15 "least_letters" 1 b9)(aaH:Cl P w K mg base 12 "most_kept" 1 dR)(aaN:Cl P w K mg base 12 "culprits" 1 ff)(B:Bl mg)(S:Xs K mg ac bi bn bv ca ci cr){f_r:ZE}{fd_r:PX}(aap:Fn K mg "_law_refused" cH ["_law_e"] f_r fd_r):Cl P w K mg base 16 "_law_told" 3 aY:=
 aN ["_law_ask","_law_record_here","_law_number","_law_e"] F λd f c A o s H E hr x=>(aq (ES 3 d S.m_ClockError S.o_ClockError (λ_ _=>(ao (cb (ba pH (af 0) ai) (aq (ax (EW (Fs aaj hr (Fs aao hr (Fs aaH hr (Fs aaN hr selN)))) (af 0) (ah (af 1) ag)))) bz) (aq (ax (aK aat hr (ah (af 1) (ah (af 2) ag))))))) (B3 rfl (TN rfl) aap S B.b_isinstance B.b_ValueError (K9 hr)) (hcl:=λ_ _ z=>by cases z)))
theorem kR{j1 j2 j3 j4 j5 j6 j7 j8 j9 j10 j11 j12 j13 j14 j15 j16 j17 j18 j19 j20 j21 j22 j23 j24 j25 j26 j27 j28 j29 j30 j31 j32:Nat}{p2 p3 p4 p5 p6 p7 p8 p9 p10 p11 p12 p13 p14 p15 p16 p17 p18 p19 p20 p21 p22 p23 p24 p25 p26 p27 p28 p29 p30 p31 p32:Pos}:QE X (.Tuple [(.Tuple [(.Tuple [(.Constant (.int 1) j1 p1),(.Constant (.int 1) j2 p2),(.Tuple [(.Constant (.int 0) j3 p3),(.Constant (.int 1) j4 p4)] j5 p5)] j6 p6),(.Tuple [(.Constant (.int 1) j7 p7),(.Constant (.int 1) j8 p8),(.Tuple [(.Constant (.int 0) j9 p9)] j10 p10)] j11 p11)] j12 p12),(.Tuple [(.Tuple [(.Tuple [(.Constant (.int 1) j13 p13),(.Constant (.int 0) j14 p14)] j15 p15),(.Tuple [(.Constant (.int 0) j16 p16),(.Constant (.int 0) j17 p17)] j18 p18),(.Constant (.int 1) j19 p19),(.Constant .none j20 p20)] j21 p21),(.Tuple [(.Tuple [(.Constant (.int 1) j22 p22),(.Constant (.int 0) j23 p23)] j24 p24),(.Tuple [(.Constant (.int 0) j25 p25),(.Constant (.int 1) j26 p26)] j27 p27),(.Constant (.int 2) j28 p28),(.Constant .none j29 p29)] j30 p30)] j31 p31)] j32 p32) (aP (ae (aP (ae (aP (ae (cn (.int 1)) (ae (cn (.int 1)) (ae (aP (ae (cn (.int 0)) (ae (cn (.int 1)) aj))) aj)))) (ae (aP (ae (cn (.int 1)) (ae (cn (.int 1)) (ae (aP (ae (cn (.int 0)) aj)) aj)))) aj))) (ae (aP (ae (aP (ae (aP (ae (cn (.int 1)) (ae (cn (.int 0)) aj))) (ae (aP (ae (cn (.int 0)) (ae (cn (.int 0)) aj))) (ae (cn (.int 1)) (ae (cn .non) aj))))) (ae (aP (ae (aP (ae (cn (.int 1)) (ae (cn (.int 0)) aj))) (ae (aP (ae (cn (.int 0)) (ae (cn (.int 1)) aj))) (ae (cn (.int 2)) (ae (cn .non) aj))))) aj))) aj))):=by
 refine @aO X _ _ _ _ ?_;refine @ah X _ _ _ _ ?_ ?_ rfl
 .refine @aO X _ _ _ _ ?_;refine @ah X _ _ _ _ ?_ ?_ rfl
  .refine @aO X _ _ _ _ ?_;refine @ah X _ _ _ _ ?_ ?_ rfl
   .exact ai
   refine @ah X _ _ _ _ ?_ ?_ rfl
   .exact ai
   refine @ah X _ _ _ _ ?_ ?_ rfl
   .refine @aO X _ _ _ _ ?_;refine @ah X _ _ _ _ ?_ ?_ rfl
    .exact ai
    refine @ah X _ _ _ _ ?_ ?_ rfl
    .exact ai
    exact ag
   exact ag
  refine @ah X _ _ _ _ ?_ ?_ rfl
  .refine @aO X _ _ _ _ ?_;refine @ah X _ _ _ _ ?_ ?_ rfl
   .exact ai
   refine @ah X _ _ _ _ ?_ ?_ rfl
   .exact ai
   refine @ah X _ _ _ _ ?_ ?_ rfl
   .refine @aO X _ _ _ _ ?_;refine @ah X _ _ _ _ ?_ ?_ rfl
    .exact ai
    exact ag
   exact ag
  exact ag
 refine @ah X _ _ _ _ ?_ ?_ rfl
 .refine @aO X _ _ _ _ ?_;refine @ah X _ _ _ _ ?_ ?_ rfl
  .refine @aO X _ _ _ _ ?_;refine @ah X _ _ _ _ ?_ ?_ rfl
   .refine @aO X _ _ _ _ ?_;refine @ah X _ _ _ _ ?_ ?_ rfl
    .exact ai
    refine @ah X _ _ _ _ ?_ ?_ rfl
    .exact ai
    exact ag
   refine @ah X _ _ _ _ ?_ ?_ rfl
   .refine @aO X _ _ _ _ ?_;refine @ah X _ _ _ _ ?_ ?_ rfl
    .exact ai
    refine @ah X _ _ _ _ ?_ ?_ rfl
    .exact ai
    exact ag
   refine @ah X _ _ _ _ ?_ ?_ rfl
   .exact ai
   refine @ah X _ _ _ _ ?_ ?_ rfl
   .exact bQ
   exact ag
  refine @ah X _ _ _ _ ?_ ?_ rfl
  .refine @aO X _ _ _ _ ?_;refine @ah X _ _ _ _ ?_ ?_ rfl
   .refine @aO X _ _ _ _ ?_;refine @ah X _ _ _ _ ?_ ?_ rfl
    .exact ai
    refine @ah X _ _ _ _ ?_ ?_ rfl
    .exact ai
    exact ag
   refine @ah X _ _ _ _ ?_ ?_ rfl
   .refine @aO X _ _ _ _ ?_;refine @ah X _ _ _ _ ?_ ?_ rfl
    .exact ai
    refine @ah X _ _ _ _ ?_ ?_ rfl
    .exact ai
    exact ag
   refine @ah X _ _ _ _ ?_ ?_ rfl
   .exact ai
   refine @ah X _ _ _ _ ?_ ?_ rfl
   .exact bQ
   exact ag
  exact ag
 exact ag
abbrev lO:ZF:=top 73
theorem lV(F:fV K mg "_law_known_one" lO [])(aa5:Cl P w K mg base 16 "_law_told" 3 aY):Cl P w K mg base 17 "_law_known_one" 0 dw:=
 aN ["_law_known"] F λd f c A o s H E hr x=>(ao (aA kR (ak 0 d)) (aq (ax (dC (dB (k4 (gZ hr)) (aK aa5 hr (ah ai (ah (af 0) (ah bQ ag)))) (cE (ah ai (ah ai ag)))) (dJ (dB (k4 (gZ hr)) (aK aa5 hr (ah ai (ah (af 0) (ah bQ ag)))) (aO (ah (aF (af 0) ai) (ah (cS (aF (af 0) ai) cR (cQ ai)) ag)))))))))
abbrev jI:ZF:=top 63
abbrev jN:List Str:=["_law_clocks","_law_found","_law_number","_law_clock_here"]
theorem pT(F:fV K mg "_law_events" jI ["_law_clocks"])(B:Bl mg):Cl P w K mg base 1 "_law_events" 1 bf:=
 aN jN F λd f c A o s H E hr x=>(by(apply ao;exact(aA (cE ag) (ak 1 d));apply ao;exact(bX rfl (jE B.b_enumerate (ah (af 0) ag)) (hZ rfl (bu (ak 2 d) (bu (ak 3 d) gh))) (aq (aA (au aL (af 1) (cG ["_law_place","_law_number"] jN jI (cg B.b_range (ah (c9 cJ B.b_len Qm (ah (aF (af 3) ai) ag)) ag)) (λd _ _ _ _ _=>⟨(ak 0 d),bY,(aO (ah (af 1) (ah (af 0) ag)))⟩))) (ak 1 d))));exact aq (ax (af 1))))
abbrev iz:ZF:=top 65
abbrev iC:List Str:=["_law_record_here","_law_clocks","_law_row"]
theorem rl(F:fV K mg "_law_small" iz ["_law_record_here"])(aa2:Cl P w K mg base 1 "_law_events" 1 bf)(B:Bl mg):Cl P w K mg base 2 "_law_small" 1 gG:=
 aN iC F λd f c A o s H E hr x=>(by(apply ao;exact(aA (ju fI B.b_tuple bW (ah (cG ["_law_clock_here"] iC iz (bc (cS (aF (af 0) ai) cR (cQ ai))) (λd _ _ _ _ _=>⟨(ak 0 d),bY,(au aL (cS (af 0) cR (cQ ai)) (aO (ah (cS (aF (af 0) ai) cR (cQ ai)) ag)))⟩)) ag)) (ak 1 d));apply ao;exact(aA (aK aa2 hr (ah (af 1) ag)) (ak 2 d));exact aq (ax (aO (ah (af 1) (ah (ju fI B.b_tuple bW (ah (cG ["_law_letter_here","_law_row"] iC iz (bc (aF (af 0) ai)) (λd _ _ _ _ _=>⟨(ak 0 d),(fq (nv (yY (ba (vW (Bb hr)) (aF (af 0) ai) (af 1)) (vc (ba (vW (Bb hr)) (aF (af 0) ai) (af 1)))))),(af 0)⟩)) ag)) ag))))))
abbrev ph:ZF:=top 66
theorem pU(F:fV K mg "_law_bounds" ph ["_law_record_here"])(B:Bl mg):Cl P w K mg base 1 "_law_bounds" 1 bV:=
 aN ["_law_record_here","_law_found","_law_number","_law_slow","_law_fast","_law_readings","_law_k","_law_steps","_law_one","_law_other","_law_least","_law_most"] F λd f c A o s H E hr x=>(by(apply ao;exact(iM 1 d ag);apply ao;exact(bX rfl (jE B.b_enumerate (ah (aF (af 0) ai) ag)) (hZ rfl (bu (ak 2 d) (bu (hZ rfl (bu (ak 3 d) (bu (ak 4 d) (bu (ak 5 d) gh)))) gh))) (aq (bX rfl (xE B.b_range (ah ai (ah (c9 cJ B.b_len Qm (ah (af 5) ag)) ag))) (ak 6 d) (by(apply ao;exact(aA (au fw (aF (af 5) (af 6)) (aF (af 5) (au fw (af 6) ai))) (ak 7 d));apply ao;exact(hY 1 (aO (ah (aO (ah (af 2) (ah (au fw (af 6) ai) ag))) (ah (aO (ah (af 2) (ah (af 6) ag))) (ah (au df (af 4) (af 7)) ag)))));exact aq (hY 1 (aO (ah (aO (ah (af 2) (ah (af 6) ag))) (ah (aO (ah (af 2) (ah (au fw (af 6) ai) ag))) (ah (au fw ai (au df (af 3) (af 7))) ag))))))))));apply ao;exact(bX rfl (bc (aF (af 0) ai)) (hZ rfl (bu (ak 8 d) (bu (ak 9 d) (bu (ak 10 d) (bu (ak 11 d) gh))))) (ao (hY 1 (aO (ah (af 9) (ah (af 8) (ah (au fw ai (af 10)) ag))))) (aq (cb (ba gS (af 11) bQ) (aq (hY 1 (aO (ah (af 8) (ah (af 9) (ah (af 11) ag)))))) bz))));exact aq (i6 1 (ax (af 1)))))
abbrev iy:ZF:=top 67
noncomputable abbrev iB:List Str:=["_law_places","_law_row","_law_far","_law_one","_law_other","_law_most","_law_middle","_law_whole"]
theorem rk(F:fV K mg "_law_table" iy ["_law_places","_law_row"])(B:Bl mg):Cl P w K mg base 1 "_law_table" 2 bO:=
 aN iB F λd f c A o s H E hr x=>(by(apply ao;exact(Au 2 0 (N':=["_law_one","_law_places"]) (src:=[ZB]) (hu8 hr) rfl B.b_dict d (LcScope.by (N:=iB) (names:=(az iy).names) rfl rfl rfl (by decide+kernel)) (bc (af 0)) (by decide) (λ_ _ _ _ _=>⟨(ak 0 (show RP (["_law_one","_law_places"]:List Str)by decide+kernel)),pv 0,Jm (hu8 hr) rfl B.b_dict rfl (LcScope.byN (N:=["_law_one","_law_places"]) (N':=["_law_other"]) rfl rfl (by decide+kernel) rfl) (bc (af 1)).h (λ_ _ _ _ _=>⟨(ak 0 (show RP (["_law_other"]:List Str)by decide+kernel)).h,pv 0,rfl⟩) (λ_=>rfl)⟩));apply ao;exact(bX rfl (bc (af 0)) (ak 3 d) (aq (oP 2 (mi hr) (af 3) (af 3) ai)));apply ao;exact(bX rfl (bc (af 1)) (hZ rfl (bu (ak 3 d) (bu (ak 4 d) (bu (ak 5 d) gh)))) (aq (cb (nv (mC (ba nJ (kU 2 (dm (mi hr) (dm (mi hr) (af 2) (af 3)) (af 4))) bQ) (kh (ba pH (af 5) (kU 2 (dm (mi hr) (dm (mi hr) (af 2) (af 3)) (af 4))))))) (aq (oP 2 (mi hr) (af 3) (af 4) (af 5))) bz)));apply ao;exact(bX rfl (bc (af 0)) (ak 6 d) (aq (bX rfl (bc (af 0)) (ak 3 d) (aq (bX rfl (bc (af 0)) (ak 4 d) (aq (cb (nv (yY (ba gS (kU 2 (dm (mi hr) (dm (mi hr) (af 2) (af 3)) (af 6))) bQ) (vc (ba gS (kU 2 (dm (mi hr) (dm (mi hr) (af 2) (af 6)) (af 4))) bQ)))) (ao (aA (au aL (kU 2 (dm (mi hr) (dm (mi hr) (af 2) (af 3)) (af 6))) (kU 2 (dm (mi hr) (dm (mi hr) (af 2) (af 6)) (af 4)))) (ak 7 d)) (aq (cb (nv (mC (ba nJ (kU 2 (dm (mi hr) (dm (mi hr) (af 2) (af 3)) (af 4))) bQ) (kh (ba pH (af 7) (kU 2 (dm (mi hr) (dm (mi hr) (af 2) (af 3)) (af 4))))))) (aq (oP 2 (mi hr) (af 3) (af 4) (af 7))) bz))) bz)))))));exact aq (i6 2 (ax (yZ (ba (k4 (gZ hr)) (cG ["_law_one","_law_far"] iB iy (bc (af 0)) (λd _ _ _ _ _=>⟨(ak 0 d),(fq (ba pH (dm (mi hr) (dm (mi hr) (af 1) (af 0)) (af 0)) ai)),(af 0)⟩)) (cE ag)) (af 2) bQ)))))
abbrev tH:ZF:=top 59
theorem uj(F:fV K mg "_law_cell" tH ["_law_script","_law_k"])(B:Bl mg):Cl P w K mg base 1 "_law_cell" 2 gq:=
 aN ["_law_script","_law_k"] F λd f c A o s H E hr x=>(ao (cb (ba (k4 (gZ hr)) (af 0) (cE ag)) (aq (ax (au df ai (af 1)))) bz) (aq (ax (au aL (aF (af 0) (au lq (af 1) (c9 cJ B.b_len Qm (ah (af 0) ag)))) (au df ai (au ou (af 1) (c9 cJ B.b_len Qm (ah (af 0) ag))))))))
abbrev qY:ZF:=top 60
theorem rn(F:fV K mg "_law_drawn" qY ["_law_script","_law_k","_law_many"])(aaI:Cl P w K mg base 1 "_law_cell" 2 gq):Cl P w K mg base 2 "_law_drawn" 3 aJ:=
 aN ["_law_script","_law_k","_law_many","_law_cell_here"] F λd f c A o s H E hr x=>(by(apply ao;exact(aA (au lq (au aL (au df (au lq (aK aaI hr (ah (af 0) (ah (af 1) ag))) ai) ai) (au df ai (au aL (af 1) ai))) ai) (ak 3 d));apply ao;exact(aA (au lq (au aL (au df (af 3) (af 3)) (au ou (af 3) ai)) ai) (ak 3 d));exact aq (ax (au lq (au ou (au lq (au aL (au df (af 3) (af 3)) (au ou (af 3) ai)) ai) ai) (af 2)))))
abbrev pf:ZF:=top 62
theorem pR(F:fV K mg "_law_letter" pf ["_law_script","_law_at","_law_clocks"])(aa2:Cl P w K mg base 1 "_law_events" 1 bf)(aa0:Cl P w K mg base 2 "_law_drawn" 3 aJ)(B:Bl mg):Cl P w K mg base 3 "_law_letter" 3 dI:=
 aN ["_law_script","_law_at","_law_clocks","_law_row","_law_place","_law_other","_law_least","_law_most"] F λd f c A o s H E hr x=>(by(apply ao;exact(aA (aK aa2 hr (ah (af 2) ag)) (ak 3 d));apply ao;exact(cb (ba pH (c9 cJ B.b_len Qm (ah (af 3) ag)) ai) (aq (ax bQ)) bz);apply ao;exact(aA (aK aa0 hr (ah (af 0) (ah (af 1) (ah (c9 cJ B.b_len Qm (ah (af 3) ag)) ag)))) (ak 4 d));apply ao;exact(aA (au lq (au aL (au aL (af 4) ai) (aK aa0 hr (ah (af 0) (ah (au aL (af 1) ai) (ah (au fw (c9 cJ B.b_len Qm (ah (af 3) ag)) ai) ag))))) (c9 cJ B.b_len Qm (ah (af 3) ag))) (ak 5 d));apply ao;exact(aA (aK aa0 hr (ah (af 0) (ah (au aL (af 1) ai) (ah ai ag)))) (ak 6 d));apply ao;exact(aA (yZ (ba (k4 (gZ hr)) (aK aa0 hr (ah (af 0) (ah (au aL (af 1) ai) (ah ai ag)))) ai) bQ (au aL (af 6) (aK aa0 hr (ah (af 0) (ah (au aL (af 1) ai) (ah ai ag)))))) (ak 7 d));exact aq (ax (aO (ah (aF (af 3) (af 4)) (ah (aF (af 3) (af 5)) (ah (af 6) (ah (af 7) ag))))))))
abbrev qZ:ZF:=top 61
theorem ro(F:fV K mg "_law_clock" qZ ["_law_script","_law_at"])(aa0:Cl P w K mg base 2 "_law_drawn" 3 aJ)(B:Bl mg):Cl P w K mg base 3 "_law_clock" 2 dh:=
 aN ["_law_script","_law_at","_law_slow","_law_readings","_law_k"] F λd f c A o s H E hr x=>(by(apply ao;exact(aA (au aL ai (aK aa0 hr (ah (af 0) (ah (af 1) (ah ai ag))))) (ak 2 d));apply ao;exact(aA (aO (ah (aK aa0 hr (ah (af 0) (ah (au aL (af 1) ai) (ah ai ag)))) ag)) (ak 3 d));apply ao;exact(bX rfl (cg B.b_range (ah (aK aa0 hr (ah (af 0) (ah (au aL (af 1) ai) (ah ai ag)))) ag)) (ak 4 d) (aq (aA (au aL (af 3) (aO (ah (au aL (au aL (aF (af 3) (mF ai)) ai) (aK aa0 hr (ah (af 0) (ah (au aL (au aL (af 1) ai) (af 4)) (ah ai ag))))) ag))) (ak 3 d))));exact aq (ax (aO (ah (af 2) (ah (au aL (af 2) (aK aa0 hr (ah (af 0) (ah (au aL (af 1) ai) (ah ai ag))))) (ah (af 3) ag)))))))
abbrev jH:ZF:=top 64
noncomputable abbrev jM:List Str:=["_law_script","_law_at","_law_most","_law_clocks","_law_letters","_law_k","_law_letter_here"]
theorem pQ(F:fV K mg "_law_record" jH ["_law_script","_law_at","_law_most"])(aa0:Cl P w K mg base 2 "_law_drawn" 3 aJ)(aau:Cl P w K mg base 3 "_law_letter" 3 dI)(aaB:Cl P w K mg base 3 "_law_clock" 2 dh)(B:Bl mg):Cl P w K mg base 4 "_law_record" 3 f9:=
 aN jM F λd f c A o s H E hr x=>(by(apply ao;exact(aA (ju fI B.b_tuple bW (ah (cG ["_law_k","_law_script","_law_at"] jM jH (cg B.b_range (ah (au aL ai (aK aa0 hr (ah (af 0) (ah (af 1) (ah ai ag))))) ag)) (λd _ _ _ _ _=>⟨(ak 0 d),bY,(aK aaB hr (ah (af 1) (ah (au aL (au aL (af 2) ai) (au df ai (af 0))) ag)))⟩)) ag)) (ak 3 d));apply ao;exact(aA (cE ag) (ak 4 d));apply ao;exact(bX rfl (cg B.b_range (ah (aK aa0 hr (ah (af 0) (ah (au aL (af 1) ai) (ah (au aL (af 2) ai) ag)))) ag)) (ak 5 d) (ao (aA (aK aau hr (ah (af 0) (ah (au aL (au aL (af 1) ai) (au df ai (af 5))) (ah (af 3) ag)))) (ak 6 d)) (aq (aA (au aL (af 4) (au df (cE (ah (af 6) ag)) (ju yO B.b_int ix (ah (dB gS (af 6) bQ) ag)))) (ak 4 d)))));exact aq (ax (aO (ah (af 3) (ah (ju fI B.b_tuple bW (ah (af 4) ag)) ag))))))
abbrev lM:ZF:=top 72
noncomputable abbrev lY:List Str:=["_law_many","_law_found","_law_number"]
theorem ui(F:fV K mg "_law_sets" lM ["_law_many"])(B:Bl mg):Cl P w K mg base 1 "_law_sets" 1 gp:=
 aN lY F λd f c A o s H E hr x=>(by(apply ao;exact(aA (cE (ah (cE ag) ag)) (ak 1 d));apply ao;exact(bX rfl (cg B.b_range (ah (af 0) ag)) (ak 2 d) (aq (aA (au aL (af 1) (cG ["_law_row","_law_number"] lY lM (bc (af 1)) (λd _ _ _ _ _=>⟨(ak 0 d),bY,(au aL (af 0) (cE (ah (af 1) ag)))⟩))) (ak 1 d))));exact aq (ax (af 1))))
abbrev nE:ZF:=top 71
abbrev nM:List Str:=["_law_record_here","_law_numbers","_law_some"]
theorem wa(F:fV K mg "_law_has" nE ["_law_record_here","_law_numbers"])(aa8:Cl P w K mg base 1 "_law_table" 2 bO)(aa2:Cl P w K mg base 1 "_law_events" 1 bf)(aaa:Cl P w K mg base 1 "_law_bounds" 1 bV)(B:Bl mg):Cl P w K mg base 2 "_law_has" 2 gY:=
 aN nM F λd f c A o s H E hr x=>(ao (aA (aO (ah (aF (af 0) ai) (ah (ju fI B.b_tuple bW (ah (cG ["_law_number","_law_record_here"] nM nE (bc (af 1)) (λd _ _ _ _ _=>⟨(ak 0 d),bY,(aF (aF (af 1) ai) (af 0))⟩)) ag)) ag))) (ak 2 d)) (aq (ax (dB gS (aK aa8 hr (ah (aK aa2 hr (ah (aF (af 0) ai) ag)) (ah (aK aaa hr (ah (af 2) ag)) ag))) bQ))))
abbrev mM:ZF:=top 70
theorem mU(F:fV K mg "_law_needless" mM ["_law_record_here"])(aa2:Cl P w K mg base 1 "_law_events" 1 bf)(aa8:Cl P w K mg base 1 "_law_table" 2 bO)(aaa:Cl P w K mg base 1 "_law_bounds" 1 bV)(B:Bl mg):Cl P w K mg base 2 "_law_needless" 1 de:=
 aN ["_law_record_here","_law_places","_law_whole","_law_found","_law_number","_law_rest"] F λd f c A o s H E hr x=>(by(apply ao;exact(aA (aK aa2 hr (ah (aF (af 0) ai) ag)) (ak 1 d));apply ao;exact(aA (aK aa8 hr (ah (af 1) (ah (aK aaa hr (ah (af 0) ag)) ag))) (ak 2 d));apply ao;exact(aA (cE ag) (ak 3 d));apply ao;exact(bX rfl (cg B.b_range (ah (c9 cJ B.b_len Qm (ah (aF (af 0) ai) ag)) ag)) (ak 4 d) (ao (aA (aO (ah (aF (af 0) ai) (ah (au aL (cS (aF (af 0) ai) cR (cQ (af 4))) (cS (aF (af 0) ai) (cQ (au aL (af 4) ai)) cR)) ag))) (ak 5 d)) (aq (aA (au aL (af 3) (au df (cE (ah (af 4) ag)) (ju yO B.b_int ix (ah (dB (CZ (gZ hr)) (aK aa8 hr (ah (af 1) (ah (aK aaa hr (ah (af 5) ag)) ag))) (af 2)) ag)))) (ak 3 d)))));exact aq (ax (af 3))))
abbrev cT:ZF:=top 74
noncomputable abbrev cU:List Str:=["_law_script","_law_record_here","_law_places","_law_row","_law_table_here","_law_many","_law_good","_law_most","_law_alone","_law_odd","_law_told_here","_law_number","_law_left"]
theorem pP(F:fV K mg "_law_stands" cT ["_law_script"])(aaC:Cl P w K mg base 2 "_law_small" 1 gG)(aa2:Cl P w K mg base 1 "_law_events" 1 bf)(aaa:Cl P w K mg base 1 "_law_bounds" 1 bV)(aa8:Cl P w K mg base 1 "_law_table" 2 bO)(aav:Cl P w K mg base 4 "_law_record" 3 f9)(aa5:Cl P w K mg base 16 "_law_told" 3 aY)(aa0:Cl P w K mg base 2 "_law_drawn" 3 aJ)(aaJ:Cl P w K mg base 1 "_law_sets" 1 gp)(aaO:Cl P w K mg base 2 "_law_has" 2 gY)(aah:Cl P w K mg base 2 "_law_needless" 1 de)(B:Bl mg):Cl P w K mg base 17 "_law_stands" 1 fZ:=
 aN cU F λd f c A o s H E hr x=>(by(apply ao;exact(aA (aK aaC hr (ah (aK aav hr (ah (af 0) (ah ai (ah ai ag)))) ag)) (ak 1 d));apply ao;exact(aA (aO (ah (aF (af 1) ai) (ah (cS (aF (af 1) ai) cR (cQ ai)) ag))) (ak 1 d));apply ao;exact(aA (aK aa2 hr (ah (aF (af 1) ai) ag)) (ak 2 d));apply ao;exact(aA (aK aaa hr (ah (af 1) ag)) (ak 3 d));apply ao;exact(aA (aK aa8 hr (ah (af 2) (ah (af 3) ag))) (ak 4 d));apply ao;exact(aA (c9 cJ B.b_len Qm (ah (aF (af 1) ai) ag)) (ak 5 d));apply ao;exact(aA (cG ["_law_numbers","_law_record_here"] cU cT (bc (aK aaJ hr (ah (af 5) ag))) (λd _ _ _ _ _=>⟨(ak 0 d),(fq (cY (aK aaO hr (ah (af 1) (ah (af 0) ag))))),(af 0)⟩)) (ak 6 d));apply ao;exact(aA (c9 (Ks rfl) B.b_max boot_max (ah (cG ["_law_numbers"] cU cT (bc (af 6)) (λd _ _ _ _ _=>⟨(ak 0 d),bY,(c9 cJ B.b_len Qm (ah (af 0) ag))⟩)) ag)) (ak 7 d));apply ao;exact(cb (ba (kZ (gZ hr)) (aK aa5 hr (ah ai (ah (af 1) (ah bQ ag)))) (c9 (GY rfl (gZ hr)) B.b_min boot_min (ah (cG ["_law_numbers","_law_most"] cU cT (bc (af 6)) (λd _ _ _ _ _=>⟨(ak 0 d),(fq (ba (k4 (gZ hr)) (c9 cJ B.b_len Qm (ah (af 0) ag)) (af 1))),(af 0)⟩)) ag))) (aq (ax iN)) bz);apply ao;exact(BN 8 (N':=["_law_number","_law_many","_law_good"]) (src:=[ZB,ZA 5,ZA 6]) rfl (LcScope.by (N:=cU) (names:=(az cT).names) rfl rfl rfl (by decide+kernel)) (cg B.b_range (ah (af 5) ag)) (λ_ _ _ _ _=>⟨(ak 0 (show RP (["_law_number","_law_many","_law_good"]:List Str)by decide+kernel)),(fq (ba (vW (Bb hr)) (Hg (N':=["_law_one","_law_number"]) (src:=[ZB,ZA 0]) rfl (LcScope.byN (N:=["_law_number","_law_many","_law_good"]) rfl rfl (by decide+kernel) rfl) (cg B.b_range (ah (af 1) ag)) (λ_ _ _ _ _=>⟨(ak 0 (show RP (["_law_one","_law_number"]:List Str)by decide+kernel)),(fq (ba (kZ (gZ hr)) (af 0) (af 1))),(af 0)⟩)) (af 2))),(af 0)⟩) d);apply ao;exact(cb (ba (kZ (gZ hr)) (aK aa5 hr (ah ai (ah (af 1) (ah bQ ag)))) (yZ (ba nJ (af 4) bQ) (af 8) (cE ag))) (aq (ax iN)) bz);apply ao;exact(aA (aF (cE (ah (mF ai) (ah (c9 cJ B.b_len Qm (ah (af 3) ag)) (ah iN (ah bQ (ah sU ag)))))) (aK aa0 hr (ah (af 0) (ah ai (ah ai ag))))) (ak 9 d));apply ao;exact(cb (ba (kZ (gZ hr)) (aK aa5 hr (ah ai (ah (af 1) (ah (af 9) ag)))) (aO (ah sU (ah ai ag)))) (aq (ax iN)) bz);apply ao;exact(cb (ba (kZ (gZ hr)) (cG ["_law_ask","_law_record_here","_law_odd"] cU cT (cg B.b_range (ah ai ag)) (λd _ _ _ _ _=>⟨(ak 0 d),bY,(aK aa5 hr (ah (af 0) (ah (cS (af 1) cR (cQ ai)) (ah (af 2) ag))))⟩)) (au df (cE (ah (aO (ah sU (ah ai ag))) ag)) ai)) (aq (ax iN)) bz);apply ao;exact(cb (ba nJ (af 4) bQ) (ao (aA (au aL (cG ["_law_ask","_law_record_here"] cU cT (bc (aO (ah ai (ah ai ag)))) (λd _ _ _ _ _=>⟨(ak 0 d),bY,(aK aa5 hr (ah (af 0) (ah (af 1) (ah ai ag))))⟩)) (au df (cE (ah (aK aa5 hr (ah ai (ah (af 1) (ah ai ag)))) ag)) (ju yO B.b_int ix (ah (dB (kZ (gZ hr)) (af 3) (cE ag)) ag)))) (ak 10 d)) (aq (ax (dB (k4 (gZ hr)) (af 10) (au df (cE (ah (aO (ah sU (ah ai ag))) ag)) (c9 cJ B.b_len Qm (ah (af 10) ag))))))) bz);apply ao;exact(bX rfl (cg B.b_range (ah (c9 cJ B.b_len Qm (ah (af 3) ag)) ag)) (ak 11 d) (aq (cb (ba (kZ (gZ hr)) (aK aa5 hr (ah ai (ah (af 1) (ah (af 11) ag)))) (dB (CZ (gZ hr)) (aK aa8 hr (ah (af 2) (ah (au aL (cS (af 3) cR (cQ (af 11))) (cS (af 3) (cQ (au aL (af 11) ai)) cR)) ag))) (af 4))) (aq (ax iN)) bz)));apply ao;exact(aA (af 1) (ak 12 d));apply ao;exact(bX rfl (bc (Ia (rH rfl B.b_list B.b_range (ah (af 5) ag)))) (ak 11 d) (aq (cb (ba (vW (Bb hr)) (af 11) (aK aah hr (ah (af 12) ag))) (aq (aA (aO (ah (aF (af 12) ai) (ah (au aL (cS (aF (af 12) ai) cR (cQ (af 11))) (cS (aF (af 12) ai) (cQ (au aL (af 11) ai)) cR)) ag))) (ak 12 d))) bz)));exact aq (ax (dC (dB (k4 (gZ hr)) (aK aa5 hr (ah ai (ah (af 1) (ah bQ ag)))) (aK aah hr (ah (af 1) ag))) (dJ (dB (k4 (gZ hr)) (aK aa5 hr (ah ai (ah (af 1) (ah bQ ag)))) (af 12)))))))
abbrev B7:ZF:=top 75
abbrev JD:List Str:=["_law_script"]
theorem Iz:dj JD ["_law_script"] (az B7):=fsc
theorem Jy(aaU:Fn K mg "law" B7 ["_law_script"] f fd)(aam:Cl P w K mg base 17 "_law_known_one" 0 dw)(aaw:Cl P w K mg base 17 "_law_stands" 1 fZ):BK P w K mg base 18 f fd ["_law_script"] 1 m_law:=
 sV aaU.fn Iz rfl λc _ A o s H E hr x=>(aq (ax (dC (KQ aam hr) (dJ (aK aaw hr (ah (af 0) ag))))))
end
def all_ok{l:PySem.W.OpenLaw}{h:ZH}{fa:ZE}(X:K.In h)(e:pV asks K=nV asks top)(Lm:∃f c P,LmK K f c P)(bm:Ky K=ZC)(G:h.Ns OM mg)(hfa:mg "law" =ZA (.ref fa)):
  ∃fd:PX,(∀(s:Oe)(v:Ob),Vq s fd ⟨[v],[]⟩ [("_law_script",v)])/\∀base:ZH,K.In base->base.Ns OM mg->rC l.prog w K mg base CX0 18 fa fd ["_law_script"] (spP K 1 m_law):=by
 have B:Bl mg:=⟨fD 0 X G e rfl,fD 1 X G e rfl,fD 2 X G e rfl,fD 3 X G e rfl,fD 4 X G e rfl,fD 5 X G e rfl,fD 6 X G e rfl,fD 7 X G e rfl,fD 8 X G e rfl,fD 9 X G e rfl,fD 10 X G e rfl,fD 11 X G e rfl,fD 12 X G e rfl,fD 13 X G e rfl⟩;have C:Cs mg:=⟨se 0 X G e rfl,se 1 X G e rfl,se 2 X G e rfl,se 3 X G e rfl,se 4 X G e rfl,se 5 X G e rfl⟩;obtain⟨cr,ls,xD,xl,nd⟩:=Jz (Ma e);obtain⟨ac,ls0,x_NoRecord,rfl,xl0⟩:=gK xl;obtain⟨bi,ls1,x_NoEvent,rfl,xl1⟩:=gK xl0;obtain⟨bn,ls2,x_NoNumber,rfl,xl2⟩:=gK xl1;obtain⟨bv,ls3,x_NoWorld,rfl,xl3⟩:=gK xl2;obtain⟨ca,ls4,x_Barred,rfl,xl4⟩:=gK xl3;obtain⟨ci,ls5,x_Nothing,rfl,xl5⟩:=gK xl4;cases EG xl5;have S:Xs K mg ac bi bn bv ca ci cr:=⟨RL X G (iA x_NoRecord).1,RL X G (iA x_NoEvent).1,RL X G (iA x_NoNumber).1,RL X G (iA x_NoWorld).1,RL X G (iA x_Barred).1,RL X G (iA x_Nothing).1,RL X G (iA xD).1,KL x_NoRecord xD,KL x_NoEvent xD,KL x_NoNumber xD,KL x_NoWorld xD,KL x_Barred xD,KL x_Nothing xD,ox0 xD,nd⟩;obtain⟨fd53,aaU,bnd⟩:=L7 (n:="law") (i:=75) (x:="_law_script") 53 X G e rfl hfa λ_ _ _ _ _ _ _=>rfl;obtain⟨f54,fd54,aap⟩:=L9 (n:="_law_refused") (i:=68) (ps:=["_law_e"]) 54 X G e rfl λ_ _ _ _ _ _=>HF λ_=>rfl;refine⟨fd53,bnd,λbase Xb _=>?_⟩;have LX:=Gp Lm bm X G Xb;have aa3:=yf l.prog w base (cy 0 X G e) B;have aaK:=vY l.prog w base (cy 1 X G e) B;have aa1:=uc l.prog w base (cy 2 X G e) aaK;have aaP:=ye l.prog w base (cy 3 X G e) aa1 C;have aaS:=C5 l.prog w base (cy 4 X G e) B;have aaq:=nZ l.prog w base (cy 5 X G e) aa3 aaS aa1 B C;have aaL:=v7 l.prog w base (cy 6 X G e) aa3 aaP aaq;have aaz:=rj l.prog w base (cy 7 X G e) aa3 aaL B C;have aax:=vZ l.prog w base (cy 8 X G e) aa1 aa3 B;have aaM:=v5 l.prog w base (cy 9 X G e) aa1 C;have aaE:=ue l.prog w base (cy 10 X G e) aax aa3 aaM;have aar:=pM l.prog w base (cy 11 X G e) aa3 aaE B C;have aaF:=ud l.prog w base (cy 12 X G e) aa3 aaz aar;have aab:=pJ l.prog w base (cy 13 X G e) aaF S;have aak:=lr l.prog w base (cy 14 X G e) B;have aai:=kP l.prog w base (cy 15 X G e);have aag:=AO l.prog w base (cy 16 X G e) aab aak aai B;have aas:=pK l.prog w base (cy 17 X G e) aa1 S;have aae:=AN l.prog w base (cy 18 X G e) aab B;have aaG:=uf l.prog w base (cy 19 X G e);have aaf:=AM l.prog w base (cy 20 X G e) aaG B;have aal:=lU l.prog w base (cy 21 X G e) aae aaf B;have aaT:=C3 l.prog w base (cy 22 X G e) aal aag;have aa4:=ug l.prog w base (cy 23 X G e) aaT;have aa7:=ri l.prog w base (cy 24 X G e) aa4 S;have aat:=pL l.prog w base (cy 25 X G e) aag aas aa7 aaf B;have aa6:=pO l.prog w base (cy 26 X G e) B;have aaA:=rh l.prog w base (cy 27 X G e) aaf aag;have aaQ:=ya l.prog w base (cy 28 X G e);have aay:=v9 l.prog w base (cy 29 X G e) aa7 aae aaA aaQ B;have aac:=pI l.prog w base (cy 30 X G e) aae aay aa4;have aa9:=ua l.prog w base (cy 31 X G e) B;have aad:=x8 l.prog w base (cy 32 X G e);have aaj:=kO l.prog w base (cy 33 X G e) aa7 aa6 aac aa9 aad;have aao:=mT l.prog w base (cy 34 X G e) aa7 aa9 aac aad aa6 B;have aaR:=x9 l.prog w base (cy 35 X G e);have aaH:=ub l.prog w base (cy 36 X G e) aab aaR aa4 aa6 aa9 B LX;have aaN:=v8 l.prog w base (cy 37 X G e) aa4 aa6 aa9 aad;have aa5:=uh l.prog w base (cy 38 X G e) aat aaj aao aaH aaN B S aap;have aam:=lV l.prog w base (cy 39 X G e) aa5;have aa2:=pT l.prog w base (cy 40 X G e) B;have aaC:=rl l.prog w base (cy 41 X G e) aa2 B;have aaa:=pU l.prog w base (cy 42 X G e) B;have aa8:=rk l.prog w base (cy 43 X G e) B;have aaI:=uj l.prog w base (cy 44 X G e) B;have aa0:=rn l.prog w base (cy 45 X G e) aaI;have aau:=pR l.prog w base (cy 46 X G e) aa2 aa0 B;have aaB:=ro l.prog w base (cy 47 X G e) aa0 B;have aav:=pQ l.prog w base (cy 48 X G e) aa0 aau aaB B;have aaJ:=ui l.prog w base (cy 49 X G e) B;have aaO:=wa l.prog w base (cy 50 X G e) aa8 aa2 aaa B;have aah:=mU l.prog w base (cy 51 X G e) aa2 aa8 aaa B;have aaw:=pP l.prog w base (cy 52 X G e) aaC aa2 aaa aa8 aav aa5 aa0 aaJ aaO aah B;exact(Jy l.prog w base aaU aam aaw).h
end G
namespace Tr
open PySem
noncomputable abbrev RR(cs ls:List T):T:=.tup [.tup cs,.tup ls]
mutual
def T.pl:T->Bool
 |.scr _=>ZD
 |.dct _ _=>ZD
 |.tup l=>plS l
 |.lst l=>plS l
 |_=>ZC
def plS:List T->Bool
 |[] =>ZC
 |t::l=>t.pl&&plS l
end
theorem lT:∀{l:List T}{t:T},plS l=ZC->t∈l->t.pl=ZC
 |[],_,_,h=>by cases h
 |u::l,t,h,m=>by
  unfold plS at h;rw[Oa]at h;rcases Oh.mp m with rfl|m
  .exact h.1
  .exact lT h.2 m
mutual
theorem T.KB:∀(t:T),t.pl=ZC->t.nd=ZC
 |.non,_=>rfl
 |.bl _,_=>rfl
 |.int _,_=>rfl
 |.str _,_=>rfl
 |.scr _,h=>by cases h
 |.dct _ _,h=>by cases h
 |.tup l,h=>by unfold T.pl at h;unfold T.nd;exact plS_nds l h
 |.lst l,h=>by unfold T.pl at h;unfold T.nd;exact plS_nds l h
theorem plS_nds:∀(l:List T),plS l=ZC->nds l=ZC
 |[],_=>rfl
 |t::l,h=>by unfold plS at h;rw[Oa]at h;unfold nds;rw[T.KB t h.1,plS_nds l h.2];rfl
end
variable{fe:Y2}{h:T->T}
theorem yx:∀(ts:List T)(Z:En),0<Z.length->(∀t∈ts,fe (Z.set 0 (.va t))=.ok (h t))->eE (gN 0) bT fe ts Z=.ok (ts.map h)
 |[],_,_,_=>rfl
 |t::r,Z,hl,hf=>by
  unfold eE;have e1:gN 0 t Z=.ok (Z.set 0 (.va t)):=by unfold gN;rw[if_pos hl]
  have ih:=yx r (Z.set 0 (.va t)) (by rw[P6];exact hl) (λu hu=>by rw[Wy];exact hf u (N9 _ hu));simp only[e1,aH,bT,if_true,hf t Of,ih,Od]
theorem r8{fc:Y3}{p:T->Bool}:∀(ts:List T)(Z:En),0<Z.length->(∀t∈ts,fc (Z.set 0 (.va t))=.ok (p t)/\(p t=ZC->fe (Z.set 0 (.va t))=.ok (h t)))->eE (gN 0) fc fe ts Z=.ok ((ts.filter p).map h)
 |[],_,_,_=>rfl
 |t::r,Z,hl,hf=>by
  unfold eE;have e1:gN 0 t Z=.ok (Z.set 0 (.va t)):=by unfold gN;rw[if_pos hl]
  have ih:=r8 r (Z.set 0 (.va t)) (by rw[P6];exact hl) (λu hu=>by rw[Wy];exact hf u (N9 _ hu));obtain⟨h1,h2⟩:=hf t Of;simp only[e1,aH,h1];cases q:p t with
  |true=>simp only[if_true,h2 q,aH,ih,SX,q,Od]
  |false=>simp only[Qg,if_false,ih,SX,q]
theorem sI(p:T->Bool):∀l:List T,qL (l.map λt=>T.bl (p t))=ZA (l.map p)
 |[] =>rfl
 |t::l=>by rw[Od,qL,sI p l];rfl
def all_map(p:T->Bool)(l:List T):rB [.lst (l.map λt=>T.bl (p t))]=.ok (.bl (l.all p)):=by simp only[rB,sI,Wt];rfl
def jZ{l:List α}{k:Nat}{t:α}(h:l[k]?=ZA t):L2.atI l (k:Int)=ZA t:=by have hk:k<l.length:=(Oj.mp h).1;unfold L2.atI L2.ixN;rw[if_pos (by omega),if_pos (by omega),PD];exact h
def aB{k:Nat}(h:n<=k)(hk:autoParam (k<=1000) s_):n<=ZI:=by unfold ZI;omega
variable{fi:Y0}{g:T->En->Rs En}{ks:List T}{x:Rs T}
section
variable {f fa fb fc:Y2}{fs:Y0}{b c:Y3}{F G:Y1}{Z Z' Z1 Z2:En}{t u r:T}{ts l m:List T}
variable{g:T->T->Rs T}
def ay(ha:fa Z=.ok t)(hb:fb Z=.ok u)(hg:g t u=x):o2 g fa fb Z=x:=by unfold o2;rw[ha,hb];exact hg
def L5{c:Str}(ha:fa Z=.err c):o2 g fa fb Z=.err c:=by unfold o2;rw[ha];rfl
def Gu{g:T->Rs T}(ha:fa Z=.ok t)(hg:g t=x):o1 g fa Z=x:=by unfold o1;rw[ha];exact hg
def L4{vs:List T}(ha:fa Z=.ok (.dct ks vs))(hb:fb Z=.ok u)(hg:g (.dct ks vs) u=x):oD g fa fb Z=x:=by unfold oD;rw[ha];show(fb Z >>= g (.dct ks vs))=_;rw[hb];exact hg
def k_oL(ha:fa Z=.ok (.lst ks))(hb:fb Z=.ok u)(hg:g (.lst ks) u=x):oL g fa fb Z=x:=by unfold oL;rw[ha];show(fb Z >>= g (.lst ks))=_;rw[hb];exact hg
def ar(h:f Z=.ok t)(hs:fs Z=.ok ts):ae f fs Z=.ok (t::ts):=by unfold ae;rw[h,hs];rfl
def Gx{c:Str}(h:f Z=.err c):ae f fs Z=.err c:=by unfold ae;rw[h];rfl
variable{g:List T->Rs T}
def aE(h:fs Z=.ok ts)(hg:g ts=x):cl g fs Z=x:=by unfold cl;rw[h];exact hg
def Mc{c:Str}(h:fs Z=.err c):cl g fs Z=.err c:=by unfold cl;rw[h];rfl
def bx(h:f Z=.ok (.bl k)):tb f Z=.ok k:=by unfold tb;rw[h];rfl
def HI{c:Str}(h:f Z=.err c):tb f Z=.err c:=by unfold tb;rw[h];rfl
def dX(h:b Z=.ok k):fO b Z=.ok (!k):=by unfold fO;rw[h];rfl
def J1{c:Str}(h:b Z=.err c):fO b Z=.err c:=by unfold fO;rw[h];rfl
def wJ(h:b Z=.ok ZC):vX b c Z=.ok ZC:=by unfold vX;rw[h];rfl
def l7{x:Rs Bool}(h:b Z=.ok ZD)(h2:c Z=x):vX b c Z=x:=by unfold vX;rw[h];exact h2
def DM(h:b Z=.ok ZD):qP b c Z=.ok ZD:=by unfold qP;rw[h];rfl
def yC{x:Rs Bool}(h:b Z=.ok ZC)(h2:c Z=x):qP b c Z=x:=by unfold qP;rw[h];exact h2
def jh(h:fa Z=.ok (.bl ZC)):dO fa fb Z=fb Z:=by unfold dO;rw[h];rfl
def md(h:fa Z=.ok (.bl ZD)):dO fa fb Z=.ok (.bl ZD):=by unfold dO;rw[h];rfl
def l9{q:Bool}(h:fa Z=.ok (.bl p))(h2:p=ZC->fb Z=.ok (.bl q)):dO fa fb Z=.ok (.bl (p&&q)):=by
 cases p with
 |true=>rw[jh h,h2 rfl];rfl
 |false=>rw[md h];rfl
def DE(h:fa Z=.ok (.bl ZC)):F8 fa fb Z=.ok (.bl ZC):=by unfold F8;rw[h];rfl
def DF(h:fa Z=.ok (.bl ZD)):F8 fa fb Z=fb Z:=by unfold F8;rw[h];rfl
def J0{q:Bool}(h:fa Z=.ok (.bl p))(h2:p=ZD->fb Z=.ok (.bl q)):F8 fa fb Z=.ok (.bl (p||q)):=by
 cases p with
 |true=>rw[DE h];rfl
 |false=>rw[DF h,h2 rfl];rfl
def DG(h:fa Z=.ok (.bl k)):o1 uo fa Z=.ok (.bl (!k)):=Gu h rfl
def wK(h:b Z=.ok p):DT b fa fb Z=if p then fa Z else fb Z:=by unfold DT;rw[h];rfl
variable{g:T->En->Rs En}
def bM(h:f Z=.ok t)(hg:g t Z=.ok Z'):cI f g Z=.ok (.nx Z'):=by unfold cI;rw[h];show(match g t Z with|.ok Z'=>Rs.ok (Fl.nx Z')|_=>.bad)=_;rw[hg]
def Md{c:Str}(h:f Z=.err c):cI f g Z=.err c:=by unfold cI;rw[h];rfl
def aw(h:F Z=.ok (.nx Z')):aD F G Z=G Z':=by unfold aD;rw[h];rfl
def fB(h:F Z=.ok (.rt t)):aD F G Z=.ok (.rt t):=by unfold aD;rw[h];rfl
def DB(h:F Z=.ok (.ct Z')):aD F G Z=.ok (.ct Z'):=by unfold aD;rw[h];rfl
def jg{c:Str}(h:F Z=.err c):aD F G Z=.err c:=by unfold aD;rw[h];rfl
def dA(h:b Z=.ok ZC):gE b F G Z=F Z:=by unfold gE;rw[h];rfl
def dt(h:b Z=.ok ZD):gE b F G Z=G Z:=by unfold gE;rw[h];rfl
def DI{c:Str}(h:b Z=.err c):gE b F G Z=.err c:=by unfold gE;rw[h];rfl
def bB(h:f Z=.ok t):aW f Z=.ok (.rt t):=by unfold aW;rw[h];rfl
def uD{c:Str}(h:f Z=.err c):aW f Z=.err c:=by unfold aW;rw[h];rfl
def uG(h:f Z=.ok t):xT f Z=.ok (.nx Z):=by unfold xT;rw[h];rfl
def sf{c:Str}(h:f Z=.err c):xT f Z=.err c:=by unfold xT;rw[h];rfl
def fT{x:Fl}(h:fi Z=.ok ts)(h2:bD g F ts Z=.ok x):d7 fi g F Z=.ok x:=by unfold d7;rw[h];show(match bD g F ts Z with|.ok f=>Rs.ok f|_=>.bad)=_;rw[h2]
def dM(h:g t Z=.ok Z1)(h2:F Z1=.ok (.nx Z2)):bD g F (t::ts) Z=bD g F ts Z2:=by rw[bD,h];show(F Z1 >>= _)=_;rw[h2];rfl
def Gw(h:g t Z=.ok Z1)(h2:F Z1=.ok (.ct Z2)):bD g F (t::ts) Z=bD g F ts Z2:=by rw[bD,h];show(F Z1 >>= _)=_;rw[h2];rfl
def Gv(h:g t Z=.ok Z1)(h2:F Z1=.ok (.rt r)):bD g F (t::ts) Z=.ok (.rt r):=by rw[bD,h];show(F Z1 >>= _)=_;rw[h2];rfl
def wG(h:c Z=.ok ZD):cf c F (n+1) Z=.ok (.nx Z):=by unfold cf;rw[h]
def qw(h:c Z=.ok ZC)(h2:F Z=.ok (.nx Z')):cf c F (n+1) Z=cf c F n Z':=by rw[cf,h];simp only[h2]
def Dz(h:c Z=.ok ZC)(h2:F Z=.ok (.rt t)):cf c F (n+1) Z=.ok (.rt t):=by rw[cf,h];simp only[h2]
def aZ{m:Nat}(hl:ts.length=n)(h:F (bZ m ts)=.ok (.rt t)):val n m F ts=.ok t:=by unfold val;rw[if_pos hl];unfold fo;rw[h];rfl
def fA{m:Nat}{c:Str}(hl:ts.length=n)(h:F (bZ m ts)=.err c):val n m F ts=.err c:=by unfold val;rw[if_pos hl];unfold fo;rw[h];rfl
def yA{m:Nat}(hl:ts.length=n)(h:F (bZ m ts)=.ok (.nx Z)):val n m F ts=.ok .non:=by unfold val;rw[if_pos hl];unfold fo;rw[h];rfl
def HH{h:Str->Rs T}{k:Fl}(e:F Z=.ok k):vG F h Z=.ok k:=by unfold vG;rw[e]
def DA{h:Str->Rs T}{c:Str}(e:F Z=.err c)(e2:h c=.ok t):vG F h Z=.ok (.rt t):=by unfold vG;rw[e];simp only[e2]
def m7{src:List (Option Nat)}(hi:fi Z=.ok ts)(hs:ts.length<=ZI)(hn:0<src.length)(hf:∀t∈ts,fe ((bU src Z).set 0 (.va t))=.ok (h t)):
  d6 fi src (gN 0) bT fe Z=.ok (.lst (ts.map h)):=by
 have e:=yx (fe:=fe) (h:=h) ts (bU src Z) (by unfold bU;rw[Oc];exact hn) hf;unfold d6;rw[hi,aH,if_pos hs,e]
def l8{src:List (Option Nat)}{fc:Y3}{p:T->Bool}(hi:fi Z=.ok ts)(hs:ts.length<=ZI)(hn:0<src.length)
  (hf:∀t∈ts,fc ((bU src Z).set 0 (.va t))=.ok (p t)/\(p t=ZC->fe ((bU src Z).set 0 (.va t))=.ok (h t))):d6 fi src (gN 0) fc fe Z=.ok (.lst ((ts.filter p).map h)):=by
 have e:=r8 (fc:=fc) (fe:=fe) (p:=p) (h:=h) ts (bU src Z) (by unfold bU;rw[Oc];exact hn) hf;unfold d6;rw[hi,aH,if_pos hs,e]
def dy(h:fs Z=.ok ts)(hl:ts.length<=ZI):aP fs Z=.ok (.tup ts):=by unfold aP;rw[h];show k7 ts=_;unfold k7;rw[if_pos hl]
def jS(h:fs Z=.ok ts)(hl:ts.length<=ZI):dz fs Z=.ok (.lst ts):=by unfold dz;rw[h];show k8 ts=_;unfold k8;rw[if_pos hl]
def DH{f:Y0}(h:f Z=.ok l)(hi:i<Z.length)(hl:l.length<=1000):jy i f Z=.ok (.nx (Z.set i (.ow (.lst l)))):=by unfold jy;rw[h,aH,if_pos ⟨hi,aB hl (by omega)⟩]
def uE(hi:i<Z.length):jy i aj Z=.ok (.nx (Z.set i (.ow (.lst [])))):=DH rfl hi (Pk _)
def nQ(h:f Z=.ok t)(hi:Z[i]?=ZA (.ow (.lst l)))(hl:l.length<=1000):iU i f Z=.ok (.nx (Z.set i (.ow (.lst (l++[t]))))):=by unfold iU;rw[hi];simp only[h,aH];rw[if_pos (by unfold ZI;omega)]
def DJ(h:f Z=.ok (.lst m))(hi:Z[i]?=ZA (.ow (.lst l)))(hl:l.length+m.length<=1000):pz i f Z=.ok (.nx (Z.set i (.ow (.lst (l++m))))):=by unfold pz;rw[hi];simp only[h,aH,Kg];rw[if_pos (by unfold ZI;omega)]
def J3(h:f Z=.ok (.tup l)):iS f Z=.ok l:=by unfold iS;rw[h];rfl
def ir(h:f Z=.ok (.lst l)):iS f Z=.ok l:=by unfold iS;rw[h];rfl
def L8(h:fs Z=.ok [.lst l]):iE fs Z=.ok (dN 0 l):=by unfold iE;rw[h];rfl
def gu(e:l[n]?=ZA t):aU (.tup l) (.int (n:Int))=.ok t:=by show(match L2.atI l _ with|some t=>Rs.ok t|none=>.bad)=_;rw[jZ e]
def yB(e:l[n]?=ZA t):aU (.lst l) (.int (n:Int))=.ok t:=by show(match L2.atI l _ with|some t=>Rs.ok t|none=>.bad)=_;rw[jZ e]
def rz(h:fa Z=.ok (.tup l))(h2:fb Z=.ok (.int (n:Int)))(e:l[n]?=ZA t):o2 aU fa fb Z=.ok t:=ay h h2 (gu e)
def HJ(h:fa Z=.ok (.lst l))(h2:fb Z=.ok (.int (n:Int)))(e:l[n]?=ZA t):o2 aU fa fb Z=.ok t:=ay h h2 (yB e)
def wI{fl fu:En->Rs (Option Int)}(h:fe Z=.ok (.tup l))(h1:fl Z=.ok lo)(h2:fu Z=.ok hi):sl fe fl fu Z=.ok (.tup (oj l lo hi)):=by unfold sl;rw[h,h1,h2];rfl
def wH{fl fu:En->Rs (Option Int)}(h:fe Z=.ok (.lst l))(h1:fl Z=.ok lo)(h2:fu Z=.ok hi):sl fe fl fu Z=.ok (.lst (oj l lo hi)):=by unfold sl;rw[h,h1,h2];rfl
def qx{i:Int}(h:f Z=.ok (.int i)):pS f Z=.ok (ZA i):=by unfold pS;rw[h];rfl
def fH(l:List T)(n:Nat):oj l ZB (ZA (n:Int))=l.take n:=by unfold oj;rw[HT.sIx_none,HT.sIx_nat,List.drop_zero,SL,List.take_eq_take_iff];omega
def mw(l:List T)(n:Nat):oj l (ZA (n:Int)) ZB=l.drop n:=by
 unfold oj;rw[HT.sIx_none,HT.sIx_nat];by_cases h:n<=l.length
 .rw[Nat.min_eq_left h];exact Sv (by rw[QL];omega)
 .rw[Nat.min_eq_right (by omega),Q2 (Ou _),Q2 (by omega),List.take_nil]
def DD{ms:List (List T->Rs T)}{g:List T->Rs T}(h0:f Z=.ok (.int (i:Nat)))(hm:ms[i]?=ZA g)(hf:fs Z=.ok ts)(hx:g ts=x):AD ms f fs Z=x:=by unfold AD;rw[h0,aH];simp only[jZ hm];rw[hf];exact hx
def J2{o:OT}(hi:Z[i]?=ZA (.ow o))(h:f (disown i Z)=.ok t)(hk:t.nk o.isD=ZC):ln i f Z=.ok t:=by unfold ln;rw[hi];simp only[h,aH,hk,if_true]
def L6(h:b (disown i Z)=.ok k):JO i b Z=.ok k:=h
def DK{x:Rs Fl}(h:F (disown i Z)=x):nX i F Z=x:=h
end
def mk2(a b:T):k7 [a,b]=.ok (.tup [a,b]):=by unfold k7;rw[if_pos (aB (k:=1000) (by simp only[Ol,UJ];omega))]
def lP(n:Nat):(rng 0 n).length=n:=by unfold rng;rw[Oc,OV];omega
end Tr
variable{M k:Nat}{m s:Int}{w:List Nat}
namespace Gr
variable {ν:Type}[DecidableEq ν]
abbrev bS(ν:Type):=List (ν×ν×Int)
inductive Wk (L:bS ν):ν->ν->Int->Prop
 |nil (a:ν):Wk L a a 0
 |step {a b c:ν} {m s:Int}:(a,b,m)∈L->Wk L b c s->Wk L a c (m+s)
def Wk.one{L:bS ν}{a b:ν}(h:(a,b,m)∈L):Wk L a b m:=by have:=Wk.step h (Wk.nil b);rwa [Int.add_zero]at this
def Wk.app{L:bS ν}{a b c:ν}{t:Int}(h:Wk L a b s)(k:Wk L b c t):Wk L a c (s+t):=by
 induction h with
 |nil a=>rwa [Int.zero_add]
 |step e _ ih=>rw[Int.add_assoc];exact .step e (ih k)
def Wk.mono{L M:bS ν}(h:∀x∈L,x∈M){a b:ν}(w:Wk L a b s):Wk M a b s:=by
 induction w with
 |nil a=>exact .nil a
 |step e _ ih=>exact .step (h _ e) ih
def Holds(L:bS ν)(t:ν->Int):Prop:=∀a b m,(a,b,m)∈L->t b - t a<=m
def Holds.walk{L:bS ν}{t:ν->Int}(h:Holds L t){a b:ν}(w:Wk L a b s):t b - t a<=s:=by
 induction w with
 |nil a=>omega
 |step e _ ih=>have:=h _ _ _ e;omega
def NoNeg(L:bS ν):Prop:=∀a s,Wk L a a s->0<=s
def Holds.Nx{L:bS ν}{t:ν->Int}(h:Holds L t):NoNeg L:=λa s w=>by have:=h.walk w;omega
theorem NoNeg.mono{L M:bS ν}(h:∀x∈L,x∈M)(n:NoNeg M):NoNeg L:=λa s w=>n a s (w.mono h)
def Ch(L:bS ν):ν->List Nat->ν->Prop
 |a,[],b=>a=b
 |a,k::r,b=>∃c m,L[k]?=ZA (a,c,m)/\Ch L c r b
noncomputable def most(L:bS ν)(k:Nat):Int:=match L[k]? with
 |some x=>x.2.2
 |none=>0
noncomputable def fQ(L:bS ν):List Nat->Int
 |[] =>0
 |k::r=>most L k+fQ L r
theorem mx(L:bS ν):∀(p q:List Nat),fQ L (p++q)=fQ L p+fQ L q
 |[],q=>by simp[fQ]
 |k::p,q=>by rw[WN,fQ,fQ,mx L p q];omega
theorem Ch.wk{L:bS ν}:∀{ks:List Nat}{a b:ν},Ch L a ks b->Wk L a b (fQ L ks)
 |[],a,b,h=>by cases h;exact .nil a
 |k::r,a,b,⟨c,m,e,h⟩=>by
  have:fQ L (k::r)=m+fQ L r:=by rw[fQ,most,e]
  rw[this];exact .step (Pz e) h.wk
theorem Ch.app{L:bS ν}:∀{p q:List Nat}{a b c:ν},Ch L a p b->Ch L b q c->Ch L a (p++q) c
 |[],q,a,b,c,h,k=>by cases h;exact k
 |x::p,q,a,b,c,⟨d,m,e,h⟩,k=>⟨d,m,e,Ch.app h k⟩
theorem Ch.lt{L:bS ν}:∀{ks:List Nat}{a b:ν},Ch L a ks b->∀k∈ks,k<L.length
 |[],_,_,_,k,hk=>by simp at hk
 |x::r,a,b,⟨c,m,e,h⟩,k,hk=>by
  rcases Oh.mp hk with rfl|hk
  .exact(Oj.mp e).1
  .exact h.lt k hk
def Ch.snoc{L:bS ν}{p:List Nat}{a b c:ν}(h:Ch L a p b)(e:L[k]?=ZA (b,c,m)):Ch L a (p++[k]) c:=h.app ⟨c,m,e,rfl⟩
noncomputable def src(L:bS ν)(k:Nat):Option ν:=(L[k]?).map (·.1)
abbrev cP(ν:Type):=ν->Option (Int×List Nat)
noncomputable def put(b:cP ν)(v:ν)(x:Int×List Nat):cP ν:=λu=>if u=v then ZA x else b u
variable{x:Int×List Nat}
def ft{b:cP ν}{v:ν}:put b v x v=ZA x:=by unfold put;rw[if_pos rfl]
def lh{b:cP ν}{u v:ν}(h:u≠v):put b v x u=b u:=by unfold put;rw[if_neg h]
noncomputable def gj(L:bS ν)(ks:List Nat):List ν:=ks.filterMap (src L)
noncomputable def fJ(b:cP ν)(v:ν)(d:Int):Bool:=match b v with
 |none=>ZC
 |some x=>decide (d<x.1)
noncomputable def iV(L:bS ν)(b:cP ν)(k:Nat)(x:ν×ν×Int):Sum (Option (cP ν)) (List Nat):=match b x.1 with
 |none=>.inl ZB
 |some (d,w)=>if fJ b x.2.1 (d+x.2.2)=ZC then
   if x.2.1∈gj L (w++[k])then .inr ((w++[k]).drop ((gj L (w++[k])).idxOf x.2.1))else .inl (ZA (put b x.2.1 (d+x.2.2,w++[k])))
  else .inl ZB
noncomputable def jv(L:bS ν):Nat->bS ν->cP ν->Bool->Sum (cP ν×Bool) (List Nat)
 |_,[],b,mv=>.inl (b,mv)
 |k,x::r,b,mv=>match iV L b k x with
  |.inr q=>.inr q
  |.inl ZB=>jv L (k+1) r b mv
  |.inl (ZA b')=>jv L (k+1) r b' ZC
noncomputable def settle(L:bS ν):Nat->cP ν->Option (Sum (cP ν) (List Nat))
 |0,_=>ZB
 |n+1,b=>match jv L 0 L b ZD with
  |.inr q=>ZA (.inr q)
  |.inl (b',ZC)=>settle L n b'
  |.inl (b',ZD)=>ZA (.inl b')
def tZ(L:bS ν)(p q:List Nat):gj L (p++q)=gj L p++gj L q:=by unfold gj;rw[List.filterMap_append]
def tY{L:bS ν}{x:ν×ν×Int}(e:L[k]?=ZA x):gj L [k]=[x.1]:=by unfold gj src;simp[e]
def Ch.M4{L:bS ν}{r:List Nat}{a b:ν}(h:Ch L a (k::r) b):gj L (k::r)=a::gj L r:=by obtain⟨c,m,e,_⟩:=h;rw[show k::r=[k] ++r from rfl,tZ,tY e];rfl
theorem Ch.cut{L:bS ν}{v:ν}:∀{ks:List Nat}{a b:ν},Ch L a ks b->v∈gj L ks->Ch L a (ks.take ((gj L ks).idxOf v)) v/\Ch L v (ks.drop ((gj L ks).idxOf v)) b/\(gj L ks).idxOf v<ks.length
 |[],a,b,_,hv=>by simp[gj]at hv
 |k::r,a,b,h,hv=>by
  rw[h.M4]at hv ⊢;have h0:=h;obtain⟨c,m,e,h⟩:=h;by_cases z:a=v
  .subst z;rw[List.idxOf_cons_self];exact⟨rfl,h0,by simp⟩
  .have hv':v∈gj L r:=by
    rcases Oh.mp hv with q|q
    .exact absurd q.symm z
    .exact q
   obtain⟨h1,h2,h3⟩:=h.cut hv';have ei:(a::gj L r).idxOf v=(gj L r).idxOf v+1:=by
    rw[Xg];have:(a == v)=ZD:=by rw[beq_eq_false_iff_ne];exact z
    rw[this];rfl
   rw[ei];exact⟨⟨c,m,e,h1⟩,h2,by simpa using h3⟩
structure Kept (L:bS ν)(S:List ν)(b:cP ν):Prop where
 walk:∀v d w,b v=ZA (d,w)->∃s∈S,Ch L s w v/\fQ L w=d/\v∉gj L w/\(gj L w).Nodup/\∀p q u,w=p++q->Ch L s p u->∃d' w',b u=ZA (d',w')/\d'<=fQ L p
 start:∀s∈S,∃d w,b s=ZA (d,w)/\d<=0
theorem Kept.put{L:bS ν}{S:List ν}{b:cP ν}(K:Kept L S b){a c:ν}(e:L[k]?=ZA (a,c,m))(ha:b a=ZA (d,w))(hb:fJ b c (d+m)=ZC)(hn:c∉gj L (w++[k])):
  Kept L S (put b c (d+m,w++[k])):=by
 have low:∀u d' w',b u=ZA (d',w')->∃d'' w'',Gr.put b c (d+m,w++[k]) u=ZA (d'',w'')/\d''<=d':=λu d' w' h=>by
  by_cases z:u=c
  .subst z;refine⟨_,_,ft,?_⟩;unfold fJ at hb;rw[h]at hb;have:=of_decide_eq_true hb;omega
  .exact⟨d',w',by rw[lh z];exact h,Qb _⟩
 obtain⟨s,hs,h1,h2,h3,h4,h5⟩:=K.walk a d w ha;have hch:Ch L s (w++[k]) c:=h1.snoc e;have hcost:fQ L (w++[k])=d+m:=by rw[mx,h2,fQ,fQ,most,e];simp
 refine⟨λv d' w' h=>?_,λs' hs'=>?_⟩
 .by_cases z:v=c
  .subst z;rw[ft]at h;cases h;refine⟨s,hs,hch,hcost,hn,?_,λp q u hpq hp=>?_⟩
   .rw[tZ,tY e];exact PV.mpr ⟨h4,by simp,λx hx y hy=>by simp at hy;subst hy;exact λz=>h3 (z▸hx)⟩
   .by_cases hq:q=[]
    .subst hq;rw[PB]at hpq;subst hpq;have:u=v:=by
      clear low hb hn h5;have aux:∀{ks:List Nat}{x y z:ν},Ch L x ks y->Ch L x ks z->y=z:=by
       intro ks;induction ks with
       |nil=>intro x y z h1 h2;cases h1;cases h2;rfl
       |cons k r ih=>
        rintro x y z ⟨c1,m1,e1,r1⟩ ⟨c2,m2,e2,r2⟩;rw[e1]at e2;cases e2;exact ih r1 r2
      exact aux hp hch
     subst this;exact⟨_,_,ft,by rw[hcost];exact Qb _⟩
    .have hw:∃q',w=p++q':=by refine⟨q.dropLast,?_⟩;have:=congrArg List.dropLast hpq;rw[List.dropLast_concat,List.dropLast_append_of_ne_nil hq]at this;exact this
     obtain⟨q',hw⟩:=hw;obtain⟨d1,w1,e1,l1⟩:=h5 p q' u hw hp;obtain⟨d2,w2,e2,l2⟩:=low u d1 w1 e1;exact⟨d2,w2,e2,by omega⟩
  .rw[lh z]at h;obtain⟨s',hs',g1,g2,g3,g4,g5⟩:=K.walk v d' w' h;refine⟨s',hs',g1,g2,g3,g4,λp q u hpq hp=>?_⟩;obtain⟨d1,w1,e1,l1⟩:=g5 p q u hpq hp;obtain⟨d2,w2,e2,l2⟩:=low u d1 w1 e1;exact⟨d2,w2,e2,by omega⟩
 .obtain⟨d1,w1,e1,l1⟩:=K.start s' hs';obtain⟨d2,w2,e2,l2⟩:=low s' d1 w1 e1;exact⟨d2,w2,e2,by omega⟩
def Bar(L:bS ν)(q:List Nat):Prop:=q≠ []/\(∃a,Ch L a q a)/\fQ L q<0/\(gj L q).Nodup
theorem Ch.Nf{L:bS ν}:∀{ks:List Nat}{a b:ν}(i:Nat),Ch L a ks b->gj L (ks.drop i)=(gj L ks).drop i
 |[],_,_,i,_=>by simp[gj]
 |k::r,a,b,0,_=>rfl
 |k::r,a,b,i+1,h=>by have:=h;obtain⟨c,m,e,h'⟩:=this;rw[h.M4,Vn,Vn,h'.Nf i]
def Kept.round{L:bS ν}{S:List ν}{b:cP ν}(K:Kept L S b){a c:ν}(e:L[k]?=ZA (a,c,m))(ha:b a=ZA (d,w))(hb:fJ b c (d+m)=ZC)(hn:c∈gj L (w++[k])):
  Bar L ((w++[k]).drop ((gj L (w++[k])).idxOf c)):=by
 obtain⟨s,hs,h1,h2,h3,h4,h5⟩:=K.walk a d w ha;have hch:Ch L s (w++[k]) c:=h1.snoc e;have hcost:fQ L (w++[k])=d+m:=by rw[mx,h2,fQ,fQ,most,e];simp
 obtain⟨c1,c2,c3⟩:=hch.cut hn;generalize hi:(gj L (w++[k])).idxOf c=i at c1 c2 c3;refine⟨λz=>?_,⟨c,c2⟩,?_,?_⟩
 .have:=congrArg PC z;rw[QL]at this;simp at this c3;omega
 .have hsum:fQ L ((w++[k]).take i)+fQ L ((w++[k]).drop i)=d+m:=by rw[<-mx,SO,hcost]
  have hiw:i<=w.length:=by simp at c3;omega
  have ht:(w++[k]).take i=w.take i:=by rw[List.take_append_of_le_length hiw]
  rw[ht]at c1 hsum;obtain⟨d1,w1,e1,l1⟩:=h5 (w.take i) (w.drop i) c (SO i w).symm c1;unfold fJ at hb;rw[e1]at hb;have:=of_decide_eq_true hb;simp only at this;omega
 .rw[hch.Nf,tZ,tY e];refine(List.drop_sublist _ _).nodup (PV.mpr ⟨h4,by simp,λx hx y hy=>?_⟩);rw[OF.mp hy];exact λz=>h3 (by have z:x=a:=z;rw[<-z];exact hx)
noncomputable def size(L:bS ν):Nat:=(L.map λx=>x.2.2.natAbs).sum
theorem kX{f:Nat->Nat}:∀{ks rs:List Nat},ks.Nodup->(∀k∈ks,k∈rs)->(ks.map f).sum<=(rs.map f).sum
 |[],rs,_,_=>by simp
 |k::ks,rs,hn,hs=>by
  have hk:k∈rs:=hs k Of;rw[O0]at hn;have hp:=List.perm_cons_erase hk;have e:(rs.map f).sum=f k+((rs.erase k).map f).sum:=by have:=(hp.map f).sum_nat;rwa [Od,QP]at this
  rw[e,Od,QP];have:=kX (f:=f) hn.2 λj hj=>by have h1:=hs j (N9 _ hj);exact(U8 (λ(z:j=k)=>hn.1 (z▸hj))).mpr h1
  omega
def xQ(L:bS ν):size L=((Oo L.length).map λk=>(most L k).natAbs).sum:=by
 unfold size;congr 1;apply R3
 .simp
 .intro i h1 h2;simp only[Rw,TB];unfold most;rw[Og (by simpa using h1)]
theorem Ak(L:bS ν):∀(ks:List Nat),(fQ L ks).natAbs<=(ks.map λk=>(most L k).natAbs).sum
 |[] =>by simp[fQ]
 |k::r=>by have:=Ak L r;rw[fQ,Od,QP];omega
theorem Ch.nodup{L:bS ν}:∀{ks:List Nat}{a b:ν},Ch L a ks b->(gj L ks).Nodup->ks.Nodup
 |[],_,_,_,_=>Re
 |k::r,a,b,h,hn=>by have h0:=h;rw[h.M4,O0]at hn;obtain⟨c,m,e,h⟩:=h;rw[O0];refine⟨λhk=>hn.1 ?_,h.nodup hn.2⟩;unfold gj src;exact Tw.mpr ⟨k,hk,by rw[e];rfl⟩
def Ch.small{L:bS ν}{a b:ν}(h:Ch L a ks b)(hn:(gj L ks).Nodup):(fQ L ks).natAbs<=size L:=by rw[xQ];exact OJ (Ak L ks) (kX (h.nodup hn) λk hk=>OZ.mpr (h.lt k hk))
noncomputable def val(M:Nat)(b:cP ν)(v:ν):Nat:=match b v with
 |none=>2*M+1
 |some x=>(x.1+M).toNat
noncomputable def left(M:Nat)(b:cP ν)(L:bS ν):Nat:=(L.map λx=>val M b x.2.1).sum
theorem zQ{b b':cP ν}:∀{L:bS ν},(∀x∈L,val M b' x.2.1<=val M b x.2.1)->left M b' L<=left M b L
 |[],_=>by simp[left]
 |x::L,h=>by have h1:=h x Of;have h2:=zQ λy hy=>h y (N9 _ hy);unfold left at h2 ⊢;rw[Od,QP,Od,QP];omega
theorem zP{b b':cP ν}{x:ν×ν×Int}:∀{L:bS ν},x∈L->(∀x∈L,val M b' x.2.1<=val M b x.2.1)->val M b' x.2.1<val M b x.2.1->left M b' L<left M b L
 |[],hx,_,_=>by simp at hx
 |y::L,hx,h,hl=>by
  have h1:=h y Of;have h2:=zQ λy hy=>h y (N9 _ hy);unfold left at h2 ⊢;rw[Od,QP,Od,QP];rcases Oh.mp hx with rfl|hx
  .omega
  .have h3:=zP hx (λy hy=>h y (N9 _ hy)) hl;unfold left at h3;omega
def Dm{L:bS ν}{S:List ν}{b:cP ν}(K:Kept L S b){a c:ν}(e:L[k]?=ZA (a,c,m))(ha:b a=ZA (d,w))(hb:fJ b c (d+m)=ZC)(hn:c∉gj L (w++[k])):
  left (size L) (put b c (d+m,w++[k])) L<left (size L) b L:=by
 have K':=K.put e ha hb hn;obtain⟨s,hs,h1,h2,h3,h4,h5⟩:=K'.walk c (d+m) (w++[k]) ft;have sm:=h1.small h4;rw[h2]at sm;have lt:val (size L) (put b c (d+m,w++[k])) c<val (size L) b c:=by
  unfold val fJ at*;rw[ft];cases z:b c with
  |none=>simp only;omega
  |some y=>
   rw[z]at hb;have hb:=of_decide_eq_true hb;simp only;omega
 refine zP (Pz e) (λy _=>?_) lt;by_cases z:y.2.1=c
 .rw[z];exact Qc lt
 .unfold val;rw[lh z];exact Ou _
def EJ(b:cP ν)(x:ν×ν×Int):Prop:=∀d w,b x.1=ZA (d,w)->∃d' w',b x.2.1=ZA (d',w')/\d'<=d+x.2.2
def B5{b:cP ν}{x:ν×ν×Int}(h:∀d w,b x.1=ZA (d,w)->fJ b x.2.1 (d+x.2.2)=ZD):EJ b x:=λd w e=>by
 have:=h d w e;unfold fJ at this;cases z:b x.2.1 with
 |none=>rw[z]at this;cases this
 |some y=>
  rw[z]at this;have:=of_decide_eq_false this;exact⟨y.1,y.2,rfl,by omega⟩
theorem jF{L:bS ν}{S:List ν}:∀(r:bS ν)(k:Nat)(b:cP ν)(mv:Bool),L.drop k=r->Kept L S b->match jv L k r b mv with
  |.inr q=>Bar L q
  |.inl (b',mv')=>Kept L S b'/\(mv'=ZD->mv=ZD/\b'=b/\∀x∈r,EJ b x)/\left (size L) b' L<=left (size L) b L/\(mv'=ZC->mv=ZC\/left (size L) b' L<left (size L) b L)
 |[],k,b,mv,_,K=>⟨K,λh=>⟨h,rfl,λx hx=>by simp at hx⟩,Ou _,λh=>.inl h⟩
 |x::r,k,b,mv,hr,K=>by
  have e:L[k]?=ZA x:=by have:=congrArg (·[0]?) hr;simpa using this
  have hr':L.drop (k+1)=r:=by have:=congrArg (List.drop 1) hr;simpa [List.drop_drop,Wq]using this
  rw[jv];obtain⟨a,c,m⟩:=x;unfold iV;cases z:b a with
  |none=>
   simp only[z];have ih:=jF r (k+1) b mv hr' K;revert ih;generalize jv L (k+1) r b mv=R;cases R with
   |inr q=>exact id
   |inl p=>
    obtain⟨b',mv'⟩:=p;rintro ⟨i1,i2,i3,i4⟩;refine⟨i1,λh=>?_,i3,i4⟩;obtain⟨j1,j2,j3⟩:=i2 h;refine⟨j1,j2,λx hx=>?_⟩;rcases Oh.mp hx with rfl|hx
    .intro d w q;rw[z]at q;cases q
    .exact j3 x hx
  |some y=>
   obtain⟨d,w⟩:=y;simp only[z];by_cases hb:fJ b c (d+m)=ZC
   .rw[if_pos hb];by_cases hn:c∈gj L (w++[k])
    .rw[if_pos hn];exact K.round e z hb hn
    .rw[if_neg hn];have K':=K.put e z hb hn;have lt:=Dm K e z hb hn;have ih:=jF r (k+1) (put b c (d+m,w++[k])) ZC hr' K';revert ih;simp only;generalize jv L (k+1) r (put b c (d+m,w++[k])) ZC=R;cases R with
     |inr q=>exact id
     |inl p=>
      obtain⟨b',mv'⟩:=p;rintro ⟨i1,i2,i3,i4⟩;refine⟨i1,λh=>?_,by omega,λ_=>.inr (by omega)⟩;obtain⟨j1,_⟩:=i2 h;cases j1
   .rw[if_neg hb];have ih:=jF r (k+1) b mv hr' K;revert ih;simp only;generalize jv L (k+1) r b mv=R;cases R with
    |inr q=>exact id
    |inl p=>
     obtain⟨b',mv'⟩:=p;rintro ⟨i1,i2,i3,i4⟩;refine⟨i1,λh=>?_,i3,i4⟩;obtain⟨j1,j2,j3⟩:=i2 h;refine⟨j1,j2,λx hx=>?_⟩;rcases Oh.mp hx with rfl|hx
     .refine B5 λd' w' q=>?_;simp only at q;rw[z]at q;cases q;simpa using hb
     .exact j3 x hx
structure Settled (L:bS ν)(S:List ν)(b:cP ν):Prop where
 walk:∀v d w,b v=ZA (d,w)->∃s∈S,Ch L s w v/\fQ L w=d/\v∉gj L w/\(gj L w).Nodup
 least:∀s∈S,∀v t,Wk L s v t->∃d w,b v=ZA (d,w)/\d<=t
def xR{L:bS ν}{S:List ν}{b:cP ν}(K:Kept L S b)(h:∀x∈L,EJ b x):Settled L S b where
 walk:=λv d w e=>by obtain⟨s,h1,h2,h3,h4,h5,_⟩:=K.walk v d w e;exact⟨s,h1,h2,h3,h4,h5⟩
 least:=by
  have go:∀{u v:ν}{t:Int},Wk L u v t->∀d w,b u=ZA (d,w)->∃d' w',b v=ZA (d',w')/\d'<=d+t:=by
   intro u v t hw;induction hw with
   |nil a=>exact λd w e=>⟨d,w,e,by omega⟩
   |step e _ ih=>
    intro d w q;obtain⟨d1,w1,e1,l1⟩:=h _ e d w q;obtain⟨d2,w2,e2,l2⟩:=ih d1 w1 e1;exact⟨d2,w2,e2,by simp only at l1;omega⟩
  intro s hs v t hw;obtain⟨d,w,e,l⟩:=K.start s hs;obtain⟨d2,w2,e2,l2⟩:=go hw d w e;exact⟨d2,w2,e2,by omega⟩
theorem rN{L:bS ν}{S:List ν}:∀(n:Nat)(b:cP ν),Kept L S b->left (size L) b L<n->∃r,settle L n b=ZA r/\match r with
  |.inr q=>Bar L q
  |.inl b'=>Settled L S b'
 |0,b,K,h=>by omega
 |n+1,b,K,h=>by
  have s:=jF L 0 b ZD rfl K;rw[settle];revert s;generalize jv L 0 L b ZD=R;cases R with
  |inr q=>exact λs=>⟨_,rfl,s⟩
  |inl p=>
   obtain⟨b',mv'⟩:=p;rintro ⟨i1,i2,i3,i4⟩;cases mv' with
   |false=>
    obtain⟨_,j2,j3⟩:=i2 rfl;subst j2;exact⟨_,rfl,xR i1 j3⟩
   |true=>
    rcases i4 rfl with z|z
    .cases z
    .exact rN n b' i1 (by omega)
noncomputable def start(S:List ν):cP ν:=λv=>if v∈S then ZA (0,[])else ZB
def qv(L:bS ν)(S:List ν):Kept L S (start S) where
 walk:=λv d w e=>by
  unfold start at e;split at e
  .rename_i h;cases e;refine⟨v,h,rfl,rfl,by simp[gj],by simp[gj],λp q u hpq hp=>?_⟩;obtain⟨rfl,rfl⟩:=List.append_eq_nil_iff.mp hpq.symm;cases hp;exact⟨0,[],by unfold start;rw[if_pos h],by simp[fQ]⟩
  .cases e
 start:=λs hs=>⟨0,[],by unfold start;rw[if_pos hs],Qb _⟩
def Dn(L:bS ν)(S:List ν):left (size L) (start S) L<=L.length*(2*size L+1):=by
 unfold left;have:∀M:bS ν,(M.map λx=>val (size L) (start S) x.2.1).sum<=M.length*(2*size L+1):=by
  intro M;induction M with
  |nil=>simp
  |cons x M ih=>
   rw[Od,QP,Ol,Nat.succ_mul];have:val (size L) (start S) x.2.1<=2*size L+1:=by
    unfold val start;split
    .exact Ou _
    .rename_i h;split at h
     .cases h;simp;omega
     .cases h
   omega
 exact this L
theorem xS(L:bS ν)(S:List ν)(h:L.length*(2*size L+1)<n):∃r,settle L n (start S)=ZA r/\match r with
  |.inr q=>Bar L q
  |.inl b'=>Settled L S b':=rN n (start S) (qv L S) (RD (Dn L S) h)
def Bar.neg{L:bS ν}{q:List Nat}(h:Bar L q):¬ NoNeg L:=λn=>by obtain⟨_,⟨a,ha⟩,hc,_⟩:=h;have:=n a _ ha.wk;omega
def Settled.holds{L:bS ν}{S:List ν}{b:cP ν}(h:Settled L S b)(hS:∀x∈L,x.1∈S/\x.2.1∈S){t:ν->Int}(ht:∀v∈S,∃w,b v=ZA (t v,w)):Holds L t:=λa c m hx=>by obtain⟨ha,hc⟩:=hS _ hx;obtain⟨w,e⟩:=ht a ha;obtain⟨s,hs,h1,h2,_⟩:=h.walk a _ _ e;obtain⟨d,w',e',l⟩:=h.least s hs c _ (h1.wk.app (.one hx));obtain⟨w2,e2⟩:=ht c hc;rw[e2]at e';cases e';omega
inductive Pth (L:bS ν):ν->List ν->ν->Int->Prop
 |one {a b:ν} {m:Int}:(a,b,m)∈L->Pth L a [] b m
 |cons {a x b:ν} {ms:List ν} {m s:Int}:(a,x,m)∈L->Pth L x ms b s->Pth L a (x::ms) b (m+s)
theorem Pth.cut{L:bS ν}{x:ν}{q:List ν}:∀{p:List ν}{a b:ν}{s:Int},Pth L a (p++x::q) b s->∃s1 s2,Pth L a p x s1/\Pth L x q b s2/\s=s1+s2
 |[],a,b,s,h=>by
  cases h with
  |cons e h=>exact⟨_,_,.one e,h,rfl⟩
 |y::p,a,b,s,h=>by
  cases h with
  |cons e h=>
   obtain⟨s1,s2,h1,h2,h3⟩:=Pth.cut h;exact⟨_,s2,.cons e h1,h2,by omega⟩
def KC(L:bS ν)(u v:ν)(s:Int):Prop:=(u=v/\s=0)\/(u≠v/\∃ms,Pth L u ms v s/\ms.Nodup/\u∉ms/\v∉ms)
def EM(L:bS ν):Prop:=∃x ms s,Pth L x ms x s/\ms.Nodup/\x∉ms/\s<0
def Wk.simple{L:bS ν}{u v:ν}(w:Wk L u v s):EM L\/∃s',s'<=s/\KC L u v s':=by
 induction w with
 |nil a=>exact .inr ⟨0,Qb _,.inl ⟨rfl,rfl⟩⟩
 |@step a b c m s e w ih=>
  rcases ih with ih|⟨s',hs,ih⟩
  .exact .inl ih
  by_cases hab:a=b
  .subst hab;by_cases hm:m<0
   .exact .inl ⟨a,[],m,.one e,Re,by simp,hm⟩
   .exact .inr ⟨s',by omega,ih⟩
  rcases ih with⟨rfl,rfl⟩|⟨hbc,ms,hp,hn,hb,hc⟩
  .exact .inr ⟨m,by omega,.inr ⟨hab,[],.one e,Re,by simp,by simp⟩⟩
  by_cases hac:a=c
  .subst hac;by_cases hm:m+s'<0
   .exact .inl ⟨a,b::ms,m+s',.cons e hp,O0.mpr ⟨hb,hn⟩,by simp[hab,hc],hm⟩
   .exact .inr ⟨0,by omega,.inl ⟨rfl,rfl⟩⟩
  by_cases ham:a∈ms
  .obtain⟨p,q,rfl⟩:=VI ham;obtain⟨s1,s2,h1,h2,h3⟩:=hp.cut;rw[PV]at hn;obtain⟨n1,n2,n3⟩:=hn;rw[O0]at n2;have hap:a∉p:=λz=>n3 a z a Of rfl;by_cases hm:m+s1<0
   .refine .inl ⟨a,b::p,m+s1,.cons e h1,O0.mpr ⟨λz=>hb (O9 _ z),n1⟩,by simp[hab,hap],hm⟩
   .exact .inr ⟨s2,by omega,.inr ⟨hac,q,h2,n2.2,n2.1,λz=>hc (OL _ (N9 _ z))⟩⟩
  .refine .inr ⟨m+s',by omega,.inr ⟨hac,b::ms,.cons e hp,O0.mpr ⟨hb,hn⟩,by simp[hab,ham],?_⟩⟩;simp only[Oh,not_or];exact⟨λz=>hbc z.symm,hc⟩
abbrev dE(ν:Type):=ν->ν->Option Int
noncomputable def jW(f:dE ν)(a b:ν)(x:Int):dE ν:=λu v=>if u=a/\v=b then ZA x else f u v
noncomputable def n9(f:dE ν)(a b:ν)(x:Int):dE ν:=match f a b with
 |none=>jW f a b x
 |some y=>if x<y then jW f a b x else f
noncomputable def mj(mid one other:ν)(f:dE ν):dE ν:=match f one mid,f mid other with
 |some x,ZA y=>n9 f one other (x+y)
 |_,_=>f
noncomputable def vj(P:List ν):dE ν:=λu v=>if u∈P/\u=v then ZA 0 else ZB
noncomputable def BZ(P:List ν)(L:bS ν):dE ν:=L.foldl (λf x=>n9 f x.1 x.2.1 x.2.2) (vj P)
noncomputable def ml(mid one:ν)(P:List ν)(f:dE ν):dE ν:=P.foldl (λf other=>mj mid one other f) f
noncomputable def qC(mid:ν)(Q P:List ν)(f:dE ν):dE ν:=Q.foldl (λf one=>ml mid one P f) f
noncomputable def wQ(M P:List ν)(f:dE ν):dE ν:=M.foldl (λf mid=>qC mid P P f) f
noncomputable def table(P:List ν)(L:bS ν):dE ν:=wQ P P (BZ P L)
def Le(f g:dE ν):Prop:=∀u v x,g u v=ZA x->∃y,f u v=ZA y/\y<=x
def Le.refl(f:dE ν):Le f f:=λu v x h=>⟨x,h,Qb _⟩
def Le.trans{f g h:dE ν}(a:Le f g)(b:Le g h):Le f h:=λu v x e=>by obtain⟨y,e1,l1⟩:=b u v x e;obtain⟨z,e2,l2⟩:=a u v y e1;exact⟨z,e2,by omega⟩
variable{x:Int}
def nh{f:dE ν}{a b:ν}:jW f a b x a b=ZA x:=by unfold jW;rw[if_pos ⟨rfl,rfl⟩]
def uJ(f:dE ν)(a b:ν)(x:Int):Le (n9 f a b x) f:=λu v y e=>by
 unfold n9;cases q:f a b with
 |none=>
  by_cases z:u=a/\v=b
  .obtain⟨rfl,rfl⟩:=z;rw[q]at e;cases e
  .exact⟨y,by simp only;unfold jW;rw[if_neg z];exact e,Qb _⟩
 |some y0=>
  simp only;split
  .by_cases z:u=a/\v=b
   .obtain⟨rfl,rfl⟩:=z;rw[q]at e;cases e;exact⟨x,nh,by omega⟩
   .exact⟨y,by unfold jW;rw[if_neg z];exact e,Qb _⟩
  .exact⟨y,e,Qb _⟩
def Ad(f:dE ν)(a b:ν)(x:Int):∃y,n9 f a b x a b=ZA y/\y<=x:=by
 unfold n9;cases q:f a b with
 |none=>exact⟨x,nh,Qb _⟩
 |some y0=>
  simp only;split
  .exact⟨x,nh,Qb _⟩
  .exact⟨y0,q,by omega⟩
def qE{L:bS ν}{f:dE ν}{a b:ν}(h:∀u v y,f u v=ZA y->Wk L u v y)(hx:Wk L a b x):∀u v y,n9 f a b x u v=ZA y->Wk L u v y:=λu v y e=>by
 have key:jW f a b x u v=ZA y->Wk L u v y:=λe'=>by
  unfold jW at e';by_cases z:u=a/\v=b
  .rw[if_pos z]at e';injection e' with e';rw[z.1,z.2,<-e'];exact hx
  .rw[if_neg z]at e';exact h u v y e'
 unfold n9 at e;cases q:f a b with
 |none=>rw[q]at e;exact key e
 |some y0=>
  rw[q]at e;simp only at e;split at e
  .exact key e
  .exact h u v y e
def wN(mid one other:ν)(f:dE ν):Le (mj mid one other f) f:=by
 unfold mj;split
 .exact uJ _ _ _ _
 .exact Le.refl f
def D1{mid one other:ν}{f:dE ν}(h1:f one mid=ZA x)(h2:f mid other=ZA y):∃z,mj mid one other f one other=ZA z/\z<=x+y:=by unfold mj;rw[h1,h2];exact Ad _ _ _ _
theorem kH(step:dE ν->α->dE ν)(hs:∀f a,Le (step f a) f):∀(l:List α)(f:dE ν),Le (l.foldl step f) f
 |[],f=>Le.refl f
 |a::l,f=>(kH step hs l (step f a)).trans (hs f a)
def qz(mid one:ν)(P:List ν)(f:dE ν):Le (ml mid one P f) f:=kH _ (λf o=>wN mid one o f) P f
def wO(mid:ν)(Q P:List ν)(f:dE ν):Le (qC mid Q P f) f:=kH _ (λf o=>qz mid o P f) Q f
def D9(M P:List ν)(f:dE ν):Le (wQ M P f) f:=kH _ (λf o=>wO o P P f) M f
theorem oH(step:dE ν->α->dE ν)(hs:∀f a,Le (step f a) f):∀(l:List α)(f:dE ν)(a:α),a∈l->∃g,Le g f/\Le (l.foldl step f) (step g a)
 |[],f,a,h=>by simp at h
 |b::l,f,a,h=>by
  rcases Oh.mp h with rfl|h
  .exact⟨f,Le.refl f,kH step hs l (step f a)⟩
  .obtain⟨g,h1,h2⟩:=oH step hs l (step f b) a h;exact⟨g,h1.trans (hs f b),h2⟩
def D8{mid u v:ν}{P:List ν}{f:dE ν}(hu:u∈P)(hv:v∈P)(h1:f u mid=ZA x)(h2:f mid v=ZA y):∃z,qC mid P P f u v=ZA z/\z<=x+y:=by obtain⟨g,g1,g2⟩:=oH (λf one=>ml mid one P f) (λf o=>qz mid o P f) P f u hu;obtain⟨g',g3,g4⟩:=oH (λf other=>mj mid u other f) (λf o=>wN mid u o f) P g v hv;have l:Le g' f:=g3.trans g1;obtain⟨x',e1,l1⟩:=l _ _ _ h1;obtain⟨y',e2,l2⟩:=l _ _ _ h2;obtain⟨z,e3,l3⟩:=D1 e1 e2;obtain⟨z',e4,l4⟩:=(g2.trans g4) _ _ _ e3;exact⟨z',e4,by omega⟩
def Up(L:bS ν)(M:List ν)(f:dE ν):Prop:=∀u v ms s,Pth L u ms v s->ms.Nodup->(∀x∈ms,x∈M)->∃y,f u v=ZA y/\y<=s
def Pth.ends{L:bS ν}{P:List ν}(hL:∀x∈L,x.1∈P/\x.2.1∈P){u v:ν}{ms:List ν}(h:Pth L u ms v s):u∈P/\v∈P/\∀x∈ms,x∈P:=by
 induction h with
 |one e=>exact⟨(hL _ e).1,(hL _ e).2,by simp⟩
 |cons e _ ih=>exact⟨(hL _ e).1,ih.2.1,λx hx=>by
   rcases Oh.mp hx with rfl|hx
   .exact ih.1
   .exact ih.2.2 x hx⟩
def Up.mid{L:bS ν}{P M:List ν}{f:dE ν}(hL:∀x∈L,x.1∈P/\x.2.1∈P)(h:Up L M f)(k:ν):Up L (k::M) (qC k P P f):=λu v ms s hp hn hm=>by
 by_cases hk:k∈ms
 .obtain⟨p,q,rfl⟩:=VI hk;obtain⟨s1,s2,h1,h2,h3⟩:=hp.cut;rw[PV]at hn;obtain⟨n1,n2,n3⟩:=hn;rw[O0]at n2;have hp':∀x∈p,x∈M:=λx hx=>by
   rcases Oh.mp (hm x (O9 _ hx))with rfl|z
   .exact absurd rfl (n3 x hx x Of)
   .exact z
  have hq':∀x∈q,x∈M:=λx hx=>by
   rcases Oh.mp (hm x (OL _ (N9 _ hx)))with rfl|z
   .exact absurd hx n2.1
   .exact z
  obtain⟨y1,e1,l1⟩:=h u k p s1 h1 n1 hp';obtain⟨y2,e2,l2⟩:=h k v q s2 h2 n2.2 hq';obtain⟨z,e3,l3⟩:=D8 (h1.ends hL).1 (h2.ends hL).2.1 e1 e2;exact⟨z,e3,by omega⟩
 .obtain⟨y,e,l⟩:=h u v ms s hp hn λx hx=>by
   rcases Oh.mp (hm x hx)with rfl|z
   .exact absurd hx hk
   .exact z
  obtain⟨z,e2,l2⟩:=wO k P P f u v y e;exact⟨z,e2,by omega⟩
theorem Up.NY{L:bS ν}{P:List ν}(hL:∀x∈L,x.1∈P/\x.2.1∈P):∀(Q M:List ν)(f:dE ν),Up L M f->∃M',(∀x,x∈Q\/x∈M->x∈M')/\Up L M' (wQ Q P f)
 |[],M,f,h=>⟨M,λx hx=>hx.elim (λz=>by simp at z) id,h⟩
 |k::Q,M,f,h=>by
  obtain⟨M',h1,h2⟩:=Up.NY hL Q (k::M) (qC k P P f) (h.mid hL k);refine⟨M',λx hx=>h1 x ?_,h2⟩;rcases hx with hx|hx
  .rcases Oh.mp hx with rfl|hx
   .exact .inr Of
   .exact .inl hx
  .exact .inr (N9 _ hx)
def Fb{P:List ν}{L:bS ν}:Up L [] (BZ P L):=λu v ms s hp hn hm=>by
 have:ms=[]:=by
  cases ms with
  |nil=>rfl
  |cons x r=>exact absurd (hm x Of) (by simp)
 subst this;cases hp with
 |one e=>
  obtain⟨g,h1,h2⟩:=oH (λ(f:dE ν)(x:ν×ν×Int)=>n9 f x.1 x.2.1 x.2.2) (λf x=>uJ f _ _ _) L (vj P) _ e;obtain⟨y,e1,l1⟩:=Ad g u v s;obtain⟨z,e2,l2⟩:=h2 u v y e1;exact⟨z,e2,by omega⟩
theorem g8{L:bS ν}(step:dE ν->α->dE ν):∀(l:List α)(f:dE ν),(∀f,∀a∈l,(∀u v y,f u v=ZA y->Wk L u v y)->∀u v y,step f a u v=ZA y->Wk L u v y)->(∀u v y,f u v=ZA y->Wk L u v y)->∀u v y,l.foldl step f u v=ZA y->Wk L u v y
 |[],f,_,h=>h
 |a::l,f,hs,h=>g8 step l (step f a) (λf b hb=>hs f b (N9 _ hb)) (hs f a Of h)
def ny(P:List ν)(L:bS ν):∀u v y,table P L u v=ZA y->Wk L u v y:=by
 unfold table wQ;refine g8 _ P _ (λf m _ h=>?_) ?_
 .unfold qC;refine g8 _ P _ (λf o _ h=>?_) h;unfold ml;refine g8 _ P _ (λf v _ h=>?_) h;unfold mj;cases e1:f o m with
  |none=>exact h
  |some x=>
   cases e2:f m v with
   |none=>exact h
   |some y=>exact qE h ((h _ _ _ e1).app (h _ _ _ e2))
 .unfold BZ;refine g8 _ L _ (λf x hx h=>qE h (.one hx)) λu v y e=>?_;unfold vj at e;split at e
  .rename_i z;obtain⟨_,rfl⟩:=z;cases e;exact .nil u
  .cases e
def vi{P:List ν}{L:bS ν}(hL:∀x∈L,x.1∈P/\x.2.1∈P):∀u v ms s,Pth L u ms v s->ms.Nodup->∃y,table P L u v=ZA y/\y<=s:=λu v ms s hp hn=>by obtain⟨M',h1,h2⟩:=Up.NY hL P [] (BZ P L) Fb;exact h2 u v ms s hp hn λx hx=>h1 x (.inl ((hp.ends hL).2.2 x hx))
def oV{P:List ν}{L:bS ν}{u:ν}(hu:u∈P):∃y,table P L u u=ZA y/\y<=0:=by
 have h0:vj P u u=ZA 0:=by unfold vj;rw[if_pos ⟨hu,rfl⟩]
 have h1:Le (table P L) (vj P):=(D9 P P _).trans (kH _ (λf x=>uJ f _ _ _) L _);exact h1 u u 0 h0
structure Least (L:bS ν)(P:List ν)(f:dE ν):Prop where
 is:∀u v d,f u v=ZA d->Wk L u v d
 le:∀u∈P,∀v t,Wk L u v t->∃d,f u v=ZA d/\d<=t
def rJ{P:List ν}{L:bS ν}{u:ν}(h:table P L u u=ZA y)(hy:y<0):¬ NoNeg L:=λn=>by have:=n u y (ny P L u u y h);omega
def nA{P:List ν}{L:bS ν}(hL:∀x∈L,x.1∈P/\x.2.1∈P)(h:∀u∈P,∀y,table P L u u=ZA y->0<=y):NoNeg L/\Least L P (table P L):=by
 have nc:¬ EM L:=λ⟨x,ms,s,hp,hn,_,hs⟩=>by obtain⟨y,e,l⟩:=vi hL x x ms s hp hn;have:=h x (hp.ends hL).1 y e;omega
 have le:∀u∈P,∀v t,Wk L u v t->∃d,table P L u v=ZA d/\d<=t:=λu hu v t w=>by
  rcases w.simple with z|⟨s',hs,z⟩
  .exact absurd z nc
  .rcases z with⟨rfl,rfl⟩|⟨_,ms,hp,hn,_⟩
   .obtain⟨y,e,l⟩:=oV hu;exact⟨y,e,by omega⟩
   .obtain⟨y,e,l⟩:=vi hL u v ms s' hp hn;exact⟨y,e,by omega⟩
 refine⟨λa s w=>?_,λu v d e=>ny P L u v d e,le⟩;by_cases ha:a∈P
 .obtain⟨d,e,l⟩:=le a ha a s w;have:=h a ha d e;omega
 .cases w with
  |nil=>exact Qb _
  |step e _=>exact absurd (hL _ e).1 ha
def Least.uniq{L:bS ν}{P:List ν}{f g:dE ν}(hf:Least L P f)(hg:Least L P g){u v:ν}(hu:u∈P):f u v=g u v:=by
 cases e:f u v with
 |none=>
  cases e2:g u v with
  |none=>rfl
  |some d=>
   obtain⟨d',q,_⟩:=hf.le u hu v d (hg.is u v d e2);rw[e]at q;cases q
 |some d=>
  obtain⟨d',q,l⟩:=hg.le u hu v d (hf.is u v d e);obtain⟨d2,q2,l2⟩:=hf.le u hu v d' (hg.is u v d' q);rw[e]at q2;cases q2;rw[q];congr 1;omega
end Gr
variable{j:Int}
namespace G
open PySem Tr
def isI:T->Bool
 |.int _=>ZC
 |_=>ZD
def GI(t:T)(h:t.pl=ZC):jc [t]=.ok (.bl (isI t)):=by cases t <;> first|rfl| (simp[T.pl]at h;done)
noncomputable def aX(t:T)(a b:Int):Bool:=match t with
 |.int i=>decide (a<=i)&&decide (i<=b)
 |_=>ZD
def fG(t:T)(a b:Int)(h:t.pl=ZC):bq [t,.int a,.int b]=.ok (.bl (aX t a b)):=by
 refine Eq.trans (?_:_=.ok (.bl (isI t&&aX t a b))) (by cases t <;> rfl);refine aZ rfl (bB (l9 (aE (ts:=[t]) rfl (GI t h)) λq=>?_));cases t with
 |int i=>
  show(match T.bl (decide (a<=i))with|.bl ZC=>Rs.ok (T.bl (decide (i<=b)))|.bl ZD=>.ok (.bl ZD)|_=>.bad)=Rs.ok (T.bl (decide (a<=i)&&decide (i<=b)));cases decide (a<=i) <;> rfl
 |_=>cases q
noncomputable def eK(t:T)(a b:Nat):Bool:=match t with
 |.tup l=>decide (a<=l.length)&&decide (l.length<=b)
 |_=>ZD
def lC(t:T)(a b:Nat)(h:t.pl=ZC):aR [t,.int a,.int b]=.ok (.bl (eK t a b)):=by
 cases t with
 |tup l=>
  simp[aR,val,fo,sR,bZ,aW,dO,o1,vr,GA,T.ty,zX,ch,cl,ae,aj,cz,T.items,Bs,eK];cases decide (a<=l.length) <;> rfl
 |scr _=>simp[T.pl]at h
 |dct _ _=>simp[T.pl]at h
 |_=>rfl
def mS(x y:T):Bool:=aX x 1 9&&(match x with
 |.int i=>aX y i 9
 |_=>ZD)
def Kk(x y:T)(hx:x.pl=ZC)(hy:y.pl=ZC):kC [x,y]=.ok (.bl (mS x y)):=
 aZ rfl (bB (l9 (aE (ts:=[x,.int 1,.int 9]) rfl (fG x 1 9 hx)) λq=>by
  cases x with
  |int i=>exact aE (ts:=[y,.int i,.int 9]) rfl (fG y i 9 hy)
  |_=>cases q))
noncomputable def mB:List Int->Bool
 |a::b::r=>decide (a<b)&&mB (b::r)
 |_=>ZC
def AG(a b:Int)(r:List Int):mB (a::b::r)=(decide (a<b)&&mB (b::r)):=rfl
variable{Z:En}{l:List T}
def uX{fe:Y2}{p:T->Bool}{fi:Y0}{src:List (Option Nat)}(hi:fi Z=.ok l)(hs:l.length<=ZI)(hn:0<src.length)(hf:∀t∈l,fe ((bU src Z).set 0 (.va t))=.ok (.bl (p t))):
  cl rB (ae (d6 fi src (gN 0) bT fe) aj) Z=.ok (.bl (l.all p)):=by
 have e:=yx l (bU src Z) (by unfold bU;rw[Oc];exact hn) hf;simp only[cl,ae,aj,d6,hi,aH,if_pos hs,e,all_map]
noncomputable def m5(l:List T):T->Bool
 |.int k=>match L2.atI l k,L2.atI l (k+1)with
  |some (.int a),ZA (.int b)=>decide (a<b)
  |_,_=>ZD
 |_=>ZD
def tO{t:T}(h:t∈rng 0 j):∃k:Nat,t=.int k/\(k:Int)<j:=by unfold rng at h;obtain⟨k,hk,e⟩:=Os.mp h;rw[OZ]at hk;exact⟨k,by rw[<-e];simp,by omega⟩
theorem IB:(l:List Int)->l.length<=4->(rng 0 ((l.length:Int) - 1)).all (m5 (l.map .int))=mB l
 |[],_=>rfl
 |[a],_=>rfl
 |[a,b],_=>by simp[rng,Tf,m5,L2.atI,L2.ixN,mB]
 |[a,b,c],_=>by simp[rng,Tf,m5,L2.atI,L2.ixN,mB]
 |[a,b,c,d],_=>by simp[rng,Tf,m5,L2.atI,L2.ixN,mB,Bool.and_assoc]
 |a::b::c::d::e::r,h=>absurd h (by simp only[Ol];omega)
def GL(l:List Int)(h:l.length<=4):kB [.tup (l.map .int)]=.ok (.bl (mB l)):=by
 have hr:iR (ae (o2 fM (cl cz (ae (vr 0) aj)) (cn (.int 1))) aj) [.va (.tup (l.map .int))]=.ok (rng 0 ((l.length:Int) - 1)):=by
  have:mh ((l.length:Int) - 1)=ZC:=by unfold mh;rw[Oa];exact⟨decide_eq_true (by omega),decide_eq_true (by omega)⟩
  simp[iR,ae,aj,o2,cl,vr,cn,cz,T.items,fM,this]
 have hs:(rng 0 ((l.length:Int) - 1)).length<=ZI:=by unfold rng ZI;rw[Oc,OV];omega
 have e:=uX (fe:=o2 wz (o2 aU (vr 1) (vr 0)) (o2 aU (vr 1) (o2 aV (vr 0) (cn (.int 1))))) (p:=m5 (l.map .int)) (src:=[ZB,ZA 0]) hr hs (by decide) (λt ht=>by
  obtain⟨k,rfl,hk⟩:=tO ht;have h1:(l.map T.int)[k]?=ZA (.int (l[k]'(by omega))):=by simp
  have h2:(l.map T.int)[k+1]?=ZA (.int (l[k+1]'(by omega))):=by rw[Ox,Og (by omega)];rfl
  have g1:=jZ h1;have g2:L2.atI (l.map T.int) ((k:Int)+1)=ZA (.int (l[k+1]'(by omega))):=jZ h2;simp[o2,vr,bU,cn,aV,aU,T.items,g1,g2,Bs,m5])
 rw[IB l h]at e;simp only[kB,val,QJ,if_true,As,fo,aW,bZ];show(do let f <-(do let t <-cl rB _ [.va (.tup (l.map .int))];Rs.ok (Fl.rt t));_)=_;rw[e];rfl
noncomputable def nums:List T->Option (List Int)
 |[] =>ZA []
 |.int i::l=>match nums l with
  |some m=>ZA (i::m)
  |none=>ZB
 |_::_=>ZB
noncomputable def cC(t:T):Bool:=eK t 1 4&&(match t with
 |.tup l=>l.all (λu=>aX u 0 99)&&(match nums l with|some m=>mB m|none=>ZD)
 |_=>ZD)
theorem pX:∀{l:List T}{m:List Int},nums l=ZA m->l=m.map .int
 |[],m,h=>by cases h;rfl
 |t::l,m,h=>by
  cases t with
  |int i=>
   unfold nums at h;cases q:nums l with
   |none=>rw[q]at h;cases h
   |some m'=>rw[q]at h;cases h;rw[Od,<-pX q]
  |_=>cases h
theorem um:∀{l:List T}{a b:Int},(l.all λu=>aX u a b)=ZC->∃m,nums l=ZA m
 |[],_,_,_=>⟨[],rfl⟩
 |t::l,a,b,h=>by
  rw[List.all_cons,Oa]at h;cases t with
  |int i=>
   obtain⟨m,e⟩:=um h.2;exact⟨i::m,by unfold nums;rw[e]⟩
  |_=>exact absurd h.1 (by simp[aX])
def dW{t:T}{b:Nat}(h:eK t a b=ZC):∃l,t=.tup l/\a<=l.length/\l.length<=b:=by
 cases t with
 |tup l=>unfold eK at h;rw[Oa]at h;exact⟨l,rfl,of_decide_eq_true h.1,of_decide_eq_true h.2⟩
 |_=>cases h
def small(h:n<=k)(hk:autoParam (k<=1000) s_):n<=ZI:=by unfold ZI;omega
def yI(t:T)(h:t.pl=ZC):cv [t]=.ok (.bl (cC t)):=by
 have w:aR [t,.int 1,.int 4]=.ok (.bl (eK t 1 4)):=lC t 1 4 h;unfold cC;cases q:eK t 1 4 with
 |false=>rw[q]at w;simp[cv,val,fo,fL,bZ,aD,gE,fO,tb,sN,aW,cl,vr,cn,ae,aj,w]
 |true=>
  rw[q]at w;obtain⟨l,rfl,h1,h2⟩:=dW q;have hp:∀u∈l,u.pl=ZC:=λu hu=>lT (by unfold T.pl at h;exact h) hu;have e:=uX (fe:=cl bq (ae (vr 0) (ae (cn (.int 0)) (ae (cn (.int 99)) aj)))) (p:=λu=>aX u 0 99) (src:=[ZB]) (fi:=iS (vr 0)) (Z:=[.va (.tup l)]) rfl (small h2) (by decide) (λu hu=>by simp[cl,ae,aj,vr,cn,bU,fG u 0 99 (hp u hu)])
  have w':cl aR (ae (vr 0) (ae (cn (.int 1)) (ae (cn (.int 4)) aj))) [.va (.tup l)]=.ok (.bl ZC):=w;show cv _=.ok (.bl (ZC&&(l.all (λu=>aX u 0 99)&&(match nums l with|some m=>mB m|none=>ZD))));cases qa:l.all λu=>aX u 0 99 with
  |false=>
   rw[qa]at e;simp[cv,val,fo,fL,bZ,aD,gE,fO,tb,sN,aW,dO,e,w']
  |true=>
   rw[qa]at e;obtain⟨m,em⟩:=um qa;have el:=pX em;have er:=GL m (by rw[el,Oc]at h2;exact h2);rw[<-el]at er;have er':cl kB (ae (vr 0) aj) [.va (.tup l)]=.ok (.bl (mB m)):=er;simp[cv,val,fo,fL,bZ,aD,gE,fO,tb,sN,aW,dO,e,w',er',em]
noncomputable def at_(t:T)(k:Nat):T:=match t.items with
 |some l=>l.getD k .non
 |none=>.non
noncomputable def bJ(t:T):Bool:=eK t 3 3&&(match t with
 |.tup [x,y,r] =>mS x y&&cC r
 |_=>ZD)
def GQ(t:T)(h:t.pl=ZC):dS [t]=.ok (.bl (bJ t)):=by
 have w:aR [t,.int 3,.int 3]=.ok (.bl (eK t 3 3)):=lC t 3 3 h;unfold bJ;cases q:eK t 3 3 with
 |false=>rw[q]at w;simp[dS,val,fo,jm,bZ,aW,dO,cl,vr,cn,ae,aj,w]
 |true=>
  rw[q]at w;obtain⟨l,rfl,h1,h2⟩:=dW q
  match l,h1,h2 with
  |[x,y,r],_,_=>
   simp[T.pl,plS]at h;obtain⟨px,py,pr⟩:=h;have g0:aU (.tup [x,y,r]) (.int 0)=.ok x:=rfl;have g1:aU (.tup [x,y,r]) (.int 1)=.ok y:=rfl;have g2:aU (.tup [x,y,r]) (.int 2)=.ok r:=rfl;have ep:=Kk x y px py;have er:=yI r pr;cases qp:mS x y with
   |false=>rw[qp]at ep;simp[dS,val,fo,jm,bZ,aW,dO,cl,vr,cn,ae,aj,o2,w,g0,g1,ep,qp]
   |true=>rw[qp]at ep;simp[dS,val,fo,jm,bZ,aW,dO,cl,vr,cn,ae,aj,o2,w,g0,g1,g2,ep,er,qp]
noncomputable def bp(t:T):Bool:=eK t 1 4&&(match t with
 |.tup l=>l.all bJ
 |_=>ZD)
def El(t:T)(h:t.pl=ZC):eh [t]=.ok (.bl (bp t)):=by
 have w:aR [t,.int 1,.int 4]=.ok (.bl (eK t 1 4)):=lC t 1 4 h;unfold bp;cases q:eK t 1 4 with
 |false=>rw[q]at w;simp[eh,val,fo,jn,bZ,aW,dO,cl,vr,cn,ae,aj,w]
 |true=>
  rw[q]at w;obtain⟨l,rfl,h1,h2⟩:=dW q;have hp:∀u∈l,u.pl=ZC:=λu hu=>lT (by unfold T.pl at h;exact h) hu;have e:=uX (fe:=cl dS (ae (vr 0) aj)) (p:=bJ) (src:=[ZB]) (fi:=iS (vr 0)) (Z:=[.va (.tup l)]) rfl (small h2) (by decide) (λu hu=>by simp[cl,ae,aj,vr,cn,bU,GQ u (hp u hu)])
  have w':cl aR (ae (vr 0) (ae (cn (.int 1)) (ae (cn (.int 4)) aj))) [.va (.tup l)]=.ok (.bl ZC):=w;simp[eh,val,fo,jn,bZ,aW,dO,e,w']
noncomputable def eZ(x y:T):Bool:=aX x 0 999&&(match x,y with
 |_,.non=>ZC
 |.int i,_=>aX y i 999
 |_,_=>ZD)
def GP(x y:T)(hx:x.pl=ZC)(hy:y.pl=ZC):jd [x,y]=.ok (.bl (eZ x y)):=
 aZ rfl (bB (l9 (aE (ts:=[x,.int 0,.int 999]) rfl (fG x 0 999 hx)) λq=>by
  cases x with
  |int i=>
   refine Eq.trans (J0 (p:=y.isN) (q:=aX y i 999) (ay (t:=y) (u:=.non) rfl rfl rfl) λ_=>aE (ts:=[y,.int i,.int 999]) rfl (fG y i 999 hy)) ?_;cases y <;> rfl
  |_=>cases q))
noncomputable def reads(cs:List T)(c:Int):Nat:=if 0<=c then(match cs[c.toNat]? with
 |some (.tup [_,_,.tup r])=>r.length
 |_=>0)else 0
noncomputable def bh(cs:List T)(t:T):Bool:=match t with
 |.tup [.int c,.int k] =>decide (0<=c)&&decide (c<cs.length)&&(decide (0<=k)&&decide (k<reads cs c))
 |_=>ZD
def nT{t:T}(h:bJ t=ZC):∃x y r,t=.tup [x,y,.tup r]:=by
 unfold bJ at h;rw[Oa]at h;obtain⟨h1,h2⟩:=h;obtain⟨l,rfl,h3,h4⟩:=dW h1
 match l,h3,h4,h2 with
 |[x,y,r],_,_,h2=>
  simp only[Oa]at h2;obtain⟨_,h5⟩:=h2;unfold cC at h5;rw[Oa]at h5;obtain⟨m,rfl,_⟩:=dW h5.1;exact⟨x,y,m,rfl⟩
def dq{t:T}{a:Int}(h:aX t a b=ZC):∃i,t=.int i/\a<=i/\i<=b:=by
 cases t with
 |int i=>unfold aX at h;rw[Oa]at h;exact⟨i,rfl,of_decide_eq_true h.1,of_decide_eq_true h.2⟩
 |_=>cases h
def Ag(cs:List T)(t:T)(hc:bp (.tup cs)=ZC)(h:t.pl=ZC):gW [.tup cs,t]=.ok (.bl (bh cs t)):=by
 have w:aR [t,.int 2,.int 2]=.ok (.bl (eK t 2 2)):=lC t 2 2 h;cases q:eK t 2 2 with
 |false=>
  rw[q]at w;have:bh cs t=ZD:=by
   unfold bh;split
   .cases q
   .rfl
  rw[this];exact aZ rfl (fB ((dA (wJ (dX (k:=ZD) (bx (aE (ts:=[t,.int 2,.int 2]) rfl w))))).trans rfl))
 |true=>
  rw[q]at w;obtain⟨l,rfl,h1,h2⟩:=dW q
  match l,h1,h2 with
  |[x,y],_,_=>
   simp[T.pl,plS]at h;obtain⟨px,py⟩:=h;have g0:aU (.tup [x,y]) (.int 0)=.ok x:=rfl;have g1:aU (.tup [x,y]) (.int 1)=.ok y:=rfl;have gl:cz [.tup cs]=.ok (.int cs.length):=rfl;have e1:=fG x 0 ((cs.length:Int) - 1) px;cases q1:aX x 0 ((cs.length:Int) - 1)with
   |false=>
    rw[q1]at e1;have:bh cs (.tup [x,y])=ZD:=by
     cases x with
     |int c=>
      cases y with
      |int k=>
       simp only[aX,UM,decide_eq_false_iff_not]at q1;simp only[bh,UM,decide_eq_false_iff_not];omega
      |_=>rfl
     |_=>rfl
    rw[this];exact aZ rfl (fB ((dA (l7 (dX (k:=ZC) (bx (aE (ts:=[.tup [x,y],.int 2,.int 2]) rfl w))) (dX (k:=ZD) (bx (aE (ts:=[x,.int 0,.int ((cs.length:Int) - 1)]) rfl e1))))).trans rfl))
   |true=>
    rw[q1]at e1;obtain⟨c,rfl,c1,c2⟩:=dq q1;obtain⟨n,rfl⟩:=Pw c1;have hn:n<cs.length:=by omega
    have hcl:bJ cs[n]=ZC:=by unfold bp at hc;rw[Oa]at hc;exact OH.mp hc.2 _ (PR hn)
    obtain⟨a,b,r,er⟩:=nT hcl;have g2:aU (.tup cs) (.int (n:Int))=.ok (.tup [a,b,.tup r]):=by simp only[aU,T.items];rw[jZ (Og hn),er]
    have g3:aU (.tup [a,b,.tup r]) (.int 2)=.ok (.tup r):=rfl;have gr:cz [.tup r]=.ok (.int r.length):=rfl;have e2:=fG y 0 ((r.length:Int) - 1) py;have:bh cs (.tup [.int n,y])=aX y 0 ((r.length:Int) - 1):=by
     have er2:reads cs (n:Int)=r.length:=by unfold reads;rw[if_pos c1,PD,Og hn,er]
     cases y with
     |int k=>
      simp only[bh,aX,er2];rw[decide_eq_true c1,decide_eq_true (show(n:Int)<cs.length by omega)];simp only[Ru];congr 1;exact decide_eq_decide.mpr (by omega)
     |_=>rfl
    rw[this];exact aZ rfl ((aw ((dt (l7 (dX (k:=ZC) (bx (aE (ts:=[.tup [.int n,y],.int 2,.int 2]) rfl w))) (dX (k:=ZC) (bx (aE (ts:=[.int n,.int 0,.int ((cs.length:Int) - 1)]) rfl e1))))).trans rfl)).trans (bB (aE (ts:=[y,.int 0,.int ((r.length:Int) - 1)]) (ar rfl (ar rfl (ar (ay (t:=.int (r.length:Nat)) (u:=.int 1) (aE (ts:=[.tup r]) (ar (ay (t:=.tup [a,b,.tup r]) (u:=.int 2) (ay (t:=.tup cs) (u:=.int n) rfl rfl g2) rfl g3) rfl) rfl) rfl rfl) rfl))) e2)))
noncomputable def bN(cs:List T)(t:T):Bool:=match t with
 |.tup [a,b,x,y] =>eZ x y&&(bh cs a&&(bh cs b&& !aS a b))
 |_=>ZD
variable{cs:List T}
def cN{t:T}(h:bh cs t=ZC):∃c k:Int,t=.tup [.int c,.int k]:=by
 unfold bh at h;split at h
 .exact⟨_,_,rfl⟩
 .cases h
def Ei(cs:List T)(t:T)(hc:bp (.tup cs)=ZC)(h:t.pl=ZC):gn [.tup cs,t]=.ok (.bl (bN cs t)):=by
 have w:aR [t,.int 4,.int 4]=.ok (.bl (eK t 4 4)):=lC t 4 4 h;cases q:eK t 4 4 with
 |false=>
  rw[q]at w;have:bN cs t=ZD:=by
   unfold bN;split
   .cases q
   .rfl
  rw[this];exact aZ rfl (fB ((dA (wJ (dX (k:=ZD) (bx (aE (ts:=[t,.int 4,.int 4]) rfl w))))).trans rfl))
 |true=>
  rw[q]at w;obtain⟨l,rfl,h1,h2⟩:=dW q
  match l,h1,h2 with
  |[a,b,x,y],_,_=>
   simp[T.pl,plS]at h;obtain⟨pa,pb,px,py⟩:=h;have e1:=GP x y px py;have w':=dX (k:=ZC) (bx (aE (g:=aR) (ts:=[.tup [a,b,x,y],.int 4,.int 4]) (fs:=ae (vr 1) (ae (cn (.int 4)) (ae (cn (.int 4)) aj))) (Z:=[.va (.tup cs),.va (.tup [a,b,x,y])]) rfl w));show _=Rs.ok (T.bl (eZ x y&&(bh cs a&&(bh cs b&& !aS a b))));cases q1:eZ x y with
   |false=>
    rw[q1]at e1;exact aZ rfl (fB ((dA (l7 w' (dX (k:=ZD) (bx (aE (ts:=[x,y]) rfl e1))))).trans rfl))
   |true=>
    rw[q1]at e1;rw[Ru];refine aZ rfl ((aw ((dt (l7 w' (dX (k:=ZC) (bx (aE (ts:=[x,y]) rfl e1))))).trans rfl)).trans (bB (l9 (aE (ts:=[.tup cs,a]) rfl (Ag cs a hc pa)) λq2=>l9 (aE (ts:=[.tup cs,b]) rfl (Ag cs b hc pb)) λ_=>ay (t:=a) (u:=b) rfl rfl ?_)));obtain⟨c,k,rfl⟩:=cN q2;unfold qf;rw[if_pos (g9 (by simp[T.dep,deps]) rfl (T.KB _ pb))]
noncomputable def kE(cs:List T)(t:T):Bool:=eK t 0 8&&(match t with
 |.tup l=>l.all (bN cs)
 |_=>ZD)
def Bg(cs:List T)(t:T)(hc:bp (.tup cs)=ZC)(h:t.pl=ZC):dH [.tup cs,t]=.ok (.bl (kE cs t)):=by
 have w:aR [t,.int 0,.int 8]=.ok (.bl (eK t 0 8)):=lC t 0 8 h;unfold kE;cases q:eK t 0 8 with
 |false=>rw[q]at w;simp[dH,val,fo,iH,bZ,aW,dO,cl,vr,cn,ae,aj,w]
 |true=>
  rw[q]at w;obtain⟨l,rfl,h1,h2⟩:=dW q;have hp:∀u∈l,u.pl=ZC:=λu hu=>lT (by unfold T.pl at h;exact h) hu;have e:=uX (fe:=cl gn (ae (vr 1) (ae (vr 0) aj))) (p:=bN cs) (src:=[ZB,ZA 0]) (fi:=iS (vr 1)) (Z:=[.va (.tup cs),.va (.tup l)]) rfl (small h2) (by decide) (λu hu=>by simp[cl,ae,aj,vr,cn,bU,Ei cs u hc (hp u hu)])
  have w':cl aR (ae (vr 1) (ae (cn (.int 0)) (ae (cn (.int 8)) aj))) [.va (.tup cs),.va (.tup l)]=.ok (.bl ZC):=w;simp[dH,val,fo,iH,bZ,aW,dO,e,w']
noncomputable def gv(t:T):Bool:=match t with
 |.tup [.tup cs,ls] =>bp (.tup cs)&&kE cs ls
 |_=>ZD
def wX(t:T)(h:t.pl=ZC):ik [t]=.ok (.bl (gv t)):=by
 have w:aR [t,.int 2,.int 2]=.ok (.bl (eK t 2 2)):=lC t 2 2 h;cases q:eK t 2 2 with
 |false=>
  rw[q]at w;have:gv t=ZD:=by
   unfold gv;split
   .cases q
   .rfl
  rw[this];exact aZ rfl (bB (md (aE (ts:=[t,.int 2,.int 2]) rfl w)))
 |true=>
  rw[q]at w;obtain⟨l,rfl,h1,h2⟩:=dW q
  match l,h1,h2 with
  |[x,y],_,_=>
   simp[T.pl,plS]at h;obtain⟨px,py⟩:=h;have g0:aU (.tup [x,y]) (.int 0)=.ok x:=rfl;have g1:aU (.tup [x,y]) (.int 1)=.ok y:=rfl;have e1:=El x px;cases q1:bp x with
   |false=>
    rw[q1]at e1;have:gv (.tup [x,y])=ZD:=by
     cases x with
     |tup cs=>show(bp (.tup cs)&&_)=ZD;rw[q1];rfl
     |_=>rfl
    rw[this];exact aZ rfl (bB ((jh (aE (ts:=[.tup [x,y],.int 2,.int 2]) rfl w)).trans (md (aE (ts:=[x]) rfl e1))))
   |true=>
    rw[q1]at e1;cases x with
    |tup cs=>
     have e2:=Bg cs y q1 py;have:gv (.tup [.tup cs,y])=kE cs y:=by show(bp (.tup cs)&&_)=_;rw[q1];rfl
     rw[this];exact aZ rfl (bB ((jh (aE (ts:=[.tup [.tup cs,y],.int 2,.int 2]) rfl w)).trans ((jh (aE (ts:=[.tup cs]) rfl e1)).trans (aE (ts:=[.tup cs,y]) rfl e2))))
    |_=>cases q1
theorem gJ:∀m:List Int,deps (m.map .int)=0
 |[] =>rfl
 |a::m=>by rw[Od,deps,gJ m];rfl
def og(i n:Nat):List T:=(rng 0 n).map λt=>T.tup [.int i,t]
noncomputable def ID:T->Nat
 |.tup [_,_,.tup r] =>r.length
 |_=>0
noncomputable def fP:Nat->List T->List T
 |_,[] =>[]
 |i,c::r=>og i (ID c)++fP (i+1) r
def iw{t:T}(h:bJ t=ZC):∃x y r,t=.tup [x,y,.tup r]/\1<=r.length/\r.length<=4:=by
 obtain⟨x,y,r,rfl⟩:=nT h;have:cC (.tup r)=ZC:=by have h':(mS x y&&cC (.tup r))=ZC:=h;rw[Oa]at h';exact h'.2
 unfold cC at this;rw[Oa]at this;obtain⟨l,e,h1,h2⟩:=dW this.1;cases e;exact⟨x,y,r,rfl,h1,h2⟩
def jX(i n:Nat):(og i n).length=n:=by unfold og;rw[Oc,lP]
noncomputable abbrev evG:T->En->Rs En:=gT 2 (iY (gN 2) (iY (gN 3) u9))
def HM{f:Y0}(h:f Z=.ok [.int j])(h0:0<=j)(h1:j<=100000):iR f Z=.ok (rng 0 j):=by
 have e:mh j=ZC:=by unfold mh;rw[Oa];exact⟨decide_eq_true (by omega),decide_eq_true (by omega)⟩
 unfold iR;rw[h];show(if mh j=ZC then _ else _)=_;rw[e];rfl
def oO(l m:List T)(h:(l++m).length<=1000):aV (.lst l) (.lst m)=.ok (.lst (l++m)):=by show k8 (l++m)=_;unfold k8;rw[if_pos (aB h)]
def uY(l m:List T)(h:(l++m).length<=1000):aV (.tup l) (.tup m)=.ok (.tup (l++m)):=by show k7 (l++m)=_;unfold k7;rw[if_pos (aB h)]
def Mp(c0 acc x y:T)(r:List T)(i:Nat)(h:r.length<=4):
  d6 (iR (ae (cl cz (ae (o2 aU (vr 3) (cn (.int 2))) aj)) aj)) [ZB,ZA 2] (gN 0) bT (aP (ae (vr 1) (ae (vr 0) aj))) [.va c0,.va acc,.va (.int i),.va (.tup [x,y,.tup r])]=.ok (.lst (og i r.length)):=
 m7 (HM rfl (by omega) (by omega)) (aB (by rw[lP];exact h)) (by simp) λt _=>mk2 _ _
def GG(c0 x y:T)(acc r:List T)(i:Nat)(h:r.length<=4)(ha:acc.length<=100):evF [.va c0,.va (.lst acc),.va (.int i),.va (.tup [x,y,.tup r])]=.ok (.nx [.va c0,.va (.lst (acc++og i r.length)),.va (.int i),.va (.tup [x,y,.tup r])]):=
 bM (ay rfl (Mp c0 (.lst acc) x y r i h) (oO _ _ (by rw[On,jX];omega))) rfl
theorem Ae:∀(cs:List T)(c0:T)(acc:List T)(i:Nat)(s2 s3:Sl),(∀c∈cs,bJ c=ZC)->acc.length+4*cs.length<=100 ->
  ∃y2 y3,bD evG evF (dN i cs) [.va c0,.va (.lst acc),s2,s3]=.ok (.nx [.va c0,.va (.lst (acc++fP i cs)),y2,y3])
 |[],c0,acc,i,s2,s3,_,_=>⟨s2,s3,by simp[dN,bD,fP]⟩
 |c::cs,c0,acc,i,s2,s3,hc,hl=>by obtain⟨x,y,r,rfl,r1,r2⟩:=iw (hc c Of);rw[Ol]at hl;obtain⟨z2,z3,ih⟩:=Ae cs c0 (acc++og i r.length) (i+1) (.va (.int i)) (.va (.tup [x,y,.tup r])) (λc h=>hc c (N9 _ h)) (by rw[On,jX];omega);refine⟨z2,z3,?_⟩;rw[dN,dM rfl (GG c0 x y acc r i r2 (by omega)),ih,fP,OU];rfl
def cj(hc:bp (.tup cs)=ZC):(∀c∈cs,bJ c=ZC)/\1<=cs.length/\cs.length<=4:=by unfold bp at hc;rw[Oa]at hc;obtain⟨l,e,h1,h2⟩:=dW hc.1;cases e;exact⟨λc h=>OH.mp hc.2 c h,h1,h2⟩
def qG(cs:List T)(hc:bp (.tup cs)=ZC):bf [.tup cs]=.ok (.lst (fP 0 cs)):=by obtain⟨ha,h1,h2⟩:=cj hc;obtain⟨y2,y3,e⟩:=Ae cs (.tup cs) [] 0 .em .em ha (by simp;omega);rw[P5]at e;refine aZ rfl ?_;unfold lb;rw[aw (Z':=[.va (.tup cs),.va (.lst []),.em,.em]) rfl,aw ((fT rfl e))];rfl
def Gh(h:k<n):T.int (k:Int)∈rng 0 (n:Int):=by unfold rng;exact Os.mpr ⟨k,OZ.mpr (by omega),by simp⟩
def rP(cs:List T)(c:Nat):reads cs (c:Int)=ID (cs.getD c .non):=by
 unfold reads;rw[if_pos (by omega),PD,O6];cases cs[c]? with
 |none=>rfl
 |some t=>
  cases t with
  |tup l=>
   match l with
   |[] =>rfl
   |[_] =>rfl
   |[_,_] =>rfl
   |[_,_,z] =>cases z <;> rfl
   |_::_::z::_::_=>cases z <;> rfl
  |_=>rfl
mutual
def sm(n:Nat):T->Bool
 |.dct _ _=>ZD
 |.scr _=>ZD
 |.tup l=>decide (l.length<=n)&&sms n l
 |.lst l=>decide (l.length<=n)&&sms n l
 |_=>ZC
def sms(n:Nat):List T->Bool
 |[] =>ZC
 |t::l=>sm n t&&sms n l
end
mutual
theorem Hq{n:Nat}:∀(t:T),sm n t=ZC->t.pl=ZC
 |.scr _,h=>by simp[sm]at h
 |.dct _ _,h=>by simp[sm]at h
 |.tup l,h=>by rw[sm,Oa]at h;rw[T.pl];exact sms_pl l h.2
 |.lst l,h=>by rw[sm,Oa]at h;rw[T.pl];exact sms_pl l h.2
 |.non,_=>by simp[T.pl]
 |.bl _,_=>by simp[T.pl]
 |.int _,_=>by simp[T.pl]
 |.str _,_=>by simp[T.pl]
theorem sms_pl{n:Nat}:∀(l:List T),sms n l=ZC->plS l=ZC
 |[],_=>by simp[plS]
 |t::l,h=>by rw[sms,Oa]at h;rw[plS,Hq t h.1,sms_pl l h.2];rfl
end
theorem zi:∀{l:List T},sms n l=ZC↔ ∀t∈l,sm n t=ZC
 |[] =>by simp[sms]
 |t::l=>by rw[sms,Oa,zi];simp
def sm_tup:sm n (.tup l)=ZC↔l.length<=n/\∀t∈l,sm n t=ZC:=by rw[sm,Oa,zi,decide_eq_true_iff]
def lA{i:Int}(h:0<j):l5 (.int i) (.int j)=.ok (.int (i % j)):=by show(if _ then _ else _)=_;rw[if_pos h]
def oJ{i:Int}(h:0<j)(h2:j<1073741824):mm (.int i) (.int j)=.ok (.int (i / j)):=by show(if _ then _ else _)=_;rw[if_pos ⟨h,h2⟩]
def l0{i:Int}(h : -18446744073709551616<i)(h2:i<18446744073709551616):cu (.int i) (.int j)=.ok (.int (i*j)):=by show yp (.int i) (.int j)=_;show(if _ then _ else _)=_;rw[if_pos (.inl ⟨by omega,by omega⟩)]
def Dc{i:Int}(h : -18446744073709551616<j)(h2:j<18446744073709551616):cu (.int i) (.int j)=.ok (.int (i*j)):=by show yp (.int i) (.int j)=_;show(if _ then _ else _)=_;rw[if_pos (.inr ⟨by omega,by omega⟩)]
def Km(ns:List Int)(k:Nat)(hn:ns.length<=63):∃c,gq [.scr ns,.int k]=.ok (.int c):=by
 have e0:o2 oh (vr 0) (dz aj) [.va (.scr ns),.va (.int k)]=.ok (.bl (la ns [])):=by refine ay rfl (jS rfl (aB (Ou _))) ?_;unfold oh;rw[if_pos (g9 (by simp[T.dep]) rfl rfl)];rfl
 cases ns with
 |nil=>
  refine⟨7*k,aZ rfl ?_⟩;unfold kg;refine fB ((dA (bx e0)).trans (bB (ay rfl rfl (l0 (by omega) (by omega)))))
 |cons a r=>
  have hl:(0:Int)<((a::r).length:Nat):=by simp only[Ol];omega
  have hl2:(((a::r).length:Nat):Int)<1073741824:=by simp only[Ol]at hn ⊢;omega
  have hi:k % (a::r).length<(a::r).length:=Nat.mod_lt _ (by simp);have g0:o2 l5 (vr 1) (cl cz (ae (vr 0) aj)) [.va (.scr (a::r)),.va (.int k)]=.ok (.int ((k % (a::r).length:Nat):Int)):=by refine ay rfl ?_ (by rw[lA hl];rfl);refine aE rfl ?_;show Rs.ok (T.int (((a::r).map T.int).length:Nat))=_;rw[Oc]
  have g1:aU (.scr (a::r)) (.int ((k % (a::r).length:Nat):Int))=.ok (.int (a::r)[k % (a::r).length]):=by
   have e:((a::r).map T.int)[k % (a::r).length]?=ZA (.int (a::r)[k % (a::r).length]):=by rw[Ox,Og hi];rfl
   show(match L2.atI ((a::r).map T.int) ((k % (a::r).length:Nat):Int)with|some t=>Rs.ok t|none=>.bad)=_;rw[jZ e]
  have g2:o2 mm (vr 1) (cl cz (ae (vr 0) aj)) [.va (.scr (a::r)),.va (.int k)]=.ok (.int ((k:Int) / ((a::r).length:Nat))):=by refine ay rfl ?_ (oJ hl hl2);refine aE rfl ?_;show Rs.ok (T.int (((a::r).map T.int).length:Nat))=_;rw[Oc]
  refine⟨(a::r)[k % (a::r).length] +6553*((k:Int) / ((a::r).length:Nat)),aZ rfl ?_⟩;unfold kg;show aD _ _ [.va (.scr (a::r)),.va (.int k)]=_;refine(aw ((dt (bx e0)).trans rfl)).trans ?_;exact bB (ay (ay rfl g0 g1) (ay rfl g2 (l0 (by omega) (by omega))) rfl)
def eC(ns:List Int)(k:Nat)(m:Int)(hn:ns.length<=63)(hm:0<m):∃r,aJ [.scr ns,.int k,.int m]=.ok (.int r)/\0<=r/\r<m:=by
 obtain⟨c,hc⟩:=Km ns k hn;have b1:∀x:Int,0<=x % 2147483563/\x % 2147483563<2147483563:=λx=>⟨UN _ (by omega),TC _ (by omega)⟩;have b2:∀x:Int,0<=x % 2147483399/\x % 2147483399<2147483399:=λx=>⟨UN _ (by omega),TC _ (by omega)⟩;generalize hx:(c % 2147483563*69069+104723*((k:Int)+1)) % 2147483563=x;have hx':=b1 (c % 2147483563*69069+104723*((k:Int)+1));rw[hx]at hx';generalize hy:(x*x+x / 3) % 2147483399=y;have hy':=b2 (x*x+x / 3);rw[hy]at hy';refine⟨(y*y+y / 7) % 2147483647 / 11 % m,aZ rfl ?_,UN _ (by omega),TC _ hm⟩;show jr [.va (.scr ns),.va (.int k),.va (.int m),.em]=_;unfold jr;have s1:cI (o2 l5 (o2 aV (o2 cu (o2 l5 (cl gq (ae (vr 0) (ae (vr 1) aj))) (cn (.int 2147483563))) (cn (.int 69069))) (o2 cu (cn (.int 104723)) (o2 aV (vr 1) (cn (.int 1))))) (cn (.int 2147483563))) (gN 3) [.va (.scr ns),.va (.int k),.va (.int m),.em]=.ok (.nx [.va (.scr ns),.va (.int k),.va (.int m),.va (.int x)]):=by refine bM (ay (ay (ay (ay (aE rfl hc) rfl (lA (by omega))) rfl (Dc (by omega) (by omega))) (ay rfl rfl (l0 (by omega) (by omega))) rfl) rfl ?_) rfl;rw[lA (by omega),hx]
 have s2:cI (o2 l5 (o2 aV (o2 cu (vr 3) (vr 3)) (o2 mm (vr 3) (cn (.int 3)))) (cn (.int 2147483399))) (gN 3) [.va (.scr ns),.va (.int k),.va (.int m),.va (.int x)]=.ok (.nx [.va (.scr ns),.va (.int k),.va (.int m),.va (.int y)]):=by refine bM (ay (ay (ay rfl rfl (l0 (by omega) (by omega))) (ay rfl rfl (oJ (by omega) (by omega))) rfl) rfl ?_) rfl;rw[lA (by omega),hy]
 rw[aw s1,aw s2];exact bB (ay (ay (ay (ay (ay rfl rfl (l0 (by omega) (by omega))) (ay rfl rfl (oJ (by omega) (by omega))) rfl) rfl (lA (by omega))) rfl (oJ (by omega) (by omega))) rfl (lA hm))
def eY{r:Int}{f g h:Y2}(e:aJ [.scr ns,.int k,.int m]=.ok (.int r))(h1:f Z=.ok (.scr ns))(h2:g Z=.ok (.int k))(h3:h Z=.ok (.int m)):
  cl aJ (ae f (ae g (ae h aj))) Z=.ok (.int r):=aE (ar h1 (ar h2 (ar h3 rfl))) e
theorem vL:∀(l:List Int)(z y:Int),mB (l++[z])=ZC->z<y->mB (l++[z] ++[y])=ZC
 |[],z,y,_,h=>by simp[mB,h]
 |[a],z,y,h,hy=>by simp[mB]at h ⊢;omega
 |a::b::l,z,y,h,hy=>by have h':mB (a::b::(l++[z]))=ZC:=h;rw[AG,Oa]at h';have ih:=vL (b::l) z y h'.2 hy;show mB (a::b::(l++[z] ++[y]))=ZC;rw[AG,h'.1];exact ih
theorem gU:∀l:List Int,nums (l.map .int)=ZA l
 |[] =>rfl
 |a::l=>by rw[Od,nums,gU l]
def RdOk(l:List Int):Prop:=∃(l':List Int)(z:Int),l=l'++[z]/\mB l=ZC/\(∀x∈l,0<=x/\x<=5*l.length)/\z<=5*l.length
def Gy(l:List T)(z:T):aU (.tup (l++[z])) (.int (-1))=.ok z:=by
 have e:L2.atI (l++[z]) (-1)=ZA z:=by
  unfold L2.atI L2.ixN;simp;rw[if_pos (by omega)];have q:(-1+((l.length:Int)+1)).toNat=l.length:=by omega
  show(l++[z])[(-1+((l.length:Int)+1)).toNat]?=ZA z;rw[q];simp
 show(match L2.atI (l++[z]) (-1)with|some t=>Rs.ok t|none=>.bad)=_;rw[e]
def G0(ns:List Int)(hn:ns.length<=63)(a j:Nat)(s:T)(l:List Int)(h:RdOk l)(hl:l.length<=3):∃l2,clF [.va (.scr ns),.va (.int a),.va s,.va (.tup (l.map .int)),.va (.int j)]=.ok (.nx [.va (.scr ns),.va (.int a),.va s,.va (.tup (l2.map .int)),.va (.int j)])/\RdOk l2/\l2.length=l.length+1:=by
 obtain⟨l',z,rfl,h1,h2,h3⟩:=h;obtain⟨d,ed,d0,d1⟩:=eC ns (a+3+j) 5 hn (by omega);refine⟨l'++[z] ++[z+1+d],?_,⟨l'++[z],z+1+d,rfl,vL l' z _ h1 (by omega),?_,?_⟩,by simp⟩
 .refine bM (ay rfl (dy (ar (ay (ay (t:=.int z) (ay rfl rfl ?_) rfl rfl) (eY ed rfl ?_ rfl) rfl) rfl) (aB (k:=1) (by simp))) ?_) rfl
  .rw[PH];exact Gy _ _
  .refine ay (ay rfl rfl rfl) rfl ?_;show Rs.ok (T.int ((a:Int)+3+j))=_;congr 2
  .rw[PH (l₁:=l'++[z])];exact uY _ _ (by rw[On,Oc];simp at hl ⊢;omega)
 .intro x hx;rcases OS.mp hx with hx|hx
  .have:=h2 x hx;simp only[On,QJ]at this ⊢;omega
  .rw[OF]at hx;subst hx;have hz:=h2 z (by simp);simp only[On,QJ]at h3 ⊢;omega
 .simp only[On,QJ]at h3 ⊢;omega
theorem Am(ns:List Int)(hn:ns.length<=63)(a:Nat)(s:T):∀(js:List Nat)(l:List Int)(s4:Sl),RdOk l->l.length+js.length<=4->∃l2 s5,bD (gN 4) clF (js.map λ(j:Nat)=>T.int j) [.va (.scr ns),.va (.int a),.va s,.va (.tup (l.map .int)),s4]=.ok (.nx [.va (.scr ns),.va (.int a),.va s,.va (.tup (l2.map .int)),s5])/\RdOk l2/\l2.length=l.length+js.length
 |[],l,s4,h,_=>⟨l,s4,rfl,h,rfl⟩
 |j::js,l,s4,h,hl=>by rw[Ol]at hl;obtain⟨l2,e2,h2,n2⟩:=G0 ns hn a j s l h (by omega);obtain⟨l3,s5,e3,h3,n3⟩:=Am ns hn a s js l2 (.va (.int j)) h2 (by omega);refine⟨l3,s5,?_,h3,by rw[n3,n2,Ol];omega⟩;rw[Od,dM rfl e2];exact e3
def i8(n:Nat):rng 0 (n:Int)=(Oo n).map λ(j:Nat)=>T.int j:=by unfold rng;simp
def RdOk.reads{l:List Int}(h:RdOk l)(hl:l.length<=4):cC (.tup (l.map .int))=ZC:=by
 obtain⟨l',z,rfl,h1,h2,h3⟩:=h;unfold cC;rw[Oa];refine⟨?_,?_⟩
 .simp[eK];simp at hl;omega
 .show(((l'++[z]).map T.int).all (λu=>aX u 0 99)&&(match nums ((l'++[z]).map T.int)with|some m=>mB m|none=>ZD))=ZC;rw[gU];show(_&&mB (l'++[z]))=ZC;rw[h1,VJ,OH];intro t ht;obtain⟨x,hx,rfl⟩:=Os.mp ht;have:=h2 x hx;simp only[aX,Oa,decide_eq_true_eq];omega
def Fo(n:Nat)(l:List Int)(h:l.length<=n):sm n (.tup (l.map .int))=ZC:=sm_tup.mpr ⟨by rw[Oc];exact h,λt ht=>by obtain⟨x,_,rfl⟩:=Os.mp ht;simp[sm]⟩
def Ek(ns:List Int)(hn:ns.length<=63)(a:Nat):∃c,dh [.scr ns,.int a]=.ok c/\bJ c=ZC/\sm 8 c=ZC:=by
 obtain⟨d1,e1,p1,q1⟩:=eC ns a 3 hn (by omega);obtain⟨d2,e2,p2,q2⟩:=eC ns (a+2) 6 hn (by omega);obtain⟨d3,e3,p3,q3⟩:=eC ns (a+1) 3 hn (by omega);obtain⟨d4,e4,p4,q4⟩:=eC ns (a+6) 3 hn (by omega);obtain⟨n3,rfl⟩:=Pw p3;obtain⟨l,s5,el,hl,nl⟩:=Am ns hn a (.int (1+d1)) (Oo n3) [d2] .em ⟨[],d2,rfl,rfl,λx hx=>by rw[OF]at hx;subst hx;simp;omega,by simp;omega⟩ (by simp;omega);have nl':l.length<=4:=by rw[nl];simp;omega
 have hr:=hl.reads nl';refine⟨.tup [.int (1+d1),.int (1+d1+d4),.tup (l.map .int)],aZ rfl ?_,?_,?_⟩
 .show jt [.va (.scr ns),.va (.int a),.em,.em,.em]=_;unfold jt;rw[aw (bM (ay rfl (eY e1 rfl rfl rfl) rfl) rfl)];rw[aw (bM (dy (ar (eY e2 rfl rfl rfl) rfl) (aB (k:=1) (by simp))) rfl)];rw[aw ((fT (HM (ar (eY e3 rfl rfl rfl) rfl) (by omega) (by omega)) (by rw[i8];exact el)))];exact bB (dy (ar rfl (ar (ay rfl (eY e4 rfl rfl rfl) rfl) (ar rfl rfl))) (aB (k:=3) (by simp)))
 .show(ZC&&(mS (.int (1+d1)) (.int (1+d1+d4))&&cC _))=ZC;rw[hr];simp only[mS,aX,Ru,VJ,Oa,decide_eq_true_eq];omega
 .refine sm_tup.mpr ⟨by simp,λt ht=>?_⟩;rcases Oh.mp ht with rfl|ht
  .simp[sm]
  .rcases Oh.mp ht with rfl|ht
   .simp[sm]
   .rw[OF]at ht;subst ht;exact Fo 8 l (by omega)
variable{y:T}
theorem ox:∀(cs:List T)(i:Nat),y∈fP i cs->∃c k:Nat,y=.tup [.int c,.int k]/\i<=c/\c<i+cs.length/\k<ID (cs.getD (c - i) .non)
 |[],i,h=>by cases h
 |x::cs,i,h=>by
  rw[fP]at h;rcases OS.mp h with h|h
  .unfold og at h;obtain⟨t,ht,rfl⟩:=Os.mp h;obtain⟨j,rfl,hj⟩:=tO ht;refine⟨i,j,rfl,Ou _,by rw[Ol];omega,?_⟩;rw[SK];show j<ID x;omega
  .obtain⟨c,k,e,h1,h2,h3⟩:=ox cs (i+1) h;refine⟨c,k,e,by omega,by rw[Ol];omega,?_⟩;have:c - i=(c - (i+1))+1:=by omega
   rw[this];exact h3
def nR(h:y∈fP 0 cs):bh cs y=ZC:=by obtain⟨c,k,rfl,_,h2,h3⟩:=ox cs 0 h;show(decide ((0:Int)<=(c:Int))&&decide ((c:Int)<(cs.length:Int))&&(decide ((0:Int)<=(k:Int))&&decide ((k:Int)<(reads cs (c:Int):Int))))=ZC;rw[SL]at h3;rw[rP];simp only[Oa,decide_eq_true_eq];omega
theorem mW:∀(cs:List T)(i:Nat),(fP i cs).Nodup
 |[],i=>Re
 |x::cs,i=>by
  rw[fP,PV];refine⟨?_,mW cs (i+1),?_⟩
  .unfold og rng;rw[ON];rw[Ts,Wd];refine List.nodup_range.imp ?_;intro a b hab e;simp at e;exact hab (by omega)
  .intro a ha b hb e;subst e;unfold og at ha;obtain⟨t,ht,rfl⟩:=Os.mp ha;obtain⟨c,k,e,h1,_,_⟩:=ox cs (i+1) hb;simp at e;omega
def C7(h:l.Nodup){j:Nat}(hi:i<l.length)(hj:j<l.length)(hij:i≠j):l[i] ≠l[j]:=by
 rw[Ts,RW]at h;rcases Rm i j with q|q
 .exact h i j hi hj q
 .exact λe=>h j i hj hi (by omega) e.symm
theorem uK:∀(cs:List T)(i:Nat),(∀c∈cs,bJ c=ZC)->(fP i cs).length<=4*cs.length
 |[],i,_=>Ou _
 |x::cs,i,h=>by obtain⟨a,b,r,rfl,_,h2⟩:=iw (h x Of);have:=uK cs (i+1) λc hc=>h c (N9 _ hc);rw[fP,On,jX,Ol];show r.length+_<=_;omega
def Ea{a b:T}(ha:bh cs a=ZC)(hb:bh cs b=ZC)(h:a≠b):aS a b=ZD:=by obtain⟨c,k,rfl⟩:=cN ha;obtain⟨c',k',rfl⟩:=cN hb;rw[Bool.eq_false_iff];intro e;simp[aS,beqTs]at e;exact h (by rw[e.1,e.2])
def vD{a:T}(ha:bh cs a=ZC):sm 8 a=ZC:=by obtain⟨c,k,rfl⟩:=cN ha;simp[sm,sms]
def yD(h:i<l.length):aU (.lst l) (.int (i:Int))=.ok l[i]:=by show(match L2.atI l (i:Int)with|some t=>Rs.ok t|none=>.bad)=_;rw[jZ (Og h)]
def Ed(a b:Int):oh (.int a) (.int b)=.ok (.bl (a == b)):=by unfold oh;rw[if_pos (g9 (by simp[T.dep]) rfl rfl)];rfl
def Bi(ns:List Int)(hn:ns.length<=63)(a:Nat)(cs:List T)(hc:bp (.tup cs)=ZC):∃r,dI [.scr ns,.int a,.tup cs]=.ok r/\(r=.non\/(bN cs r=ZC/\sm 8 r=ZC)):=by
 obtain⟨ha,h1,h4⟩:=cj hc;have hlen:=uK cs 0 ha;have er:=qG cs hc;have gl:∀s4 s5 s6 s7:Sl,cl cz (ae (vr 3) aj) [.va (.scr ns),.va (.int a),.va (.tup cs),.va (.lst (fP 0 cs)),s4,s5,s6,s7]=.ok (.int ((fP 0 cs).length:Nat)):=λ_ _ _ _=>rfl;have s1:cI (cl bf (ae (vr 2) aj)) (gN 3) [.va (.scr ns),.va (.int a),.va (.tup cs),.em,.em,.em,.em,.em]=.ok (.nx [.va (.scr ns),.va (.int a),.va (.tup cs),.va (.lst (fP 0 cs)),.em,.em,.em,.em]):=bM (aE rfl er) rfl;have lt:o2 wz (cl cz (ae (vr 3) aj)) (cn (.int 2)) [.va (.scr ns),.va (.int a),.va (.tup cs),.va (.lst (fP 0 cs)),.em,.em,.em,.em]=.ok (.bl (decide (((fP 0 cs).length:Int)<2))):=ay (gl _ _ _ _) rfl rfl;by_cases hs:(fP 0 cs).length<2
 .refine⟨.non,aZ rfl ?_,.inl rfl⟩;show eV [.va (.scr ns),.va (.int a),.va (.tup cs),.em,.em,.em,.em,.em]=_;unfold eV;rw[aw s1];rw[decide_eq_true (by omega)]at lt;exact fB ((dA (bx lt)).trans rfl)
 .rw[decide_eq_false (by omega)]at lt;generalize hN:(fP 0 cs).length=n at*;obtain⟨d1,e1,p1,q1⟩:=eC ns a (n:Int) hn (by omega);obtain⟨d2,e2,p2,q2⟩:=eC ns (a+1) ((n:Int) - 1) hn (by omega);obtain⟨d3,e3,p3,q3⟩:=eC ns (a+2) 8 hn (by omega);obtain⟨d4,e4,p4,q4⟩:=eC ns (a+3) 3 hn (by omega);obtain⟨d5,e5,p5,q5⟩:=eC ns (a+4) 9 hn (by omega);obtain⟨i,rfl⟩:=Pw p1;obtain⟨d2,rfl⟩:=Pw p2;have hi:i<(fP 0 cs).length:=by omega
  have hj:(i+1+d2) % n<(fP 0 cs).length:=by rw[hN];exact Nat.mod_lt _ (by omega)
  have hij:i≠(i+1+d2) % n:=by
   rcases Rm (i+1+d2) n with q|q
   .rw[WR q];omega
   .have:(i+1+d2) % n=i+1+d2 - n:=by rw[Nat.mod_eq_sub_mod q,WR (by omega)]
    rw[this];omega
  have eA:=nR (PR hi);have eB:=nR (PR hj);have eN:(fP 0 cs)[i] ≠(fP 0 cs)[(i+1+d2) % n]:=C7 (mW cs 0) hi hj hij;generalize hA:(fP 0 cs)[i]=A at*;generalize hB:(fP 0 cs)[(i+1+d2) % n]=B at*;let y:T:=if d4 == 0 then .non else .int (d3+d5);refine⟨.tup [A,B,.int d3,y],aZ rfl ?_,.inr ⟨?_,?_⟩⟩
  .show eV [.va (.scr ns),.va (.int a),.va (.tup cs),.em,.em,.em,.em,.em]=_;unfold eV;rw[aw s1];rw[aw ((dt (bx lt)).trans rfl)];rw[aw (Z':=[.va (.scr ns),.va (.int a),.va (.tup cs),.va (.lst (fP 0 cs)),.va (.int (i:Nat)),.em,.em,.em]) (bM (eY e1 rfl rfl (gl _ _ _ _)) rfl)];rw[aw (bM (ay (ay rfl (eY e2 rfl rfl (ay (gl _ _ _ _) rfl rfl)) rfl) (gl _ _ _ _) (lA (by omega))) rfl)];rw[aw (Z':=[.va (.scr ns),.va (.int a),.va (.tup cs),.va (.lst (fP 0 cs)),.va (.int (i:Nat)),.va (.int ((i+1+d2) % n:Nat)),.va (.int d3),.em]) (bM (eY e3 rfl rfl rfl) rfl)];have ey:DT (tb (o2 oh (cl aJ (ae (vr 0) (ae (o2 aV (vr 1) (cn (.int 3))) (ae (cn (.int 3)) aj)))) (cn (.int 0)))) (cn .non) (o2 aV (vr 6) (cl aJ (ae (vr 0) (ae (o2 aV (vr 1) (cn (.int 4))) (ae (cn (.int 9)) aj))))) [.va (.scr ns),.va (.int a),.va (.tup cs),.va (.lst (fP 0 cs)),.va (.int (i:Nat)),.va (.int ((i+1+d2) % n:Nat)),.va (.int d3),.em]=.ok y:=by
    rw[wK (bx (ay (eY e4 rfl rfl rfl) rfl (Ed _ _)))];show _=Rs.ok (if d4 == 0 then T.non else .int (d3+d5));cases d4 == 0 with
    |true=>rfl
    |false=>exact ay rfl (eY e5 rfl rfl rfl) rfl
   rw[aw (bM ey rfl)];refine bB (dy (ar (ay rfl rfl ?_) (ar (ay rfl rfl ?_) (ar rfl (ar rfl rfl)))) (aB (k:=4) (by simp)))
   .rw[<-hA];exact yD hi
   .rw[<-hB];exact yD hj
  .show(eZ (.int d3) y&&(bh cs A&&(bh cs B&& !aS A B)))=ZC;rw[eA,eB,Ea eA eB eN];have:eZ (.int d3) y=ZC:=by
    show(aX (.int d3) 0 999&&(match(T.int d3),(if d4 == 0 then T.non else .int (d3+d5))with|_,.non=>ZC|.int i,_=>aX (if d4 == 0 then T.non else .int (d3+d5)) i 999|_,_=>ZD))=ZC;cases d4 == 0 with
    |true=>simp[aX];omega
    |false=>simp[aX];omega
   rw[this];rfl
  .refine sm_tup.mpr ⟨by simp,λt ht=>?_⟩;have hy:sm 8 y=ZC:=by show sm 8 (if d4 == 0 then T.non else .int (d3+d5))=ZC;cases d4 == 0 <;> simp[sm]
   simp only[Oh,Pe,or_false]at ht;rcases ht with rfl|rfl|rfl|rfl
   .exact vD eA
   .exact vD eB
   .simp[sm]
   .exact hy
def okv:Rs T->T
 |.ok t=>t
 |_=>.non
def uv(l:List T)(k:Int)(h : -(2 ^ 63)<=k/\k<2 ^ 63/\l.length*k.toNat<=ZI):cu (.lst l) (.int k)=.ok (.lst (OK k.toNat l).flatten):=by show yp (.lst l) (.int k)=_;unfold yp;exact if_pos h
def mul_one(x:T)(b:Bool):cu (.lst [x]) (.int (if b then 1 else 0))=.ok (.lst (if b then [x]else [])):=by
 cases b with
 |true=>exact uv [x] 1 ⟨by decide,by decide,aB (k:=1) (by simp)⟩
 |false=>exact uv [x] 0 ⟨by decide,by decide,aB (k:=1) (by simp)⟩
def BD(cs ls:List T):Prop:=∀t∈ls,bN cs t=ZC/\sm 8 t=ZC
def Gk(ns:List Int)(hn:ns.length<=63)(a j:Nat)(m:T)(cs ls:List T)(hc:bp (.tup cs)=ZC)(h:BD cs ls)(hl:ls.length<=100)(s6:Sl):
  ∃ls2 s7,leF [.va (.scr ns),.va (.int a),.va m,.va (.tup cs),.va (.lst ls),.va (.int j),s6]=.ok (.nx [.va (.scr ns),.va (.int a),.va m,.va (.tup cs),.va (.lst ls2),.va (.int j),s7])/\BD cs ls2/\ls2.length<=ls.length+1:=by
 obtain⟨r,er,hr⟩:=Bi ns hn (a+31+6*j) cs hc;have e1:∀G,aD (cI (cl dI (ae (vr 0) (ae (o2 aV (o2 aV (vr 1) (cn (.int 31))) (o2 cu (cn (.int 6)) (vr 5))) (ae (vr 3) aj)))) (gN 6)) G [.va (.scr ns),.va (.int a),.va m,.va (.tup cs),.va (.lst ls),.va (.int j),s6]=G [.va (.scr ns),.va (.int a),.va m,.va (.tup cs),.va (.lst ls),.va (.int j),.va r]:=λG=>by refine aw (bM (aE (ar rfl (ar (ay rfl (ay rfl rfl (l0 (by omega) (by omega))) rfl) (ar rfl rfl))) er) rfl)
 have e2:cl wM (ae (o2 fS (vr 6) (cn .non)) aj) [.va (.scr ns),.va (.int a),.va m,.va (.tup cs),.va (.lst ls),.va (.int j),.va r]=.ok (.int (if !r.isN then 1 else 0)):=aE rfl rfl;refine⟨ls++(if !r.isN then [r]else []),.va r,?_,?_,?_⟩
 .refine(e1 _).trans (bM (ay rfl (ay (jS rfl (aB (k:=1) (by simp))) e2 (mul_one _ _)) (oO _ _ ?_)) rfl);rw[On];cases r.isN <;> simp <;> omega
 .intro t ht;rcases OS.mp ht with ht|ht
  .exact h t ht
  .rcases hr with rfl|hr
   .cases ht
   .cases q:r.isN with
    |true=>rw[q]at ht;cases ht
    |false=>
     rw[q]at ht;rw[show t=r by simpa using ht];exact hr
 .rw[On];cases r.isN <;> simp
theorem zR(ns:List Int)(hn:ns.length<=63)(a:Nat)(m:T)(cs:List T)(hc:bp (.tup cs)=ZC):∀(js:List Nat)(ls:List T)(s5 s6:Sl),BD cs ls->ls.length+js.length<=100 ->
  ∃ls2 t5 t6,bD (gN 5) leF (js.map λ(j:Nat)=>T.int j) [.va (.scr ns),.va (.int a),.va m,.va (.tup cs),.va (.lst ls),s5,s6]=.ok (.nx [.va (.scr ns),.va (.int a),.va m,.va (.tup cs),.va (.lst ls2),t5,t6])/\BD cs ls2/\ls2.length<=ls.length+js.length
 |[],ls,s5,s6,h,_=>⟨ls,s5,s6,rfl,h,Ou _⟩
 |j::js,ls,s5,s6,h,hl=>by rw[Ol]at hl;obtain⟨l2,s7,e2,h2,n2⟩:=Gk ns hn a j m cs ls hc h (by omega) s6;obtain⟨l3,t5,t6,e3,h3,n3⟩:=zR ns hn a m cs hc js l2 (.va (.int j)) s7 h2 (by omega);refine⟨l3,t5,t6,?_,h3,by rw[Ol];omega⟩;rw[Od,dM rfl e2];exact e3
def Kl(ns:List Int)(hn:ns.length<=63)(a m:Nat)(hm:m<=8):∃cs ls,f9 [.scr ns,.int a,.int m]=.ok (RR cs ls)/\bp (.tup cs)=ZC/\cs.length<=3/\(∀c∈cs,sm 8 c=ZC)/\BD cs ls/\ls.length<=m:=by
 obtain⟨d1,e1,p1,q1⟩:=eC ns a 3 hn (by omega);obtain⟨d2,e2,p2,q2⟩:=eC ns (a+30) ((m:Int)+1) hn (by omega);obtain⟨d1,rfl⟩:=Pw p1;obtain⟨d2,rfl⟩:=Pw p2;let hcl:T->T:=λt=>match t with
  |.int k=>okv (dh [.scr ns,.int ((a:Int)+1+8*k)])
  |_=>.non
 have hh:∀t∈rng 0 ((1+d1:Nat):Int),∃k:Nat,t=.int k/\dh [.scr ns,.int ((a+1+8*k:Nat):Int)]=.ok (hcl t)/\bJ (hcl t)=ZC/\sm 8 (hcl t)=ZC:=λt ht=>by
  obtain⟨k,rfl,_⟩:=tO ht;obtain⟨c,ec,h1,h2⟩:=Ek ns hn (a+1+8*k);have e:hcl (.int k)=c:=by show okv (dh [.scr ns,.int ((a+1+8*k:Nat):Int)])=c;rw[ec];rfl
  exact⟨k,rfl,by rw[e];exact ec,by rw[e];exact h1,by rw[e];exact h2⟩
 generalize hcs:(rng 0 ((1+d1:Nat):Int)).map hcl=cs;have lc:cs.length=1+d1:=by rw[<-hcs,Oc,lP]
 have hc:bp (.tup cs)=ZC:=by show(eK (.tup cs) 1 4&&cs.all bJ)=ZC;rw[Oa,OH];refine⟨by simp[eK];omega,λc h=>?_⟩;rw[<-hcs]at h;obtain⟨t,ht,rfl⟩:=Os.mp h;obtain⟨_,_,_,h1,_⟩:=hh t ht;exact h1
 have hsm:∀c∈cs,sm 8 c=ZC:=λc h=>by rw[<-hcs]at h;obtain⟨t,ht,rfl⟩:=Os.mp h;obtain⟨_,_,_,_,h1⟩:=hh t ht;exact h1
 obtain⟨ls,t5,t6,el,hl,nl⟩:=zR ns hn a (.int m) cs hc (Oo d2) [] .em .em (λt h=>by cases h) (by simp;omega);refine⟨cs,ls,aZ rfl ?_,hc,by omega,hsm,hl,by simp at nl;omega⟩;show iJ [.va (.scr ns),.va (.int a),.va (.int m),.em,.em,.em,.em]=_;unfold iJ;have s1:cI (cl e9 (ae (d6 (iR (ae (o2 aV (cn (.int 1)) (cl aJ (ae (vr 0) (ae (vr 1) (ae (cn (.int 3)) aj))))) aj)) [ZB,ZA 0,ZA 1] (gN 0) bT (cl dh (ae (vr 1) (ae (o2 aV (o2 aV (vr 2) (cn (.int 1))) (o2 cu (cn (.int 8)) (vr 0))) aj)))) aj)) (gN 3) [.va (.scr ns),.va (.int a),.va (.int m),.em,.em,.em,.em]=.ok (.nx [.va (.scr ns),.va (.int a),.va (.int m),.va (.tup cs),.em,.em,.em]):=by refine bM (aE (ar (t:=.lst cs) ?_ rfl) rfl) rfl;rw[<-hcs];refine m7 (HM (ar (ay rfl (eY e1 rfl rfl rfl) rfl) rfl) (by omega) (by omega)) (aB (k:=3) (by rw[lP];omega)) (by simp) λt ht=>?_;obtain⟨k,rfl,ek,_,_⟩:=hh t ht;refine aE (ar rfl (ar (ay rfl (ay rfl rfl (l0 (by omega) (by omega))) rfl) rfl)) ek
 rw[aw s1];rw[aw (bM (jS rfl (aB (k:=0) (by simp))) rfl)];rw[aw ((fT (HM (ar (eY e2 rfl rfl (ay rfl rfl rfl)) rfl) (by omega) (by omega)) (by rw[i8];exact el)))];exact bB (dy (ar rfl (ar rfl rfl)) (aB (k:=2) (by simp)))
def ez{t:T}(h:bN cs t=ZC):∃a b x y,t=.tup [a,b,x,y]/\eZ x y=ZC/\bh cs a=ZC/\bh cs b=ZC/\aS a b=ZD:=by
 unfold bN at h;split at h
 .simp only[Oa,TX]at h;exact⟨_,_,_,_,rfl,h.1,h.2.1,h.2.2.1,h.2.2.2⟩
 .cases h
def IC{ls:List T}(hc:bp (.tup cs)=ZC)(hs:∀c∈cs,sm 8 c=ZC)(hl:BD cs ls)(hn:ls.length<=8):gv (RR cs ls)=ZC/\sm 8 (RR cs ls)=ZC:=by
 refine⟨?_,?_⟩
 .show(bp (.tup cs)&&(eK (.tup ls) 0 8&&ls.all (bN cs)))=ZC;rw[hc,Ru,Oa,OH];exact⟨by simp[eK];exact hn,λt ht=>(hl t ht).1⟩
 .refine sm_tup.mpr ⟨by simp,λt ht=>?_⟩;simp only[Oh,Pe,or_false]at ht;rcases ht with rfl|rfl
  .exact sm_tup.mpr ⟨by have:=(cj hc).2.2;omega,hs⟩
  .exact sm_tup.mpr ⟨hn,λt ht=>(hl t ht).2⟩
end G
namespace Tr
open PySem
section
variable {f fa fb:Y2}{fs:Y0}{b c:Y3}{F G:Y1}{Z Z' Z1 Z2:En}{t u r:T}{ts l m:List T}
mutual
theorem nr:∀(t:T),t.pl=ZC->aS t t=ZC
 |.non,_=>rfl
 |.bl a,_=>by simp[aS]
 |.int a,_=>by simp[aS]
 |.str a,_=>by simp[aS]
 |.tup l,h=>by rw[aS];exact beqTs_refl l (by unfold T.pl at h;exact h)
 |.lst l,h=>by rw[aS];exact beqTs_refl l (by unfold T.pl at h;exact h)
 |.scr _,h=>by simp[T.pl]at h
theorem beqTs_refl:∀(l:List T),plS l=ZC->beqTs l l=ZC
 |[],_=>rfl
 |t::l,h=>by unfold plS at h;rw[Oa]at h;rw[beqTs,nr t h.1,beqTs_refl l h.2];rfl
end
def kq(hp:t.pl=ZC)(hd:t.dep<=60):qf t t=.ok (.bl ZD):=by unfold qf;rw[if_pos (g9 hd (T.KB _ hp) (T.KB _ hp)),nr t hp];rfl
def mn(hp:t.pl=ZC)(hd:t.dep<=60):oh t t=.ok (.bl ZC):=by unfold oh;rw[if_pos (g9 hd (T.KB _ hp) (T.KB _ hp)),nr t hp]
theorem gd:∀{l:List T},(∀t∈l,t.dep<=n)->deps l<=n
 |[],_=>by unfold deps;omega
 |t::l,h=>by unfold deps;have:=gd λu hu=>h u (N9 _ hu);have:=h t Of;omega
theorem gy:∀{l:List T},(∀t∈l,t.pl=ZC)->plS l=ZC
 |[],_=>rfl
 |t::l,h=>by unfold plS;rw[h t Of,gy λu hu=>h u (N9 _ hu)];rfl
end
end Tr
variable{j:Nat}
namespace G
open PySem Tr
noncomputable def dr(r:List Int)(k:Nat):Int:=r.getD (k+1) 0 - r.getD k 0
noncomputable def pr(n:Nat)(x y:Int)(r:List Int)(k:Nat):List T:=
 [.tup [.tup [.int n,.int k],.tup [.int n,.int ((k+1:Nat):Int)],.int (dr r k*y)],.tup [.tup [.int n,.int ((k+1:Nat):Int)],.tup [.int n,.int k],.int (-dr r k*x)]]
noncomputable def cB(n:Nat)(x y:Int)(r:List Int):List T:=(Oo (r.length - 1)).flatMap (pr n x y r)
noncomputable abbrev KP(n:Nat)(x y:Int)(r:List Int)(acc:List T)(s4 s5 s6 s7:Sl):En:=[.va (.int n),.va (.tup [.int x,.int y,.tup (r.map .int)]),.va (.tup (r.map .int)),.ow (.lst acc),s4,s5,s6,s7]
def oG(h:k<r.length):(r.map T.int)[k]?=ZA (.int (r.getD k 0)):=by rw[Ox,Og h];simp[h]
def G4(n:Nat)(x y:Int)(r:List Int)(acc:List T)(k:Nat)(s5 s6 s7:Sl)(hk:k+1<r.length)(hx:0<=x/\x<=9)(hy:0<=y/\y<=9)(ha:acc.length<=100):
  bcF (KP n x y r acc (.va (.int k)) s5 s6 s7)=.ok (.nx (KP n x y r (acc++pr n x y r k) (.va (.int k)) (.va (.tup [.int n,.int k])) (.va (.tup [.int n,.int ((k+1:Nat):Int)])) (.va (.int (dr r k))))):=by
 have h2:([T.int n,T.int k]:List T).length<=ZI:=aB (k:=2) (by simp);have ek:((k:Int)+1)=((k+1:Nat):Int):=by omega
 refine(aw (bM (dy rfl (aB (k:=2) (by simp))) rfl)).trans ?_;refine(aw (bM (dy (ar rfl (ar (ay rfl rfl (congrArg (λz=>Rs.ok (T.int z)) ek)) rfl)) (aB (k:=2) (by simp))) rfl)).trans ?_;refine(aw (bM (ay (rz rfl (ay rfl rfl (congrArg (λz=>Rs.ok (T.int z)) ek)) (oG hk)) (rz rfl rfl (oG (by omega))) rfl) rfl)).trans ?_;refine(aw (nQ (dy (ar rfl (ar rfl (ar (ay rfl rfl (Dc (by omega) (by omega))) rfl))) (aB (k:=3) (by simp))) rfl (by omega))).trans ?_;refine(nQ (dy (ar rfl (ar rfl (ar (ay rfl rfl (Dc (by omega) (by omega))) rfl))) (aB (k:=3) (by simp))) rfl (by rw[On];simp;omega)).trans ?_;rw[OU];rfl
theorem Aq(n:Nat)(x y:Int)(r:List Int)(hx:0<=x/\x<=9)(hy:0<=y/\y<=9):∀(js:List Nat)(acc:List T)(s4 s5 s6 s7:Sl),(∀k∈js,k+1<r.length)->acc.length+2*js.length<=100 ->
  ∃t4 t5 t6 t7,bD (gN 4) bcF (js.map λ(k:Nat)=>T.int k) (KP n x y r acc s4 s5 s6 s7)=.ok (.nx (KP n x y r (acc++js.flatMap (pr n x y r)) t4 t5 t6 t7))
 |[],acc,s4,s5,s6,s7,_,_=>⟨s4,s5,s6,s7,by simp[bD]⟩
 |k::js,acc,s4,s5,s6,s7,hk,hl=>by rw[Ol]at hl;have e:=G4 n x y r acc k s5 s6 s7 (hk k Of) hx hy (by omega);obtain⟨t4,t5,t6,t7,ih⟩:=Aq n x y r hx hy js (acc++pr n x y r k) (.va (.int k)) (.va (.tup [.int n,.int k])) (.va (.tup [.int n,.int ((k+1:Nat):Int)])) (.va (.int (dr r k))) (λj hj=>hk j (N9 _ hj)) (by rw[On];simp[pr];omega);refine⟨t4,t5,t6,t7,?_⟩;rw[Od,dM rfl e,ih,QU,OU]
def Ep(n:Nat)(x y:Int)(r:List Int)(hx:0<=x/\x<=9)(hy:0<=y/\y<=9)(h1:1<=r.length)(h4:r.length<=4):dg [.int n,.tup [.int x,.int y,.tup (r.map .int)]]=.ok (.lst (cB n x y r)):=by
 refine aZ rfl ?_;show fK [.va (.int n),.va (.tup [.int x,.int y,.tup (r.map .int)]),.em,.em,.em,.em,.em,.em]=_;unfold fK;rw[aw (bM rfl rfl)];rw[aw (Z':=KP n x y r [] .em .em .em .em) rfl];obtain⟨t4,t5,t6,t7,e⟩:=Aq n x y r hx hy (Oo (r.length - 1)) [] .em .em .em .em (λk hk=>by have:=OZ.mp hk;omega) (by simp;omega);have e1:iR (ae (o2 fM (cl cz (ae (vr 2) aj)) (cn (.int 1))) aj) (KP n x y r [] .em .em .em .em)=.ok (rng 0 ((r.length - 1:Nat):Int)):=by refine HM (ar (ay (t:=.int (r.length:Nat)) (aE rfl (by show Rs.ok (T.int ((r.map T.int).length:Nat))=_;rw[Oc])) rfl (congrArg (λz=>Rs.ok (T.int z)) (by omega))) rfl) (by omega) (by omega)
 rw[aw ((fT (by rw[e1,i8]) e))];rfl
def dZ{t:T}(h:bJ t=ZC):∃(x y:Int)(r:List Int),t=.tup [.int x,.int y,.tup (r.map .int)]/\(0<=x/\x<=9)/\(0<=y/\y<=9)/\1<=r.length/\r.length<=4:=by obtain⟨x,y,r,rfl,h1,h4⟩:=iw h;have h':(mS x y&&cC (.tup r))=ZC:=h;rw[Oa]at h';obtain⟨hp,hr⟩:=h';unfold mS at hp;rw[Oa]at hp;obtain⟨i,rfl,i1,i2⟩:=dq hp.1;obtain⟨j,rfl,j1,j2⟩:=dq hp.2;unfold cC at hr;rw[Oa]at hr;have hr2:((r.all λu=>aX u 0 99)&&(match nums r with|some m=>mB m|none=>ZD))=ZC:=hr.2;rw[Oa]at hr2;obtain⟨m,em⟩:=um hr2.1;have e:=pX em;subst e;rw[Oc]at h1 h4;exact⟨i,j,m,rfl,⟨by omega,by omega⟩,⟨by omega,by omega⟩,h1,h4⟩
noncomputable def xB(n:Nat)(t:T):List T:=match t with
 |.tup [.int x,.int y,.tup r] =>match nums r with
  |some m=>cB n x y m
  |none=>[]
 |_=>[]
noncomputable def bC:Nat->List T->List T
 |_,[] =>[]
 |i,c::r=>xB i c++bC (i+1) r
noncomputable def lB(t:T):List T:=match t with
 |.tup [a,b,.int le,mo] =>.tup [b,a,.int (-le)] ::(if mo.isN then []else [.tup [a,b,mo]])
 |_=>[]
def By(cs ls:List T):List T:=bC 0 cs++ls.flatMap lB
def oQ(n:Nat)(x y:Int)(r:List Int):xB n (.tup [.int x,.int y,.tup (r.map .int)])=cB n x y r:=by unfold xB;simp only[gU]
def Kv(n:Nat)(x y:Int)(r:List Int):(cB n x y r).length=2*(r.length - 1):=by
 unfold cB;rw[List.length_flatMap];have:∀l:List Nat,(l.map λk=>(pr n x y r k).length).sum=2*l.length:=by
  intro l;induction l with
  |nil=>rfl
  |cons a l ih=>rw[Od,QP,ih,Ol];simp[pr];omega
 rw[this,OV]
def xG{t:T}(h:bJ t=ZC):(xB n t).length<=6:=by obtain⟨x,y,r,rfl,_,_,h1,h4⟩:=dZ h;rw[oQ,Kv];omega
theorem uV:∀{cs:List T}{i:Nat},(∀c∈cs,bJ c=ZC)->(bC i cs).length<=6*cs.length
 |[],i,_=>by simp[bC]
 |c::cs,i,h=>by rw[bC,On,Ol];have:=xG (n:=i) (h c Of);have:=uV (i:=i+1) λc hc=>h c (N9 _ hc);omega
def yz(t:T):(lB t).length<=2:=by
 unfold lB;split
 .rename_i a b le mo;cases mo.isN <;> simp
 .simp
theorem zV:∀(ls:List T),(ls.flatMap lB).length<=2*ls.length
 |[] =>by simp
 |t::ls=>by rw[QU,On,Ol];have:=yz t;have:=zV ls;omega
variable{cs:List T}
def jR{t:T}(h:bN cs t=ZC):∃(a b mo:T)(le:Int),t=.tup [a,b,.int le,mo]/\bh cs a=ZC/\bh cs b=ZC:=by obtain⟨a,b,x,y,rfl,hd,ha,hb,_⟩:=ez h;unfold eZ at hd;rw[Oa]at hd;obtain⟨i,rfl,_⟩:=dq hd.1;exact⟨a,b,y,i,rfl,ha,hb⟩
def Bj{t:T}(h:bN cs t=ZC):cW [t]=.ok (.lst (lB t)):=by
 obtain⟨a,b,mo,le,rfl,_,_⟩:=jR h;refine aZ rfl ?_;show fh [.va (.tup [a,b,.int le,mo]),.em]=_;unfold fh;rw[aw (Z':=[.va (.tup [a,b,.int le,mo]),.ow (.lst [.tup [b,a,.int (-le)]])]) (DH (ar (dy (ar rfl (ar rfl (ar rfl rfl))) (aB (k:=3) (by simp))) rfl) (by simp) (by simp))];have e:∀(Z:En) l,Z=[.va (.tup [a,b,.int le,mo]),.ow (.lst l)]->o2 fS (o2 aU (vr 0) (cn (.int 3))) (cn .non) Z=.ok (.bl (!mo.isN)):=λZ l z=>by subst z;rfl
 have e2:lB (.tup [a,b,.int le,mo])=.tup [b,a,.int (-le)] ::(if mo.isN then []else [.tup [a,b,mo]]):=rfl;rw[e2];cases q:mo.isN with
 |true=>
  rw[aw ((dt (bx (by rw[e _ _ rfl,q];rfl))).trans rfl)];rfl
 |false=>
  rw[aw ((dA (bx (by rw[e _ _ rfl,q];rfl))).trans (nQ (dy (ar rfl (ar rfl (ar rfl rfl))) (aB (k:=3) (by simp))) rfl (by simp)))];rfl
abbrev bdG:T->En->Rs En:=gT 2 (iY (gN 2) (iY (gN 3) u9))
theorem Ap(R:T)(s4:Sl):∀(cs:List T)(acc:List T)(i:Nat)(s2 s3:Sl),(∀c∈cs,bJ c=ZC)->acc.length+6*cs.length<=100 ->
  ∃y2 y3,bD bdG bdF (dN i cs) [.va R,.ow (.lst acc),s2,s3,s4]=.ok (.nx [.va R,.ow (.lst (acc++bC i cs)),y2,y3,s4])
 |[],acc,i,s2,s3,_,_=>⟨s2,s3,by simp[dN,bD,bC]⟩
 |c::cs,acc,i,s2,s3,hc,hl=>by
  have h0:=hc c Of;have hx:=xG (n:=i) h0;obtain⟨x,y,r,rfl,a1,a2,a3,a4⟩:=dZ h0;rw[Ol]at hl;rw[oQ]at hx;have st:bdF [.va R,.ow (.lst acc),.va (.int i),.va (.tup [.int x,.int y,.tup (r.map .int)]),s4]=.ok (.nx [.va R,.ow (.lst (acc++cB i x y r)),.va (.int i),.va (.tup [.int x,.int y,.tup (r.map .int)]),s4]):=
   DJ (aE rfl (Ep i x y r a1 a2 a3 a4)) rfl (by omega)
  obtain⟨z2,z3,ih⟩:=Ap R s4 cs (acc++cB i x y r) (i+1) (.va (.int i)) (.va (.tup [.int x,.int y,.tup (r.map .int)])) (λc h=>hc c (N9 _ h)) (by rw[On];omega);refine⟨z2,z3,?_⟩;rw[dN,dM rfl st,ih,bC,oQ,OU]
abbrev blF:Y1:=pz 1 (cl cW (ae (vr 4) aj))
theorem An(R:T)(cs:List T)(s2 s3:Sl):∀(ls:List T)(acc:List T)(s4:Sl),(∀t∈ls,bN cs t=ZC)->acc.length+2*ls.length<=100 ->
  ∃y4,bD (gN 4) blF ls [.va R,.ow (.lst acc),s2,s3,s4]=.ok (.nx [.va R,.ow (.lst (acc++ls.flatMap lB)),s2,s3,y4])
 |[],acc,s4,_,_=>⟨s4,by simp[bD]⟩
 |t::ls,acc,s4,hl,hn=>by rw[Ol]at hn;have:=yz t;have st:blF [.va R,.ow (.lst acc),s2,s3,.va t]=.ok (.nx [.va R,.ow (.lst (acc++lB t)),s2,s3,.va t]):=DJ (aE rfl (Bj (hl t Of))) rfl (by omega);obtain⟨y4,ih⟩:=An R cs s2 s3 ls (acc++lB t) (.va t) (λu h=>hl u (N9 _ h)) (by rw[On];omega);refine⟨y4,?_⟩;rw[dM rfl st,ih,QU,OU]
variable{R:T}
def qe(hp:R.pl=ZC)(h:gv R=ZC):cm [R]=.ok .non:=by refine yA (Z:=[.va R]) rfl ?_;show eR [.va R]=_;unfold eR;exact(dt ((dX (k:=ZC) (bx (aE rfl (by rw[wX R hp,h])))))).trans rfl
def rX(hp:R.pl=ZC)(h:gv R=ZD):cm [R]=.err "NoRecord":=by refine fA rfl ?_;show eR [.va R]=_;unfold eR;exact(dA ((dX (k:=ZD) (bx (aE rfl (by rw[wX R hp,h])))))).trans rfl
structure Good (cs ls:List T):Prop where
 c:bp (.tup cs)=ZC
 l:∀t∈ls,bN cs t=ZC
 n:ls.length<=8
 p:(RR cs ls).pl=ZC
variable{ls:List T}
def Good.ok(g:Good cs ls):gv (RR cs ls)=ZC:=by show(bp (.tup cs)&&(eK (.tup ls) 0 8&&ls.all (bN cs)))=ZC;rw[g.c,Ru,Oa,OH];exact⟨by simp[eK];exact g.n,g.l⟩
def Em(g:Good cs ls):eJ [RR cs ls]=.ok (.lst (By cs ls)):=by obtain⟨hc,c1,c4⟩:=cj g.c;have hn:=g.n;refine aZ rfl ?_;show kf [.va (RR cs ls),.em,.em,.em,.em]=_;unfold kf;rw[aw (uG (aE rfl (qe g.p g.ok)))];rw[aw (Z':=[.va (RR cs ls),.ow (.lst []),.em,.em,.em]) (uE (by simp))];obtain⟨y2,y3,e⟩:=Ap (RR cs ls) .em cs [] 0 .em .em hc (by simp;omega);rw[aw ((fT rfl e))];have:=uV (i:=0) hc;obtain⟨y4,e2⟩:=An (RR cs ls) cs y2 y3 ls ([] ++bC 0 cs) .em g.l (by rw[P5];omega);rw[aw ((fT rfl e2))];rfl
noncomputable abbrev HE(R:T)(acc:List T)(n:Nat)(x y:Int)(r:List Int)(s6 s7 s8 s9 s10 s11:Sl):En:=[.va R,.ow (.lst acc),.va (.int n),.va (.int x),.va (.int y),.va (.tup (r.map .int)),s6,s7,s8,s9,s10,s11]
def Gj(R:T)(n:Nat)(x y:Int)(r:List Int)(acc:List T)(k:Nat)(s7 s8 s9 s10 s11:Sl)(hk:k+1<r.length)(hx:0<=x/\x<=9)(hy:0<=y/\y<=9)(ha:acc.length<=100):
  lkF (HE R acc n x y r (.va (.int ((k+1:Nat):Int))) s7 s8 s9 s10 s11)=.ok (.nx (HE R (acc++pr n x y r k) n x y r (.va (.int ((k+1:Nat):Int))) (.va (.int (dr r k))) s8 s9 s10 s11)):=by
 have sb:∀acc s7,o2 fM (vr 6) (cn (.int 1)) (HE R acc n x y r (.va (.int ((k+1:Nat):Int))) s7 s8 s9 s10 s11)=.ok (.int k):=λacc s7=>ay rfl rfl (congrArg (λz=>Rs.ok (T.int z)) (by omega));refine(aw (bM (ay (rz rfl rfl (oG hk)) (rz rfl (sb acc s7) (oG (by omega))) rfl) rfl)).trans ?_;refine(aw (nQ (dy (ar (dy (ar rfl (ar (sb _ _) rfl)) (aB (k:=2) (by simp))) (ar (dy rfl (aB (k:=2) (by simp))) (ar (ay rfl rfl ((l0 (by omega) (by omega)).trans (by rw[UF]))) rfl))) (aB (k:=3) (by simp))) rfl (by omega))).trans ?_;refine(nQ (t:=.tup [.tup [.int n,.int ((k+1:Nat):Int)],.tup [.int n,.int k],.int (-dr r k*x)]) (dy (ar (dy rfl (aB (k:=2) (by simp))) (ar (dy (ar rfl (ar (sb _ _) rfl)) (aB (k:=2) (by simp))) (ar (ay rfl (ay (u:=.int (dr r k)) rfl rfl (l0 (by omega) (by omega))) (congrArg (λz=>Rs.ok (T.int z)) (by rw[Int.neg_mul,UF x,Int.zero_sub]))) rfl))) (aB (k:=3) (by simp))) rfl (by rw[On];simp;omega)).trans ?_;rw[OU];rfl
theorem zL(R:T)(n:Nat)(x y:Int)(r:List Int)(s8 s9 s10 s11:Sl)(hx:0<=x/\x<=9)(hy:0<=y/\y<=9):∀(js:List Nat)(acc:List T)(s6 s7:Sl),(∀k∈js,k+1<r.length)->acc.length+2*js.length<=100 ->
  ∃t6 t7,bD (gN 6) lkF (js.map λ(k:Nat)=>T.int ((k+1:Nat):Int)) (HE R acc n x y r s6 s7 s8 s9 s10 s11)=.ok (.nx (HE R (acc++js.flatMap (pr n x y r)) n x y r t6 t7 s8 s9 s10 s11))
 |[],acc,s6,s7,_,_=>⟨s6,s7,by simp[bD]⟩
 |k::js,acc,s6,s7,hk,hl=>by rw[Ol]at hl;have e:=Gj R n x y r acc k s7 s8 s9 s10 s11 (hk k Of) hx hy (by omega);obtain⟨t6,t7,ih⟩:=zL R n x y r s8 s9 s10 s11 hx hy js (acc++pr n x y r k) (.va (.int ((k+1:Nat):Int))) (.va (.int (dr r k))) (λj hj=>hk j (N9 _ hj)) (by rw[On];simp[pr];omega);refine⟨t6,t7,?_⟩;rw[Od,dM rfl e,ih,QU,OU]
def Fv(n:Nat)(h:1<=n):rng 1 (n:Int)=(Oo (n - 1)).map λ(k:Nat)=>T.int ((k+1:Nat):Int):=by
 unfold rng;have:((n:Int) - 1).toNat=n - 1:=by omega
 rw[this];exact OP λk _=>congrArg T.int (by omega)
variable{Z:En}
def iR2{f:Y0}{i j:Int}(h:f Z=.ok [.int i,.int j])(h0:0<=i)(h1:i<=100000)(h2:0<=j)(h3:j<=100000):iR f Z=.ok (rng i j):=by
 unfold iR;rw[h];have e:(mh i&&mh j)=ZC:=by unfold mh;simp;omega
 show(if (mh i&&mh j)=ZC then _ else _)=_;rw[e];rfl
abbrev L0:Y1:=(d7 (iR (ae (cn (.int 1)) (ae (cl cz (ae (vr 5) aj)) aj))) (gN 6) lkF)
noncomputable abbrev lcG:T->En->Rs En:=gT 2 (iY (gN 2) (iY (gT 3 (iY (gN 3) (iY (gN 4) (iY (gN 5) u9)))) u9))
theorem zT(R:T)(s8 s9 s10 s11:Sl):∀(cs:List T)(acc:List T)(i:Nat)(s2 s3 s4 s5 s6 s7:Sl),(∀c∈cs,bJ c=ZC)->acc.length+6*cs.length<=90 ->
  ∃y2 y3 y4 y5 y6 y7,bD lcG L0 (dN i cs) [.va R,.ow (.lst acc),s2,s3,s4,s5,s6,s7,s8,s9,s10,s11]=.ok (.nx [.va R,.ow (.lst (acc++bC i cs)),y2,y3,y4,y5,y6,y7,s8,s9,s10,s11])
 |[],acc,i,s2,s3,s4,s5,s6,s7,_,_=>⟨s2,s3,s4,s5,s6,s7,by simp[dN,bD,bC]⟩
 |c::cs,acc,i,s2,s3,s4,s5,s6,s7,hc,hl=>by
  have h0:=hc c Of;have hx:=xG (n:=i) h0;obtain⟨x,y,r,rfl,a1,a2,a3,a4⟩:=dZ h0;rw[Ol]at hl;rw[oQ]at hx;obtain⟨t6,t7,e⟩:=zL R i x y r s8 s9 s10 s11 a1 a2 (Oo (r.length - 1)) acc s6 s7 (λk hk=>by have:=OZ.mp hk;omega) (by rw[OV];omega);have e1:iR (ae (cn (.int 1)) (ae (cl cz (ae (vr 5) aj)) aj)) (HE R acc i x y r s6 s7 s8 s9 s10 s11)=.ok (rng 1 (r.length:Nat)):=
   iR2 (ar rfl (ar (aE rfl (by show Rs.ok (T.int ((r.map T.int).length:Nat))=_;rw[Oc])) rfl)) (by omega) (by omega) (by omega) (by omega)
  have st:L0 (HE R acc i x y r s6 s7 s8 s9 s10 s11)=.ok (.nx (HE R (acc++cB i x y r) i x y r t6 t7 s8 s9 s10 s11)):=(fT (by rw[e1,Fv _ a3]) e);obtain⟨z2,z3,z4,z5,z6,z7,ih⟩:=zT R s8 s9 s10 s11 cs (acc++cB i x y r) (i+1) (.va (.int i)) (.va (.int x)) (.va (.int y)) (.va (.tup (r.map .int))) t6 t7 (λc h=>hc c (N9 _ h)) (by rw[On];omega);refine⟨z2,z3,z4,z5,z6,z7,?_⟩;rw[dN,dM rfl st,ih,bC,oQ,OU]
noncomputable abbrev llG:T->En->Rs En:=gT 4 (iY (gN 8) (iY (gN 9) (iY (gN 10) (iY (gN 11) u9))))
theorem zK(R:T)(cs:List T)(s2 s3 s4 s5 s6 s7:Sl):∀(ls:List T)(acc:List T)(s8 s9 s10 s11:Sl),(∀t∈ls,bN cs t=ZC)->acc.length+2*ls.length<=100 ->
  ∃y8 y9 y10 y11,bD llG llF ls [.va R,.ow (.lst acc),s2,s3,s4,s5,s6,s7,s8,s9,s10,s11]=.ok (.nx [.va R,.ow (.lst (acc++ls.flatMap lB)),s2,s3,s4,s5,s6,s7,y8,y9,y10,y11])
 |[],acc,s8,s9,s10,s11,_,_=>⟨s8,s9,s10,s11,by simp[bD]⟩
 |t::ls,acc,s8,s9,s10,s11,hl,hn=>by
  rw[Ol]at hn;have hlb:=yz t;obtain⟨a,b,mo,le,rfl,_,_⟩:=jR (hl t Of);have e2:lB (.tup [a,b,.int le,mo])=.tup [b,a,.int (-le)] ::(if mo.isN then []else [.tup [a,b,mo]]):=rfl;have e:∀l,o2 fS (vr 11) (cn .non) [.va R,.ow (.lst l),s2,s3,s4,s5,s6,s7,.va a,.va b,.va (.int le),.va mo]=.ok (.bl (!mo.isN)):=λl=>rfl;have st:llF [.va R,.ow (.lst acc),s2,s3,s4,s5,s6,s7,.va a,.va b,.va (.int le),.va mo]=.ok (.nx [.va R,.ow (.lst (acc++lB (.tup [a,b,.int le,mo]))),s2,s3,s4,s5,s6,s7,.va a,.va b,.va (.int le),.va mo]):=by
   refine(aw (Z':=[.va R,.ow (.lst (acc++[.tup [b,a,.int (-le)]])),s2,s3,s4,s5,s6,s7,.va a,.va b,.va (.int le),.va mo]) (nQ (dy (ar rfl (ar rfl (ar (ay rfl rfl (congrArg (λz=>Rs.ok (T.int z)) (Int.zero_sub le))) rfl))) (aB (k:=3) (by simp))) rfl (by omega))).trans ?_;rw[e2];cases q:mo.isN with
   |true=>exact(dt (bx (by rw[e,q];rfl))).trans rfl
   |false=>
    refine(dA (bx (by rw[e,q];rfl))).trans ((nQ (dy (ar rfl (ar rfl (ar rfl rfl))) (aB (k:=3) (by simp))) rfl (by rw[On];simp;omega)).trans ?_);rw[OU];rfl
  obtain⟨y8,y9,y10,y11,ih⟩:=zK R cs s2 s3 s4 s5 s6 s7 ls (acc++lB (.tup [a,b,.int le,mo])) (.va a) (.va b) (.va (.int le)) (.va mo) (λu h=>hl u (N9 _ h)) (by rw[On];omega);refine⟨y8,y9,y10,y11,?_⟩;rw[dM rfl st,ih,QU,OU]
def Bh(hcs:bp (.tup cs)=ZC)(hls:∀t∈ls,bN cs t=ZC)(hn:ls.length<=8):bV [RR cs ls]=.ok (.lst (By cs ls)):=by obtain⟨hc,c1,c4⟩:=cj hcs;refine aZ rfl ?_;show iK [.va (RR cs ls),.em,.em,.em,.em,.em,.em,.em,.em,.em,.em,.em]=_;unfold iK;rw[aw (Z':=[.va (RR cs ls),.ow (.lst []),.em,.em,.em,.em,.em,.em,.em,.em,.em,.em]) (uE (by simp))];obtain⟨y2,y3,y4,y5,y6,y7,e⟩:=zT (RR cs ls) .em .em .em .em cs [] 0 .em .em .em .em .em .em hc (by simp;omega);rw[aw ((fT rfl e))];have:=uV (i:=0) hc;obtain⟨y8,y9,y10,y11,e2⟩:=zK (RR cs ls) cs y2 y3 y4 y5 y6 y7 ls ([] ++bC 0 cs) .em .em .em .em hls (by rw[P5];omega);rw[aw ((fT rfl e2))];rfl
variable{l:List T}
def gR:(T.tup l).pl=plS l:=by unfold T.pl;rfl
def Good.parts(g:Good cs ls):(T.tup cs).pl=ZC/\∀t∈ls,t.pl=ZC:=by have:=g.p;rw[gR]at this;unfold plS at this;rw[Oa]at this;have h2:=this.2;unfold plS at h2;rw[Oa,gR]at h2;exact⟨this.1,λt ht=>lT h2.1 ht⟩
variable{ms:List T}
def Good.sub(g:Good cs ls)(hm:∀t∈ms,t∈ls)(hn:ms.length<=8):Good cs ms:=⟨g.c,λt ht=>g.l t (hm t ht),hn,by
 obtain⟨h1,h2⟩:=g.parts;rw[gR];refine gy λt ht=>?_;simp only[Oh,Pe,or_false]at ht;rcases ht with rfl|rfl
 .exact h1
 .rw[gR];exact gy λt ht=>h2 t (hm t ht)⟩
def Good.take(g:Good cs ls)(n:Nat):Good cs (ls.take n):=g.sub (λt ht=>Qo ht) (by rw[Pr];have:=g.n;omega)
def z8(h:a<=100):mh (a:Int)=ZC:=by unfold mh;simp;omega
def r0:ng "NoRecord" =.ok (cM 0):=by unfold ng;rw[if_pos rfl]
def r1:ng "NoEvent" =.ok (cM 1):=by unfold ng;rw[if_neg (by decide),if_pos rfl]
def r2:ng "NoNumber" =.ok (cM 2):=by unfold ng;rw[if_neg (by decide),if_neg (by decide),if_pos rfl]
def fl2(t:T):Prop:=t.pl=ZC/\t.dep<=5
def Cn(j:Nat):fl2 (cM j):=⟨rfl,by simp[cM,T.dep,deps]⟩
def HP{y:T}(h:bh cs y=ZC):y.pl=ZC/\y.dep<=1:=by obtain⟨c,k,rfl⟩:=cN h;exact⟨rfl,by simp[T.dep,deps]⟩
def LU{a b x y:T}(h:bN cs (.tup [a,b,x,y])=ZC):y.pl=ZC/\y.dep=0:=by
 obtain⟨a',b',x',y',e,hd,_⟩:=ez h;cases e;unfold eZ at hd;rw[Oa]at hd;obtain⟨i,rfl,_⟩:=dq hd.1;cases y with
 |non=>exact⟨rfl,rfl⟩
 |int j=>exact⟨rfl,rfl⟩
 |bl j=>exact⟨rfl,rfl⟩
 |str j=>exact⟨rfl,rfl⟩
 |tup j=>cases hd.2
 |lst j=>cases hd.2
 |scr j=>cases hd.2
 |dct _ _=>cases hd.2
def F1{r:Int}(h0:0<=r)(h1:r<l.length):∃t∈l,aU (.lst l) (.int r)=.ok t:=by
 obtain⟨n,rfl⟩:=Pw h0;have hn:n<l.length:=by omega
 exact⟨l[n],PR hn,yD hn⟩
def Gf(j:Nat):qf (cM j) (cM j)=.ok (.bl ZD):=kq (Cn j).1 (by have:=(Cn j).2;omega)
def Iy{t:T}(h:sm 8 t=ZC):t.pl=ZC:=Hq t h
def vS(c0 s1:Sl)(x y:T)(r:List T)(i:Nat)(h:r.length<=4):
  d6 (iR (ae (cl cz (ae (o2 aU (vr 3) (cn (.int 2))) aj)) aj)) [ZB,ZA 2] (gN 0) bT (aP (ae (vr 1) (ae (vr 0) aj))) [c0,s1,.va (.int i),.va (.tup [x,y,.tup r])]=.ok (.lst (og i r.length)):=
 m7 (HM rfl (by omega) (by omega)) (aB (by rw[lP];exact h)) (by simp) λt _=>mk2 _ _
theorem zw:∀(cs:List T)(c0:T)(acc:List T)(i:Nat)(s2 s3:Sl),(∀c∈cs,bJ c=ZC)->acc.length+4*cs.length<=100 ->
  ∃y2 y3,bD evG peF (dN i cs) [.va c0,.ow (.lst acc),s2,s3]=.ok (.nx [.va c0,.ow (.lst (acc++fP i cs)),y2,y3])
 |[],c0,acc,i,s2,s3,_,_=>⟨s2,s3,by simp[dN,bD,fP]⟩
 |c::cs,c0,acc,i,s2,s3,hc,hl=>by obtain⟨x,y,r,rfl,r1,r2⟩:=iw (hc c Of);rw[Ol]at hl;have st:peF [.va c0,.ow (.lst acc),.va (.int i),.va (.tup [x,y,.tup r])]=.ok (.nx [.va c0,.ow (.lst (acc++og i r.length)),.va (.int i),.va (.tup [x,y,.tup r])]):=DJ (vS _ _ x y r i r2) rfl (by rw[jX];omega);obtain⟨z2,z3,ih⟩:=zw cs c0 (acc++og i r.length) (i+1) (.va (.int i)) (.va (.tup [x,y,.tup r])) (λc h=>hc c (N9 _ h)) (by rw[On,jX];omega);refine⟨z2,z3,?_⟩;rw[dN,dM rfl st,ih,fP,OU];rfl
def CV(g:Good cs ls):eI [RR cs ls]=.ok (.lst (fP 0 cs)):=by obtain⟨hc,c1,c4⟩:=cj g.c;refine aZ rfl ?_;show qS [.va (RR cs ls),.em,.em,.em]=_;unfold qS;rw[aw (uG (aE rfl (qe g.p g.ok)))];rw[aw (Z':=[.va (RR cs ls),.ow (.lst []),.em,.em]) (uE (by simp))];obtain⟨y2,y3,e⟩:=zw cs (RR cs ls) [] 0 .em .em hc (by simp;omega);rw[aw ((fT rfl e))];rfl
variable{a:Y2}
def p2{b:Y2}{t u:T}(ha:a Z=.ok t)(hb:b Z=.ok u):aP (ae a (ae b aj)) Z=.ok (.tup [t,u]):=dy (ar ha (ar hb rfl)) (aB (k:=2) (by simp))
def mH:e9 [.lst l]=.ok (.tup l):=rfl
def G3(g:Good cs ls):(By cs ls).length<=60:=by unfold By;rw[On];obtain⟨hc,c1,c4⟩:=cj g.c;have:=uV (i:=0) hc;have:=zV ls;have:=g.n;omega
open Gr
structure N2 where
 c:Int
 k:Int
deriving DecidableEq
theorem N2.ext':∀{u v:N2},u.c=v.c->u.k=v.k->u=v
 |⟨_,_⟩,⟨_,_⟩,rfl,rfl=>rfl
noncomputable def en(v:N2):T:=.tup [.int v.c,.int v.k]
noncomputable def eB(x:N2×N2×Int):T:=.tup [en x.1,en x.2.1,.int x.2.2]
def eN(ks:List Nat):List T:=ks.map λk=>.int (k:Nat)
noncomputable def eW(x:Int×List Nat):T:=.tup [.int x.1,.lst (eN x.2)]
noncomputable def ky(v:N2):List L2.Key:=[.inl v.c,.inl v.k]
def bK(v:N2):keyOf (en v)=ZA (ky v):=rfl
variable{v:N2}
def jf{u:N2}(h:ZA (ky u)=ZA (ky v)):u=v:=by injection h with h;injection h with h1 h2;injection h2 with h2 _;injection h1 with h1;injection h2 with h2;exact N2.ext' h1 h2
def uM{u:N2}(h:en u=en v):u=v:=jf (by rw[<-bK u,<-bK v,h])
def EB(u v:N2):aS (en u) (en v)=decide (u=v):=by
 unfold en aS beqTs aS beqTs beqTs;by_cases h:u=v
 .subst h;simp[aS]
 .have:¬ (u.c=v.c/\u.k=v.k):=λz=>h (N2.ext' z.1 z.2);simp[h,aS];exact λz=>λy=>this ⟨z,y⟩
theorem oM(g:N2->T)(v:N2):∀(ns:List N2),lD (ns.map en) (ns.map g) (ky v)=if v∈ns then ZA (g v)else ZB
 |[] =>rfl
 |u::ns=>by
  rw[Od,Od,lD,bK];by_cases h:u=v
  .subst h;rw[if_pos rfl,if_pos Of]
  .rw[if_neg (λz=>h (jf z)),oM g v ns];have:(v∈u::ns)↔v∈ns:=by rw[Oh];exact⟨λz=>z.elim (λy=>absurd y.symm h) id,.inr⟩
   simp only[this]
theorem qH(x:T)(v:N2)(g:N2->T):∀(ns:List N2),v∉ns->hW (en v) x (ns.map en) (ns.map g)=(ns.map en++[en v],ns.map g++[x])
 |[],_=>rfl
 |u::ns,h=>by rw[Oh,not_or]at h;rw[Od,Od,hW,bK,bK,if_neg (λz=>h.1 (jf z).symm),qH x v g ns h.2];rfl
theorem uN(x:T)(v:N2)(g:N2->T):∀(ns:List N2),ns.Nodup->v∈ns->hW (en v) x (ns.map en) (ns.map g)=(ns.map en,ns.map λu=>if u=v then x else g u)
 |[],_,h=>by simp at h
 |u::ns,hn,h=>by
  rw[O0]at hn;rw[Od,Od,Od,hW,bK,bK];by_cases z:u=v
  .subst z;rw[if_pos rfl,if_pos rfl];congr 2;exact OP λw hw=>by rw[if_neg (λ(y:w=u)=>hn.1 (y▸hw))]
  .rw[if_neg (λy=>z (jf y)),if_neg z];have h':v∈ns:=(Oh.mp h).elim (λy=>absurd y.symm z) id;rw[uN x v g ns hn.2 h']
theorem ko [DecidableEq α]:∀{l m:List α},l.Nodup->(∀x∈l,x∈m)->l.length<=m.length
 |[],_,_,_=>Pk _
 |x::l,m,hn,h=>by rw[O0]at hn;have hx:=h x Of;have:=ko hn.2 λy hy=>(U8 (λ(z:y=x)=>hn.1 (z▸hy))).mpr (h y (N9 _ hy));rw[List.length_erase_of_mem hx]at this;have:0<m.length:=List.length_pos_of_mem hx;rw[Ol];omega
def oW(o:Option (Int×List Nat)):T:=match o with
 |some x=>eW x
 |none=>.non
structure DR (P ns:List N2)(b:cP N2):Prop where
 nd:ns.Nodup
 mem:∀v,v∈ns↔(b v).isSome=ZC
 sub:∀v∈ns,v∈P
def dV(ns:List N2)(b:cP N2):List T:=ns.map λv=>oW (b v)
variable{P ns:List N2}{b:cP N2}
def DR.get(D:DR P ns b)(v:N2):lD (ns.map en) (dV ns b) (ky v)=(b v).map eW:=by
 unfold dV;rw[oM (λv=>oW (b v))];have:=D.mem v;cases q:b v with
 |none=>rw[q]at this;rw[if_neg (λz=>by simpa using this.mp z)];rfl
 |some x=>rw[q]at this;rw[if_pos (this.mpr rfl)];rfl
def DR.put(D:DR P ns b)(hv:v∈P)(y:Int×List Nat):∃ns',DR P ns' (Gr.put b v y)/\hW (en v) (eW y) (ns.map en) (dV ns b)=(ns'.map en,dV ns' (Gr.put b v y)):=by
 by_cases h:v∈ns
 .refine⟨ns,⟨D.nd,λu=>?_,D.sub⟩,?_⟩
  .by_cases z:u=v
   .subst z;rw[ft];exact⟨λ_=>rfl,λ_=>h⟩
   .rw[lh z];exact D.mem u
  .unfold dV;rw[uN _ _ _ _ D.nd h];congr 1;refine OP λu _=>?_;by_cases z:u=v
   .subst z;rw[if_pos rfl,ft];rfl
   .rw[if_neg z,lh z]
 .refine⟨ns++[v],⟨?_,λu=>?_,λu hu=>?_⟩,?_⟩
  .exact PV.mpr ⟨D.nd,by simp,λx hx y hy=>by simp at hy;subst hy;exact λz=>h (z▸hx)⟩
  .rw[OS,OF];by_cases z:u=v
   .subst z;rw[ft];exact⟨λ_=>rfl,λ_=>.inr rfl⟩
   .rw[lh z,<-D.mem u];exact⟨λw=>w.elim id λy=>absurd y z,.inl⟩
  .rcases OS.mp hu with w|w
   .exact D.sub u w
   .rw[OF.mp w];exact hv
  .unfold dV;rw[qH _ _ _ _ h,PH,PH];congr 1;congr 1
   .refine OP λu hu=>?_;rw[lh (λ(z:u=v)=>h (z▸hu))]
   .simp[ft,oW]
def Eo(D:DR P ns b)(x:N2×N2×Int)(d:Int)(w:List Nat):
  dU [.dct (ns.map en) (dV ns b),eB x,eW (d,w)]=.ok (.bl (fJ b x.2.1 (d+x.2.2))):=by
 refine aZ rfl ?_;show ke [.va (.dct (ns.map en) (dV ns b)),.va (eB x),.va (eW (d,w)),.em]=_;unfold ke;have g:oD jB (vr 0) (o2 aU (vr 1) (cn (.int 1))) [.va (.dct (ns.map en) (dV ns b)),.va (eB x),.va (eW (d,w)),.em]=.ok (oW (b x.2.1)):=by refine L4 rfl rfl ?_;unfold jB;rw[bK];simp only[D.get];cases b x.2.1 <;> rfl
 rw[aw (bM g rfl)];refine bB ?_;unfold fJ;cases q:b x.2.1 with
 |none=>exact DE (ay rfl rfl rfl)
 |some y=>exact(DF (ay rfl rfl rfl)).trans (ay rfl rfl rfl)
noncomputable abbrev MQ:T->En->Rs En:=gT 2 (iY (gN 4) (iY (gN 5) u9))
def eL(L:bS N2):T:=.lst (L.map eB)
noncomputable def B8(L:bS N2)(t:T):T:=match t with
 |.int j=>match L[j.toNat]? with
  |some x=>en x.1
  |none=>.non
 |_=>.non
variable{L:bS N2}
theorem zD:∀{ks:List Nat}{a b:N2},Ch L a ks b->(eN ks).map (B8 L)=(gj L ks).map en
 |[],_,_,_=>rfl
 |k::r,a,b,h=>by rw[h.M4];obtain⟨c,m,e,h⟩:=h;show B8 L (.int k)::(eN r).map (B8 L)=en a::(gj L r).map en;rw[zD h];congr 1;unfold B8;simp only[PD,e]
theorem EF(v:N2):∀(l:List N2),fU (en v) (l.map en)=decide (v∈l)
 |[] =>rfl
 |u::l=>by
  have ih:=EF v l;unfold fU at ih ⊢;rw[Od,Q7,ih,EB];by_cases h:u=v
  .subst h;simp
  .have h':¬ v=u:=λz=>h z.symm;simp[h,h']
theorem wV(v:N2):∀(l:List N2)(n:Nat),v∈l->kJ (en v) (l.map en) n=ZA (n+l.idxOf v)
 |[],n,h=>by simp at h
 |u::l,n,h=>by
  rw[Od,kJ,EB,Xg];by_cases z:u=v
  .subst z;simp
  .have h':v∈l:=(Oh.mp h).elim (λy=>absurd y.symm z) id;have zb:(u == v)=ZD:=by rw[beq_eq_false_iff_ne];exact z
   rw[zb,decide_eq_false z,if_neg OG,wV v l (n+1) h'];simp only[cond_false];congr 1;omega
def HA(v:N2):(en v).nd=ZC:=rfl
theorem uu(f:α->T)(h:∀a,(f a).nd=ZC):∀l:List α,nds (l.map f)=ZC
 |[] =>rfl
 |a::l=>by rw[Od,nds,h a,uu f h l];rfl
def Ex(v:N2):(en v).dep<=60:=by show(T.tup [.int v.c,.int v.k]).dep<=60;simp[T.dep,deps]
def Mh(v:N2)(l:List N2):sh (en v) (.lst (l.map en))=.ok (.bl (decide (v∈l))):=by show(if (_\/_)/\_/\(T.lst (l.map en)).nd=ZC then _ else _)=_;rw[if_pos ⟨.inl (Ex v),rfl,uu en HA l⟩,EF]
def DQ(v:N2)(l:List N2)(h:v∈l):il (.lst (l.map en)) (en v)=.ok (.int ((l.idxOf v:Nat):Int)):=by unfold il;simp only;rw[if_pos ⟨.inl (Ex v),rfl,uu en HA l⟩,wV v l 0 h,Sa]
def Kn(p q:List Nat):eN (p++q)=eN p++eN q:=by unfold eN;rw[PH]
theorem C8(D:Bool):∀ks:List Nat,nks D (eN ks)=ZC
 |[] =>rfl
 |k::r=>by show nks D (.int k::eN r)=ZC;unfold nks;rw[C8 D r];rfl
def Ch.len{a b:N2}(h:Ch L a ks b)(hn:(gj L ks).Nodup):ks.length<=L.length:=by have:=ko (h.nodup hn) λk hk=>OZ.mpr (h.lt k hk);rwa [OV]at this
noncomputable abbrev sE(L:bS N2)(st:T)(o:OT)(b:Bool)(k:Nat)(x:N2×N2×Int)(s6 s7 s8:Sl):En:=[.va (eL L),.va st,.ow o,.va (.bl b),.va (.int k),.va (eB x),s6,s7,s8]
def HV(L:bS N2)(P ns:List N2)(b:cP N2)(k:Nat)(x:N2×N2×Int)(st:T)(mv:Bool)(s6 s7 s8:Sl):Sum (Option (cP N2)) (List Nat)->Prop
 |.inl ZB=>∃s6' s7' s8',EN (sE L st (.dct (ns.map en) (dV ns b)) mv k x s6 s7 s8)=.ok (.ct (sE L st (.dct (ns.map en) (dV ns b)) mv k x s6' s7' s8'))
 |.inl (ZA b')=>∃ns' s6' s7' s8',DR P ns' b'/\EN (sE L st (.dct (ns.map en) (dV ns b)) mv k x s6 s7 s8)=.ok (.nx (sE L st (.dct (ns'.map en) (dV ns' b')) ZC k x s6' s7' s8'))
 |.inr q=>EN (sE L st (.dct (ns.map en) (dV ns b)) mv k x s6 s7 s8)=.ok (.rt (.tup [.non,.lst (eN q)]))
variable{S:List N2}{x:N2×N2×Int}
def Ft(K:Kept L S b)(D:DR P ns b)(hL:L.length<=500)(hP:P.length<1000)(e:L[k]?=ZA x)(hx:x.2.1∈P)(st:T)(mv:Bool)(s6 s7 s8:Sl):
  HV L P ns b k x st mv s6 s7 s8 (iV L b k x):=by
 obtain⟨a,c,m⟩:=x;unfold HV;generalize hks:ns.map en=ks;generalize hvs:dV ns b=vs;have get:∀s7 s8,ln 2 (oD jB (vr 2) (o2 aU (vr 5) (cn (.int 0)))) (sE L st (.dct ks vs) mv k (a,c,m) s6 s7 s8)=.ok (oW (b a)):=λs7 s8=>by
  refine J2 rfl (L4 rfl rfl ?_) ?_
  .unfold jB;rw[bK,<-hks,<-hvs];simp only[D.get];cases b a <;> rfl
  .cases b a with
   |none=>rfl
   |some y=>show nks ZC [.int y.1,.lst (eN y.2)]=ZC;simp[nks,T.nk,C8]
 have s1:∀G,aD (cI (ln 2 (oD jB (vr 2) (o2 aU (vr 5) (cn (.int 0))))) (gN 6)) G (sE L st (.dct ks vs) mv k (a,c,m) s6 s7 s8)=G (sE L st (.dct ks vs) mv k (a,c,m) (.va (oW (b a))) s7 s8):=λG=>
  aw (bM (get s7 s8) rfl)
 cases qa:b a with
 |none=>
  rw[show iV L b k (a,c,m)=.inl ZB from by unfold iV;simp only[qa]];simp only;refine⟨.va .non,s7,s8,?_⟩;unfold EN;rw[s1,qa];exact DB (dA (wJ (bx (ay rfl rfl rfl))))
 |some y=>
  obtain⟨d,w⟩:=y;have bt:∀s7 s8,JO 2 (tb (cl dU (ae (vr 2) (ae (vr 5) (ae (vr 6) aj))))) (sE L st (.dct ks vs) mv k (a,c,m) (.va (eW (d,w))) s7 s8)=.ok (fJ b c (d+m)):=λs7 s8=>by refine L6 (bx (aE rfl ?_));rw[<-hks,<-hvs];exact Eo D (a,c,m) d w
  have nn:tb (o2 ji (vr 6) (cn .non)) (sE L st (.dct ks vs) mv k (a,c,m) (.va (eW (d,w))) s7 s8)=.ok ZD:=bx (ay rfl rfl rfl);have cond:=l7 nn (dX (bt s7 s8));have s1':∀G,aD (cI (ln 2 (oD jB (vr 2) (o2 aU (vr 5) (cn (.int 0))))) (gN 6)) G (sE L st (.dct ks vs) mv k (a,c,m) s6 s7 s8)=G (sE L st (.dct ks vs) mv k (a,c,m) (.va (eW (d,w))) s7 s8):=λG=>by rw[s1 G,qa];rfl
  cases hb:fJ b c (d+m)with
  |false=>
   rw[show iV L b k (a,c,m)=.inl ZB from by unfold iV;simp only[qa,hb];rfl];simp only;rw[hb]at cond;refine⟨.va (eW (d,w)),s7,s8,?_⟩;unfold EN;rw[s1'];exact DB (dA cond)
  |true=>
   rw[hb]at cond;obtain⟨s,hs,h1,h2,h3,h4,h5⟩:=K.walk a d w qa;have hch:Ch L s (w++[k]) c:=h1.snoc e;have hwl:w.length<=500:=OJ (Ch.len h1 h4) hL;have s2:∀G,aD (gE (vX (tb (o2 ji (vr 6) (cn .non))) (fO (JO 2 (tb (cl dU (ae (vr 2) (ae (vr 5) (ae (vr 6) aj)))))))) K7 sN) G (sE L st (.dct ks vs) mv k (a,c,m) (.va (eW (d,w))) s7 s8)=G (sE L st (.dct ks vs) mv k (a,c,m) (.va (eW (d,w))) s7 s8):=λG=>
    aw ((dt cond).trans rfl)
   have wk:o2 aV (o2 aU (vr 6) (cn (.int 1))) (dz (ae (vr 4) aj)) (sE L st (.dct ks vs) mv k (a,c,m) (.va (eW (d,w))) s7 s8)=.ok (.lst (eN (w++[k]))):=by refine ay rfl (jS rfl (aB (k:=1) (by simp))) ?_;show k8 (eN w++eN [k])=_;rw[<-Kn];unfold k8;rw[if_pos (aB (k:=1000) (by unfold eN;rw[Oc,On];simp;omega))]
   have s3:∀G,aD (cI (o2 aV (o2 aU (vr 6) (cn (.int 1))) (dz (ae (vr 4) aj))) (gN 7)) G (sE L st (.dct ks vs) mv k (a,c,m) (.va (eW (d,w))) s7 s8)=G (sE L st (.dct ks vs) mv k (a,c,m) (.va (eW (d,w))) (.va (.lst (eN (w++[k])))) s8):=λG=>aw (bM wk rfl);have ps:d6 (iS (vr 7)) [ZB,ZA 0] (gN 0) bT (o2 aU (o2 aU (vr 1) (vr 0)) (cn (.int 0))) (sE L st (.dct ks vs) mv k (a,c,m) (.va (eW (d,w))) (.va (.lst (eN (w++[k])))) s8)=.ok (.lst ((gj L (w++[k])).map en)):=by rw[<-zD hch];refine m7 (ir rfl) (aB (k:=1000) (by unfold eN;rw[Oc,On];simp;omega)) (by simp) λt ht=>?_;unfold eN at ht;obtain⟨j,hj,rfl⟩:=Os.mp ht;have hjl:=hch.lt j hj;refine ay (HJ rfl rfl (by rw[Ox,Og hjl];rfl)) rfl ?_;unfold B8;simp only[PD,Og hjl];rfl
   have s4:∀G,aD (cI (d6 (iS (vr 7)) [ZB,ZA 0] (gN 0) bT (o2 aU (o2 aU (vr 1) (vr 0)) (cn (.int 0)))) (gN 8)) G (sE L st (.dct ks vs) mv k (a,c,m) (.va (eW (d,w))) (.va (.lst (eN (w++[k])))) s8)=G (sE L st (.dct ks vs) mv k (a,c,m) (.va (eW (d,w))) (.va (.lst (eN (w++[k])))) (.va (.lst ((gj L (w++[k])).map en)))):=λG=>aw (bM ps rfl);have inn:tb (o2 sh (o2 aU (vr 5) (cn (.int 1))) (vr 8)) (sE L st (.dct ks vs) mv k (a,c,m) (.va (eW (d,w))) (.va (.lst (eN (w++[k])))) (.va (.lst ((gj L (w++[k])).map en))))=.ok (decide (c∈gj L (w++[k]))):=
    bx (ay rfl rfl (Mh c _))
   by_cases hn:c∈gj L (w++[k])
   .rw[show iV L b k (a,c,m)=.inr ((w++[k]).drop ((gj L (w++[k])).idxOf c))from by unfold iV;simp only[qa,hb,if_pos hn,if_true]];simp only;unfold EN;rw[s1',s2,s3,s4];rw[decide_eq_true hn]at inn;refine fB ((dA inn).trans (bB ?_));have sle:sl (vr 7) (pS (oL il (vr 8) (o2 aU (vr 5) (cn (.int 1))))) pN (sE L st (.dct ks vs) mv k (a,c,m) (.va (eW (d,w))) (.va (.lst (eN (w++[k])))) (.va (.lst ((gj L (w++[k])).map en))))=.ok (.lst (eN ((w++[k]).drop ((gj L (w++[k])).idxOf c)))):=by rw[wH rfl (qx (k_oL rfl rfl (DQ c _ hn))) rfl,mw];unfold eN;rw[VL]
    exact(dy (ar rfl (ar sle rfl)) (aB (k:=2) (by simp)))
   .rw[show iV L b k (a,c,m)=.inl (ZA (Gr.put b c (d+m,w++[k])))from by unfold iV;simp only[qa,hb,if_neg hn,if_true]];simp only;rw[decide_eq_false hn]at inn;obtain⟨ns',D',hd⟩:=D.put hx (d+m,w++[k]);refine⟨ns',.va (eW (d,w)),.va (.lst (eN (w++[k]))),.va (.lst ((gj L (w++[k])).map en)),D',?_⟩;unfold EN;rw[s1',s2,s3,s4];rw[aw ((dt inn).trans rfl)];have pt:AF 2 (o2 aU (vr 5) (cn (.int 1))) (aP (ae (o2 aV (o2 aU (vr 6) (cn (.int 0))) (o2 aU (vr 5) (cn (.int 2)))) (ae (vr 7) aj))) (sE L st (.dct ks vs) mv k (a,c,m) (.va (eW (d,w))) (.va (.lst (eN (w++[k])))) (.va (.lst ((gj L (w++[k])).map en))))
      = .ok (.nx (sE L st (.dct (ns'.map en) (dV ns' (Gr.put b c (d+m,w++[k])))) mv k (a,c,m) (.va (eW (d,w))) (.va (.lst (eN (w++[k])))) (.va (.lst ((gj L (w++[k])).map en))))):=by
     have ev:aP (ae (o2 aV (o2 aU (vr 6) (cn (.int 0))) (o2 aU (vr 5) (cn (.int 2)))) (ae (vr 7) aj)) (sE L st (.dct ks vs) mv k (a,c,m) (.va (eW (d,w))) (.va (.lst (eN (w++[k])))) (.va (.lst ((gj L (w++[k])).map en))))=.ok (eW (d+m,w++[k])):=
      dy rfl (aB (k:=2) (by simp))
     have ek:o2 aU (vr 5) (cn (.int 1)) (sE L st (.dct ks vs) mv k (a,c,m) (.va (eW (d,w))) (.va (.lst (eN (w++[k])))) (.va (.lst ((gj L (w++[k])).map en))))=.ok (en c):=rfl;show(aP _ _ >>= λv=>o2 aU (vr 5) (cn (.int 1)) _ >>= λkk=>match keyOf kk with|some _=>if ks.length<1000 then Rs.ok (Fl.nx _)else .bad|none=>.bad)=_;rw[ev,aH,ek,aH,bK];have hlen:ks.length<1000:=by rw[<-hks,Oc];exact RD (ko D.nd D.sub) hP
     simp only[if_pos hlen];have hd1:hW (en c) (eW (d+m,w++[k])) ks vs=(ns'.map en,dV ns' (Gr.put b c (d+m,w++[k]))):=by rw[<-hks,<-hvs];exact hd
     rw[hd1];rfl
    rw[aw pt];exact bM rfl rfl
noncomputable def Cj(L:bS N2)(st:T)(ns:List N2)(b:cP N2)(mv:Bool)(s4 s5 s6 s7 s8:Sl):En:=[.va (eL L),.va st,.ow (.dct (ns.map en) (dV ns b)),.va (.bl mv),s4,s5,s6,s7,s8]
def EI(L:bS N2)(P:List N2)(st:T)(X:Rs Fl):Sum (cP N2×Bool) (List Nat)->Prop
 |.inr q=>X=.ok (.rt (.tup [.non,.lst (eN q)]))
 |.inl (b',mv')=>∃ns' s4 s5 s6 s7 s8,DR P ns' b'/\X=.ok (.nx (Cj L st ns' b' mv' s4 s5 s6 s7 s8))
theorem tM{S:List N2}(hL:L.length<=500)(hP:P.length<1000)(hx:∀x∈L,x.2.1∈P)(st:T):∀(r:bS N2)(k:Nat)(b:cP N2)(mv:Bool)(ns:List N2)(s4 s5 s6 s7 s8:Sl),L.drop k=r->Kept L S b->DR P ns b ->
  EI L P st (bD MQ EN (dN k (r.map eB)) (Cj L st ns b mv s4 s5 s6 s7 s8)) (jv L k r b mv)
 |[],k,b,mv,ns,s4,s5,s6,s7,s8,_,K,D=>⟨ns,s4,s5,s6,s7,s8,D,rfl⟩
 |x::r,k,b,mv,ns,s4,s5,s6,s7,s8,hr,K,D=>by
  have e:L[k]?=ZA x:=by have:=congrArg (·[0]?) hr;simpa using this
  have hr':L.drop (k+1)=r:=by have:=congrArg (List.drop 1) hr;simpa [List.drop_drop,Wq]using this
  have tg:MQ (.tup [.int k,eB x]) (Cj L st ns b mv s4 s5 s6 s7 s8)=.ok [.va (eL L),.va st,.ow (.dct (ns.map en) (dV ns b)),.va (.bl mv),.va (.int k),.va (eB x),s6,s7,s8]:=rfl;have tn:=Ft K D hL hP e (hx x (Pz e)) st mv s6 s7 s8;rw[jv,Od,dN];cases q:iV L b k x with
  |inr w=>
   rw[q]at tn;simp only;unfold EI;exact Gv tg tn
  |inl o=>
   rw[q]at tn;cases o with
   |none=>
    obtain⟨s6',s7',s8',tn⟩:=tn;simp only;rw[Gw tg tn];exact tM hL hP hx st r (k+1) b mv ns _ _ _ _ _ hr' K D
   |some b'=>
    obtain⟨ns',s6',s7',s8',D',tn⟩:=tn;simp only;rw[dM tg tn];refine tM (S:=S) hL hP hx st r (k+1) b' ZC ns' _ _ _ _ _ hr' ?_ D';obtain⟨a,c,m⟩:=x;unfold iV at q;cases qa:b a with
    |none=>simp only[qa]at q;cases q
    |some y=>
     obtain⟨d,w⟩:=y;simp only[qa]at q;split at q
     .rename_i hb;split at q
      .cases q
      .rename_i hn;cases q;exact K.put e qa hb hn
     .cases q
abbrev wF:Y1:=aD (cI (cn (.bl ZD)) (gN 3)) (d7 (iE (ae (vr 0) aj)) MQ EN)
def SetP(L:bS N2)(P:List N2)(st:T)(X:Rs Fl):Sum (cP N2) (List Nat)->Prop
 |.inr q=>X=.ok (.rt (.tup [.non,.lst (eN q)]))
 |.inl b'=>∃ns' s4 s5 s6 s7 s8,DR P ns' b'/\X=.ok (.nx (Cj L st ns' b' ZD s4 s5 s6 s7 s8))
theorem vF(hL:L.length<=500)(hP:P.length<1000)(hx:∀x∈L,x.2.1∈P)(st:T):∀(n:Nat)(b:cP N2)(ns:List N2)(s4 s5 s6 s7 s8:Sl)(r:Sum (cP N2) (List Nat)),Kept L S b->DR P ns b->Gr.settle L n b=ZA r ->
  SetP L P st (cf (tb (vr 3)) wF (n+1) (Cj L st ns b ZC s4 s5 s6 s7 s8)) r
 |0,_,_,_,_,_,_,_,_,_,_,h=>by cases h
 |n+1,b,ns,s4,s5,s6,s7,s8,r,K,D,h=>by
  have sw:=tM hL hP hx st L 0 b ZD ns s4 s5 s6 s7 s8 rfl K D;have ok:=jF L 0 b ZD rfl K;have body:∀X,bD MQ EN (dN 0 (L.map eB)) (Cj L st ns b ZD s4 s5 s6 s7 s8)=.ok X->wF (Cj L st ns b ZC s4 s5 s6 s7 s8)=.ok X:=λX hX=>by show aD _ _ _=_;rw[aw (bM rfl rfl)];exact fT (L8 rfl) hX
  have tt:tb (vr 3) (Cj L st ns b ZC s4 s5 s6 s7 s8)=.ok ZC:=rfl;rw[Gr.settle]at h;revert sw ok h;generalize jv L 0 L b ZD=R;intro h sw ok;cases R with
  |inr q=>
   simp only at h;cases h;exact Dz tt (body _ sw)
  |inl p=>
   obtain⟨b',mv'⟩:=p;obtain⟨ns',t4,t5,t6,t7,t8,D',sw⟩:=sw;obtain⟨K',_⟩:=ok;cases mv' with
   |true=>
    simp only at h;have ih:=vF hL hP hx st n b' ns' t4 t5 t6 t7 t8 r K' D' h;rw[qw tt (body _ sw)];exact ih
   |false=>
    simp only at h;cases h;refine⟨ns',t4,t5,t6,t7,t8,D',?_⟩;rw[qw tt (body _ sw)];exact wG rfl
theorem i7{c:Y3}{F:Y1}{x:Fl}:∀{n m:Nat}{Z:En},n<=m->cf c F n Z=.ok x->cf c F m Z=.ok x
 |0,_,_,_,h=>by cases h
 |n+1,0,_,hl,_=>absurd hl (by omega)
 |n+1,m+1,Z,hl,h=>by
  unfold cf at h ⊢;cases q:c Z with
  |bad=>rw[q]at h;cases h
  |err _=>rw[q]at h;cases h
  |ok k=>
   rw[q]at h;cases k with
   |false=>exact h
   |true=>
    simp only at h ⊢;cases q2:F Z with
    |bad=>rw[q2]at h;cases h
    |err _=>rw[q2]at h;cases h
    |ok f=>
     rw[q2]at h;cases f with
     |nx Z'=>exact i7 (by omega) h
     |ct Z'=>exact i7 (by omega) h
     |bk Z'=>exact h
     |rt t=>exact h
theorem CH(w:T):∀S:List N2,KJ (S.map λv=>.tup [en v,w])=ZA (S.map λv=>(en v,w))
 |[] =>rfl
 |v::S=>by rw[Od,KJ,bK,CH w S];rfl
theorem wY(w:T):∀(S ns:List N2)(g:N2->T),(ns++S).Nodup->(∀v∈S,g v=w)->jY (S.map λv=>(en v,w)) (ns.map en,ns.map g)=((ns++S).map en,(ns++S).map g)
 |[],ns,g,_,_=>by rw[PB];rfl
 |v::S,ns,g,hn,hg=>by
  have hv:v∉ns:=λz=>by rw[PV]at hn;exact hn.2.2 v z v Of rfl
  rw[Od,jY,qH _ _ _ _ hv];have e1:ns.map en++[en v]=(ns++[v]).map en:=by rw[PH];rfl
  have e2:ns.map g++[w]=(ns++[v]).map g:=by rw[PH,<-hg v Of];rfl
  rw[e1,e2,wY w S (ns++[v]) g (by rw[OU];exact hn) λu hu=>hg u (N9 _ hu),OU];rfl
def GR(w:T)(S:List N2)(hn:S.Nodup)(hl:S.length<=1000):Aj [.lst (S.map λv=>.tup [en v,w])]=.ok (.dct (S.map en) (S.map λ_=>w)):=by unfold Aj;simp only[CH];rw[if_pos (by rw[Oc];exact hl)];have:=wY w S [] (λ_=>w) (by simpa using hn) (λ_ _=>rfl);rw[P5]at this;rw[show(([]:List T),([]:List T))=(([]:List N2).map en,([]:List N2).map λ_=>w)from rfl,this]
def eS(S:List N2):T:=.lst (S.map en)
def G8(L:bS N2)(P:List N2)(X:Rs T):Sum (cP N2) (List Nat)->Prop
 |.inr q=>X=.ok (.tup [.non,.lst (eN q)])
 |.inl b'=>∃ns',DR P ns' b'/\X=.ok (.tup [.dct (ns'.map en) (dV ns' b'),.non])
structure KI (L:bS N2)(P:List N2):Prop where
 len:L.length<=500
 size:size L<=100000000
 ends:∀x∈L,x.1∈P/\x.2.1∈P
 pl:P.length<1000
def SOk(L:bS N2)(S:List N2):Sum (cP N2) (List Nat)->Prop
 |.inr q=>Bar L q
 |.inl b'=>Settled L S b'
def qF(F:KI L P)(hS:S.Nodup)(hSP:∀v∈S,v∈P):∃r,G8 L P (fz [eL L,eS S]) r/\SOk L S r:=by
 have bound:L.length*(2*size L+1)<1000000000000 - 1:=by have h1:=F.len;have h2:=F.size;have:L.length*(2*size L+1)<=500*(2*100000000+1):=Nat.mul_le_mul h1 (by omega);omega
 obtain⟨r,hr,ok⟩:=xS L S bound;have ok':SOk L S r:=by cases r <;> exact ok
 refine⟨r,?_,ok'⟩;have hSl:S.length<=1000:=OJ (ko hS hSP) (by have:=F.pl;omega);have D0:DR P S (Gr.start S):=⟨hS,λv=>by unfold Gr.start;by_cases h:v∈S <;> simp[h],hSP⟩;have dv0:dV S (Gr.start S)=S.map λ_=>eW (0,[]):=OP λv hv=>by unfold Gr.start;rw[if_pos hv];rfl
 have w:=vF F.len F.pl (λx hx=>(F.ends x hx).2) (eS S) _ (Gr.start S) S .em .em .em .em .em r (qv L S) D0 hr;have lc:d6 (iS (vr 1)) [ZB] (gN 0) bT (aP (ae (vr 0) (ae (aP (ae (cn (.int 0)) (ae (dz aj) aj))) aj))) [.va (eL L),.va (eS S),.em,.em,.em,.em,.em,.em,.em]=.ok (.lst (S.map λv=>.tup [en v,eW (0,[])])):=by
  have:=m7 (fi:=iS (vr 1)) (src:=[ZB]) (fe:=aP (ae (vr 0) (ae (aP (ae (cn (.int 0)) (ae (dz aj) aj))) aj))) (Z:=[.va (eL L),.va (eS S),.em,.em,.em,.em,.em,.em,.em]) (ir rfl) (aB (by rw[Oc];exact hSl)) (by simp) λt _=>
   dy (ar rfl (ar (dy (ar rfl (ar (jS rfl (Pk _)) rfl)) (aB (k:=2) (by simp))) rfl)) (aB (k:=2) (by simp))
  rw[this,ON];rfl
 have n0:rO 2 (d6 (iS (vr 1)) [ZB] (gN 0) bT (aP (ae (vr 0) (ae (aP (ae (cn (.int 0)) (ae (dz aj) aj))) aj)))) [.va (eL L),.va (eS S),.em,.em,.em,.em,.em,.em,.em]=.ok (.nx [.va (eL L),.va (eS S),.ow (.dct (S.map en) (dV S (Gr.start S))),.em,.em,.em,.em,.em,.em]):=by unfold rO;rw[lc,aH,GR _ S hS hSl,aH,dv0];rfl
 have main:∀G X,cf (tb (vr 3)) wF FU (Cj L (eS S) S (Gr.start S) ZC .em .em .em .em .em)=.ok X->kc [.va (eL L),.va (eS S),.em,.em,.em,.em,.em,.em,.em]=G->(aD (cf (tb (vr 3)) wF FU) (nX 2 (aW (aP (ae (vr 2) (ae (cn .non) aj)))))) (Cj L (eS S) S (Gr.start S) ZC .em .em .em .em .em)=G:=λG X _ h=>by rw[<-h];unfold kc;rw[aw n0,aw (Z':=Cj L (eS S) S (Gr.start S) ZC .em .em .em .em .em) (bM rfl rfl)]
 cases r with
 |inr q=>
  have w':=i7 (m:=FU) (by unfold FU;omega) w;refine aZ rfl ?_;show kc [.va (eL L),.va (eS S),.em,.em,.em,.em,.em,.em,.em]=_;rw[<-main _ _ w' rfl];exact fB w'
 |inl b'=>
  obtain⟨ns',s4,s5,s6,s7,s8,D',w⟩:=w;have w':=i7 (m:=FU) (by unfold FU;omega) w;refine⟨ns',D',aZ rfl ?_⟩;show kc [.va (eL L),.va (eS S),.em,.em,.em,.em,.em,.em,.em]=_;rw[<-main _ _ w' rfl,aw w'];exact DK (bB (dy rfl (aB (k:=2) (by simp))))
theorem qh{f:α->T}{p:α->Prop}:∀{l:List T},(∀t∈l,∃x,t=f x/\p x)->∃L:List α,l=L.map f/\∀x∈L,p x
 |[],_=>⟨[],rfl,λ_ h=>nomatch h⟩
 |t::l,h=>by obtain⟨x,e,hx⟩:=h t Of;obtain⟨L,e2,h2⟩:=qh λu hu=>h u (N9 _ hu);exact⟨x::L,by rw[e,e2];rfl,λy hy=>(Oh.mp hy).elim (λz=>z▸hx) (h2 y)⟩
def qI{t:T}(h:bJ t=ZC):∃(x y:Int)(r:List Int),t=.tup [.int x,.int y,.tup (r.map .int)]/\(0<=x/\x<=9)/\(0<=y/\y<=9)/\∀k,0<=r.getD k 0/\r.getD k 0<=99:=by
 obtain⟨x,y,r,rfl,h1,h2,h3,h4⟩:=dZ h;refine⟨x,y,r,rfl,h1,h2,λk=>?_⟩;have h':(mS (.int x) (.int y)&&cC (.tup (r.map .int)))=ZC:=h;rw[Oa]at h';have hr:=h'.2;unfold cC at hr;rw[Oa]at hr;have hr2:(((r.map T.int).all λu=>aX u 0 99)&&(match nums (r.map .int)with|some m=>mB m|none=>ZD))=ZC:=hr.2;rw[Oa]at hr2;by_cases hk:k<r.length
 .have:=OH.mp hr2.1 (.int r[k]) (Os.mpr ⟨_,PR hk,rfl⟩);obtain⟨i,e,a,b⟩:=dq this;cases e;simp[hk];exact⟨a,b⟩
 .simp[hk]
def zH{cs:List T}:∀{cs0:List T}{c k:Nat},i<=c->c<i+cs0.length->k<ID (cs0.getD (c - i) .non)->T.tup [.int c,.int k] ∈fP i cs0:=by
 intro cs0;induction cs0 generalizing i with
 |nil=>intro c k h1 h2;simp at h2;omega
 |cons a r ih=>
  intro c k h1 h2 h3;rw[fP,OS];by_cases e:c=i
  .subst e;rw[SK]at h3;have h3':k<ID a:=h3;exact .inl (Os.mpr ⟨.int k,Gh h3',rfl⟩)
  .refine .inr (ih (by omega) (by rw[Ol]at h2;omega) ?_);rw[show c - i=(c - (i+1))+1 by omega]at h3;exact h3
def sk{t:T}(h:bh cs t=ZC):t∈fP 0 cs:=by obtain⟨c,k,rfl⟩:=cN h;unfold bh at h;simp only[Oa,decide_eq_true_eq]at h;obtain⟨⟨h1,h2⟩,h3,h4⟩:=h;obtain⟨c,rfl⟩:=Pw h1;obtain⟨k,rfl⟩:=Pw h3;rw[rP]at h4;exact zH (cs:=cs) (Pk _) (by omega) (by rw[SL];omega)
def Eb{t:T}(h:t∈fP 0 cs):∃v:N2,t=en v/\True:=by obtain⟨c,k,rfl,_⟩:=ox cs 0 h;exact⟨⟨c,k⟩,rfl,trivial⟩
def big(x:N2×N2×Int):Prop:=x.2.2.natAbs<=999
def rY{a b:Int}(ha : -99<=a/\a<=99)(hb:0<=b/\b<=9):(a*b).natAbs<=999:=by
 rw[Int.natAbs_mul];have h1:a.natAbs<=99:=by omega
 have h2:b.natAbs<=9:=by omega
 exact OJ (Nat.mul_le_mul h1 h2) (by decide)
theorem HR{cs0:List T}:∀{cs:List T}{i:Nat},(∀c∈cs,bJ c=ZC)->(∀c k:Nat,i<=c->c<i+cs.length->k<ID (cs.getD (c - i) .non)->T.tup [.int c,.int k] ∈fP 0 cs0) ->
  ∀t∈bC i cs,∃x,t=eB x/\(en x.1∈fP 0 cs0/\en x.2.1∈fP 0 cs0/\big x)
 |[],_,_,_,t,h=>by simp[bC]at h
 |c::cs,i,hc,hm,t,h=>by
  rw[bC,OS]at h;rcases h with h|h
  .obtain⟨x,y,r,rfl,hx,hy,hr⟩:=qI (hc c Of);have hm0:∀k,k<r.length->T.tup [.int i,.int k] ∈fP 0 cs0:=λk hk=>hm i k (Ou _) (by simp) (by rw[SK];show k<(r.map T.int).length;rw[Oc];exact hk);rw[oQ]at h;unfold cB at h;obtain⟨k,hk,hp⟩:=R4.mp h;have hk:=OZ.mp hk;have d : -99<=dr r k/\dr r k<=99:=by have:=hr k;have:=hr (k+1);unfold dr;omega
   unfold pr at hp;simp only[Oh,Pe,or_false]at hp;rcases hp with rfl|rfl
   .exact⟨(⟨i,k⟩,⟨i,((k+1:Nat):Int)⟩,dr r k*y),rfl,hm0 k (by omega),hm0 (k+1) (by omega),rY d hy⟩
   .exact⟨(⟨i,((k+1:Nat):Int)⟩,⟨i,k⟩,-dr r k*x),rfl,hm0 (k+1) (by omega),hm0 k (by omega),rY (by omega) hx⟩
  .exact HR (λc h=>hc c (N9 _ h)) (λc k h1 h2 h3=>hm c k (by omega) (by rw[Ol];omega) (by rw[show c - i=(c - (i+1))+1 by omega];exact h3)) t h
def L1{u:T}(hu:bN cs u=ZC):∀t∈lB u,∃x,t=eB x/\(en x.1∈fP 0 cs/\en x.2.1∈fP 0 cs/\big x):=by
 intro t ht;obtain⟨a,b,x,y,rfl,hd,ha,hb,_⟩:=ez hu;have ma:=sk ha;have mb:=sk hb;obtain⟨va,rfl,_⟩:=Eb ma;obtain⟨vb,rfl,_⟩:=Eb mb;unfold eZ at hd;rw[Oa]at hd;obtain⟨i,rfl,i1,i2⟩:=dq hd.1;have e2:lB (.tup [en va,en vb,.int i,y])=.tup [en vb,en va,.int (-i)] ::(if y.isN then []else [.tup [en va,en vb,y]]):=rfl;rw[e2]at ht;rcases Oh.mp ht with rfl|ht
 .exact⟨(vb,va,-i),rfl,mb,ma,by unfold big;simp only;omega⟩
 .cases q:y.isN with
  |true=>rw[q]at ht;simp at ht
  |false=>
   rw[q]at ht;have ht:t=.tup [en va,en vb,y]:=by simpa using ht
   have hw:aX y i 999=ZC:=by
    cases y with
    |non=>cases q
    |_=>exact hd.2
   obtain⟨j,rfl,j1,j2⟩:=dq hw;exact⟨(va,vb,j),ht,ma,mb,by unfold big;simp only;omega⟩
structure Rd (cs ls:List T)(L:bS N2)(P:List N2):Prop where
 g:Good cs ls
 b:By cs ls=L.map eB
 e:fP 0 cs=P.map en
 f:KI L P
 nd:P.Nodup
 pl:P.length<=16
 ll:L.length<=60
 bg:∀x∈L,big x
def zj(h:∀x∈L,big x):size L<=999*L.length:=by
 unfold size;induction L with
 |nil=>simp
 |cons x L ih=>
  rw[Od,QP,Ol];have:=ih λy hy=>h y (N9 _ hy);have:=h x Of;unfold big at this;omega
def C6(h:(P.map en).Nodup):P.Nodup:=by
 induction P with
 |nil=>exact Re
 |cons a r ih=>
  rw[Od,O0]at h;exact O0.mpr ⟨λz=>h.1 (Os.mpr ⟨a,z,rfl⟩),ih h.2⟩
def rQ(g:Good cs ls):∃L P,Rd cs ls L P:=by
 obtain⟨hc,c1,c4⟩:=cj g.c;obtain⟨P,eP,_⟩:=qh λt ht=>Eb ht;have key:∀t∈By cs ls,∃x,t=eB x/\(en x.1∈fP 0 cs/\en x.2.1∈fP 0 cs/\big x):=λt ht=>by
  unfold By at ht;rw[OS]at ht;rcases ht with h|h
  .exact HR hc (λc k h1 h2 h3=>zH (cs:=cs) h1 h2 h3) t h
  .obtain⟨u,hu,h⟩:=R4.mp h;exact L1 (g.l u hu) t h
 obtain⟨L,eL,hL⟩:=qh key;have mem:∀v:N2,en v∈fP 0 cs->v∈P:=λv hv=>by rw[eP]at hv;obtain⟨u,hu,e⟩:=Os.mp hv;rw[<-uM e];exact hu
 have hl:=G3 g;rw[eL,Oc]at hl;have hp:=uK cs 0 hc;rw[eP,Oc]at hp;have hs:=zj λx hx=>(hL x hx).2.2;exact⟨L,P,g,eL,eP,⟨by omega,by omega,λx hx=>⟨mem _ (hL x hx).1,mem _ (hL x hx).2.1⟩,by omega⟩,C6 (eP▸mW cs 0),by omega,hl,λx hx=>(hL x hx).2.2⟩
def Jj:(T.lst l).pl=plS l:=by unfold T.pl;rfl
noncomputable def run(L:bS N2):N2->List Nat->Option N2
 |a,[] =>ZA a
 |a,k::r=>match L[k]? with
  |some x=>if x.1=a then run L x.2.1 r else ZB
  |none=>ZB
variable{f:Y2}
def MD{g:Y2}(hf:f Z=.ok (eL L))(hg:g Z=.ok (.int (k:Nat)))(e:L[k]?=ZA x):o2 aU f g Z=.ok (eB x):=
 HJ hf hg (by rw[Ox,e];rfl)
theorem km(f:Nat->Int):∀ks:List Nat,gm (ks.map λk=>T.int (f k))=ZA (ks.map f)
 |[] =>rfl
 |k::ks=>by rw[Od,gm,km f ks];rfl
def Rd.bounds(R:Rd cs ls L P):eJ [RR cs ls]=.ok (eL L):=by rw[Em R.g,R.b];rfl
def qm(L:bS N2)(h:f Z=.ok (eL L)):cl cz (ae f aj) Z=.ok (.int (L.length:Nat)):=aE (ar h rfl) (by show Rs.ok (T.int ((L.map eB).length:Nat))=_;rw[Oc])
def Rd.events(R:Rd cs ls L P):eI [RR cs ls]=.ok (eS P):=by rw[CV R.g,R.e];rfl
def yK(D:DR P ns b){x:Int×List Nat}(e:b v=ZA x):bP (.dct (ns.map en) (dV ns b)) (en v)=.ok (eW x):=by unfold bP;simp only[bK];rw[D.get,e];rfl
def yM(D:DR P ns b)(v:N2):Bk (en v) (.dct (ns.map en) (dV ns b))=.ok (.bl (b v).isSome):=by unfold Bk;simp only[bK];rw[D.get];cases b v <;> rfl
def tmT(P:List N2)(t:N2->Int):T:=.tup (P.map λv=>.int (t v))
noncomputable def MN(b:cP N2)(v:N2):Int:=match b v with
 |some x=>x.1
 |none=>0
noncomputable def atT(t:N2->Int)(u:T):T:=match u with
 |.tup [.int c,.int k] =>.int (t ⟨c,k⟩)
 |_=>.non
def Rd.NS(R:Rd cs ls L P):(¬NoNeg L/\ku [(RR cs ls)]=.ok .non)\/(NoNeg L/\∃t b,Settled L P b/\(∀v∈P,∃w,b v=ZA (t v,w))/\ku [(RR cs ls)]=.ok (tmT P t)):=by
 obtain⟨r,hr,ok⟩:=qF R.f R.nd (λv h=>h);have wrap:∀{w:T},d9 [(RR cs ls),eL L]=.ok w->ku [(RR cs ls)]=.ok w:=λ{w} e=>aZ rfl (bB (aE (ar rfl (ar (aE rfl R.bounds) rfl)) e));have begin_:∀{x z:T}{y:Rs Fl},fz [eL L,eS P]=.ok (.tup [x,z])->((aD (gE (tb (o2 ji (vr 3) (cn .non))) (aW (cn .non)) sN) (aW (cl e9 (ae (d6 (iS (vr 2)) [ZB,ZA 3] (gN 0) bT (o2 aU (o2 bP (vr 1) (vr 0)) (cn (.int 0)))) aj)))) [.va (RR cs ls),.va (eL L),.va (eS P),.va x]=y)->fX [.va (RR cs ls),.va (eL L),.em,.em]=y:=λ{x z y} hs hy=>by unfold fX;rw[aw (bM (aE rfl R.events) rfl)];rw[aw (bM (ay (aE rfl hs) rfl rfl) rfl)];exact hy
 cases r with
 |inr q=>exact .inl ⟨λn=>absurd n (Bar.neg ok),wrap (aZ rfl (begin_ hr (fB ((dA (bx (ay rfl rfl rfl))).trans rfl))))⟩
 |inl b=>
  obtain⟨ns,D,hr⟩:=hr;have ok:Settled L P b:=ok;have htm:∀v∈P,∃w,b v=ZA (MN b v,w):=λv hv=>by obtain⟨d,w,e,_⟩:=ok.least v hv v 0 (.nil v);exact⟨w,by unfold MN;rw[e]⟩
  refine .inr ⟨(ok.holds R.f.ends htm).Nx,MN b,b,ok,htm,wrap (aZ rfl (begin_ hr ?_))⟩;generalize MN b=tm at htm;have lc:d6 (iS (vr 2)) [ZB,ZA 3] (gN 0) bT (o2 aU (o2 bP (vr 1) (vr 0)) (cn (.int 0))) [.va (RR cs ls),.va (eL L),.va (eS P),.va (.dct (ns.map en) (dV ns b))]=.ok (.lst ((P.map en).map (atT tm))):=
   m7 (ir rfl) (aB (by rw[Oc];exact R.pl)) (by simp) λt ht=>by obtain⟨v,hv,rfl⟩:=Os.mp ht;obtain⟨w,e⟩:=htm v hv;exact ay (ay rfl rfl (yK D e)) rfl rfl
  rw[ON]at lc;rw[aw ((dt (bx (ay rfl rfl rfl))).trans rfl)];exact bB (aE (ar lc rfl) rfl)
def Rd.NA(R:Rd cs ls L P):∃hw:Bool,aM [(RR cs ls)]=.ok (.bl hw)/\(hw=ZC↔NoNeg L):=by
 rcases R.NS with⟨n,e⟩|⟨n,t,b,_,_,e⟩
 .exact⟨ZD,aZ rfl (bB (ay (aE rfl e) rfl rfl)),λz=>(by cases z),λz=>absurd z n⟩
 .exact⟨ZC,aZ rfl (bB (ay (aE rfl e) rfl rfl)),λ_=>n,λ_=>rfl⟩
def Rd.Np(R:Rd cs ls L P)(n:NoNeg L):bH [RR cs ls]=.ok .non:=by obtain⟨hw,e,i⟩:=R.NA;rw[i.mpr n]at e;refine yA (Z:=[.va (RR cs ls)]) rfl ?_;show dF [.va (RR cs ls)]=_;unfold dF;exact(dt (dX (bx (aE rfl e)))).trans rfl
def Rd.from_(R:Rd cs ls L P)(n:NoNeg L){a:N2}(ha:a∈P):∃b ns,Settled L [a] b/\DR P ns b/\fy [RR cs ls,en a]=.ok (.dct (ns.map en) (dV ns b)):=by
 obtain⟨r,hr,ok⟩:=qF (S:=[a]) R.f (by simp) (λv h=>by rw[OF.mp h];exact ha);cases r with
 |inr q=>exact absurd n (Bar.neg ok)
 |inl b=>
  obtain⟨ns,D,hr⟩:=hr;refine⟨b,ns,ok,D,aZ rfl (bB (ay (aE (ar (aE rfl R.bounds) (ar (jS rfl (aB (k:=1) (by simp))) rfl)) hr) rfl rfl))⟩
noncomputable def HB(o:Option (Int×List Nat)):T:=match o with
 |some x=>.int x.1
 |none=>.non
def oI(o:Option Int):T:=match o with
 |some x=>.int x
 |none=>.non
def gO(P:List N2)(f:dE N2):List (List T×List T):=P.map λu=>(P.map en,P.map λv=>oI (f u v))
noncomputable def nW(P:List N2)(f:dE N2):T:=.dct (P.map en) (P.map λu=>.dct (P.map en) (P.map λv=>oI (f u v)))
noncomputable abbrev kM(P:List N2)(L:bS N2)(f:dE N2)(s3 s4 s5 s6 s7:Sl):En:=[.va (eS P),.va (eL L),.ow (.dd (P.map en) (gO P f)),s3,s4,s5,s6,s7]
noncomputable abbrev Ij(P:List N2)(L:bS N2)(f:dE N2)(s3 s4 s5 s6 s7:Sl):En:=[.va (eS P),.va (eL L),.va (nW P f),s3,s4,s5,s6,s7]
variable{f:dE N2}{s3 s4 s5 s6 s7:Sl}
section
def yL(s3 s4 s5 s6 s7:Sl):disown 2 (kM P L f s3 s4 s5 s6 s7)=Ij P L f s3 s4 s5 s6 s7:=by
 show [Sl.va (eS P),.va (eL L),.va (OT.view (.dd (P.map en) (gO P f))),s3,s4,s5,s6,s7]=_;have e:OT.view (.dd (P.map en) (gO P f))=nW P f:=by show T.dct (P.map en) ((gO P f).map λr=>T.dct r.1 r.2)=_;unfold gO nW;rw[ON];rfl
 rw[e]
variable{b c:Y2}
def BY{u:N2}(hc:c Z=.ok (nW P f))(ha:a Z=.ok (en u))(hb:b Z=.ok (en v))(hu:u∈P)(hv:v∈P):o2 bP (o2 bP c a) b Z=.ok (oI (f u v)):=by
 refine ay (t:=.dct (P.map en) (P.map λw=>oI (f u w))) (ay hc ha ?_) hb ?_
 .show(match lD (P.map en) (P.map λu=>T.dct (P.map en) (P.map λv=>oI (f u v))) (ky u)with|some t=>Rs.ok t|none=>.bad)=_;rw[oM (λu=>T.dct (P.map en) (P.map λv=>oI (f u v))),if_pos hu]
 .show(match lD (P.map en) (P.map λw=>oI (f u w)) (ky v)with|some t=>Rs.ok t|none=>.bad)=_;rw[oM (λw=>oI (f u w)),if_pos hv]
def Dk{u:N2}(ha:a (Ij P L f s3 s4 s5 s6 s7)=.ok (en u))(hb:b (Ij P L f s3 s4 s5 s6 s7)=.ok (en v))(hu:u∈P)(hv:v∈P):ln 2 (o2 bP (o2 bP (vr 2) a) b) (kM P L f s3 s4 s5 s6 s7)=.ok (oI (f u v)):=
 J2 rfl (by rw[yL];exact BY rfl ha hb hu hv) (by cases f u v <;> rfl)
theorem Ck(g:N2->List T×List T)(u:N2):∀(Q:List N2),u∈Q->rg (Q.map en) (Q.map g) (ky u)=ZA (g u)
 |w::Q,h=>by
  rw[Od,Od,rg,bK];by_cases e:w=u
  .subst e;rw[if_pos rfl]
  .rw[if_neg (λz=>e (jf z)),Ck g u Q ((Oh.mp h).elim (λz=>absurd z.symm e) id)]
theorem Cc(g:N2->List T×List T)(u:N2)(x:List T×List T):∀(Q:List N2),Q.Nodup->rf (ky u) x (Q.map en) (Q.map g)=Q.map λw=>if w=u then x else g w
 |[],_=>rfl
 |w::Q,h=>by
  rw[O0]at h;rw[Od,Od,rf,bK,Od];by_cases e:w=u
  .subst e;rw[if_pos rfl,if_pos rfl];congr 1;exact OP λz hz=>by rw[if_neg (λ(y:z=w)=>h.1 (y▸hz))]
  .rw[if_neg (λz=>e (jf z)),if_neg e,Cc g u x Q h.2]
variable{x:Int}
def CB(nd:P.Nodup)(pl:P.length<1000){u:N2}(ha:a (kM P L f s3 s4 s5 s6 s7)=.ok (en u))(hb:b (kM P L f s3 s4 s5 s6 s7)=.ok (en v))(hc:c (kM P L f s3 s4 s5 s6 s7)=.ok (.int x))(hu:u∈P)(hv:v∈P):
  jx 2 a b c (kM P L f s3 s4 s5 s6 s7)=.ok (.nx (kM P L (jW f u v x) s3 s4 s5 s6 s7)):=by
 unfold jx;show(c (kM P L f s3 s4 s5 s6 s7) >>= λw=>a (kM P L f s3 s4 s5 s6 s7) >>= λz=>match(keyOf z).bind λka=>(rg (P.map en) (gO P f) ka).map λr=>(ka,r)with
  |some (ka,r)=>b (kM P L f s3 s4 s5 s6 s7) >>= λy=>if (keyOf y).isSome=ZC/\r.1.length<1000 then Rs.ok (Fl.nx ((kM P L f s3 s4 s5 s6 s7).set 2 (.ow (.dd (P.map en) (rf ka (hW y w r.1 r.2) (P.map en) (gO P f))))))else .bad
  |none=>.bad)=_
 rw[hc,aH,ha,aH,bK];have e1:rg (P.map en) (gO P f) (ky u)=ZA (P.map en,P.map λv=>oI (f u v)):=Ck (λu=>(P.map en,P.map λv=>oI (f u v))) u P hu;simp only[Option.bind_some,e1,Xd];rw[hb,aH,bK,if_pos ⟨rfl,by rw[Oc];exact pl⟩,uN (.int x) v (λv=>oI (f u v)) P nd hv];have e2:=Cc (λu=>(P.map en,P.map λv=>oI (f u v))) u (P.map en,P.map λw=>if w=v then T.int x else oI (f u w)) P nd;have e3:(P.map λw=>if w=u then(P.map en,P.map λw=>if w=v then T.int x else oI (f u w))else(P.map en,P.map λv=>oI (f w v)))=gO P (jW f u v x):=by
  unfold gO jW;refine OP λw _=>?_;by_cases e:w=u
  .subst e;rw[if_pos rfl];congr 1;refine OP λz _=>?_;by_cases h:z=v
   .rw[if_pos h,if_pos ⟨rfl,h⟩];rfl
   .rw[if_neg h,if_neg (λq=>h q.2)]
  .rw[if_neg e];congr 1;exact OP λz _=>by rw[if_neg (λq=>e q.1)]
 show Rs.ok (Fl.nx [.va (eS P),.va (eL L),.ow (.dd (P.map en) (rf (ky u) (P.map en,P.map λw=>if w=v then T.int x else oI (f u w)) (P.map en) (gO P f))),s3,s4,s5,s6,s7])=_;rw[show rf (ky u) (P.map en,P.map λw=>if w=v then T.int x else oI (f u w)) (P.map en) (gO P f)=gO P (jW f u v x)from e2.trans e3]
def DS(nd:P.Nodup)(pl:P.length<1000){u:N2}(ha:a (kM P L f s3 s4 s5 s6 s7)=.ok (en u))(hb:b (kM P L f s3 s4 s5 s6 s7)=.ok (en v))(ha':a (Ij P L f s3 s4 s5 s6 s7)=.ok (en u))(hb':b (Ij P L f s3 s4 s5 s6 s7)=.ok (en v))(hc:c (kM P L f s3 s4 s5 s6 s7)=.ok (.int x))(hu:u∈P)(hv:v∈P):
  gE (vX (tb (o2 ji (ln 2 (o2 bP (o2 bP (vr 2) a) b)) (cn .non))) (tb (o2 wz c (ln 2 (o2 bP (o2 bP (vr 2) a) b))))) (jx 2 a b c) sN (kM P L f s3 s4 s5 s6 s7)=.ok (.nx (kM P L (n9 f u v x) s3 s4 s5 s6 s7)):=by
 have g:=Dk ha' hb' hu hv;have p:=CB nd pl ha hb hc hu hv;unfold n9;cases q:f u v with
 |none=>
  rw[q]at g;exact(dA (wJ (bx (ay g rfl rfl)))).trans p
 |some y=>
  rw[q]at g;have c2:tb (o2 wz c (ln 2 (o2 bP (o2 bP (vr 2) a) b))) (kM P L f s3 s4 s5 s6 s7)=.ok (decide (x<y)):=bx (ay hc g rfl);by_cases h:x<y
  .rw[decide_eq_true h]at c2;simp only[if_pos h];exact(dA (l7 (bx (ay g rfl rfl)) c2)).trans p
  .rw[decide_eq_false h]at c2;simp only[if_neg h];exact(dt (l7 (bx (ay g rfl rfl)) c2)).trans rfl
end
theorem wC:∀(P:List N2),nP (P.map en)=ZC
 |[] =>rfl
 |u::P=>by have:=wC P;simp[nP,bK,this]
def JX(nd:P.Nodup):((P.map en).map keyOf).Nodup:=by rw[ON];exact nd.map _ λa b h e=>h (jf e)
def Ih(nd:P.Nodup)(pl:P.length<=1000):pw 2 0 [.va (eS P),.va (eL L),.em,.em,.em,.em,.em,.em]=.ok (.nx (kM P L (λ_ _=>ZB) .em .em .em .em .em)):=by show(if (2:Nat)<8/\nP (P.map en)=ZC/\((P.map en).map keyOf).Nodup/\(P.map en).length<=1000 then Rs.ok (Fl.nx [.va (eS P),.va (eL L),.ow (.dd (P.map en) ((P.map en).map λ_=>(P.map en,(P.map en).map λ_=>T.non))),.em,.em,.em,.em,.em])else .bad)=_;rw[if_pos ⟨by omega,wC P,JX nd,by rw[Oc];exact pl⟩,ON,ON];rfl
theorem Hl(nd:P.Nodup)(pl:P.length<1000):∀(Q:List N2)(f:dE N2)(s3 s4 s5 s6 s7:Sl),(∀u∈Q,u∈P)->∃s3',
  bD (gN 3) (jx 2 (vr 3) (vr 3) (cn (.int 0))) (Q.map en) (kM P L f s3 s4 s5 s6 s7)=.ok (.nx (kM P L (Q.foldl (λf u=>jW f u u 0) f) s3' s4 s5 s6 s7))
 |[],f,s3,s4,s5,s6,s7,_=>⟨s3,rfl⟩
 |u::Q,f,s3,s4,s5,s6,s7,h=>by have hu:=h u Of;rw[Od,dM rfl (CB nd pl rfl rfl rfl hu hu)];exact Hl nd pl Q _ _ _ _ _ _ λw hw=>h w (N9 _ hw)
theorem si:∀(Q:List N2)(f:dE N2)(u v:N2),Q.foldl (λf u=>jW f u u 0) f u v=if u∈Q/\u=v then ZA 0 else f u v
 |[],f,u,v=>by rw[if_neg (λh=>nomatch h.1)];rfl
 |w::Q,f,u,v=>by
  rw[W4,si Q];by_cases e:u=v
  .subst e;by_cases m:u∈Q
   .rw[if_pos ⟨m,rfl⟩,if_pos ⟨N9 _ m,rfl⟩]
   .rw[if_neg (λz=>m z.1)];unfold jW;by_cases q:u=w
    .subst q;rw[if_pos ⟨rfl,rfl⟩,if_pos ⟨Of,rfl⟩]
    .rw[if_neg (λz=>q z.1),if_neg (λz=>(Oh.mp z.1).elim q m)]
  .rw[if_neg (λz=>e z.2),if_neg (λz=>e z.2)];unfold jW;rw[if_neg (λz=>e (z.1.trans z.2.symm))]
def Bd(P:List N2):P.foldl (λf u=>jW f u u 0) (λ_ _=>ZB)=vj P:=by
 funext u v
 rw[si];rfl
theorem Hk(nd:P.Nodup)(pl:P.length<1000):∀(M:bS N2)(f:dE N2)(s3 s4 s5 s6 s7:Sl),(∀x∈M,x.1∈P/\x.2.1∈P)->∃s3' s4' s5',
  bD (gT 3 (iY (gN 3) (iY (gN 4) (iY (gN 5) u9)))) (gE (vX (tb (o2 ji (ln 2 (o2 bP (o2 bP (vr 2) (vr 3)) (vr 4))) (cn .non))) (tb (o2 wz (vr 5) (ln 2 (o2 bP (o2 bP (vr 2) (vr 3)) (vr 4)))))) (jx 2 (vr 3) (vr 4) (vr 5)) sN) (M.map eB) (kM P L f s3 s4 s5 s6 s7)=.ok (.nx (kM P L (M.foldl (λf x=>n9 f x.1 x.2.1 x.2.2) f) s3' s4' s5' s6 s7))
 |[],f,s3,s4,s5,s6,s7,_=>⟨s3,s4,s5,rfl⟩
 |x::M,f,s3,s4,s5,s6,s7,h=>by have hx:=h x Of;rw[Od,dM rfl (DS nd pl rfl rfl rfl rfl rfl hx.1 hx.2)];exact Hk nd pl M _ _ _ _ _ _ λw hw=>h w (N9 _ hw)
def E7(nd:P.Nodup)(pl:P.length<1000){mid one other:N2}(hm:mid∈P)(h1:one∈P)(h2:other∈P)(f:dE N2)(s5 s7:Sl):∃s7',
  KS (kM P L f (.va (en one)) (.va (en other)) s5 (.va (en mid)) s7)=.ok (.nx (kM P L (mj mid one other f) (.va (en one)) (.va (en other)) s5 (.va (en mid)) s7')):=by
 have ga:∀s7,ln 2 (o2 bP (o2 bP (vr 2) (vr 3)) (vr 6)) (kM P L f (.va (en one)) (.va (en other)) s5 (.va (en mid)) s7)=.ok (oI (f one mid)):=λs7=>Dk rfl rfl h1 hm;have gb:∀s7,ln 2 (o2 bP (o2 bP (vr 2) (vr 6)) (vr 4)) (kM P L f (.va (en one)) (.va (en other)) s5 (.va (en mid)) s7)=.ok (oI (f mid other)):=λs7=>Dk rfl rfl hm h2;unfold mj KS;cases qa:f one mid with
 |none=>
  have ga:=ga s7;rw[qa]at ga;exact⟨s7,(dt (DM (bx (ay ga rfl rfl)))).trans rfl⟩
 |some x=>
  have ga:=ga s7;rw[qa]at ga;have c1:=bx (ay (g:=fS) (fb:=cn .non) ga rfl rfl);cases qb:f mid other with
  |none=>
   have gb:=gb s7;rw[qb]at gb;exact⟨s7,(dt (yC c1 (bx (ay gb rfl rfl)))).trans rfl⟩
  |some y=>
   have gb:=gb s7;rw[qb]at gb;refine⟨.va (.int (x+y)),(dA (yC c1 (bx (ay gb rfl rfl)))).trans ?_⟩;rw[aw (bM (ay ga gb rfl) rfl)];exact DS nd pl rfl rfl rfl rfl rfl h1 h2
theorem Hj(nd:P.Nodup)(pl:P.length<1000){mid one:N2}(hm:mid∈P)(h1:one∈P):∀(Q:List N2)(f:dE N2)(s4 s5 s7:Sl),(∀u∈Q,u∈P)->∃s4' s7',
  bD (gN 4) KS (Q.map en) (kM P L f (.va (en one)) s4 s5 (.va (en mid)) s7)=.ok (.nx (kM P L (ml mid one Q f) (.va (en one)) s4' s5 (.va (en mid)) s7'))
 |[],f,s4,s5,s7,_=>⟨s4,s7,rfl⟩
 |u::Q,f,s4,s5,s7,h=>by have hu:=h u Of;obtain⟨s7',e⟩:=E7 nd pl hm h1 hu f s5 s7;rw[Od,dM rfl e];exact Hj nd pl hm h1 Q _ _ _ _ λw hw=>h w (N9 _ hw)
theorem Hi(nd:P.Nodup)(pl:P.length<1000){mid:N2}(hm:mid∈P):∀(Q:List N2)(f:dE N2)(s3 s4 s5 s7:Sl),(∀u∈Q,u∈P)->∃s3' s4' s7',
  bD (gN 3) (d7 (iS (vr 0)) (gN 4) KS) (Q.map en) (kM P L f s3 s4 s5 (.va (en mid)) s7)=.ok (.nx (kM P L (qC mid Q P f) s3' s4' s5 (.va (en mid)) s7'))
 |[],f,s3,s4,s5,s7,_=>⟨s3,s4,s7,rfl⟩
 |u::Q,f,s3,s4,s5,s7,h=>by have hu:=h u Of;obtain⟨s4',s7',e⟩:=Hj nd pl hm hu P f s4 s5 s7 λ_ z=>z;rw[Od,dM rfl (fT rfl e)];exact Hi nd pl hm Q _ _ _ _ _ λw hw=>h w (N9 _ hw)
theorem Hh(nd:P.Nodup)(pl:P.length<1000):∀(Q:List N2)(f:dE N2)(s3 s4 s5 s6 s7:Sl),(∀u∈Q,u∈P)->∃s3' s4' s6' s7',
  bD (gN 6) (d7 (iS (vr 0)) (gN 3) (d7 (iS (vr 0)) (gN 4) KS)) (Q.map en) (kM P L f s3 s4 s5 s6 s7)=.ok (.nx (kM P L (wQ Q P f) s3' s4' s5 s6' s7'))
 |[],f,s3,s4,s5,s6,s7,_=>⟨s3,s4,s6,s7,rfl⟩
 |u::Q,f,s3,s4,s5,s6,s7,h=>by have hu:=h u Of;obtain⟨s3',s4',s7',e⟩:=Hi nd pl hu P f s3 s4 s5 s7 λ_ z=>z;rw[Od,dM rfl (fT rfl e)];exact Hh nd pl Q _ _ _ _ _ _ λw hw=>h w (N9 _ hw)
def He(P:List N2)(f:dE N2):Prop:=∀u∈P,∀y,f u u=ZA y->0<=y
def Ii(hd:∀u∈P,∃y,table P L u u=ZA y)(pl:P.length<1000)(s3 s4 s5 s6 s7:Sl):
  ∃t,((He P (table P L)/\t=nW P (table P L))\/(¬He P (table P L)/\t=.non))/\nX 2 (aW (DT (tb (o2 oh (d6 (iS (vr 0)) [ZB,ZA 2] (gN 0) (tb (o2 wz (o2 bP (o2 bP (vr 1) (vr 0)) (vr 0)) (cn (.int 0)))) (vr 0)) (dz aj))) (vr 2) (cn .non))) (kM P L (table P L) s3 s4 s5 s6 s7)=.ok (.rt t):=by
 generalize hf:table P L=f;rw[hf]at hd;have lc:d6 (iS (vr 0)) [ZB,ZA 2] (gN 0) (tb (o2 wz (o2 bP (o2 bP (vr 1) (vr 0)) (vr 0)) (cn (.int 0)))) (vr 0) (Ij P L f s3 s4 s5 s6 s7)=.ok (.lst (((P.map en).filter λt=>P.any λu=>decide (keyOf t=ZA (ky u))&&(match f u u with|some y=>decide (y<0)|none=>ZD)).map id)):=by
  refine l8 rfl (aB (k:=1000) (by rw[Oc];omega)) (by simp) λt ht=>?_;obtain⟨u,hu,rfl⟩:=Os.mp ht;obtain⟨y,hy⟩:=hd u hu;refine⟨?_,λ_=>rfl⟩;have e:(P.any λw=>decide (keyOf (en u)=ZA (ky w))&&(match f w w with|some y=>decide (y<0)|none=>ZD))=decide (y<0):=by
   by_cases h:y<0
   .rw[decide_eq_true h];exact Rx.mpr ⟨u,hu,by rw[hy];simp[h,bK]⟩
   .rw[decide_eq_false h,TQ];intro w hw;by_cases q:w=u
    .subst q;rw[hy];simp[h]
    .rw[decide_eq_false (λz=>q (jf ((bK u).symm.trans z)).symm)];simp
  rw[e];have g:=BY (Z:=[.va (en u),.va (nW P f)]) (c:=vr 1) (a:=vr 0) (b:=vr 0) rfl rfl rfl hu hu;rw[hy]at g;exact bx (ay g rfl rfl)
 rw[RH]at lc;generalize hp:(λt=>P.any λu=>decide (keyOf t=ZA (ky u))&&(match f u u with|some y=>decide (y<0)|none=>ZD))=p at lc;have pu:∀u∈P,∀y,f u u=ZA y->p (en u)=decide (y<0):=by
  intro u hu y hy;rw[<-hp];show(P.any λw=>decide (keyOf (en u)=ZA (ky w))&&(match f w w with|some y=>decide (y<0)|none=>ZD))=decide (y<0);by_cases h:y<0
  .rw[decide_eq_true h];exact Rx.mpr ⟨u,hu,by rw[hy];simp[h,bK]⟩
  .rw[decide_eq_false h,TQ];intro w hw;by_cases q:w=u
   .subst q;rw[hy];simp[h]
   .rw[decide_eq_false (λz=>q (jf ((bK u).symm.trans z)).symm)];simp
 have iff:(P.map en).filter p=[] ↔He P f:=by
  rw[List.filter_eq_nil_iff];constructor
  .intro h u hu y hy;have:=h (en u) (Os.mpr ⟨u,hu,rfl⟩);rw[pu u hu y hy]at this;simpa using this
  .intro h t ht;obtain⟨u,hu,rfl⟩:=Os.mp ht;obtain⟨y,hy⟩:=hd u hu;rw[pu u hu y hy];have:=h u hu y hy;simpa using this
 have nd:nds ((P.map en).filter p)=ZC:=ly λt ht=>by obtain⟨u,_,rfl⟩:=Os.mp (PM.mp ht).1;rfl
 have eq:o2 oh (d6 (iS (vr 0)) [ZB,ZA 2] (gN 0) (tb (o2 wz (o2 bP (o2 bP (vr 1) (vr 0)) (vr 0)) (cn (.int 0)))) (vr 0)) (dz aj) (Ij P L f s3 s4 s5 s6 s7)=.ok (.bl (aS (.lst ((P.map en).filter p)) (.lst []))):=
  ay lc (jS rfl (aB (k:=1) (by simp))) (by unfold oh;rw[if_pos (wR (by simp[T.dep,deps]) (by simpa [T.nd]using nd) rfl)])
 by_cases D:He P f
 .refine⟨nW P f,.inl ⟨D,rfl⟩,?_⟩;rw[iff.mpr D]at eq;refine DK ?_;rw[yL];exact bB ((wK (bx eq)).trans rfl)
 .refine⟨.non,.inr ⟨D,rfl⟩,?_⟩;have:(P.map en).filter p≠ []:=λz=>D (iff.mp z);cases q:(P.map en).filter p with
  |nil=>exact absurd q this
  |cons a l=>
   rw[q]at eq;refine DK ?_;rw[yL];exact bB ((wK (p:=ZD) (bx (eq.trans (by simp[aS,beqTs])))).trans rfl)
def GJ(nd:P.Nodup)(pl:P.length<1000)(hL:∀x∈L,x.1∈P/\x.2.1∈P):
  ∃t,((NoNeg L/\Least L P (table P L)/\t=nW P (table P L))\/(¬NoNeg L/\t=.non))/\bO [eS P,eL L]=.ok t:=by
 obtain⟨a3,e1⟩:=Hl nd pl P (λ_ _=>ZB) .em .em .em .em .em λ_ z=>z;rw[Bd]at e1;obtain⟨b3,b4,b5,e2⟩:=Hk nd pl L (vj P) a3 .em .em .em .em hL;obtain⟨c3,c4,c6,c7,e3⟩:=Hh nd pl P (BZ P L) b3 b4 b5 .em .em λ_ z=>z;obtain⟨t,ht,e4⟩:=Ii (λu hu=>let ⟨y,h,_⟩:=oV (L:=L) hu;⟨y,h⟩) pl c3 c4 b5 c6 c7;refine⟨t,ht.elim (λh=>.inl ?_) (λh=>.inr ⟨λn=>h.1 λu hu y hy=>?_,h.2⟩),aZ rfl ?_⟩
 .have:=nA hL h.1;exact⟨this.1,this.2,h.2⟩
 .exact Int.not_lt.mp λz=>rJ hy z n
 .show jo [.va (eS P),.va (eL L),.em,.em,.em,.em,.em,.em]=_;unfold jo;rw[aw (Ih nd (by omega)),aw (fT rfl e1),aw (fT rfl e2)];exact(aw (fT rfl e3)).trans e4
variable{ns:List Int}
def Gg{a:N2}(S:Settled L [a] b)(F:Least L P f)(ha:a∈P)(c:N2):HB (b c)=oI (f a c):=by
 cases q:b c with
 |none=>
  cases e:f a c with
  |none=>rfl
  |some y=>
   obtain⟨d,w,z,_⟩:=S.least a (by simp) c y (F.is a c y e);rw[q]at z;cases z
 |some x=>
  obtain⟨d,w⟩:=x;obtain⟨s,hs,h1,h2,_⟩:=S.walk c d w q;rw[OF.mp hs]at h1;have wk:Wk L a c d:=h2▸h1.wk;obtain⟨y,e,hy⟩:=F.le a ha c d wk;obtain⟨d',w',z,hd⟩:=S.least a (by simp) c y (F.is a c y e);rw[q]at z;cases z;rw[e];show T.int d=.int y;congr 1;omega
def LB(o:Option Int):(oI o).pl=ZC:=by cases o <;> rfl
theorem yj{D:Bool}:∀{l:List T},(∀t∈l,t.nk D=ZC)->nks D l=ZC
 |[],_=>rfl
 |t::l,h=>by unfold nks;rw[h t Of,yj λu hu=>h u (N9 _ hu)];rfl
theorem gd:∀{l:List T},(∀t∈l,t.dep<=k)->deps l<=k
 |[],_=>by unfold deps;omega
 |t::l,h=>by unfold deps;exact Nat.max_le.mpr ⟨h t Of,gd λu hu=>h u (N9 _ hu)⟩
def nY(P:List N2)(f:dE N2)(u:N2):T:=.tup (P.map λv=>oI (f u v))
def jC(P:List N2)(f:dE N2):T:=.tup (P.map (nY P f))
def Ji(P:List N2)(f:dE N2)(u:N2):(nY P f u).pl=ZC:=by unfold nY;rw[gR];exact gy λt ht=>by obtain⟨v,_,rfl⟩:=Os.mp ht;exact LB _
def CI(P:List N2)(f:dE N2):(jC P f).pl=ZC:=by unfold jC;rw[gR];exact gy λt ht=>by obtain⟨v,_,rfl⟩:=Os.mp ht;exact Ji _ _ _
def JE(D:Bool)(P:List N2)(f:dE N2):(jC P f).nk D=ZC:=by show nks D (P.map (nY P f))=ZC;refine yj λt ht=>?_;obtain⟨u,_,rfl⟩:=Os.mp ht;show nks D (P.map λv=>oI (f u v))=ZC;refine yj λt ht=>?_;obtain⟨v,_,rfl⟩:=Os.mp ht;cases f u v <;> rfl
def GS(P:List N2)(f:dE N2):(jC P f).dep<=60:=by
 have h0:∀o:Option Int,(oI o).dep<=1:=λo=>by cases o <;> simp[oI,T.dep]
 have h1:∀u,(nY P f u).dep<=2:=λu=>by
  unfold nY T.dep;have:deps (P.map λv=>oI (f u v))<=1:=gd λt ht=>by obtain⟨v,_,rfl⟩:=Os.mp ht;exact h0 _
  omega
 unfold jC T.dep;have:deps (P.map (nY P f))<=2:=gd λt ht=>by obtain⟨v,_,rfl⟩:=Os.mp ht;exact h1 _
 omega
def Eh{ms:List N2}(D:DR P ms b)(c:N2):gI [.dct (ms.map en) (dV ms b),en c]=.ok (HB (b c)):=by
 refine aZ rfl ?_;refine bB ((wK (bx (ay rfl rfl (yM D c)))).trans ?_);cases q:b c with
 |none=>rfl
 |some x=>exact ay (ay rfl rfl (yK D q)) rfl rfl
noncomputable def deO(f:dE N2)(u:N2)(t:T):T:=match t with
 |.tup [.int c,.int k] =>oI (f u ⟨c,k⟩)
 |_=>.non
def GX(P:List N2)(f:dE N2)(u:N2):(P.map en).map (deO f u)=P.map λv=>oI (f u v):=by rw[ON];rfl
theorem Rd.Nm(R:Rd cs ls L P)(n:NoNeg L)(F:Least L P f):∀(Q:List N2)(acc:List T)(s3 s4:Sl),(∀u∈Q,u∈P)->acc.length+Q.length<=1000->∃s3' s4',
  bD (gN 3) amF (Q.map en) [.va (RR cs ls),.va (eS P),.ow (.lst acc),s3,s4]=.ok (.nx [.va (RR cs ls),.va (eS P),.ow (.lst (acc++Q.map (nY P f))),s3',s4'])
 |[],acc,s3,s4,_,_=>⟨s3,s4,by simp only[Tz,PB];rfl⟩
 |u::Q,acc,s3,s4,h,hl=>by
  have hu:=h u Of;rw[Ol]at hl;obtain⟨b,ms,S,D,e⟩:=R.from_ n hu;have lc:d6 (iS (vr 1)) [ZB,ZA 4] (gN 0) bT (cl gI (ae (vr 1) (ae (vr 0) aj))) [.va (RR cs ls),.va (eS P),.ow (.lst acc),.va (en u),.va (.dct (ms.map en) (dV ms b))]=.ok (.lst ((P.map en).map (deO f u))):=
   m7 (ir rfl) (aB (by rw[Oc];exact R.pl)) (by simp) λt ht=>by obtain⟨v,hv,rfl⟩:=Os.mp ht;refine(aE rfl (Eh D v)).trans ?_;rw[Gg S F hu];rfl
  rw[GX]at lc;have st:amF [.va (RR cs ls),.va (eS P),.ow (.lst acc),.va (en u),s4]=.ok (.nx [.va (RR cs ls),.va (eS P),.ow (.lst (acc++[nY P f u])),.va (en u),.va (.dct (ms.map en) (dV ms b))]):=by refine(aw (bM (aE rfl e) rfl)).trans ?_;exact nQ (aE (ar lc rfl) mH) rfl (by omega)
  obtain⟨a,c,ih⟩:=R.Nm n F Q (acc++[nY P f u]) (.va (en u)) (.va (.dct (ms.map en) (dV ms b))) (λw hw=>h w (N9 _ hw)) (by rw[On];simp only[Ol,UJ];omega);refine⟨a,c,?_⟩;rw[Od,dM rfl st,ih,OU];rfl
def Rd.NR(R:Rd cs ls L P)(n:NoNeg L)(F:Least L P f):gX [(RR cs ls)]=.ok (jC P f):=by refine aZ rfl ?_;show lF [.va (RR cs ls),.em,.em,.em,.em]=_;unfold lF;rw[aw (uG (aE rfl (R.Np n)))];rw[aw (bM (aE rfl R.events) rfl)];rw[aw (Z':=[.va (RR cs ls),.va (eS P),.ow (.lst []),.em,.em]) (uE (by simp))];obtain⟨a,c,e⟩:=R.Nm n F P [] .em .em (λ_ z=>z) (by have:=R.pl;simp;omega);rw[aw (fT (ir rfl) e),P5];exact bB (J2 rfl (aE rfl mH) (JE _ P f))
def wo{n:Int}{t:T}(ht:t.pl=ZC)(h:aX t 0 (n - 1)=ZC):eG [.int n,t]=.ok .non:=by refine yA (Z:=[.va (.int n),.va t]) rfl ?_;show eU [.va (.int n),.va t]=_;unfold eU;exact(dt (dX (k:=ZC) (bx (aE rfl (by rw[fG _ _ _ ht,h]))))).trans rfl
def Er{y:N2×N2×Int}(h:eB x=eB y):x=y:=by obtain⟨a,b,m⟩:=x;obtain⟨a',b',m'⟩:=y;unfold eB at h;have h':=T.tup.inj h;simp only[W1,T.int.injEq,and_true]at h';rw[uM h'.1,uM h'.2.1,h'.2.2]
def zu{a b:T}(ha:a.pl=ZC)(hb:b.pl=ZC):(T.tup [a,b]).pl=ZC:=by simp[T.pl,plS,ha,hb]
variable{M:bS N2}
section
variable {t:N2->Int}
def Rd.same{Q:List N2}(R:Rd cs ls L P)(S:Rd cs ms M Q):Q=P:=by
 have:P.map en=Q.map en:=by rw[<-R.e,<-S.e]
 clear R S;induction P generalizing Q with
 |nil=>cases Q with
  |nil=>rfl
  |cons a Q=>simp at this
 |cons v P ih=>cases Q with
  |nil=>simp at this
  |cons a Q=>
   rw[Od,Od,W1]at this;rw[uM this.1,ih this.2]
def BP(F:Least L P f)(h1:∀x∈M,x.1∈P/\∃d,f x.1 x.2.1=ZA d/\d<=x.2.2){u:N2}(w:Wk M u v s):u∈P->∃d,f u v=ZA d/\d<=s:=by
 induction w with
 |nil a=>intro ha;exact F.le a ha a 0 (.nil a)
 |@step a b c m s hx w ih=>
  intro ha;obtain⟨_,d1,e1,l1⟩:=h1 _ hx;dsimp only at l1;have w1:=F.is a b d1 e1;by_cases hb:b∈P
  .obtain⟨d2,e2,l2⟩:=ih hb;obtain⟨d,e,l⟩:=F.le a ha c _ (w1.app (F.is b c d2 e2));exact⟨d,e,by omega⟩
  .cases w with
   |nil _=>exact⟨d1,e1,by omega⟩
   |step hy _=>exact absurd (h1 _ hy).1 hb
def Ib(h2:∀x∈L,∃m,m<=x.2.2/\(x.1,x.2.1,m)∈M){u:N2}(w:Wk L u v s):∃s',s'<=s/\Wk M u v s':=by
 induction w with
 |nil a=>exact⟨0,Qb _,.nil a⟩
 |@step a b c m s hx w ih=>
  obtain⟨s',l,w'⟩:=ih;obtain⟨m',l',hx'⟩:=h2 _ hx;exact⟨m'+s',by dsimp only at l';omega,.step hx' w'⟩
def A1(F:Least L P f)(hL:∀x∈L,x.1∈P)(h1:∀x∈M,x.1∈P/\∃d,f x.1 x.2.1=ZA d/\d<=x.2.2)(h2:∀x∈L,∃m,m<=x.2.2/\(x.1,x.2.1,m)∈M):Least M P f where
 is:=λu v d e=>by
  have w:=F.is u v d e;by_cases hu:u∈P
  .obtain⟨s',l,w'⟩:=Ib h2 w;obtain⟨d',e',l'⟩:=BP F h1 w' hu;rw[e]at e';cases e';have:s'=d:=by omega
   rw[<-this];exact w'
  .cases w with
   |nil _=>exact .nil _
   |step hy _=>exact absurd (hL _ hy) hu
 le:=λu hu v s w=>BP F h1 w hu
def Mq(P:List N2):(eS P).pl=ZC:=by show(T.lst (P.map en)).pl=ZC;unfold T.pl;exact gy λu hu=>by obtain⟨v,_,rfl⟩:=Os.mp hu;rfl
def Kh(P:List N2):(eS P).dep<=60:=by
 show(T.lst (P.map en)).dep<=60;have:deps (P.map en)<=5:=gd λu hu=>by obtain⟨v,_,rfl⟩:=Os.mp hu;simp[en,T.dep,deps]
 unfold T.dep;omega
end
open Classical in
def Ay(P:List N2)(L:bS N2):Option (List (Option Int)):=if NoNeg L then ZA (P.flatMap λu=>P.map (table P L u))else ZB
def AB(P:List N2)(L M:bS N2):Bool:=by classical exact decide (Ay P L=Ay P M)
theorem uI{f g:α->α->β}{Q:List α}:∀{P:List α},(P.flatMap λu=>Q.map (f u))=(P.flatMap λu=>Q.map (g u))↔ ∀u∈P,∀v∈Q,f u v=g u v
 |[] =>by simp
 |u::P=>by
  rw[QU,QU];constructor
  .intro e w hw v hv;obtain⟨h1,h2⟩:=List.append_inj e (by rw[Oc,Oc]);rcases Oh.mp hw with rfl|hw
   .exact Wh.mp h1 v hv
   .exact(uI).mp h2 w hw v hv
  .intro h;rw[Wh.mpr λv hv=>h u Of v hv,(uI).mpr λw hw v hv=>h w (N9 _ hw) v hv]
section
variable {N:bS N2}{g:dE N2}
def eO(he:∀x∈L,x.1∈P/\x.2.1∈P)(n:NoNeg L):Least L P (table P L):=(nA he λu _ y h=>Int.not_lt.mp λz=>rJ h z n).2
def oS(n:NoNeg L):Ay P L=ZA (P.flatMap λu=>P.map (table P L u)):=by unfold Ay;rw[if_pos n]
def sZ(n:¬ NoNeg L):Ay P L=ZB:=by unfold Ay;rw[if_neg n]
def ze(he:∀x∈L,x.1∈P/\x.2.1∈P)(he2:∀x∈M,x.1∈P/\x.2.1∈P)(n:NoNeg L)(m:NoNeg M)(F:Least L P f)(G:Least M P g):Ay P L=Ay P M↔ ∀u∈P,∀v∈P,f u v=g u v:=by
 rw[oS n,oS m,Sx,uI];constructor
 .intro h u hu v hv;rw[F.uniq (eO he n) hu,G.uniq (eO he2 m) hu];exact h u hu v hv
 .intro h u hu v hv;rw[(eO he n).uniq F hu,(eO he2 m).uniq G hu];exact h u hu v hv
def smB_iff:AB P L M=ZC↔Ay P L=Ay P M:=by unfold AB;exact decide_eq_true_iff
end
def Kz(a b:Option Int):aS (oI a) (oI b)=decide (a=b):=by
 cases a with
 |none=>cases b <;> simp[oI,aS]
 |some x=>
  cases b with
  |none=>simp[oI,aS]
  |some y=>simp only[oI,aS,Sx];rfl
theorem nj{f g:α->T}:∀(l:List α),beqTs (l.map f) (l.map g)=ZC↔ ∀x∈l,aS (f x) (g x)=ZC
 |[] =>by simp[beqTs]
 |x::l=>by rw[Od,Od,beqTs,Oa,nj l];simp
def Ao(P:List N2)(f g:dE N2):aS (jC P f) (jC P g)=ZC↔ ∀u∈P,∀v∈P,f u v=g u v:=by show beqTs (P.map (nY P f)) (P.map (nY P g))=ZC↔_;rw[nj];refine forall_congr' λu=>imp_congr_right λ_=>?_;show beqTs (P.map λv=>oI (f u v)) (P.map λv=>oI (g u v))=ZC↔_;rw[nj];refine forall_congr' λv=>imp_congr_right λ_=>?_;rw[Kz];exact decide_eq_true_iff
def Ki(P:List N2)(f g:dE N2):oh (jC P f) (jC P g)=.ok (.bl (aS (jC P f) (jC P g))):=by unfold oh;rw[if_pos (g9 (GS P f) (T.KB _ (CI P f)) (T.KB _ (CI P g)))]
def Rd.NZ{ds:List T}(R:Rd cs ls L P)(S:Rd ds ms M P):ck [RR cs ls,RR ds ms]=.ok (.bl (AB P L M)):=by
 obtain⟨h1,e1,i1⟩:=R.NA;obtain⟨h2,e2,i2⟩:=S.NA;refine aZ rfl ?_;show iG [.va (RR cs ls),.va (RR ds ms)]=_;unfold iG;rw[aw ((dt (bx (ay (aE rfl R.events) (aE rfl S.events) (kq (Mq P) (Kh P))))).trans rfl)];have a1:tb (cl aM (ae (vr 0) aj)) [.va (RR cs ls),.va (RR ds ms)]=.ok h1:=bx (aE rfl e1);have a2:tb (cl aM (ae (vr 1) aj)) [.va (RR cs ls),.va (RR ds ms)]=.ok h2:=bx (aE rfl e2);have r1:o1 uo (cl aM (ae (vr 0) aj)) [.va (RR cs ls),.va (RR ds ms)]=.ok (.bl (!h1)):=DG (aE rfl e1);have r2:o1 uo (cl aM (ae (vr 1) aj)) [.va (RR cs ls),.va (RR ds ms)]=.ok (.bl (!h2)):=DG (aE rfl e2);have no:∀{b:Bool}{X:Prop},(b=ZC↔X)->b=ZD->¬ X:=λi q x=>by rw[i.mpr x]at q;cases q
 cases h1 with
 |false=>
  have n1:=no i1 rfl;refine fB ((dA (wJ (dX a1))).trans (bB ((jh r1).trans (r2.trans ?_))));cases h2 with
  |false=>have n2:=no i2 rfl;rw[smB_iff.mpr (by rw[sZ n1,sZ n2])];rfl
  |true=>
   have n2:=i2.mp rfl;cases q:AB P L M with
   |false=>rfl
   |true=>have:=smB_iff.mp q;rw[sZ n1,oS n2]at this;cases this
 |true=>
  have n1:=i1.mp rfl;cases h2 with
  |false=>
   have n2:=no i2 rfl;refine fB ((dA (l7 (dX a1) (dX a2))).trans (bB ((md r1).trans ?_)));cases q:AB P L M with
   |false=>rfl
   |true=>have:=smB_iff.mp q;rw[sZ n2,oS n1]at this;cases this
  |true=>
   have n2:=i2.mp rfl;rw[aw ((dt (l7 (dX a1) (dX a2))).trans rfl)];have F:=eO R.f.ends n1;have G:=eO S.f.ends n2;refine bB ((ay (aE rfl (R.NR n1 F)) (aE rfl (S.NR n2 G)) (Ki _ _ _)).trans ?_);have key:aS (jC P (table P L)) (jC P (table P M))=ZC↔AB P L M=ZC:=by rw[Ao,smB_iff,ze R.f.ends S.f.ends n1 n2 F G]
   cases q:AB P L M with
   |true=>rw[key.mpr q]
   |false=>
    cases q2:aS (jC P (table P L)) (jC P (table P M))with
    |false=>rfl
    |true=>have:=key.mp q2;rw[q]at this;cases this
noncomputable def deB(t:T):N2×N2×Int:=match t with
 |.tup [.tup [.int a,.int b],.tup [.int c,.int d],.int m] =>(⟨a,b⟩,⟨c,d⟩,m)
 |_=>(⟨0,0⟩,⟨0,0⟩,0)
def lim(cs ls:List T):bS N2:=(By cs ls).map deB
def Rd.M8(R:Rd cs ls L P):lim cs ls=L:=by unfold lim;rw[R.b,ON];exact(OP λx _=>show deB (eB x)=x by obtain⟨a,b,m⟩:=x;rfl).trans (RH L)
theorem Rd.sub(R:Rd cs ls L P)(h:∀u∈ms,u∈ls)(hn:ms.length<=8):Rd cs ms (lim cs ms) P:=by obtain⟨M,Q,S⟩:=rQ (R.g.sub h hn);obtain rfl:=R.same S;rw[S.M8];exact S
def Rd.to(R:Rd cs ls L P)(g:Good cs ms):Rd cs ms (lim cs ms) P:=by obtain⟨M,Q,S⟩:=rQ g;obtain rfl:=R.same S;rw[S.M8];exact S
def G2(h:∀u∈ms,u∈ls):∀x∈By cs ms,x∈By cs ls:=λx hx=>by
 unfold By at hx ⊢;rcases OS.mp hx with z|z
 .exact O9 _ z
 .obtain⟨u,hu,z⟩:=R4.mp z;exact OL _ (R4.mpr ⟨u,h u hu,z⟩)
def zM(h:∀u∈ms,u∈ls):∀x∈lim cs ms,x∈lim cs ls:=λx hx=>by unfold lim at hx ⊢;obtain⟨y,hy,rfl⟩:=Os.mp hx;exact Os.mpr ⟨y,G2 h y hy,rfl⟩
def key(P:List N2)(cs ms:List T):=Ay P (lim cs ms)
def Rd.NJ(R:Rd cs ls L P){as bs:List T}(ga:Good cs as)(gb:Good cs bs):∃b,ck [RR cs as,RR cs bs]=.ok (.bl b)/\(b=ZC↔key P cs as=key P cs bs):=⟨_,(R.to ga).NZ (R.to gb),smB_iff⟩
def nI(k:Nat):T:=.int (k:Nat)
theorem sr(d:α):∀(l:List α)(j:Nat),((Oo l.length).filter λk=>k != j).map (λk=>l.getD k d)=l.eraseIdx j
 |[],j=>by simp
 |x::l,0=>by
  rw[Ol,RB,SX,Sk];have e:(Oo l.length).filter ((λk=>k != 0)∘Nat.succ)=Oo l.length:=List.filter_eq_self.mpr λk _=>by simp
  rw[e,if_neg (by simp),ON,List.eraseIdx_cons_zero];apply V6;intro k;rw[Ox];by_cases h:k<l.length
  .rw[Qt h,Og h];simp[h]
  .rw[PQ (by simpa using h),PQ (by simpa using h)];rfl
 |x::l,j+1=>by
  rw[Ol,RB,SX,Sk,if_pos (by simp),Od,ON,List.eraseIdx_cons_succ];have e:(λk=>k != j+1)∘Nat.succ=λk=>k != j:=by funext k;simp
  rw[e,<-sr d l j];simp
variable{f:Y2}
def oy(h:f Z=.ok (.tup l)):cl cz (ae f aj) Z=.ok (.int (l.length:Nat)):=aE (ar h rfl) rfl
def Ah(h:ls.length<=8):bL [RR cs ls]=.ok (.lst ((Oo ls.length).map nI)):=by refine aZ rfl ?_;refine bB ?_;have hl:=oy (f:=o2 aU (vr 0) (cn (.int 1))) (Z:=[.va (RR cs ls)]) (ay rfl rfl (gu rfl));show lR (ae (cl cz (ae (o2 aU (vr 0) (cn (.int 1))) aj)) aj) [.va (RR cs ls)]=_;unfold lR;rw[ar hl rfl,aH];show(if (mh (ls.length:Nat)&&decide (((ls.length:Nat):Int).toNat<=1000))=ZC then Rs.ok (T.lst (rng 0 (ls.length:Nat)))else .bad)=_;rw[if_pos (by rw[Oa];exact⟨z8 (by omega),decide_eq_true (by omega)⟩),i8];rfl
def jV(t:T):Nat:=match t with
 |.int k=>k.toNat
 |_=>0
def eQ(k:Nat):jV (nI k)=k:=by unfold jV nI;exact PD k
def Hz(a b:Nat):qf (nI a) (nI b)=.ok (.bl (a != b)):=by
 unfold qf nI;rw[if_pos (g9 (by simp[T.dep]) rfl rfl)];show Rs.ok (T.bl (!((a:Int) == (b:Int))))=_;congr 2;by_cases h:a=b
 .subst h;simp
 .have:((a:Int) == (b:Int))=ZD:=beq_eq_false_iff_ne.mpr (by omega);rw[this];simp[h]
def iZ{q:Nat->Bool}(l:List Nat):((l.map nI).filter λt=>q (jV t)).map id=(l.filter q).map nI:=by rw[RH,Sk];refine congrArg _ ?_;exact TY λk _=>by show q (jV (nI k))=q k;rw[eQ]
variable{l:List Nat}
def sC(h:l.length<=1000):d8 [.lst (l.map nI),nI j]=.ok (.lst ((l.filter λk=>k != j).map nI)):=by
 refine aZ rfl ?_;refine bB ?_;rw[<-iZ];exact l8 (ir rfl) (aB (by rw[Oc];exact h) (by omega)) (by simp) λt ht=>by obtain⟨k,_,rfl⟩:=Os.mp ht;exact⟨bx (ay rfl rfl (by rw[Hz,eQ])),λ_=>rfl⟩
def yJ(h:l.length<=1000)(hl:∀k∈l,k<ls.length):bR [RR cs ls,.lst (l.map nI)]=.ok (RR cs (l.map λk=>ls.getD k .non)):=by
 refine aZ rfl ?_;refine bB ?_;have lc:d6 (iS (vr 1)) [ZB,ZA 0] (gN 0) bT (o2 aU (o2 aU (vr 1) (cn (.int 1))) (vr 0)) [.va (RR cs ls),.va (.lst (l.map nI))]=.ok (.lst ((l.map nI).map λt=>ls.getD (jV t) .non)):=
  m7 (ir rfl) (aB (by rw[Oc];exact h) (by omega)) (by simp) λt ht=>by obtain⟨k,hk,rfl⟩:=Os.mp ht;have:=hl k hk;rw[eQ];exact rz (ay rfl rfl (gu rfl)) rfl (by rw[Og this,O6,Og this];rfl)
 rw[ON]at lc;have e:((λt=>ls.getD (jV t) T.non)∘nI)=λk=>ls.getD k .non:=by funext k;show ls.getD (jV (nI k)) _=_;rw[eQ]
 rw[e]at lc;exact p2 (ay rfl rfl (gu rfl)) (aE (ar lc rfl) mH)
def Ej(h:ls.length<=8)(j:Nat){g:Y2}(hf:f Z=.ok (RR cs ls))(hg:g Z=.ok (nI j))(a:Y2)(ha:a Z=.ok (.lst ((Oo ls.length).map nI))):
  cl bR (ae f (ae (cl d8 (ae a (ae g aj))) aj)) Z=.ok (RR cs (ls.eraseIdx j)):=by
 have e1:=sC (l:=Oo ls.length) (j:=j) (by rw[OV];omega);have hlen:((Oo ls.length).filter λk=>k != j).length<=1000:=OJ (Q9 _ _) (by rw[OV];omega);have e2:=yJ (cs:=cs) hlen λk hk=>OZ.mp (PM.mp hk).1;rw[sr]at e2;exact aE (ar hf (ar (aE (ar ha (ar hg rfl)) e1) rfl)) e2
section
variable{l:List T}
def uL:∀u∈l.eraseIdx j,u∈l:=λu hu=>List.mem_of_mem_eraseIdx hu
def yH(j:Nat):(l.eraseIdx j).length<=l.length:=List.length_eraseIdx_le _ _
open Classical in
def lz(P:List N2)(cs ls:List T)(j:Nat):Bool:=decide (key P cs (ls.eraseIdx j)=key P cs ls)
def ndl_iff:lz P cs ls j=ZC↔key P cs (ls.eraseIdx j)=key P cs ls:=by unfold lz;exact decide_eq_true_iff
def Rd.ger(R:Rd cs ls L P)(j:Nat):Good cs (ls.eraseIdx j):=R.g.sub uL (OJ (yH j) R.g.n)
def Rd.NG(R:Rd cs ls L P)(j:Nat):ck [RR cs (ls.eraseIdx j),RR cs ls]=.ok (.bl (lz P cs ls j)):=by
 obtain⟨b,e,i⟩:=R.NJ (R.ger j) R.g;rw[e];congr 2;cases q:lz P cs ls j with
 |true=>exact i.mpr (ndl_iff.mp q)
 |false=>
  cases b with
  |false=>rfl
  |true=>have:=ndl_iff.mpr (i.mp rfl);rw[q]at this;cases this
def Rd.Ng(R:Rd cs ls L P)(n:NoNeg L):bA [RR cs ls]=.ok (.lst (((Oo ls.length).filter (lz P cs ls)).map nI)):=by
 refine aZ rfl ?_;show cX [.va (RR cs ls),.em]=_;unfold cX;rw[aw (uG (aE rfl (R.Np n)))];rw[aw (bM (aE rfl (Ah R.g.n)) rfl)];refine bB ?_;rw[<-iZ];exact l8 (ir rfl) (aB (by rw[Oc,OV];exact R.g.n)) (by simp) λt ht=>by obtain⟨k,hk,rfl⟩:=Os.mp ht;rw[eQ];exact⟨bx (aE (ar (Ej R.g.n k rfl rfl (vr 2) rfl) rfl) (R.NG k)),λ_=>rfl⟩
end
section
variable {f:dE N2}
def Rd.NT(R:Rd cs ls L P)(k:Nat):KI (L.take k++L.drop (k+1)) P:=by
 have sub:∀x∈L.take k++L.drop (k+1),x∈L:=λx hx=>(OS.mp hx).elim Qo U9;have ll:=R.ll;have hlen:(L.take k++L.drop (k+1)).length<=60:=by rw[On,Pr,QL];omega
 refine⟨by omega,?_,λx hx=>R.f.ends x (sub x hx),R.f.pl⟩;have:=zj λx hx=>R.bg x (sub x hx);omega
end
theorem Ci:∀{r:List Int}{k:Nat},mB r=ZC->k+1<r.length->0<=dr r k
 |[],k,_,h=>by simp at h
 |[a],k,_,h=>by simp at h
 |a::b::r,0,h,_=>by rw[AG,Oa]at h;have:=of_decide_eq_true h.1;show 0<=b - a;omega
 |a::b::r,k+1,h,hk=>by rw[AG,Oa]at h;exact Ci (k:=k) h.2 (by simpa using hk)
def yQ{t:T}(h:bJ t=ZC):∃(x y:Int)(r:List Int),t=.tup [.int x,.int y,.tup (r.map .int)]/\(0<=x/\x<=9)/\x<=y/\(∀k,0<=r.getD k 0/\r.getD k 0<=99)/\∀k,k+1<r.length->0<=dr r k:=by
 obtain⟨x,y,r,rfl,h1,h2,h3⟩:=qI h;refine⟨x,y,r,rfl,h1,?_,h3,?_⟩
 .have h':(mS (.int x) (.int y)&&cC (.tup (r.map .int)))=ZC:=h;rw[Oa]at h';have hp:(aX (.int x) 1 9&&aX (.int y) x 9)=ZC:=h'.1;rw[Oa]at hp;obtain⟨i,e,a,b⟩:=dq hp.2;cases e;exact a
 .have h':(mS (.int x) (.int y)&&cC (.tup (r.map .int)))=ZC:=h;rw[Oa]at h';have hr:=h'.2;unfold cC at hr;rw[Oa]at hr;have hr2:(((r.map T.int).all λu=>aX u 0 99)&&(match nums (r.map .int)with|some m=>mB m|none=>ZD))=ZC:=hr.2;rw[Oa,gU]at hr2;exact λk hk=>Ci hr2.2 hk
theorem ED{u:T}:∀{cs:List T}{i:Nat},u∈bC i cs->∃j c,cs[j]?=ZA c/\u∈xB (i+j) c
 |[],i,h=>by simp[bC]at h
 |c::cs,i,h=>by
  rw[bC,OS]at h;rcases h with h|h
  .exact⟨0,c,rfl,h⟩
  .obtain⟨j,d,e,hd⟩:=ED h;exact⟨j+1,d,e,by rw[show i+(j+1)=i+1+j by omega];exact hd⟩
section
variable {x:Int}
noncomputable def cw(b:Bool)(cs:List T)(v:N2):Int:=match cs[v.c.toNat]? with
 |some (.tup [.int x,.int y,.tup r])=>(if b then y else x)*((nums r).getD []).getD v.k.toNat 0
 |_=>0
def HQ(b:Bool)(e:cs[i]?=ZA (.tup [.int x,.int y,.tup (r.map .int)]))(k:Nat):cw b cs ⟨i,(k:Nat)⟩=(if b then y else x)*r.getD k 0:=by unfold cw;simp only[PD,e,gU,Option.getD_some]
def Rd.cw0(R:Rd cs [] L P)(b:Bool):Holds L (cw b cs):=λu v m hx=>by
 have hb:eB (u,v,m)∈By cs []:=by rw[R.b];exact Os.mpr ⟨_,hx,rfl⟩
 unfold By at hb;rw[List.flatMap_nil,PB]at hb;obtain⟨j,c,hj,hu⟩:=ED hb;rw[Sa]at hu;obtain⟨x,y,r,rfl,_,xy,_,dd⟩:=yQ ((cj R.g.c).1 _ (Pz hj));rw[oQ]at hu;obtain⟨k,hk,hu⟩:=R4.mp hu;have hk':=OZ.mp hk;have d0:=dd k (by omega);have c1:=HQ b hj k;have c2:=HQ b hj (k+1);have fx:x<=(if b then y else x)/\(if b then y else x)<=y:=by cases b <;> simp[xy]
 revert fx c1 c2;generalize (if b then y else x)=z;intro c1 c2 fx;have m1:=SY fx.1 d0;have m2:=SY fx.2 d0;have ed:z*r.getD (k+1) 0 - z*r.getD k 0=dr r k*z:=by unfold dr;rw[<-Int.mul_sub,UF]
 unfold pr at hu;simp only[Oh,Pe,or_false]at hu;rcases hu with hu|hu
 .have:=Er (y:=(⟨j,k⟩,⟨j,((k+1:Nat):Int)⟩,dr r k*y)) hu;cases this;rw[c1,c2];omega
 .have:=Er (y:=(⟨j,((k+1:Nat):Int)⟩,⟨j,k⟩,-dr r k*x)) hu;cases this;rw[c1,c2,Int.neg_mul];omega
def nn0(R:Rd cs ls L P):NoNeg (lim cs []):=by have g0:Good cs []:=⟨R.g.c,λt ht=>(by cases ht),by simp,zu R.g.parts.1 rfl⟩;have S:=R.to g0;exact(S.cw0 ZC).Nx
end
noncomputable def fN:Nat->List (List Nat)
 |0=>[[]]
 |1=>[[0],[]]
 |2=>[[0,1],[0],[1],[]]
 |3=>[[0,1,2],[0,1],[0,2],[1,2],[0],[1],[2],[]]
 |_=>[[0,1,2,3],[0,1,2],[0,1,3],[0,2,3],[1,2,3],[0,1],[0,2],[0,3],[1,2],[1,3],[2,3],[0],[1],[2],[3],[]]
def lN(l:List Nat):T:=.lst (l.map nI)
noncomputable def gx:Nat->List (List Nat)
 |0=>[[]]
 |n+1=>gx n++(gx n).map λl=>l++[n]
def Kj:∀n≤4,kx [lN (Oo n)]=.ok (.lst ((gx n).map lN)):=by
 intro n hn
 match n,hn with
 |0,_=>rfl
 |1,_=>rfl
 |2,_=>rfl
 |3,_=>rfl
 |4,_=>rfl
def HL(l:List Nat):List Int:=BI (l.map λk:Nat=>(k:Int))
def Ir:∀n≤4,((gx n).map HL).mergeSort nN=(fN n).map HL:=by
 intro n hn
 match n,hn with
 |0,_=>exact(iP (by decide) (by decide)).symm
 |1,_=>exact(iP (by decide) (by decide)).symm
 |2,_=>exact(iP (by decide) (by decide)).symm
 |3,_=>exact(iP (by decide) (by decide)).symm
 |4,_=>exact(iP (by decide) (by decide)).symm
theorem zF:∀l:List Nat,gm (l.map nI)=ZA (l.map λk:Nat=>(k:Int))
 |[] =>rfl
 |k::l=>by show(gm (l.map nI)).map ((k:Int):: ·)=_;rw[zF l];rfl
theorem uz:∀l:List (List Nat),jO (l.map lN)=ZA (l.map λm=>m.map λk:Nat=>(k:Int))
 |[] =>rfl
 |m::l=>by show(match gm (m.map nI),jO (l.map lN)with|some ns,ZA k=>ZA (ns::k)|_,_=>ZB)=_;rw[zF,uz l];rfl
def Dx(l:List Nat):T.lst ((l.map λk:Nat=>(k:Int)).map T.int)=lN l:=by unfold lN;rw[ON];rfl
def pq:∀n≤4,(gx n).length<64:=by decide
def Mt(hn:n<=4):vB [.lst ((gx n).map lN)]=.ok (.lst ((fN n).map lN)):=by show(match jO ((gx n).map lN)with|some k=>if k.length<64 then Rs.ok (T.lst (((k.map BI).mergeSort nN).map λr:List Int=>T.lst (r.tail.map .int)))else .bad|none=>.bad)=_;rw[uz];simp only[Oc];rw[if_pos (pq n hn),ON,show(BI∘λm:List Nat=>m.map λk:Nat=>(k:Int))=HL from rfl,Ir n hn,ON];congr 2;exact OP λl _=>Dx l
def zf:∀n≤4,∀l∈fN n,l.Pairwise (· < ·)/\(∀k∈l,k<n)/\l.length<=n:=by decide
def Fg:∀n≤4,[] ∈fN n:=by decide
def Fh:∀n≤4,(fN n).length<=16:=by decide
def pk(ls:List T)(l:List Nat):List T:=l.map λk=>ls.getD k .non
def nn(cs ls:List T)(l:List Nat):Bool:=@decide (NoNeg (lim cs (pk ls l))) (Ue _)
def nn_iff:nn cs ls l=ZC↔NoNeg (lim cs (pk ls l)):=by unfold nn;exact @decide_eq_true_iff _ (Ue _)
def CJ(hl:∀k∈l,k<ls.length):∀u∈pk ls l,u∈ls:=λu hu=>by obtain⟨k,hk,rfl⟩:=Os.mp hu;have:=hl k hk;rw[O6,Og this];exact PR _
def Rd.pkw(R:Rd cs ls L P)(hl:∀k∈l,k<ls.length)(h8:l.length<=8):aM [RR cs (pk ls l)]=.ok (.bl (nn cs ls l)):=by have S:=R.sub (CJ hl) (by unfold pk;rw[Oc];exact h8);obtain⟨hw,e,i⟩:=S.NA;rw[e];congr 2;exact Pf.mpr (i.trans nn_iff.symm)
def Rd.N6(R:Rd cs ls L P):nn cs ls []=ZC:=nn_iff.mpr (nn0 R)
def Rd.kept(R:Rd cs ls L P)(h4:ls.length<=4):∃(j:Nat)(l:List Nat),(fN ls.length)[j]?=ZA l/\nn cs ls l=ZC/\(∀i<j,∀m,(fN ls.length)[i]?=ZA m->nn cs ls m=ZD)/\dR [RR cs ls]=.ok (lN l):=by
 have go:∀(k j:Nat),j+k=(fN ls.length).length->(∀i<j,∀m,(fN ls.length)[i]?=ZA m->nn cs ls m=ZD)->∀f,k<f ->
   ∃(j':Nat)(l:List Nat),(fN ls.length)[j']?=ZA l/\nn cs ls l=ZC/\(∀i<j',∀m,(fN ls.length)[i]?=ZA m->nn cs ls m=ZD) ∧
    cf (fO (tb (cl aM (ae (cl bR (ae (vr 0) (ae (o2 aU (vr 1) (vr 2)) aj))) aj)))) (Ca 2 (cn (.int 1))) f [.va (RR cs ls),.va (.lst ((fN ls.length).map lN)),.va (.int (j:Nat))]=.ok (.nx [.va (RR cs ls),.va (.lst ((fN ls.length).map lN)),.va (.int (j':Nat))]):=by
  intro k;induction k with
  |zero=>
   intro j hj hf f _;obtain⟨i,hi⟩:=S2 (Fg ls.length h4);have:=hf i (by have:=(Oj.mp hi).1;omega) _ hi;rw[R.N6]at this;cases this
  |succ k ih=>
   intro j hj hf f hfk;have hlt:j<(fN ls.length).length:=by omega
   obtain⟨l,hl⟩:∃l,(fN ls.length)[j]?=ZA l:=⟨_,Og hlt⟩;obtain⟨_,h2,h3⟩:=zf ls.length h4 l (Pz hl);have c:tb (cl aM (ae (cl bR (ae (vr 0) (ae (o2 aU (vr 1) (vr 2)) aj))) aj)) [.va (RR cs ls),.va (.lst ((fN ls.length).map lN)),.va (.int (j:Nat))]=.ok (nn cs ls l):=
    bx (aE (ar (aE (ar rfl (ar (ay rfl rfl (yB (by rw[Ox,hl];rfl))) rfl)) (yJ (by omega) h2)) rfl) (R.pkw h2 (by omega)))
   cases f with
   |zero=>omega
   |succ f=>
    cases q:nn cs ls l with
    |true=>
     rw[q]at c;exact⟨j,l,hl,q,hf,wG (dX c)⟩
    |false=>
     rw[q]at c;obtain⟨j',l',a1,a2,a3,a4⟩:=ih (j+1) (by omega) (λi hi m hm=>by
      by_cases z:i=j
      .subst z;rw[hl]at hm;cases hm;exact q
      .exact hf i (by omega) m hm) f (by omega)
     exact⟨j',l',a1,a2,a3,(qw (dX c) rfl).trans a4⟩
 obtain⟨j,l,a1,a2,a3,a4⟩:=go (fN ls.length).length 0 (by omega) (λi hi=>absurd hi (by omega)) FU (by have:=Fh ls.length h4;show _<1000000000000;omega);refine⟨j,l,a1,a2,a3,?_⟩;refine aZ rfl ?_;show gw [.va (RR cs ls),.em,.em]=_;unfold gw;have ea:=Ah (cs:=cs) (ls:=ls) (by omega);refine(aw (uG (aE rfl (qe R.g.p R.g.ok)))).trans ?_;refine(aw (bM (aE (ar (aE (ar (aE rfl ea) rfl) (Kj _ h4)) rfl) (Mt h4)) rfl)).trans ?_;refine(aw (bM rfl rfl)).trans ?_;refine(aw a4).trans ?_;exact bB (ay rfl rfl (yB (by rw[Ox,a1];rfl)))
def LC:∀l:List Nat,plS (l.map nI)=ZC:=λl=>gy λt ht=>by obtain⟨k,_,rfl⟩:=Os.mp ht;rfl
def uO(l:List Nat):(lN l).dep<=60:=by
 unfold lN T.dep;have:deps (l.map nI)<=0:=gd λt ht=>by obtain⟨k,_,rfl⟩:=Os.mp ht;simp[nI,T.dep]
 omega
def rR(l:List Nat):(lN l).pl=ZC:=by unfold lN;rw[Jj];exact LC l
def yR(a b:Nat):aS (nI a) (nI b)=decide (a=b):=by
 show((a:Int) == (b:Int))=_;by_cases h:a=b
 .subst h;simp
 .rw[decide_eq_false h];exact beq_eq_false_iff_ne.mpr (by omega)
theorem uU:∀a b:List Nat,beqTs (a.map nI) (b.map nI)=decide (a=b)
 |[],[] =>rfl
 |[],_::_=>by simp[beqTs]
 |_::_,[] =>by simp[beqTs]
 |x::a,y::b=>by show(aS (nI x) (nI y)&&beqTs (a.map nI) (b.map nI))=_;rw[yR,uU a b];by_cases h:x=y <;> by_cases g:a=b <;> simp[h,g]
noncomputable def rm(n i:Nat):List Nat:=(Oo n).filter λk=>k != i
def Hr:∀k∈rm n i,k<n:=λk hk=>OZ.mp (PM.mp hk).1
def Cf(n i:Nat):(rm n i).length<=n:=OJ (Q9 _ _) (by rw[OV];omega)
def vQ(ls:List T):pk ls (Oo ls.length)=ls:=by unfold pk;refine R3 (by simp) λi h1 h2=>?_;simp[O6,Og h2]
def told(cs ls:List T):List Nat:=if nn cs ls (Oo ls.length)=ZC then []else(Oo ls.length).filter λi=>nn cs ls (rm ls.length i)
def Rd.hw(R:Rd cs ls L P)(h4:ls.length<=4):aM [RR cs ls]=.ok (.bl (nn cs ls (Oo ls.length))):=by have:=R.pkw (λk hk=>OZ.mp hk) (by rw[OV];omega);rwa [vQ]at this
def Rd.N1(R:Rd cs ls L P)(h4:ls.length<=4):ff [RR cs ls]=.ok (lN (told cs ls)):=by
 refine aZ rfl ?_;show hV [.va (RR cs ls),.em]=_;unfold hV told;have hw:=R.hw h4;cases q:nn cs ls (Oo ls.length)with
 |true=>
  rw[q]at hw;exact fB ((dA (bx (aE rfl hw))).trans (bB rfl))
 |false=>
  rw[q]at hw;refine(aw ((dt (bx (aE rfl hw))).trans rfl)).trans ?_;refine(aw (bM (aE rfl (Ah (by omega))) rfl)).trans ?_;refine bB ?_;rw[if_neg (by decide)];show _=Rs.ok (T.lst (((Oo ls.length).filter λi=>nn cs ls (rm ls.length i)).map nI));rw[<-iZ];refine l8 (ir rfl) (aB (by simp;omega) (by omega)) (by simp) λt ht=>by obtain⟨k,hk,rfl⟩:=Os.mp ht;rw[eQ];exact⟨bx (aE (ar (aE (ts:=[RR cs ls,lN (rm ls.length k)]) (ar rfl (ar (aE rfl (sC (by simp;omega))) rfl)) (yJ (by have:=Cf ls.length k;omega) Hr)) rfl) (R.pkw Hr (by have:=Cf ls.length k;omega))),λ_=>rfl⟩
noncomputable def Mv:T->T
 |.tup [x,y,.tup r] =>.tup [x,y,.tup (r.take 2)]
 |t=>t
def Br{c:T}(h:bJ c=ZC):bJ (Mv c)=ZC:=by
 obtain⟨x,y,r,rfl,_⟩:=dZ h;have h':(mS (.int x) (.int y)&&cC (.tup (r.map .int)))=ZC:=h;rw[Oa]at h';show(mS (.int x) (.int y)&&cC (.tup ((r.map .int).take 2)))=ZC;rw[h'.1,Ru];have hr:=h'.2;unfold cC at hr ⊢;rw[Oa]at hr;obtain⟨h1,h2⟩:=hr;have h2':(((r.map T.int).all λu=>aX u 0 99)&&(match nums (r.map .int)with|some m=>mB m|none=>ZD))=ZC:=h2;rw[Oa,gU,OH]at h2';show(eK (.tup ((r.map T.int).take 2)) 1 4&&((((r.map T.int).take 2).all λu=>aX u 0 99)&&(match nums ((r.map .int).take 2)with|some m=>mB m|none=>ZD)))=ZC;have h1':(decide (1<=(r.map T.int).length)&&decide ((r.map T.int).length<=4))=ZC:=h1;rw[Oa]at h1';have e1:=of_decide_eq_true h1'.1;have e2:=of_decide_eq_true h1'.2;have hl:eK (.tup ((r.map T.int).take 2)) 1 4=ZC:=by show(decide (1<=((r.map T.int).take 2).length)&&decide (((r.map T.int).take 2).length<=4))=ZC;rw[Pr,Oa];exact⟨decide_eq_true (by omega),decide_eq_true (by omega)⟩
 rw[hl,Ru,Oa,OH,<-S6,gU];refine⟨λu hu=>h2'.1 u (by rw[S6]at hu;exact Qo hu),?_⟩
 match r,h2'.2 with
 |[],_=>rfl
 |[a],_=>rfl
 |a::b::r,q=>
  show mB [a,b]=ZC;have q:mB (a::b::r)=ZC:=q;rw[AG,Oa]at q;rw[AG,q.1];rfl
variable{x:T}
theorem yG{cs':List T}(hx:bh cs x=ZC):∀{l:List T},(∀t∈l,bh cs' t=ZC)->fU x l=ZC->x∈l
 |[],_,h=>by cases h
 |t::l,hl,h=>by
  unfold fU at h;rw[Q7,Td]at h;rcases h with h|h
  .obtain⟨c,k,rfl⟩:=cN hx;obtain⟨d,m,rfl⟩:=cN (hl t (.head _));have h':((d == c)&&((m == k)&&ZC))=ZC:=h;rw[VJ,Oa]at h';rw[eq_of_beq h'.1,eq_of_beq h'.2];exact .head _
  .exact .tail _ (yG hx (λu hu=>hl u (.tail _ hu)) h)
def HK{cs':List T}{l:List T}(hx:bh cs x=ZC)(hl:∀t∈l,bh cs' t=ZC):sh x (.lst l)=.ok (.bl (fU x l)):=by
 obtain⟨c,k,rfl⟩:=cN hx;show(if _ then _ else _)=_;have:(T.lst l).nd=ZC:=by unfold T.nd;exact ly λt ht=>by obtain⟨d,m,rfl⟩:=cN (hl t ht);rfl
 rw[if_pos ⟨.inl (by simp[T.dep,deps]),rfl,this⟩]
noncomputable abbrev smK(l:List T)(t:T):Bool:=match t with
 |.tup [a,b,_,_] =>fU a l&&fU b l
 |_=>ZD
noncomputable abbrev om(cs:List T):List T:=(cs.take 2).map Mv
noncomputable abbrev ls2(cs ls:List T):List T:=ls.filter (smK (fP 0 (om cs)))
def Ey(h:bp (.tup cs)=ZC):bp (.tup (om cs))=ZC:=by
 obtain⟨ha,h1,h4⟩:=cj h;show(eK (.tup (om cs)) 1 4&&(om cs).all bJ)=ZC;rw[Oa,OH];refine⟨?_,λc hc=>?_⟩
 .show(decide (1<=(om cs).length)&&decide ((om cs).length<=4))=ZC;rw[Oc,Pr,Oa];exact⟨decide_eq_true (by omega),decide_eq_true (by omega)⟩
 .obtain⟨d,hd,rfl⟩:=Os.mp hc;exact Br (ha d (Qo hd))
def JN(g:Good cs ls):∀t∈ls2 cs ls,bN (om cs) t=ZC:=λt ht=>by obtain⟨h1,h2⟩:=PM.mp ht;obtain⟨a,b,x,y,rfl,hd,ha,hb,hn⟩:=ez (g.l t h1);have h2':(fU a (fP 0 (om cs))&&fU b (fP 0 (om cs)))=ZC:=h2;rw[Oa]at h2';have e1:=nR (yG ha (λu hu=>nR hu) h2'.1);have e2:=nR (yG hb (λu hu=>nR hu) h2'.2);show(eZ x y&&(bh (om cs) a&&(bh (om cs) b&& !aS a b)))=ZC;rw[hd,e1,e2,hn];rfl
def xP(g:Good cs ls):Good (om cs) (ls2 cs ls):=by
 have hp:(RR (om cs) (ls2 cs ls)).pl=ZC:=by
  refine zu ?_ (by rw[gR];exact gy λt ht=>g.parts.2 t (PM.mp ht).1);rw[gR];refine gy λt ht=>?_;obtain⟨d,hd,rfl⟩:=Os.mp ht;obtain⟨x,y,r,rfl,_⟩:=dZ ((cj g.c).1 d (Qo hd));show(T.tup [.int x,.int y,.tup ((r.map .int).take 2)]).pl=ZC;rw[<-S6,gR];have:(T.tup ((r.take 2).map .int)).pl=ZC:=by rw[gR];exact gy λt ht=>by obtain⟨k,_,rfl⟩:=Os.mp ht;rfl
  exact gy λu hu=>by
   simp only[Oh,Pe,or_false]at hu;rcases hu with rfl|rfl|rfl
   .rfl
   .rfl
   .exact this
 exact⟨Ey g.c,JN g,OJ (Q9 _ _) g.n,hp⟩
def GK(g:Good cs ls):gG [RR cs ls]=.ok (RR (om cs) (ls2 cs ls)):=by
 obtain⟨ha,h1,h4⟩:=cj g.c;refine aZ rfl ?_;show jq [.va (RR cs ls),.em,.em]=_;unfold jq;have hc:d6 (iS (sl (o2 aU (vr 0) (cn (.int 0))) pN (pS (cn (.int 2))))) [ZB] (gN 0) bT (o2 aV (sl (vr 0) pN (pS (cn (.int 2)))) (aP (ae (sl (o2 aU (vr 0) (cn (.int 2))) pN (pS (cn (.int 2)))) aj))) [.va (RR cs ls),.em,.em]=.ok (.lst (om cs)):=by
  refine m7 (J3 ?_) (by unfold ZI;rw[Pr];omega) (by simp) λc hc=>?_
  .rw[wI (hi:=ZA ((2:Nat):Int)) (rz rfl rfl rfl) rfl (qx rfl),fH]
  .obtain⟨x,y,r,rfl,_,_,_,hr4⟩:=dZ (ha c (Qo hc));refine ay (t:=.tup [.int x,.int y]) ?_ (dy (ar ?_ rfl) (aB (k:=1) (by simp))) (uY _ _ (by simp))
   .exact(wI (hi:=ZA ((2:Nat):Int)) rfl rfl (qx rfl)).trans (by rw[fH];rfl)
   .rw[wI (hi:=ZA ((2:Nat):Int)) (rz rfl rfl rfl) rfl (qx rfl),fH]
 rw[aw (bM (aE (ar hc rfl) rfl) rfl)];rw[aw (bM (aE rfl (qG _ (Ey g.c))) rfl)];have hl:d6 (iS (o2 aU (vr 0) (cn (.int 1)))) [ZB,ZA 2] (gN 0) (qP (tb (o2 sh (o2 aU (vr 0) (cn (.int 0))) (vr 1))) (tb (o2 sh (o2 aU (vr 0) (cn (.int 1))) (vr 1)))) (vr 0) [.va (RR cs ls),.va (.tup (om cs)),.va (.lst (fP 0 (om cs)))]=.ok (.lst (ls2 cs ls)):=by
  refine(l8 (J3 (rz rfl rfl rfl)) (by have:=g.n;unfold ZI;omega) (by simp) λt ht=>?_).trans (by rw[RH]);obtain⟨a,b,x,y,rfl,hd,h1,h2,hn⟩:=ez (g.l t ht);refine⟨?_,λ_=>rfl⟩;have c1:tb (o2 sh (o2 aU (vr 0) (cn (.int 0))) (vr 1)) [.va (.tup [a,b,x,y]),.va (.lst (fP 0 (om cs)))]=.ok (fU a (fP 0 (om cs))):=bx (ay (rz rfl rfl rfl) rfl (HK h1 λu hu=>nR hu));have c2:tb (o2 sh (o2 aU (vr 0) (cn (.int 1))) (vr 1)) [.va (.tup [a,b,x,y]),.va (.lst (fP 0 (om cs)))]=.ok (fU b (fP 0 (om cs))):=bx (ay (rz rfl rfl rfl) rfl (HK h2 λu hu=>nR hu));show(qP _ _ _)=.ok (fU a (fP 0 (om cs))&&fU b (fP 0 (om cs)));cases hq:fU a (fP 0 (om cs))with
  |true=>rw[hq]at c1;exact yC c1 c2
  |false=>rw[hq]at c1;exact DM c1
 exact bB (dy (ar rfl (ar (aE (ar hl rfl) rfl) rfl)) (aB (k:=2) (by simp)))
variable{g:T->En->Rs En}
theorem Di{F:Y1}(J:Nat->En->Prop):∀(ts:List T)(n:Nat)(Z:En),(∀i t,ts[i]?=ZA t->∀Z,J (n+i) Z->∃Z1 Z2,g t Z=.ok Z1/\F Z1=.ok (.nx Z2)/\J (n+i+1) Z2)->J n Z->∃Z',bD g F ts Z=.ok (.nx Z')/\J (n+ts.length) Z'
 |[],n,Z,_,hj=>⟨Z,rfl,hj⟩
 |t::ts,n,Z,h,hj=>by
  obtain⟨Z1,Z2,a,b,c⟩:=h 0 t rfl Z hj;obtain⟨Z',e,j⟩:=Di J ts (n+1) Z2 (λi u hu Z hr=>by have:=h (i+1) u (by simpa using hu) Z (by rw[show n+(i+1)=n+1+i by omega];exact hr);rwa [show n+(i+1)+1=n+1+i+1 by omega]at this) c
  refine⟨Z',by rw[dM a b];exact e,?_⟩;rw[Ol,show n+(ts.length+1)=n+1+ts.length by omega];exact j
def uF{fi:Y0}{F H:Y1}{ts:List T}{x:Rs Fl}(J:Nat->En->Prop)(hi:fi Z=.ok ts)(h:∀i t,ts[i]?=ZA t->∀Z,J i Z->∃Z1 Z2,g t Z=.ok Z1/\F Z1=.ok (.nx Z2)/\J (i+1) Z2)(hj:J 0 Z)(k:∀Z',J ts.length Z'->H Z'=x):aD (d7 fi g F) H Z=x:=by
 obtain⟨Z',e,j⟩:=Di J ts 0 Z (λi t ht Z hr=>by rw[Sa]at hr ⊢;exact h i t ht Z hr) hj
 rw[Sa]at j;exact(aw (fT hi e)).trans (k Z' j)
def JB(o:Option Int):(oI o).dep<=0:=by cases o <;> simp[oI,T.dep]
def Hy(o:Option Int):(oI o).nd=ZC:=by cases o <;> rfl
def xW(P:List N2)(f:dE N2)(u:N2):T:=.dct (P.map en) (P.map λv=>oI (f u v))
def xV(P:List N2)(f g:dE N2)(u:N2):zl (xW P f u) (xW P g u)=ZA (beqTs (P.map λv=>oI (f u v)) (P.map λv=>oI (g u v))):=by unfold zl xW;dsimp only;rw[if_pos ⟨rfl,by simp,OJ (gd λt ht=>by obtain⟨v,_,rfl⟩:=Os.mp ht;exact JB _) (by decide),ly λt ht=>by obtain⟨v,_,rfl⟩:=Os.mp ht;exact Hy _,ly λt ht=>by obtain⟨v,_,rfl⟩:=Os.mp ht;exact Hy _⟩]
theorem zk(P:List N2)(f g:dE N2):∀Q:List N2,jJ (Q.map (xW P f)) (Q.map (xW P g))=ZA (beqTs (Q.map λu=>.tup (P.map λv=>oI (f u v))) (Q.map λu=>.tup (P.map λv=>oI (g u v))))
 |[] =>rfl
 |u::Q=>by rw[Od,Od,jJ,xV,zk P f g Q];rfl
def GH(P:List N2)(f g:dE N2):Bf (nW P f) (nW P g)=.ok (.bl (aS (jC P f) (jC P g))):=by show(if (P.map en).map keyOf=(P.map en).map keyOf then match jJ (P.map (xW P f)) (P.map (xW P g))with|some b=>Rs.ok (T.bl b)|none=>.bad else .bad)=_;rw[if_pos rfl,zk];rfl
def qV(P:List N2)(L:bS N2):T:=by classical exact if NoNeg L then nW P (table P L)else .non
section
variable {f g:dE N2}
def E6(n:NoNeg L):qV P L=nW P (table P L):=by unfold qV;rw[if_pos n]
def KR(n:¬ NoNeg L):qV P L=.non:=by unfold qV;rw[if_neg n]
def ltab(nd:P.Nodup)(pl:P.length<=16)(he:∀x∈L,x.1∈P/\x.2.1∈P):bO [eS P,eL L]=.ok (qV P L):=by
 obtain⟨t,h,e⟩:=GJ nd (by omega) he;rw[e];rcases h with⟨n,_,rfl⟩|⟨n,rfl⟩
 .rw[E6 n]
 .rw[KR n]
def Af(he:∀x∈L,x.1∈P/\x.2.1∈P)(he2:∀x∈M,x.1∈P/\x.2.1∈P)(n:NoNeg L)(m:NoNeg M):Bf (qV P L) (qV P M)=.ok (.bl (AB P L M)):=by rw[E6 n,E6 m,GH];congr 2;exact Pf.mpr ((Ao P _ _).trans ((ze he he2 n m (eO he n) (eO he2 m)).symm.trans smB_iff.symm))
def wc(P:List N2)(L:bS N2):∃b,fS (qV P L) .non=.ok (.bl b)/\ji (qV P L) .non=.ok (.bl (!b))/\(b=ZC↔NoNeg L):=by
 by_cases n:NoNeg L
 .rw[E6 n];exact⟨ZC,rfl,rfl,λ_=>n,λ_=>rfl⟩
 .rw[KR n];exact⟨ZD,rfl,rfl,(λh=>by cases h),λh=>absurd h n⟩
def Rd.Nd(R:Rd cs ls L P):bf [.tup cs]=.ok (eS P):=by rw[qG cs R.g.c,R.e];rfl
def Rd.Na(R:Rd cs ls L P):bV [RR cs ls]=.ok (eL L):=by rw[Bh R.g.c R.g.l R.g.n,R.b];rfl
theorem Rd.ltab(R:Rd cs ls L P):bO [eS P,eL L]=.ok (qV P L):=G.ltab R.nd R.pl R.f.ends
def Ms(l:List T)(k:Nat):l.take k++l.drop (k+1)=l.eraseIdx k:=(List.eraseIdx_eq_take_drop_succ l k).symm
def Mb{f g:Y2}(h8:ls.length<=8)(hf:f Z=.ok (RR cs ls))(hg:g Z=.ok (.int (k:Nat))):aP (ae (o2 aU f (cn (.int 0))) (ae (o2 aV (sl (o2 aU f (cn (.int 1))) pN (pS g)) (sl (o2 aU f (cn (.int 1))) (pS (o2 aV g (cn (.int 1)))) pN)) aj)) Z=.ok (RR cs (ls.eraseIdx k)):=by
 have i1:o2 aU f (cn (.int 1)) Z=.ok (.tup ls):=ay hf rfl (gu rfl);refine p2 (ay hf rfl (gu rfl)) (ay (t:=.tup (ls.take k)) (u:=.tup (ls.drop (k+1))) ?_ ?_ ?_)
 .rw[wI i1 rfl (qx hg),fH]
 .rw[wI (lo:=ZA ((k+1:Nat):Int)) i1 (qx (ay hg rfl rfl)) rfl,mw]
 .rw[uY _ _ (by rw[On,Pr,QL];omega),Ms]
def JG(R:Rd cs ls L P)(k:Nat):AB P (lim cs (ls.eraseIdx k)) L=lz P cs ls k:=by refine Pf.mpr (smB_iff.trans (Iff.trans ?_ ndl_iff.symm));unfold key;rw[R.M8]
def Be(p:Nat->Bool)(i:Nat):((Oo (i+1)).filter p).map nI=((Oo i).filter p).map nI++(if p i then [nI i]else []):=by rw[Tf,List.filter_append,PH];congr 1;cases q:p i <;> simp[q]
def J9(b:Bool):wM [.bl b]=.ok (.int (if b then 1 else 0)):=by cases b <;> rfl
def Rd.NH(R:Rd cs ls L P)(n:NoNeg L):de [RR cs ls]=.ok (lN ((Oo ls.length).filter (lz P cs ls))):=by
 have h8:=R.g.n;refine aZ rfl ?_;show gA [.va (RR cs ls),.em,.em,.em,.em,.em]=_;unfold gA;refine(aw (bM (aE (ar (ay rfl rfl (gu rfl)) rfl) R.Nd) rfl)).trans ?_;refine(aw (bM (aE (ar rfl (ar (aE rfl R.Na) rfl)) R.ltab) rfl)).trans ?_;refine(aw (bM rfl rfl)).trans ?_;refine uF (λi Z=>∃s4 s5,Z=[.va (RR cs ls),.va (eS P),.va (qV P L),.va (lN ((Oo i).filter (lz P cs ls))),s4,s5]) (ts:=(Oo ls.length).map nI) ((HM (ar (oy (ay rfl rfl (gu rfl))) rfl) (by omega) (by omega)).trans (by rw[i8];rfl)) ?_ ⟨_,_,rfl⟩ ?_
 .intro i t ht Z hr;obtain⟨s4,s5,rfl⟩:=hr;have hi:i<ls.length:=by have:=(Oj.mp ht).1;simpa using this
  obtain rfl:t=nI i:=by rw[Ox,Qt hi]at ht;exact(OQ ht).symm
  have S:=R.sub uL (OJ (yH i) h8);have m:NoNeg (lim cs (ls.eraseIdx i)):=n.mono λx hx=>by have:=zM uL x hx;rwa [R.M8]at this
  have eqd:=Af S.f.ends R.f.ends m n;rw[JG R i]at eqd;refine⟨_,[.va (RR cs ls),.va (eS P),.va (qV P L),.va (lN ((Oo (i+1)).filter (lz P cs ls))),.va (nI i),.va (RR cs (ls.eraseIdx i))],rfl,?_,_,_,rfl⟩;refine(aw (bM (Mb h8 rfl rfl) rfl)).trans ?_;refine bM (ay rfl (ay (jS rfl (aB (k:=1) (by simp))) (aE (ar (ay (aE (ar rfl (ar (aE rfl S.Na) rfl)) S.ltab) rfl eqd) rfl) (J9 _)) (mul_one _ _)) ?_) rfl;unfold lN;rw[Be];refine oO _ _ ?_;rw[On,Oc];have h1:=Q9 (lz P cs ls) (Oo i);rw[OV]at h1;split <;> simp <;> omega
 .intro Z hr;obtain⟨s4,s5,rfl⟩:=hr;rw[Oc,OV];exact bB rfl
def Rd.N3(R:Rd cs ls L P)(hl:∀k∈l,k<ls.length)(h8:l.length<=8):gY [RR cs ls,lN l]=.ok (.bl (nn cs ls l)):=by
 have S:=R.sub (CJ hl) (by unfold pk;rw[Oc];exact h8);refine aZ rfl ?_;show lG [.va (RR cs ls),.va (lN l),.em]=_;unfold lG;have hc:d6 (iS (vr 1)) [ZB,ZA 0] (gN 0) bT (o2 aU (o2 aU (vr 1) (cn (.int 1))) (vr 0)) [.va (RR cs ls),.va (lN l),.em]=.ok (.lst (pk ls l)):=by
  refine(m7 (h:=λt=>ls.getD (jV t) .non) (ir rfl) (aB (by rw[Oc];exact h8)) (by simp) λt ht=>?_).trans ?_
  .obtain⟨k,hk,rfl⟩:=Os.mp ht;rw[eQ];exact ay (ay rfl rfl (gu rfl)) rfl (gu (by rw[O6,Og (hl k hk)];rfl))
  .rw[ON];congr 2
 refine(aw (bM (p2 (ay rfl rfl (gu rfl)) (aE (ar hc rfl) rfl)) rfl)).trans ?_;obtain⟨b,e1,_,i⟩:=wc P (lim cs (pk ls l));refine(bB (ay (aE (ar (aE (ar (ay rfl rfl (gu rfl)) rfl) R.Nd) (ar (aE rfl S.Na) rfl)) S.ltab) rfl e1)).trans ?_;congr 3;exact Pf.mpr (i.trans nn_iff.symm)
def GN:∀n≤4,gp [.int (n:Nat)]=.ok (.lst ((gx n).map lN)):=by
 intro n hn
 match n,hn with
 |0,_=>rfl
 |1,_=>rfl
 |2,_=>rfl
 |3,_=>rfl
 |4,_=>rfl
end
def AU{n:Int}{t:T}(ht:t.pl=ZC)(h:aX t 0 (n - 1)=ZD):eG [.int n,t]=.err "NoNumber":=by refine fA rfl ?_;show eU [.va (.int n),.va t]=_;unfold eU;exact(dA (dX (k:=ZD) (bx (aE rfl (by rw[fG _ _ _ ht,h]))))).trans rfl
variable{c:Str}
def DL{fs:Y0}{t:T}(h:f Z=.ok t)(hs:fs Z=.err c):ae f fs Z=.err c:=by unfold ae;rw[h,hs];rfl
variable{g:List T->Rs T}
section
variable {t u:T}
def qO(hp:t.pl=ZC)(h:gv t=ZD):eJ [t]=.err "NoRecord":=by refine fA rfl ?_;show kf [.va t,.em,.em,.em,.em]=_;unfold kf;exact jg (sf (aE rfl (rX hp h)))
def xf(hp:t.pl=ZC)(h:gv t=ZD):aM [t]=.err "NoRecord" :=
 fA rfl (uD (L5 (aE rfl (fA rfl (uD (Mc (DL rfl (Gx (aE rfl (qO hp h))))))))))
def sQ(hp:t.pl=ZC)(h:gv t=ZD):bH [t]=.err "NoRecord":=by refine fA rfl ?_;show dF [.va t]=_;unfold dF;exact DI (J1 (HI (aE rfl (xf hp h))))
def EC(h:bH [t]=.err c):bA [t]=.err c/\b9 [t]=.err c:=by
 constructor
 .refine fA rfl ?_;show cX [.va t,.em]=_;unfold cX;exact jg (sf (aE rfl h))
 .refine fA rfl ?_;show dG [.va t,.em,.em,.em]=_;unfold dG;exact jg (sf (aE rfl h))
def MB(hp:t.pl=ZC)(h:gv t=ZD):dR [t]=.err "NoRecord":=by refine fA rfl ?_;show gw [.va t,.em,.em]=_;unfold gw;exact jg (sf (aE rfl (rX hp h)))
def MA(hp:t.pl=ZC)(h:gv t=ZD):ff [t]=.err "NoRecord":=by refine fA rfl ?_;show hV [.va t,.em]=_;unfold hV;exact jg (DI (HI (aE rfl (xf hp h))))
def Mz(hp:t.pl=ZC)(h:gv t=ZD):cp [t,u]=.err "NoRecord":=by refine fA rfl ?_;show cq [.va t,.va u,.em,.em,.em]=_;unfold cq;exact jg (Md (aE rfl (qO hp h)))
def mI(hi:i<4)(hm:[bA,b9,dR,ff][i]?=ZA g)(e:g [t]=.ok x):aY [.int (i:Nat),t,u]=.ok x:=by refine aZ rfl ?_;show dk [.va (.int (i:Nat)),.va t,.va u,.em]=_;unfold dk;exact HH (fB ((dA (bx (ay rfl rfl (show Rs.ok (T.bl (decide ((i:Int)<4)))=_ by rw[decide_eq_true (by omega)])))).trans (bB (DD rfl hm rfl e))))
def mJ(hi:i<4)(hm:[bA,b9,dR,ff][i]?=ZA g)(e:g [t]=.err c)(hr:ng c=.ok x):aY [.int (i:Nat),t,u]=.ok x:=by refine aZ rfl ?_;show dk [.va (.int (i:Nat)),.va t,.va u,.em]=_;unfold dk;exact DA (jg ((dA (bx (ay rfl rfl (show Rs.ok (T.bl (decide ((i:Int)<4)))=_ by rw[decide_eq_true (by omega)])))).trans (uD (DD rfl hm rfl e)))) hr
def Ie(e:cp [t,u]=.ok x):aY [.int 4,t,u]=.ok x:=by refine aZ rfl ?_;show dk [.va (.int 4),.va t,.va u,.em]=_;unfold dk;exact HH ((aw ((dt (bx (ay rfl rfl rfl))).trans rfl)).trans (bB (aE rfl e)))
def sY(e:cp [t,u]=.err c)(hr:ng c=.ok x):aY [.int 4,t,u]=.ok x:=by refine aZ rfl ?_;show dk [.va (.int 4),.va t,.va u,.em]=_;unfold dk;exact DA ((aw ((dt (bx (ay rfl rfl rfl))).trans rfl)).trans (uD (aE rfl e))) hr
def r3:ng "NoWorld" =.ok (cM 3):=by unfold ng;rw[if_neg (by decide),if_neg (by decide),if_neg (by decide),if_pos rfl]
end
section
variable {f g:dE N2}
def Rd.Nq(R:Rd cs ls L P)(n:¬ NoNeg L):bH [RR cs ls]=.err "NoWorld":=by
 obtain⟨hw,e,i⟩:=R.NA;cases hw with
 |true=>exact absurd (i.mp rfl) n
 |false=>
  refine fA rfl ?_;show dF [.va (RR cs ls)]=_;unfold dF;exact(dA (dX (bx (aE rfl e)))).trans rfl
def Rd.odd(R:Rd cs ls L P){t:T}(ht:t.pl=ZC)(h:aX t 0 ((L.length:Int) - 1)=ZD):cp [RR cs ls,t]=.err "NoNumber":=by refine fA rfl ?_;show cq [.va (RR cs ls),.va t,.em,.em,.em]=_;unfold cq;rw[aw (bM (aE rfl R.bounds) rfl)];exact jg (sf (aE (ar (qm L rfl) rfl) (AU ht h)))
def Rd.NU(R:Rd cs ls L P)(n:¬ NoNeg L)(hk:k<L.length):cp [RR cs ls,.int (k:Nat)]=.err "NoWorld":=by
 refine fA rfl ?_;show cq [.va (RR cs ls),.va (.int (k:Nat)),.em,.em,.em]=_;unfold cq;rw[aw (bM (aE rfl R.bounds) rfl)];have w1:aX (.int (k:Nat)) 0 ((L.length:Int) - 1)=ZC:=by unfold aX;simp;omega
 rw[aw (uG (aE (ar (qm L rfl) rfl) (wo rfl w1)))];exact jg (sf (aE rfl (R.Nq n)))
noncomputable abbrev jD(L:bS N2)(k:Nat):bS N2:=L.take k++L.drop (k+1)
def kl:∀x∈jD L k,x∈L:=λx hx=>(OS.mp hx).elim Qo U9
def CY{y:N2×N2×Int}(e:L[k]?=ZA y):∀x∈L,x=y\/x∈jD L k:=λx hx=>by
 obtain⟨hk,e⟩:=Oj.mp e;have:L=L.take k++(y::L.drop (k+1)):=by rw[<-e,List.getElem_cons_drop,SO]
 rw[this]at hx;rcases OS.mp hx with h|h
 .exact .inr (O9 _ h)
 .rcases Oh.mp h with h|h
  .exact .inl h
  .exact .inr (OL _ h)
def EH(ll:L.length<=60)(k:Nat):aV (.lst ((L.take k).map eB)) (.lst ((L.drop (k+1)).map eB))=.ok (eL (jD L k)):=by rw[oO _ _ (by rw[On,Oc,Oc,Pr,QL];omega),<-PH];rfl
def Ig(he:∀x∈L,x.1∈P/\x.2.1∈P)(n:NoNeg L){a b:N2}(e:L[k]?=ZA (a,b,m)):Ay P (jD L k)=Ay P L↔ ∃d,Wk (jD L k) a b d/\d<=m:=by
 have he':∀x∈jD L k,x.1∈P/\x.2.1∈P:=λx hx=>he x (kl x hx);have n':NoNeg (jD L k):=n.mono kl;have F:=eO he n;have F':=eO he' n';have mem:(a,b,m)∈L:=Pz e;have hab:=he _ mem;constructor
 .intro z;have q:=(ze he' he n' n F' F).mp z a hab.1 b hab.2;obtain⟨d,e1,e2⟩:=F.le a hab.1 b m (Wk.one mem);rw[<-q]at e1;exact⟨d,F'.is a b d e1,e2⟩
 .rintro ⟨d,w,hd⟩;have G':Least L P (table P (jD L k)):=A1 F' (λx hx=>(he' x hx).1) (λx hx=>⟨(he x hx).1,by
   rcases CY e x hx with rfl|hx'
   .obtain⟨d',e1,e2⟩:=F'.le a hab.1 b d w;exact⟨d',e1,by show d'<=m;omega⟩
   .exact F'.le x.1 (he x hx).1 x.2.1 x.2.2 (Wk.one hx')⟩) λx hx=>⟨x.2.2,Qb _,kl x hx⟩
  exact(ze he' he n' n F' G').mpr λu _ v _=>rfl
def Rd.NB(R:Rd cs ls L P)(n:NoNeg L)(hk:k<L.length):cp [RR cs ls,.int (k:Nat)]=.ok (.bl (AB P (jD L k) L)):=by
 obtain⟨⟨a,b,m⟩,e⟩:∃y,L[k]?=ZA y:=⟨_,Og hk⟩;have ll:=R.ll;have ha:a∈P:=(R.f.ends _ (Pz e)).1;have to:=Ig R.f.ends n e;obtain⟨r,hr,ok⟩:=qF (S:=[a]) (R.NT k) (by simp) (λv h=>by rw[OF.mp h];exact ha);cases r with
 |inr q=>exact absurd (n.mono kl) (Bar.neg ok)
 |inl bb=>
  obtain⟨ms,D,hr⟩:=hr;have ok:Settled (jD L k) [a] bb:=ok;refine aZ rfl ?_;show cq [.va (RR cs ls),.va (.int (k:Nat)),.em,.em,.em]=_;unfold cq;rw[aw (bM (aE rfl R.bounds) rfl)];have w1:aX (.int (k:Nat)) 0 ((L.length:Int) - 1)=ZC:=by unfold aX;simp;omega
  rw[aw (uG (aE (ar (qm L rfl) rfl) (wo rfl w1)))];rw[aw (uG (aE rfl (R.Np n)))];rw[aw (Z':=[.va (RR cs ls),.va (.int (k:Nat)),.va (eL L),.va (eB (a,b,m)),.em]) (bM (MD rfl rfl e) rfl)];have c1:sl (vr 2) pN (pS (vr 1)) [.va (RR cs ls),.va (.int (k:Nat)),.va (eL L),.va (eB (a,b,m)),.em]=.ok (.lst ((L.take k).map eB)):=by rw[wH rfl rfl (qx rfl),fH,S6]
  have c2:sl (vr 2) (pS (o2 aV (vr 1) (cn (.int 1)))) pN [.va (RR cs ls),.va (.int (k:Nat)),.va (eL L),.va (eB (a,b,m)),.em]=.ok (.lst ((L.drop (k+1)).map eB)):=by rw[wH (lo:=ZA ((k+1:Nat):Int)) rfl (qx (ay rfl rfl rfl)) rfl,mw,VL]
  rw[aw (bM (ay (aE (ar (ay c1 c2 (EH ll k)) (ar (jS (ar (ay rfl rfl rfl) rfl) (aB (k:=1) (by simp))) rfl)) hr) rfl rfl) rfl)];have i1:o2 aU (vr 3) (cn (.int 1)) [.va (RR cs ls),.va (.int (k:Nat)),.va (eL L),.va (eB (a,b,m)),.va (.dct (ms.map en) (dV ms bb))]=.ok (en b):=ay rfl rfl rfl;have fin:∀c:Bool,(c=ZC↔ ∃d,Wk (jD L k) a b d/\d<=m)->c=AB P (jD L k) L:=λc h=>Pf.mpr (h.trans (to.symm.trans smB_iff.symm));refine bB ?_;cases eb:bb b with
  |none=>
   rw[<-fin ZD ⟨λz=>(by cases z),λ⟨d,w,_⟩=>by obtain⟨d',w',e',_⟩:=ok.least a (by simp) b d w;rw[eb]at e';cases e'⟩]
   exact md (ay i1 rfl (by rw[yM D b,eb];rfl))
  |some y=>
   obtain⟨d',w⟩:=y;rw[<-fin (decide (d'<=m)) ⟨λz=>?_,λ⟨d,w2,hd⟩=>decide_eq_true ?_⟩]
   .exact(jh (ay i1 rfl (by rw[yM D b,eb];rfl))).trans (ay (ay (ay rfl i1 (yK D eb)) rfl rfl) (ay rfl rfl rfl) rfl)
   .obtain⟨s,hs,hc,hcost,_⟩:=ok.walk b d' w eb;rw[OF.mp hs]at hc;exact⟨d',by rw[<-hcost];exact hc.wk,of_decide_eq_true z⟩
   .obtain⟨d2,w',e',h2⟩:=ok.least a (by simp) b d w2;rw[eb]at e';cases e';omega
end
def vO(P:List N2)(cs:List T):Nat->List T->List T
 |0,cur=>cur
 |m+1,cur=>vO P cs m (if lz P cs cur m=ZC then cur.eraseIdx m else cur)
structure Ri (P:List N2)(cs ls:List T)(m:Nat)(cur:List T):Prop where
 sub:∀u∈cur,u∈ls
 len:cur.length<=ls.length
 ge:m<=cur.length
 same:key P cs cur=key P cs ls
 fin:vO P cs m cur=vO P cs ls.length ls
variable{cur:List T}{m:Nat}
section
variable {f g:dE N2}
def Ri.start:Ri P cs ls ls.length ls:=⟨λ_ h=>h,Ou _,Ou _,rfl,rfl⟩
def Ri.next(I:Ri P cs ls (m+1) cur):Ri P cs ls m (if lz P cs cur m=ZC then cur.eraseIdx m else cur):=by
 have hf:vO P cs m (if lz P cs cur m=ZC then cur.eraseIdx m else cur)=vO P cs ls.length ls:=I.fin;have hg:=I.ge;cases q:lz P cs cur m with
 |true=>
  rw[q]at hf;rw[if_pos rfl]at hf ⊢;exact⟨λu hu=>I.sub u (uL u hu),OJ (yH m) I.len,by rw[List.length_eraseIdx];split <;> omega,(ndl_iff.mp q).trans I.same,hf⟩
 |false=>
  rw[q]at hf;rw[if_neg (by decide)]at hf ⊢;exact⟨I.sub,I.len,by omega,I.same,hf⟩
def Rd.Nz(R:Rd cs ls L P)(I:Ri P cs ls (m+1) cur):ck [RR cs (cur.eraseIdx m),RR cs ls]=.ok (.bl (lz P cs cur m)):=by have h8:=R.g.n;have hl:=I.len;have S:=R.sub I.sub (by omega);obtain⟨b,e,i⟩:=R.NJ (S.ger m) R.g;rw[e];congr 2;exact Pf.mpr (i.trans (Iff.trans (by rw[I.same]) ndl_iff.symm))
def Ai{t:T}(ht:((Oo n).map λ(k:Nat)=>T.int ((n:Int) - 1 - (k:Int)))[i]?=ZA t):∃m,n - i=m+1/\n - (i+1)=m/\t=nI m:=by
 have hi:i<n:=by have:=(Oj.mp ht).1;simpa using this
 rw[Ox,Qt hi]at ht;refine⟨n - i - 1,by omega,by omega,?_⟩;rw[<-OQ ht];show T.int _=T.int _;congr 1;omega
def Rd.Nv(R:Rd cs ls L P)(n:NoNeg L):b9 [RR cs ls]=.ok (RR cs (vO P cs ls.length ls)):=by
 refine aZ rfl ?_;show dG [.va (RR cs ls),.em,.em,.em]=_;unfold dG;rw[aw (uG (aE rfl (R.Np n)))];rw[aw (bM rfl rfl)];have h8:=R.g.n;have hr:Mi (ae (o2 fM (cl cz (ae (o2 aU (vr 0) (cn (.int 1))) aj)) (cn (.int 1))) (ae (o1 kQ (cn (.int 1))) (ae (o1 kQ (cn (.int 1))) aj))) [.va (RR cs ls),.va (RR cs ls),.em,.em]=.ok ((Oo ls.length).map λ(k:Nat)=>T.int ((ls.length:Int) - 1 - (k:Int))):=by
  unfold Mi;rw[ar (ay (oy (ay rfl rfl (gu rfl))) rfl rfl) (ar (t:=.int (-1)) (Gu (t:=.int 1) rfl rfl) (ar (t:=.int (-1)) (Gu (t:=.int 1) rfl rfl) rfl)),aH];show(if (mh ((ls.length:Int) - 1)&&mh (-1))=ZC then Rs.ok ((Oo ((ls.length:Int) - 1 - -1).toNat).map λ(k:Nat)=>T.int ((ls.length:Int) - 1 - (k:Int)))else .bad)=_;have e62:mh ((ls.length:Int) - 1)=ZC:=by unfold mh;rw[Oa];exact⟨decide_eq_true (by omega),decide_eq_true (by omega)⟩
  rw[if_pos (by rw[e62];rfl),show((ls.length:Int) - 1 - -1).toNat=ls.length by omega]
 refine uF (λi Z=>∃cur s2 s3,Ri P cs ls (ls.length - i) cur/\Z=[.va (RR cs ls),.va (RR cs cur),s2,s3]) hr ?_ ⟨ls,_,_,Ri.start,rfl⟩ ?_
 .intro i t ht Z hh;obtain⟨cur,s2,s3,I,rfl⟩:=hh;obtain⟨m,e1,e2,rfl⟩:=Ai ht;rw[e1]at I;rw[e2];have hc:cur.length<=8:=by have:=I.len;omega
  have st:=Ej hc m (f:=vr 1) (g:=vr 2) (Z:=[.va (RR cs ls),.va (RR cs cur),.va (nI m),s3]) rfl rfl (cl bL (ae (vr 1) aj)) (aE rfl (Ah hc));have es:=R.Nz I;have nx:=I.next;refine⟨_,[.va (RR cs ls),.va (RR cs (if lz P cs cur m=ZC then cur.eraseIdx m else cur)),.va (nI m),.va (RR cs (cur.eraseIdx m))],rfl,?_,_,_,_,nx,rfl⟩
  refine(aw (bM st rfl)).trans ?_;cases q:lz P cs cur m with
  |true=>
   rw[q]at es;exact(dA (bx (aE rfl es))).trans rfl
  |false=>
   rw[q]at es;exact(dt (bx (aE rfl es))).trans rfl
 .intro Z hh;obtain⟨cur,s2,s3,I,rfl⟩:=hh;rw[Oc,OV,SK]at I;rw[<-I.fin];exact bB rfl
end
theorem HC:∀(l:List (List Int))(b:List Int),gD b l∈b::l/\∀x∈b::l,cO x (gD b l)=ZD
 |[],b=>⟨Of,λx h=>by rw[OF.mp h];exact iW b⟩
 |k::l,b=>by
  unfold gD;obtain⟨h1,h2⟩:=HC l (if cO k b=ZC then k else b);have h3:=h2 _ Of;cases q:cO k b with
  |true=>
   rw[q,if_pos rfl]at h1 h2 h3;rw[if_pos rfl];refine⟨N9 _ h1,λx hx=>?_⟩;obtain rfl|hx:=Oh.mp hx
   .cases z:cO x (gD k l)with
    |false=>rfl
    |true=>rw[l6 _ _ _ q z]at h3;cases h3
   .exact h2 x hx
  |false=>
   rw[q,if_neg (by decide)]at h1 h2 h3;rw[if_neg (by decide)];refine⟨(Oh.mp h1).elim (λh=>by rw[h];exact Of) λh=>N9 _ (N9 _ h),λx hx=>?_⟩;obtain rfl|hx:=Oh.mp hx
   .exact h3
   .obtain rfl|hx:=Oh.mp hx
    .cases z:cO x (gD b l)with
     |false=>rfl
     |true=>
      rcases ql x b _ z with y|y
      .rw[y]at q;cases q
      .rw[y]at h3;cases h3
    .exact h2 x (N9 _ hx)
def JJ{l:List T}{rs:List (List Int)}{x:List Int}(e:jO l=ZA rs)(hx:x∈rs)(h:∀a∈rs,cO a x=ZD):wy [.lst l]=.ok (.lst (x.map .int)):=by
 show(match jO l with|some (k::ks)=>Rs.ok (T.lst ((gD k ks).map .int))|_=>.bad)=_;rw[e];cases rs with
 |nil=>cases hx
 |cons k ks=>
  obtain⟨h1,h2⟩:=HC ks k;show Rs.ok (T.lst ((gD k ks).map .int))=_;rw[jQ _ _ (h _ h1) (h2 _ hx)]
theorem HD:∀(l:List Int)(i:Int),mZ i l∈i::l/\∀a∈i::l,a<=mZ i l
 |[],i=>⟨Of,λa h=>by cases OF.mp h;exact Qb _⟩
 |j::l,i=>by
  unfold mZ;obtain⟨h1,h2⟩:=HD l (if i<j then j else i);have h3:=h2 _ Of;by_cases h:i<j
  .rw[if_pos h]at h1 h2 h3 ⊢;refine⟨N9 _ h1,λa ha=>?_⟩;obtain rfl|ha:=Oh.mp ha
   .omega
   .exact h2 a ha
  .rw[if_neg h]at h1 h2 h3 ⊢;refine⟨(Oh.mp h1).elim (λh=>by rw[h];exact Of) λh=>N9 _ (N9 _ h),λa ha=>?_⟩;obtain rfl|ha:=Oh.mp ha
   .exact h3
   .obtain rfl|ha:=Oh.mp ha
    .omega
    .exact h2 a (N9 _ ha)
def JL{l:List T}{x:Int}(e:gm l=ZA ns)(hx:x∈ns)(h:∀a∈ns,a<=x):Dg [.lst l]=.ok (.int x):=by
 show(match gm l with|some (i::ns)=>Rs.ok (T.int (mZ i ns))|_=>.bad)=_;rw[e];cases ns with
 |nil=>cases hx
 |cons i ns=>
  obtain⟨h1,h2⟩:=HD ns i;show Rs.ok (T.int (mZ i ns))=_;have a1:=h _ h1;have a2:=h2 _ hx;rw[show mZ i ns=x by omega]
def tL:∀n≤4,∀l,l∈gx n↔l∈fN n:=by
 intro n hn l;have k1:∀n≤4,((gx n).all λl=>decide (l∈fN n))=ZC:=by decide
 have k2:∀n≤4,((fN n).all λl=>decide (l∈gx n))=ZC:=by decide
 exact⟨λh=>of_decide_eq_true (OH.mp (k1 n hn) l h),λh=>of_decide_eq_true (OH.mp (k2 n hn) l h)⟩
def Iq:∀n≤4,(fN n).Pairwise λa b=>nN (HL a) (HL b)=ZC:=by decide
def JR{a b:List Nat}(h:nN (HL a) (HL b)=ZC):b.length<=a.length/\(b.length=a.length->cO (b.map λk:Nat=>(k:Int)) (a.map λk:Nat=>(k:Int))=ZD):=by
 unfold nN HL BI at h;rw[TX,cO]at h;rw[Oc,Oc]at h;by_cases e:(-(b.length:Int))= -(a.length:Int)
 .rw[if_pos e]at h;exact⟨by omega,λ_=>h⟩
 .rw[if_neg e]at h;have:=of_decide_eq_false h;exact⟨by omega,λz=>by omega⟩
def lenV:T->T
 |.lst l=>.int (l.length:Nat)
 |t=>t
noncomputable def Mk(k:Nat):T->Bool
 |.lst l=>(l.length:Int) == (k:Int)
 |_=>ZD
section
variable {p:List Nat->Bool}
def z9(hn:n<=4)(hj:(fN n)[j]?=ZA l)(hf:∀i<j,∀m,(fN n)[i]?=ZA m->p m=ZD){m:List Nat}(hm:m∈(gx n).filter p):m.length<=l.length/\(m.length=l.length->cO (m.map λk:Nat=>(k:Int)) (l.map λk:Nat=>(k:Int))=ZD):=by
 obtain⟨h1,h2⟩:=PM.mp hm;obtain⟨i,hi⟩:=S2 ((tL n hn m).mp h1);by_cases q:i<j
 .rw[hf i q m hi]at h2;cases h2
 .by_cases e:i=j
  .subst e;rw[hj]at hi;cases hi;exact⟨Ou _,λ_=>iW _⟩
  .refine JR ?_;obtain⟨a1,a2⟩:=Oj.mp hj;obtain⟨b1,b2⟩:=Oj.mp hi;have:=RW.mp (Iq n hn) j i a1 b1 (by omega);rwa [a2,b2]at this
def Aa(hn:n<=4)(hj:(fN n)[j]?=ZA l)(ht:p l=ZC):l∈(gx n).filter p:=PM.mpr ⟨(tL n hn l).mpr (Pz hj),ht⟩
def DX(hn:n<=4)(hj:(fN n)[j]?=ZA l)(ht:p l=ZC)(hf:∀i<j,∀m,(fN n)[i]?=ZA m->p m=ZD):Dg [.lst (((gx n).filter p).map λm=>T.int (m.length:Nat))]=.ok (nI l.length):=by
 refine JL (ns:=((gx n).filter p).map λm=>(m.length:Int)) ?_ (Os.mpr ⟨l,Aa hn hj ht,rfl⟩) λa ha=>?_
 .have:=km (λk=>(k:Int)) (((gx n).filter p).map PC);rwa [ON,ON]at this
 .obtain⟨m,hm,rfl⟩:=Os.mp ha;have:=(z9 hn hj hf hm).1;omega
def DW(hn:n<=4)(hj:(fN n)[j]?=ZA l)(ht:p l=ZC)(hf:∀i<j,∀m,(fN n)[i]?=ZA m->p m=ZD):wy [.lst ((((gx n).filter p).map lN).filter (Mk l.length))]=.ok (lN l):=by
 rw[Sk];rw[<-Dx l];refine JJ (uz _) (Os.mpr ⟨l,PM.mpr ⟨Aa hn hj ht,?_⟩,rfl⟩) λa ha=>?_
 .show(((l.map nI).length:Int) == (l.length:Int))=ZC;rw[Oc];exact beq_self_eq_true _
 .obtain⟨m,hm,rfl⟩:=Os.mp ha;obtain⟨h1,h2⟩:=PM.mp hm;have h2:(((m.map nI).length:Int) == (l.length:Int))=ZC:=h2;rw[Oc]at h2;exact(z9 hn hj hf h1).2 (by have:=eq_of_beq h2;omega)
end
def Mg(a:List Nat)(gs:List (List Nat)):sh (lN a) (.lst (gs.map lN))=.ok (.bl (decide (a∈gs))):=by
 show(if _ then _ else _)=_;have h1:(T.lst (gs.map lN)).nd=ZC:=by unfold T.nd;exact ly λt ht=>by obtain⟨m,_,rfl⟩:=Os.mp ht;exact T.KB _ (rR m)
 rw[if_pos ⟨.inl (uO a),T.KB _ (rR a),h1⟩];congr 2;show((gs.map lN).any λy=>aS y (lN a))=_;rw[List.any_map];refine Pf.mpr ?_;rw[Rx,decide_eq_true_iff];constructor
 .rintro ⟨m,hm,e⟩;have e:beqTs (m.map nI) (a.map nI)=ZC:=e;rw[uU]at e;rw[<-of_decide_eq_true e];exact hm
 .intro h;refine⟨a,h,?_⟩;show beqTs (a.map nI) (a.map nI)=ZC;rw[uU];exact decide_eq_true rfl
def Mf(k:Nat)(l:List Nat):sh (nI k) (lN l)=.ok (.bl (decide (k∈l))):=by
 show(if _ then _ else _)=_;rw[if_pos ⟨.inl (by simp[nI,T.dep]),rfl,T.KB _ (rR l)⟩];congr 2;show((l.map nI).any λy=>aS y (nI k))=_;rw[List.any_map];refine Pf.mpr ?_;rw[Rx,decide_eq_true_iff];constructor
 .rintro ⟨m,hm,e⟩;have e:aS (nI m) (nI k)=ZC:=e;rw[yR]at e;rw[<-of_decide_eq_true e];exact hm
 .intro h;refine⟨k,h,?_⟩;show aS (nI k) (nI k)=ZC;rw[yR];exact decide_eq_true rfl
noncomputable def cK:List T:=[.tup [.int 1,.int 1,.tup [.int 0,.int 1]],.tup [.int 1,.int 1,.tup [.int 0]]]
noncomputable def yy:T:=.tup [en ⟨1,0⟩,en ⟨0,0⟩,.int 1,.non]
noncomputable def Gq:T:=.tup [en ⟨1,0⟩,en ⟨0,1⟩,.int 2,.non]
noncomputable def PK:List N2:=[⟨0,0⟩,⟨0,1⟩,⟨1,0⟩]
noncomputable def LK:bS N2:=[(⟨0,0⟩,⟨0,1⟩,1),(⟨0,1⟩,⟨0,0⟩,-1),(⟨0,0⟩,⟨1,0⟩,-1),(⟨0,1⟩,⟨1,0⟩,-2)]
def rdK:Rd cK [yy,Gq] LK PK:=⟨⟨rfl,λt ht=>by simp only[Oh,Pe,or_false]at ht;rcases ht with rfl|rfl <;> rfl,by decide,rfl⟩,rfl,rfl,⟨by decide,by decide,by decide,by decide⟩,by decide,by decide,by decide,by unfold big;decide⟩
def noK:NoNeg LK:=Holds.Nx (t:=λv=>v.k - v.c) λa b k hx=>by unfold LK at hx;simp only[Oh,Pe,or_false,Vu]at hx;rcases hx with⟨rfl,rfl,rfl⟩|⟨rfl,rfl,rfl⟩|⟨rfl,rfl,rfl⟩|⟨rfl,rfl,rfl⟩ <;> simp
def tK(ms:List T):List (Option Int):=PK.flatMap λu=>PK.map (table PK (lim cK ms) u)
def L3(h:∀x∈lim cK ms,x∈LK):key PK cK ms=ZA (tK ms):=oS (noK.mono h)
def ndK(h:∀x∈lim cK ms,x∈LK)(h2:∀x∈lim cK (ms.eraseIdx j),x∈LK):lz PK cK ms j=decide (tK (ms.eraseIdx j)=tK ms):=by refine Pf.mpr (ndl_iff.trans ?_);rw[L3 h,L3 h2,Sx,decide_eq_true_iff]
def nd0:lz PK cK [yy,Gq] 0=ZC:=(ndK (by decide) (by decide)).trans (by decide)
def nd1:lz PK cK [yy,Gq] 1=ZC:=(ndK (by decide) (by decide)).trans (by decide)
def nd2:lz PK cK [yy] 0=ZD:=(ndK (by decide) (by decide)).trans (by decide)
def LQ:bA [RR cK [yy,Gq]]=.ok (.lst [.int 0,.int 1]):=by
 rw[rdK.Ng noK];have:(Oo [yy,Gq].length).filter (lz PK cK [yy,Gq])=[0,1]:=by show([0,1]:List Nat).filter _=_;rw[Sj nd0,Sj nd1];rfl
 rw[this];rfl
def JQ:b9 [RR cK [yy,Gq]]=.ok (RR cK [yy]):=by rw[rdK.Nv noK];show Rs.ok (RR cK (vO PK cK 1 (if lz PK cK [yy,Gq] 1=ZC then [yy]else [yy,Gq])))=_;rw[nd1,if_pos rfl];show Rs.ok (RR cK (if lz PK cK [yy] 0=ZC then []else [yy]))=_;rw[nd2];rfl
def GO:dw []=.ok (.bl ZC):=by refine aZ rfl ?_;show fY [.em]=_;unfold fY;refine(aw (bM rfl rfl)).trans (bB ((jh (ay (aE rfl (mI (i:=0) (by omega) rfl LQ)) rfl (mn rfl (by simp[T.dep,deps])))).trans (ay (aE rfl (mI (i:=1) (by omega) rfl JQ)) ?_ (mn rfl (by simp[T.dep,deps,cK,yy,en])))));exact p2 rfl ((wI (hi:=ZA ((1:Nat):Int)) rfl rfl rfl).trans (by rw[fH];rfl))
def oN{l:List T}(h:∀t∈l,t.dep<=n):(T.tup l).dep<=n+1:=by unfold T.dep;have:=gd h;omega
def Bu{c:T}(h:bJ c=ZC):c.dep<=2:=by
 obtain⟨x,y,r,rfl,_⟩:=dZ h;refine oN λt ht=>?_;simp only[Oh,Pe,or_false]at ht;rcases ht with rfl|rfl|rfl
 .simp[T.dep]
 .simp[T.dep]
 .exact oN λt ht=>by obtain⟨i,_,rfl⟩:=Os.mp ht;simp[T.dep]
def yw{t:T}(h:bN cs t=ZC):t.dep<=2:=by
 obtain⟨a,b,x,y,rfl,hd,ha,hb,_⟩:=ez h;obtain⟨m1,m2⟩:=LU h;have:=(HP ha).2;have:=(HP hb).2;have hx:x.dep<=2:=by unfold eZ at hd;rw[Oa]at hd;obtain⟨i,rfl,_⟩:=dq hd.1;simp[T.dep]
 unfold T.dep deps deps deps deps deps;obtain⟨a',b',mo,le,e,_⟩:=jR h;cases e;simp only[T.dep];omega
def Fx(g:Good cs ls):(T.tup cs).dep<=3/\(T.tup ls).dep<=3:=⟨oN λt ht=>Bu ((cj g.c).1 t ht),oN λt ht=>yw (g.l t ht)⟩
def unL:T->List Nat
 |.lst l=>l.map jV
 |_=>[]
def BV(l:List Nat):unL (lN l)=l:=by show(l.map nI).map jV=l;rw[ON,show(jV∘nI)=id from funext eQ,RH]
noncomputable abbrev Ew(ns:List Int)(a1 a2 a3 a4 a5 a6 a7 a8 a9 a10 a11 a12:Sl):En:=[.va (.scr ns),a1,a2,a3,a4,a5,a6,a7,a8,a9,a10,a11,a12]
def Fq(hn:n<=4)(h:l∈gx n):(∀k∈l,k<n)/\l.length<=n:=(zf n hn l ((tL n hn l).mp h)).2
def La(hn:n<=4)(hi:i<n):rm n i∈gx n:=by
 have key:∀n≤4,∀i<n,rm n i∈gx n:=by decide
 exact key n hn i hi
def Cm(n:Nat):((Oo n).map nI).reverse=(Oo n).map λ(k:Nat)=>T.int ((n:Int) - 1 - (k:Int)):=by
 refine R3 (by simp) λi h1 h2=>?_;have hi:i<n:=by simpa using h2
 simp only[U5,Rw,TB,Oc,OV,nI];congr 1;omega
def GD(h:f Z=.ok (nI n))(hn:n<=1000):iR (ae f aj) Z=.ok ((Oo n).map nI):=(HM (ar h rfl) (by omega) (by omega)).trans (by rw[i8];rfl)
def MC{t:T}(ht:((Oo n).map nI)[i]?=ZA t):i<n/\t=nI i:=by
 have hi:i<n:=by have:=(Oj.mp ht).1;simpa using this
 rw[Ox,Qt hi]at ht;exact⟨hi,(OQ ht).symm⟩
def GF(p:List Nat->Bool):∀gs:List (List Nat),((gs.map lN).filter λt=>p (unL t)).map id=(gs.filter p).map lN:=λgs=>by rw[RH,Sk];congr 1;exact TY λl _=>by show p (unL (lN l))=p l;rw[BV]
def Rd.good(R:Rd cs ls L P)(h4:ls.length<=4)(h5:vr 5 Z=.ok (nI ls.length))(hE:∀s,(bU [ZB,ZA 1] Z).set 0 s=[s,.va (RR cs ls)]):d6 (iS (cl gp (ae (vr 5) aj))) [ZB,ZA 1] (gN 0) (tb (cl gY (ae (vr 1) (ae (vr 0) aj)))) (vr 0) Z=.ok (.lst (((gx ls.length).filter (nn cs ls)).map lN)):=by rw[<-GF];refine l8 (ir (aE (ar h5 rfl) (GN _ h4))) (aB (k:=63) (by rw[Oc];have:=pq ls.length h4;omega)) (by simp) λt ht=>?_;obtain⟨l,hl,rfl⟩:=Os.mp ht;obtain⟨h1,h2⟩:=Fq h4 hl;rw[hE,BV];exact⟨bx (aE rfl (R.N3 h1 (by omega))),λ_=>rfl⟩
def lens(hg:gs.length<=63)(h6:vr 6 Z=.ok (.lst (gs.map lN)))(hE:∀s,(bU [ZB] Z).set 0 s=[s]):d6 (iS (vr 6)) [ZB] (gN 0) bT (cl cz (ae (vr 0) aj)) Z=.ok (.lst (gs.map λm=>T.int (m.length:Nat))):=by
 refine(m7 (h:=lenV) (ir h6) (aB (by rw[Oc];exact hg)) (by simp) λt ht=>?_).trans ?_
 .obtain⟨l,hl,rfl⟩:=Os.mp ht;rw[hE];exact aE rfl rfl
 .rw[ON];congr 2;exact OP λl _=>by show T.int ((l.map nI).length:Nat)=_;rw[Oc]
def LV(hg:gs.length<=63)(h6:vr 6 Z=.ok (.lst (gs.map lN)))(hE:∀s,(bU [ZB,ZA 7] Z).set 0 s=[s,.va (nI k)]):d6 (iS (vr 6)) [ZB,ZA 7] (gN 0) (tb (o2 oh (cl cz (ae (vr 0) aj)) (vr 1))) (vr 0) Z=.ok (.lst ((gs.map lN).filter (Mk k))):=by refine(l8 (ir h6) (aB (by rw[Oc];exact hg)) (by simp) λt ht=>?_).trans (by rw[RH]);obtain⟨l,hl,rfl⟩:=Os.mp ht;rw[hE];exact⟨bx (ay (aE rfl rfl) rfl (Ed _ _)),λ_=>rfl⟩
def ME(hn:n<=4)(h5:vr 5 Z=.ok (nI n))(hE:∀s,(bU [ZB,ZA 5,ZA 6] Z).set 0 s=[s,.va (nI n),.va (.lst (gs.map lN))]):d6 (iR (ae (vr 5) aj)) [ZB,ZA 5,ZA 6] (gN 0) (tb (o2 sh (d6 (iR (ae (vr 1) aj)) [ZB,ZA 0] (gN 0) (tb (o2 qf (vr 0) (vr 1))) (vr 0)) (vr 2))) (vr 0) Z=.ok (lN ((Oo n).filter λi=>decide (rm n i∈gs))):=by show _=Rs.ok (T.lst (((Oo n).filter λi=>decide (rm n i∈gs)).map nI));rw[<-iZ];refine l8 (GD h5 (by omega)) (aB (by simpa using hn)) (by simp) λt ht=>?_;obtain⟨k,hk,rfl⟩:=Os.mp ht;rw[hE,eQ];refine⟨bx (ay ?_ rfl (Mg _ _)),λ_=>rfl⟩;show _=Rs.ok (T.lst (((Oo n).filter λi=>i != k).map nI));rw[<-iZ];refine l8 (GD rfl (by omega)) (aB (by simpa using hn)) (by simp) λt ht=>?_;obtain⟨i,hi,rfl⟩:=Os.mp ht;rw[eQ];exact⟨bx (ay rfl rfl (Hz _ _)),λ_=>rfl⟩
def LR(h:L≠ []):qf (eL L) (.lst [])=.ok (.bl ZC):=by obtain⟨x,l,rfl⟩:=List.exists_cons_of_ne_nil h;unfold qf;rw[if_pos (wR (by simp[T.dep,deps]) (by unfold eL T.nd;exact ly λt ht=>by obtain⟨y,_,rfl⟩:=Os.mp ht;rfl) rfl)];rfl
def rec1(cs ls:List T):gv (.tup [.tup cs])=ZD:=rfl
def ref5(hc:(T.tup cs).pl=ZC){o:T}(hE:∀s,(bU [ZB,ZA 1,ZA 9] Z).set 0 s=[s,.va (RR cs ls),.va o]):d6 (iR (ae (cn (.int 5)) aj)) [ZB,ZA 1,ZA 9] (gN 0) bT (cl aY (ae (vr 0) (ae (sl (vr 1) pN (pS (cn (.int 1)))) (ae (vr 2) aj)))) Z=.ok (.lst [cM 0,cM 0,cM 0,cM 0,cM 0]):=by
 refine(m7 (ts:=(Oo 5).map nI) (h:=λ_=>cM 0) (GD rfl (by omega)) (aB (k:=5) (by simp)) (by simp) λt ht=>?_).trans rfl;obtain⟨k,hk,rfl⟩:=Os.mp ht;have hk:=OZ.mp hk;rw[hE];have hp:(T.tup [.tup cs]).pl=ZC:=by rw[gR];exact gy λt ht=>by rw[OF.mp ht];exact hc
 have hr:gv (.tup [.tup cs])=ZD:=rec1 cs [];refine aE (ts:=[nI k,.tup [.tup cs],o]) (ar rfl (ar ((wI (hi:=ZA ((1:Nat):Int)) rfl rfl rfl).trans (by rw[fH];rfl)) rfl)) ?_
 match k,hk with
 |0,_=>exact mJ (by omega) rfl (EC (sQ hp hr)).1 r0
 |1,_=>exact mJ (by omega) rfl (EC (sQ hp hr)).2 r0
 |2,_=>exact mJ (by omega) rfl (MB hp hr) r0
 |3,_=>exact mJ (by omega) rfl (MA hp hr) r0
 |4,_=>exact sY (Mz hp hr) r0
def JH(k:Nat)(hk:k<=5)(j:Nat):cu (.lst [cM j]) (.int (k:Nat))=.ok (.lst (OK k (cM j))):=by
 rw[uv _ _ ⟨by omega,by omega,by rw[PD];exact aB (by simpa using hk)⟩,PD];congr 2;induction k with
 |zero=>rfl
 |succ k ih=>rw[Qa,QR,ih (by omega)];rfl
def Ip(hn:ns.length<=63):fZ [.scr ns]=.ok (.bl ZC):=by
 obtain⟨ds,ms,er,hc,c3,hs,hl,h6⟩:=Kl ns hn 0 6 (by omega);obtain⟨hR,mR⟩:=IC hc hs hl (by omega);have g0:Good ds ms:=⟨hc,λt ht=>(hl t ht).1,by omega,Iy mR⟩;have g1:=xP g0;have esm:=GK g0;generalize om ds=cs at g1 esm;generalize hk:ls2 ds ms=ks at g1 esm;obtain⟨ls,hls⟩:∃ls,ls=ks.take 4:=⟨_,rfl⟩;have g:Good cs ls:=by rw[hls];exact g1.take 4
 have h4:ls.length<=4:=by rw[hls,Pr];omega
 obtain⟨L,P,R⟩:=rQ g;have ll:=R.ll;obtain⟨j,l,a1,a2,a3,a4⟩:=R.kept h4;have n63:((gx ls.length).filter (nn cs ls)).length<=63:=by have:=Q9 (nn cs ls) (gx ls.length);have:=pq ls.length h4;omega
 have nnw:nn cs ls (Oo ls.length)=ZC↔NoNeg L:=by rw[nn_iff,vQ,R.M8]
 have al:((Oo ls.length).filter λi=>decide (rm ls.length i∈(gx ls.length).filter (nn cs ls)))=(Oo ls.length).filter λi=>nn cs ls (rm ls.length i):=TY λi hi=>by refine Pf.mpr ?_;rw[decide_eq_true_iff,PM];exact⟨λh=>h.2,λh=>⟨La h4 (OZ.mp hi),h⟩⟩
 obtain⟨r,ed,d0,d1⟩:=eC ns 80 5 hn (by omega);obtain⟨o,ho,eo⟩:=F1 (l:=[.int (-1),.int (L.length:Nat),.bl ZC,.non,.str "0"]) d0 (by simpa using d1);have oo:o.pl=ZC/\aX o 0 ((L.length:Int) - 1)=ZD:=by
  simp only[Oh,Pe,or_false]at ho;rcases ho with rfl|rfl|rfl|rfl|rfl
  .exact⟨rfl,by unfold aX;simp⟩
  .exact⟨rfl,by unfold aX;simp;omega⟩
  .exact⟨rfl,rfl⟩
  .exact⟨rfl,rfl⟩
  .exact⟨rfl,rfl⟩
 obtain⟨b,_,en0,ib⟩:=wc P L;refine aZ rfl ?_;show iI (Ew ns .em .em .em .em .em .em .em .em .em .em .em .em)=_;unfold iI;refine(aw (bM (aE (ts:=[RR ds ms]) (ar (aE (ts:=[.scr ns,.int 0,.int 6]) rfl er) rfl) esm) rfl)).trans ?_;refine(aw (bM (p2 (ay (t:=RR cs ks) (u:=.int 0) rfl rfl (gu (n:=0) rfl)) ((wI (l:=ks) (lo:=ZB) (hi:=ZA ((4:Nat):Int)) (ay (t:=RR cs ks) (u:=.int 1) rfl rfl (gu (n:=1) rfl)) rfl (qx rfl)).trans (by rw[fH,<-hls]))) rfl)).trans ?_;refine(aw (bM (aE (ts:=[.tup cs]) (ar (ay (t:=RR cs ls) (u:=.int 0) rfl rfl (gu (n:=0) rfl)) rfl) R.Nd) rfl)).trans ?_;refine(aw (bM (aE (ts:=[RR cs ls]) rfl R.Na) rfl)).trans ?_;refine(aw (bM (aE (ts:=[eS P,eL L]) rfl R.ltab) rfl)).trans ?_;refine(aw (bM (oy (l:=ls) (ay (t:=RR cs ls) (u:=.int 1) rfl rfl (gu (n:=1) rfl))) rfl)).trans ?_;refine(aw (bM (R.good h4 rfl λs=>rfl) rfl)).trans ?_;have gmax:=DX h4 a1 a2 a3;have gmin:=DW h4 a1 a2 a3;generalize hgs:(gx ls.length).filter (nn cs ls)=gs at gmax gmin n63 al ⊢;refine(aw (bM (aE (ar (lens n63 rfl λs=>rfl) rfl) gmax) rfl)).trans ?_;refine(aw ((dt (bx (ay (t:=lN l) (u:=lN l) (aE (ts:=[.int 2,RR cs ls,.non]) rfl (mI (i:=2) (by omega) rfl a4)) (aE (ar (LV (k:=l.length) n63 rfl λs=>rfl) rfl) gmin) (kq (rR l) (uO l))))).trans rfl)).trans ?_;refine(aw (bM ((ME h4 rfl λs=>rfl).trans (by rw[al])) rfl)).trans ?_;have e10:∀{Z:En},vr 4 Z=.ok (qV P L)->vr 8 Z=.ok (lN ((Oo ls.length).filter λi=>nn cs ls (rm ls.length i)))->DT (tb (o2 ji (vr 4) (cn .non))) (vr 8) (dz aj) Z=.ok (lN (told cs ls)):=λ{Z} q4 q8=>by
  refine(wK (p:=!b) (bx (ay (t:=qV P L) (u:=.non) q4 rfl en0))).trans ?_;unfold told;cases b with
  |true=>rw[if_neg (by decide),if_pos (nnw.mpr (ib.mp rfl))];rfl
  |false=>rw[if_pos (by decide),q8,if_neg λz=>by have:=ib.mpr (nnw.mp z);cases this]
 refine(aw ((dt (bx (ay (t:=lN (told cs ls)) (u:=lN (told cs ls)) (aE (ts:=[.int 3,RR cs ls,.non]) rfl (mI (i:=3) (by omega) rfl (R.N1 h4))) (e10 rfl rfl) (kq (rR _) (uO _))))).trans rfl)).trans ?_;clear e10 al gmax gmin;generalize lN ((Oo ls.length).filter λi=>nn cs ls (rm ls.length i))=A8;refine(aw (bM (ay (t:=.lst [.int (-1),.int (L.length:Nat),.bl ZC,.non,.str "0"]) (u:=.int r) (jS (ar rfl (ar (qm L rfl) rfl)) (aB (k:=5) (by simp))) (aE (ts:=[.scr ns,.int 80,.int 5]) rfl ed) eo) rfl)).trans ?_;refine(aw ((dt (bx (ay (t:=cM 2) (u:=cM 2) (aE (ts:=[.int 4,RR cs ls,o]) rfl (sY (R.odd oo.1 oo.2) r2)) rfl (Gf 2)))).trans rfl)).trans ?_;refine(aw ((dt (bx (ay (t:=.lst [cM 0,cM 0,cM 0,cM 0,cM 0]) (u:=.lst [cM 0,cM 0,cM 0,cM 0,cM 0]) (ref5 g.parts.1 λs=>rfl) (ay (t:=.lst [cM 0]) (u:=.int ((5:Nat):Int)) rfl rfl (JH 5 (by omega) 0)) (kq rfl (by simp[T.dep,deps,cM]))))).trans rfl)).trans ?_;clear hgs n63;generalize T.lst (gs.map lN)=A6;generalize nI l.length=A7;by_cases n:NoNeg L
 .have hb:b=ZC:=ib.mpr n;subst hb;refine(aw ((dt (bx (ay (t:=qV P L) (u:=.non) rfl rfl en0))).trans rfl)).trans ?_;refine uF (λ_ Z=>∃s,Z=Ew ns (.va (RR cs ls)) (.va (eS P)) (.va (eL L)) (.va (qV P L)) (.va (nI ls.length)) (.va A6) (.va A7) (.va A8) (.va o) .em s .em) (ts:=(Oo L.length).map nI) (GD (qm L rfl) (by omega)) ?_ ⟨_,rfl⟩ ?_
  .intro k t ht Z hr;obtain⟨s,rfl⟩:=hr;obtain⟨hk,rfl⟩:=MC ht;have n':NoNeg (jD L k):=n.mono kl;have he':∀x∈jD L k,x.1∈P/\x.2.1∈P:=λx hx=>R.f.ends x (kl x hx);refine⟨_,_,rfl,?_,.va (nI k),rfl⟩;refine(dt (bx (ay (t:=.bl (AB P (jD L k) L)) (u:=.bl (AB P (jD L k) L)) (aE (ts:=[.int 4,RR cs ls,.int (k:Nat)]) rfl (Ie (R.NB n hk))) (ay (t:=qV P (jD L k)) (u:=qV P L) (aE (ts:=[eS P,eL (jD L k)]) (ar rfl (ar (ay (t:=.lst ((L.take k).map eB)) (u:=.lst ((L.drop (k+1)).map eB)) ?_ ?_ (EH ll k)) rfl)) (ltab R.nd R.pl he')) rfl (Af he' R.f.ends n' n)) (kq rfl (by simp[T.dep]))))).trans rfl
   .rw[wH (l:=L.map eB) (lo:=ZB) (hi:=ZA ((k:Nat):Int)) rfl rfl (qx rfl),fH,S6]
   .rw[wH (l:=L.map eB) (lo:=ZA ((k+1:Nat):Int)) (hi:=ZB) rfl (qx (ay (t:=.int (k:Nat)) (u:=.int 1) rfl rfl rfl)) rfl,mw,VL]
  .intro Z hr;obtain⟨s,rfl⟩:=hr;refine(aw (bM rfl rfl)).trans ?_;refine uF (λi Z=>∃cur s,Ri P cs ls (ls.length - i) cur/\Z=Ew ns (.va (RR cs ls)) (.va (eS P)) (.va (eL L)) (.va (qV P L)) (.va (nI ls.length)) (.va A6) (.va A7) (.va A8) (.va o) .em s (.va (RR cs cur))) (ir (l:=(Oo ls.length).map λ(k:Nat)=>T.int ((ls.length:Int) - 1 - (k:Int))) (Gu (t:=.lst ((Oo ls.length).map nI)) ?_ (by rw[<-Cm];rfl))) ?_ ⟨ls,_,Ri.start,rfl⟩ ?_
   .show lR _ _=_;unfold lR;rw[ar (t:=nI ls.length) rfl rfl,aH];show(if _ then _ else _)=_;rw[if_pos (by rw[z8 (by omega),Ru];exact decide_eq_true (by omega)),i8];rfl
   .intro i t ht Z hr;obtain⟨cur,s,I,rfl⟩:=hr;obtain⟨m,e1,e2,rfl⟩:=Ai ht;rw[e1]at I;rw[e2];have hc8:cur.length<=8:=by have:=I.len;omega
    have S:=R.sub I.sub hc8;have nc:NoNeg (lim cs cur):=n.mono λx hx=>by have:=zM I.sub x hx;rwa [R.M8]at this
    have hin:sh (nI m) (lN ((Oo cur.length).filter (lz P cs cur)))=.ok (.bl (lz P cs cur m)):=by rw[Mf];congr 2;refine Pf.mpr ?_;rw[decide_eq_true_iff,PM,OZ];exact⟨λh=>h.2,λh=>⟨I.ge,h⟩⟩
    refine⟨_,Ew ns (.va (RR cs ls)) (.va (eS P)) (.va (eL L)) (.va (qV P L)) (.va (nI ls.length)) (.va A6) (.va A7) (.va A8) (.va o) .em (.va (nI m)) (.va (RR cs (if lz P cs cur m=ZC then cur.eraseIdx m else cur))),rfl,?_,_,_,I.next,rfl⟩;have tst:∀{Z:En},vr 11 Z=.ok (nI m)->vr 12 Z=.ok (RR cs cur)->tb (o2 sh (vr 11) (cl de (ae (vr 12) aj))) Z=.ok (lz P cs cur m):=λq1 q2=>bx (ay (t:=nI m) q1 (aE (ts:=[RR cs cur]) (ar q2 rfl) (S.NH nc)) hin);cases q:lz P cs cur m with
    |true=>
     rw[q]at tst;exact(dA (tst rfl rfl)).trans (bM (Mb (k:=m) hc8 rfl rfl) rfl)
    |false=>
     rw[q]at tst;exact(dt (tst rfl rfl)).trans rfl
   .intro Z hr;obtain⟨cur,s,I,rfl⟩:=hr;rw[Oc,OV,SK]at I;have ec:cur=vO P cs ls.length ls:=I.fin;have gc:Good cs cur:=R.g.sub I.sub (by have:=I.len;omega);have dc:(RR cs cur).dep<=60:=by
     have:=Fx gc;unfold T.dep;have:deps [.tup cs,.tup cur]<=3:=gd λt ht=>by
      simp only[Oh,Pe,or_false]at ht;rcases ht with rfl|rfl
      .exact this.1
      .exact this.2
     omega
    refine bB ((jh (ay (t:=lN ((Oo ls.length).filter (lz P cs ls))) (u:=lN ((Oo ls.length).filter (lz P cs ls))) (aE (ts:=[.int 0,RR cs ls,.non]) rfl (mI (i:=0) (by omega) rfl (R.Ng n))) (aE (ts:=[RR cs ls]) rfl (R.NH n)) (mn (rR _) (uO _)))).trans (ay (t:=RR cs cur) (u:=RR cs cur) (aE (ts:=[.int 1,RR cs ls,.non]) rfl (mI (i:=1) (by omega) rfl (by rw[ec];exact R.Nv n))) rfl (mn gc.p dc)))
 .have hb:b=ZD:=by
   cases b with
   |true=>exact absurd (ib.mp rfl) n
   |false=>rfl
  subst hb;have hne:L≠ []:=λz=>n (λa s w=>by rw[z]at w;cases w with|nil=>exact Qb _|step h _=>cases h);have hpos:0<L.length:=List.length_pos_iff.mpr hne;have bw:=EC (R.Nq n);refine fB ((dA (bx (ay (t:=qV P L) (u:=.non) rfl rfl en0))).trans ?_);refine(aw (bM (ay (t:=.lst [cM 3,cM 3]) (u:=.lst [cM 3]) ?_ (ay (t:=.lst [cM 3]) (u:=.int ((1:Nat):Int)) (jS (ar (aE (ts:=[.int 4,RR cs ls,.int 0]) rfl (sY (R.NU n (k:=0) hpos) r3)) rfl) (aB (k:=1) (by simp))) (aE (ts:=[.bl ZC]) (ar (ay (t:=eL L) (u:=.lst []) rfl rfl (LR hne)) rfl) rfl) (JH 1 (by omega) 3)) rfl) rfl)).trans ?_
  .refine(m7 (ts:=[.int 0,.int 1]) (h:=λ_=>cM 3) (J3 rfl) (aB (k:=2) (by simp)) (by simp) λt ht=>?_).trans rfl;simp only[Oh,Pe,or_false]at ht;rcases ht with rfl|rfl
   .exact aE (ts:=[.int 0,RR cs ls,.int 0]) rfl (mJ (i:=0) (by omega) rfl bw.1 r3)
   .exact aE (ts:=[.int 1,RR cs ls,.int 0]) rfl (mJ (i:=1) (by omega) rfl bw.2 r3)
  .exact bB (ay (t:=.lst [cM 3,cM 3,cM 3]) (u:=.lst [cM 3,cM 3,cM 3]) rfl (ay (t:=.lst [cM 3]) (u:=.int ((3:Nat):Int)) rfl rfl (JH 3 (by omega) 3)) (mn rfl (by simp[T.dep,deps,cM])))
def pure_law(ns:List Int)(hn:ns.length<=63):m_law [.scr ns]=.ok (.bl ZC):=aZ rfl (bB ((jh (by show(match dw []with|.ok t=>Rs.ok t|_=>.bad)=_;rw[GO])).trans (aE (ts:=[.scr ns]) rfl (Ip hn))))
end G
end
open PySem PySem.W PyProof.Rows
set_option maxRecDepth 100000 in
set_option maxHeartbeats 0 in
theorem PySem.Challenge.cw_farclocks_k50_needs_holds : PySem.Challenge.rw_farclocks_k50_needs.Holds := by
  w_on; o_law
  refine holds_open (q :=G.vw) (loose :=G.lse) (Xt :=λ_ =>true) (XP :=λ_ _ =>True) (Yf :=(Tr.hookX G.asks G.top).obs) (Ya :=(Tr.hookX G.asks G.top).val) (YP :=(Tr.hookX G.asks G.top).says) (N :=9000) (Tr.left_of (by rfl) (by rfl) (λ_ =>rfl) λw os =>?hl) (Tr.hookX G.asks G.top).of (Tr.hookX G.asks G.top).keeps (λ_ _ =>trivial) (λ_ _ _ _ _ =>trivial) (by rfl) (by rfl) (by rfl) (λs _ =>recFacts_of (s :=s) rfl) (by rfl) (by assumption) (by decide +kernel) ⟨rfl, rfl, rfl, rfl, rfl, by decide +kernel⟩ ?hw ?hc
  case hl =>exact ((congrFun (congrFun (congrFun (congrFun (congrFun PySem.W.Fast.lhsz_eq w) _) _) _) os).trans (G.NX w os)).trans (congrFun PySem.W.Fast.rhsz_eq w).symm
  case hw =>w_witness2
  case hc =>exact Tr.walk_x (n :=63) (k :=18) (x := "_law_script") (CX :=L2.CX0) (sp :=λK =>Tr.spP K 1 G.m_law) rfl (by decide) rfl ⟨rfl, by decide, by decide⟩ (λw K mg fa h X e L b g hf =>G.all_ok X e L b g hf) (λK H a ns hl _ hS =>Tr.sp_script hS (G.pure_law ns hl)) λ_ _ _ _ z =>z
