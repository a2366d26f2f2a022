import PyProof.Rows.All
import Wide.All
import OpenK.AllK
import Wide.FinOn
import Lean
import PyProof.EqAt
import PyProof.EqKinds
import PyProof.TupleCall
import PyProof.ExcClass3
import PyProof.StationsW
import PyProof.ExcBaseAll.ValueError
import PyProof.ExcArgsOwn
import PyProof.IsiBase
import PyProof.IsiH_tuple
import PyProof.ExcAttrAll.ValueError
import PyProof.Rows.RuleN_isinstance
import PyProof.MeetsSeq
import PyProof.RulesAs
import PyProof.IsiH_list
import PyProof.AttrMiss
import KE.KDictOf
import PyProof.Rows.SumAny
import PyProof.Rows.MinMaxN
import PyProof.Rows.SortShellK
import PyProof.Rows.SortWalk
import PyProof.ZipIter
import PyProof.WalksMore
import PyProof.DictWalks
import PyProof.AutoSeq1
import PyProof.Rows.Range3
import PyProof.CollectWalk
import KE.KSortTup
import PyProof.EnumMake
import PyProof.ListRange
import PyProof.SetScanFacts
import PyProof.SetKind
import PyProof.DictKinds
import PyProof.FactsAll.set_0
import PyProof.FactsAll.set_1
import PyProof.FactsAll.set_2
import PyProof.FactsAll.set_3
import PyProof.FactsLen
import PyProof.TupleIter
import PyProof.Rows.SetFrom
import PyProof.Rows.SortShell
import KE.KLam
import PyProof.P3Eq
import PyProof.DictRoadsH
import KE.KEqDict
import PyProof.WalkInts
import PySem.Challenge.RW_farclocks_k50_needs
variable{M a i j k kk m n t' tk:Nat}{Ty newId:String}{ab ab' b hdct hdct' tt:Bool}{col col':Option Bool}{d s x y:Int}{e:Nat->Bool}{g:Int->Int->Int}{gs:List (List Nat)}{hi lo:Option Int}{ks l w:List Nat}{ms ns r:List Int}{α β κ:Type}
noncomputable section
open PySem.Challenge renaming pw_farclocks_k50_needs→PP,rw_farclocks_k50_needs→UU
open Std.Legacy.Range renaming forIn_eq_forIn_range'→UT
open PySem.AutoListH renaming list___mul___list_int_3→Vw
open PyProof.Rows renaming slot_tuple_getitem→ON,callWith_builtin1→Qz,callWith_type1→O8,subscriptTail_builtinR→Uu,entry_tuple_getitem→Tf,args_tuple_getitem→TB,call_isinstance_of→VX,KK_mirror_equal→QX,get?_update_seq→UR,slicePart_none→TH,tupleItemsOf_→Ud,listUpdate_at→Ue,subscriptTail→VU,wpS_forRange→SQ,listItems_at→WB,Subscript_→UX,wpS_modify→Wm,setPending→Wn,SortedToK→Qp,pendingOf→RX,wpS_bind→PF,wpS_pure→Qy,failedOf→S4,SortKind→U0,IntsAre→Qn,AllBare→Rh,NonIncK→Vq,wpS_get→Xl,SortSt→SM,Keyed→Xr,IsTup→Xu
open Array renaming eq_empty_of_size_eq_zero→SK,getD_eq_getD_getElem?→Qh,getElem?_eq_some_iff→PU,perm_iff_toList_perm→Tj,length_toList→PL,find?_toList→Vu,forIn_toList→VE,toList→Uz
open Int renaming mul_le_mul_of_nonneg_left→SV,eq_ofNat_of_zero_le→Pt,emod_lt_of_pos→Tz,toNat_natCast→Pz,emod_nonneg→UL,ediv_one→UA,mul_comm→UD,le_refl→P8,neg_neg→W5
open PySem.F renaming args_tuple_iterator_next_1→S1,entry_tuple_iterator_next→S9,slot_tuple_iterator_next→Q1,excBase_ValueError→Th,slot_list_getattribute→Rg,args_tuple_add_2→R4,plainAttrs_list→QK,entry_tuple_add→Se,args_dict_get_2→T4,slot_list_index→T5,type_list_index→T6,plain_min_loop→PX,slot_tuple_add→Sn,entry_min_loop→So,entry_dict_get→Ul,args_list_eq_2→Um,slot_dict_get→SE,typeOf_object_class→SG,entry_list_eq→Uy,slot_enumerate_next→UF,slot_list_eq→U1,args_list_index_2→Vi,entry_list_index→Vz,args_int_rmul_2→V3,slot_tuple_rmul→V5,slot_list_index→V6,slot_tuple_mul→Uh,slot_int_index→WE,entry_int_rmul→WG,slot_int_rmul→S7,fills_int_mul→W3,slot_gs_get→Vy
open PySem.Builtin.Slice renaming slicePartIndex→WV,sliceApplied→Q0,slicePlaces→Pu,sliceAdjust→PZ,sliceFields→TC
open PySem.Builtin.Builtins renaming bindParams→S5
open List renaming getD_eq_getElem?_getD→O0,getElem?_append_right→RQ,nodup_iff_pairwise_ne→To,getElem?_eq_some_iff→Og,drop_eq_getElem_cons→Qv,getElem?_append_left→Q9,pairwise_iff_getElem→RT,getElem?_eq_getElem→Od,getElem?_replicate→Rm,getElem?_cons_succ→Ro,filter_cons_of_pos→Sg,getElem?_set_self→OS,drop_eq_nil_of_le→QZ,range_succ_eq_map→Rw,take_of_length_le→Sr,mem_append_right→OI,getElem?_eq_none→PM,length_singleton→QD,length_filter_le→Q6,take_append_drop→SL,set_getElem_self→UG,mem_cons_of_mem→N6,getElem?_set_ne→OY,mem_append_left→O6,mem_of_getElem?→Pw,mem_of_mem_take→Ql,getElem?_of_mem→SZ,getElem_reverse→U3,mem_erase_of_ne→U6,mem_of_mem_drop→U7,map_congr_left→OL,filterMap_cons→P6,replicate_succ→P7,getElem?_range→Qq,getElem_of_mem→Rn,length_reverse→Vh,drop_succ_cons→Vl,mem_cons_self→Ob,length_append→Ol,mem_singleton→Ox,contains_cons→Qe,mem_filterMap→Tu,filterMap_map→Tv,getElem_range→Tx,append_of_mem→VG,getElem?_map→Ot,size_toArray→Ou,append_assoc→OQ,length_range→OR,nodup_append→PQ,flatten_cons→QN,flatMap_cons→QP,reverse_cons→Sv,any_eq_false→TM,filter_congr→TV,ext_getElem?→V4,mapM_toArray→Wa,pairwise_map→Wb,getElem?_inj→Wd,map_inj_left→Wf,length_cons→Oh,all_eq_true→OB,not_mem_nil→Pb,length_take→Po,lookup_cons→Pp,getElem_mem→PN,length_drop→QH,getElem_map→Rr,any_eq_true→Rt,ext_getElem→RZ,mem_flatMap→R0,filter_cons→SU,drop_length→WI,cons_append→WL,range'_succ→WN,length_map→N9,mem_append→OP,nodup_cons→OV,append_nil→Px,map_append→PC,mem_filter→PH,nil_append→P2,length_set→P3,of_mem_zip→Rf,find?_cons→RC,filter_map→Sh,range_succ→Td,length_nil→UH,foldl_cons→W2,forIn_cons→W4,length_zip→Xd,idxOf_cons→Xe,replicate→OH,mem_range→OZ,nodup_nil→Ra,map_cons→Oa,mem_cons→Oe,sum_cons→QL,any_cons→Q4,map_take→S3,map_drop→VI,mem_map→On,map_map→OK,map_nil→Tw,toArray→Wq,all_map→Wr,set_set→Ww,length→Py,map_id→RD,lookup→R1,range→Oj,Nodup→RL,foldl→TN,getD→UC,cons→W9,map→VC
open PySem renaming wpAny_newFunctionEnv_cells→Q2,wpAny_binaryOp_repeat_ref→TJ,wpAny_getItem_list_slice→T1,wpAny_callSpecial?_slot→Qi,richCompare_meets_room→Ss,wpAny_pyNext_list_item→Ur,wpAny_pyNext_range_end→Us,wpAny_pyIter_rangeiter→Ut,wpAny_Call_method_late→Uv,builtinLookup_eq_fast→Q7,codeAny_call_function→SO,wpAny_pyNext_list_end→UM,wpAny_isTrue_Compare1→UN,wpAny_notOrdered_dict→UQ,codeAny_call_builtin→S0,wpAny_loadName_local→U8,mem_of_lookup→QQ,wpAny_isSubtype_exc→QU,wpAny_loadName_cell→Vm,wpAny_Call_Name_kw→Pa,tupleKind_room_in1→QF,wpAny_pyIter_tuple→Sk,wpAny_pyIter_range→VN,wpAny_List_spliced→VO,wpAny_truthy_bool→Pe,foldedSetIterable→Pf,wpAny_newObj_type→Pq,wpAny_loadPart_at→Pr,wpAny_pyIter_list→Sx,wpAny_dictEntries→SB,wpAny_sequenceKey→TZ,wpAny_assign_Name→Wi,wpAny_pyIter_enum→Wl,wpAny_call_entry→Q3,noFill_tuple_add→Uk,seqSlot_of→WK,wpAny_eqBool_int→WQ,wpAny_execs_cons→WR,wpAny_isInstance→WS,lookupAlong_cons→WT,checkBuiltinCall→WU,wpAny_loadPart'→OW,codeAny_builtin→QV,wpAny_execs_nil→Si,letOwnedTupleGo→Sj,typeLookup_type→Sm,pushCells_keeps→UP,wpAny_updateSeq→US,importedModules→Xf,wpAny_passesOwn→Xg,wpAny_ite_split→Xm,size_of_entries→Xn,wpAny_dictEpoch→Xo,recursionLimit→RV,wpAny_seqItems→RW,wpAny_tryCatch→SC,wpAny_setField→Vb,wpAny_holding→P5,attributeBase→Qx,plainId_quiet→Rq,behindInMarks→RO,swapsWithSole→VL,swappedStores→VM,seq_tuple_add→VR,evalPart_none→VT,wpAny_attempt→VW,bootBuiltins→O9,codeAny_mono→R9,wpAny_typeOf→Sa,codeAny_func→Wx,concat_meets→Wy,call_range_1→Wz,call_range_2→WA,mainGlobals→OJ,sizeLine_eq→PD,excClassObj→PV,wpAny_field→Qt,sliceBounds→Sz,keywordEach→Te,wpAny_letGo→Ug,IsRangeIter→Vn,subscripted→Vp,lookupAlong→Xk,wpAny_bind→N5,wpAny_pure→Oi,wpAny_mono→Qm,sysModules→Qr,assignEach→Qs,builtinsNs→R8,call_meets→Sb,typeLookup→Sy,wpAny_rule→SA,wpAny_call→UW,typeIs_int→UY,closureFor→UZ,entryOfKey→Wh,compareOp→Pm,swapsWith→P4,cellsFrom→QR,Arguments→SN,tupleKind→TX,codeAmong→TY,pushCells→UO,seqItems?→VV,slicePick→Xi,noteFrame→Xj,starEach→Ov,FuncData→PR,boot_len→Qj,binaryOp→Qw,NameKind→RN,GenState→VJ,bindArgs→VP,backToKw→VQ,Operator→WY,Program→OF,BindsTo→Vo,OsState→Wg,Keyword→Wj,Shared→Oc,Around→OU,Paired→Uj,IsPart→VS,Result→Xh,Value→N8,World→Pv,Scope→RF,Model→Xq,CmpOp→Xv
open PySem.Builtin.Tuple renaming tupleItemsOf→RP,tupleIsExact→Tg,tupleExact→Pk
open PySem.Calls renaming Name_function_global→Ti,callWith_builtin→Sq,evalArgs_plain→RS,spliced_cons→Rx,Constant_str→Vt,spliced_nil→Re
open PySem.Builtin.SmallTypes renaming nextOf→Q8
open PySem.Builtin.Dict renaming dictSlotArgs→TF,updateFrom→T7,samePairs→Uo
open PySem.Builtin.List renaming listTooLong→Rc
open Option renaming isSome_iff_exists→R5,map_eq_some_iff→Qo,isSome_some→Vx,isSome_map→V7,getD_none→WD,map_some→Xa,some→Pd
open PySem.Builtin.Range renaming rangeSize→Rl,small→Vd
open Classical renaming propDecidable→Uc
open PySem.Heap renaming get?_push_of_some→Of,get?_update_other→Ph,get?_update_self→RB,get?_push_size→Oy,get?_update_ne→Rp,get?_push_ne→Wc,size_update→WM,NewAttrErr→W6,size_push→Rv,IsSliceOf→Xp,lt_size→Os,SameBut→SF
open PySem.W renaming cellsFrom_some→QY,hideAll_none→SW,hideAll_get→Rk,callWith_K→Sd,of_hideAll→Tq,codeRec_of→Ts,methodObj→TK,kitx_list→VY,kitx_dict→VZ,plainGet→WC,kia_one→PY,instObj→Uw,hideAll→Ux,keepIn→Qu,lookIn→U9,codeIn→Va,mg_of→RG,Frag→N4,fnOf→R3,nsIn→SD
open PyProof renaming noPylong_small→Uq
open PySem.Obj renaming isFreed_of_fields→UE,data_mapFields→Sf,mapFields→VA,mapSeq→PB
open Bool renaming and_eq_false_iff→UK,and_eq_true_iff→QJ,false_ne_true→OA,false_eq_true→Qc,not_eq_true'→TU,and_eq_true→N7,eq_iff_iff→Pc,or_eq_true→Ta,true_and→RM,false_or→T9,and_true→VH,or_true→Wt,true_or→Wu
open PySem.Around renaming under_plainId→Qk,frames_deeper→U2,units→SJ
open Nat renaming le_sub_one_of_lt→SX,sub_one_lt_of_lt→SY,not_succ_lt_self→U5,lt_of_lt_of_le→Oo,lt_of_le_of_lt→Ry,add_sub_cancel→VB,lt_succ_of_lt→RI,le_of_succ_le→Sw,le_of_lt_succ→TR,lt_trichotomy→V9,max_eq_right→SS,succ_le_succ→Ui,lt_succ_self→WH,succ_ne_self→WJ,mod_eq_of_lt→WO,le_antisymm→UI,not_lt_zero→W7,lt_irrefl→O7,le_trans→OG,ne_of_lt→O5,le_of_lt→P9,ne_of_gt→QC,lt_or_ge→Rj,le_of_eq→R6,zero_add→R7,sub_self→SH,sub_zero→SI,lt_trans→UB,add_comm→Wo,mul_comm→Wp,min_self→Ws,le_refl→Oq,zero_le→Pg,le_succ→Xc,sub_le→V8
open PySem.Value renaming notImplemented→U4,builtin→RJ,none→Pl,bool→Pn,type→Ru,ref→Oz,int→Qb,str→QB
open PySem.Heap.SameBut renaming update→Vc
open PyProof.Rows.KeyOrd renaming kle_antisymm→Vj,kle_of_klt→TQ,kle_trans→SR,kle_refl→RE
open PySem.Heap.IsSliceOf renaming new→Tt
open PySem.SeqAt.EqAt renaming int_int→Vr
open Option.some renaming injEq→Su,inj→OM
open List.Pairwise renaming nil→V0
open Function renaming comp_def→We
open ForInStep renaming yield→RA
open List.range renaming loop→S6
open List.cons renaming injEq→WZ
open PySem.Expr renaming Subscript→Qa,Attribute→RU,Constant→S2,ListComp→Ub,UnaryOp→UJ,Compare→Wv,BoolOp→Rb,Name→O4,Call→Qg,List→W8
open PySem.NameKind renaming free→Pj,cell→Qd
open PySem.Value.ref renaming inj→T3
open PySem.Paired renaming length→T8
open Prod.mk renaming injEq→Vs,inj→T2
open PySem.Str renaming ofString→Om
open PySem.Stmt renaming Assign→Tc
open PySem.Scope renaming names→Ua
open PySem.Pos renaming endLine→Vk,line→RY
open PySem.Data renaming fields→W0
open PySem.IsRange renaming new→W1
open False renaming elim→QM
open True renaming intro→RH
open PySem.BoolOp renaming And→UV,Or→VD
open PySem.Env renaming scope→Q5
open PyProof.Rows.IsTup renaming new→Vv
open Prod renaming snd→WW,fst→WX,mk→Vg
open Ne renaming symm→PJ
open Iff renaming rfl→S8
open Sum renaming inl→Ve,inr→Vf
open Or renaming inl→TL
open Option renaming some→ZA,none→ZB
open Bool renaming true→ZC,false→ZD
open PySem renaming Addr→ZE,Stmt→ZF,Expr→ZG,Heap→ZH,sizeLine→ZI,wpAny→ZJ,model→ZK,codeAny→ZL
set_option Elab.async false
set_option compiler.extract_closed false
set_option bootstrap.genMatcherCode false
set_option genSizeOf false
set_option compiler.reuse false
set_option linter.all false
set_option maxRecDepth 100000
set_option maxHeartbeats 8000000
abbrev WF:=PySem.Str->Option N8
abbrev WP:=N8->Oc->Prop
abbrev Uf:=List (PySem.Addr×PySem.Obj)
variable{A:OU}{E Q:WP}{K:N4}{M:Xq}{P prog q:OF}{R:Xh->Oc->Prop}{bm bmE bs' its sub' tl us vs:List N8}{cd cdv f ux v vl vu:N8}{fd:PR}{k0:U0}{k1 k2 k3 k5:Option N8}{op:Xv}{os:Wg}{params:SN}{s s' s0 s1:Oc}{sc scope:RF}{st:SM}{w:Pv}
noncomputable section
abbrev nDb(x:PySem.Str):Prop:=(x == PySem.Str.ofString "__debug__")=ZD
def qr_(h:True:=by first|exact .inl rfl|exact .inr rfl|assumption):True:=trivial
def r_:=qr_._auto_1
def qs_(h:True:=by decide):True:=trivial
def s_:=qs_._auto_1
def qt_(h:True:=by intro _;rfl):True:=trivial
def t_:=qt_._auto_1
def qu_(h:True:=by first|exact TL rfl|exact Or.inr (TL rfl)|exact Or.inr (Or.inr rfl)):True:=trivial
def u_:=qu_._auto_1
def qv_(h:True:=by with_unfolding_all rfl):True:=trivial
def v_:=qv_._auto_1
def qw_(h:True:=by intro _ _;rfl):True:=trivial
def w_:=qw_._auto_1
def qx_(h:True:=by first|exact TL rfl|exact Or.inr rfl):True:=trivial
def x_:=qx_._auto_1
def qy_(h:True:=by decide+kernel):True:=trivial
def y_:=qy_._auto_1
def qz_(h:True:=by exact fsc):True:=trivial
def z_:=qz_._auto_1
namespace L2
open PySem PySem.Spec PyProof.Rows
inductive V where
 |non|bl (b:Bool)|int (i:Int)|str (x:Str)|byt (b:Array UInt8)|flt (b:UInt64)|ref (a:ZE)|ty (n:String)
 deriving DecidableEq
end L2
namespace HT
open PySem PyProof.Rows
noncomputable def sIx(n d:Nat):Option Int->Nat
 |none=>d
 |some v=>if v<0 then(v+(n:Int)).toNat else min v.toNat n
end HT
namespace L2
open PySem PySem.Spec PyProof.Rows
noncomputable def ix(s:ZF):SN:=match s with
 |.FunctionDef _ a _ _ _ _ _ _ _ _=>a
 |_=>{posonlyargs:=[],args:=[],vararg:=ZB,kwonlyargs:=[],kw_defaults:=[],kwarg:=ZB,defaults:=[]}
def de(s:ZF):List ZF:=match s with
 |.FunctionDef _ _ b _ _ _ _ _ _ _=>b
 |_=>[]
noncomputable def ay(s:ZF):RF:=match s with
 |.FunctionDef _ _ _ _ _ _ sc _ _ _=>sc
 |_=>{kind:=.function,names:=[],isGenerator:=ZD,isCoroutine:=ZD}
end L2
namespace Tr
open PySem PySem.Spec PyProof.Rows L2
inductive T where
 |non|bl (b:Bool)|int (i:Int)|str (x:Str)|tup (l:List T)|lst (l:List T)
 /-- the law's script: a list of ints that is only read -/
 |scr (l:List Int)
 /-- a dict: its keys,its values -/
 |dct (ks vs:List T)
inductive Rs (α:Type) where
 |ok (a:α)|err (c:Str)|bad
noncomputable def Rs.bind{α β:Type}(x:Rs α)(f:α->Rs β):Rs β:=match x with
 |.ok a=>f a
 |.err c=>.err c
 |.bad=>.bad
noncomputable instance:Monad Rs where
 pure:=Rs.ok
 bind:=Rs.bind
abbrev Ow:=ZE->Prop
inductive OT where
 |lst (l:List T)|dct (ks ts:List T)|dd (ks:List T) (rows:List (List T×List T))
noncomputable def OT.view:OT->T
 |.lst l=>.lst l
 |.dct ks ts=>.dct ks ts
 |.dd ks rows=>.dct ks (rows.map λr=>.dct r.1 r.2)
inductive Sl where
 |em|va (t:T)|ow (o:OT)
abbrev En:=List Sl
abbrev Y3:=En->Rs Bool
abbrev Y2:=En->Rs T
abbrev Y0:=En->Rs (List T)
abbrev Mn:=Nat->Ow
def Mn.u(M:Mn):Ow:=λa=>∃i,M i a
section
variable {X:Cx}{a b c:ZG}{fa fb fc:Y2}{pos:Pos}
noncomputable def om(l:List T)(lo hi:Option Int):List T:=(l.drop (HT.sIx l.length 0 lo)).take (HT.sIx l.length l.length hi - HT.sIx l.length 0 lo)
noncomputable def slT(x:T)(lo hi:Option Int):Rs T:=match x with
 |.tup l=>.ok (.tup (om l lo hi))
 |.lst l=>.ok (.lst (om l lo hi))
 |_=>.bad
noncomputable def sl(fe:Y2)(fl fu:En->Rs (Option Int))(Z:En):Rs T:=do
 let x <-fe Z
 let l <-fl Z
 let u <-fu Z
 slT x l u
variable {e:ZG}{es:List ZG}{fs:Y0}{x:Str}{p:Pos}{id:String}{g:List T->Rs T}
end
noncomputable def calmNames:List Str:=["__init__","__getattribute__","__getattr__","__class__"]
def B1:N8->Bool
 |.str _ _=>ZC
 |_=>ZD
noncomputable def cQ:List Int->List Int->Bool
 |[],[] =>ZD
 |[],_::_=>ZC
 |_::_,[] =>ZD
 |a::l,b::m=>if a=b then cQ l m else decide (a<b)
structure RK where
 V:ZH->N8->List Int->Prop
 inj:∀{h v a b},V h v a->V h v b->a=b
 on:∀{h h':ZH} {v a},V h v a->(∀b o,h.get? b=ZA o->h'.get? b=ZA o)->V h' v a
 fst:∀{h v a},V h v a->∃ad xs n o m t,v=.ref ad/\h.get? ad=ZA o/\o.cls=.type "tuple"/\o.data=.seq xs n/\xs[0]?=ZA (.int m t)
 lt:∀{prog w A s E x y a b} {Q:Bool->Oc->Prop},A.units+60<cLine->V s.heap x a->V s.heap y b->Q (cQ a b) s->ZJ (ZK prog w) A (keyLt' (tuples' ZC) x y) Q E s
variable (R:RK)
open Classical in
def RK.key(h:ZH)(v:N8):Option (List Int):=if e:∃ns,R.V h v ns then ZA e.choose else ZB
variable {R:RK}
end Tr
namespace Tr
open PySem PySem.Spec PyProof.Rows L2 PySem.W
def D1(h:ZH):Frag:=(Oj h.objs.size).filterMap λa=>(h.get? a).map λo=>(a,o)
noncomputable def obF(K:Frag)(n:Str):Option (Str×Str×SN×FuncBody×RF×ZE×List (Str×ZE)×N8×ZE×Bool×Bool):=match nsIn K OJ n with
 |some (ZA (.ref f))=>match K.lookup f with
  |some ⟨_,_,.func d,_⟩=>ZA (d.name,d.qualname,d.params,d.body,d.scope,d.globals,d.closure,d.defaults,d.builtins,codeIn K d.code n,keepIn K (.ref f))
  |_=>ZB
 |_=>ZB
noncomputable def exF(n:Str)(st:ZF):Option (Str×Str×SN×FuncBody×RF×ZE×List (Str×ZE)×N8×ZE×Bool×Bool):=
 ZA (n,n,ix st,.stmts (de st),ay st,OJ,[],.none,R8,ZC,ZC)
def LJ(K:Frag)(N:ZE)(n:Str):Bool:=match nsIn K N n with|some ZB=>ZC|_=>ZD
noncomputable def MQ(K:Frag)(n:Str):Option Int:=match nsIn K OJ n with|some (ZA (.int i _))=>ZA i|_=>ZB
noncomputable def zd:List N8->Bool
 |[.type a,.type b,.type c,.type d] =>a == "ValueError" &&b == "Exception" &&c == "BaseException" &&d == "object"
 |_=>ZD
noncomputable def BQ(D:Option ZE)(m:List N8):Bool:=match D with
 |none=>zd m
 |some D=>match m with
  |.ref E::m=>E == D&&zd m
  |_=>ZD
noncomputable def Ga(K:Frag)(D:Option ZE)(n:Str):Option ZE:=match nsIn K OJ n with
 |some (ZA (.ref C))=>match K.lookup C with
  |some ⟨.type t,_,.cls c,⟨[_,_,_,_,ZA (.builtin b),_]⟩⟩=>match c.mro,K.lookup c.ns with
   |.ref E::m,ZA ⟨_,_,.dict es _,_⟩=>
    if (t == "type" &&b == "ValueError.__new__" && !c.hasDel&&(es.toList.all λe=>B1 e.key)&&calmNames.all (LJ K c.ns)&&E == C&&BQ D m)=ZC then ZA C else ZB
   |_,_=>ZB
  |_=>ZB
 |_=>ZB
noncomputable def yT{α:Type}:List (Option α)->Option (List α)
 |[] =>ZA []
 |none::_=>ZB
 |some a::r=>match yT r with|some l=>ZA (a::l)|none=>ZB
def uv:List ZE->Bool
 |[] =>ZC
 |a::r=>(r.all λb=>!(a == b))&&uv r
noncomputable def MP(K:Frag):List Str->Bool
 |[] =>ZC
 |m::es=>match Ga K ZB m with
  |some D=>match yT (es.map (Ga K (ZA D)))with|some l=>uv (l++[D])|none=>ZD
  |none=>ZD
structure rK where
 tab:List (Str×Nat)
 zs:List Str
 cs:List (Str×Int)
 es:List Str
noncomputable def pZ(S:rK)(K:Frag):=(S.tab.map (λp=>obF K p.1),S.zs.all (LJ K OJ),S.cs.map (λc=>MQ K c.1),MP K S.es)
def nV(S:rK)(top:Nat->ZF):=(S.tab.map (λp=>exF p.1 (top p.2)),ZC,S.cs.map (λc=>ZA c.2),ZC)
noncomputable def E7(K:Frag):Option (ZE×ZE):=match nsIn K OJ "most_kept" with
 |some (ZA (.ref f))=>match K.lookup f with
  |some ⟨_,_,.func d,_⟩=>match d.code with
   |.ref c=>match K.lookup c with
    |some ⟨.type n,_,.fields vs,_⟩=>match(vs[11]?:Option N8),(vs[18]?:Option N8),(vs[7]?:Option N8),(vs[9]?:Option N8),(vs[10]?:Option N8)with
     |some (.ref P),ZA (.str _ _),ZA (.int _ _),ZA (.bool _),ZA (.int _ _)=>if n == "code" &&c != P then ZA (c,P)else ZB
     |_,_,_,_,_=>ZB
    |_=>ZB
   |_=>ZB
  |_=>ZB
 |_=>ZB
noncomputable def Kv(K:Frag):Bool:=match nsIn K OJ "__builtins__" with
 |some (ZA (.ref bm))=>bm != R8&&bm != OJ&&(match K.lookup bm with
  |some ⟨.type n,ZA d,.plain,_⟩=>n == "module" &&d == R8
  |_=>ZD)
 |_=>ZD
def qE(h:ZH)(P:ZE):Frag:=(D1 h).filter λp=>!(p.1 == P)
noncomputable def zI(S:rK)(h:ZH):=match E7 (D1 h)with
 |some (_,P)=>(pZ S (qE h P),match E7 (qE h P)with
  |some (_,P')=>P' == P&&Kv (qE h P)&&(match h.get? P with
   |some ⟨.none,ZB,.fields ps,sl⟩=>ps.size == 0&&sl.size == 0
   |_=>ZD)
  |none=>ZD)
 |none=>(pZ S [],ZD)
end Tr
namespace G
open PySem PySem.Spec PyProof.Rows L2 Tr
noncomputable def top(i:Nat):ZF:=PP.main.body.getD i (.Pass ⟨0,0,0,0⟩)
noncomputable def asks:rK:=⟨([("is_long",17),("is_whole",15),("is_within",16),("is_pace",20),("rises",18),("are_readings",19),("is_clock",21),("are_clocks",22),("is_event",23),("is_delay",24),("is_letter",25),("are_letters",26),("is_record",27),("need_record",28),("bounds_of_clock",32)]:List (Str×Nat))++([("bounds_of_letter",33),("bounds",34),("need_number",29),("events",30),("is_better",37),("settle",36),("greatest_world",39),("world",40),("has_world",41),("need_world",42),("is_needless",48),("all_letters",49),("walks_from",44),("most_of",45),("all_most",46)]:List (Str×Nat))++([("same_worlds",54),("with_only",50),("without",51),("needless_letters",52),("least_letters",53),("sets_of",55),("most_kept",56),("culprits",57),("_law_told",69),("_law_known_one",73),("_law_events",63),("_law_small",65),("_law_bounds",66),("_law_table",67),("_law_cell",59)]:List (Str×Nat))++([("_law_drawn",60),("_law_letter",62),("_law_clock",61),("_law_record",64),("_law_sets",72),("_law_has",71),("_law_needless",70),("_law_stands",74),("law",75),("_law_refused",68)]:List (Str×Nat)),(["ValueError","all","bool","dict","enumerate","int","isinstance","len","list","max","min","range","sorted","tuple"]:List Str),[("MOST_CLOCKS",4),("MOST_LETTERS",8),("MOST_READINGS",4),("LAST_READING",99),("SLOWEST",9),("LONGEST",999)],["ClockError","NoRecord","NoEvent","NoNumber","NoWorld","Barred","Nothing"]⟩
def vw:OF:=PySem.W.view PP [75]
noncomputable def lse:List Str:=(["ClockError","NoRecord","NoEvent","NoNumber","NoWorld","Barred","Nothing","MOST_CLOCKS","MOST_LETTERS","MOST_READINGS","LAST_READING","SLOWEST","LONGEST","is_whole","is_within","is_long","rises","are_readings","is_pace","is_clock"]:List Str)++(["are_clocks","is_event","is_delay","is_letter","are_letters","is_record","need_record","need_number","events","bounds_of_clock","bounds_of_letter","bounds","settle","is_better","greatest_world","world","has_world","need_world","walks_from","most_of"]:List Str)++(["all_most","is_needless","all_letters","with_only","without","needless_letters","least_letters","same_worlds","sets_of","most_kept","culprits","_law_cell","_law_drawn","_law_clock","_law_letter","_law_events","_law_record","_law_small","_law_bounds","_law_table"]:List Str)++(["_law_refused","_law_told","_law_needless","_law_has","_law_sets","_law_known_one","_law_stands"]:List Str)
noncomputable def lhs(w:Pv)(h:ZH)(d:Drawn)(t:Nat)(os:Wg):=(PySem.W.topFrom treeTable PP w 9000 ⟨h,⟨[]⟩,d,t,os⟩).map (λs=>(PySem.W.openSeen vw lse (Xf PP.main.body) (λ_=>ZC) ZC s,zI asks s.heap))
noncomputable def rhs(w:Pv):=ZA (PySem.W.openGood vw lse,(nV asks top,ZC))
def lhs_r:lhs=lhs:=rfl
def rhs_r:rhs=rhs:=rfl
end G
section
lay_quick G.lhs G.rhs
name_quick lhsz for G.lhs by G.lhs_r
name_quick rhsz for G.rhs by G.rhs_r
open PySem PySem.W PyProof.Rows
set_option maxRecDepth 100000 in
theorem G.NU(w:Pv)(os:Wg):PySem.W.Fast.lhsz w (boot_heap w.params) boot_drawn boot_toks os=PySem.W.Fast.rhsz w:=by kernel_rfl
end
namespace L2
open PySem PySem.Spec PyProof.Rows
abbrev Key:=Sum Int Str
def sh:Key->N8->Bool
 |.inl k,v=>Value.isInt k v
 |.inr x,v=>Value.isStrOf x v
def keyH(w:Pv):Key->Int
 |.inl k=>hashInt k
 |.inr x=>hashStr w x
theorem dm:∀{k:Key}{v:N8},sh k v=ZC->(∃i t,k=Ve i/\v=Qb i t)\/(∃x t,k=Vf x/\v=QB x t)
 |.inl i,v,h=>by obtain⟨t,e⟩:=Value.isInt_shape (k:=i) (v:=v) h;exact .inl ⟨i,t,rfl,e⟩
 |.inr x,v,h=>by obtain⟨t,e⟩:=Value.isStrOf_shape (x:=x) (v:=v) h;exact .inr ⟨x,t,rfl,e⟩
def A4(i:Int)(t:Tok):sh (.inl i) (.int i t)=ZC:=by simp[sh,Value.isInt]
def A3(x:Str)(t:Tok):sh (.inr x) (.str x t)=ZC:=by simp[sh,Value.isStrOf]
def JV(a b:Int):decide ((Ve a:Key)=Ve b)=(a == b):=by
 by_cases e:a=b
 .subst e;simp
 .have h:¬ (Ve a:Key)=Ve b:=λq=>e (Ve.inj q);rw[decide_eq_false h];exact(beq_eq_false_iff_ne.mpr e).symm
def JR(a b:Str):decide ((Vf a:Key)=Vf b)=decide (a=b):=by
 by_cases e:a=b
 .subst e;simp
 .have h:¬ (Vf a:Key)=Vf b:=λq=>e (Vf.inj q);rw[decide_eq_false h,decide_eq_false e]
def JU(a:Int)(b:Str):decide ((Ve a:Key)=Vf b)=ZD:=decide_eq_false (λq=>nomatch q)
def JS(a:Str)(b:Int):decide ((Vf a:Key)=Ve b)=ZD:=decide_eq_false (λq=>nomatch q)
noncomputable def dw(prog:OF)(w:Pv):PySem.KeyKind prog w Key where
 is:=sh
 hash:=keyH w
 inj:=λv a b ha hb=>by
  rcases dm ha with⟨i,t,rfl,rfl⟩|⟨x,t,rfl,rfl⟩
  .rcases dm hb with⟨j,u,rfl,e⟩|⟨y,u,rfl,e⟩
   .injection e with e1 _;rw[e1]
   .exact nomatch e
  .rcases dm hb with⟨j,u,rfl,e⟩|⟨y,u,rfl,e⟩
   .exact nomatch e
   .injection e with e1 _;rw[e1]
 byValue:=λk v h=>by rcases dm h with⟨i,t,rfl,rfl⟩|⟨x,t,rfl,rfl⟩ <;> rfl
 pyHash:=λhv h=>by
  rcases dm hv with⟨i,t,rfl,rfl⟩|⟨x,t,rfl,rfl⟩
  .exact wpAny_pyHash_int h
  .exact wpAny_pyHash_str h
 eqBool:=λhu hv h=>by
  rcases dm hu with⟨i,t,rfl,rfl⟩|⟨x,t,rfl,rfl⟩
  .rcases dm hv with⟨j,u,rfl,rfl⟩|⟨y,u,rfl,rfl⟩
   .rw[JV]at h;exact WQ h
   .rw[JU]at h;exact SeqAt.EqAt.int_str i t y u _ _ _ _ h
  .rcases dm hv with⟨j,u,rfl,rfl⟩|⟨y,u,rfl,rfl⟩
   .rw[JS]at h;exact SeqAt.EqAt.str_int x t j u _ _ _ _ h
   .rw[JR]at h;exact wpAny_eqBool_str h
 «strs»:=λk x t v h=>by
  rcases dm h with⟨i,u,rfl,e⟩|⟨y,u,rfl,e⟩
  .exact nomatch e
  .injection e with e1 _;subst e1;cases v <;> rfl
def wz(prog:OF)(w:Pv)(i:Int)(t:Tok):(dw prog w).is (.inl i) (.int i t)=ZC:=A4 i t
def wy(prog:OF)(w:Pv)(x:Str)(t:Tok):(dw prog w).is (.inr x) (.str x t)=ZC:=A3 x t
def RelV:V->N8->Prop
 |.non,u=>u=Pl
 |.bl b,u=>u=Pn b
 |.int i,u=>∃t,u=Qb i t
 |.str x,u=>∃t,u=QB x t
 |.byt b,u=>∃t,u=Value.bytes b t
 |.flt b,u=>∃t,u=Value.float b t
 |.ref a,u=>u=Oz a
 |.ty n,u=>u=Ru n
abbrev Vals:List V->List N8->Prop:=Uj RelV
variable{xs:List V}
def Vals.length(r:Vals xs us):xs.length=us.length:=T8 r
theorem Vals.get:∀{xs:List V}{us:List N8}{i:Nat}{x:V},Vals xs us->xs[i]?=ZA x->∃u,us[i]?=ZA u/\RelV x u
 |_,_,_,_,.nil,e=>by simp at e
 |_,_,0,_,.cons r _,e=>by simp at e;subst e;exact⟨_,rfl,r⟩
 |_,_,i+1,x,.cons _ t,e=>by obtain⟨u,h1,h2⟩:=Vals.get (i:=i) (x:=x) t (by simpa using e);exact⟨u,by simpa using h1,h2⟩
theorem Vals.append:∀{xs ys:List V}{us ws:List N8},Vals xs us->Vals ys ws->Vals (xs++ys) (us++ws)
 |_,_,_,_,.nil,s=>s
 |_,_,_,_,.cons r t,s=>.cons r (Vals.append t s)
theorem Vals.take:∀{xs:List V}{us:List N8}(n:Nat),Vals xs us->Vals (xs.take n) (us.take n)
 |_,_,0,_=>.nil
 |_,_,_+1,.nil=>.nil
 |_,_,n+1,.cons r t=>.cons r (Vals.take n t)
theorem Vals.drop:∀{xs:List V}{us:List N8}(n:Nat),Vals xs us->Vals (xs.drop n) (us.drop n)
 |_,_,0,r=>r
 |_,_,_+1,.nil=>.nil
 |_,_,n+1,.cons _ t=>Vals.drop n t
def RelO:Option V->Option N8->Prop
 |some v,ZA u=>RelV v u
 |none,ZB=>True
 |_,_=>False
def KV{κ:Type}:List (κ×V)->List (κ×N8)->Prop:=Uj λ(p:κ×V)(q:κ×N8)=>p.1=q.1/\RelV p.2 q.2
def kV:Key->V
 |.inl i=>.int i
 |.inr x=>.str x
inductive HO where
 /-- a list -/
 |lst (xs:List V)
 /-- a tuple (never changes) -/
 |tup (xs:List V)
 /-- a dict whose keys are ints and texts;one whose keys are tuples of ints and texts (the empty one is both) -/
 |dK (kvs:List (Key×V))|dT (kvs:List (List Key×V))
 /-- a set of ints: its members,its size -/
 |set (S:Int->Bool) (n:Nat)
 /-- an instance of the class at C,its dict at dx,its attributes -/
 |ins (C dx:ZE) (fs:List (Str×V))
 /-- the dict of the instance at x -/
 |own (x:ZE)
 /-- the dict of an exception -/
 |xd (fs:List (Str×V))
 /-- a bound method,f of x -/
 |met (f x:ZE)
 /-- a range object lo,lo+1,.. below hi -/
 |rng (lo hi:Int)
 /-- a thing that is known to the object (the script;a dict while a loop walks it): read,never written while it is so -/
 |frz (o:Obj) (u:HO)
 /-- a code object's table -/
 |tbl (q:Str)
 /-- any other thing,by what is ZC of its one object (a def of one's own: SetO a S n:=HO.ext λh=>..) -/
 |ext (φ:ZH->Prop)
abbrev Hp:=ZE->Option HO
def upd(H:Hp)(a:ZE)(o:HO):Hp:=λb=>if b=a then ZA o else H b
variable{H:Hp}{a:ZE}
def aH{o:HO}:upd H a o a=ZA o:=by unfold upd;rw[if_pos rfl]
variable{b:ZE}
def aF{o:HO}(h:b≠a):upd H a o b=H b:=by unfold upd;rw[if_neg h]
def tq{o u:HO}:upd (upd H a o) a u=upd H a u:=by funext b;unfold upd;split <;> rfl
def l7{o u:HO}(h:H a=ZA o)(h':H b=ZA u)(d:o≠u):a≠b:=by intro e;subst e;rw[h]at h';exact d (OM h')
def cY{o:HO}(h:H a=ZA o)(h':H b=ZB):a≠b:=by intro e;subst e;rw[h]at h';cases h'
section
variable (P:OF)(w:Pv)
def ObjOk(H:Hp)(h:ZH)(a:ZE):HO->Prop
 |.lst xs=>xs.length<=ZI/\∃(its:List N8)(n:Nat),Vals xs its/\h.get? a=ZA {cls:=.type "list",data:=.seq its.toArray n}
 |.tup xs=>xs.length<=ZI/\∃its:List N8,Vals xs its/\Xu h a its.toArray
 |.dK kvs=>kvs.length<=ZI/\(a == Qr)=ZD/\∃vs,KV kvs vs/\h.DictOf (dw P w) a vs
 |.dT kvs=>kvs.length<=ZI/\(a == Qr)=ZD/\∃xs:List (List Key×ZE×N8),
   Uj (λ(p:List Key×V)(q:List Key×ZE×N8)=>p.1=q.1/\H q.2.1=ZA (.tup (p.1.map kV))/\RelV p.2 q.2.2) kvs xs ∧
   ∃o es ep,h.get? a=ZA o/\o.ExactDict/\o.data=.dict es ep/\es.toList=xs.map (Wh (TX (dw P w)))/\(xs.map (·.1)).Nodup
 |.set S n=>h.SetOf (intKind P w) a S n
 |.ins C dx fs=>H dx=ZA (.own a)/\fs.length<=1000/\dx≠a/\h.get? a=ZA (Uw C dx) ∧
   ∃mA,h.Ns1 dx mA/\(∀f,RelO (fs.lookup f) (mA f))/\PySem.Within mA (fs.map (·.1))
 |.own _=>∃o,h.get? a=ZA o
 |.xd fs=>∃mA,h.Ns1 a mA/\∀f,RelO (fs.lookup f) (mA f)
 |.rng lo hi=>∃t u v,h.get? a=ZA {cls:=.type "range",data:=.fields #[.int lo t,.int hi u,.int 1 v]}
 |.frz o u=>h.get? a=ZA o/\ObjOk H h a u
 |.tbl q=>∃ps:Array N8,h.get? a=ZA {cls:=.none,data:=.fields ps}/\TriplesOk ps.toList/\∀pos v,TY pos ps.toList=ZA v->∃c oc vs t,v=.ref c/\H c=ZA (.own a)/\h.get? c=ZA oc/\oc.data=.fields vs/\vs[1]?=ZA (.str q t)
 |.met f x=>h.get? a=ZA (TK (.ref f) (.ref x))
 |.ext φ=>φ h/\(∃o,h.get? a=ZA o)/\∀h1 h2:ZH,φ h1->(∀o,h1.get? a=ZA o->h2.get? a=ZA o)->φ h2
def HOk(H:Hp)(h:ZH):Prop:=∀a o,H a=ZA o->ObjOk P w H h a o
end
variable{H':Hp}{h h':ZH}
section
variable {o:HO}
theorem ObjOk.lt(x:ObjOk P w H h a o):a<h.objs.size:=by
 cases o with
 |lst xs=>obtain⟨_,_,_,_,e⟩:=x;exact Os e
 |tup xs=>obtain⟨_,_,_,p⟩:=x;exact p.lt
 |dK kvs=>obtain⟨_,_,_,_,o,_,_,e,_⟩:=x;exact Os e
 |dT kvs=>obtain⟨_,_,_,_,o,_,_,e,_⟩:=x;exact Os e
 |set S n=>obtain⟨o,_,_,_,e,_⟩:=x;exact Os e
 |ins C dx fs=>obtain⟨_,_,_,e,_⟩:=x;exact Os e
 |own y=>obtain⟨_,e⟩:=x;exact Os e
 |xd fs=>obtain⟨_,⟨_,_,_,e,_⟩,_⟩:=x;exact Os e
 |rng lo hi=>obtain⟨_,_,_,e⟩:=x;exact Os e
 |frz ob u=>obtain⟨e,_⟩:=x;exact Os e
 |tbl q=>obtain⟨_,e,_⟩:=x;exact Os e
 |met f y=>exact Os (show h.get? a=ZA _ from x)
 |ext φ=>obtain⟨_,⟨_,e⟩,_⟩:=x;exact Os e
theorem Paired.NA{F G:α->β->Prop}:∀{l₁:List α}{l₂:List β},Uj F l₁ l₂->(∀a b,F a b->G a b)->Uj G l₁ l₂
 |_,_,.nil,_=>.nil
 |_,_,.cons r t,f=>.cons (f _ _ r) (Paired.NA t f)
def ObjOk.M4(x:ObjOk P w H h a o)(k:∀b u,(b=a\/H b=ZA (.own a))->h.get? b=ZA u->h'.get? b=ZA u)
  (ho:∀b,H b=ZA (.own a)->H' b=ZA (.own a)) (ht:∀b xs,H b=ZA (.tup xs)->H' b=ZA (.tup xs)):ObjOk P w H' h' a o:=by
 induction o with
 |lst xs=>obtain⟨z,its,n,r,e⟩:=x;exact⟨z,its,n,r,k _ _ (.inl rfl) e⟩
 |tup xs=>obtain⟨z,its,r,ob,e,c⟩:=x;exact⟨z,its,r,ob,k _ _ (.inl rfl) e,c⟩
 |dK kvs=>obtain⟨z,y,vs,r,ob,es,ep,e,c⟩:=x;exact⟨z,y,vs,r,ob,es,ep,k _ _ (.inl rfl) e,c⟩
 |dT kvs=>
  obtain⟨z,y,xs,r,ob,es,ep,e,c⟩:=x;exact⟨z,y,xs,Paired.NA r λp q z=>⟨z.1,ht _ _ z.2.1,z.2.2⟩,ob,es,ep,k _ _ (.inl rfl) e,c⟩
 |set S n=>obtain⟨ob,es,ep,t,e,c⟩:=x;exact⟨ob,es,ep,t,k _ _ (.inl rfl) e,c⟩
 |ins C dx fs=>
  obtain⟨d,z,ne,e,mA,⟨od,es,ep,e2,c⟩,r⟩:=x;exact⟨ho _ d,z,ne,k _ _ (.inl rfl) e,mA,⟨od,es,ep,k _ _ (.inr d) e2,c⟩,r⟩
 |own y=>obtain⟨ob,e⟩:=x;exact⟨ob,k _ _ (.inl rfl) e⟩
 |xd fs=>obtain⟨mA,⟨od,es,ep,e,c⟩,r⟩:=x;exact⟨mA,⟨od,es,ep,k _ _ (.inl rfl) e,c⟩,r⟩
 |rng lo hi=>obtain⟨t,u,v,e⟩:=x;exact⟨t,u,v,k _ _ (.inl rfl) e⟩
 |frz ob u ih=>obtain⟨e,q⟩:=x;exact⟨k _ _ (.inl rfl) e,ih q⟩
 |tbl q=>
  obtain⟨ps,e,z,r⟩:=x;exact⟨ps,k _ _ (.inl rfl) e,z,λpos v ev=>let ⟨c,oc,vs,t,a1,a2,a3,a4⟩:=r pos v ev;⟨c,oc,vs,t,a1,ho _ a2,k _ _ (.inr a2) a3,a4⟩⟩
 |met f y=>
  have e:h.get? a=ZA (TK (.ref f) (.ref y)):=x;show h'.get? a=ZA (TK (.ref f) (.ref y));exact k a _ (.inl rfl) e
 |ext φ=>obtain⟨p,⟨o,e⟩,st⟩:=x;exact⟨st _ _ p λo q=>k _ _ (.inl rfl) q,⟨o,k _ _ (.inl rfl) e⟩,st⟩
theorem HOk.lt(x:HOk P w H h)(e:H a=ZA o):a<h.objs.size:=(x a o e).lt
def HOk.fresh(x:HOk P w H h)(e:h.objs.size<=a):H a=ZB:=by
 cases q:H a with
 |none=>rfl
 |some u=>exact absurd (Oo (x.lt q) e) (O7 _)
def HOk.kept(x:HOk P w H h)(k:∀b u,h.get? b=ZA u->h'.get? b=ZA u):HOk P w H h':=λa o e=>
 (x a o e).M4 (λb u _ q=>k b u q) (λ_ q=>q) λ_ _ q=>q
def HOk.laid(x:HOk P w H h)(k:∀b u,h.get? b=ZA u->h'.get? b=ZA u)(hp:h.objs.size<=a)(new:ObjOk P w (upd H a o) h' a o):HOk P w (upd H a o) h':=λb u e=>by
 have hn:=x.fresh hp;by_cases hb:b=a
 .subst hb;rw[aH]at e;cases e;exact new
 .rw[aF hb]at e;exact(x b u e).M4 (λc v _ q=>k c v q) (λc q=>by rw[aF (cY q hn)];exact q) λc xs q=>by rw[aF (cY q hn)];exact q
end
def Rd(H:Hp)(a:ZE)(u:HO):Prop:=H a=ZA u\/∃o,H a=ZA (.frz o u)
def Rd.ok{u:HO}(r:Rd H a u)(x:HOk P w H h):ObjOk P w H h a u:=by
 rcases r with r|⟨o,r⟩
 .exact x a u r
 .obtain⟨_,q⟩:=x a _ r;exact q
def ME:Option HO->Prop
 |some (.lst _)=>True
 |some (.dK _)=>True
 |some (.dT _)=>True
 |some (.set _ _)=>True
 |some (.ins _ _ _)=>True
 |some (.ext _)=>True
 |_=>False
variable{e:ZE}
section
variable {x:ZE}{o':HO}
def HOk.write(ok:HOk P w H h)(mu:ME (H x))(he:e=x\/H e=ZA (.own x))(k:∀b u,b≠e->h.get? b=ZA u->h'.get? b=ZA u)(heo:∃u,h'.get? e=ZA u)
  (new:ObjOk P w (upd H x o') h' x o'):HOk P w (upd H x o') h':=λb u q=>by
 have nown:∀c y,H c=ZA (.own y)->c≠x:=λc y r z=>by subst z;rw[r]at mu;exact mu
 have ntup:∀c xs,H c=ZA (.tup xs)->c≠x:=λc xs r z=>by subst z;rw[r]at mu;exact mu
 by_cases hb:b=x
 .subst hb;rw[aH]at q;cases q;exact new
 .rw[aF hb]at q;by_cases hbe:b=e
  .have q':H b=ZA (.own x):=by
    rcases he with z|z
    .exact absurd (hbe.trans z) hb
    .rw[hbe];exact z
   rw[q]at q';cases q';obtain⟨v,hv⟩:=heo;exact⟨v,by rw[hbe];exact hv⟩
  .refine(ok b u q).M4 (λc v hc r=>k c v ?_ r) (λc r=>by rw[aF (nown c b r)];exact r) λc xs r=>by rw[aF (ntup c xs r)];exact r
   rcases hc with rfl|hc
   .exact hbe
   .rintro rfl;rcases he with z|z
    .exact nown c b hc z
    .rw[hc]at z;cases z;exact hb rfl
end
structure Un (fs ex:List ZE)(H H':Hp)(h h':ZH):Prop where
 keep:∀b o,h.get? b=ZA o->H b=ZB->b∉fs->b∉ex->h'.get? b=ZA o
 slot:∀b o,h.get? b=ZA o->H b=ZB->b∈fs->b∉ex->∃sl,h'.get? b=ZA {o with slots:=sl}
 free:∀b o,h.get? b=ZA o->H b=ZB->b∉ex->H' b=ZB
 there:∀b o,h.get? b=ZA o->b∉ex->∃o',h'.get? b=ZA o'
 tups:∀b xs,H b=ZA (.tup xs)->H' b=ZA (.tup xs)
 frzs:∀b o u,H b=ZA (.frz o u)->H' b=ZA (.frz o u)
 tbls:∀b ps,H b=ZA (.tbl ps)->H' b=ZA (.tbl ps)
section
variable {fs fs' ex ex':List ZE}{H1 H2:Hp}{h1 h2:ZH}{x:ZE}{o:HO}
def Un.any(u:Un fs ex H H1 h h1){ob:Obj}(q:h.get? b=ZA ob)(n:H b=ZB)(hx:b∉ex):∃sl,h1.get? b=ZA {ob with slots:=sl}:=by
 by_cases hb:b∈fs
 .exact u.slot b ob q n hb hx
 .exact⟨ob.slots,u.keep b ob q n hb hx⟩
def Un.kept(k:∀b u,h.get? b=ZA u->h'.get? b=ZA u):Un fs ex H H h h':=
 ⟨λb ob q _ _ _=>k b ob q,λb ob q _ _ _=>⟨ob.slots,k b ob q⟩,λ_ _ _ n _=>n,λb ob q _=>⟨ob,k b ob q⟩,λ_ _ q=>q,λ_ _ _ q=>q,λ_ ps q=>(by rw[q])⟩
def Un.refl:Un fs ex H H h h:=Un.kept λ_ _ q=>q
def Un.laid(k:∀b u,h.get? b=ZA u->h'.get? b=ZA u)(hp:h.objs.size<=a)(hn:H a=ZB):Un fs ex H (upd H a o) h h' where
 keep:=λb u q _ _ _=>k b u q
 slot:=λb u q _ _ _=>⟨u.slots,k b u q⟩
 free:=λb u q n _=>by rw[aF (O5 (Oo (Os q) hp))];exact n
 there:=λb u q _=>⟨u,k b u q⟩
 tups:=λb xs q=>by rw[aF (cY q hn)];exact q
 frzs:=λb u xs q=>by rw[aF (cY q hn)];exact q
 tbls:=λb ps q=>(by rw[aF (cY q hn),q])
def Un.write(mu:ME (H x))(he:e=x\/H e=ZA (.own x))(k:∀b u,b≠e->h.get? b=ZA u->h'.get? b=ZA u)(heo:∃u,h'.get? e=ZA u):Un fs ex H (upd H x o) h h':=by
 have hx:∀b,H b=ZB->b≠x:=λb n z=>by subst z;rw[n]at mu;exact mu
 have hb:∀b,H b=ZB->b≠e:=λb n z=>by
  subst z;rcases he with r|r
  .exact hx b n r
  .rw[n]at r;cases r
 have hm:∀b u,H b=ZA u->¬ ME (ZA u)->b≠x:=λb u q nm z=>by subst z;rw[q]at mu;exact nm mu
 refine⟨λb u q n _ _=>k b u (hb b n) q,λb u q n _ _=>⟨u.slots,k b u (hb b n) q⟩,λb u q n _=>by rw[aF (hx b n)];exact n,λb u q _=>?_,
  λb xs q=>by rw[aF (hm b _ q λz=>z)];exact q,λb u xs q=>by rw[aF (hm b _ q λz=>z)];exact q,λb ps q=>(by rw[aF (hm b _ q λz=>z),q])⟩
 by_cases hbe:b=e
 .subst hbe;exact heo
 .exact⟨u,k b u hbe q⟩
end
def trk(h:ZH)(H:Hp):List ZE:=(Oj h.objs.size).filter λa=>(H a).isSome
def uK(h:ZH)(H:Hp):ZH:=Ux h (trk h H)
def Bc(h:ZH)(H:Hp):(uK h H).objs.size=h.objs.size:=PySem.W.hideAll_size _ _
def DQ{o:Obj}(e:h.get? b=ZA o)(n:H b=ZB):(uK h H).get? b=ZA o:=
 Rk _ e λhm=>by have q:(H b).isSome=ZC:=(PH.mp hm).2;rw[n]at q;simp at q
def F9{o:Obj}(e:(uK h H).get? b=ZA o):h.get? b=ZA o/\H b=ZB:=by
 have e':h.get? b=ZA o:=Tq (trk h H) e;refine⟨e',?_⟩;cases q:H b with
 |none=>rfl
 |some x=>
  have hm:b∈trk h H:=PH.mpr ⟨OZ.mpr (Os e'),by simp[q]⟩;have z:(uK h H).get? b=ZB:=SW (trk h H) hm;rw[z]at e;cases e
def G3(g h:ZH)(L:ZE):Uf:=(Oj h.objs.size).filterMap λa=>if a=L\/(g.get? a).isSome=ZC then ZB else(h.get? a).map λo=>(a,o)
def dy(g h:ZH)(L d:ZE):Uf:=(G3 g h L).filter λp=>decide (p.1≠d)
structure Mod (K:N4)(mg:WF)(base:ZH):Prop where
 kin:K.In base
 glob:base.Ns OJ mg
 blt:∃mb,base.Ns R8 mb/\∀x:Str,x≠ "__name__"->mb x=O9 x
 nolimit:base.NoLimit
set_option genInjectivity false in
structure Cx where
 prog:OF
 w:Pv
 K:N4
 mg:WF
 base:ZH
 A:OU
 N:List Str
 s₀:Oc
 H₀:Hp
 env:Env
 outer:List Env
 stack:List Env
 ex:List ZE
 fn:Str->Bool
 calm:Bool
 pn:Uf
 xe:WP
def kJ(l:List Env):List ZE:=l.filterMap (·.frame)
abbrev Cx.fs(X:Cx):List ZE:=kJ X.outer
def u6(sc:RF)(x:Str):Prop:=sc.names.lookup x=ZA .local\/sc.names.lookup x=ZA .cell\/sc.names.lookup x=ZA .free
def Loc(sc:RF)(x:Str):Prop:=sc.names.lookup x=ZA .local\/sc.names.lookup x=ZA .cell
def Look(env:Env)(h:ZH)(m:WF)(x:Str)(u:N8):Prop:=
 (env.kindOf x=ZA .local/\m x=ZA u)\/((env.kindOf x=ZA .cell\/env.kindOf x=ZA .free)/\∃c,env.cells.lookup x=ZA c/\h.IsCell c (ZA u))
noncomputable def n6:Str:="most_kept" ++ ".<locals>." ++ "<lambda>"
def Tb(K:N4)(mg:WF)(H:Hp):Prop:=∀f o fd c oc vs P,mg "most_kept" =ZA (.ref f)->K.lookup f=ZA o->o.data=.func fd->fd.code=.ref c->K.lookup c=ZA oc->oc.data=.fields vs->vs[11]?=ZA (.ref P)->H P=ZA (.tbl n6)
structure Cx.Ok (X:Cx):Prop where
 mod:Mod X.K X.mg X.base
 kind:X.env.scope.kind=.function
 glob:X.env.globals=OJ
 blt:X.env.builtins=R8
 above:X.s₀.heap.objs.size<=X.env.locals
 inj:∀x y c,X.env.cells.lookup x=ZA c->X.env.cells.lookup y=ZA c->x=y
 has:∀x,(X.env.kindOf x=ZA .cell\/X.env.kindOf x=ZA .free)->∃c,X.env.cells.lookup x=ZA c
 cab:∀x c,X.fn x=ZC->X.env.cells.lookup x=ZA c->X.s₀.heap.objs.size<=c
 hd:X.calm=ZC->X.A.handled=ZB
 frames:X.A.frames=ZA X.stack
 stk:X.stack=X.outer\/(X.stack=X.env::X.outer/\X.env.frame=ZA X.env.locals)
 exf:∀b∈X.ex,b≠X.env.locals/\∀x c,X.env.cells.lookup x=ZA c->c≠b
 bs:∀b o,X.base.get? b=ZA o->X.s₀.heap.get? b=ZA o/\X.H₀ b=ZB
 bsz:X.base.objs.size<=X.s₀.heap.objs.size
 noex:∀b o,X.base.get? b=ZA o->b∉X.ex
 exfs:∀b∈X.ex,b∉X.fs
 funs:X.s₀.heap.FunFrames X.base X.outer
 frf:∀b∈X.fs,X.H₀ b=ZB
 tb:Tb X.K X.mg X.H₀
structure Inv (X:Cx)(kw:Uf)(σ:List (Option V))(H:Hp)(s:Oc):Prop where
 ok:X.Ok
 os:s.os=X.s₀.os
 bare:Rh s.gens
 base:Un X.fs X.ex X.H₀ H X.s₀.heap s.heap
 loc:∃m,s.heap.Ns X.env.locals m/\∀(i:Nat)(x:Str)(v:V),X.N[i]?=ZA x->σ[i]?=ZA (ZA v)->u6 X.env.scope x->∃u,RelV v u/\Look X.env s.heap m x u
 cell:∀x c,X.env.cells.lookup x=ZA c->∃v,s.heap.IsCell c v
 free:H X.env.locals=ZB
 freeC:∀x c,X.env.cells.lookup x=ZA c->H c=ZB
 pin:∀p∈X.pn++kw,s.heap.get? p.1=ZA p.2/\H p.1=ZB/\p.1≠X.env.locals/\p.1∉X.fs/\∀v,p.2.data≠ .cell v
 hok:HOk X.prog X.w H s.heap
 len:σ.length=X.N.length
variable{N:List Str}{X:Cx}{it:ZE}{kw:Uf}{v:V}{x:Str}
section
variable {σ:List (Option V)}
def Cx.Ok.N1(ok:X.Ok){o:Obj}(e:X.base.get? b=ZA o):b∉X.fs:=λhb=>by have:=(ok.funs.mem hb).1;rw[e]at this;cases this
theorem Inv.bs(I:Inv X kw σ H s):∀b o,X.base.get? b=ZA o->s.heap.get? b=ZA o/\H b=ZB:=λb o e=>
 ⟨I.base.keep b o (I.ok.bs b o e).1 (I.ok.bs b o e).2 (I.ok.N1 e) (I.ok.noex b o e),I.base.free b o (I.ok.bs b o e).1 (I.ok.bs b o e).2 (I.ok.noex b o e)⟩
def Inv.bk(I:Inv X kw σ H s):∀b o,X.base.get? b=ZA o->s.heap.get? b=ZA o:=λb o e=>(I.bs b o e).1
theorem Inv.mod(I:Inv X kw σ H s):Mod X.K X.mg X.base:=I.ok.mod
theorem Inv.tb(I:Inv X kw σ H s):Tb X.K X.mg H:=λf o fd c oc vs P a1 a2 a3 a4 a5 a6 a7=>I.base.tbls P _ (I.ok.tb f o fd c oc vs P a1 a2 a3 a4 a5 a6 a7)
def Inv.kIn(I:Inv X kw σ H s):X.K.In s.heap:=I.ok.mod.kin.keeps I.bk
theorem Inv.lt(I:Inv X kw σ H s):X.env.locals<s.heap.objs.size:=let ⟨_,hn,_⟩:=I.loc;hn.lt
def Inv.sz(I:Inv X kw σ H s):X.s₀.heap.objs.size<=s.heap.objs.size:=OG I.ok.above (P9 I.lt)
def Inv.NZ(I:Inv X kw σ H s)(h:s.heap.objs.size<=a):a∉X.fs:=λhb=>by obtain⟨_,o,ho,_⟩:=I.ok.funs.mem hb;exact absurd (Oo (Os ho) (OG I.sz h)) (O7 _)
def Inv.cne(I:Inv X kw σ H s):∀x c,X.env.cells.lookup x=ZA c->c≠X.env.locals:=λx c e z=>by obtain⟨v,o,ho,hd⟩:=I.cell x c e;obtain⟨m,⟨o',es,ep,ho',hd',_⟩,_⟩:=I.loc;rw[z,ho']at ho;cases ho;rw[hd']at hd;cases hd
theorem Inv.funs(I:Inv X kw σ H s):s.heap.FunFrames X.base X.outer:=by
 have all:∀(l:List Env),(∀b∈kJ l,b∈X.fs)->X.s₀.heap.FunFrames X.base l->s.heap.FunFrames X.base l:=by
  intro l;induction l with
  |nil=>intro _ _;trivial
  |cons env r ih=>
   intro hs hl;obtain⟨hk,⟨L,o,hf,hn,ho,hd⟩,hr⟩:=hl;have hL:L∈X.fs:=hs L (by unfold kJ;rw[P6,hf];exact Ob);obtain⟨sl,e⟩:=I.base.slot L o ho (I.ok.frf L hL) hL λz=>I.ok.exfs L z hL;exact⟨hk,⟨L,_,hf,hn,e,hd⟩,ih (λb hb=>hs b (by unfold kJ;rw[P6,hf];exact N6 _ hb)) hr⟩
 exact all X.outer (λ_ hb=>hb) I.ok.funs
def Inv.stack(I:Inv X kw σ H s):s.heap.FunFrames X.base X.stack:=by
 rcases I.ok.stk with e|⟨e,hf⟩
 .rw[e];exact I.funs
 .rw[e];obtain⟨m,hn,_⟩:=I.loc;refine .cons (by rw[I.ok.kind];decide) hf hn ?_ I.funs;exact Heap.get?_none_of_le (OG I.ok.bsz I.ok.above)
def Inv.Nh(I:Inv X kw σ H s):∀b∈kJ X.stack,b∈X.env.locals::X.fs:=λb hb=>by
 rcases I.ok.stk with e|⟨e,hf⟩
 .rw[e]at hb;exact N6 _ hb
 .rw[e]at hb;unfold kJ at hb;rw[P6,hf]at hb;exact hb
def Inv.IR(I:Inv X kw σ H s):∀b∈kJ X.stack,H b=ZB:=λb hb=>by
 rcases Oe.mp (I.Nh b hb)with e|hb
 .rw[e];exact I.free
 .obtain⟨_,o,ho,_⟩:=I.ok.funs.mem hb;exact I.base.free b o ho (I.ok.frf b hb) λz=>I.ok.exfs b z hb
def Inv.step{g':Array VJ}{t':Nat}{d':Drawn}{ch:List ZE}(I:Inv X kw σ H s)
  (hch:∀b∈ch,(b∈X.ex\/X.s₀.heap.objs.size<=b)/\b≠X.env.locals/\(∀x c,X.env.cells.lookup x=ZA c->c≠b)/\∀p∈X.pn++kw,p.1≠b)
  (keep:∀b o,b≠X.env.locals->b∉X.fs->b∉ch->s.heap.get? b=ZA o->H b=ZB->h'.get? b=ZA o)
  (slot:∀b o,b≠X.env.locals->b∈X.fs->b∉ch->s.heap.get? b=ZA o->H b=ZB->∃sl,h'.get? b=ZA {o with slots:=sl}) (free:∀b o,b∉ch->s.heap.get? b=ZA o->H b=ZB->H' b=ZB)
  (there:∀b o,b∉ch->s.heap.get? b=ZA o->∃o',h'.get? b=ZA o')
  (tups:∀b xs,H b=ZA (.tup xs)->H' b=ZA (.tup xs)) (frzs:∀b o u,H b=ZA (.frz o u)->H' b=ZA (.frz o u)) (tbls:∀b ps,H b=ZA (.tbl ps)->H' b=ZA (.tbl ps))
  (ns:∀m,s.heap.Ns X.env.locals m->h'.Ns X.env.locals m) (hok:HOk X.prog X.w H' h') (hg:Rh g'):
  Inv X kw σ H' {s with heap:=h',gens:=g',drawn:=d',toks:=t'}:=by
 have neL:∀b o,X.s₀.heap.get? b=ZA o->b≠X.env.locals:=λb o e=>O5 (Oo (Os e) I.ok.above);have neC:∀b o,X.s₀.heap.get? b=ZA o->b∉X.ex->b∉ch:=λb o e hx hb=>by
  rcases(hch b hb).1 with z|z
  .exact hx z
  .exact absurd (Oo (Os e) z) (O7 _)
 have cellK:∀x c,X.env.cells.lookup x=ZA c->∀v,s.heap.IsCell c v->h'.IsCell c v:=λx c e v hh_=>by
  obtain⟨o,ho,hd⟩:=hh_;have nch:c∉ch:=λz=>(hch c z).2.2.1 x c e rfl;by_cases hc:c∈X.fs
  .obtain⟨sl,q⟩:=slot c o (I.cne x c e) hc nch ho (I.freeC x c e);exact⟨_,q,hd⟩
  .exact⟨o,keep c o (I.cne x c e) hc nch ho (I.freeC x c e),hd⟩
 refine⟨I.ok,I.os,hg,⟨λb o e n hb hx=>?_,λb o e n hb hx=>?_,λb o e n hx=>?_,λb o e hx=>?_,λb xs e=>tups b xs (I.base.tups b xs e),λb o xs e=>frzs b o xs (I.base.frzs b o xs e),λb ps e=>?_⟩,?_,λx c e=>?_,?_,λx c e=>?_,λp hp=>?_,hok,I.len⟩
 .exact keep b o (neL b o e) hb (neC b o e hx) (I.base.keep b o e n hb hx) (I.base.free b o e n hx)
 .obtain⟨sl,e1⟩:=I.base.slot b o e n hb hx;obtain⟨sl',e2⟩:=slot b _ (neL b o e) hb (neC b o e hx) e1 (I.base.free b o e n hx);exact⟨sl',e2⟩
 .obtain⟨o',e1⟩:=I.base.there b o e hx;exact free b o' (neC b o e hx) e1 (I.base.free b o e n hx)
 .obtain⟨o',e1⟩:=I.base.there b o e hx;exact there b o' (neC b o e hx) e1
 .exact tbls b _ (I.base.tbls b ps e)
 .obtain⟨m,hn,hl⟩:=I.loc;refine⟨m,ns m hn,λi x v e1 e2 e3=>?_⟩;obtain⟨u,r,l⟩:=hl i x v e1 e2 e3;refine⟨u,r,?_⟩;rcases l with l|⟨k,c,e,z⟩
  .exact .inl l
  .exact .inr ⟨k,c,e,cellK x c e _ z⟩
 .obtain⟨v,z⟩:=I.cell x c e;exact⟨v,cellK x c e v z⟩
 .obtain⟨m,⟨o,_,_,ho,_⟩,_⟩:=I.loc;exact free _ o (λz=>(hch _ z).2.1 rfl) ho I.free
 .obtain⟨v,o,ho,hd⟩:=I.cell x c e;exact free c o (λz=>(hch c z).2.2.1 x c e rfl) ho (I.freeC x c e)
 .obtain⟨e,n,ne,nf,d⟩:=I.pin p hp;have nch:p.1∉ch:=λz=>(hch p.1 z).2.2.2 p hp rfl;exact⟨keep p.1 p.2 ne nf nch e n,free p.1 p.2 nch e n,ne,nf,d⟩
def Inv.un(I:Inv X kw σ H s)(u:Un X.fs [] H H' s.heap h')(hok:HOk X.prog X.w H' h'):Inv X kw σ H' {s with heap:=h',toks:=t'}:=by
 obtain⟨m,⟨o,es,ep,ho,r⟩,_⟩:=id I.loc;obtain⟨sl,hL⟩:=u.any ho I.free (by simp);exact I.step (g':=s.gens) (d':=s.drawn) (ch:=[]) (λ_ z=>nomatch z) (λb o _ hb _ e n=>u.keep b o e n hb (by simp)) (λb o _ hb _ e n=>u.slot b o e n hb (by simp)) (λb o _ e n=>u.free b o e n (by simp)) (λb o _ e=>u.there b o e (by simp)) u.tups u.frzs u.tbls (λm' hm=>by obtain⟨o',es',ep',ho',r'⟩:=hm;rw[ho]at ho';cases ho';exact⟨_,es',ep',hL,r'⟩) hok I.bare
def Inv.call{g':Array VJ}{d':Drawn}{ch:List ZE}(I:Inv X kw σ H s)(u:Un (kJ X.stack) ch H H' s.heap h')(hok:HOk X.prog X.w H' h')(hg:Rh g')
  (hch:∀b∈ch,(b∈X.ex\/X.s₀.heap.objs.size<=b)/\b≠X.env.locals/\(∀x c,X.env.cells.lookup x=ZA c->c≠b)/\∀p∈X.pn++kw,p.1≠b):
  Inv X kw σ H' {s with heap:=h',gens:=g',drawn:=d',toks:=t'}:=by
 obtain⟨m,⟨o,es,ep,ho,r⟩,_⟩:=id I.loc;obtain⟨sl,hL⟩:=u.any ho I.free λz=>(hch _ z).2.1 rfl;exact I.step (ch:=ch) hch (λb o hL hb hc e n=>u.keep b o e n (λz=>(Oe.mp (I.Nh b z)).elim hL hb) hc) (λb o _ _ hc e n=>u.any e n hc) (λb o hc e n=>u.free b o e n hc) (λb o hc e=>u.there b o e hc) u.tups u.frzs u.tbls (λm' hm=>by obtain⟨o',es',ep',ho',r'⟩:=hm;rw[ho]at ho';cases ho';exact⟨_,es',ep',hL,r'⟩) hok hg
def Inv.turned(I:Inv X kw σ H s)(k:∀b o,b≠it->s.heap.get? b=ZA o->h'.get? b=ZA o)(hn:H it=ZB)(hL:it≠X.env.locals)
  (h1:it∈X.ex\/X.s₀.heap.objs.size<=it) (h2:∀x c,X.env.cells.lookup x=ZA c->c≠it) (h3:∀p∈X.pn++kw,p.1≠it):Inv X kw σ H {s with heap:=h',toks:=t'}:=by
 have nit:∀b u,H b=ZA u->b≠it:=λb u e z=>by rw[z,hn]at e;cases e
 refine I.step (g':=s.gens) (d':=s.drawn) (ch:=[it]) (λb hb=>?_) (λb o _ _ hc e _=>k b o (λz=>hc (by simp[z])) e) (λb o _ _ hc e _=>⟨o.slots,k b o (λz=>hc (by simp[z])) e⟩) (λ_ _ _ _ n=>n)
  (λb o hc e=>⟨o,k b o (λz=>hc (by simp[z])) e⟩) (λ_ _ e=>e) (λ_ _ _ e=>e) (λb ps e=>(by rw[e])) (λm hm=>?_) (λb u e=>?_) I.bare
 .have e:b=it:=by simpa using hb
  subst e;exact⟨h1,hL,h2,h3⟩
 .obtain⟨o,es,ep,ho,r⟩:=hm;exact⟨o,es,ep,k _ o (PJ hL) ho,r⟩
 .refine(I.hok b u e).M4 (λc v hc q=>k c v ?_ q) (λ_ q=>q) λ_ _ q=>q;rcases hc with z|z
  .rw[z];exact nit b u e
  .exact nit c _ z
def Inv.tok(I:Inv X kw σ H s)(t:Nat):Inv X kw σ H {s with toks:=t}:=I.un (h':=s.heap) (t':=t) Un.refl I.hok
theorem Inv.kept(I:Inv X kw σ H s)(k:∀b u,s.heap.get? b=ZA u->h'.get? b=ZA u):Inv X kw σ H {s with heap:=h',toks:=t'}:=I.un (Un.kept k) (I.hok.kept k)
theorem Inv.laid{o:HO}(I:Inv X kw σ H s)(k:∀b u,s.heap.get? b=ZA u->h'.get? b=ZA u)(hp:s.heap.objs.size<=a)(new:ObjOk X.prog X.w (upd H a o) h' a o):
  Inv X kw σ (upd H a o) {s with heap:=h',toks:=t'}:=I.un (Un.laid k hp (I.hok.fresh hp)) (I.hok.laid k hp new)
theorem Inv.write{x:ZE}{o:HO}(I:Inv X kw σ H s)(mu:ME (H x))(he:e=x\/H e=ZA (.own x))(k:∀b u,b≠e->s.heap.get? b=ZA u->h'.get? b=ZA u)(heo:∃u,h'.get? e=ZA u)
  (new:ObjOk X.prog X.w (upd H x o) h' x o):Inv X kw σ (upd H x o) {s with heap:=h',toks:=t'}:=I.un (Un.write mu he k heo) (I.hok.write mu he k heo new)
def Inv.Nk{pins':Uf}(I:Inv X kw σ H s)(h:∀p∈pins',s.heap.get? p.1=ZA p.2/\H p.1=ZB/\p.1≠X.env.locals/\p.1∉X.fs/\∀v,p.2.data≠ .cell v):Inv X pins' σ H s:=
 ⟨I.ok,I.os,I.bare,I.base,I.loc,I.cell,I.free,I.freeC,λp hp=>(OP.mp hp).elim (λz=>I.pin p (O6 _ z)) (h p),I.hok,I.len⟩
def wm(hN:N.Nodup)(a:N[i]?=ZA x)(b:N[j]?=ZA x):i=j:=by obtain⟨h1,e1⟩:=Og.mp a;obtain⟨h2,e2⟩:=Og.mp b;exact(List.getElem_inj hN).mp (e1.trans e2.symm)
variable{Q:Unit->Oc->Prop}
def rO{u:N8}(I:Inv X kw σ H s)(hN:X.N.Nodup)(hi:X.N[i]?=ZA x)(hx:Loc X.env.scope x)(r:RelV v u)
  (h:∀s',Inv X kw (σ.set i (ZA v)) H s'->(∃a,SF a s.heap s'.heap/\(a=X.env.locals\/X.env.cells.lookup x=ZA a))->Q () s') (hf:autoParam (X.fn x=ZC\/X.env.scope.names.lookup x=ZA .local) r_):ZJ M A (storeName X.env x u) Q E s:=by
 obtain⟨m,hn,hl⟩:=id I.loc;have hcls:(X.env.scope.kind == .class||(X.env.scope.kind == .module&&X.env.locals != X.env.globals))=ZD:=by rw[I.ok.kind];rfl
 have hiσ:i<σ.length:=by rw[I.len];exact(Og.mp hi).1
 have cne:=I.cne;have tracked:∀{a:ZE}{h':ZH},(∃o,s.heap.get? a=ZA o/\H a=ZB)->SF a s.heap h'->HOk X.prog X.w H h':=λ{a h'} ha hs b ob e=>by
  obtain⟨_,_,hfree⟩:=ha;refine(I.hok b ob e).M4 (λc w' hc q=>(hs.2 c ?_).trans q) (λ_ q=>q) λ_ _ q=>q;rintro rfl;rcases hc with rfl|hc
  .rw[hfree]at e;cases e
  .rw[hfree]at hc;cases hc
 rcases hx with hk|hk
 .refine wpAny_storeName_local hk hn (λh' hn' hs=>?_) hcls;obtain⟨oL,_,_,hoL,_⟩:=id hn;refine h _ ⟨I.ok,I.os,I.bare,⟨λb o e n hb hx=>?_,λb o e n hb hx=>?_,I.base.free,λb o e hx=>?_,I.base.tups,I.base.frzs,I.base.tbls⟩,⟨_,hn',λj y v' e1 e2 e3=>?_⟩,λy c e=>?_,I.free,I.freeC,λp hp=>?_,tracked ⟨oL,hoL,I.free⟩ hs,by simpa using I.len⟩ ⟨_,hs,.inl rfl⟩
  .exact(hs.2 b (O5 (Oo (Os e) I.ok.above))).trans (I.base.keep b o e n hb hx)
  .obtain⟨sl,e1⟩:=I.base.slot b o e n hb hx;exact⟨sl,(hs.2 b (O5 (Oo (Os e) I.ok.above))).trans e1⟩
  .obtain⟨o',e1⟩:=I.base.there b o e hx;exact⟨o',(hs.2 b (O5 (Oo (Os e) I.ok.above))).trans e1⟩
  .by_cases hj:j=i
   .subst hj;rw[hi]at e1;cases e1;rw[OS hiσ]at e2;cases e2;exact⟨u,r,.inl ⟨hk,by simp⟩⟩
   .rw[OY (PJ hj)]at e2;obtain⟨u',r',q⟩:=hl j y v' e1 e2 e3;refine⟨u',r',?_⟩;rcases q with⟨k,e⟩|⟨k,c,e,z⟩
    .refine .inl ⟨k,?_⟩;have:y≠x:=λe=>hj (wm hN e1 (e▸hi));simp[this,e]
    .exact .inr ⟨k,c,e,z.sameBut hs (cne y c e)⟩
  .obtain⟨w',z⟩:=I.cell y c e;exact⟨w',z.sameBut hs (cne y c e)⟩
  .obtain⟨e,n,ne,nf,d⟩:=I.pin p hp;exact⟨(hs.2 p.1 ne).trans e,n,ne,nf,d⟩
 .have hfn:X.fn x=ZC:=by
   rcases hf with z|z
   .exact z
   .rw[z]at hk;cases hk
  obtain⟨c,hc⟩:=I.ok.has x (.inl hk);obtain⟨w',z⟩:=I.cell x c hc;refine wpAny_storeName_cell I.ok.kind hk hc z (λh' hc' hs=>?_);obtain⟨oc,hoc,hocd⟩:=id z;refine h {s with heap:=h'} ⟨I.ok,I.os,I.bare,⟨λb o e n hb hx=>?_,λb o e n hb hx=>?_,I.base.free,λb o e hx=>?_,I.base.tups,I.base.frzs,I.base.tbls⟩,⟨m,hn.sameBut hs (PJ (cne x c hc)),λj y v' e1 e2 e3=>?_⟩,λy c' e=>?_,I.free,I.freeC,λp hp=>?_,tracked ⟨oc,hoc,I.freeC x c hc⟩ hs,by simpa using I.len⟩ ⟨c,hs,.inr hc⟩
  .exact(hs.2 b (O5 (Oo (Os e) (I.ok.cab x c hfn hc)))).trans (I.base.keep b o e n hb hx)
  .obtain⟨sl,e1⟩:=I.base.slot b o e n hb hx;exact⟨sl,(hs.2 b (O5 (Oo (Os e) (I.ok.cab x c hfn hc)))).trans e1⟩
  .obtain⟨o',e1⟩:=I.base.there b o e hx;exact⟨o',(hs.2 b (O5 (Oo (Os e) (I.ok.cab x c hfn hc)))).trans e1⟩
  .by_cases hj:j=i
   .subst hj;rw[hi]at e1;cases e1;rw[OS hiσ]at e2;cases e2;exact⟨u,r,.inr ⟨.inl hk,c,hc,hc'⟩⟩
   .rw[OY (PJ hj)]at e2;obtain⟨u',r',q⟩:=hl j y v' e1 e2 e3;refine⟨u',r',?_⟩;rcases q with q|⟨k,c',e,z'⟩
    .exact .inl q
    .refine .inr ⟨k,c',e,z'.sameBut hs ?_⟩;rintro rfl;exact hj (wm hN e1 (I.ok.inj _ _ _ e hc▸hi))
  .by_cases hcc:c'=c
   .subst hcc;exact⟨_,hc'⟩
   .obtain⟨w2,z2⟩:=I.cell y c' e;exact⟨w2,z2.sameBut hs hcc⟩
  .obtain⟨e,n,ne,nf,d⟩:=I.pin p hp;refine⟨(hs.2 p.1 ?_).trans e,n,ne,nf,d⟩;intro q;rw[q,hoc]at e;have q':oc=p.2:=OM e;exact d w' (by rw[<-q'];exact hocd)
def lM{u:N8}(I:Inv X kw σ H s)(hN:X.N.Nodup)(hi:X.N[i]?=ZA x)(hx:Loc X.env.scope x)(r:RelV v u)
  (h:∀s',Inv X kw (σ.set i (ZA v)) H s'->Q () s') (hf:autoParam (X.fn x=ZC\/X.env.scope.names.lookup x=ZA .local) r_):ZJ M A (storeName X.env x u) Q E s:=
 rO I hN hi hx r (λs' I' _=>h s' I') hf
def Inv.Nu{ch:List ZE}(I:Inv X kw σ H s)(ho:s'.os=s.os)(u:Un (kJ X.stack) ch H H' s.heap s'.heap)(hok:HOk X.prog X.w H' s'.heap)(hg:Rh s'.gens)
  (hch:∀b∈ch,(b∈X.ex\/X.s₀.heap.objs.size<=b)/\b≠X.env.locals/\(∀x c,X.env.cells.lookup x=ZA c->c≠b)/\∀p∈X.pn++kw,p.1≠b):Inv X kw σ H' s':=by
 obtain⟨h',g',d',t',o'⟩:=s';have e:o'=s.os:=ho;subst e;exact I.call (g':=g') (t':=t') (d':=d') u hok hg hch
end
abbrev XK:=N8->Option ZE->Hp->Prop
abbrev St:=List (Option V)
abbrev VK:=V->Hp->Prop
abbrev TE:=St->Hp->VK->Prop
abbrev TT:=St->Hp->(Bool->Hp->Prop)->Prop
abbrev TA:=St->Hp->(List V->Hp->Prop)->Prop
structure vd where
 nx:St->Hp->Prop
 rt:VK
 bk:St->Hp->Prop:=λ_ _=>False
 ct:St->Hp->Prop:=λ_ _=>False
abbrev TS:=vd->St->Hp->Prop
def EP(X:Cx)(kw:Uf)(σ:St)(Q:VK)(u:N8)(s':Oc):Prop:=∃v H',Inv X kw σ H' s'/\RelV v u/\Q v H'
def TP(X:Cx)(kw:Uf)(σ:St)(Q:Bool->Hp->Prop)(b:Bool)(s':Oc):Prop:=∃H',Inv X kw σ H' s'/\Q b H'
def AP(X:Cx)(kw:Uf)(σ:St)(Q:List V->Hp->Prop)(us:List N8)(s':Oc):Prop:=∃vs H',Inv X kw σ H' s'/\Vals vs us/\Q vs H'
def SP(X:Cx)(kw:Uf)(D:vd)(f:Flow)(s':Oc):Prop:=
 match f with
 |.next=>∃σ' H',Inv X kw σ' H' s'/\D.nx σ' H'
 |.brk=>∃σ' H',Inv X kw σ' H' s'/\D.bk σ' H'
 |.cont=>∃σ' H',Inv X kw σ' H' s'/\D.ct σ' H'
 |.ret u=>∃v σ' H',Inv X kw σ' H' s'/\RelV v u/\D.rt v H'
def PE(X:Cx)(e:ZG)(t:TE):Prop:=
 ∀(kw:Uf)(s:Oc)(σ:St)(H:Hp)(Q:VK),Inv X kw σ H s->t σ H Q->ZJ (ZK X.prog X.w) X.A (eval e X.env) (EP X kw σ Q) X.xe s
def PT(X:Cx)(e:ZG)(t:TT):Prop:=
 ∀(kw:Uf)(s:Oc)(σ:St)(H:Hp)(Q:Bool->Hp->Prop),Inv X kw σ H s->t σ H Q->ZJ (ZK X.prog X.w) X.A (isTrue e X.env (eval e X.env)) (TP X kw σ Q) X.xe s
def PW(X:Cx)(e:ZG)(t:TT):Prop:=
 ∀(whole:Sem N8)(kw:Uf)(s:Oc)(σ:St)(H:Hp)(Q:Bool->Hp->Prop),Inv X kw σ H s->t σ H Q->ZJ (ZK X.prog X.w) X.A (isTrue e X.env whole) (TP X kw σ Q) X.xe s
variable{e:ZG}
def PW.pt{t:TT}(h:PW X e t):PT X e t:=h _
def PA(X:Cx)(es:List ZG)(t:TA):Prop:=
 ∀(pos:Pos)(kw:Uf)(s:Oc)(σ:St)(H:Hp)(Q:List V->Hp->Prop),Inv X kw σ H s->t σ H Q->ZJ (ZK X.prog X.w) X.A (spliced (backTo pos (Ov es X.env))) (AP X kw σ Q) X.xe s
def PS(X:Cx)(st:ZF)(t:TS):Prop:=
 ∀(kw:Uf)(s:Oc)(σ:St)(H:Hp)(D:vd),Inv X kw σ H s->t D σ H->ZJ (ZK X.prog X.w) X.A (exec st X.env) (SP X kw D) X.xe s
def PSs(X:Cx)(st:List ZF)(t:TS):Prop:=
 ∀(kw:Uf)(s:Oc)(σ:St)(H:Hp)(D:vd),Inv X kw σ H s->t D σ H->ZJ (ZK X.prog X.w) X.A (execs st X.env) (SP X kw D) X.xe s
def cM{t:Sem α}{Q Q':α->Oc->Prop}(h:ZJ M A t Q E s)(hQ:∀a s,Q a s->Q' a s):ZJ M A t Q' E s:=Qm h hQ λ_ _ x=>x
variable{c:ZG}{pos:Pos}{ta:TE}{σ:St}
section
def o8(i:Nat):TE:=λσ H Q=>∃v,σ[i]?=ZA (ZA v)/\Q v H
def tC(v:V):TE:=λ_ H Q=>Q v H
def jd{pos:Pos}(hN:X.N[i]?=ZA x)(hv:u6 X.env.scope x)(hd:autoParam ((x == ("__debug__" : Str))=ZD) s_)(hcd:autoParam ((x == ("__classdict__" : Str))=ZD) s_):PE X (.Name x pos) (o8 i):=by
 intro kw s σ H Q I h;obtain⟨v,e,h⟩:=h;obtain⟨m,hn,hl⟩:=I.loc;obtain⟨u,r,l⟩:=hl i x v hN e hv;have fin:EP X kw σ Q u s:=⟨v,H,I,r,h⟩;rcases l with⟨hk,hm⟩|⟨hk,c,hc,hcell⟩
 .exact wpAny_Name (U8 I.ok.kind hk hn hm fin) hd
 .rcases hk with hk|hk
  .exact wpAny_Name (Vm I.ok.kind hk hc hcell fin) hd
  .exact wpAny_Name (wpAny_loadName_free I.ok.kind hk hc hcell fin hcd) hd
def xZ{i j pos}:PE X (.Constant (.int i) j pos) (tC (.int i)):=λ_ _ _ H _ I h=>wpAny_Constant_int ⟨.int i,H,I.tok _,⟨_,rfl⟩,h⟩
def CQ{b j pos}:PE X (.Constant (.bool b) j pos) (tC (.bl b)):=λ_ _ _ H _ I h=>Constant_bool ⟨.bl b,H,I,rfl,h⟩
def CL{j pos}:PE X (.Constant .none j pos) (tC .non):=λ_ _ _ H _ I h=>Constant_none ⟨.non,H,I,rfl,h⟩
def CJ{x j pos}:PE X (.Constant (.str x) j pos) (tC (.str x)):=λ_ _ _ H _ I h=>Vt ⟨.str x,H,I.tok _,⟨_,rfl⟩,h⟩
def Gl(X:Cx)(x:Str):Prop:=X.env.kindOf x=ZA .globalImplicit
def jh{u:N8}{pos:Pos}(I:Inv X kw σ H s)(hg:Gl X x)(hm:X.mg x=ZA u)(h:Q u s)
  (hd:autoParam ((x == ("__debug__" : Str))=ZD) s_):ZJ (ZK X.prog X.w) X.A (eval (.Name x pos) X.env) Q E s:=
 Ti I.ok.kind hg (Calls.loadGlobal_global (by rw[I.ok.glob];exact I.mod.glob.keeps I.bk) hm h) hd
def fw{u:N8}{pos:Pos}(I:Inv X kw σ H s)(hg:Gl X x)(hm:X.mg x=ZB)(hv:O9 x=ZA u)(h:Q u s)
  (hn:autoParam (x≠ "__name__") s_) (hd:autoParam ((x == ("__debug__" : Str))=ZD) s_):ZJ (ZK X.prog X.w) X.A (eval (.Name x pos) X.env) Q E s:=by
 obtain⟨mb,h1,h2⟩:=I.mod.blt;exact Ti I.ok.kind hg (Calls.loadGlobal_builtin (by rw[I.ok.glob];exact I.mod.glob.keeps I.bk) hm (by rw[I.ok.blt];exact h1.keeps I.bk) ((h2 x hn).trans hv) h) hd
def t9{u:N8}{pos:Pos}(hg:Gl X x)(hm:X.mg x=ZA u)(r:RelV v u)(hd:autoParam ((x == ("__debug__" : Str))=ZD) s_):PE X (.Name x pos) (tC v):=
 λ_ _ _ H _ I h=>jh I hg hm ⟨v,H,I,r,h⟩ hd
def zA{u:N8}{pos:Pos}(hg:Gl X x)(hm:X.mg x=ZB)(hv:O9 x=ZA u)(r:RelV v u)(hn:autoParam (x≠ "__name__") s_)(hd:autoParam ((x == ("__debug__" : Str))=ZD) s_):PE X (.Name x pos) (tC v):=
 λ_ _ _ H _ I h=>fw I hg hm hv ⟨v,H,I,r,h⟩ hn hd
variable {a b:ZG}{tb:TE}
def tB(t:TE):TT:=λσ H Q=>t σ H λx H1=>∃c,x=.bl c/\Q c H1
def Cz{t:TE}(h:PE X e t)(he:autoParam (∀whole,isTrue e X.env whole=(do let v <-whole;standAt e.pos;holding [v] (truthy v))) t_):PT X e (tB t):=by intro kw s σ H Q I hw;refine isTrue_plain (cM (h kw s σ H _ I hw) λv s1 ⟨x,H1,I1,r1,q1⟩=>?_) (he _);obtain⟨d,rfl,q⟩:=q1;cases r1;exact Pe ⟨H1,I1,q⟩
variable {tA tB':TT}{dy:List ZG}
def tAnd(t u:TT):TT:=λσ H Q=>t σ H λc H1=>if c=ZC then u σ H1 Q else Q ZD H1
def tOr(t u:TT):TT:=λσ H Q=>t σ H λc H1=>if c=ZC then Q ZC H1 else u σ H1 Q
def tNot(t:TT):TT:=λσ H Q=>t σ H λc H1=>Q (!c) H1
def FR(ha:PT X a tA):PW X (.BoolOp .And [a] pos) tA:=by
 intro wh kw s σ H Q I h;refine isTrue_and (cM (ha kw s σ H Q I h) λc s1 e=>?_);cases c with
 |true=>exact isTrue_and_nil e
 |false=>exact e
def Cw(ha:PT X a tA):PW X (.BoolOp .Or [a] pos) tA:=by
 intro wh kw s σ H Q I h;refine isTrue_or (cM (ha kw s σ H Q I h) λc s1 e=>?_);cases c with
 |false=>exact isTrue_or_nil e
 |true=>exact e
def Jc(ha:PT X a tA)(hb:PW X (.BoolOp .And (b::dy) pos) tB'):PW X (.BoolOp .And (a::b::dy) pos) (tAnd tA tB'):=by
 intro wh kw s σ H Q I h;refine isTrue_and (cM (ha kw s σ H _ I h) λc s1 hh_=>?_);obtain⟨H1,I1,q1⟩:=hh_;cases c with
 |true=>exact hb wh kw s1 σ H1 Q I1 q1
 |false=>exact⟨H1,I1,q1⟩
def Hr(ha:PT X a tA)(hb:PW X (.BoolOp .Or (b::dy) pos) tB'):PW X (.BoolOp .Or (a::b::dy) pos) (tOr tA tB'):=by
 intro wh kw s σ H Q I h;refine isTrue_or (cM (ha kw s σ H _ I h) λc s1 hh_=>?_);obtain⟨H1,I1,q1⟩:=hh_;cases c with
 |true=>exact⟨H1,I1,q1⟩
 |false=>exact hb wh kw s1 σ H1 Q I1 q1
def CA(ha:PT X a tA):PT X (.UnaryOp .Not a pos) (tNot tA):=by intro kw s σ H Q I h;exact isTrue_not (ha kw s σ H (λc H1=>Q (!c) H1) I h)
def K1(ta tb:TE):TE:=λσ H Q=>ta σ H λx H1=>∃c,x=.bl c/\if c=ZC then tb σ H1 Q else Q (.bl ZD) H1
def tOrV(ta tb:TE):TE:=λσ H Q=>ta σ H λx H1=>∃c,x=.bl c/\if c=ZC then Q (.bl ZC) H1 else tb σ H1 Q
def KS(ta:TE):TE:=λσ H Q=>ta σ H λx H1=>∃c,x=.bl c/\Q (.bl (!c)) H1
def Jk{op}{t:TE}(h:PE X a t):PE X (.BoolOp op [a] pos) t:=λkw s σ H Q I hw=>BoolOp_one (h kw s σ H Q I hw)
def Jn(ha:PE X a ta)(hb:PE X (.BoolOp .And (b::dy) pos) tb):PE X (.BoolOp .And (a::b::dy) pos) (K1 ta tb):=by
 intro kw s σ H Q I h;refine BoolOp_and (cM (ha kw s σ H _ I h) λv s1 hh_=>?_);obtain⟨x,H1,I1,r1,q1⟩:=hh_;obtain⟨c,rfl,q1⟩:=q1;cases r1;refine Pe ?_;cases c with
 |true=>exact hb kw s1 σ H1 Q I1 q1
 |false=>exact⟨.bl ZD,H1,I1,rfl,q1⟩
def LA(ha:PE X a ta)(hb:PE X (.BoolOp .Or (b::dy) pos) tb):PE X (.BoolOp .Or (a::b::dy) pos) (tOrV ta tb):=by
 intro kw s σ H Q I h;refine BoolOp_or (cM (ha kw s σ H _ I h) λv s1 hh_=>?_);obtain⟨x,H1,I1,r1,q1⟩:=hh_;obtain⟨c,rfl,q1⟩:=q1;cases r1;refine Pe ?_;cases c with
 |false=>exact hb kw s1 σ H1 Q I1 q1
 |true=>exact⟨.bl ZC,H1,I1,rfl,q1⟩
def Jl(ha:PE X a ta):PE X (.UnaryOp .Not a pos) (KS ta):=by intro kw s σ H Q I h;refine UnaryOp_ (cM (ha kw s σ H _ I h) λv s1 hh_=>?_);obtain⟨x,H1,I1,r1,q1⟩:=hh_;obtain⟨c,rfl,q1⟩:=q1;cases r1;exact not_of (Pe ⟨.bl (!c),H1,I1,rfl,q1⟩)
def tIf(t:TT)(ta tb:TE):TE:=λσ H Q=>t σ H λc H1=>if c=ZC then ta σ H1 Q else tb σ H1 Q
def CM(hc:PT X c tA)(ha:PE X a ta)(hb:PE X b tb):PE X (.IfExp c a b pos) (tIf tA ta tb):=by
 intro kw s σ H Q I h;refine wpAny_IfExp (cM (hc kw s σ H _ I h) λd s1 hh_=>?_);obtain⟨H1,I1,q1⟩:=hh_;cases d with
 |true=>exact ha kw s1 σ H1 Q I1 q1
 |false=>exact hb kw s1 σ H1 Q I1 q1
end
def SqL(K:N4)(H:Hp)(a:ZE)(xs:List V):Prop:=
 Rd H a (.lst xs) ∨
  ∃(o:Obj)(its:Array N8)(n:Nat),K.lookup a=ZA o/\o.cls=.type "list"/\o.dict=ZB/\o.data=.seq its n/\its.size<=ZI/\Vals xs its.toList
def SqT(K:N4)(H:Hp)(a:ZE)(xs:List V):Prop:=
 Rd H a (.tup xs) ∨
  ∃(o:Obj)(its:Array N8)(n:Nat),K.lookup a=ZA o/\o.cls=.type "tuple"/\o.data=.seq its n/\its.size<=ZI/\Vals xs its.toList
noncomputable def absV:N8->Option V
 |.none=>ZA .non
 |.bool b=>ZA (.bl b)
 |.int i _=>ZA (.int i)
 |.str x _=>ZA (.str x)
 |.bytes b _=>ZA (.byt b)
 |.float b _=>ZA (.flt b)
 |.ref a=>ZA (.ref a)
 |.type n=>ZA (.ty n)
 |_=>ZB
def RelV.abs{x:V}{u:N8}(r:RelV x u):absV u=ZA x:=by
 cases x with
 |non=>cases r;rfl
 |bl _=>cases r;rfl
 |int _=>obtain⟨t,rfl⟩:=r;rfl
 |str _=>obtain⟨t,rfl⟩:=r;rfl
 |byt _=>obtain⟨t,rfl⟩:=r;rfl
 |flt _=>obtain⟨t,rfl⟩:=r;rfl
 |ref _=>cases r;rfl
 |ty _=>cases r;rfl
def RelV.inj{x y:V}{u:N8}(r:RelV x u)(q:RelV y u):x=y:=OM (r.abs.symm.trans q.abs)
theorem Vals.inj:∀{xs ys:List V}{us:List N8},Vals xs us->Vals ys us->xs=ys
 |_,_,_,.nil,.nil=>rfl
 |_,_,_,.cons r t,.cons r' t'=>by rw[r.inj r',Vals.inj t t']
section
variable {ys:List V}
def SqL.of(h:H a=ZA (.lst xs)):SqL K H a xs:=.inl (.inl h)
def SqT.of(h:H a=ZA (.tup xs)):SqT K H a xs:=.inl (.inl h)
theorem Inv.list(I:Inv X kw σ H s)(h:SqL X.K H a xs):∃its:List N8,Vals xs its/\PlainL s.heap a its.toArray/\xs.length<=ZI:=by
 rcases h with h|⟨o,its,n,hk,hc,hd,hs,hz,r⟩
 .obtain⟨z,its,n,r,e⟩:=h.ok I.hok;exact⟨its,r,⟨_,n,e,rfl,rfl,rfl⟩,z⟩
 .refine⟨its.toList,r,⟨o,n,I.kIn a o hk,hc,hd,by simpa using hs⟩,?_⟩;have e:=r.length;simp only[PL]at e;omega
def Inv.tuple(I:Inv X kw σ H s)(h:SqT X.K H a xs):∃its:List N8,Vals xs its/\Xu s.heap a its.toArray/\xs.length<=ZI:=by
 rcases h with h|⟨o,its,n,hk,hc,hs,hz,r⟩
 .obtain⟨z,its,r,p⟩:=h.ok I.hok;exact⟨its,r,p,z⟩
 .refine⟨its.toList,r,⟨o,I.kIn a o hk,hc,n,by simpa using hs⟩,?_⟩;have e:=r.length;simp only[PL]at e;omega
def Inv.Nc(I:Inv X kw σ H s)(h:SqL X.K H a xs)(h':SqL X.K H a ys):xs=ys:=by
 obtain⟨its,r,⟨o,n,e,_,_,d⟩,_⟩:=I.list h;obtain⟨its',r',⟨o',n',e',_,_,d'⟩,_⟩:=I.list h';rw[e]at e';cases e';rw[d]at d';injection d' with d1 _;have:its=its':=by simpa using congrArg Uz d1
 subst this;exact r.inj r'
def Inv.M8(I:Inv X kw σ H s)(h:SqT X.K H a xs)(h':SqT X.K H a ys):xs=ys:=by
 obtain⟨its,r,⟨o,e,_,n,d⟩,_⟩:=I.tuple h;obtain⟨its',r',⟨o',e',_,n',d'⟩,_⟩:=I.tuple h';rw[e]at e';cases e';rw[d]at d';injection d' with d1 _;have:its=its':=by simpa using congrArg Uz d1
 subst this;exact r.inj r'
end
noncomputable abbrev Cx.FB(X:Cx)(E:WP):Cx:={X with xe:=E}
noncomputable abbrev Cx.nox(X:Cx):Cx:=X.FB λ_ _=>False
def Cx.Ok.FB(ok:X.Ok)(E:WP):(X.FB E).Ok:=
 ⟨ok.mod,ok.kind,ok.glob,ok.blt,ok.above,ok.inj,ok.has,ok.cab,ok.hd,ok.frames,ok.stk,ok.exf,ok.bs,ok.bsz,ok.noex,ok.exfs,ok.funs,ok.frf,ok.tb⟩
def Cx.Ok.KB(ok:(X.FB E).Ok):X.Ok:=
 ⟨ok.mod,ok.kind,ok.glob,ok.blt,ok.above,ok.inj,ok.has,ok.cab,ok.hd,ok.frames,ok.stk,ok.exf,ok.bs,ok.bsz,ok.noex,ok.exfs,ok.funs,ok.frf,ok.tb⟩
theorem Inv.FB(I:Inv X kw σ H s)(E:WP):Inv (X.FB E) kw σ H s:=⟨I.ok.FB E,I.os,I.bare,I.base,I.loc,I.cell,I.free,I.freeC,I.pin,I.hok,I.len⟩
theorem Inv.KB(I:Inv (X.FB E) kw σ H s):Inv X kw σ H s:=⟨I.ok.KB,I.os,I.bare,I.base,I.loc,I.cell,I.free,I.freeC,I.pin,I.hok,I.len⟩
theorem SP.KB{D:vd}{f:Flow}(h:SP (X.FB E) kw D f s'):SP X kw D f s':=by
 cases f with
 |next=>obtain⟨σ',H',I,q⟩:=h;exact⟨σ',H',I.KB,q⟩
 |brk=>obtain⟨σ',H',I,q⟩:=h;exact⟨σ',H',I.KB,q⟩
 |cont=>obtain⟨σ',H',I,q⟩:=h;exact⟨σ',H',I.KB,q⟩
 |ret u=>obtain⟨v,σ',H',I,r,q⟩:=h;exact⟨v,σ',H',I.KB,r,q⟩
def PSs.nox{st:List ZF}{t:TS}(h:PSs X.nox st t):PSs X st t:=λkw s σ H D I hw=>
 Qm (h kw s σ H D (I.FB _) hw) (λ_ _ q=>q.KB) λ_ _ z=>QM z
variable{tc:TT}{te:TE}
section
variable {st:ZF}{dy:List ZF}{t u:TS}
def KU:TS:=λD σ H=>D.nx σ H
def tSeq(t u:TS):TS:=λD σ H=>t {D with nx:=u D} σ H
def zo:PSs X [] KU:=λ_ _ σ H _ I h=>Si ⟨σ,H,I,h⟩
def lV(h1:PS X st t)(h2:PSs X dy u):PSs X (st::dy) (tSeq t u):=by
 intro kw s σ H D I h;refine WR (cM (h1 kw s σ H {D with nx:=u D} I h) λf s1 q=>?_);cases f with
 |next=>
  obtain⟨σ',H',I',q⟩:=q;exact h2 kw s1 σ' H' D I' q
 |ret v=>exact q
 |brk=>exact q
 |cont=>exact q
def gG(h1:PS X st t):PSs X [st] t:=by
 intro kw s σ H D I h;refine WR (cM (h1 kw s σ H D I h) λf s1 q=>?_);cases f with
 |next=>exact Si q
 |ret v=>exact q
 |brk=>exact q
 |cont=>exact q
def K0:TS:=λD σ H=>D.ct σ H
def vS:PS X (.Continue pos) K0:=λ_ _ σ H _ I h=>wpAny_Continue ⟨σ,H,I,h⟩
def Inv.quiet(I:Inv X kw σ H s):interactive X.env=ZD:=by simp[interactive,I.ok.kind]
def KY(te:TE):TS:=λD σ H=>te σ H λ_ H1=>D.nx σ H1
def tW(he:PE X e te)(hs:P4 e ZB pos.line X.env=pure ZD:=by rfl):PS X (.Expr e pos) (KY te):=by intro kw s σ H D I h;exact wpAny_Expr_any (cM (he kw s σ H _ I h) λv s1 ⟨x,H1,I1,r1,q1⟩=>⟨σ,H1,I1,q1⟩) I.quiet hs
def tRet(te:TE):TS:=λD σ H=>te σ H D.rt
def jN(he:PE X e te):PS X (.Return (ZA e) pos) (tRet te):=by intro kw s σ H D I h;exact wpAny_Return_some (cM (he kw s σ H _ I h) λv s1 ⟨x,H1,I1,r1,q1⟩=>⟨x,σ,H1,I1,r1,q1⟩)
def tIfS(c:TT)(t u:TS):TS:=λD σ H=>c σ H λb H1=>if b=ZC then t D σ H1 else u D σ H1
def Hs{a b:List ZF}(hc:PT X c tc)(ha:PSs X a t)(hb:PSs X b u):PS X (.If c a b pos) (tIfS tc t u):=by
 intro kw s σ H D I h;refine wpAny_If (cM (hc kw s σ H _ I h) λd s1 hh_=>?_);obtain⟨H1,I1,q1⟩:=hh_;cases d with
 |true=>exact ha kw s1 σ H1 D I1 q1
 |false=>exact hb kw s1 σ H1 D I1 q1
def Ih:TS:=λ_ _ _=>False
def CC:PS X st Ih:=λ_ _ _ _ _ _ h=>h.elim
end
abbrev TG:=V->St->Hp->(St->Hp->Prop)->Prop
abbrev G4:=List V->St->Hp->(St->Hp->Prop)->Prop
def PG(X:Cx)(target:ZG)(t:TG):Prop:=
 ∀(kw:Uf)(s:Oc)(σ:St)(H:Hp)(v:V)(u:N8)(Q:St->Hp->Prop),Inv X kw σ H s->RelV v u->t v σ H Q ->
  ZJ (ZK X.prog X.w) X.A (assign target X.env u) (λ_ s'=>∃σ' H',Inv X kw σ' H' s'/\Q σ' H') X.xe s
def PGs(X:Cx)(ts:List ZG)(t:G4):Prop:=
 ∀(kw:Uf)(s:Oc)(σ:St)(H:Hp)(vs:List V)(us:List N8)(Q:St->Hp->Prop),Inv X kw σ H s->Vals vs us->t vs σ H Q ->
  ZJ (ZK X.prog X.w) X.A (assignInOrder ((Qs ts X.env).map (·.2)) us) (λ_ s'=>∃σ' H',Inv X kw σ' H' s'/\Q σ' H') X.xe s
abbrev MS:=V->V->Hp->VK->Prop
def PIp(X:Cx)(op:WY)(t:MS):Prop:=
 ∀(kw:Uf)(s:Oc)(σ:St)(H:Hp)(x y:V)(v u:N8)(Q:VK),Inv X kw σ H s->RelV x v->RelV y u->t x y H Q ->
  ZJ (ZK X.prog X.w) X.A (inplaceOp op v u) (EP X kw σ Q) X.xe s
variable{es:List ZG}{pos':Pos}{tg:ZG}
def DV(i:Nat):TG:=λv σ H Q=>Q (σ.set i (ZA v)) H
def F3(hN:X.N.Nodup)(hi:X.N[i]?=ZA x)(hx:Loc X.env.scope x)(hf:autoParam (X.fn x=ZC\/X.env.scope.names.lookup x=ZA .local) r_):PG X (.Name x pos) (DV i):=by intro kw s σ H v u Q I r h;exact Wi (lM I hN hi hx r (λs' I'=>⟨_,H,I',h⟩) hf)
def gNil:G4:=λvs σ H Q=>vs=[]/\Q σ H
def Mi(t:TG)(u:G4):G4:=λvs σ H Q=>∃v r,vs=v::r/\t v σ H λσ' H'=>u r σ' H' Q
def F2:PGs X [] gNil:=by intro kw s σ H vs us Q I r h;obtain⟨e,h⟩:=h;subst e;cases r;exact assignInOrder_nil ⟨σ,H,I,h⟩
def CI{t:TG}{u:G4}(h1:PG X e t)(h2:PGs X es u)
  (hs:(Qs (e::es) X.env).map (·.2)=assign e X.env::(Qs es X.env).map (·.2):=by rfl):PGs X (e::es) (Mi t u):=by
 intro kw s σ H vs us Q I r h;obtain⟨v,vr,e1,h⟩:=h;subst e1;cases r with
 |cons r rr=>
  rw[hs];refine assignInOrder_cons (cM (h1 kw s σ H _ _ _ I r h) λ_ s1 hh_=>?_);obtain⟨σ1,H1,I1,q1⟩:=hh_;exact h2 kw s1 σ1 H1 _ _ Q I1 rr q1
def gTup(K:N4)(n:Nat)(t:G4):TG:=λv σ H Q=>∃a xs,v=.ref a/\SqT K H a xs/\xs.length=n/\t xs σ H Q
def Ji{t:G4}(hc:X.calm=ZC)(h:PGs X es t)
  (hn:(Qs es X.env).length=n:=by rfl) (hst:(Qs es X.env).findIdx? (·.1)=ZB:=by rfl):PG X (.Tuple es k pos) (gTup X.K n t):=by
 intro kw s σ H v u Q I r hw;obtain⟨a,xs,e1,hq,hl,hw⟩:=hw;subst e1;cases r;obtain⟨its,rv,ht,hz⟩:=I.tuple hq;refine assign_Tuple_tuple (I.ok.hd hc) ht (by simp[hn,<-hl,rv.length]) hst λh' hx=>?_;have I1:Inv X kw σ H {s with heap:=h'}:=I.kept (t':=s.toks) λb o e=>hx b o (O5 (Os e)) e;exact h kw _ σ H xs _ Q I1 (by simpa using rv) hw
def BZ(te:TE)(g:TG):TS:=λD σ H=>te σ H λx H1=>g x σ H1 D.nx
def Je{g:TG}(he:PE X e te)(hg:PG X tg g)(hs:VL [tg] e pos.line X.env=pure ZD:=by rfl)(hw:VM [tg] e X.env=pure ZB:=by rfl)
  (h1:(Qs [tg] X.env).map (·.2)=[assign tg X.env]:=by rfl):PS X (.Assign [tg] e pos) (BZ te g):=by
 intro kw s σ H D I h;refine wpAny_Assign_stores (cM (he kw s σ H _ I h) λv s1 ⟨x,H1,I1,r1,q1⟩=>?_) hs hw;rw[h1];exact cM (hg kw s1 σ H1 x v _ I1 r1 q1) λ_ s2 q=>q
def pH(hN:X.N.Nodup)(hi:X.N[i]?=ZA x)(hx:Loc X.env.scope x)(he:PE X e te)(hs:P4 e (ZA (.Name x pos')) pos.line X.env=pure ZD:=by rfl)(hf:autoParam (X.fn x=ZC\/X.env.scope.names.lookup x=ZA .local) r_):
  PS X (.Assign [.Name x pos'] e pos) (BZ te (DV i)):=by
 intro kw s σ H D I h;refine wpAny_Assign_Name (cM (he kw s σ H _ I h) λv s1 ⟨y,H1,I1,r1,q1⟩=>?_) hs;exact lM I1 hN hi hx r1 (λs2 I2=>⟨_,H1,I2,q1⟩) hf
def tAug(i:Nat)(te:TE)(ti:MS):TS:=λD σ H=>∃x,σ[i]?=ZA (ZA x)/\te σ H λy H1=>ti x y H1 λz H2=>D.nx (σ.set i (ZA z)) H2
def Jd{op:WY}{ti:MS}(hN:X.N.Nodup)(hi:X.N[i]?=ZA x)(hx:Loc X.env.scope x)(he:PE X e te)(ho:PIp X op ti)(hf:autoParam (X.fn x=ZC\/X.env.scope.names.lookup x=ZA .local) r_):
  PS X (.AugAssign (.Name x pos') op e pos) (tAug i te ti):=by
 intro kw s σ H D I h;obtain⟨v,e1,h⟩:=h;obtain⟨m,hn,hl⟩:=I.loc;have vis:u6 X.env.scope x:=by rcases hx with k|k;exact .inl k;exact .inr (.inl k)
 obtain⟨u,r,l⟩:=hl i x v hi e1 vis;refine wpAny_AugAssign_Name ?_;have go:ZJ (ZK X.prog X.w) X.A (eval e X.env) (λw s₂=>ZJ (ZK X.prog X.w) X.A (inplaceOp op u w) (λr s₃=>ZJ (ZK X.prog X.w) X.A (storeName X.env x r) (λ_=>SP X kw D .next) X.xe s₃) X.xe s₂) X.xe s:=by refine cM (he kw s σ H _ I h) λw s1 hh_=>?_;obtain⟨y,H1,I1,r1,q1⟩:=hh_;refine cM (ho kw s1 σ H1 v y u w _ I1 r r1 q1) λz s2 hh_=>?_;obtain⟨zv,H2,I2,r2,q2⟩:=hh_;exact lM I2 hN hi hx r2 (λs3 I3=>⟨_,H2,I3,q2⟩) hf
 rcases l with⟨hk,hm⟩|⟨hk,c,hc,hcell⟩
 .exact U8 I.ok.kind hk hn hm go
 .rcases hk with hk|hk
  .exact Vm I.ok.kind hk hc hcell go
  .rcases hx with k|k
   .have:X.env.scope.names.lookup x=ZA .free:=hk;rw[k]at this;cases this
   .have:X.env.scope.names.lookup x=ZA .free:=hk;rw[k]at this;cases this
def ipI(f:Int->Int->Int):MS:=λx y H Q=>∃i j,x=.int i/\y=.int j/\Q (.int (f i j)) H
def J4:PIp X .Add (ipI λi j=>i+j):=by intro kw s σ H x y v u Q I r1 r2 h;obtain⟨i,j,e1,e2,q⟩:=h;subst e1;subst e2;obtain⟨t,rfl⟩:=r1;obtain⟨t',rfl⟩:=r2;exact iadd_int ⟨.int _,H,I.tok _,⟨_,rfl⟩,q⟩
variable{body:List ZF}
def xI(c:TT)(tb:TS):TS:=λD σ H=>∃W:Nat->St->Hp->Prop,(∃m,W m σ H)/\∀m σ H,W m σ H ->
 c σ H λb H1=>if b=ZC then ∃N:St->Hp->Prop,(∀σ' H',N σ' H'->∃m',m'<m/\W m' σ' H')/\tb {D with nx:=N,ct:=N,bk:=D.nx} σ H1 else D.nx σ H1
def CB{tb:TS}(hp:PassesOwn (ZK X.prog X.w) X.A X.env X.xe)(hc:PT X c tc)(hb:PSs X body tb):PS X (.While c body [] pos) (xI tc tb):=by
 intro kw s σ H D I h;obtain⟨W,⟨m0,w0⟩,turn⟩:=h;refine wpAny_While (codeAny_whileLoop (λn s'=>∃σ' H',Inv X kw σ' H' s'/\W n σ' H') ?_ m0 ⟨σ,H,I,w0⟩);rintro n s1 ⟨σ1,H1,I1,w1⟩;refine Xg hp (cM (hc kw s1 σ1 H1 _ I1 (turn n σ1 H1 w1)) λb s2 hh_=>?_);obtain⟨H2,I2,q2⟩:=hh_;cases b with
 |true=>
  obtain⟨N,hN,q2⟩:=q2;rw[if_pos rfl];refine Xg hp (cM (hb kw s2 σ1 H2 _ I2 q2) λf s3 q3=>?_);cases f with
  |next=>
   obtain⟨σ3,H3,I3,n3⟩:=q3;obtain⟨m',hm,w3⟩:=hN σ3 H3 n3;exact⟨m',hm,σ3,H3,I3,w3⟩
  |cont=>
   obtain⟨σ3,H3,I3,n3⟩:=q3;obtain⟨m',hm,w3⟩:=hN σ3 H3 n3;exact⟨m',hm,σ3,H3,I3,w3⟩
  |brk=>exact q3
  |ret v=>exact q3
 |false=>
  rw[if_neg OA];exact Si ⟨σ1,H2,I2,q2⟩
structure It where
 go:Nat->Hp->Prop
 yld:Nat->Hp->V->Hp->Prop
 stop:Nat->Hp->Prop
def qV(X:Cx)(kw:Uf)(H:Hp)(b:ZE):Prop:=
 H b=ZB/\b≠X.env.locals/\b∉X.fs/\(b∈X.ex\/X.s₀.heap.objs.size<=b)/\(∀x c,X.env.cells.lookup x=ZA c->c≠b)/\∀p∈X.pn++kw,p.1≠b
def Inv.Ng(I:Inv X kw σ H s)(hb:s.heap.objs.size<=b)(hn:H' b=ZB):qV X kw H' b:=by
 refine⟨hn,QC (Oo I.lt hb),I.NZ hb,.inr (OG I.sz hb),λx c e z=>?_,λp hp z=>?_⟩
 .obtain⟨v,q⟩:=I.cell x c e;exact absurd (Oo q.lt (by rw[z];exact hb)) (O7 _)
 .exact absurd (Oo (Os (I.pin p hp).1) (by rw[z];exact hb)) (O7 _)
structure By (P:OF)(w:Pv)(K:N4)(tg:ZG)(J:It)(fp:List ZE)(it:ZE)(tn:Nat->ZH->Prop):Prop where
 mem:it∈fp
 obj:∀i h,tn i h->∀b∈fp,∃o,h.get? b=ZA o/\∀v,o.data≠ .cell v
 keep:∀i h h',tn i h->(∀b∈fp,∀o,h.get? b=ZA o->h'.get? b=ZA o)->tn i h'
 item:∀(X:Cx),X.prog=P->X.w=w->X.K=K->X.calm=ZC->∀(i:Nat)(kw:Uf)(s:Oc)(σ:St)(H:Hp)(E:WP),Inv X kw σ H s->(∀b∈fp,qV X kw H b)->tn i s.heap->J.go i H ->
  ZJ (ZK P w) X.A (pyNext (.ref it)) (λr s1=>∃u,r=ZA u ∧
   ZJ (ZK P w) X.A (Sj tg (.ref it) u) (λ_ s2=>∃x H',Inv X kw σ H' s2/\RelV x u/\J.yld i H x H'/\tn (i+1) s2.heap/\∀b∈fp,H' b=ZB) E s1) E s
 done:∀(X:Cx),X.prog=P->X.w=w->X.K=K->X.calm=ZC->∀(i:Nat)(kw:Uf)(s:Oc)(σ:St)(H:Hp)(E:WP),Inv X kw σ H s->(∀b∈fp,qV X kw H b)->tn i s.heap->J.stop i H ->
  ZJ (ZK P w) X.A (pyNext (.ref it)) (λr s1=>r=ZB/\Inv X kw σ H s1) E s
 self:∀(A:OU)(i:Nat)(s:Oc)(Q:WP)(E:WP),tn i s.heap->Q (.ref it) s->ZJ (ZK P w) A (pyIter (.ref it)) Q E s
abbrev TI:=St->Hp->(It->Hp->Prop)->Prop
def MV(X:Cx)(kw:Uf)(σ:St)(tg:ZG)(R:It->Hp->Prop)(itv:N8)(s2:Oc):Prop:=
 ∃(it:ZE)(fp:List ZE)(tn:Nat->ZH->Prop)(J:It)(H':Hp),itv=.ref it/\Inv X kw σ H' s2/\By X.prog X.w X.K tg J fp it tn/\tn 0 s2.heap/\(∀b∈fp,qV X kw H' b)/\R J H'
def PI(X:Cx)(tg iter:ZG)(wi:TI):Prop:=
 ∀(kw:Uf)(s:Oc)(σ:St)(H:Hp)(R:It->Hp->Prop),Inv X kw σ H s->wi σ H R ->
  ZJ (ZK X.prog X.w) X.A (eval iter X.env) (λv s1=>ZJ (ZK X.prog X.w) X.A (pyIter v) (MV X kw σ tg R) X.xe s1) X.xe s
def Ab{u:N8}{o:Obj}{n:String}{vs:Array N8}{Q:Unit->Oc->Prop}(ho:s.heap.get? it=ZA o)(hc:o.cls=.type n)(hd:o.data=.fields vs)
  (hn:["enumerate","zip","dict_itemiterator","dict_reverseitemiterator","odict_iterator","itertools.zip_longest","itertools.pairwise"].contains n=ZD) (hQ:Q () s):ZJ M A (Sj tg (.ref it) u) Q E s:=by
 unfold Sj;cases tg <;> first
  |exact Oi hQ
  | (cases u <;> first
    |exact Oi hQ
    | (refine N5 (wpAny_load ho ?_)
       rw[hc,hd];show ZJ M A (if (["enumerate","zip","dict_itemiterator","dict_reverseitemiterator","odict_iterator","itertools.zip_longest","itertools.pairwise"].contains n&&vs[0]? == ZA (rawInt _))=ZC then _ else _) Q E s;rw[if_neg (by intro h;rw[hn,Bool.false_and]at h;cases h)];exact Oi hQ))
def Itl(K:N4)(a:ZE):It:=
 ⟨λi H=>∃xs x,SqL K H a xs/\xs[i]?=ZA x,λi H x H'=>H'=H/\∀xs,SqL K H a xs->xs[i]?=ZA x,λi H=>∃xs,SqL K H a xs/\xs.length<=i⟩
def Itt(K:N4)(a:ZE):It:=
 ⟨λi H=>∃xs x,SqT K H a xs/\xs[i]?=ZA x,λi H x H'=>H'=H/\∀xs,SqT K H a xs->xs[i]?=ZA x,λi H=>∃xs,SqT K H a xs/\xs.length<=i⟩
def Itr(lo:Int)(n:Nat):It:=⟨λi _=>i<n,λi H x H'=>H'=H/\x=.int (lo+i),λi _=>n<=i⟩
theorem Aw(a it:ZE):By P w K tg (Itl K a) [it] it (λi h=>h.IsListIter it a i) where
 mem:=by simp
 obj:=λi h st b hb=>by
  have e:b=it:=by simpa using hb
  subst e;obtain⟨o,e,c,d⟩:=st;exact⟨o,e,λv z=>by rw[d]at z;cases z⟩
 keep:=λi h h' st k=>st.at λo e=>k it (by simp) o e
 item:=by intro X hP hw hK hc i kw s σ H E I hf st hg;subst hP hw hK;obtain⟨xs,x,hq,hx⟩:=hg;obtain⟨its,rv,p,hz⟩:=I.list hq;obtain⟨u,hu,ru⟩:=rv.get hx;obtain⟨f0,f1,f2,f3,f4,f5⟩:=hf it (by simp);refine Ur st p.isList (x:=u) (by simpa using hu) λh' st' sb=>?_;have I1:Inv X kw σ H {s with heap:=h'}:=I.turned (t':=s.toks) (λb o hb e=>(sb.2 b hb).trans e) f0 f1 f3 f4 f5;obtain⟨o,e,c,d⟩:=id st';exact⟨u,rfl,Ab (s:={s with heap:=h'}) e c d (by decide) ⟨x,H,I1,ru,⟨rfl,λys hy=>by rw[I.Nc hy hq];exact hx⟩,st',λb hb=>(hf b hb).1⟩⟩
 done:=by intro X hP hw hK hc i kw s σ H E I hf st hg;subst hP hw hK;obtain⟨xs,hq,hx⟩:=hg;obtain⟨its,rv,p,hz⟩:=I.list hq;obtain⟨f0,f1,f2,f3,f4,f5⟩:=hf it (by simp);have hl:=rv.length;exact UM (I.ok.hd hc) st p.isList (by simp;omega) λh' eb=>⟨rfl,I.turned (t':=s.toks) (λb o hb e=>eb b o hb e) f0 f1 f3 f4 f5⟩
 self:=λ_ _ _ _ _ st h=>wpAny_pyIter_listiter st h
def xG(a it:ZE):By P w K tg (Itt K a) [it] it (λi h=>h.IsTupleIter it a i) where
 mem:=by simp
 obj:=λi h st b hb=>by
  have e:b=it:=by simpa using hb
  subst e;obtain⟨o,e,c,d⟩:=st;exact⟨o,e,λv z=>by rw[d]at z;cases z⟩
 keep:=λi h h' st k=>st.at λo e=>k it (by simp) o e
 item:=by intro X hP hw hK hc i kw s σ H E I hf st hg;subst hP hw hK;obtain⟨xs,x,hq,hx⟩:=hg;obtain⟨its,rv,p,hz⟩:=I.tuple hq;obtain⟨u,hu,ru⟩:=rv.get hx;obtain⟨f0,f1,f2,f3,f4,f5⟩:=hf it (by simp);refine wpAny_pyNext_tuple_item st (show s.heap.IsTuple a its.toArray from p) (x:=u) (by simpa using hu) λh' st' sb=>?_;have I1:Inv X kw σ H {s with heap:=h'}:=I.turned (t':=s.toks) (λb o hb e=>(sb.2 b hb).trans e) f0 f1 f3 f4 f5;obtain⟨o,e,c,d⟩:=id st';exact⟨u,rfl,Ab (s:={s with heap:=h'}) e c d (by decide) ⟨x,H,I1,ru,⟨rfl,λys hy=>by rw[I.M8 hy hq];exact hx⟩,st',λb hb=>(hf b hb).1⟩⟩
 done:=by intro X hP hw hK hc i kw s σ H E I hf st hg;subst hP hw hK;obtain⟨xs,hq,hx⟩:=hg;obtain⟨its,rv,p,hz⟩:=I.tuple hq;obtain⟨f0,f1,f2,f3,f4,f5⟩:=hf it (by simp);have hl:=rv.length;exact wpAny_pyNext_tuple_end (I.ok.hd hc) st (show s.heap.IsTuple a its.toArray from p) (by simp;omega) λh' eb=>⟨rfl,I.turned (t':=s.toks) (λb o hb e=>eb b o hb e) f0 f1 f3 f4 f5⟩
 self:=λ_ _ _ _ _ st h=>wpAny_pyIter_tupleiter st h
def xH(it:ZE)(lo:Int)(n:Nat):By P w K tg (Itr lo n) [it] it (λi h=>Vn h it (lo+(i:Nat)*1) ((n:Int) - (i:Nat)) 1) where
 mem:=by simp
 obj:=λi h st b hb=>by
  have e:b=it:=by simpa using hb
  subst e;exact⟨_,st,λv z=>by have z':W0 _=Data.cell v:=z;cases z'⟩
 keep:=λi h h' st k=>k it (by simp) _ st
 item:=by intro X hP hw hK hc i kw s σ H E I hf st hg;subst hP hw hK;obtain⟨f0,f1,f2,f3,f4,f5⟩:=hf it (by simp);have W:=Walks.range (prog:=X.prog) (w:=X.w) (I.ok.hd hc) it lo 1 n;refine W.item i s _ _ hg st λv h' tk hv st' kk=>?_;obtain⟨t,rfl⟩:=hv;have I1:Inv X kw σ H {s with heap:=h',toks:=tk}:=I.turned (λb o hb e=>kk b o (by simpa using hb) e) f0 f1 f3 f4 f5;refine⟨_,rfl,Ab (s:={s with heap:=h',toks:=tk}) (n:="range_iterator") st' rfl rfl (by decide) ⟨.int (lo+i),H,I1,⟨t,?_⟩,⟨rfl,rfl⟩,st',λb hb=>(hf b hb).1⟩⟩;rw[Int.mul_one]
 done:=by intro X hP hw hK hc i kw s σ H E I hf st hg;subst hP hw hK;obtain⟨f0,f1,f2,f3,f4,f5⟩:=hf it (by simp);exact Us (I.ok.hd hc) st (by have:n<=i:=hg;omega) λh' eb=>⟨rfl,I.turned (t':=s.toks) (λb o hb e=>eb b o hb e) f0 f1 f3 f4 f5⟩
 self:=λ_ _ _ _ _ st h=>Ut st h
variable{fp:List ZE}{l:ZG}{tl:TE}
def Mg(K:N4)(tl:TE):TI:=λσ H R=>tl σ H λx H1=>∃a,x=.ref a/\(∃xs,SqL K H1 a xs)/\R (Itl K a) H1
def iTup(K:N4)(tl:TE):TI:=λσ H R=>tl σ H λx H1=>∃a,x=.ref a/\(∃xs,SqT K H1 a xs)/\R (Itt K a) H1
def F0(hl:PE X l tl):PI X tg l (Mg X.K tl):=by
 intro kw s σ H R I h;refine cM (hl kw s σ H _ I h) λv s1 hh_=>?_;obtain⟨x,H1,I1,r1,q1⟩:=hh_;obtain⟨a,e,⟨xs,hq⟩,q⟩:=q1;subst e;cases r1;obtain⟨its,rv,p,hz⟩:=I1.list hq;refine Sx p.isList ?_;refine⟨s1.heap.objs.size,[s1.heap.objs.size],_,_,H1,rfl,I1.kept (t':=s1.toks) λb o e=>Of _ e,Aw a _,⟨_,Oy _ rfl,rfl,rfl⟩,λb hb=>?_,q⟩;have e:b=s1.heap.objs.size:=by simpa using hb
 subst e;exact I1.Ng (Oq _) (I1.hok.fresh (Oq _))
def Jh(hl:PE X l tl):PI X tg l (iTup X.K tl):=by
 intro kw s σ H R I h;refine cM (hl kw s σ H _ I h) λv s1 hh_=>?_;obtain⟨x,H1,I1,r1,q1⟩:=hh_;obtain⟨a,e,⟨xs,hq⟩,q⟩:=q1;subst e;cases r1;obtain⟨its,rv,p,hz⟩:=I1.tuple hq;refine Sk (show s1.heap.IsTuple a its.toArray from p) ?_;refine⟨s1.heap.objs.size,[s1.heap.objs.size],_,_,H1,rfl,I1.kept (t':=s1.toks) λb o e=>Of _ e,xG a _,⟨_,Oy _ rfl,rfl,rfl⟩,λb hb=>?_,q⟩;have e:b=s1.heap.objs.size:=by simpa using hb
 subst e;exact I1.Ng (Oq _) (I1.hok.fresh (Oq _))
theorem lU{R:It->Hp->Prop}{lo hi:Int}{t u v:Tok}(I:Inv X kw σ H s)(h1 : -(2 ^ 62)<=lo)(h2:lo<2 ^ 62)(h3 : -(2 ^ 62)<=hi)(h4:hi<2 ^ 62)
  (q:R (Itr lo (hi - lo).toNat) H):ZJ (ZK X.prog X.w) X.A (pyIter (.ref s.heap.objs.size)) (MV X kw σ tg R) E {s with heap:=s.heap.push {cls:=.type "range",data:=.fields #[.int lo t,.int hi u,.int 1 v]},toks:=tk}:=by
 refine VN (W1 ..) (small_one h1 h2 h3 h4) ?_;have I1:Inv X kw σ H {s with heap:=s.heap.push {cls:=.type "range",data:=.fields #[.int lo t,.int hi u,.int 1 v]},toks:=tk}:=I.kept λb o e=>Of _ e;refine⟨(s.heap.push {cls:=.type "range",data:=.fields #[.int lo t,.int hi u,.int 1 v]}).objs.size,[(s.heap.push {cls:=.type "range",data:=.fields #[.int lo t,.int hi u,.int 1 v]}).objs.size],_,_,H,rfl,
  I1.kept (t':=tk) λb o e=>Of _ e,xH _ lo (hi - lo).toNat,?_,λb hb=>?_,q⟩
 .have e1:lo+((0:Nat):Int)*1=lo:=by simp
  have e2:(((hi - lo).toNat:Nat):Int) - ((0:Nat):Int)=Rl lo hi 1:=by rw[rangeSize_one];split <;> omega
  show Vn _ _ (lo+((0:Nat):Int)*1) ((((hi - lo).toNat:Nat):Int) - ((0:Nat):Int)) 1;rw[e1,e2];exact Oy _ rfl
 .have e:b=(s.heap.push {cls:=.type "range",data:=.fields #[.int lo t,.int hi u,.int 1 v]}).objs.size:=by simpa using hb
  subst e;exact I1.Ng (Oq _) (I1.hok.fresh (Oq _))
def tFor(wi:TI)(g:TG)(tb:TS):TS:=λD σ H=>wi σ H λJ H1=>∃W:Nat->Nat->St->Hp->Prop,(∃m,W 0 m σ H1)/\∀i m σ H,W i m σ H ->
 (J.stop i H/\D.nx σ H)\/(J.go i H/\∃N:St->Hp->Prop,(∀σ' H',N σ' H'->∃m',m'<m/\W (i+1) m' σ' H')/\∀x H',J.yld i H x H'->g x σ H' λσ2 H2=>tb {D with nx:=N,ct:=N,bk:=D.nx} σ2 H2)
def pI(fp:List ZE)(h:ZH):Uf:=fp.filterMap λb=>(h.get? b).map λo=>(b,o)
def jf{o:Obj}(hb:b∈fp)(e:h.get? b=ZA o):(b,o)∈pI fp h:=Tu.mpr ⟨b,hb,by rw[e];rfl⟩
def AQ{p:ZE×Obj}(hp:p∈pI fp h):p.1∈fp/\h.get? p.1=ZA p.2:=by
 obtain⟨b,hb,e⟩:=Tu.mp hp;cases q:h.get? b with
 |none=>rw[q]at e;cases e
 |some o=>
  rw[q]at e;have e':(b,o)=p:=OM e;subst e';exact⟨hb,q⟩
def Inv.pinned(I:Inv X kw σ H s)(hf:∀b∈fp,qV X kw H b)(ho:∀b∈fp,∃o,s.heap.get? b=ZA o/\∀v,o.data≠ .cell v):Inv X (kw++pI fp s.heap) σ H s:=
 I.Nk λp hp=>(OP.mp hp).elim (λz=>I.pin p (OI _ z)) λz=>by obtain⟨hb,e⟩:=AQ z;obtain⟨f0,f1,f2,_⟩:=hf p.1 hb;obtain⟨o,e',d⟩:=ho p.1 hb;rw[e]at e';cases e';exact⟨e,f0,f1,f2,d⟩
def Inv.M0{pl:Uf}(I:Inv X (kw++pl) σ H s):Inv X kw σ H s:=I.Nk λp hp=>I.pin p (OI _ (O6 _ hp))
abbrev R2:=V->V->Hp->VK->Prop
def qY(X:Cx)(f:N8->N8->Sem N8)(r:R2):Prop:=
 ∀(kw:Uf)(s:Oc)(σ:St)(H:Hp)(x y:V)(v u:N8)(Q:VK),Inv X kw σ H s->RelV x v->RelV y u->r x y H Q ->
  ZJ (ZK X.prog X.w) X.A (f v u) (EP X kw σ Q) X.xe s
def UnR(X:Cx)(f:N8->Sem N8)(r:V->Hp->VK->Prop):Prop:=
 ∀(kw:Uf)(s:Oc)(σ:St)(H:Hp)(x:V)(v:N8)(Q:VK),Inv X kw σ H s->RelV x v->r x H Q ->
  ZJ (ZK X.prog X.w) X.A (f v) (EP X kw σ Q) X.xe s
def CallR(X:Cx)(f:N8)(r:List V->Hp->VK->Prop):Prop:=
 ∀(kw:Uf)(s:Oc)(σ:St)(H:Hp)(xs:List V)(us:List N8)(Q:VK),Inv X kw σ H s->Vals xs us->r xs H Q ->
  ZJ (ZK X.prog X.w) X.A (call f us) (EP X kw σ Q) X.xe s
def tOp(r:R2)(ta tb:TE):TE:=λσ H Q=>ta σ H λx H1=>tb σ H1 λy H2=>r x y H2 Q
def tUn(r:V->Hp->VK->Prop)(ta:TE):TE:=λσ H Q=>ta σ H λx H1=>r x H1 Q
def rI(C:Int->Int->Prop)(g:Int->Int->V):R2:=λx y H Q=>∃i j,x=.int i/\y=.int j/\C i j/\Q (g i j) H
def IB(g:Int->Int->V):R2:=λx y H Q=>∃i j,x=.int i/\y=.int j/\Q (g i j) H
def rU(g:Int->V):V->Hp->VK->Prop:=λx H Q=>∃i,x=.int i/\Q (g i) H
variable{f:N8->N8->Sem N8}{r:R2}
section
variable {a b:ZG}{tb tc:TE}
def Mu(ha:PE X a ta)(hb:PE X b tb){R:V->V->Hp->Prop}(I:Inv X kw σ H s)
  (h:ta σ H λx H1=>tb σ H1 λy H2=>R x y H2)  
  (hf:∀v u s2 x y H2,Inv X kw σ H2 s2->RelV x v->RelV y u->R x y H2->ZJ (ZK X.prog X.w) X.A (f v u) Q X.xe s2):
  ZJ (ZK X.prog X.w) X.A (eval a X.env) (λv s₁=>ZJ (ZK X.prog X.w) X.A (eval b X.env) (λu s₂=>ZJ (ZK X.prog X.w) X.A (f v u) Q X.xe s₂) X.xe s₁) X.xe s:=by
 refine cM (ha kw s σ H _ I h) λv s1 hh_=>?_;obtain⟨x,H1,I1,r1,q1⟩:=hh_;refine cM (hb kw s1 σ H1 _ I1 q1) λu s2 hh_=>?_;obtain⟨y,H2,I2,r2,q2⟩:=hh_;exact hf v u s2 x y H2 I2 r1 r2 q2
def LB{op:WY}(ho:qY X (Qw op) r)(ha:PE X a ta)(hb:PE X b tb):PE X (.BinOp a op b pos) (tOp r ta tb):=by intro kw s σ H Q I h;exact wpAny_BinOp (Mu ha hb I h λv u s2 x y H2 I2 rx ry q=>ho kw s2 σ H2 x y v u Q I2 rx ry q)
def Ht{op:UnaryOp}{r:V->Hp->VK->Prop}(ho:UnR X (unaryOp op) r)(ha:PE X a ta):PE X (.UnaryOp op a pos) (tUn r ta):=by intro kw s σ H Q I h;exact UnaryOp_ (cM (ha kw s σ H _ I h) λv s1 ⟨x,H1,I1,r1,q1⟩=>ho kw s1 σ H1 x v Q I1 r1 q1)
def opI{C:Int->Int->Prop}
  (rule:∀(i j:Int)(t u:Tok)(s:Oc)(Q:WP)(E:WP),C i j->Q (.int (g i j) s.toks) {s with toks:=s.toks+1}->ZJ (ZK X.prog X.w) X.A (f (.int i t) (.int j u)) Q E s):
  qY X f (rI C λi j=>.int (g i j)):=by
 intro kw s σ H x y v u Q I rx ry h;obtain⟨i,j,rfl,rfl,hc,q⟩:=h;obtain⟨t,rfl⟩:=rx;obtain⟨t',rfl⟩:=ry;exact rule i j t t' s _ _ hc ⟨.int (g i j),H,I.tok _,⟨_,rfl⟩,q⟩
def LH 
  (rule:∀(i j:Int)(t u:Tok)(s:Oc)(Q:WP)(E:WP),Q (.int (g i j) s.toks) {s with toks:=s.toks+1}->ZJ (ZK X.prog X.w) X.A (f (.int i t) (.int j u)) Q E s):
  qY X f (IB λi j=>.int (g i j)):=by
 intro kw s σ H x y v u Q I rx ry h;obtain⟨i,j,rfl,rfl,q⟩:=h;obtain⟨t,rfl⟩:=rx;obtain⟨t',rfl⟩:=ry;exact rule i j t t' s _ _ ⟨.int (g i j),H,I.tok _,⟨_,rfl⟩,q⟩
def LI{g:Int->Int->Bool}
  (rule:∀(i j:Int)(t u:Tok)(s:Oc)(Q:WP)(E:WP),Q (.bool (g i j)) s->ZJ (ZK X.prog X.w) X.A (f (.int i t) (.int j u)) Q E s):
  qY X f (IB λi j=>.bl (g i j)):=by
 intro kw s σ H x y v u Q I rx ry h;obtain⟨i,j,rfl,rfl,q⟩:=h;obtain⟨t,rfl⟩:=rx;obtain⟨t',rfl⟩:=ry;exact rule i j t t' s _ _ ⟨.bl (g i j),H,I,rfl,q⟩
def CDiv(i j:Int):Prop:=0<j/\j<1073741824
def CMul(i j:Int):Prop:=(-(2 ^ 64)<i/\i<2 ^ 64)\/(-(2 ^ 64)<j/\j<2 ^ 64)
def CMul.ok{i j:Int}(h:CMul i j):IntMulOk i j:=by
 rcases h with⟨h1,h2⟩|⟨h1,h2⟩
 .exact .of_left (intBits_le_64 h1 h2)
 .exact .of_right (intBits_le_64 h1 h2)
def Ju:qY X (Qw .Add) (IB λi j=>.int (i+j)):=LH λ_ _ _ _ _ _ _ q=>add_int q
def Jp:qY X (Qw .Sub) (IB λi j=>.int (i - j)):=LH λ_ _ _ _ _ _ _ q=>sub_int q
def Jr:qY X (Qw .Mult) (rI CMul λi j=>.int (i*j)):=opI λ_ _ _ _ _ _ _ hc q=>mul_int q hc.ok
theorem F7:qY X (Qw .FloorDiv) (rI CDiv λi j=>.int (i / j)):=opI λi j _ _ _ _ _ hc q=>by have h1:(0:Int)<j:=hc.1;have h2:j<1073741824:=hc.2;exact floordiv_int (by omega) (by rw[Int.fdiv_eq_ediv_of_nonneg i (by omega)];exact q) (.inl (Uq (by omega)))
def Js:qY X (Qw .Mod) (rI (λ_ j=>0<j) λi j=>.int (i % j)):=opI λi j _ _ _ _ _ hc q=>by have h1:(0:Int)<j:=hc;exact mod_int' (by omega) (by rw[Int.fmod_eq_emod_of_nonneg i (by omega)];exact q)
def unI{f:N8->Sem N8}{g:Int->Int}
  (rule:∀(i:Int)(t:Tok)(s:Oc)(Q:WP)(E:WP),Q (.int (g i) s.toks) {s with toks:=s.toks+1}->ZJ (ZK X.prog X.w) X.A (f (.int i t)) Q E s):
  UnR X f (rU λi=>.int (g i)):=by
 intro kw s σ H x v Q I rx h;obtain⟨i,rfl,q⟩:=h;obtain⟨t,rfl⟩:=rx;exact rule i t s _ _ ⟨.int (g i),H,I.tok _,⟨_,rfl⟩,q⟩
def BR:UnR X (unaryOp .USub) (rU λi=>.int (-i)):=unI λ_ _ _ _ _ q=>neg_int q
end
noncomputable def scal:V->V->Bool
 |.non,.non=>ZC|.non,.int _=>ZC|.int _,.non=>ZC|.non,.bl _=>ZC|.bl _,.non=>ZC|.non,.str _=>ZC|.str _,.non=>ZC
 |.int _,.int _=>ZC|.bl _,.bl _=>ZC|.str _,.str _=>ZC|.byt _,.byt _=>ZC
 |.int _,.str _=>ZC|.str _,.int _=>ZC|.bl _,.str _=>ZC|.str _,.bl _=>ZC
 |_,_=>ZD
def rNe:R2:=λx y H Q=>scal x y=ZC/\Q (.bl (!decide (x=y))) H
def GR{i j:Int}:decide (V.int i=V.int j)=(i == j):=by rw[Pc];simp
def Kn{i j:Bool}:decide (V.bl i=V.bl j)=(i == j):=by rw[Pc];simp
def GQ{i j:Str}:decide (V.str i=V.str j)=(i == j):=by rw[Pc];simp
def GS{i j:Array UInt8}:decide (V.byt i=V.byt j)=(i.toList == j.toList):=by rw[Pc];cases i;cases j;simp
section
variable {a b:ZG}{tb tc:TE}
def d7{Q:VK}{k k':Bool}(I:Inv X kw σ H s)(q:Q (.bl k) H)(e:k=k'):EP X kw σ Q (.bool k') s:=by subst e;exact⟨.bl k,H,I,rfl,q⟩
def LD:qY X (Pm .NotEq) rNe:=by
 intro kw s σ H x y v u Q I rx ry h;obtain⟨hs,q⟩:=h;cases x with
 |non=>
  cases rx;cases y with
  |non=>cases ry;exact PySem.EqNone.ne_none_none (d7 I q (by simp))
  |bl j=>cases ry;exact PySem.EqNone.ne_none_bool (d7 I q (by simp))
  |int j=>obtain⟨t',rfl⟩:=ry;exact PySem.EqNone.ne_none_int (d7 I q (by simp))
  |str j=>obtain⟨t',rfl⟩:=ry;exact PySem.EqNone.ne_none_str (d7 I q (by simp))
  |_=>exact absurd (show ZD=ZC from hs) OA
 |bl i=>
  cases rx;cases y with
  |non=>cases ry;exact PySem.EqNone.ne_bool_none (d7 I q (by simp))
  |bl j=>cases ry;exact ne_bool (d7 I q (congrArg not Kn))
  |str j=>obtain⟨t',rfl⟩:=ry;exact PySem.EqMixed.ne_bool_str (d7 I q (by simp))
  |_=>exact absurd (show ZD=ZC from hs) OA
 |int i=>
  obtain⟨t,rfl⟩:=rx;cases y with
  |non=>cases ry;exact PySem.EqNone.ne_int_none (d7 I q (by simp))
  |int j=>obtain⟨t',rfl⟩:=ry;exact ne_int (d7 I q (congrArg not GR))
  |str j=>obtain⟨t',rfl⟩:=ry;exact PySem.EqMixed.ne_int_str (d7 I q (by simp))
  |_=>exact absurd (show ZD=ZC from hs) OA
 |str i=>
  obtain⟨t,rfl⟩:=rx;cases y with
  |non=>cases ry;exact PySem.EqNone.ne_str_none (d7 I q (by simp))
  |bl j=>cases ry;exact PySem.EqMixed.ne_str_bool (d7 I q (by simp))
  |int j=>obtain⟨t',rfl⟩:=ry;exact PySem.EqMixed.ne_str_int (d7 I q (by simp))
  |str j=>obtain⟨t',rfl⟩:=ry;exact ne_str (d7 I q (congrArg not GQ))
  |_=>exact absurd (show ZD=ZC from hs) OA
 |byt i=>
  obtain⟨t,rfl⟩:=rx;cases y with
  |byt j=>obtain⟨t',rfl⟩:=ry;exact PySem.W.ne_bytes (d7 I q (congrArg not GS))
  |_=>exact absurd (show ZD=ZC from hs) OA
 |_=>cases y <;> exact absurd (show ZD=ZC from hs) OA
def LF:qY X (Pm .Lt) (IB λi j=>.bl (decide (i<j))):=LI λ_ _ _ _ _ _ _ q=>lt_int q
def LG:qY X (Pm .LtE) (IB λi j=>.bl (decide (i<=j))):=LI λ_ _ _ _ _ _ _ q=>le_int q
def Jt:qY X (Pm .Is) (λx y H Q=>y=.non/\Q (.bl (decide (x=.non))) H):=by
 intro kw s σ H x y v u Q I rx ry h;obtain⟨rfl,q⟩:=h;cases ry;refine is_none_gen (d7 I q ?_);cases x <;> first
  | (cases rx;rfl)
  | (obtain⟨t,rfl⟩:=rx;rfl)
def F6:qY X (Pm .IsNot) (λx y H Q=>y=.non/\Q (.bl (!decide (x=.non))) H):=by
 intro kw s σ H x y v u Q I rx ry h;obtain⟨rfl,q⟩:=h;cases ry;refine isnot_none_gen (d7 I q ?_);cases x <;> first
  | (cases rx;rfl)
  | (obtain⟨t,rfl⟩:=rx;rfl)
def Jz(b:ZG)(h:autoParam (op≠ .In) s_)(h2:autoParam (op≠ .NotIn) s_):RO op b=ZD:=by
 have e1:(op == CmpOp.In)=ZD:=by cases op <;> first|rfl|exact absurd rfl h
 have e2:(op == CmpOp.NotIn)=ZD:=by cases op <;> first|rfl|exact absurd rfl h2
 cases b <;> simp[RO,e1,e2]
def KQ(t:TE):TT:=λσ H Q=>t σ H λx H'=>∃k,x=.bl k/\Q k H'
def FT(ho:qY X (Pm op) r)(ha:PE X a ta)(hb:PE X b tb)(hm:RO op b=ZD):PT X (.Compare a [op] [b] pos) (KQ (tOp r ta tb)):=by
 intro kw s σ H Q I h;refine UN (cM (ha kw s σ H _ I h) λv s1 ⟨x,H1,I1,r1,q1⟩=>cM (hb kw s1 σ H1 _ I1 q1) λu s2 ⟨y,H2,I2,r2,q2⟩=>
  cM (ho kw s2 σ H2 x y v u _ I2 r1 r2 q2) λc s3 ⟨z,H3,I3,r3,k,e,q3⟩=>?_) hm
 subst e;cases r3;exact Pe ⟨H3,I3,q3⟩
def qk:(ZI:Nat)<2 ^ 63:=by rw[PD];decide
def x5:qY X (Qw .Add) (λx y H Q=>∃i j,x=.str i/\y=.str j/\i.length+j.length<=ZI/\Q (.str (i++j)) H):=by intro kw s σ H x y v u Q I rx ry h;obtain⟨i,j,rfl,rfl,hz,q⟩:=h;obtain⟨t,rfl⟩:=rx;obtain⟨t',rfl⟩:=ry;exact add_str (λt' tk=>⟨.str (i++j),H,I.tok _,⟨_,rfl⟩,q⟩) hz
def lK{x:V}(r:Vals [x] us):∃u,us=[u]/\RelV x u:=by
 cases r with
 |cons r1 r2=>cases r2;exact⟨_,rfl,r1⟩
def za{x y:V}(r:Vals [x,y] us):∃u w',us=[u,w']/\RelV x u/\RelV y w':=by
 cases r with
 |cons r1 r2=>
  cases r2 with
  |cons r3 r4=>cases r4;exact⟨_,_,rfl,r1,r3⟩
def Bu(hc:X.calm=ZC):CallR X (.builtin "max") (λxs H Q=>∃i j,xs=[.int i,.int j]/\Q (.int (if j > i then j else i)) H):=by
 intro kw s σ H xs us Q I r h;obtain⟨i,j,rfl,q⟩:=h;obtain⟨u,w',rfl,⟨t,rfl⟩,⟨t',rfl⟩⟩:=za r;refine max_two_ints (I.ok.hd hc) λh' tk k=>⟨_,H,I.kept k,?_,q⟩;by_cases hj:j > i
 .rw[if_pos hj,if_pos hj];exact⟨_,rfl⟩
 .rw[if_neg hj,if_neg hj];exact⟨_,rfl⟩
def Bv:CallR X (.type "int") (λxs H Q=>(∃i,xs=[.int i]/\Q (.int i) H)\/∃k,xs=[.bl k]/\Q (.int (if k then 1 else 0)) H):=by
 intro kw s σ H xs us Q I r h;rcases h with⟨i,rfl,q⟩|⟨k,rfl,q⟩
 .obtain⟨u,rfl,t,rfl⟩:=lK r;exact call_int_int ⟨.int i,H,I,⟨_,rfl⟩,q⟩
 .obtain⟨u,rfl,r1⟩:=lK r;cases r1;exact call_int_bool ⟨.int (if k then 1 else 0),H,I.tok _,⟨_,rfl⟩,q⟩
end
structure ObjM (h:ZH)(x dx C:ZE)(mA:WF):Prop where
 obj:h.get? x=ZA (Uw C dx)
 ns:h.Ns1 dx mA
 ne:dx≠x
variable{dx:ZE}{mA:WF}
def AZ(n:h.Ns1 dx mA):∃od,h.get? dx=ZA od/\∀name,U9 name od=ZA (mA name):=by
 obtain⟨o,es,ep,ho,hd,hk,_,hm⟩:=n;refine⟨o,ho,λname=>?_⟩;have e:=hm name;unfold nsFind findBy at e;rw[<-Vu]at e;unfold U9;rw[hd];dsimp only;split
 .rename_i y q;rw[q]at e;exact congrArg ZA e
 .rename_i q;rw[q]at e;have a:es.toList.any (·.refKey)=ZD:=by rw[TM];intro y hy;obtain⟨z,t,hkey⟩:=hk y (Array.mem_toList_iff.mp hy);simp[DictEntry.refKey,hkey]
  have a':¬ es.toList.any (·.refKey)=ZC:=by rw[a];exact OA
  rw[if_neg a'];exact congrArg ZA e
variable{C:ZE}
def ObjM.look{x:ZE}(I:ObjM h x dx C mA):∃od,PySem.W.InstAt h x (Uw C dx) C (ZA od)/\∀name,U9 name od=ZA (mA name):=
 let ⟨od,ho,hl⟩:=AZ I.ns
 ⟨od,⟨I.obj,rfl,rfl,ho⟩,hl⟩
def RelO.some_of{o:Option N8}(r:RelO (ZA v) o):∃u,o=ZA u/\RelV v u:=by
 cases o with
 |none=>exact(show False from r).elim
 |some u=>exact⟨u,rfl,r⟩
section
variable {fs fs':List (Str×V)}
def Gz(hok:HOk P w H h)(e:H a=ZA (.ins C dx fs)):∃mA,ObjM h a dx C mA/\(∀f,RelO (fs.lookup f) (mA f))/\PySem.Within mA (fs.map (·.1))/\fs.length<=1000/\H dx=ZA (.own a):=by obtain⟨d,z,ne,ob,mA,n,r,q⟩:=(show ObjOk P w H h a (.ins C dx fs)from hok a _ e);exact⟨mA,⟨ob,n,ne⟩,r,q,z,d⟩
end
structure Cls (K:N4)(C:ZE):Prop where
 pg:WC K C Str.empty=ZC
 hd:PySem.W.hasDictIn K C=ZC
 po:PySem.W.plainOver K C=ZC
 sa:PySem.W.findIn K (.ref C) "__setattr__" =ZA (ZA (.builtin "object.__setattr__"))
def Cls.get(c:Cls K C)(f:Str):WC K C f=ZC:=c.pg
section
variable {c:N8}{b:Bool}
inductive nt (K:N4) (H:Hp):V->N8->Prop where
 |non:nt K H .non (.type "NoneType")
 |bl (x:Bool):nt K H (.bl x) (.type "bool")
 |int (i:Int):nt K H (.int i) (.type "int")
 |str (x:Str):nt K H (.str x) (.type "str")
 |flt (x:UInt64):nt K H (.flt x) (.type "float")
 |lst {a:ZE} {xs:List V} (e:H a=ZA (.lst xs)):nt K H (.ref a) (.type "list")
 |frz {a:ZE} {o:Obj} {xs:List V} (e:H a=ZA (.frz o (.lst xs))):nt K H (.ref a) (.type "list")
 |tup {a:ZE} {xs:List V} (e:H a=ZA (.tup xs)):nt K H (.ref a) (.type "tuple")
 |dK {a:ZE} {kvs:List (Key×V)} (e:H a=ZA (.dK kvs)):nt K H (.ref a) (.type "dict")
 |dT {a:ZE} {kvs:List (List Key×V)} (e:H a=ZA (.dT kvs)):nt K H (.ref a) (.type "dict")
 |ins {a C dx:ZE} {fs:List (Str×V)} (e:H a=ZA (.ins C dx fs)) (cl:Cls K C) (ha:PySem.W.findIn K (.ref C) "__class__" =ZA (ZA (.builtin "object.__class__")))
   (hn:PySem.W.specialIn K (.builtin "object.__class__") "__get__" =ZA (ZA (.builtin "getset_descriptor.__get__"))) (htk:PySem.W.takesIn K (.builtin "object.__class__")=ZA ZC)
   (hm:PySem.W.mroIn K C (.type "object")=ZA ZC):nt K H (.ref a) (.ref C)
def A9{x:V}{u t:N8}(I:Inv X kw σ H s)(rx:RelV x u)(ty:nt X.K H x t)(e:PySem.W.kitOne X.K t c=ZA b)(h:∀tk,Q (.bool b) {s with toks:=tk}):
  ZJ (ZK X.prog X.w) A (call (.builtin "isinstance") [u,c]) Q E s:=by
 cases ty with
 |non=>cases (show u=Pl from rx);exact PY PySem.W.kitx_none I.kIn RH e (λz=>nomatch z) h
 |bl y=>cases (show u=Pn y from rx);exact PY PySem.W.kitx_bool I.kIn RH e (λz=>nomatch z) h
 |int i=>obtain⟨t,q⟩:=(show ∃t,u=Qb i t from rx);cases q;exact PY PySem.W.kitx_int I.kIn RH e (λz=>nomatch z) h
 |str y=>obtain⟨t,q⟩:=(show ∃t,u=QB y t from rx);cases q;exact PY PySem.W.kitx_str I.kIn RH e (λz=>nomatch z) h
 |flt y=>obtain⟨t,q⟩:=(show ∃t,u=Value.float y t from rx);cases q;exact PY PySem.W.kitx_float I.kIn RH e (λz=>nomatch z) h
 |@lst a xs ea=>
  cases (show u=Oz a from rx);obtain⟨_,_,n,_,h1⟩:=(show ObjOk X.prog X.w H s.heap a (.lst xs)from I.hok a _ ea);exact PY VY I.kIn ⟨_,h1,rfl⟩ e (λz=>nomatch z) h
 |@frz a ob xs ea=>
  cases (show u=Oz a from rx);obtain⟨_,_,_,n,_,h1⟩:=(show ObjOk X.prog X.w H s.heap a (.frz ob (.lst xs))from I.hok a _ ea);exact PY VY I.kIn ⟨_,h1,rfl⟩ e (λz=>nomatch z) h
 |@tup a xs ea=>
  cases (show u=Oz a from rx);obtain⟨_,_,_,p⟩:=(show ObjOk X.prog X.w H s.heap a (.tup xs)from I.hok a _ ea);obtain⟨o,h1,h2,_⟩:=p;exact PY PySem.W.kitx_tuple I.kIn ⟨o,h1,h2⟩ e (λz=>nomatch z) h
 |@dK a kvs ea=>
  cases (show u=Oz a from rx);obtain⟨_,_,vs,_,p⟩:=(show ObjOk X.prog X.w H s.heap a (.dK kvs)from I.hok a _ ea);obtain⟨o,es,ep,h1,h2,_⟩:=p;exact PY VZ I.kIn ⟨o,h1,h2.1⟩ e (λz=>nomatch z) h
 |@dT a kvs ea=>
  cases (show u=Oz a from rx);obtain⟨_,_,xs,_,o,es,ep,h1,h2,_⟩:=(show ObjOk X.prog X.w H s.heap a (.dT kvs)from I.hok a _ ea);exact PY VZ I.kIn ⟨o,h1,h2.1⟩ e (λz=>nomatch z) h
 |@ins a C dx fs ea cl ha hn htk hm=>
  cases (show u=Oz a from rx);obtain⟨mA,O,_⟩:=Gz I.hok ea;obtain⟨od,J,_⟩:=O.look;exact PY (PySem.W.kitx_own (cl.get _) cl.hd ha hn htk hm) I.kIn J e (λz=>nomatch z) h
end
structure Room (k:Nat)(A:OU):Prop where
 hd:A.handled=ZB
 dp:A.depth+3*k+5<RV
 un:A.units+16*k+200<cLine
theorem Room.mono(r:Room k A)(h:j<=k):Room j A:=⟨r.hd,by have:=r.dp;omega,by have:=r.un;omega⟩
theorem Room.deeper(r:Room (k+1) A)(env:Env):Room k (A.deeper env):=
 ⟨r.hd,by have:=r.dp;show A.depth+1+3*k+5<_;omega,by have:=r.un;show A.units+3+16*k+200<_;omega⟩
theorem Room.in1(r:Room (k+1) A):Room k A.in1:=
 ⟨r.hd,by have:=r.dp;show A.depth+3*k+5<_;omega,by have:=r.un;show A.units+1+16*k+200<_;omega⟩
def Room.depth(r:Room k A):A.depth<RV:=by have:=r.dp;omega
def tD:TA:=λ_ H Q=>Q [] H
def ij(ta:TE)(tr:TA):TA:=λσ H Q=>ta σ H λx H1=>tr σ H1 λxs H2=>Q (x::xs) H2
section
variable {t:TA}
def dS:PA X [] tD:=λ_ _ _ _ H Q I h=>Re ⟨[],H,I,.nil,h⟩
def bB(ha:PE X e te)(hr:PA X es t)(hs:Ov (e::es) X.env=(ZD,eval e X.env)::Ov es X.env:=by rfl):PA X (e::es) (ij te t):=by intro pos kw s σ H Q I h;rw[hs];show ZJ _ _ (spliced ((ZD,eval e X.env)::backTo pos (Ov es X.env))) _ _ s;refine Rx (cM (ha kw s σ H _ I h) λu s1 hh_=>?_);obtain⟨x,H1,I1,r1,q1⟩:=hh_;exact cM (hr pos kw s1 σ H1 _ I1 q1) λus s2 ⟨xs,H2,I2,r2,q2⟩=>⟨x::xs,H2,I2,.cons r1 r2,q2⟩
def E9(t:TA):TE:=λσ H Q=>t σ H λxs H1=>xs.length<=ZI/\∀p,H1 p=ZB->Q (.ref p) (upd H1 p (.tup xs))
def tLst(t:TA):TE:=λσ H Q=>t σ H λxs H1=>xs.length<=ZI/\∀p,H1 p=ZB->Q (.ref p) (upd H1 p (.lst xs))
def tY{x1}(h:PA X es t):PE X (.Tuple es x1 pos) (E9 t):=by intro kw s σ H Q I hq;refine wpAny_Tuple_spliced (cM (h pos kw s σ H _ I hq) λus s1 ⟨xs,H1,I1,r,z,q⟩=>⟨by rw[<-r.length];exact z,?_⟩);have hf:H1 s1.heap.objs.size=ZB:=I1.hok.fresh (Oq _);refine⟨.ref s1.heap.objs.size,upd H1 s1.heap.objs.size (.tup xs),I1.laid (t':=s1.toks) (λb u e=>Of _ e) (Oq _) ?_,rfl,q _ hf⟩;exact⟨z,us,r,⟨_,Oy _ rfl,rfl,_,rfl⟩⟩
def tZ(h:PA X es t):PE X (.List es pos) (tLst t):=by intro kw s σ H Q I hq;refine VO (cM (h pos kw s σ H _ I hq) λus s1 ⟨xs,H1,I1,r,z,q⟩=>⟨by rw[<-r.length];exact z,?_⟩);have hf:H1 s1.heap.objs.size=ZB:=I1.hok.fresh (Oq _);refine⟨.ref s1.heap.objs.size,upd H1 s1.heap.objs.size (.lst xs),I1.laid (t':=s1.toks) (λb u e=>Of _ e) (Oq _) ?_,rfl,q _ hf⟩;exact⟨z,us,0,r,Oy _ rfl⟩
end
abbrev Sp:=List V->Hp->VK->XK->Prop
abbrev BJ:=List Env->Hp->Oc->XK->WP
structure Env0 (P:OF)(w:Pv)(K:N4)(mg:WF)(base:ZH)(A:OU)(outer:List Env)(s:Oc)(H:Hp):Prop where
 frames:A.frames=ZA outer
 mod:Mod K mg base
 bs:∀b o,base.get? b=ZA o->s.heap.get? b=ZA o/\H b=ZB
 bsz:base.objs.size<=s.heap.objs.size
 funs:s.heap.FunFrames base outer
 frf:∀b∈kJ outer,H b=ZB
 hok:HOk P w H s.heap
 bare:Rh s.gens
 tb:Tb K mg H
def CE(outer:List Env)(P:OF)(w:Pv)(H:Hp)(s:Oc)(Q:VK)(u:N8)(s':Oc):Prop:=
 ∃v H',s'.os=s.os/\Rh s'.gens/\Un (kJ outer) [] H H' s.heap s'.heap/\HOk P w H' s'.heap/\RelV v u/\Q v H'
def CR(CX:BJ)(outer:List Env)(P:OF)(w:Pv)(H:Hp)(s:Oc)(Q:VK)(E:XK)(r:Xh)(s':Oc):Prop:=
 match r with
 |.ok (.ret u)=>CE outer P w H s Q u s'
 |.ok _=>False
 |.error e=>CX outer H s E e s'
structure rH (P:OF)(w:Pv)(K:N4)(mg:WF)(base:ZH)(CX:BJ)(k:Nat)(f:ZE)(fd:PR)(ps:List Str)(sp:Sp):Prop where
 len:∀vs H Q E,sp vs H Q E->vs.length=ps.length
 run:∀(A:OU)(outer:List Env)(s:Oc)(H:Hp)(args:Args)(us:List N8)(vs:List V)(Q:VK)(E:XK),Room k A->Env0 P w K mg base A outer s H->Vo s fd args (ps.zip us)->Vals vs us->sp vs H Q E ->
  ZL (ZK P w) A (.call (.ref f) args) (CR CX outer P w H s Q E) s
variable{mg:WF}{outer:List Env}
def Env0.in1{base:ZH}(e:Env0 P w K mg base A outer s H):
  Env0 P w K mg base A.in1 outer s H:=⟨e.frames,e.mod,e.bs,e.bsz,e.funs,e.frf,e.hok,e.bare,e.tb⟩
variable{Q:VK}
def Inv.Nx(I:Inv X kw σ H s):Env0 X.prog X.w X.K X.mg X.base X.A X.stack s H:=
 ⟨I.ok.frames,I.ok.mod,I.bs,OG I.ok.bsz I.sz,I.stack,I.IR,I.hok,I.bare,I.tb⟩
def Inv.after{u:N8}(I:Inv X kw σ H s)(h:CE X.stack X.prog X.w H s Q u s'):EP X kw σ Q u s':=by obtain⟨v,H',os,bare,un,hok,r,q⟩:=h;obtain⟨hh,g,d,t,os'⟩:=s';obtain rfl:os'=s.os:=os;exact⟨v,H',I.call (h':=hh) (g':=g) (d':=d) (t':=t) (ch:=[]) un hok bare (λb z=>absurd z (by simp)),r,q⟩
def Hj(sp:Sp)(dvs:List V)(E:XK)(t:TA):TE:=λσ H Q=>t σ H λvs H1=>sp (vs++dvs) H1 Q E
def Binds(K:N4)(fd:PR)(ps:List Str)(ds:List N8):Prop:=
 ∀(s:Oc)(us:List N8),K.In s.heap->(us++ds).length=ps.length->Vo s fd ⟨us,[]⟩ (ps.zip (us++ds))
variable{ps:List Str}
def Binds.all(h:∀us:List N8,us.length=ps.length->VP fd ⟨us,[]⟩=pure (ps.zip us)):Binds K fd ps []:=λs us _ hl=>by rw[Px]at hl ⊢;exact .of_eq (h us hl)
def u9(CX:BJ)(X:Cx)(E:XK):Prop:=∀(kw:Uf)(σ:St)(H:Hp)(s:Oc)(e:N8)(s':Oc),Inv X kw σ H s->CX X.stack H s E e s'->X.xe e s'
variable{CX:BJ}{E:XK}{f:ZE}{sp:Sp}{vs:List V}
section
variable {dvs:List V}{ds:List N8}{m:Str}{p apos:Pos}{o:ZG}{t:TA}
def xT(F:rH X.prog X.w X.K X.mg X.base CX k f fd ps sp)(hr:Room k X.A)(hb:Binds X.K fd ps ds)(hd:Vals dvs ds)(hx:u9 CX X E)
  (I:Inv X kw σ H s) (r:Vals vs us) (h:sp (vs++dvs) H Q E):ZJ (ZK X.prog X.w) X.A (call (.ref f) us) (EP X kw σ Q) X.xe s:=by
 have r2:Vals (vs++dvs) (us++ds):=r.append hd;have hl:(us++ds).length=ps.length:=by rw[<-r2.length];exact F.len _ _ _ _ h
 refine UW (R9 (F.run X.A X.stack s H ⟨us,[]⟩ (us++ds) (vs++dvs) Q E hr I.Nx (hb s us I.kIn hl) r2 h) λr s' hq=>?_);cases r with
 |error e=>exact hx kw σ H s e s' I hq
 |ok fl=>
  cases fl with
  |ret u=>exact I.after hq
  |next=>exact QM hq
  |brk=>exact QM hq
  |cont=>exact QM hq
def zx(F:rH X.prog X.w X.K X.mg X.base CX k f fd ps sp)(hr:Room k X.A)(hg:Gl X x)(hm:X.mg x=ZA (.ref f))(hk:Qu X.K (.ref f)=ZC)(hb:Binds X.K fd ps ds)(hd:Vals dvs ds)(hx:u9 CX X E)
  (ha:PA X (e::es) t) (hdb:autoParam ((x == ("__debug__" : Str))=ZD) s_) (he:Ov (e::es) X.env=(ZD,eval e X.env)::Ov es X.env:=by rfl) (hpl:(backTo pos (Ov es X.env)).any (·.1)=ZD:=by rfl):
  PE X (.Call (.Name x p) (e::es) [] pos) (Hj sp dvs E t):=by
 intro kw s σ H Q I h;refine Pa (jh I hg hm ?_ hdb);refine Sd (h₀:=X.base) I.ok.mod.kin hk (cM (ha pos kw s σ H _ I h) λus s1 ⟨vs,H1,I1,r,q⟩=>⟨I1.kIn,?_⟩) he hpl;exact xT F hr hb hd hx I1 r q
def CP(F:rH X.prog X.w X.K X.mg X.base CX k f fd ps sp)(hr:Room k X.A)(hg:Gl X x)(hm:X.mg x=ZA (.ref f))(hk:Qu X.K (.ref f)=ZC)(hb:Binds X.K fd ps ds)(hd:Vals dvs ds)(hx:u9 CX X E)
  (hdb:autoParam ((x == ("__debug__" : Str))=ZD) s_):PE X (.Call (.Name x p) [] [] pos) (Hj sp dvs E tD):=by
 intro kw s σ H Q I h;refine Pa (jh I hg hm ?_ hdb);exact PySem.W.callWith_K0 I.kIn hk (xT (us:=[]) F hr hb hd hx I .nil h)
end
def PK(X:Cx)(kws:List Wj)(t:TA):Prop:=
 ∀(pos:Pos)(kw:Uf)(s:Oc)(σ:St)(H:Hp)(Q:List V->Hp->Prop),Inv X kw σ H s->t σ H Q->ZJ (ZK X.prog X.w) X.A (evalAll ((VQ pos (Te kws X.env)).map (·.2))) (AP X kw σ Q) X.xe s
structure dq (N P:List Str)(sc:RF):Prop where
 kind:sc.kind=.function
 co:sc.isCoroutine=ZD
 gen:sc.isGenerator=ZD
 nd:N.Nodup
 pre:N.take P.length=P
 par:∀x∈P,sc.names.lookup x=ZA .local\/sc.names.lookup x=ZA .cell
 nofree:∀y∈sc.names,y.2≠ .free
variable{kindOf:Str->Option RN}
theorem sP:∀{binds:List (Str×N8)}{m:WF},(∀v,(x,v)∉binds)->bindL kindOf binds m x=m x
 |[],_,_=>rfl
 | (n,v)::r,m,h=>by
  unfold bindL;rw[sP λw hw=>h w (N6 _ hw)];split
  .have:x≠n:=by rintro rfl;exact h v Ob
   simp[this]
  .rfl
theorem sR:∀{binds:List (Str×N8)}{m:WF},(∀v,(x,v)∉binds)->bindC kindOf binds m x=m x
 |[],_,_=>rfl
 | (n,v)::r,m,h=>by
  unfold bindC;rw[sR λw hw=>h w (N6 _ hw)];split
  .rfl
  .have:x≠n:=by rintro rfl;exact h v Ob
   simp[this]
variable{v:N8}
theorem sQ:∀{P:List Str}{vs:List N8}{i:Nat}{m:WF},P.Nodup->P[i]?=ZA x->vs[i]?=ZA v->kindOf x=ZA .local ->
  bindL kindOf (P.zip vs) m x=ZA v
 |[],_,_,_,_,h,_,_=>by simp at h
 |_::_,[],_,_,_,_,h,_=>by simp at h
 |p::P,w::vs,0,m,nd,h1,h2,hk=>by simp at h1 h2;subst h1;subst h2;show bindL kindOf ((p,w)::P.zip vs) m p=_;unfold bindL;rw[sP λv hv=>(OV.mp nd).1 (Rf hv).1,if_pos hk];simp
 |p::P,w::vs,i+1,m,nd,h1,h2,hk=>by show bindL kindOf ((p,w)::P.zip vs) m x=_;unfold bindL;exact sQ (i:=i) (OV.mp nd).2 (by simpa using h1) (by simpa using h2) hk
theorem sS:∀{P:List Str}{vs:List N8}{i:Nat}{m:WF},P.Nodup->P[i]?=ZA x->vs[i]?=ZA v->kindOf x≠ZA .local ->
  bindC kindOf (P.zip vs) m x=ZA v
 |[],_,_,_,_,h,_,_=>by simp at h
 |_::_,[],_,_,_,_,h,_=>by simp at h
 |p::P,w::vs,0,m,nd,h1,h2,hk=>by simp at h1 h2;subst h1;subst h2;show bindC kindOf ((p,w)::P.zip vs) m p=_;unfold bindC;rw[sR λv hv=>(OV.mp nd).1 (Rf hv).1,if_neg hk];simp
 |p::P,w::vs,i+1,m,nd,h1,h2,hk=>by show bindC kindOf ((p,w)::P.zip vs) m x=_;unfold bindC;exact sS (i:=i) (OV.mp nd).2 (by simpa using h1) (by simpa using h2) hk
noncomputable def start(N:List Str)(vs:List V):St:=vs.map ZA++OH (N.length - vs.length) ZB
noncomputable def jm(CX:BJ)(P:OF)(w:Pv)(K:N4)(mg:WF)(base:ZH)(N:List Str)(qual:Str)(scope:RF)(f:ZE)(cd:N8)(A:OU)(outer:List Env)(s:Oc)(H:Hp)(E:XK):Cx where
 prog:=P
 w:=w
 K:=K
 mg:=mg
 base:=base
 A:=A.deeper (envOfC qual scope s.heap.objs.size f cd)
 N:=N
 s₀:=s
 H₀:=H
 env:=envOfC qual scope s.heap.objs.size f cd
 outer:=outer
 stack:=envOfC qual scope s.heap.objs.size f cd::outer
 ex:=[]
 calm:=ZC
 fn:=λ_=>ZC
 pn:=[]
 xe:=λe s'=>ZJ (ZK P w) (A.deeper (envOfC qual scope s.heap.objs.size f cd)) (leaving (envOfC qual scope s.heap.objs.size f cd) e) (λ_ s''=>CX outer H s E e s'') (λe' s''=>CX outer H s E e' s'') s'
def xg(h:sc.names.lookup x=ZA .cell):∃c,(QR n sc.names []).lookup x=ZA c:=by have q:=QY sc.names n [] (.inl h);exact R5.mp q
variable{qual:Str}
theorem kI{base:ZH}
  (S:dq N ps scope) (hd:A.handled=ZB) (e0:Env0 P w K mg base A outer s H) (hl:vs.length=ps.length) (r:Vals vs us)
  (x:InCallC s s.heap.objs.size (bindL (envOfC qual scope s.heap.objs.size f cd).kindOf (ps.zip us) λ_=>ZB) (QR (s.heap.objs.size+1) scope.names []) (bindC (envOfC qual scope s.heap.objs.size f cd).kindOf (ps.zip us) λ_=>ZB) s1):
  Inv (jm CX P w K mg base N qual scope f cd A outer s H E) [] (start N vs) H s1:=by
 have hpl:ps.length<=N.length:=by have:=congrArg Py S.pre;rw[Po]at this;omega
 obtain⟨h1,tk,rfl,hk⟩:=x.done;have noA:∀b:ZE,b∉(jm CX P w K mg base N qual scope f cd A outer s H E).ex:=λb z=>absurd (show b∈([]:List ZE)from z) (by simp);refine⟨⟨e0.mod,S.kind,rfl,rfl,Oq _,λy z c h1 h2=>?_,λy hy=>?_,λy c _ h=>?_,λ_=>hd,U2 e0.frames,.inr ⟨rfl,rfl⟩,λb z=>absurd z (noA b),e0.bs,e0.bsz,λb _ _=>noA b,λb z=>absurd z (noA b),e0.funs,e0.frf,e0.tb⟩,
  rfl,e0.bare,Un.kept hk,⟨_,x.toInCall.ns,λi y v h1 h2 h3=>?_⟩,λy c h=>⟨_,x.cell y c h⟩,e0.hok.fresh (Oq _),λy c h=>?_,λp hp=>absurd (show p∈([]:Uf)from hp) (by simp),e0.hok.kept hk,?_⟩
 .exact name_of_addr x.apart (QQ h1) (QQ h2)
 .have hy:scope.names.lookup y=ZA .cell\/scope.names.lookup y=ZA .free:=hy;rcases hy with hy|hy
  .exact xg hy
  .exact absurd rfl (S.nofree _ (QQ hy))
 .exact P9 (x.above y c (QQ h))
 .have hi:i<vs.length:=by
   unfold start at h2;by_cases hi:i<vs.length
   .exact hi
   .rw[RQ (by simpa using hi)]at h2;rw[Rm]at h2;split at h2 <;> cases h2
  have ha:vs[i]?=ZA v:=by
   unfold start at h2;rw[Q9 (by simpa using hi),Ot]at h2;cases e:vs[i]? with
   |none=>rw[e]at h2;cases h2
   |some a=>rw[e]at h2;cases h2;rfl
  obtain⟨u,hu,rv⟩:=r.get ha;have hp:ps[i]?=ZA y:=by rw[<-S.pre,List.getElem?_take_of_lt (by omega)];exact h1
  have ndP:ps.Nodup:=by rw[<-S.pre];exact S.nd.sublist (List.take_sublist _ _)
  refine⟨u,rv,?_⟩;rcases S.par y (Pw hp)with k|k
  .exact .inl ⟨k,sQ ndP hp hu k⟩
  .obtain⟨c,e⟩:=xg (n:=s.heap.objs.size+1) k;refine .inr ⟨.inl k,c,e,?_⟩;have q:=x.cell y c e;rw[sS ndP hp hu (by show scope.names.lookup y≠_;rw[k];decide)]at q;exact q
 .exact e0.hok.fresh (P9 (x.above y c (QQ h)))
 .unfold start;show _=N.length;rw[Ol,N9,List.length_replicate];omega
def Mk{base:ZH}{name:Str}{dV kV doc pm ct oc:N8}{an od:Option ZE}
  {osl:Array (Option N8)}   (lk:K.lookup f=ZA ⟨oc,od,.func (R3 name qual params body scope dV kV doc pm an cdv ct),osl⟩) (hcd:Va K cdv qual=ZC) (S:dq N ps scope)
  (len:∀vs H Q E,sp vs H Q E->vs.length=ps.length)
  (hbody:∀(A:OU)(outer:List Env)(s:Oc)(H:Hp)(vs:List V)(Q:VK)(E:XK),Room k (A.deeper (envOfC qual scope s.heap.objs.size f cdv))->sp vs H Q E ->
   ∃t,PSs (jm CX P w K mg base N qual scope f cdv A outer s H E) body t/\t {nx:=λ_ H'=>Q .non H',rt:=Q} (start N vs) H):
  rH P w K mg base CX (k+1) f (R3 name qual params body scope dV kV doc pm an cdv ct) ps sp:=by
 refine⟨len,λA outer s H args us vs Q E hr e0 hb r hsp=>?_⟩;have hl:=len _ _ _ _ hsp;have KX:K.In s.heap:=e0.mod.kin.keeps λb o e=>(e0.bs b o e).1;have lim:s.heap.NoLimit:=e0.mod.nolimit.keeps λb o e=>(e0.bs b o e).1;have hkind:∀y∈ps.zip us,scope.names.lookup y.1=ZA .local\/(scope.names.lookup y.1=ZA .cell/\((QR (s.heap.objs.size+1) scope.names []).lookup y.1).isSome=ZC):=λ⟨n,v⟩ hy=>by
  rcases S.par n (Rf hy).1 with q|q
  .exact .inl q
  .exact .inr ⟨q,QY _ _ _ (.inl q)⟩
 refine SO hr.depth (KX _ _ lk) rfl S.co S.gen rfl (Ts KX hcd) (hb _ _ _ _ ?_);refine Q2 S.kind hkind λenv he s1 x=>?_;subst he;refine⟨lim.keeps x.toInCall.keep,Wx ?_⟩;obtain⟨t,ht,hq⟩:=hbody A outer s H vs Q E (hr.deeper _) hsp;have I:Inv (jm CX P w K mg base N qual scope f cdv A outer s H E) [] (start N vs) H s1:=kI S hr.hd e0 hl r x;refine Qm (ht [] s1 (start N vs) H _ I hq) (λfl s' hs=>?_) λe s' hs=>hs;have fin:∀{σ':St}{H':Hp}{v:V}{u:N8},Inv (jm CX P w K mg base N qual scope f cdv A outer s H E) [] σ' H' s'->RelV v u->Q v H'->CE outer P w H s Q u s':=
  λ{σ' H' v u} J rv q=>⟨v,H',J.os,J.bare,J.base,J.hok,rv,q⟩
 cases fl with
 |ret u=>
  obtain⟨v,σ',H',J,rv,q⟩:=hs;exact fin J rv q
 |next=>
  obtain⟨σ',H',J,q⟩:=hs;exact fin (v:=V.non) (u:=Pl) J rfl q
 |brk=>
  obtain⟨_,_,_,q⟩:=hs;exact QM q
 |cont=>
  obtain⟨_,_,_,q⟩:=hs;exact QM q
end L2
namespace HT
open PySem PyProof.Rows
def lexLt:List Int->List Int->Bool
 |[],[] =>ZD
 |[],_::_=>ZC
 |_::_,[] =>ZD
 |x::xs,y::ys=>if x=y then lexLt xs ys else decide (x<y)
def lexLt_cons(x y:Int)(xs ys:List Int):lexLt (x::xs) (y::ys)=if x=y then lexLt xs ys else decide (x<y):=rfl
def rC:lexLt [] []=ZD:=rfl
def qm(y:Int)(ys:List Int):lexLt [] (y::ys)=ZC:=rfl
def qo(x:Int)(xs:List Int):lexLt (x::xs) []=ZD:=rfl
def Eb(A:OU)(s:Oc)(a:Int)(t:Tok)(c:Int)(u:Tok):∃e,SeqAt.EqAt A s (.int a t) (.int c u) e/\(e=ZC↔a=c):=
 ⟨(a == c),Vr a t c u,by simp⟩
def Cm(A:OU)(s:Oc)(a:Int)(t:Tok)(c:Int)(u:Tok)(prog:OF)(w:Pv)(E:WP)(Q:WP)(h:Q (.bool (decide (a<c))) s):
  ZJ (ZK prog w) A (richCompare .Lt (.int a t) (.int c u)) Q E s:=
 (PyProof.Rows.lt_int h:ZJ (ZK prog w) A (Pm .Lt (.int a t) (.int c u)) Q E s)
def cat_tup{t b:ZE}{ws:List N8}(ht:Xu s.heap t vs.toArray)(hb:Xu s.heap b ws.toArray)(hv:vs≠ [])
  (h1:ws=[]->Q (.ref t) s) (h2:ws≠ []->Q (.ref s.heap.objs.size) {s with heap:=s.heap.push {cls:=.type "tuple",data:=.seq (vs++ws).toArray}})
  (hsz:vs.length+ws.length<=ZI):ZJ (ZK prog w) A (Qw .Add (.ref t) (.ref b)) Q E s:=by
 obtain⟨⟨cls,dd,data,sl⟩,ho,hc,n,hd⟩:=id ht;obtain⟨⟨cls2,dd2,data2,sl2⟩,ho2,hc2,n2,hd2⟩:=id hb;simp only at hc hd hc2 hd2;subst hc hd hc2 hd2;have e:vs.toArray++ws.toArray=(vs++ws).toArray:=by simp
 by_cases hw:ws=[]
 .exact Wy ⟨_,ho,rfl⟩ ⟨_,ho2,rfl⟩ Uk VR Sn Se (R4 _ _)
   (tuple_addW1 t b vs.toArray ws.toArray n n2 dd dd2 sl sl2 (by simpa using hv) (by simp[hw])) ⟨ho,ho2,h1 hw⟩
 .refine Wy ⟨_,ho,rfl⟩ ⟨_,ho2,rfl⟩ Uk VR Sn Se (R4 _ _)
   (tuple_addW2 t b vs.toArray ws.toArray n n2 dd dd2 sl sl2 (by simpa using hv) (by simpa using hw) (by rw[Ou,Ou];exact hsz)) ⟨ho,ho2,?_⟩
  rw[e];exact h2 hw
def sIx_none(n d:Nat):sIx n d ZB=d:=rfl
def sIx_nat(n d k:Nat):sIx n d (ZA (k:Int))=min k n:=by show(if (k:Int)<0 then((k:Int)+(n:Int)).toNat else min (k:Int).toNat n)=min k n;rw[if_neg (by omega),Pz]
theorem Iw(n d:Nat)(hd:d<=n)(o:Option Int):sIx n d o<=n:=by
 cases o with
 |none=>exact hd
 |some v=>
  show(if v<0 then(v+(n:Int)).toNat else min v.toNat n)<=n;by_cases hv:v<0
  .rw[if_pos hv];omega
  .rw[if_neg hv];exact Nat.min_le_right _ _
theorem Al(v:Int)(n d:Nat):(if v<0 then max (v+(n:Int)) 0 else min v (n:Int))=((sIx n d (ZA v):Nat):Int):=by
 show(if v<0 then max (v+(n:Int)) 0 else min v (n:Int))=(((if v<0 then(v+(n:Int)).toNat else min v.toNat n):Nat):Int);by_cases hv:v<0
 .simp only[if_pos hv];omega
 .simp only[if_neg hv];omega
def yU(lo hi:Option Int)(n:Nat):PZ lo hi 1 (n:Int)=(((sIx n 0 lo:Nat):Int),((sIx n n hi:Nat):Int)):=by
 have h1:¬ ((1:Int)<0):=by omega
 unfold PZ;simp only[h1,if_false];refine Prod.ext ?_ ?_
 .cases lo with
  |none=>rfl
  |some v=>exact Al v n 0
 .cases hi with
  |none=>rfl
  |some v=>exact Al v n n
theorem xY(i j:Nat):Pu (i:Int) (j:Int) 1=j - i:=by
 unfold Pu;have h1:(1:Int) > 0:=by omega
 simp only[h1,if_true,UA];split <;> omega
def pC{o:Option Int}{Q:Option Int->Oc->Prop}(p:VS v o)(h:Q o s):ZJ (ZK prog w) A (WV v) Q E s:=by
 cases p with
 |none=>exact TH h
 |int i t=>exact slicePart_int h
def iX{sl:ZE}{Q:Int×Int×Nat->Oc->Prop}(hs:s.heap.IsSliceOf sl vl vu .none)(pl:VS vl lo)(pu:VS vu hi)
  (h:Q (((sIx n 0 lo:Nat):Int),1,sIx n n hi - sIx n 0 lo) s):ZJ (ZK prog w) A (Q0 (.ref sl) (pure (n:Int))) Q E s:=by
 obtain⟨os,hos,hcs,hds⟩:=id hs;unfold Q0 TC;refine N5 (N5 (Qt hos hds (x:=vl) rfl (N5 (Qt hos hds (x:=vu) rfl (N5 (Qt hos hds (x:=.none) rfl (Oi ?_)))))));refine N5 (TH ?_);show ZJ _ _ (if ((1:Int) == 0)=ZC then _ else _) _ _ s;rw[if_neg (by decide)];refine N5 (pC pl (N5 (pC pu (N5 (Oi ?_)))));show ZJ _ _ (match PZ lo hi 1 (n:Int)with| (lo,hi)=>pure (lo,(1:Int),Pu lo hi 1)) _ _ s;rw[yU lo hi n];show ZJ _ _ (pure (((sIx n 0 lo:Nat):Int),(1:Int),Pu ((sIx n 0 lo:Nat):Int) ((sIx n n hi:Nat):Int) 1)) _ _ s;rw[xY];exact Oi h
theorem CH(xs:Array N8)(i k:Nat):((Oj k).filterMap λ(m:Nat)=>xs[((i:Int)+(m:Int)*1).toNat]?).toArray=((xs.toList.drop i).take k).toArray:=by
 have e:(λ(m:Nat)=>xs[((i:Int)+(m:Int)*1).toNat]?)=λm=>xs[i+m]?:=by
  funext m
  have:((i:Int)+(m:Int)*1).toNat=i+m:=by omega
  rw[this]
 rw[e];have:=pick_run xs i k;rw[Tv]at this;have e2:((λx=>xs[x]?)∘λx=>i+x)=λm=>xs[i+m]?:=rfl;rw[e2]at this;rw[this]
theorem getItem_tuple_cut{t sl:ZE}{items:Array N8}(ht:Xu s.heap t items)(hs:s.heap.IsSliceOf sl vl vu .none)(pl:VS vl lo)(pu:VS vu hi)
  (hw:¬ (sIx items.size 0 lo=0/\sIx items.size items.size hi=items.size))
  (h:Q (.ref s.heap.objs.size) {s with heap:=s.heap.push {cls:=.type "tuple",data:=.seq ((items.toList.drop (sIx items.size 0 lo)).take (sIx items.size items.size hi - sIx items.size 0 lo)).toArray}})
  (hsz:items.size<=ZI):ZJ (ZK prog w) A (getItem (.ref t) (.ref sl)) Q E s:=by
 have htake:sizeOk (.seq ((items.toList.drop (sIx items.size 0 lo)).take (sIx items.size items.size hi - sIx items.size 0 lo)).toArray):=by show((items.toList.drop (sIx items.size 0 lo)).take (sIx items.size items.size hi - sIx items.size 0 lo)).toArray.size<=ZI;rw[Ou,Po,QH,PL];omega
 have hj:sIx items.size items.size hi<=items.size:=Iw _ _ (Oq _) hi;obtain⟨os,hos,hcs,hds⟩:=id hs;have hTs:s.TypeIs (.ref sl) "slice":=⟨os,hos,hcs⟩;unfold getItem;try with_reducible refine P5 ?_
 first|refine N5 (Oi ?_)|skip
 refine N5 (TZ ht.typeIs (by decide) ?_);refine N5 (Qi (name:=Om "__getitem__") ht.typeIs ON
  (Q3 ON ht.typeIs Tf ?_ (TB _ _)))
 show ZJ _ _ (RP (.ref t) >>= _) _ _ s;refine N5 (Ud ht ?_);refine N5 (Sa hTs ?_);rw[if_pos (by decide)];refine N5 (iX hs pl pu ?_);have hno:¬ ((((sIx items.size 0 lo:Nat):Int) == 0&&(1:Int) == 1&&(sIx items.size items.size hi - sIx items.size 0 lo) == items.size)=ZC):=by intro q;rw[N7,N7]at q;have q1:((sIx items.size 0 lo:Nat):Int)=0:=eq_of_beq q.1.1;have q2:sIx items.size items.size hi - sIx items.size 0 lo=items.size:=eq_of_beq q.2;exact hw ⟨by omega,by omega⟩
 show ZJ _ _ (if (((sIx items.size 0 lo:Nat):Int) == 0&&(1:Int) == 1&&(sIx items.size items.size hi - sIx items.size 0 lo) == items.size)=ZC then _ else _) _ _ s;rw[if_neg hno,CH];first
  |exact N5 (m:=Pk _) (Pq (Oi ⟨_,rfl,Oi h⟩) htake)
  |exact N5 (m:=Pk _) (Pq (N5 (Oi (Oi ⟨_,rfl,Oi h⟩))) htake)
  |exact N5 (N5 (m:=Pk _) (Pq (Oi (Oi ⟨_,rfl,Oi h⟩)) htake))
  |exact N5 (N5 (m:=Pk _) (Pq (Oi ⟨_,rfl,Oi h⟩) htake))
end HT
variable{i:Int}
namespace L2
open PySem PySem.Spec PyProof.Rows
abbrev TO:=St->Hp->(Option Int->Hp->Prop)->Prop
def PO(X:Cx)(e:Option ZG)(t:TO):Prop:=
 ∀(kw:Uf)(s:Oc)(σ:St)(H:Hp)(Q:Option Int->Hp->Prop),Inv X kw σ H s->t σ H Q ->
  ZJ (ZK X.prog X.w) X.A (evalPart e X.env) (λu s'=>∃o H',Inv X kw σ H' s'/\VS u o/\Q o H') X.xe s
def Fc:TO:=λ_ H Q=>Q ZB H
def KR(t:TE):TO:=λσ H Q=>t σ H λx H1=>∃i,x=.int i/\Q (ZA i) H1
def yE:∀{us:List N8},Vals (ns.map V.int) us->Qn us ns:=by
 induction ns with
 |nil=>intro us r;rw[Tw]at r;cases r;exact .nil
 |cons n ns ih=>
  intro us r;rw[Oa]at r;cases r with
  |cons r1 r2=>
   obtain⟨t,e⟩:=r1;subst e;exact .cons n t (ih r2)
variable{X:Cx}{e:ZG}{pos:Pos}{r:V->Option Int->Option Int->Hp->VK->Prop}{xs:List V}
section
variable {te:TE}{lo hi:Option ZG}{tl th:TO}{p2:Pos}
def FX:PO X ZB Fc:=by intro kw s σ H Q I h;rw[VT];exact Oi ⟨ZB,H,I,.none,h⟩
def FW(h:PE X e te):PO X (ZA e) (KR te):=by intro kw s σ H Q I hw;rw[evalPart_some];refine cM (h kw s σ H _ I hw) λu s1 hh_=>?_;obtain⟨x,H1,I1,r1,q1⟩:=hh_;obtain⟨i,rfl,q⟩:=q1;obtain⟨t,rfl⟩:=r1;exact⟨ZA i,H1,I1,.int i t,q⟩
def SlR(X:Cx)(r:V->Option Int->Option Int->Hp->VK->Prop):Prop:=
 ∀(kw:Uf)(s:Oc)(σ:St)(H:Hp)(x:V)(v vl vu:N8)(lo hi:Option Int)(sl:ZE)(Q:VK),Inv X kw σ H s->RelV x v->s.heap.IsSliceOf sl vl vu .none->VS vl lo->VS vu hi->r x lo hi H Q ->
  ∃T id,Sy (.type T) "__getitem__" =pure (ZA (.builtin id))/\s.TypeIs v T/\ZJ (ZK X.prog X.w) X.A (getItem v (.ref sl)) (EP X kw σ Q) X.xe s
def SlR.or{r':V->Option Int->Option Int->Hp->VK->Prop}(h:SlR X r)(h':SlR X r'):SlR X (λx lo hi H Q=>r x lo hi H Q\/r' x lo hi H Q):=by
 intro kw s σ H x v vl vu lo hi sl Q I rx hs pl pu q;rcases q with q|q
 .exact h kw s σ H x v vl vu lo hi sl Q I rx hs pl pu q
 .exact h' kw s σ H x v vl vu lo hi sl Q I rx hs pl pu q
def tSl(r:V->Option Int->Option Int->Hp->VK->Prop)(te:TE)(tl th:TO):TE:=λσ H Q=>te σ H λx H1=>tl σ H1 λl H2=>th σ H2 λu H3=>r x l u H3 Q
def CK(hr:SlR X r)(he:PE X e te)(hl:PO X lo tl)(hu:PO X hi th):PE X (.Subscript e (.Slice lo hi ZB p2) pos) (tSl r te tl th):=by intro kw s σ H Q I h;refine UX (cM (he kw s σ H _ I h) λv s1 hh_=>?_);obtain⟨x,H1,I1,r1,q1⟩:=hh_;refine wpAny_Slice (cM (hl kw s1 σ H1 _ I1 q1) λvl s2 ⟨l,H2,I2,pl,q2⟩=>cM (hu kw s2 σ H2 _ I2 q2) λvu s3 hh_=>?_);obtain⟨u,H3,I3,pu,q3⟩:=hh_;rw[VT];refine Oi ?_;have I4:Inv X kw σ H3 {s3 with heap:=s3.heap.push {cls:=.type "slice",data:=.fields #[vl,vu,.none]}}:=I3.kept (t':=s3.toks) λb ob q=>Of _ q;obtain⟨T,id,hT,ht,hg⟩:=hr kw {s3 with heap:=s3.heap.push {cls:=.type "slice",data:=.fields #[vl,vu,.none]}} σ H3 x v vl vu l u s3.heap.objs.size Q I4 r1 (Tt ..) pl pu q3;show ZJ (ZK X.prog X.w) X.A (VU e (.Slice lo hi ZB p2) v (.ref s3.heap.objs.size)) (EP X kw σ Q) X.xe {s3 with heap:=s3.heap.push {cls:=.type "slice",data:=.fields #[vl,vu,.none]}};exact tail_any (ops:=[.ref s3.heap.objs.size,v]) ht hT hg (by with_unfolding_all rfl)
def xf(xs:List V)(lo hi:Option Int):List V:=(xs.drop (HT.sIx xs.length 0 lo)).take (HT.sIx xs.length xs.length hi - HT.sIx xs.length 0 lo)
theorem nT(xs:List V)(lo hi:Option Int):(xf xs lo hi).length<=xs.length:=by unfold xf;rw[Po,QH];omega
def rSlT(K:N4):V->Option Int->Option Int->Hp->VK->Prop:=λx lo hi H Q=>∃a xs,x=.ref a/\SqT K H a xs ∧
 ¬(HT.sIx xs.length 0 lo=0/\HT.sIx xs.length xs.length hi=xs.length)/\∀p,H p=ZB->Q (.ref p) (upd H p (.tup (xf xs lo hi)))
def sl_tup:SlR X (rSlT X.K):=by
 intro kw s σ H x v vl vu lo hi sl Q I rx hs pl pu h;obtain⟨a,xs,rfl,hx,hw,q⟩:=h;cases rx;obtain⟨its,r,ht,hz⟩:=I.tuple hx;have hlen:its.toArray.size=xs.length:=by rw[Ou];exact r.length.symm
 refine⟨"tuple",_,ON.lookup,ht.typeIs,?_⟩;refine HT.getItem_tuple_cut ht hs pl pu (by rw[hlen];exact hw) ?_ (by rw[hlen];exact hz);rw[hlen];refine⟨.ref s.heap.objs.size,_,I.laid (t':=s.toks) (o:=.tup (xf xs lo hi)) (λb ob q=>Of _ q) (Oq _) ?_,rfl,q _ (I.hok.fresh (Oq _))⟩;exact⟨OG (nT xs lo hi) hz,_,(r.drop (HT.sIx xs.length 0 lo)).take (HT.sIx xs.length xs.length hi - HT.sIx xs.length 0 lo),Vv _ _⟩
def Lb(K:N4):R2:=λx y H Q=>∃a b xs ys,x=.ref a/\y=.ref b/\SqT K H a xs/\SqT K H b ys/\xs≠ []/\xs.length+ys.length<=ZI ∧
 (ys=[]->Q (.ref a) H)/\(ys≠ []->∀p,H p=ZB->Q (.ref p) (upd H p (.tup (xs++ys))))
def Vals.Da(r:Vals xs us):us=[] ↔xs=[]:=by
 cases r with
 |nil=>simp
 |cons _ _=>simp
def F8:qY X (Qw .Add) (Lb X.K):=by intro kw s σ H x y v u Q I rx ry h;obtain⟨a,b,xs,ys,rfl,rfl,ha,hb,hx,hz,q1,q2⟩:=h;cases rx;cases ry;obtain⟨its,r1,p1,_⟩:=I.tuple ha;obtain⟨its2,r2,p2,_⟩:=I.tuple hb;refine HT.cat_tup p1 p2 (λz=>hx (r1.Da.mp z)) (λz=>⟨.ref a,H,I,rfl,q1 (r2.Da.mp z)⟩) (λz=>?_) (by rw[<-r1.length,<-r2.length];exact hz);refine⟨.ref s.heap.objs.size,_,I.laid (t':=s.toks) (o:=.tup (xs++ys)) (λb ob q=>Of _ q) (Oq _) ?_,rfl,q2 (λw=>z (r2.Da.mpr w)) _ (I.hok.fresh (Oq _))⟩;exact⟨by rw[Ol];exact hz,_,r1.append r2,Vv _ _⟩
end
noncomputable def ixN(n:Nat)(i:Int):Option Nat:=if 0<=i then(if i<n then ZA i.toNat else ZB)else if -(n:Int)<=i then ZA (i+n).toNat else ZB
noncomputable def atI{α:Type}(xs:List α)(i:Int):Option α:=(ixN xs.length i).bind λj=>xs[j]?
theorem Gw(h:ixN n i=ZA j):seqIndex? i n=ZA j/\j<n/\-(n:Int)<=i/\i<n:=by
 unfold ixN at h;by_cases h0:0<=i
 .rw[if_pos h0]at h;by_cases h1:i<n
  .rw[if_pos h1]at h;have e:i.toNat=j:=OM h;exact⟨by rw[seqIndex_of h0 h1,e],by omega,by omega,h1⟩
  .rw[if_neg h1]at h;cases h
 .rw[if_neg h0]at h;by_cases h1 : -(n:Int)<=i
  .rw[if_pos h1]at h;have e:(i+n).toNat=j:=OM h;exact⟨by rw[seqIndex_neg (by omega) h1,e],by omega,h1,by omega⟩
  .rw[if_neg h1]at h;cases h
def uZ{xs:List α}{v:α}(h:atI xs i=ZA v):∃j,seqIndex? i xs.length=ZA j/\xs[j]?=ZA v/\j<xs.length/\-(xs.length:Int)<=i/\i<xs.length:=by
 unfold atI at h;cases e:ixN xs.length i with
 |none=>rw[e]at h;cases h
 |some j=>
  rw[e]at h;obtain⟨h1,h2,h3,h4⟩:=Gw e;exact⟨j,h1,h,h2,h3,h4⟩
def kO(b:ZG):Prop:=∀o i,Vp b ZD o i=operate [o,i] (getItem o i)
def IxR(X:Cx)(r:R2):Prop:=
 ∀(value slice:ZG)(kw:Uf)(s:Oc)(σ:St)(H:Hp)(x y:V)(v u:N8)(Q:VK),Inv X kw σ H s->RelV x v->RelV y u->r x y H Q ->
  Vp slice ZD v u=operate [v,u] (getItem v u)->ZJ (ZK X.prog X.w) X.A (VU value slice v u) (EP X kw σ Q) X.xe s
def MtR(X:Cx)(id:String)(r:V->List V->Hp->VK->Prop):Prop:=
 ∀(kw:Uf)(s:Oc)(σ:St)(H:Hp)(x:V)(xs:List V)(v:N8)(us:List N8)(Q:VK),Inv X kw σ H s->RelV x v->Vals xs us->r x xs H Q ->
  ZJ (ZK X.prog X.w) X.A (call (.builtin id) (v::us)) (EP X kw σ Q) X.xe s
variable{H:Hp}{kw:Uf}{σ:St}
section
variable {a b:ZG}{ta tb:TE}
def IxR.or{r r':R2}(h:IxR X r)(h':IxR X r'):IxR X (λx y H Q=>r x y H Q\/r' x y H Q):=by
 intro value slice kw s σ H x y v u Q I rx ry q hs;rcases q with q|q
 .exact h value slice kw s σ H x y v u Q I rx ry q hs
 .exact h' value slice kw s σ H x y v u Q I rx ry q hs
def LC{r:R2}(hr:IxR X r)(ha:PE X a ta)(hb:PE X b tb)(hs:kO b):PE X (.Subscript a b pos) (tOp r ta tb):=by intro kw s σ H Q I h;exact UX (Mu ha hb I h λv u s2 x y H2 I2 rx ry q=>hr a b kw s2 σ H2 x y v u Q I2 rx ry q (hs _ _))
def La(K:N4):R2:=λx y H Q=>∃p xs i v,x=.ref p/\y=.int i/\SqL K H p xs/\atI xs i=ZA v/\Q v H
def K8(K:N4):R2:=λx y H Q=>∃p xs i v,x=.ref p/\y=.int i/\SqT K H p xs/\atI xs i=ZA v/\Q v H
def K9:R2:=λx y H Q=>∃z i c,x=.str z/\y=.int i/\z.length<=ZI/\atI z.cps.toList i=ZA c/\Q (.str ⟨#[c]⟩) H
theorem ix_list:IxR X (La X.K):=by
 intro value slice kw s σ H x y v u Q I rx ry h hs;obtain⟨p,xs,i,z,rfl,rfl,hq,he,q⟩:=h;cases rx;obtain⟨t,rfl⟩:=ry;obtain⟨its,r,pl,hz⟩:=I.list hq;obtain⟨j,h1,h2,h3,h4,h5⟩:=uZ he;obtain⟨w,ew,rw'⟩:=r.get h2;have hl:=r.length;have hn:=qk;have fin:EP X kw σ Q w s:=⟨z,H,I,rw',q⟩;by_cases h0:0<=i
 .have hj:i.toNat=j:=by rw[seqIndex_of h0 h5]at h1;exact OM h1
  exact item_listR pl.isList h0 (by omega) (by rw[hj];simpa using ew) fin hs
 .have hj:(i+(its.toArray.size:Int)).toNat=j:=by rw[seqIndex_neg (by omega) h4]at h1;rw[Ou,<-hl];exact OM h1
  exact Uu (x:=w) pl.isList.typeIs slot_list_getitem.lookup
   (wpAny_getItem_list_neg (Q:=λr s'=>r=w/\EP X kw σ Q r s') pl.isList (by omega) (by rw[Ou] <;> omega) (by omega) (by rw[hj];simpa using ew) ⟨rfl,fin⟩) hs
theorem ix_tup:IxR X (K8 X.K):=by
 intro value slice kw s σ H x y v u Q I rx ry h hs;obtain⟨p,xs,i,z,rfl,rfl,hq,he,q⟩:=h;cases rx;obtain⟨t,rfl⟩:=ry;obtain⟨its,r,pl,hz⟩:=I.tuple hq;obtain⟨j,h1,h2,h3,h4,h5⟩:=uZ he;obtain⟨w,ew,rw'⟩:=r.get h2;have hl:=r.length;have hn:=qk;have fin:EP X kw σ Q w s:=⟨z,H,I,rw',q⟩;exact Uu (x:=w) pl.typeIs slot_tuple_getitem.lookup
  (getItem_tuple (j:=j) (Q:=λr s'=>r=w/\EP X kw σ Q r s') pl (by omega) (by omega) (by rw[Ou,<-hl];exact h1) (by simpa using ew) ⟨rfl,fin⟩) hs
theorem J1:IxR X K9:=by
 intro value slice kw s σ H x y v u Q I rx ry h hs;obtain⟨z,i,c,rfl,rfl,hz,he,q⟩:=h;obtain⟨t,rfl⟩:=rx;obtain⟨t',rfl⟩:=ry;obtain⟨j,h1,h2,h3,h4,h5⟩:=uZ he;have hl:z.cps.toList.length=z.length:=by simp[Str.length]
 rw[hl]at h1 h4 h5;have hn:=qk;exact tail_any (typeIs_str s z t) slot_str_getitem.lookup (getItem_str (c:=c) (by have e1:decide (i< -(2 ^ 63:Int))=ZD:=decide_eq_false (by omega);have e2:decide (i ≥ 2 ^ 63)=ZD:=decide_eq_false (by omega);rw[e1,e2,Bool.or_false]) (by rw[h1];simpa using h2) ⟨.str ⟨#[c]⟩,H,I.tok _,⟨_,rfl⟩,q⟩) hs
def rIx(K:N4):R2:=λx y H Q=>La K x y H Q\/K8 K x y H Q\/K9 x y H Q
def J2:IxR X (rIx X.K):=ix_list.or (ix_tup.or J1)
theorem tO(lo hi:Option Int)(n:Nat):(Sz lo hi ZB n).1=((HT.sIx n 0 lo:Nat):Int)/\(Sz lo hi ZB n).2.1=((HT.sIx n n hi:Nat):Int)/\(Sz lo hi ZB n).2.2=1:=by
 refine⟨?_,?_,rfl⟩
 .cases lo with
  |none=>simp[Sz,HT.sIx]
  |some i=>
   simp only[Sz,HT.sIx,WD,show(1:Int) > 0 by decide,if_true];by_cases h:i<0
   .simp only[h,if_true] <;> omega
   .simp only[h,if_false] <;> omega
 .cases hi with
  |none=>simp[Sz,HT.sIx]
  |some i=>
   simp only[Sz,HT.sIx,WD,show(1:Int) > 0 by decide,if_true];by_cases h:i<0
   .simp only[h,if_true] <;> omega
   .simp only[h,if_false] <;> omega
def ri(its:List N8)(lo hi:Option Int):Xi its.toArray lo hi ZB=((its.drop (HT.sIx its.length 0 lo)).take (HT.sIx its.length its.length hi - HT.sIx its.length 0 lo)).toArray:=by obtain⟨h1,h2,h3⟩:=tO lo hi its.toArray.size;unfold Xi;rw[h1,h2,h3];simp only[sliceRange_one,pick_run,Ou] <;> rfl
def rSlL(K:N4):V->Option Int->Option Int->Hp->VK->Prop:=λx lo hi H Q=>∃a xs,x=.ref a/\SqL K H a xs/\∀p,H p=ZB->Q (.ref p) (upd H p (.lst (xf xs lo hi)))
theorem Fm:SlR X (rSlL X.K):=by intro kw s σ H x v vl vu lo hi sl Q I rx hs pl pu h;obtain⟨a,xs,rfl,hx,q⟩:=h;cases rx;obtain⟨its,r,ht,hz⟩:=I.list hx;have hlen:=r.length;refine⟨"list",_,slot_list_getitem.lookup,ht.isList.typeIs,?_⟩;refine T1 ht.isList hs pl pu .none (by simp) ?_ (by rw[Ou] <;> omega);rw[ri,<-hlen];refine⟨.ref s.heap.objs.size,_,I.laid (t':=s.toks) (o:=.lst (xf xs lo hi)) (λb ob q=>Of _ q) (Oq _) ?_,rfl,q _ (I.hok.fresh (Oq _))⟩;exact⟨OG (nT xs lo hi) hz,_,0,(r.drop (HT.sIx xs.length 0 lo)).take (HT.sIx xs.length xs.length hi - HT.sIx xs.length 0 lo),Oy _ rfl⟩
theorem call_len_seq:CallR X (.builtin "len") (λxs H Q=>∃p ys,xs=[.ref p]/\(SqL X.K H p ys\/SqT X.K H p ys)/\Q (.int ys.length) H):=by
 intro kw s σ H xs us Q I r h;obtain⟨p,ys,rfl,hq,q⟩:=h;obtain⟨u,rfl,rx⟩:=lK r;cases rx;have hn:=qk;rcases hq with hq|hq
 .obtain⟨its,r',pl,hz⟩:=I.list hq;have hlen:=r'.length;exact Calls.call_len_list pl.isList (by simp only[Ou] <;> omega) ⟨.int ys.length,H,I.tok _,⟨s.toks+1,by rw[Ou,hlen]⟩,q⟩
 .obtain⟨its,r',pl,hz⟩:=I.tuple hq;have hlen:=r'.length;exact len_tuple pl (by simp only[Ou] <;> omega) ⟨.int ys.length,H,I.tok _,⟨s.toks+1,by rw[Ou,hlen]⟩,q⟩
theorem uV:CallR X (.builtin "len") (λxs H Q=>∃z,xs=[.str z]/\z.length<=ZI/\Q (.int z.length) H):=by intro kw s σ H xs us Q I r h;obtain⟨z,rfl,hz,q⟩:=h;obtain⟨u,rfl,t,rfl⟩:=lK r;have hn:=qk;exact len_str (by omega) ⟨.int z.length,H,I.tok _,⟨_,rfl⟩,q⟩
def CallR.or{r r':List V->Hp->VK->Prop}(h:CallR X f r)(h':CallR X f r'):CallR X f (λxs H Q=>r xs H Q\/r' xs H Q):=by
 intro kw s σ H xs us Q I rs q;rcases q with q|q
 .exact h kw s σ H xs us Q I rs q
 .exact h' kw s σ H xs us Q I rs q
def rF:CallR X (.type "tuple") (λxs H Q=>∃p ys,xs=[.ref p]/\((SqL X.K H p ys/\∀l,H l=ZB->Q (.ref l) (upd H l (.tup ys)))\/(SqT X.K H p ys/\Q (.ref p) H))):=by
 intro kw s σ H xs us Q I r h;obtain⟨p,ys,rfl,h⟩:=h;obtain⟨u,rfl,rx⟩:=lK r;cases rx;rcases h with⟨hq,q⟩|⟨hq,q⟩
 .obtain⟨its,r',pl,hz⟩:=I.list hq;have hlen:=r'.length;refine call_tuple_list pl.isList (λh' kp=>?_) (by simp only[Ou] <;> omega);have I1:Inv X kw σ H {s with heap:=h'}:=I.kept (t':=s.toks) kp;have I2:Inv X kw σ (upd H h'.objs.size (.tup ys)) {s with heap:=h'.push {cls:=.type "tuple",data:=.seq its.toArray}}:=
   I1.laid (t':=s.toks) (λb o e=>Of _ e) (Oq _) (show ObjOk X.prog X.w _ _ _ (.tup ys)from⟨hz,its,r',Vv _ _⟩)
  exact⟨.ref h'.objs.size,_,I2,rfl,q _ (I1.hok.fresh (Oq _))⟩
 .obtain⟨its,r',pl,hz⟩:=I.tuple hq;exact call_tuple_same pl ⟨.ref p,H,I,rfl,q⟩
def tyV(K:N4)(T:String)(x:V)(H:Hp):Prop:=match x with
 |.str _=>T= "str"
 |.int _=>T= "int"
 |.ref p=>(T= "list"/\∃xs,SqL K H p xs)\/(T= "tuple"/\∃o,K.lookup p=ZA o/\o.cls=.type "tuple"/\o.dict=ZB) ∨
   (T= "dict"/\((∃kvs,H p=ZA (.dK kvs))\/∃kvs,H p=ZA (.dT kvs)))\/(T= "set"/\∃S n,H p=ZA (.set S n))
 |_=>False
def BU{T:String}{x:V}(I:Inv X kw σ H s)(r:RelV x v)(ty:tyV X.K T x H):
  s.TypeIs v T/\∀a,v=.ref a->∃ob,s.heap.get? a=ZA ob/\ob.dict=ZB:=by
 cases x with
 |str z=>
  obtain⟨t,rfl⟩:=r;cases (show T= "str" from ty);exact⟨typeIs_str s z t,λ_ e=>nomatch e⟩
 |int i=>
  obtain⟨t,rfl⟩:=r;cases (show T= "int" from ty);exact⟨UY s i t,λ_ e=>nomatch e⟩
 |ref p=>
  cases r;rcases ty with⟨rfl,xs,hq⟩|⟨rfl,o,hk,hc,hd⟩|⟨rfl,hk⟩|⟨rfl,S,n,hk⟩
  .obtain⟨its,_,pl,_⟩:=I.list hq;refine⟨pl.isList.typeIs,λa e=>?_⟩;cases e;obtain⟨o,n,e,c,hd,_⟩:=pl;exact⟨o,e,hd⟩
  .refine⟨⟨o,I.kIn p o hk,hc⟩,λa e=>?_⟩;cases e;exact⟨o,I.kIn _ o hk,hd⟩
  .have z:∃o,s.heap.get? p=ZA o/\o.ExactDict:=by
    rcases hk with⟨kvs,hk⟩|⟨kvs,hk⟩
    .obtain⟨_,_,_,_,o,_,_,e,ex,_⟩:=I.hok p _ hk;exact⟨o,e,ex⟩
    .obtain⟨_,_,_,_,o,_,_,e,ex,_⟩:=I.hok p _ hk;exact⟨o,e,ex⟩
   obtain⟨o,e,ex⟩:=z;refine⟨⟨o,e,ex.1⟩,λa e2=>?_⟩;cases e2;exact⟨o,e,ex.2.1⟩
  .obtain⟨o,_,_,_,e,ex,_⟩:=I.hok p _ hk;refine⟨⟨o,e,ex.1⟩,λa e2=>?_⟩;cases e2;exact⟨o,e,ex.2.1⟩
 |_=>exact QM ty
def tBM(K:N4)(T:String)(r:V->List V->Hp->VK->Prop)(to:TE)(t:TA):TE:=λσ H Q=>to σ H λx H1=>tyV K T x H1/\t σ H1 λxs H2=>r x xs H2 Q
variable {o:ZG}{es:List ZG}{to:TE}{t:TA}{name:Str}{apos cpos:Pos}{T id:String}{r:V->List V->Hp->VK->Prop}
def zy(pa:PlainAttrs T)(slot:Slot T name id)(hty:typeOf (.builtin id)=pure (.type "method_descriptor"))(hm:MtR X id r)(ho:PE X o to)(ha:PA X (e::es) t)
  (hbase:Qx o name X.env (eval o X.env)=eval o X.env:=by rfl)
  (hfew:((backTo cpos (Ov (e::es) X.env)).all (λx=>!x.1)&&(VQ cpos (Te [] X.env)).all (λx=>x.1.isSome)
   &&decide ((e::es).length+([]:List Wj).length+(if ([]:List Wj).isEmpty then 0 else 1)<30))=ZC:=by rfl)
  (hline:(apos.endLine == cpos.line)=ZC:=by rfl) (hs:Ov (e::es) X.env=(ZD,eval e X.env)::Ov es X.env:=by rfl) (hplain:(backTo cpos (Ov es X.env)).any (·.1)=ZD:=by rfl):
  PE X (.Call (.Attribute o name apos) (e::es) [] cpos) (tBM X.K T r to t):=by
 intro kw s σ H Q I h;refine Uv hbase hfew hline rfl (cM (ho kw s σ H _ I h) λv s1 hh_=>?_);obtain⟨x,H1,I1,r1,ty,q1⟩:=hh_;obtain⟨h1,h2⟩:=BU I1 r1 ty;refine⟨T,id,pa,slot,hty,h1,h2,?_⟩;have hA:=ha cpos kw s1 σ H1 _ I1 q1;rw[hs]at hA ⊢;refine Sq (by show(ZD||(backTo cpos (Ov es X.env)).any (·.1))=ZD;rw[hplain] <;> rfl) (RS ?_);exact cM hA λus s2 ⟨vs,H2,I2,r2,q2⟩=>hm kw s2 σ H2 x vs v us Q I2 r1 r2 q2
end
def MtM(X:Cx)(id:String)(r:V->List V->Hp->VK->Prop):Prop:=
 ∀(kw:Uf)(s:Oc)(σ:St)(H:Hp)(x:V)(xs:List V)(v:N8)(us:List N8)(Q:VK),Inv X kw σ H s->RelV x v->Vals xs us->r x xs H Q ->
  ZJ (ZK X.prog X.w) X.A (call (.builtin id) (v::us)) (EP X kw σ Q) X.xe s
theorem Vals.one:∀{x:V}{us:List N8},Vals [x] us->∃u,us=[u]/\RelV x u
 |_,_,.cons r .nil=>⟨_,rfl,r⟩
def Vals.reverse(h:Vals xs us):Vals xs.reverse us.reverse:=by
 induction h with
 |nil=>exact .nil
 |cons r t ih=>rw[Sv,Sv];exact Vals.append ih (.cons r .nil)
theorem Vals.rep(h:Vals xs us):∀k:Nat,Vals (OH k xs).flatten (OH k us).flatten
 |0=>.nil
 |k+1=>by rw[P7,P7,QN,QN];exact Vals.append h (Vals.rep h k)
theorem foldl_rep(its:List N8):∀(k:Nat)(acc:List N8),
  TN (λx1 x2=>x1++x2) acc.toArray (OH k its.toArray)=(acc++(OH k its).flatten).toArray
 |0,acc=>by simp
 |k+1,acc=>by
  have e:acc.toArray++its.toArray=(acc++its).toArray:=by simp
  have e2:(acc++its)++(OH k its).flatten=acc++(OH (k+1) its).flatten:=by rw[P7,QN,OQ]
  rw[<-e2,<-foldl_rep its k (acc++its),<-e,P7,W2]
section
variable {l b:ZE}{ys zs:List V}
def Inv.NS{its':List N8}{f:Array N8->Array N8}(I:Inv X kw σ H s)(hH:H l=ZA (.lst xs))
  (e:s.heap.get? l=ZA {cls:=.type "list",data:=.seq its.toArray n}) (hf:f its.toArray=its'.toArray) (hv:Vals ys its') (hz:ys.length<=ZI):
  Inv X kw σ (upd H l (.lst ys)) {s with heap:=s.heap.update l (PB f),toks:=t'}:=by
 have q:=PySem.IsL.update e f;rw[hf]at q;refine I.write (x:=l) (e:=l) (by rw[hH];exact trivial) (.inl rfl) (λb' u hb hu=>(Ph s.heap (PB f) (PJ hb)).trans hu) ⟨_,q⟩ ?_;exact⟨hz,its',_,hv,q⟩
def Inv.NJ(I:Inv X kw σ H s)(hv:Vals ys its)(hz:ys.length<=ZI):
  Inv X kw σ (upd H s.heap.objs.size (.lst ys)) {s with heap:=s.heap.push {cls:=.type "list",data:=.seq its.toArray},toks:=t'}:=
 I.laid (λ_ _ q=>Of _ q) (Oq _) ⟨hz,its,0,hv,Oy _ rfl⟩
theorem Inv.fresh(I:Inv X kw σ H s):H s.heap.objs.size=ZB:=I.hok.fresh (Oq _)
def Inv.KM(I:Inv X kw σ H s)(hH:H l=ZA (.lst xs)):xs.length<=ZI/\∃(its:List N8)(n:Nat),Vals xs its/\xs.length=its.length/\s.heap.get? l=ZA {cls:=.type "list",data:=.seq its.toArray n}:=by obtain⟨z,its,n,r,e⟩:=I.hok l _ hH;exact⟨z,its,n,r,r.length,e⟩
theorem wj(h:n<=ZI):Rc n=ZD:=by unfold Rc;exact decide_eq_false (by omega)
end
def Fz:V->List V->Hp->VK->Prop:=λx vs H Q=>∃l xs y,x=.ref l/\vs=[y]/\H l=ZA (.lst xs)/\xs.length<ZI/\Q .non (upd H l (.lst (xs++[y])))
theorem sd:MtM X "list.append" Fz:=by intro kw s σ H x vs v us Q I rx rv h;obtain⟨l,xs,y,rfl,rfl,hH,hz,q⟩:=h;cases rx;obtain⟨u,rfl,ru⟩:=rv.one;obtain⟨z,its,n,r,hl,e⟩:=I.KM hH;refine Sb F.slot_list_append ⟨_,e,rfl⟩ F.entry_list_append (F.args_list_append_2 _ _) (PySem.list_append l its.toArray n u (by rw[Ou];omega)) ⟨e,?_⟩;refine⟨.non,_,I.NS (its':=its++[u]) hH e (by simp) (r.append (.cons ru .nil)) ?_,rfl,q⟩;rw[Ol,QD];omega
def Fx:V->List V->Hp->VK->Prop:=λx vs H Q=>∃l b xs zs,x=.ref l/\vs=[.ref b]/\H l=ZA (.lst xs)/\H b=ZA (.lst zs)/\xs.length+zs.length<=ZI/\Q .non (upd H l (.lst (xs++zs)))
theorem AW:MtM X "list.extend" Fx:=by
 intro kw s σ H x vs v us Q I rx rv h;obtain⟨l,b,xs,zs,rfl,rfl,hH,hB,hz,q⟩:=h;cases rx;obtain⟨u,rfl,ru⟩:=rv.one;cases ru;obtain⟨z,its,n,r,hl,e⟩:=I.KM hH;obtain⟨z2,its2,n2,r2,hl2,e2⟩:=I.KM hB;have hsz:its.toArray.size+its2.toArray.size<=ZI:=by rw[Ou,Ou];omega
 have hlong:¬ (!its.toArray.isEmpty&&Rc (its.toArray.size+its2.toArray.size))=ZC:=by rw[wj hsz,Bool.and_false];exact OA
 refine Sb F.slot_list_extend ⟨_,e,rfl⟩ F.entry_list_extend (F.args_list_extend_2 _ _)
  (AutoSeq1.list_extend_list_list_0 l its.toArray n b its2.toArray n2 hlong (by rw[Ou];omega) (by omega)) ⟨e,e2,?_⟩
 refine⟨.non,_,I.NS (its':=its++its2) hH e (by simp) (r.append r2) ?_,rfl,q⟩;rw[Ol];omega
def rCat:R2:=λx y H Q=>∃l b xs zs,x=.ref l/\y=.ref b/\H l=ZA (.lst xs)/\H b=ZA (.lst zs)/\xs.length+zs.length<=ZI/\∀p,H p=ZB->Q (.ref p) (upd H p (.lst (xs++zs)))
def CZ:qY X (Qw .Add) rCat:=by
 intro kw s σ H x y v u Q I rx ry h;obtain⟨l,b,xs,zs,rfl,rfl,hH,hB,hz,q⟩:=h;cases rx;cases ry;obtain⟨z,its,n,r,hl,e⟩:=I.KM hH;obtain⟨z2,its2,n2,r2,hl2,e2⟩:=I.KM hB;refine PySem.P.add_list e e2 ?_ (by rw[Ou,Ou];omega);have ea:its.toArray++its2.toArray=(its++its2).toArray:=by simp
 rw[ea];exact⟨.ref _,_,I.NJ (t':=s.toks) (r.append r2) (by rw[Ol];omega),rfl,q _ I.fresh⟩
def rRep:R2:=λx y H Q=>∃l k xs,x=.ref l/\y=.int k/\H l=ZA (.lst xs)/\-(2 ^ 63)<=k/\k<2 ^ 63/\xs.length*k.toNat<=ZI ∧
 ∀p,H p=ZB->Q (.ref p) (upd H p (.lst (OH k.toNat xs).flatten))
def len_rep(xs:List α)(k:Nat):(OH k xs).flatten.length=k*xs.length:=by
 induction k with
 |zero=>simp
 |succ k ih=>rw[P7,QN,Ol,ih,Nat.succ_mul,Wo]
theorem Jq:qY X (Qw .Mult) rRep:=by
 intro kw s σ H x y v u Q I rx ry h;obtain⟨l,k,xs,rfl,rfl,hH,h1,h2,hz,q⟩:=h;cases rx;obtain⟨t,rfl⟩:=ry;obtain⟨z,its,n,r,hl,e⟩:=I.KM hH;have hlen:its.toArray.size*k.toNat<=ZI:=by rw[Ou,<-hl];exact hz
 have hcap:¬ its.toArray.size*k.toNat > (2 ^ 63 - 1) / 8:=by
  have:(ZI:Nat)<=(2 ^ 63 - 1) / 8:=by decide
  omega
 have hfit:¬ (!Builtin.List.listFitsIndex k)=ZC:=by rw[fitsIndex_both h1 h2];exact OA
 have hlong:¬ Rc (its.toArray.size*k.toNat)=ZC:=by rw[wj hlen];exact OA
 have hnew:TN (λx1 x2=>x1++x2) #[] (OH (if its.toArray.isEmpty=ZC then 0 else k.toNat) its.toArray)=(OH k.toNat its).flatten.toArray:=by
  have f0:∀m:Nat,TN (λx1 x2=>x1++x2) #[] (OH m its.toArray)=(OH m its).flatten.toArray:=λm=>by have:=foldl_rep its m [];rw[P2]at this;exact this
  rw[f0];cases its with
  |nil=>simp
  |cons a r'=>rw[if_neg (by simp)]
 refine TJ (T:="list") (U:="int") (by decide) ⟨_,e,rfl⟩ (λs'=>UY s' k t) noFill_list_mul W3 S7 repeat_list WE.lookup
  (Sb S7 (UY s k t) WG (V3 _ _) (int___rmul___int_list k t l its.toArray n)
   ⟨e,rfl,⟨_,e,rfl⟩,Sb F.slot_list_mul ⟨_,e,rfl⟩ F.entry_list_mul (F.args_list_mul_2 _ _) (Vw l its.toArray n k t hfit hcap hlong) ⟨e,?_⟩⟩)
 rw[hnew];exact⟨.ref _,_,I.NJ (t':=s.toks) (r.rep k.toNat) (by rw[len_rep,Wp];exact hz),rfl,q _ I.fresh⟩
end L2
namespace Att
open PySem PySem.W PySem.Calls PyProof.Rows
variable{P:Params}{h:ZH}
def n9:∀(ns:List Int)(vs:List N8),WellAll P h vs (ns.map WData.int)->Qn vs ns:=by
 intro ns;induction ns with
 |nil=>
  intro vs w;rw[Tw]at w;cases w;exact .nil
 |cons n ns ih=>
  intro vs w;rw[Oa]at w;cases w with
  |cons a b=>
   cases a;exact .cons _ _ (ih _ b)
variable{l:OpenLaw}
theorem AE(hn:l.most=ZA n){args:List WData}{vals:List N8}
  (hpre:l.row.toRowW.claim.pre args=ZC) (hwl:WellAll P h vals args):
  ∃a vs ns,vals=[Oz a]/\args=[WData.list (ns.map WData.int)]/\h.get? a=ZA {cls:=.type "list",data:=.seq vs.toArray}/\Qn vs ns/\ns.length<=n:=by
 have hsh:WShape.hasAll [] args [.list .int]=ZC:=(pre_splitW hpre).1;have hc:l.pre.holds [] {args:=args}=ZC:=(pre_splitW hpre).2;obtain⟨d,r,rfl,h1,h2⟩:=hasAllW_cons hsh;obtain rfl:=hasAllW_nil h2;obtain⟨xs,rfl,h3⟩:=hasW_list h1;obtain⟨ns,rfl⟩:=items_int h3;have hlen:ns.length<=n:=by
  unfold OpenLaw.pre at hc;have h4:(WTm.not (.lt (.lit (.int (n:Int))) (.len (.arg 0)))).holds [] {args:=[.list (ns.map .int)]}=ZC:=by have h4:=(holds_andW hc).1;rw[hn]at h4;exact h4
  have h5:=condW_of h4 (w_not (w_lt w_lit (w_len_list (w_arg rfl))));rw[N9]at h5;refine Nat.le_of_not_lt λq=>?_;have q':(n:Int)<((ns.length:Nat):Int):=by omega
  first
   | (rw[decide_eq_true q']at h5;exact absurd h5 (by decide))
   | (simp at h5;omega)
 cases hwl with
 |cons w1 w2=>
  cases w2;cases w1 with
  |list ho hall=>exact⟨_,_,ns,rfl,rfl,ho,n9 ns _ hall,hlen⟩
def AL(l:OpenLaw)(args:List WData):l.row.toRowW.claim.post args (.bool ZC) args=ZC:=
 postW_of (r:=l.row.toRowW) (X:=(ZC == ZC))
  (show WShape.has [] (.bool ZC) .bool=ZC by first|rfl|decide|simp[WShape.has,WShape.arms,WShape.armsAll])
  (show(WTm.eq .res (.lit (.bool ZC))).value [] {args:=args,res:=ZA (.bool ZC),after:=args}=ZA (.bool (ZC == ZC))from w_eq_bool (w_res rfl) w_lit) rfl
def attach_call{loose:List Str}{XP:(WF)->ZH->Prop}{YP:Pv->ZH->Prop}{d:DefRec}
  (hn:l.most=ZA n) (hdf:d.params.defaults=[])
  (call:∀(w:Pv)(s₀ s₁:Oc)(mg mb:WF)(fa:ZE)(o:Obj)(pm cd doc:N8)(a:ZE)(vs:List N8)(ns:List Int),
   Ground q loose [] XP w s₀ mg mb s₁.heap->YP w s₁.heap ->
   s₁.heap.get? fa=ZA o->o.data=.func (docDef d.name d.params d.body d.scope pm cd doc)->s₁.heap.CodeRec cd d.name->mg d.name=ZA (.ref fa) ->
   s₁.heap.get? a=ZA {cls:=.type "list",data:=.seq vs.toArray}->Qn vs ns->ns.length<=n->s₁.gens= #[] ->
   ZL (ZK l.prog w) callerA (.call (.ref fa) ⟨[.ref a],[]⟩) (λr s'=>r=.ok (.ret (.bool ZC))/\OldK s₁.heap s'.heap/\s'.os=s₁.os/\Rh s'.gens) s₁):
  WalkO q loose XP YP l.row.toRowW d [] (λf vs=>PySem.call f vs):=by
 intro w s₀ s₁ mg mb G Y fa o pm cd doc dV kV ho hd hcd hD hmg hg args vals as hpre hlay hrd hwl hlo;obtain rfl:dV=.none:=Dflts.none hD hdf;obtain rfl:kV=.none:=Dflts.noKw hD;obtain⟨a,vs,ns,rfl,rfl,hobj,hints,hlen⟩:=AE hn hpre hwl;refine enter_call (R9 (call w s₀ s₁ mg mb fa o pm cd doc a vs ns G Y ho (fd_plain hd) hcd hmg hobj hints hlen hg) λr s' hq=>?_);obtain⟨rfl,h2,h3,h4⟩:=hq;exact⟨.inl ⟨.bool ZC,.bool ZC,[],rfl,λ_=>rfl,.bool ZC,AL l _,λ_=>⟨V0,λ_ hm=>(nomatch hm)⟩⟩,h2,h3,h4⟩
end Att
namespace L2
open PySem PySem.Spec PyProof.Rows
theorem mH:∀{vs:List N8}{ns:List Int},Qn vs ns->Vals (ns.map V.int) vs
 |_,_,.nil=>.nil
 |_,_,.cons n t h=>.cons ⟨t,rfl⟩ (mH h)
def Kz(H:Hp):Prop:=∀b,H b=ZB\/(∃o xs,H b=ZA (.frz o (.lst xs)))\/H b=ZA (.tbl n6)
variable{mg:WF}{sp:Sp}{x:Str}
def Dp{mb:WF}{CX:BJ}{fa a:ZE}{s₁:Oc}
  (KX:K.In s₁.heap) (hns:s₁.heap.Ns OJ mg) (hb:s₁.heap.Ns R8 mb) (hbb:∀x:Str,x≠ "__name__"->mb x=O9 x) (hlim:s₁.heap.NoLimit) (hg:s₁.gens= #[])
  (ha:s₁.heap.get? a=ZA {cls:=.type "list",data:=.seq vs.toArray}) (hi:Qn vs ns) (hl:ns.length<=ZI) (hr:Room k callerA) {P0 c0:ZE} (hP:s₁.heap.TableAt c0 P0 #[]) (hPK:K.lookup P0=ZB) (hTb:∀H:Hp,H P0=ZA (.tbl n6)->Tb K mg H)
  (F:∀base:ZH,K.In base->base.Ns OJ mg->rH P w K mg base CX k fa fd [x] sp) (hbind:∀(s:Oc)(u:N8),Vo s fd ⟨[u],[]⟩ [(x,u)])
  (hsp:∀H:Hp,Kz H->SqL K H a (ns.map V.int)->sp [.ref a] H (λv _=>v=.bl ZC) λ_ _ _=>False)
  (hCX:∀H e s',CX [] H s₁ (λ_ _ _=>False) e s'->False):
  ZL (ZK P w) callerA (.call (.ref fa) ⟨[.ref a],[]⟩) (λr s'=>r=.ok (.ret (.bool ZC))/\OldK s₁.heap s'.heap/\s'.os=s₁.os/\Rh s'.gens) s₁:=by
 have rv:=mH hi;have lenV:=hi.length;have hPe:=hP.2;have hPa:P0≠a:=λz=>by subst z;rw[ha]at hPe;cases hPe
 have hPo:∀H:Hp,ObjOk P w H s₁.heap P0 (.tbl n6):=λH=>⟨#[],hPe,trivial,λpos v e=>by cases e⟩;have core:∀H:Hp,Kz H->SqL K H a (ns.map V.int)->HOk P w H s₁.heap->(∀b,H b≠ZB->b=a\/b=P0)->(H a≠ZB->K.lookup a=ZB)->H P0=ZA (.tbl n6) ->
   ZL (ZK P w) callerA (.call (.ref fa) ⟨[.ref a],[]⟩) (λr s'=>r=.ok (.ret (.bool ZC))/\OldK s₁.heap s'.heap/\s'.os=s₁.os/\Rh s'.gens) s₁:=by
  intro H hO hS hok hA hK hHP;have base_of:∀{b:ZE}{o:Obj},s₁.heap.get? b=ZA o->H b=ZB->(uK s₁.heap H).get? b=ZA o:=λe n=>DQ e n;have noA:∀{b:ZE}{o:Obj}{es:Array DictEntry}{ep:Nat},s₁.heap.get? b=ZA o->o.data=.dict es ep->H b=ZB:=λ{b o es ep} e d=>by
   cases q:H b with
   |none=>rfl
   |some u=>
    have e':b=a:=(hA b (by rw[q];simp)).resolve_right λz=>by subst z;rw[hPe]at e;cases e;cases d
    subst e';rw[ha]at e;cases e;have d':Data.seq vs.toArray _=Data.dict es ep:=d;cases d'
  have nsK:∀{b:ZE}{m:WF},s₁.heap.Ns b m->(uK s₁.heap H).Ns b m:=λ{b m} ⟨o,es,ep,e,d,r⟩=>⟨o,es,ep,base_of e (noA e d),d,r⟩;have hKb:K.In (uK s₁.heap H):=λb o e=>base_of (KX b o e) (by
   cases q:H b with
   |none=>rfl
   |some u=>
    have e':b=a:=(hA b (by rw[q];simp)).resolve_right λz=>by subst z;rw[hPK]at e;cases e
    subst e';rw[hK (by rw[q];simp)]at e;cases e)
  have hM:Mod K mg (uK s₁.heap H):=⟨hKb,nsK hns,⟨mb,nsK hb,hbb⟩,let ⟨mc,h1,h2⟩:=hlim;⟨mc,nsK h1,h2⟩⟩;have e0:Env0 P w K mg (uK s₁.heap H) callerA [] s₁ H:=⟨rfl,hM,λb o e=>F9 e,R6 (Bc _ _),trivial,λb hb=>absurd (show b∈([]:List ZE)from hb) (by simp),hok,.of_eq hg,hTb H hHP⟩;refine R9 ((F _ hKb (nsK hns)).run callerA [] s₁ H ⟨[.ref a],[]⟩ [.ref a] [.ref a] _ _ hr e0 (hbind s₁ (.ref a)) (.cons rfl .nil) (hsp H hO hS)) λr s' h=>?_;cases r with
  |error e=>exact(hCX H e s' h).elim
  |ok fl=>
   cases fl with
   |next=>exact QM h
   |brk=>exact QM h
   |cont=>exact QM h
   |ret u=>
    obtain⟨v,H',os,bare,un,hok',r',q⟩:=h;have q':v=.bl ZC:=q;subst q';obtain rfl:u=Pn ZC:=r';have hP':=un.tbls P0 _ hHP;obtain⟨ps,eP,_⟩:=hok' P0 _ hP';have key:∀b o,b≠P0->s₁.heap.get? b=ZA o->s'.heap.get? b=ZA o:=?key
    .refine⟨rfl,⟨λb o e=>?_,λb o e=>?_⟩,os,bare⟩
     .by_cases hb:b=P0
      .subst hb;rw[hPe]at e;cases e;exact .inr (.inl ⟨hP.isCodeTable,rfl,#[],ps,rfl,by simpa using eP⟩)
      .exact .inl (key b o hb e)
     .by_cases hb:b=P0
      .subst hb;exact⟨_,eP⟩
      .exact⟨o,key b o hb e⟩
    intro b o hbP e;cases q:H b with
    |none=>exact un.keep b o e q (by intro z;exact absurd (show b∈([]:List ZE)from z) (by simp)) (by simp)
    |some u=>
     rcases hO b with z|⟨ob,xs,z⟩|z
     .rw[q]at z;cases z
     .have z2:=un.frzs b ob _ z;obtain⟨e1,_⟩:=hok b _ z;obtain⟨e2,_⟩:=hok' b _ z2;rw[e]at e1;cases e1;exact e2
     .rcases hA b (by rw[z];simp)with y|y
      .subst y;have:=hok b _ z;obtain⟨_,e3,_⟩:=this;rw[ha]at e3;cases e3
      .exact absurd y hbP
 cases hk:K.lookup a with
 |some o=>
  have e:=KX a o hk;rw[ha]at e;cases e;refine core (λb=>if b=P0 then ZA (.tbl n6)else ZB) (λb=>?_) (.inr ⟨_,vs.toArray,_,hk,rfl,rfl,rfl,by rw[Ou,lenV];exact hl,by simpa using rv⟩) (λb u z=>?_) (λb z=>?_) (λz=>absurd (if_neg hPa.symm) z) (if_pos rfl)
  .by_cases hb:b=P0
   .exact .inr (.inr (if_pos hb))
   .exact .inl (if_neg hb)
  .by_cases hb:b=P0
   .have z':=(if_pos hb).symm.trans z;cases z';subst hb;exact hPo _
   .have z':=(if_neg hb).symm.trans z;cases z'
  .by_cases hb:b=P0
   .exact .inr hb
   .exact absurd (if_neg hb) z
 |none=>
  have hF:∀b,b≠a->b≠P0->(if b=a then ZA (HO.frz {cls:=.type "list",data:=.seq vs.toArray} (.lst (ns.map V.int)))else if b=P0 then ZA (.tbl n6)else ZB)=ZB:=λb h1 h2=>by rw[if_neg h1,if_neg h2]
  have hG:∀b,b≠a->b=P0->(if b=a then ZA (HO.frz {cls:=.type "list",data:=.seq vs.toArray} (.lst (ns.map V.int)))else if b=P0 then ZA (.tbl n6)else ZB)=ZA (.tbl n6):=λb h1 h2=>by rw[if_neg h1,if_pos h2]
  refine core (λb=>if b=a then ZA (.frz {cls:=.type "list",data:=.seq vs.toArray} (.lst (ns.map V.int)))else if b=P0 then ZA (.tbl n6)else ZB) (λb=>?_) (.inl (.inr ⟨{cls:=.type "list",data:=.seq vs.toArray},if_pos rfl⟩)) (λb u z=>?_) (λb z=>?_) (λ_=>hk) (hG P0 hPa rfl)
  .by_cases hb:b=a
   .exact .inr (.inl ⟨_,_,if_pos hb⟩)
   .by_cases hb2:b=P0
    .exact .inr (.inr (hG b hb hb2))
    .exact .inl (hF b hb hb2)
  .by_cases hb:b=a
   .have z':=(if_pos hb).symm.trans z;cases z';subst hb;exact⟨ha,by rw[N9];exact hl,vs,_,rv,ha⟩
   .by_cases hb2:b=P0
    .have z':=(hG b hb hb2).symm.trans z;cases z';subst hb2;exact hPo _
    .have z':=(hF b hb hb2).symm.trans z;cases z'
  .by_cases hb:b=a
   .exact .inl hb
   .by_cases hb2:b=P0
    .exact .inr hb2
    .exact absurd (hF b hb hb2) z
abbrev CX0:BJ:=λ_ _ _ _ _ _=>False
abbrev E0:XK:=λ_ _ _=>False
variable{X:Cx}
def zB:u9 CX0 X E0:=λ_ _ _ _ _ _ _ h=>h.elim
structure Fun (K:N4)(x qual:Str)(st:ZF)(f:ZE)(fd:PR):Prop where
 ex:∃(oc:N8)(od:Option ZE)(kV doc pm:N8)(an:Option ZE)(cdv ct:N8)(osl:Array (Option N8)),
  fd=R3 x qual (ix st) (de st) (ay st) .none kV doc pm an cdv ct/\K.lookup f=ZA ⟨oc,od,.func fd,osl⟩/\Va K cdv qual=ZC
 kp:Qu K (.ref f)=ZC
variable{f:ZE}{ps:List Str}{qual:Str}{st:ZF}
section
variable {base:ZH}
def Fun.ok{N:List Str}(F:Fun K x qual st f fd)(S:dq N ps (ay st))(len:∀vs H Q E,sp vs H Q E->vs.length=ps.length)
  (hbody:∀(cdv:N8),fd.code=cdv->∀(A:OU)(outer:List Env)(s:Oc)(H:Hp)(vs:List V)(Q:VK)(E:XK),Room k (A.deeper (envOfC qual (ay st) s.heap.objs.size f cdv))->sp vs H Q E ->
   ∃t,PSs (jm CX0 P w K mg base N qual (ay st) f cdv A outer s H E).nox (de st) t/\t {nx:=λ_ H'=>Q .non H',rt:=Q} (start N vs) H):rH P w K mg base CX0 (k+1) f fd ps sp:=by
 obtain⟨oc,od,kV,doc,pm,an,cdv,ct,osl,rfl,lk,hcd⟩:=F.ex;refine Mk lk hcd S len λA outer s H vs Q E hr hsp=>?_;obtain⟨t,h,q⟩:=hbody cdv rfl A outer s H vs Q E hr hsp;exact⟨t,h.nox,q⟩
def Fun.binds(F:Fun K x qual st f fd)
  (h:∀(kV doc pm:N8)(an:Option ZE)(cdv ct:N8)(us:List N8),us.length=ps.length->VP (R3 x qual (ix st) (de st) (ay st) .none kV doc pm an cdv ct) ⟨us,[]⟩=pure (ps.zip us)):Binds K fd ps []:=by
 obtain⟨oc,od,kV,doc,pm,an,cdv,ct,osl,rfl,lk,hcd⟩:=F.ex;exact .all (h kV doc pm an cdv ct)
def J8{oc:N8}{od an:Option ZE}{osl:Array (Option N8)}{kV doc pm ct:N8}(l:K.lookup f=ZA ⟨oc,od,.func (R3 x qual (ix st) (de st) (ay st) .none kV doc pm an cdv ct),osl⟩)
  (c:Va K cdv qual=ZC) (k:Qu K (.ref f)=ZC):Fun K x qual st f (R3 x qual (ix st) (de st) (ay st) .none kV doc pm an cdv ct):=⟨⟨oc,od,kV,doc,pm,an,cdv,ct,osl,rfl,l,c⟩,k⟩
end
variable{pos:Pos}
def pv(i:Nat)(hN:X.N[i]?=ZA x:=by rfl)(hv:autoParam (u6 X.env.scope x) u_)(hd:autoParam ((x == ("__debug__" : Str))=ZD) s_)
  (hcd:autoParam ((x == ("__classdict__" : Str))=ZD) s_):PE X (.Name x pos) (o8 i):=jd hN hv hd hcd
def iteF{A B:Prop}(h:B):if ZD=ZC then A else B:=by rw[if_neg OA];exact h
def iteT{A B:Prop}(h:A):if ZC=ZC then A else B:=by rw[if_pos rfl];exact h
def Same(H H':Hp):Prop:=∀b o,H b=ZA o->H' b=ZA o
def Same.refl(H:Hp):Same H H:=λ_ _ h=>h
def Same.trans{H H1 H2:Hp}(a:Same H H1)(b:Same H1 H2):Same H H2:=λc o h=>b c o (a c o h)
variable{env:Env}
theorem lH:∀(names:List (Str×RN))(acc:List (Str×ZE)),
  (∀x,(x,Pj)∈names->∃c,env.cells.lookup x=ZA c) ->
  (∀x c,acc.lookup x=ZA c->env.cells.lookup x=ZA c) ->
  ∃cl,(forIn (m:=Sem) names acc (λx cs=>(if (x.2 == Pj)=ZC then do let a <-cellOf env x.1;pure (RA ((x.1,a)::cs))else pure (RA cs))))=pure cl ∧
   (∀x c,cl.lookup x=ZA c->env.cells.lookup x=ZA c) ∧
   (∀x,(x,Pj)∈names->∃c,cl.lookup x=ZA c)/\(∀x c,acc.lookup x=ZA c->∃c',cl.lookup x=ZA c')
 |[],acc,_,h=>⟨acc,rfl,h,λx hx=>by simp at hx,λx c e=>⟨c,e⟩⟩
 | (n,k)::r,acc,hf,h=>by
  by_cases hk:k=Pj
  .subst hk;obtain⟨c,hc⟩:=hf n (by simp);have h':∀x c',((n,c)::acc).lookup x=ZA c'->env.cells.lookup x=ZA c':=λx c' e=>by
    rw[Pp]at e;cases q:x == n with
    |true=>
     rw[q]at e;have e2:c=c':=OM e;have e3:x=n:=by simpa using q
     rw[<-e2,e3];exact hc
    |false=>rw[q]at e;exact h x c' e
   obtain⟨cl,e1,e2,e3,e4⟩:=lH r ((n,c)::acc) (λx hx=>hf x (N6 _ hx)) h';refine⟨cl,?_,e2,λx hx=>?_,λx c' e=>?_⟩
   .rw[W4];simp only[beq_self_eq_true,if_true,cellOf,hc,pure_bind];exact e1
   .rcases Oe.mp hx with z|z
    .have z1:x=n:=by injection z
     subst z1;exact e4 x c (by simp[Pp])
    .exact e3 x z
   .cases q:x == n with
    |true=>exact e4 x c (by simp[Pp,q])
    |false=>exact e4 x c' (by simp[Pp,q,e])
  .have hb:(k == Pj)=ZD:=by simpa using hk
   obtain⟨cl,e1,e2,e3,e4⟩:=lH r acc (λx hx=>hf x (N6 _ hx)) h;refine⟨cl,?_,e2,λx hx=>?_,e4⟩
   .rw[W4];simp only[hb,Qc,if_false,pure_bind];exact e1
   .rcases Oe.mp hx with z|z
    .have z1:Pj=k:=by injection z
     exact absurd z1.symm hk
    .exact e3 x z
def yP(hf:∀x,(x,Pj)∈scope.names->∃c,env.cells.lookup x=ZA c):
  ∃cl,UZ scope env=pure cl/\(∀x c,cl.lookup x=ZA c->env.cells.lookup x=ZA c)/\(∀x,(x,Pj)∈scope.names->∃c,cl.lookup x=ZA c):=by
 obtain⟨cl,e1,e2,e3,_⟩:=lH scope.names [] hf (λx c e=>by simp at e);refine⟨cl,?_,e2,e3⟩;unfold UZ;refine Eq.trans ?_ (congrArg (λz=>z >>= pure) e1|>.trans (by simp));rfl
variable{tg:ZG}
def uU{pr:OF}{wd:Pv}{Ar:OU}{Rz:Xh->Oc->Prop}{el it0:ZG}{cs:List ZG}{ps:Pos}{itv av:N8}{ev:Env}(W:Nat->Oc->Prop)
  (go:∀k st,W k st->ZJ (ZK pr wd) Ar (pyNext itv) (λr s1=>match r with
   |none=>Rz (.ok .next) s1
   |some v=>ZJ (ZK pr wd) Ar (Sj tg itv v) (λ_ s2=>ZJ (ZK pr wd) Ar (assign tg ev v) (λ_ s3=>
     ZJ (ZK pr wd) Ar (forIn cs ZC λc b=>if b=ZC then do let z <-isTrue c ev (eval c ev);pure (RA z)else pure (RA b)) (λz s4=>
      if z=ZC then ZJ (ZK pr wd) Ar (eval el ev) (λy s5=>
       ZJ (ZK pr wd) Ar (call (.builtin "list.append") [av,y]) (λ_ s6=>∃m,m<k/\W m s6) (λ_ _=>False) s5) (λ_ _=>False) s4
      else ∃m,m<k/\W m s4) (λ_ _=>False) s3) (λ_ _=>False) s2) (λ_ _=>False) s1) (λ_ _=>False) st)
  (k:Nat) (hk:W k s0):ZL (ZK pr wd) Ar (.compLoop (.ListComp el [⟨tg,it0,cs,0⟩] sc ps) 0 itv av ev) Rz s0:=by
 refine codeAny_loop rfl W (λk st hw=>?_) k hk;show ZJ (ZK pr wd) Ar ((compTurn (.ListComp el [⟨tg,it0,cs,0⟩] sc ps) 0 itv av ev).onRaise (λz=>do Xj z ev;theTreesLotGoes z)) _ _ st;refine wpAny_noted ?_;rw[compTurn_list];have no:∀{α:Type}{t:Sem α}{Q Q':α->Oc->Prop}{E':WP}{x:Oc},ZJ (ZK pr wd) Ar t Q (λ_ _=>False) x->(∀y z,Q y z->Q' y z)->ZJ (ZK pr wd) Ar t Q' E' x:=λh f=>Qm h f λ_ _ z=>z.elim;refine N5 (wpAny_standAt (N5 (no (go k st hw) λr s1 g1=>?_)));cases r with
 |none=>exact Oi g1
 |some v=>
  refine N5 (no g1 λ_ s2 g2=>N5 (no g2 λ_ s3 g3=>N5 (no g3 λz s4 g4=>?_)));cases z with
  |false=>exact Oi (And.intro rfl g4)
  |true=>exact N5 (N5 (no g4 λy s5 g5=>N5 (no g5 λ_ s6 g6=>Oi (Oi (And.intro rfl g6)))))
noncomputable def cC(X:Cx)(scope:RF)(cl:List (Str×ZE))(N':List Str)(C:ZE)(s₀:Oc)(H₀:Hp)(fp:List ZE):Cx:=
 {X with N:=N',s₀:=s₀,H₀:=H₀,env:=compEnvC scope cl C X.env,outer:=X.stack,stack:=X.stack,ex:=fp,fn:=λx=>scope.names.lookup x == ZA .cell,xe:=λ_ _=>False}
def gI(src:List (Option Nat))(σ:St):St:=src.map λo=>match o with
 |some i=>(σ[i]?).join
 |none=>ZB
theorem jS{env:Env}:∀{names:List (Str×RN)}{x:Str}{k:RN},
  (names.map λ(n,k)=>if (k == Pj&&env.scope.kind == .function&&env.kindOf n == ZA .cell)then(n,Qd)else(n,k)).lookup x=ZA k ->
  ∃k',names.lookup x=ZA k'/\(k=k'\/k'=.free)
 |[],_,_,h=>by simp at h
 | (n,k0)::r,x,k,h=>by
  have ih:=@jS env r x k;have h':R1 x ((if (k0 == Pj&&env.scope.kind == .function&&env.kindOf n == ZA .cell)=ZC then(n,Qd)else(n,k0))::(r.map λ(n,k)=>if (k == Pj&&env.scope.kind == .function&&env.kindOf n == ZA .cell)then(n,Qd)else(n,k)))=ZA k:=h;by_cases hc:(k0 == Pj&&env.scope.kind == .function&&env.kindOf n == ZA .cell)=ZC
  .rw[if_pos hc]at h';rw[Pp]at h' ⊢;cases hx:x == n with
   |true=>
    refine⟨k0,rfl,.inr ?_⟩;have:=QJ.mp hc|>.1;have:=QJ.mp this|>.1;simpa using this
   |false=>rw[hx]at h';exact ih h'
  .rw[if_neg hc]at h';rw[Pp]at h' ⊢;cases hx:x == n with
   |true=>rw[hx]at h';exact⟨k0,rfl,.inl (OM h').symm⟩
   |false=>rw[hx]at h';exact ih h'
def kC{names:List (Str×RN)}{k:RN}(h:names.lookup x=ZA k):(x,k)∈names:=QQ h
theorem jD{env:Env}:∀{names:List (Str×RN)}{x:Str},names.lookup x=ZA .free ->
  (names.map λ(n,k)=>if (k == Pj&&env.scope.kind == .function&&env.kindOf n == ZA .cell)then(n,Qd)else(n,k)).lookup x=ZA .cell ∨
  (names.map λ(n,k)=>if (k == Pj&&env.scope.kind == .function&&env.kindOf n == ZA .cell)then(n,Qd)else(n,k)).lookup x=ZA .free
 |[],_,h=>by simp at h
 | (n,k0)::r,x,h=>by
  have ih:=@jD env r x;show R1 x ((if (k0 == Pj&&env.scope.kind == .function&&env.kindOf n == ZA .cell)=ZC then(n,Qd)else(n,k0))::_)=_\/R1 x ((if (k0 == Pj&&env.scope.kind == .function&&env.kindOf n == ZA .cell)=ZC then(n,Qd)else(n,k0))::_)=_;rw[Pp]at h;by_cases hc:(k0 == Pj&&env.scope.kind == .function&&env.kindOf n == ZA .cell)=ZC
  .rw[if_pos hc];rw[Pp];cases hx:x == n with
   |true=>exact .inl rfl
   |false=>rw[hx]at h;exact ih h
  .rw[if_neg hc];rw[Pp];cases hx:x == n with
   |true=>rw[hx]at h;exact .inr h
   |false=>rw[hx]at h;exact ih h
variable{N':List Str}{elt iter:ZG}{g:TG}{ifs:List ZG}{tc:TT}{te:TE}{wi:TI}
structure LcScope (X:Cx)(scope:RF)(N':List Str)(src:List (Option Nat)):Prop where
 kind:scope.kind=.function
 cel:∀y∈scope.names,y.2=.cell->scope.names.lookup y.1=ZA .cell
 loc:∀y∈scope.names,y.2=.local->scope.names.lookup y.1=ZA .local
 len:src.length=N'.length
 from_:∀(j i:Nat)(x:Str),src[j]?=ZA (ZA i)->N'[j]?=ZA x->X.N[i]?=ZA x/\scope.names.lookup x=ZA .free
 free:∀x,(x,Pj)∈scope.names->X.env.kindOf x=ZA .cell\/X.env.kindOf x=ZA .free
def Ii(K:N4)(wi:TI)(src:List (Option Nat))(g:TG)(tc:TT)(te:TE):TE:=λσ H Q=>wi σ H λJ H1=>∀D,H1 D=ZB->K.lookup D=ZB ->
 ∃W:Nat->Nat->St->List V->Hp->Prop,(∃m,W 0 m (gI src σ) [] (upd H1 D (.lst [])))/\∀i m σ ys H,W i m σ ys H->H D=ZA (.lst ys) ∧
  ((J.stop i H/\Q (.ref D) H)\/(J.go i H/\ys.length<ZI/\∀x H',J.yld i H x H'->g x σ H' λσ2 H2=>tc σ2 H2 λb H3=>
   if b=ZC then te σ2 H3 λv H4=>H4 D=ZA (.lst ys)/\∃m',m'<m/\W (i+1) m' σ2 (ys++[v]) (upd H4 D (.lst (ys++[v])))else ∃m',m'<m/\W (i+1) m' σ2 ys H3))
def BH(X:Cx)(ifs:List ZG)(t:TT):Prop:=
 ∀(kw:Uf)(s:Oc)(σ:St)(H:Hp)(Q:Bool->Hp->Prop),Inv X kw σ H s->t σ H Q ->
  ZJ (ZK X.prog X.w) X.A (forIn ifs ZC λc r=>if r=ZC then do let ok <-isTrue c X.env (eval c X.env);pure (RA ok)else pure (RA r)) (TP X kw σ Q) X.xe s
def vp:TT:=λ_ H Q=>Q ZC H
def tX:BH X [] vp:=λ_ _ _ H _ I h=>wpAny_tests_nil ⟨H,I,h⟩
def FY{c:ZG}{t:TT}(h:PT X c t):BH X [c] t:=λkw s σ H Q I q=>wpAny_tests_one (h kw s σ H Q I q)
theorem ni:∀(names:List (Str×RN))(h:ZH)(acc:List (Str×ZE)),(∀x y c,acc.lookup x=ZA c->acc.lookup y=ZA c->x=y)->(∀x c,acc.lookup x=ZA c->c<h.objs.size) ->
  (∀x c,(QR h.objs.size names acc).lookup x=ZA c->acc.lookup x=ZA c\/(h.objs.size<=c/\(UO h names).IsCell c ZB)) ∧
  (∀x y c,(QR h.objs.size names acc).lookup x=ZA c->(QR h.objs.size names acc).lookup y=ZA c->x=y) ∧
  (∀x,(x,Qd)∉names->(QR h.objs.size names acc).lookup x=acc.lookup x) ∧
  (∀x,((x,Qd)∈names\/∃c,acc.lookup x=ZA c)->∃c,(QR h.objs.size names acc).lookup x=ZA c) ∧
  (∀x c,(x,Qd)∈names->(QR h.objs.size names acc).lookup x=ZA c->h.objs.size<=c)
 |[],h,acc,hi,_=>⟨λ_ _ e=>.inl e,hi,λ_ _=>rfl,λx e=>e.elim (λz=>absurd z Pb) id,λ_ _ z=>absurd z Pb⟩
 | (n,k)::r,h,acc,hi,hl=>by
  unfold QR UO;by_cases hk:k=.cell
  .subst hk;rw[if_pos (by rfl),if_pos (by rfl)];have hz:(h.push {cls:=.type "cell",data:=.cell ZB}).objs.size=h.objs.size+1:=Rv ..;have lk:∀x,((n,h.objs.size)::acc).lookup x=if x=n then ZA h.objs.size else acc.lookup x:=λx=>by
    rw[Pp];by_cases e:x=n
    .rw[if_pos e,beq_iff_eq.mpr e]
    .rw[if_neg e,beq_eq_false_iff_ne.mpr e]
   obtain⟨c1,c2,c3,c4,c5⟩:=ni r (h.push {cls:=.type "cell",data:=.cell ZB}) ((n,h.objs.size)::acc) (λx y c e1 e2=>by
     rw[lk]at e1 e2;by_cases q1:x=n
     .by_cases q2:y=n
      .rw[q1,q2]
      .rw[if_pos q1]at e1;rw[if_neg q2]at e2;cases e1;exact absurd (hl _ _ e2) (O7 _)
     .rw[if_neg q1]at e1;by_cases q2:y=n
      .rw[if_pos q2]at e2;cases e2;exact absurd (hl _ _ e1) (O7 _)
      .rw[if_neg q2]at e2;exact hi x y c e1 e2) (λx c e=>by
     rw[lk]at e;rw[hz];by_cases q:x=n
     .rw[if_pos q]at e;cases e;exact WH _
     .rw[if_neg q]at e;exact RI (hl x c e))
   rw[hz]at c1 c2 c3 c4 c5;refine⟨λx c e=>?_,c2,λx hx=>?_,λx hx=>?_,λx c hx e=>?_⟩
   .rcases c1 x c e with z|z
    .rw[lk]at z;by_cases q:x=n
     .rw[if_pos q]at z;cases z;exact .inr ⟨Oq _,_,UP r _ _ _ (Oy _ rfl),rfl⟩
     .rw[if_neg q]at z;exact .inl z
    .exact .inr ⟨Sw z.1,z.2⟩
   .rw[c3 x λz=>hx (N6 _ z),lk,if_neg λz=>hx (by rw[z];exact Ob)]
   .refine c4 x ?_;rcases hx with hx|hx
    .rcases Oe.mp hx with z|z
     .cases z;exact .inr ⟨_,by rw[lk,if_pos rfl]⟩
     .exact .inl z
    .by_cases q:x=n
     .exact .inr ⟨_,by rw[lk,if_pos q]⟩
     .exact .inr (by rw[lk,if_neg q];exact hx)
   .rcases Oe.mp hx with z|z
    .have q:x=n:=(T2 z).1;rcases c1 x c e with y|y
     .rw[lk,if_pos q]at y;cases y;exact Oq _
     .exact Sw y.1
    .exact Sw (c5 x c z e)
  .have hb:¬ (k == Qd)=ZC:=λz=>hk (by simpa using z);rw[if_neg hb,if_neg hb];obtain⟨c1,c2,c3,c4,c5⟩:=ni r h acc hi hl;exact⟨c1,c2,λx hx=>c3 x λz=>hx (N6 _ z),λx hx=>c4 x (hx.imp (λz=>(Oe.mp z).resolve_left λz=>hk (T2 z).2.symm) id),λx c hx=>c5 x c ((Oe.mp hx).resolve_left λz=>hk (T2 z).2.symm)⟩
def AR{globals:ZE}{cl:List (Str×ZE)}{Q:Env->Oc->Prop}
  (q:Q (newEnv scope s.heap.objs.size globals (QR (s.heap.objs.size+1) scope.names cl) qual ZB .none (ZA env) R8) {s with heap:=UO (s.heap.push {cls:=.type "dict",data:=.dict #[]}) scope.names}):
  ZJ M A (newFunctionEnv scope globals cl [] qual ZB .none (ZA env)) Q E s:=by
 simp only[newFunctionEnv,Vx,if_true];refine N5 (wpAny_alloc (N5 (wpAny_layCells _ (λname kind cells=>by cases hkc:kind == Qd <;> simp[hkc]) _ _ _ _ ?_)));rw[show({s with heap:=s.heap.push {cls:=.type "dict",data:=.dict #[]}}:Oc).heap.objs.size=s.heap.objs.size+1 from Rv ..];rw[List.forIn_nil];exact N5 (Oi (Oi q))
def zT{fpos:Pos}{src:List (Option Nat)}{use:Option (N8->Sem Unit)}{Qf:WP}
  {kw:Uf}  {σ:St} {H:Hp} {Q:VK}
  (hc:X.calm=ZC) (S:LcScope X scope N' src) (hi:PI X tg iter wi)
  (block:∀cl C s₀ H₀ fp,PG (cC X scope cl N' C s₀ H₀ fp) tg g/\BH (cC X scope cl N' C s₀ H₀ fp) ifs tc/\PE (cC X scope cl N' C s₀ H₀ fp) elt te)
  (hs:∀x,Pf iter X.env x=pure x) (I:Inv X kw σ H s) (h:Ii X.K wi src g tc te σ H Q)
  (hend:∀(D C:ZE)(H':Hp)(s':Oc),(∃m,s'.heap.Ns C m)->(∀h',SF C s'.heap h'->Inv X kw σ H' {s' with heap:=h'})->(H' C=ZB/\C≠X.env.locals/\X.s₀.heap.objs.size<=C/\(∀x c,X.env.cells.lookup x=ZA c->c≠C)/\∀p∈X.pn++kw,p.1≠C)->Q (.ref D) H' ->
   compPost (ZK X.prog X.w) X.A X.xe use Qf (.ref D) C (.ok .next) s'):
  ZJ (ZK X.prog X.w) X.A (comprehension (.ListComp elt [⟨tg,iter,ifs,0⟩] scope pos) scope X.env fpos (newList []) ZD (eval iter X.env) use) Qf X.xe s:=by
 have hcell:∀x,(x,Pj)∈scope.names->∃c,X.env.cells.lookup x=ZA c:=λx hx=>I.ok.has x (S.free x hx);obtain⟨cl0,hcl,cl01,cl02⟩:=yP (env:=X.env) (scope:=scope) hcell;refine wpAny_comprehension_free (use:=use) rfl hs hcl S.kind S.loc (cM (hi kw s σ H _ I h) λv s1 h1=>cM h1 λitv s2 h2=>?_);obtain⟨it,fp,tn,J,H2,e,I2,T,st2,f2,hq⟩:=h2;subst e;refine Pq ?_;have hD:H2 s2.heap.objs.size=ZB:=I2.hok.fresh (Oq _);have hDK:X.K.lookup s2.heap.objs.size=ZB:=by
  cases q:X.K.lookup s2.heap.objs.size with
  |none=>rfl
  |some o=>exact absurd (Os (I2.kIn _ o q)) (O7 _)
 obtain⟨W,⟨m0,w0⟩,turn⟩:=hq s2.heap.objs.size hD hDK;have I3:=I2.NJ (its:=[]) (ys:=[]) (t':=s2.toks) .nil (Pg _);generalize hs3:({s2 with heap:=s2.heap.push {cls:=.type "list",data:=.seq ([]:List N8).toArray},toks:=s2.toks}:Oc)=s3 at I3;generalize hH3:upd H2 s2.heap.objs.size (.lst [])=H3 at I3 w0;have hDsz:s2.heap.objs.size<s3.heap.objs.size:=by rw[<-hs3];simp[Rv]
 have fr3:∀b∈fp,H3 b=ZB:=λb hb=>by obtain⟨o,eo,_⟩:=T.obj _ _ st2 b hb;rw[<-hH3,aF (O5 (Os eo))];exact(f2 b hb).1
 have st3:tn 0 s3.heap:=T.keep _ _ _ st2 λb hb o e=>by rw[<-hs3];exact Of _ e
 have f3:∀b∈fp,qV X kw H3 b:=λb hb=>⟨fr3 b hb,(f2 b hb).2⟩;have D3:H3 s2.heap.objs.size=ZA (.lst []):=by rw[<-hH3];exact aH
 generalize s2.heap.objs.size=D at*;clear hs3 hH3 hD hDK;refine AR ?_;have old:∀b o,s3.heap.get? b=ZA o->(UO (s3.heap.push {cls:=.type "dict",data:=.dict #[]}) scope.names).get? b=ZA o:=λb o e=>UP _ _ b o (Of _ e);have hns₁:(UO (s3.heap.push {cls:=.type "dict",data:=.dict #[]}) scope.names).Ns s3.heap.objs.size (λ_=>ZB):=(Heap.Ns.new s3.heap (.type "dict")).keeps (UP _ _);have hz3:(s3.heap.push {cls:=.type "dict",data:=.dict #[]}).objs.size=s3.heap.objs.size+1:=Rv ..;have lt0:∀x c,cl0.lookup x=ZA c->c<s3.heap.objs.size:=λx c e=>let ⟨_,ic⟩:=I3.cell x c (cl01 x c e);ic.lt;obtain⟨c1,c2,c3,c4,c5⟩:=ni scope.names (s3.heap.push {cls:=.type "dict",data:=.dict #[]}) cl0 (λx y c e1 e2=>I3.ok.inj x y c (cl01 x c e1) (cl01 y c e2)) λx c e=>by rw[hz3];exact RI (lt0 x c e)
 rw[hz3]at c1 c2 c3 c4 c5;generalize hcl':QR (s3.heap.objs.size+1) scope.names cl0=cl at*;generalize hh₁:UO (s3.heap.push {cls:=.type "dict",data:=.dict #[]}) scope.names=h₁ at*;have below:∀b o,s3.heap.get? b=ZA o->b≠s3.heap.objs.size:=λb o e=>O5 (Os e);have cl1:∀x c,cl.lookup x=ZA c->X.env.cells.lookup x=ZA c\/(s3.heap.objs.size<c/\h₁.IsCell c ZB):=λx c e=>(c1 x c e).imp (cl01 x c) id;generalize hC:s3.heap.objs.size=C at*;have stk:∀b,b≠X.env.locals->b∉X.fs->b∉kJ X.stack:=λb h1 h2 z=>(Oe.mp (I3.Nh b z)).elim h1 h2;have apart:∀b∈fp,∀x c,cl.lookup x=ZA c->c≠b:=λb hb x c e=>by
  rcases cl1 x c e with z|z
  .exact(f3 b hb).2.2.2.2.1 x c z
  .obtain⟨o,eo,_⟩:=T.obj _ _ st3 b hb;have h1:=Os eo;rw[hC]at h1;exact QC (UB h1 z.1)
 have I4:Inv (cC X scope cl N' C s3 H3 fp) kw (gI src σ) H3 {s3 with heap:=h₁}:=by
  refine⟨⟨I3.ok.mod,S.kind,I3.ok.glob,I3.ok.blt,R6 hC,c2,λx hx=>?_,λx c hx e=>P9 (hC▸c5 x c (kC (beq_iff_eq.mp hx)) e),I3.ok.hd,I3.ok.frames,.inl rfl,
    λb hb=>⟨?_,λx c e=>apart b hb x c e⟩,I3.bs,OG I3.ok.bsz I3.sz,λb o e z=>?_,λb hb=>stk b (f3 b hb).2.1 (f3 b hb).2.2.1,I3.stack,I3.IR,I3.tb⟩,
   rfl,I3.bare,Un.kept old,⟨_,hns₁,λj x v e1 e2 e3=>?_⟩,λx c e=>?_,I3.hok.fresh (R6 hC),λx c e=>(cl1 x c e).elim (I3.freeC x c) λz=>I3.hok.fresh (by rw[hC];exact P9 z.1),λp hp=>?_,I3.hok.kept old,?_⟩
  .have key:∀k,(relabel scope X.env).names.lookup x=ZA k->(k=.cell\/k=.free)->∃c,cl.lookup x=ZA c:=λk e hk=>by
    obtain⟨k',e',z⟩:=jS e;have hk':k'=.cell\/k'=.free:=z.elim (λz=>z▸hk) .inr;rcases hk' with q|q
    .exact c4 x (.inl (q▸kC e'))
    .exact c4 x (.inr (cl02 x (q▸kC e')))
   rcases hx with hx|hx
   .exact key _ hx (.inl rfl)
   .exact key _ hx (.inr rfl)
  .obtain⟨o,eo,_⟩:=T.obj _ _ st3 b hb;show b≠C;exact below b o eo
  .have z':b∈fp:=z;obtain⟨_,_,_,z1,_⟩:=f3 b z';rcases z1 with z1|z1
   .exact I3.ok.noex b o e z1
   .exact absurd (Oo (Os (I3.ok.bs b o e).1) z1) (O7 _)
  .unfold gI at e2;rw[Ot]at e2;cases q:src[j]? with
   |none=>rw[q]at e2;simp at e2
   |some o=>
    rw[q]at e2;cases o with
    |none=>simp at e2
    |some i=>
     have e2':(σ[i]?).join=ZA v:=by simpa using e2
     have e2'':σ[i]?=ZA (ZA v):=by
      cases q2:σ[i]? with
      |none=>rw[q2]at e2';simp at e2'
      |some z=>rw[q2]at e2';simp at e2';rw[e2']
     obtain⟨hN,hfree⟩:=S.from_ j i x q e1;have hm:=kC hfree;have hk:=S.free x hm;obtain⟨m,hn,hl⟩:=I3.loc;have hv:u6 X.env.scope x:=by
      rcases hk with z|z
      .exact .inr (.inl z)
      .exact .inr (.inr z)
     obtain⟨u,r,l⟩:=hl i x v hN e2'' hv;refine⟨u,r,.inr ⟨?_,?_⟩⟩
     .exact jD hfree
     .rcases l with⟨z,_⟩|⟨_,c,ec,ic⟩
      .rcases hk with z'|z' <;> rw[z']at z <;> cases z
      .obtain⟨c',ec0⟩:=cl02 x hm;have ec':cl.lookup x=ZA c':=(c3 x λz=>by have:=S.cel _ z rfl;rw[hfree]at this;cases this).trans ec0;have:=cl01 x c' ec0;rw[ec]at this;cases this;obtain⟨o,ho,hd⟩:=ic;exact⟨c,ec',o,old _ _ ho,hd⟩
  .rcases cl1 x c e with z|z
   .obtain⟨v,o,ho,hd⟩:=I3.cell x c z;exact⟨v,o,old _ _ ho,hd⟩
   .exact⟨ZB,z.2⟩
  .obtain⟨e,n,ne,nf,d⟩:=I3.pin p hp;exact⟨old _ _ e,n,below _ _ e,stk _ ne nf,d⟩
  .show(gI src σ).length=N'.length;unfold gI;rw[N9];exact S.len
 obtain⟨bG,bI,bE⟩:=block cl C s3 H3 fp;have stat:∀{H':Hp},(∀b∈fp,H' b=ZB)->∀b∈fp,qV (cC X scope cl N' C s3 H3 fp) kw H' b:=λhn b hb=>by obtain⟨o,eo,_⟩:=T.obj _ _ st3 b hb;exact⟨hn b hb,below b o eo,stk b (f3 b hb).2.1 (f3 b hb).2.2.1,.inl hb,apart b hb,(f3 b hb).2.2.2.2.2⟩
 have st4:tn 0 h₁:=T.keep _ _ _ st3 λb hb o e=>old b o e;have after:∀(H':Hp)(s':Oc)(σ':St),Inv (cC X scope cl N' C s3 H3 fp) kw σ' H' s'->Q (.ref D) H' ->
   compPost (ZK X.prog X.w) X.A X.xe use Qf (.ref D) C (.ok .next) s':=λH' s' σ' I' q=>by
  obtain⟨m,hn,_⟩:=id I'.loc;have fC:X.s₀.heap.objs.size<=C:=by rw[<-hC];exact I3.sz
  have ltC:∀b o,s3.heap.get? b=ZA o->b<C:=λb o e=>by rw[<-hC];exact Os e
  refine hend D C H' s' ⟨m,hn⟩ (λh' hsb=>?_) ⟨I'.free,?_,fC,λx c e z=>?_,λp hp z=>?_⟩ q
  rotate_left
  .have:=I3.lt;rw[hC]at this;exact QC this
  .obtain⟨v,ic⟩:=I3.cell x c e;have:=ic.lt;rw[hC,z]at this;exact O7 _ this
  .have:=ltC _ _ (I3.pin p hp).1;rw[z]at this;exact O7 _ this
  have u:Un (kJ X.stack) fp H3 H' s3.heap s'.heap:=I'.base;have lift:∀b o,s3.heap.get? b=ZA o->∀o',s'.heap.get? b=ZA o'->h'.get? b=ZA o':=λb o e o' e'=>hsb.extBut b o' (below b o e) e';have u':Un (kJ X.stack) fp H3 H' s3.heap h':=
   ⟨λb o e n hb hx=>lift b o e o (u.keep b o e n hb hx),λb o e n hb hx=>by
     obtain⟨sl,z⟩:=u.slot b o e n hb hx;exact⟨sl,lift b o e _ z⟩,u.free,λb o e hx=>by
     obtain⟨o',z⟩:=u.there b o e hx;exact⟨o',lift b o e _ z⟩,u.tups,u.frzs,u.tbls⟩
  have hCn:H' C=ZB:=I'.free;have hok':HOk X.prog X.w H' h':=λb ob e=>by
   refine(I'.hok b ob e).M4 (λc w' hc' q'=>(hsb.2 c ?_).trans q') (λ_ q=>q) λ_ _ q=>q;rintro rfl;rcases hc' with rfl|hc'
   .rw[hCn]at e;cases e
   .rw[hCn]at hc';cases hc'
  have I5:Inv X kw σ H' {s' with heap:=h'}:=I3.Nu (s':={s' with heap:=h'}) (ch:=fp) I'.os u' hok' I'.bare λb hb=>⟨(f3 b hb).2.2.2.1,(f3 b hb).2.1,(f3 b hb).2.2.2.2.1,(f3 b hb).2.2.2.2.2⟩;exact I5
 have loop:ZL (ZK X.prog X.w) X.A (.compLoop (.ListComp elt [⟨tg,iter,ifs,0⟩] scope pos) 0 (.ref it) (.ref D) (compEnvC scope cl C X.env))
   (compPost (ZK X.prog X.w) X.A X.xe use Qf (.ref D) C) {s3 with heap:=h₁}:=by
  refine uU (λn s'=>∃i σ' ys H',Inv (cC X scope cl N' C s3 H3 fp) kw σ' H' s'/\tn i s'.heap/\(∀b∈fp,H' b=ZB)/\W i n σ' ys H') ?_ m0 ⟨0,_,[],H3,I4,st4,fr3,w0⟩;rintro n s5 ⟨i,σ5,ys,H5,I5,st5,fr5,w5⟩;obtain⟨hDl,alt⟩:=turn i n σ5 ys H5 w5;rcases alt with⟨stop,qn⟩|⟨go,hlen,step⟩
  .refine cM (T.done (cC X scope cl N' C s3 H3 fp) rfl rfl rfl hc i kw s5 σ5 H5 _ I5 (stat fr5) st5 stop) λr s6 ⟨hr,I6⟩=>?_;subst hr;exact after H5 s6 σ5 I6 qn
  .refine cM (T.item (cC X scope cl N' C s3 H3 fp) rfl rfl rfl hc i kw s5 σ5 H5 _ I5 (stat fr5) st5 go) λr s6 ⟨u,hr,h6⟩=>?_;subst hr;refine cM h6 λ_ s7 hh_=>?_;obtain⟨x,H7,I7,r7,y7,st7,fr7⟩:=hh_;have I7':=I7.pinned (stat fr7) (T.obj _ _ st7);refine cM (bG _ s7 σ5 H7 x u _ I7' r7 (step x H7 y7)) λ_ s8 hh_=>?_;obtain⟨σ8,H8,I8,q8⟩:=hh_;refine cM (bI _ s8 σ8 H8 _ I8 q8) λok s9 hh_=>?_;obtain⟨H9,I9,q9⟩:=hh_;have again:∀{σx:St}{Hx:Hp}{sx:Oc}{ys':List V},Inv (cC X scope cl N' C s3 H3 fp) (kw++pI fp s7.heap) σx Hx sx->(∃m',m'<n/\W (i+1) m' σx ys' Hx) ->
     ∃m,m<n/\∃i σ' ys H',Inv (cC X scope cl N' C s3 H3 fp) kw σ' H' sx/\tn i sx.heap/\(∀b∈fp,H' b=ZB)/\W i m σ' ys H':=λ{σx Hx sx ys'} Ix nx=>by
    obtain⟨m',hm,wx⟩:=nx;refine⟨m',hm,i+1,σx,ys',Hx,Ix.M0,T.keep _ _ _ st7 λb hb o e=>(Ix.pin (b,o) (OI _ (OI _ (jf hb e)))).1,λb hb=>?_,wx⟩;obtain⟨o,e,d⟩:=T.obj _ _ st7 b hb;exact(Ix.pin (b,o) (OI _ (OI _ (jf hb e)))).2.1
   cases ok with
   |false=>
    rw[if_neg OA]at q9 ⊢;exact again I9 q9
   |true=>
    rw[if_pos rfl]at q9 ⊢;refine cM (bE _ s9 σ8 H9 _ I9 q9) λv s10 hh_=>?_;obtain⟨y,H10,I10,r10,hD10,q10⟩:=hh_;refine cM (sd _ s10 σ8 H10 (.ref D) [y] (.ref D) [v] (λ_ H'=>H'=upd H10 D (.lst (ys++[y]))) I10 rfl (.cons r10 .nil) ⟨D,ys,y,rfl,rfl,hD10,hlen,rfl⟩) λ_ s11 hh_=>?_;obtain⟨_,H11,I11,_,e11⟩:=hh_;subst e11;exact again I11 q10
 exact codeAny_compStart_list loop (T.self _ 0 _ _ _ st4 loop)
def vW{src:List (Option Nat)}
  (hc:X.calm=ZC) (S:LcScope X scope N' src) (hi:PI X tg iter wi)
  (block:∀cl C s₀ H₀ fp,PG (cC X scope cl N' C s₀ H₀ fp) tg g/\BH (cC X scope cl N' C s₀ H₀ fp) ifs tc/\PE (cC X scope cl N' C s₀ H₀ fp) elt te)
  (hs:autoParam (∀x,Pf iter X.env x=pure x) t_):
  PE X (.ListComp elt [⟨tg,iter,ifs,0⟩] scope pos) (Ii X.K wi src g tc te):=by
 intro kw s σ H Q I h;rw[eval_ListComp];exact zT (use:=ZB) hc S hi block hs I h λD C H' s' ⟨m,hn⟩ inv _ q=>⟨m,hn,λh' hsb=>⟨.ref D,H',inv h' hsb,rfl,q⟩⟩
def Lx{py spos:Pos}{src:List (Option Nat)}{i:Nat}{y:Str}
  (hc:X.calm=ZC) (S:LcScope X scope N' src) (hi:PI X tg iter wi)
  (block:∀cl C s₀ H₀ fp,PG (cC X scope cl N' C s₀ H₀ fp) tg g/\BH (cC X scope cl N' C s₀ H₀ fp) ifs tc/\PE (cC X scope cl N' C s₀ H₀ fp) elt te)
  (hN:X.N.Nodup) (hiy:X.N[i]?=ZA y) (hy:Loc X.env.scope y) (hsw:P4 (.ListComp elt [⟨tg,iter,ifs,0⟩] scope pos) (ZA (.Name y py)) spos.line X.env=pure ZC)
  (hf:X.fn y=ZC\/X.env.scope.names.lookup y=ZA .local) (hs:autoParam (∀x,Pf iter X.env x=pure x) t_):
  PS X (.Assign [.Name y py] (.ListComp elt [⟨tg,iter,ifs,0⟩] scope pos) spos) (BZ (Ii X.K wi src g tc te) (DV i)):=by
 intro kw s σ H D I h;rw[exec_Assign_Name_used _ _ _ _ hsw];refine N5 (wpAny_standAt (N5 ?_));show ZJ (ZK X.prog X.w) X.A (do let _ <-comprehension (.ListComp elt [⟨tg,iter,ifs,0⟩] scope pos) scope X.env _ (newList []) ZD (eval iter X.env) (ZA (assign (.Name y py) X.env))) _ _ s;refine N5 (cM (zT (use:=ZA (assign (.Name y py) X.env)) (Qf:=λ_ s'=>SP X kw D .next s') (Q:=λv H'=>D.nx (σ.set i (ZA v)) H') hc S hi block hs I h λL C H' s' ⟨m,hn⟩ inv ⟨c0,c1,c2,c3,c4⟩ q=>?_) λ_ s' hq=>Oi (Oi hq));have I0:Inv X kw σ H' s':=inv s'.heap (Heap.SameBut.refl ..);show ZJ (ZK X.prog X.w) X.A (assign (.Name y py) X.env (.ref L)) _ _ s';refine Wi (rO I0 hN hiy hy (v:=.ref L) rfl (λs2 I2 ⟨b,sb,hb⟩=>?_) hf);have hbC:C≠b:=by
  rcases hb with z|z
  .rw[z];exact c1
  .exact λw=>c3 y b z w.symm
 refine⟨m,hn.sameBut sb hbC,λh' hsb=>?_⟩;exact⟨_,H',I2.turned (t':=s2.toks) (λb' o hb' e=>(hsb.2 b' hb').trans e) c0 c1 (.inr c2) c3 c4,q⟩
end L2
namespace Tr
open PySem PySem.Spec PyProof.Rows L2
noncomputable def HD:T->Option Key
 |.int i=>ZA (.inl i)
 |.str x=>ZA (.inr x)
 |_=>ZB
noncomputable def qx:List T->Option (List Key)
 |[] =>ZA []
 |t::l=>match HD t,qx l with
  |some k,ZA r=>ZA (k::r)
  |_,_=>ZB
def keyOf:T->Option (List Key)
 |.tup l=>qx l
 |_=>ZB
@[simp] theorem aG {α β:Type} (a:α) (f:α->Rs β):(Rs.ok a >>= f)=f a:=rfl
@[simp] theorem MO {α:Type} (a:α):(pure a:Rs α)=Rs.ok a:=rfl
@[simp] theorem Mv {α β:Type} (f:α->Rs β):((Rs.bad:Rs α) >>= f)=.bad:=rfl
@[simp] theorem Mo {α β:Type} (c:Str) (f:α->Rs β):((Rs.err c:Rs α) >>= f)=.err c:=rfl
mutual
def Rep(K:N4)(O:Ow)(H:Hp):T->V->Prop
 |.non,v=>v=.non
 |.bl b,v=>v=.bl b
 |.int i,v=>v=.int i
 |.str x,v=>v=.str x
 |.tup l,v=>∃a vs,v=.ref a/\¬ O a/\H a=ZA (.tup vs)/\Reps K O H l vs
 |.lst l,v=>∃a vs,v=.ref a/\¬ O a/\H a=ZA (.lst vs)/\Reps K O H l vs
 |.scr l,v=>∃a,v=.ref a/\¬ O a/\SqL K H a (l.map V.int)
 |.dct ks ts,v=>∃a kvs,v=.ref a/\¬ O a/\Rd H a (.dT kvs)/\ks.map keyOf=kvs.map (λp=>ZA p.1)/\Reps K O H ts (kvs.map (·.2))
def Reps(K:N4)(O:Ow)(H:Hp):List T->List V->Prop
 |[],vs=>vs=[]
 |t::r,vs=>∃v ws,vs=v::ws/\Rep K O H t v/\Reps K O H r ws
end
def SameO(P:Ow)(H H':Hp):Prop:=∀b o,H b=ZA o->¬ P b->H' b=ZA o
variable{H H':Hp}{P:Ow}
def SameO.of(h:Same H H'):SameO P H H':=λb o e _=>h b o e
variable{a:ZE}
def Rd.NF{u:HO}(h:SameO P H H')(n:¬ P a)(q:Rd H a u):Rd H' a u:=q.elim (λe=>.inl (h _ _ e n)) λ⟨o,e⟩=>.inr ⟨o,h _ _ e n⟩
variable{vs:List V}
def SqL.keep(h:SameO P H H')(n:¬ P a)(q:SqL K H a vs):SqL K H' a vs:=by
 rcases q with(q|⟨o,q⟩)|q
 .exact .inl (.inl (h _ _ q n))
 .exact .inl (.inr ⟨o,h _ _ q n⟩)
 .exact .inr q
mutual
theorem Rep.keep{K:N4}{O P:Ow}{H H':Hp}(h:SameO P H H')(sub:∀a,P a->O a):∀{t:T}{v:V},Rep K O H t v->Rep K O H' t v
 |.non,_,r=>by unfold Rep at r ⊢;exact r
 |.bl _,_,r=>by unfold Rep at r ⊢;exact r
 |.int _,_,r=>by unfold Rep at r ⊢;exact r
 |.str _,_,r=>by unfold Rep at r ⊢;exact r
 |.tup l,_,r=>by unfold Rep at r ⊢;obtain⟨a,vs,e,n,q,z⟩:=r;exact⟨a,vs,e,n,h _ _ q (λp=>n (sub a p)),Reps.keep h sub z⟩
 |.lst l,_,r=>by unfold Rep at r ⊢;obtain⟨a,vs,e,n,q,z⟩:=r;exact⟨a,vs,e,n,h _ _ q (λp=>n (sub a p)),Reps.keep h sub z⟩
 |.scr l,_,r=>by unfold Rep at r ⊢;obtain⟨a,e,n,q⟩:=r;exact⟨a,e,n,SqL.keep h (λp=>n (sub a p)) q⟩
 |.dct ks ts,_,r=>by unfold Rep at r ⊢;obtain⟨a,kvs,e,n,q,k,z⟩:=r;exact⟨a,kvs,e,n,Rd.NF h (λp=>n (sub a p)) q,k,Reps.keep h sub z⟩
theorem Reps.keep{K:N4}{O P:Ow}{H H':Hp}(h:SameO P H H')(sub:∀a,P a->O a):∀{l:List T}{vs:List V},Reps K O H l vs->Reps K O H' l vs
 |[],_,r=>by unfold Reps at r ⊢;exact r
 |t::l,_,r=>by unfold Reps at r ⊢;obtain⟨v,ws,e,p,q⟩:=r;exact⟨v,ws,e,Rep.keep h sub p,Reps.keep h sub q⟩
end
mutual
theorem Rep.less{K:N4}{O O':Ow}{H:Hp}(sub:∀a,O' a->O a):∀{t:T}{v:V},Rep K O H t v->Rep K O' H t v
 |.non,_,r=>by unfold Rep at r ⊢;exact r
 |.bl _,_,r=>by unfold Rep at r ⊢;exact r
 |.int _,_,r=>by unfold Rep at r ⊢;exact r
 |.str _,_,r=>by unfold Rep at r ⊢;exact r
 |.tup l,_,r=>by unfold Rep at r ⊢;obtain⟨a,vs,e,n,q,z⟩:=r;exact⟨a,vs,e,λp=>n (sub a p),q,Reps.less sub z⟩
 |.lst l,_,r=>by unfold Rep at r ⊢;obtain⟨a,vs,e,n,q,z⟩:=r;exact⟨a,vs,e,λp=>n (sub a p),q,Reps.less sub z⟩
 |.scr l,_,r=>by unfold Rep at r ⊢;obtain⟨a,e,n,z⟩:=r;exact⟨a,e,λp=>n (sub a p),z⟩
 |.dct ks ts,_,r=>by unfold Rep at r ⊢;obtain⟨a,kvs,e,n,q,k,z⟩:=r;exact⟨a,kvs,e,λp=>n (sub a p),q,k,Reps.less sub z⟩
theorem Reps.less{K:N4}{O O':Ow}{H:Hp}(sub:∀a,O' a->O a):∀{l:List T}{vs:List V},Reps K O H l vs->Reps K O' H l vs
 |[],_,r=>by unfold Reps at r ⊢;exact r
 |t::l,_,r=>by unfold Reps at r ⊢;obtain⟨v,ws,e,p,q⟩:=r;exact⟨v,ws,e,Rep.less sub p,Reps.less sub q⟩
end
variable{O:Ow}{l:List T}{v:V}
section
variable {t:T}
def Rep.same(h:Same H H')(r:Rep K O H t v):Rep K O H' t v:=Rep.keep (P:=λ_=>False) (SameO.of h) (λ_ z=>z.elim) r
def Reps.same(h:Same H H')(r:Reps K O H l vs):Reps K O H' l vs:=Reps.keep (P:=λ_=>False) (SameO.of h) (λ_ z=>z.elim) r
def Rep.NB:Rep K O H .non .non:=by unfold Rep;rfl
def Rep.bl_(b:Bool):Rep K O H (.bl b) (.bl b):=by unfold Rep;rfl
def Rep.GE(i:Int):Rep K O H (.int i) (.int i):=by unfold Rep;rfl
def Rep.NH(x:Str):Rep K O H (.str x) (.str x):=by unfold Rep;rfl
def Rep.Fk:Rep K O H (.tup l) v↔ ∃a vs,v=.ref a/\¬ O a/\H a=ZA (.tup vs)/\Reps K O H l vs:=by unfold Rep;exact S8
def Rep.Do:Rep K O H (.lst l) v↔ ∃a vs,v=.ref a/\¬ O a/\H a=ZA (.lst vs)/\Reps K O H l vs:=by unfold Rep;exact S8
def Rep.FS{ks ts:List T}:Rep K O H (.dct ks ts) v↔ ∃a kvs,v=.ref a/\¬ O a/\Rd H a (.dT kvs)/\ks.map keyOf=kvs.map (λp=>ZA p.1)/\Reps K O H ts (kvs.map (·.2)):=by unfold Rep;exact S8
def Rep.AC:Rep K O H (.int i) v↔v=.int i:=by unfold Rep;exact S8
def Rep.FM:Rep K O H (.bl b) v↔v=.bl b:=by unfold Rep;exact S8
def Rep.GT{b:Str}:Rep K O H (.str b) v↔v=.str b:=by unfold Rep;exact S8
def Rep.MZ:Rep K O H .non v↔v=.non:=by unfold Rep;exact S8
def Reps.GM:Reps K O H [] []:=by unfold Reps;rfl
def Reps.Gc(r:Rep K O H t v)(q:Reps K O H l vs):Reps K O H (t::l) (v::vs):=by unfold Reps;exact⟨v,vs,rfl,r,q⟩
def Reps.Da:Reps K O H [] vs↔vs=[]:=by unfold Reps;exact S8
def Reps.me:Reps K O H (t::l) vs↔ ∃v ws,vs=v::ws/\Rep K O H t v/\Reps K O H l ws:=by
 constructor
 .intro h;unfold Reps at h;exact h
 .intro h;unfold Reps;exact h
end
theorem Reps.length:∀{l:List T}{vs:List V},Reps K O H l vs->l.length=vs.length
 |[],vs,r=>by rw[Reps.Da.mp r];rfl
 |t::l,vs,r=>by obtain⟨v,ws,rfl,_,q⟩:=Reps.me.mp r;simp[q.length]
theorem Reps.get:∀{l:List T}{vs:List V}{i:Nat}{t:T},Reps K O H l vs->l[i]?=ZA t->∃v,vs[i]?=ZA v/\Rep K O H t v
 |[],_,_,_,_,e=>by simp at e
 |t::l,vs,i,u,r,e=>by
  obtain⟨v,ws,rfl,p,q⟩:=Reps.me.mp r;cases i with
  |zero=>simp at e;subst e;exact⟨v,rfl,p⟩
  |succ i=>
   obtain⟨z,e1,e2⟩:=q.get (i:=i) (t:=u) (by simpa using e);exact⟨z,by simpa using e1,e2⟩
theorem Reps.append:∀{l m:List T}{vs ws:List V},Reps K O H l vs->Reps K O H m ws->Reps K O H (l++m) (vs++ws)
 |[],_,vs,_,r,s=>by rw[Reps.Da.mp r];exact s
 |t::l,m,vs,ws,r,s=>by obtain⟨v,us,rfl,p,q⟩:=Reps.me.mp r;exact Reps.Gc p (q.append s)
theorem Reps.take:∀{l:List T}{vs:List V}(n:Nat),Reps K O H l vs->Reps K O H (l.take n) (vs.take n)
 |_,_,0,_=>Reps.GM
 |[],vs,n+1,r=>by rw[Reps.Da.mp r];exact Reps.GM
 |t::l,vs,n+1,r=>by obtain⟨v,us,rfl,p,q⟩:=Reps.me.mp r;exact Reps.Gc p (q.take n)
theorem Reps.drop:∀{l:List T}{vs:List V}(n:Nat),Reps K O H l vs->Reps K O H (l.drop n) (vs.drop n)
 |_,_,0,r=>r
 |[],vs,n+1,r=>by rw[Reps.Da.mp r];exact Reps.GM
 |t::l,vs,n+1,r=>by obtain⟨v,us,rfl,p,q⟩:=Reps.me.mp r;exact q.drop n
theorem Reps.ints:∀{ns:List Int},Reps K O H (ns.map T.int) (ns.map V.int)
 |[] =>Reps.GM
 |n::r=>Reps.Gc (Rep.GE n) Reps.ints
theorem Reps.Nq:∀{ns:List Int}{vs:List V},Reps K O H (ns.map T.int) vs->vs=ns.map V.int
 |[],vs,r=>Reps.Da.mp r
 |n::r,vs,q=>by obtain⟨v,us,rfl,p,q⟩:=Reps.me.mp q;rw[Rep.AC.mp p,Reps.Nq q];rfl
def RowsR(K:N4)(O:Ow)(H:Hp):List (List T×List T)->List ZE->Prop
 |[],as=>as=[]
 |r::rs,as=>∃b bs kvs,as=b::bs/\H b=ZA (.dT kvs)/\r.1.map keyOf=kvs.map (λp=>ZA p.1)/\Reps K O H r.2 (kvs.map (·.2))/\RowsR K O H rs bs
def ORep(K:N4)(O M:Ow)(H:Hp):OT->V->Prop
 |.lst l,v=>∃a vs,v=.ref a/\(∀b,M b↔b=a)/\H a=ZA (.lst vs)/\Reps K O H l vs
 |.dct ks ts,v=>∃a kvs,v=.ref a/\(∀b,M b↔b=a)/\H a=ZA (.dT kvs)/\ks.map keyOf=kvs.map (λp=>ZA p.1)/\Reps K O H ts (kvs.map (·.2))
 |.dd ks rows,v=>∃a kvs as,v=.ref a/\(∀b,M b↔b=a\/b∈as)/\a∉as/\as.Nodup/\H a=ZA (.dT kvs)/\ks.map keyOf=kvs.map (λp=>ZA p.1)/\kvs.map (·.2)=as.map V.ref/\RowsR K O H rows as
def Mtb(H:Hp)(a:ZE):Prop:=(∃vs,H a=ZA (.lst vs))\/∃kvs,H a=ZA (.dT kvs)
def Mtb.some(h:Mtb H a):∃o,H a=ZA o:=h.elim (λ⟨_,e⟩=>⟨_,e⟩) λ⟨_,e⟩=>⟨_,e⟩
def Mtb.same(s:Same H H')(h:Mtb H a):Mtb H' a:=h.elim (λ⟨vs,e⟩=>.inl ⟨vs,s _ _ e⟩) λ⟨k,e⟩=>.inr ⟨k,s _ _ e⟩
structure EnvM (K:N4)(O:Ow)(M:Mn)(H:Hp)(Z:En)(σ:L2.St):Prop where
 len:Z.length=σ.length
 val:∀(i:Nat)(t:T),Z[i]?=ZA (.va t)->∃v,σ[i]?=ZA (ZA v)/\Rep K O H t v
 own:∀(i:Nat)(o:OT),Z[i]?=ZA (.ow o)->∃v,σ[i]?=ZA (ZA v)/\ORep K O (M i) H o v
 sub:∀(i:Nat)(a:ZE),M i a->O a
 dis:∀(i j:Nat)(a:ZE),M i a->M j a->i=j
 trk:∀(a:ZE),O a->Mtb H a
theorem RowsR.same(h:Same H H'):∀{rs:List (List T×List T)}{as:List ZE},RowsR K O H rs as->RowsR K O H' rs as
 |[],_,r=>r
 |_::_,_,⟨b,bs,kvs,e1,e2,e3,e4,e5⟩=>⟨b,bs,kvs,e1,h _ _ e2,e3,e4.same h,e5.same h⟩
theorem ORep.same{M:Ow}(h:Same H H'){o:OT}(r:ORep K O M H o v):ORep K O M H' o v:=by
 cases o with
 |lst l=>obtain⟨a,vs,e1,e2,e3,e4⟩:=r;exact⟨a,vs,e1,e2,h _ _ e3,e4.same h⟩
 |dct ks ts=>obtain⟨a,kvs,e1,e2,e3,e4,e5⟩:=r;exact⟨a,kvs,e1,e2,h _ _ e3,e4,e5.same h⟩
 |dd ks rows=>obtain⟨a,kvs,as,e1,e2,e3,e4,e5,e6,e7,e8⟩:=r;exact⟨a,kvs,as,e1,e2,e3,e4,h _ _ e5,e6,e7,e8.same h⟩
variable{Z:En}{σ:L2.St}
theorem EnvM.same{M:Mn}(h:Same H H')(e:EnvM K O M H Z σ):EnvM K O M H' Z σ where
 len:=e.len
 val:=λi t q=>let ⟨v,e1,e2⟩:=e.val i t q;⟨v,e1,e2.same h⟩
 own:=λi o q=>let ⟨v,e1,e2⟩:=e.own i o q;⟨v,e1,e2.same h⟩
 sub:=e.sub
 dis:=e.dis
 trk:=λa q=>(e.trk a q).same h
def EnvO(K:N4)(O:Ow)(H:Hp)(Z:En)(σ:L2.St):Prop:=∃M,EnvM K O M H Z σ
variable{p:ZE}
theorem EnvO.val(e:EnvO K O H Z σ)(i:Nat)(t:T)(q:Z[i]?=ZA (.va t)):∃v,σ[i]?=ZA (ZA v)/\Rep K O H t v:=e.elim λ_ e=>e.val i t q
def EnvO.mtb(e:EnvO K O H Z σ):∀a,O a->Mtb H a:=e.elim λ_ e=>e.trk
def EnvO.trk(e:EnvO K O H Z σ)(a:ZE)(z:O a):∃o,H a=ZA o:=(e.mtb a z).some
theorem EnvO.same(h:Same H H')(e:EnvO K O H Z σ):EnvO K O H' Z σ:=e.elim λM e=>⟨M,e.same h⟩
def EnvO.fresh(e:EnvO K O H Z σ)(h:H p=ZB):¬ O p:=λz=>by obtain⟨o,q⟩:=e.trk p z;rw[h]at q;cases q
def MI(h:ZH)(C e:ZE):Option ZE->Prop
 |none=>∃oe vs,h.get? e=ZA oe/\oe.cls=.ref C/\oe.data=.fields vs/\vs[1]?=ZA .none
 |some T=>T≠e/\∃oe vs,h.get? e=ZA oe/\oe.cls=.ref C/\oe.data=.fields vs/\vs[1]?=ZA (.ref T)/\∃oT ts,h.get? T=ZA oT/\oT.data=.fields ts/\ts[3]?=ZA .none
def RzP(X:Cx)(kw:Uf)(P:Ow)(H:Hp)(c:Str)(ev:N8)(s':Oc):Prop:=
 ∃e T C σ' H',ev=.ref e/\X.mg c=ZA (.ref C)/\Inv X kw σ' H' s'/\SameO P H H'/\H' e=ZB/\(X.ex=[]->X.s₀.heap.get? e=ZB)/\MI s'.heap C e T/\(∀t,T=ZA t->H' t=ZB/\(X.ex=[]->X.s₀.heap.get? t=ZB))/\∀p∈X.pn++kw,p.1≠e/\T≠ZA p.1
def Nw(K:N4)(H:Hp):Ow:=λa=>H a=ZB/\K.lookup a=ZB
variable{H1:Hp}
def je(h:SameO P H H1)(n:Nw K H1 a):P a\/Nw K H a:=by
 by_cases hp:P a
 .exact .inl hp
 .refine .inr ⟨?_,n.2⟩;cases q:H a with
  |none=>rfl
  |some o=>have:=h a o q hp;rw[n.1]at this;cases this
def SameO.trans{P1:Ow}{H2:Hp}(h:SameO P H H1)(h1:SameO P1 H1 H2)(sub:∀a,P1 a->P a\/Nw K H a):SameO P H H2:=λb o e n=>
 h1 b o (h b o e n) λz=>(sub b z).elim n λw=>by rw[w.1]at e;cases e
def XA(X:Cx)(P:Ow)(H:Hp)(c:Str):Prop:=∀kw ev s',RzP X kw P H c ev s'->X.xe ev s'
variable{X:Cx}
def XA.later{P1:Ow}{c:Str}(h:XA X P H c)(s:SameO P H H1)(sub:∀a,P1 a->P a\/Nw X.K H a):XA X P1 H1 c:=λkw ev s' ⟨e,T,C,σ',H',a1,a2,a3,a4,a5⟩=>
 h kw ev s' ⟨e,T,C,σ',H',a1,a2,a3,s.trans a4 sub,a5⟩
abbrev zF:Ow:=λ_=>False
def Post{α:Type}(X:Cx)(H:Hp)(r:Rs α)(k:α->Hp->Prop):Prop:=match r with
 |.ok t=>∀H',Same H H'->k t H'
 |.err c=>XA X zF H c
 |.bad=>False
def Post.mono{r:Rs α}{k k':α->Hp->Prop}(h:Post X H r k)(f:∀t H',Same H H'->k t H'->k' t H'):Post X H r k':=by
 cases r with
 |ok t=>exact λH' s=>f t H' s (h H' s)
 |err c=>exact h
 |bad=>exact h
theorem Post.later{r:Rs α}{k:α->Hp->Prop}(h:Post X H r k)(s:Same H H1):Post X H1 r k:=by
 cases r with
 |ok t=>exact λH' s'=>h H' (s.trans s')
 |err c=>exact XA.later h (SameO.of s) λ_ z=>z.elim
 |bad=>exact h
def Post.bind{r:Rs α}{f:α->Rs β}{k:β->Hp->Prop}(h:Post X H (r >>= f) k):Post X H r λt H'=>Post X H' (f t) k:=by
 cases r with
 |ok t=>exact λH' s=>Post.later h s
 |err c=>exact h
 |bad=>exact h
def tP(X:Cx)(f:Y2):TE:=λσ H Q=>∃Z O,EnvO X.K O H Z σ/\Post X H (f Z) λt H'=>∀v,Rep X.K O H' t v->Q v H'
def tPA(X:Cx)(f:Y0):TA:=λσ H Q=>∃Z O,EnvO X.K O H Z σ/\Post X H (f Z) λt H'=>∀v,Reps X.K O H' t v->Q v H'
def BX(X:Cx)(f:Y3):TT:=λσ H Q=>∃Z O,EnvO X.K O H Z σ/\Post X H (f Z) λb H'=>Q b H'
abbrev df(X:Cx)(e:ZG)(f:Y2):Prop:=PE X e (tP X f)
abbrev qX(X:Cx)(e:List ZG)(f:Y0):Prop:=PA X e (tPA X f)
abbrev xw(X:Cx)(e:ZG)(f:Y3):Prop:=PT X e (BX X f)
variable{e:ZG}
def PE.imp{t t':TE}(h:PE X e t)(w:∀σ H Q,t' σ H Q->t σ H Q):PE X e t':=λkw s σ H Q I q=>h kw s σ H Q I (w σ H Q q)
def PA.imp{e:List ZG}{t t':TA}(h:PA X e t)(w:∀σ H Q,t' σ H Q->t σ H Q):PA X e t':=λpos kw s σ H Q I q=>h pos kw s σ H Q I (w σ H Q q)
def PT.imp{t t':TT}(h:PT X e t)(w:∀σ H Q,t' σ H Q->t σ H Q):PT X e t':=λkw s σ H Q I q=>h kw s σ H Q I (w σ H Q q)
def PS.imp{e:ZF}{t t':TS}(h:PS X e t)(w:∀D σ H,t' D σ H->t D σ H):PS X e t':=λkw s σ H D I q=>h kw s σ H D I (w D σ H q)
def PSs.imp{e:List ZF}{t t':TS}(h:PSs X e t)(w:∀D σ H,t' D σ H->t D σ H):PSs X e t':=λkw s σ H D I q=>h kw s σ H D I (w D σ H q)
variable{es:List ZG}{f:Y0}{pos:Pos}{x:Str}
def br{f:Y2}{k:T->Rs α}{Q:α->Hp->Prop}(E:EnvO X.K O H Z σ)(h:Post X H (f Z >>= k) Q):
  tP X f σ H λv H'=>∃t,Rep X.K O H' t v/\Same H H'/\EnvO X.K O H' Z σ/\Post X H' (k t) Q:=
 ⟨Z,O,E,Post.mono h.bind λt H' s q v r=>⟨t,r,s,E.same s,q⟩⟩
def eQ{k:List T->Rs α}{Q:α->Hp->Prop}(E:EnvO X.K O H Z σ)(h:Post X H (f Z >>= k) Q):
  tPA X f σ H λv H'=>∃t,Reps X.K O H' t v/\Same H H'/\EnvO X.K O H' Z σ/\Post X H' (k t) Q:=
 ⟨Z,O,E,Post.mono h.bind λt H' s q v r=>⟨t,r,s,E.same s,q⟩⟩
def lL{f:Y3}{k:Bool->Rs α}{Q:α->Hp->Prop}(E:EnvO X.K O H Z σ)(h:Post X H (f Z >>= k) Q):
  BX X f σ H λb H'=>Same H H'/\EnvO X.K O H' Z σ/\Post X H' (k b) Q:=
 ⟨Z,O,E,Post.mono h.bind λt H' s q=>⟨s,E.same s,q⟩⟩
noncomputable def vr(i:Nat)(Z:En):Rs T:=match Z[i]? with
 |some (.va t)=>.ok t
 |_=>.bad
def cn(t:T)(_:En):Rs T:=.ok t
def Cr(i:Nat)(hN:X.N[i]?=ZA x:=by rfl)(hv:autoParam (u6 X.env.scope x) u_)(hd:autoParam ((x == ("__debug__" : Str))=ZD) s_)
  (hcd:autoParam ((x == ("__classdict__" : Str))=ZD) s_):df X (.Name x pos) (vr i):=PE.imp (jd hN hv hd hcd) λσ H Q hh_=>by
 obtain⟨Z,O,E,h⟩:=hh_;unfold vr at h;split at h
 .rename_i t e;obtain⟨v,e1,e2⟩:=E.val i t e;exact⟨v,e1,h H (Same.refl H) v e2⟩
 .exact h.elim
def Lr{i j pos}:df X (.Constant (.int i) j pos) (cn (.int i)):=PE.imp xZ λσ H Q ⟨Z,O,E,h⟩=>h H (Same.refl H) _ (Rep.GE i)
def q_bl{i j pos}:df X (.Constant (.bool i) j pos) (cn (.bl i)):=PE.imp CQ λσ H Q ⟨Z,O,E,h⟩=>h H (Same.refl H) _ (Rep.bl_ i)
def Lo{j pos}:df X (.Constant .none j pos) (cn .non):=PE.imp CL λσ H Q ⟨Z,O,E,h⟩=>h H (Same.refl H) _ Rep.NB
def Li{i j pos}:df X (.Constant (.str i) j pos) (cn (.str i)):=PE.imp CJ λσ H Q ⟨Z,O,E,h⟩=>h H (Same.refl H) _ (Rep.NH i)
def IZ{u:N8}(hm:X.mg x=ZA u)(r:RelV (.int i) u)(hg:Gl X x:=by rfl)(hd:autoParam ((x == ("__debug__" : Str))=ZD) s_):df X (.Name x pos) (cn (.int i)):=
 PE.imp (t9 hg hm r hd) λσ H Q ⟨Z,O,E,h⟩=>h H (Same.refl H) _ (Rep.GE i)
def ai(_:En):Rs (List T):=.ok []
noncomputable def ae(f:Y2)(g:Y0)(Z:En):Rs (List T):=do
 let t <-f Z
 let r <-g Z
 .ok (t::r)
def xX:qX X [] ai:=PA.imp dS λσ H Q ⟨Z,O,E,h⟩=>h H (Same.refl H) _ Reps.GM
def oy{f:Y2}{g:Y0}(he:df X e f)(hr:qX X es g)(hs:Ov (e::es) X.env=(ZD,eval e X.env)::Ov es X.env:=by rfl):qX X (e::es) (ae f g):=by intro pos kw s σ H Q I h;obtain⟨Z,O,E,h⟩:=h;refine bB he hr hs pos kw s σ H Q I ?_;obtain⟨Z1,O1,E1,h1⟩:=br E h;refine⟨Z1,O1,E1,Post.mono h1 λt H' s q v r=>?_⟩;obtain⟨t',r',s',E',q'⟩:=q v r;refine⟨Z,O,E',Post.mono q'.bind λts H2 s2 q2 vs rs=>?_⟩;exact q2 H2 (Same.refl H2) _ (Reps.Gc (r'.same s2) rs)
variable{g:T->T->Rs T}
section
def la(l:List T):Rs T:=if l.length<=ZI then .ok (.tup l)else .bad
def lb(l:List T):Rs T:=if l.length<=ZI then .ok (.lst l)else .bad
def aQ(f:Y0)(Z:En):Rs T:=f Z >>= la
def dB(f:Y0)(Z:En):Rs T:=f Z >>= lb
def aR(h:H p=ZB)(o:HO):Same H (upd H p o):=λb u q=>by rw[aF (cY q h)];exact q
def gR(h:H p=ZB)(n:¬ O p)(r:Reps K O H l vs):Rep K O (upd H p (.tup vs)) (.tup l) (.ref p):=
 Rep.Fk.mpr ⟨p,vs,rfl,n,aH,r.same (aR h _)⟩
def gS(h:H p=ZB)(n:¬ O p)(r:Reps K O H l vs):Rep K O (upd H p (.lst vs)) (.lst l) (.ref p):=
 Rep.Do.mpr ⟨p,vs,rfl,n,aH,r.same (aR h _)⟩
def Ho{x1:Nat}{pos:Pos}(h:qX X es f):df X (.Tuple es x1 pos) (aQ f):=by
 intro kw s σ H Q I ⟨Z,O,E,hq⟩;refine tY h kw s σ H Q I ?_;obtain⟨Z1,O1,E1,h1⟩:=eQ E hq;refine⟨Z1,O1,E1,Post.mono h1 λts H1 s1 q vs r=>?_⟩;obtain⟨t',r',s',E',q'⟩:=q vs r;unfold la at q';split at q'
 .rename_i hz;refine⟨by rw[<-r'.length];exact hz,λp hp=>?_⟩;exact q' _ (aR hp _) _ (gR hp (E'.fresh hp) r')
 .exact q'.elim
def Lp{pos:Pos}(h:qX X es f):df X (.List es pos) (dB f):=by
 intro kw s σ H Q I ⟨Z,O,E,hq⟩;refine tZ h kw s σ H Q I ?_;obtain⟨Z1,O1,E1,h1⟩:=eQ E hq;refine⟨Z1,O1,E1,Post.mono h1 λts H1 s1 q vs r=>?_⟩;obtain⟨t',r',s',E',q'⟩:=q vs r;unfold lb at q';split at q'
 .rename_i hz;refine⟨by rw[<-r'.length];exact hz,λp hp=>?_⟩;exact q' _ (aR hp _) _ (gS hp (E'.fresh hp) r')
 .exact q'.elim
def OpT(X:Cx)(f:N8->N8->Sem N8)(g:T->T->Rs T):Prop:=
 ∀(kw:Uf)(s:Oc)(σ:L2.St)(H:Hp)(O:Ow)(x y:T)(vx vy:V)(ux uy:N8)(Q:VK),Inv X kw σ H s->(∀p,H p=ZB->¬ O p)->Rep X.K O H x vx->Rep X.K O H y vy->RelV vx ux->RelV vy uy ->
  Post X H (g x y) (λt H'=>∀v,Rep X.K O H' t v->Q v H')->ZJ (ZK X.prog X.w) X.A (f ux uy) (EP X kw σ Q) X.xe s
def o2(g:T->T->Rs T)(fa fb:Y2)(Z:En):Rs T:=do
 let x <-fa Z
 let y <-fb Z
 g x y
variable {a b c:ZG}{fa fb fc:Y2}
def Lv{op:WY}(ho:OpT X (Qw op) g)(ha:df X a fa)(hb:df X b fb):df X (.BinOp a op b pos) (o2 g fa fb):=by intro kw s σ H Q I ⟨Z,O,E,hq⟩;have h1:=br E hq;refine wpAny_BinOp (cM (ha kw s σ H _ I h1) λv s1 hh_=>?_);obtain⟨x,H1,I1,r1,t,rt,s',E',q1⟩:=hh_;have h2:=br (f:=fb) E' q1;refine cM (hb kw s1 σ H1 _ I1 h2) λu s2 hh_=>?_;obtain⟨y,H2,I2,r2,t2,rt2,s'',E'',q2⟩:=hh_;exact ho kw s2 σ H2 O t t2 x y v u Q I2 (λp=>E''.fresh) (rt.same s'') rt2 r1 r2 q2
def Lu(ho:OpT X (Pm op) g)(ha:df X a fa)(hb:df X b fb)(hm:RO op b=ZD:=by rfl):df X (.Compare a [op] [b] pos) (o2 g fa fb):=by intro kw s σ H Q I ⟨Z,O,E,hq⟩;have h1:=br E hq;refine wpAny_Compare1 (cM (ha kw s σ H _ I h1) λv s1 ⟨x,H1,I1,r1,t,rt,s',E',q1⟩=>?_) hm;have h2:=br (f:=fb) E' q1;refine cM (hb kw s1 σ H1 _ I1 h2) λu s2 hh_=>?_;obtain⟨y,H2,I2,r2,t2,rt2,s'',E'',q2⟩:=hh_;exact ho kw s2 σ H2 O t t2 x y v u Q I2 (λp=>E''.fresh) (rt.same s'') rt2 r1 r2 q2
def OpT.of{f:N8->N8->Sem N8}{r:R2}(h:qY X f r)
  (w:∀(H:Hp)(O:Ow)(x y:T)(vx vy:V)(Q:VK),(∀p,H p=ZB->¬ O p)->Rep X.K O H x vx->Rep X.K O H y vy->Post X H (g x y) (λt H'=>∀v,Rep X.K O H' t v->Q v H')->r vx vy H Q):OpT X f g:=
 λkw s σ H O x y vx vy ux uy Q I hf rx ry r1 r2 hp=>h kw s σ H vx vy ux uy Q I r1 r2 (w H O x y vx vy Q hf rx ry hp)
def fB:T->T->Rs T
 |.int i,.int j=>.ok (.int (i - j))
 |_,_=>.bad
def fG:OpT X (Qw .Sub) fB:=OpT.of Jp λH O x y vx vy Q hf rx ry hp=>by
 unfold fB at hp;split at hp
 .exact⟨_,_,Rep.AC.mp rx,Rep.AC.mp ry,hp H (Same.refl H) _ (Rep.GE _)⟩
 .exact hp.elim
noncomputable def mn:T->T->Rs T
 |.int i,.int j=>if 0<j/\j<1073741824 then .ok (.int (i / j))else .bad
 |_,_=>.bad
noncomputable def l9:T->T->Rs T
 |.int i,.int j=>if 0<j then .ok (.int (i % j))else .bad
 |_,_=>.bad
def oA:OpT X (Qw .FloorDiv) mn:=OpT.of F7 λH O x y vx vy Q hf rx ry hp=>by
 unfold mn at hp;split at hp
 .split at hp
  .rename_i h;exact⟨_,_,Rep.AC.mp rx,Rep.AC.mp ry,h,hp H (Same.refl H) _ (Rep.GE _)⟩
  .exact hp.elim
 .exact hp.elim
def ly:OpT X (Qw .Mod) l9:=OpT.of Js λH O x y vx vy Q hf rx ry hp=>by
 unfold l9 at hp;split at hp
 .split at hp
  .rename_i h;exact⟨_,_,Rep.AC.mp rx,Rep.AC.mp ry,h,hp H (Same.refl H) _ (Rep.GE _)⟩
  .exact hp.elim
 .exact hp.elim
def CY:qY X (Qw .Add) (λx y H Q=>∃a b ys,x=.ref a/\y=.ref b/\SqT X.K H a []/\SqT X.K H b ys/\Q (.ref b) H):=by
 intro kw s σ H x y v u Q I rx ry h;obtain⟨a,b,ys,rfl,rfl,ha,hb,q⟩:=h;cases rx;cases ry;obtain⟨its,r1,p1,_⟩:=I.tuple ha;obtain⟨its2,r2,p2,_⟩:=I.tuple hb;obtain⟨⟨cls,dd,data,sl⟩,ho,hc,n,hd⟩:=id p1;obtain⟨⟨cls2,dd2,data2,sl2⟩,ho2,hc2,n2,hd2⟩:=id p2;simp only at hc hd hc2 hd2;subst hc hd hc2 hd2;have e:its=[]:=by cases r1;rfl
 subst e;exact HT_concat0 ho ho2 ⟨.ref b,H,I,rfl,q⟩
where
 HT_concat0 {prog:OF} {w:Pv} {A:OU} {E:WP} {s:Oc} {t b:ZE} {ws:Array N8} {n n2:Nat} {dd dd2:Option ZE} {sl sl2:Array (Option N8)} {Q:WP}
   (ho:s.heap.get? t=ZA {cls:=.type "tuple",dict:=dd,data:=.seq (([]:List N8).toArray) n,slots:=sl}) (ho2:s.heap.get? b=ZA {cls:=.type "tuple",dict:=dd2,data:=.seq ws n2,slots:=sl2}) (h:Q (.ref b) s):
   ZJ (ZK prog w) A (Qw .Add (.ref t) (.ref b)) Q E s:=
  Wy ⟨_,ho,rfl⟩ ⟨_,ho2,rfl⟩ Uk VR Sn Se (R4 _ _)
   (tuple_addW0 t b _ _ n n2 dd dd2 sl sl2 (by simp)) ⟨ho,ho2,h⟩
noncomputable def aY:T->T->Rs T
 |.int i,.int j=>.ok (.int (i+j))
 |.str i,.str j=>if i.length+j.length<=ZI then .ok (.str (i++j))else .bad
 |.tup l,.tup m=>la (l++m)
 |.lst l,.lst m=>lb (l++m)
 |_,_=>.bad
theorem aM:OpT X (Qw .Add) aY:=by
 intro kw s σ H O x y vx vy ux uy Q I hf rx ry r1 r2 hp;unfold aY at hp;split at hp
 .exact Ju kw s σ H vx vy ux uy Q I r1 r2 ⟨_,_,Rep.AC.mp rx,Rep.AC.mp ry,hp H (Same.refl H) _ (Rep.GE _)⟩
 .split at hp
  .rename_i h;exact x5 kw s σ H vx vy ux uy Q I r1 r2 ⟨_,_,Rep.GT.mp rx,Rep.GT.mp ry,h,hp H (Same.refl H) _ (Rep.NH _)⟩
  .exact hp.elim
 .rename_i l m;unfold la at hp;split at hp
  .rename_i h;obtain⟨a,vs,e1,n1,q1,z1⟩:=Rep.Fk.mp rx;obtain⟨b,ws,e2,n2,q2,z2⟩:=Rep.Fk.mp ry;have hl1:=z1.length;have hl2:=z2.length;rw[Ol]at h;cases vs with
   |nil=>
    have e:l=[]:=by cases l with
     |nil=>rfl
     |cons _ _=>simp at hl1
    subst e;exact CY kw s σ H vx vy ux uy Q I r1 r2 ⟨a,b,ws,e1,e2,SqT.of q1,SqT.of q2,hp H (Same.refl H) _ (Rep.Fk.mpr ⟨b,ws,rfl,n2,q2,z2⟩)⟩
   |cons v0 vr=>
    refine F8 kw s σ H vx vy ux uy Q I r1 r2 ⟨a,b,v0::vr,ws,e1,e2,SqT.of q1,SqT.of q2,by simp,by omega,λhw=>?_,λ_ p hpn=>?_⟩
    .subst hw;have e:m=[]:=by cases m with
      |nil=>rfl
      |cons _ _=>simp at hl2
     subst e;rw[Px]at hp;exact hp H (Same.refl H) _ (Rep.Fk.mpr ⟨a,_,rfl,n1,q1,z1⟩)
    .exact hp _ (aR hpn _) _ (gR hpn (hf p hpn) (z1.append z2))
  .exact hp.elim
 .rename_i l m;unfold lb at hp;split at hp
  .rename_i h;obtain⟨a,vs,e1,n1,q1,z1⟩:=Rep.Do.mp rx;obtain⟨b,ws,e2,n2,q2,z2⟩:=Rep.Do.mp ry;have hl1:=z1.length;have hl2:=z2.length;rw[Ol]at h;exact CZ kw s σ H vx vy ux uy Q I r1 r2 ⟨a,b,vs,ws,e1,e2,q1,q2,by omega,λp hpn=>hp _ (aR hpn _) _ (gS hpn (hf p hpn) (z1.append z2))⟩
  .exact hp.elim
 .exact hp.elim
noncomputable def yj:T->T->Rs T
 |.int i,.int j=>if (-(2 ^ 64)<i/\i<2 ^ 64)\/(-(2 ^ 64)<j/\j<2 ^ 64)then .ok (.int (i*j))else .bad
 |.lst l,.int k=>if -(2 ^ 63)<=k/\k<2 ^ 63/\l.length*k.toNat<=ZI then .ok (.lst (OH k.toNat l).flatten)else .bad
 |_,_=>.bad
theorem Reps.rep(h:Reps K O H l vs):∀k:Nat,Reps K O H (OH k l).flatten (OH k vs).flatten
 |0=>Reps.GM
 |k+1=>by rw[P7,P7,QN,QN];exact h.append (h.rep k)
def Jo:OpT X (Qw .Mult) yj:=by
 intro kw s σ H O x y vx vy ux uy Q I hf rx ry r1 r2 hp;unfold yj at hp;split at hp
 .split at hp
  .rename_i h;exact Jr kw s σ H vx vy ux uy Q I r1 r2 ⟨_,_,Rep.AC.mp rx,Rep.AC.mp ry,h,hp H (Same.refl H) _ (Rep.GE _)⟩
  .exact hp.elim
 .split at hp
  .rename_i l k h;obtain⟨a,vs,e1,n1,q1,z1⟩:=Rep.Do.mp rx;have hl1:=z1.length;exact Jq kw s σ H vx vy ux uy Q I r1 r2 ⟨a,k,vs,e1,Rep.AC.mp ry,q1,h.1,h.2.1,by rw[<-hl1];exact h.2.2,λp hpn=>hp _ (aR hpn _) _ (gS hpn (hf p hpn) (z1.rep _))⟩
  .exact hp.elim
 .exact hp.elim
def kW:T->Rs T
 |.int i=>.ok (.int (-i))
 |_=>.bad
def o1(g:T->Rs T)(fa:Y2)(Z:En):Rs T:=fa Z >>= g
def Hq(ha:df X a fa):df X (.UnaryOp .USub a pos) (o1 kW fa):=by
 intro kw s σ H Q I ⟨Z,O,E,hq⟩;refine Ht BR ha kw s σ H Q I ?_;obtain⟨Z1,O1,E1,h1⟩:=br E hq;refine⟨Z1,O1,E1,Post.mono h1 λts H1 s1 q vs r=>?_⟩;obtain⟨t',r',s',E',q'⟩:=q vs r;unfold kW at q';split at q'
 .exact⟨_,Rep.AC.mp r',q' H1 (Same.refl H1) _ (Rep.GE _)⟩
 .exact q'.elim
def yO(p:Int->Int->Bool):T->T->Rs T
 |.int i,.int j=>.ok (.bl (p i j))
 |_,_=>.bad
def zD{p:Int->Int->Bool}(h:qY X (Pm op) (IB λi j=>.bl (p i j))):OpT X (Pm op) (yO p):=OpT.of h λH O x y vx vy Q hf rx ry hp=>by
 unfold yO at hp;split at hp
 .exact⟨_,_,Rep.AC.mp rx,Rep.AC.mp ry,hp H (Same.refl H) _ (Rep.bl_ _)⟩
 .exact hp.elim
abbrev wB:=yO λi j=>decide (i<j)
abbrev KI:=yO λi j=>decide (i<=j)
def pL:OpT X (Pm .Lt) wB:=zD LF
def vY:OpT X (Pm .LtE) KI:=zD LG
def T.isN:T->Bool
 |.non=>ZC
 |_=>ZD
def Rep.isN{t:T}(r:Rep K O H t v):decide (v=.non)=t.isN:=by
 cases t with
 |non=>rw[Rep.MZ.mp r];rfl
 |bl _=>rw[Rep.FM.mp r];rfl
 |int _=>rw[Rep.AC.mp r];rfl
 |str _=>rw[Rep.GT.mp r];rfl
 |tup _=>obtain⟨a,vs,e,_⟩:=Rep.Fk.mp r;rw[e];rfl
 |lst _=>obtain⟨a,vs,e,_⟩:=Rep.Do.mp r;rw[e];rfl
 |scr _=>unfold Rep at r;obtain⟨a,e,_⟩:=r;rw[e];rfl
 |dct _ _=>obtain⟨a,_,e,_⟩:=Rep.FS.mp r;rw[e];rfl
def iI:T->T->Rs T
 |x,.non=>.ok (.bl x.isN)
 |_,_=>.bad
def fW:T->T->Rs T
 |x,.non=>.ok (.bl (!x.isN))
 |_,_=>.bad
def nK:OpT X (Pm .Is) iI:=OpT.of Jt λH O x y vx vy Q hf rx ry hp=>by
 unfold iI at hp;split at hp
 .exact⟨Rep.MZ.mp ry,hp H (Same.refl H) _ (by rw[rx.isN];exact Rep.bl_ _)⟩
 .exact hp.elim
def gV:OpT X (Pm .IsNot) fW:=OpT.of F6 λH O x y vx vy Q hf rx ry hp=>by
 unfold fW at hp;split at hp
 .exact⟨Rep.MZ.mp ry,hp H (Same.refl H) _ (by rw[rx.isN];exact Rep.bl_ _)⟩
 .exact hp.elim
end
open PySem.SeqAt
mutual
def ReV(s:Oc):T->N8->Prop
 |.non,u=>u=.none
 |.bl b,u=>u=.bool b
 |.int i,u=>∃t,u=.int i t
 |.str x,u=>∃t,u=.str x t
 |.tup l,u=>∃a its,u=.ref a/\s.heap.IsTuple a (Wq its)/\ReVs s l its
 |.lst l,u=>∃a its,u=.ref a/\s.heap.IsList a (Wq its)/\ReVs s l its
 |.scr l,u=>∃a its,u=.ref a/\s.heap.IsList a (Wq its)/\Qn its l
 |.dct _ _,_=>False
def ReVs(s:Oc):List T->List N8->Prop
 |[],us=>us=[]
 |t::r,us=>∃u ws,us=u::ws/\ReV s t u/\ReVs s r ws
end
def ReVs.Da:ReVs s [] us↔us=[]:=by unfold ReVs;exact S8
def ReVs.me{t:T}:ReVs s (t::l) us↔ ∃u ws,us=u::ws/\ReV s t u/\ReVs s l ws:=by
 constructor
 .intro h;unfold ReVs at h;exact h
 .intro h;unfold ReVs;exact h
theorem ReVs.length:∀{l:List T}{us:List N8},ReVs s l us->l.length=us.length
 |[],us,r=>by rw[ReVs.Da.mp r];rfl
 |t::l,us,r=>by obtain⟨v,ws,rfl,_,q⟩:=ReVs.me.mp r;simp[q.length]
theorem ReVs.get:∀{l:List T}{us:List N8}{i:Nat}{t:T},ReVs s l us->l[i]?=ZA t->∃v,us[i]?=ZA v/\ReV s t v
 |[],_,_,_,_,e=>by simp at e
 |t::l,vs,i,u,r,e=>by
  obtain⟨v,ws,rfl,p,q⟩:=ReVs.me.mp r;cases i with
  |zero=>simp at e;subst e;exact⟨v,rfl,p⟩
  |succ i=>
   obtain⟨z,e1,e2⟩:=q.get (i:=i) (t:=u) (by simpa using e);exact⟨z,by simpa using e1,e2⟩
mutual
def T.nd:T->Bool
 |.dct _ _=>ZD
 |.tup l=>nds l
 |.lst l=>nds l
 |_=>ZC
def nds:List T->Bool
 |[] =>ZC
 |t::l=>t.nd&&nds l
end
def wu{t:T}(h:nds (t::l)=ZC):t.nd=ZC/\nds l=ZC:=by unfold nds at h;exact QJ.mp h
theorem lC:∀{l:List T},(∀t∈l,t.nd=ZC)->nds l=ZC
 |[],_=>rfl
 |t::l,h=>by unfold nds;rw[h t Ob,lC λu hu=>h u (N6 _ hu)];rfl
section
variable {kw:Uf}
mutual
theorem Rep.val(I:Inv X kw σ H s):∀{t:T}{v:V}{u:N8},t.nd=ZC->Rep X.K O H t v->RelV v u->ReV s t u
 |.non,v,u,hn,r,q=>by cases Rep.MZ.mp r;unfold ReV;exact q
 |.bl b,v,u,hn,r,q=>by cases Rep.FM.mp r;unfold ReV;exact q
 |.int b,v,u,hn,r,q=>by cases Rep.AC.mp r;unfold ReV;exact q
 |.str b,v,u,hn,r,q=>by cases Rep.GT.mp r;unfold ReV;exact q
 |.tup l,v,u,hn,r,q=>by obtain⟨a,vs,rfl,_,z,w⟩:=Rep.Fk.mp r;cases q;obtain⟨its,rv,p,_⟩:=I.tuple (SqT.of z);unfold ReV;exact⟨a,its,rfl,p,Reps.val I (by unfold T.nd at hn;exact hn) w rv⟩
 |.lst l,v,u,hn,r,q=>by obtain⟨a,vs,rfl,_,z,w⟩:=Rep.Do.mp r;cases q;obtain⟨its,rv,p,_⟩:=I.list (SqL.of z);unfold ReV;exact⟨a,its,rfl,p.isList,Reps.val I (by unfold T.nd at hn;exact hn) w rv⟩
 |.scr l,v,u,hn,r,q=>by unfold Rep at r;obtain⟨a,rfl,_,z⟩:=r;cases q;obtain⟨its,rv,p,_⟩:=I.list z;unfold ReV;exact⟨a,its,rfl,p.isList,yE rv⟩
 |.dct _ _,v,u,hn,r,q=>by cases hn
theorem Reps.val(I:Inv X kw σ H s):∀{l:List T}{vs:List V}{us:List N8},nds l=ZC->Reps X.K O H l vs->Vals vs us->ReVs s l us
 |[],vs,us,hn,r,q=>by cases Reps.Da.mp r;cases q;exact ReVs.Da.mpr rfl
 |t::l,vs,us,hn,r,q=>by
  obtain⟨v,ws,rfl,p,z⟩:=Reps.me.mp r;cases q with
  |cons q1 q2=>exact ReVs.me.mpr ⟨_,_,rfl,Rep.val I (wu hn).1 p q1,Reps.val I (wu hn).2 z q2⟩
end
end
mutual
def T.dep:T->Nat
 |.tup l=>deps l+1
 |.lst l=>deps l+1
 |.scr _=>1
 |_=>0
def deps:List T->Nat
 |[] =>0
 |t::l=>max t.dep (deps l)
end
noncomputable def GY(i:Int):T->Bool
 |.int j=>i == j
 |.bl b=>i == (if b then 1 else 0)
 |_=>ZD
def lh:List Int->List T->Bool
 |[],[] =>ZC
 |i::r,t::l=>GY i t&&lh r l
 |_,_=>ZD
mutual
def aU:T->T->Bool
 |.non,.non=>ZC
 |.bl a,.bl b=>a == b
 |.bl a,.int b=>(if a then 1 else 0) == b
 |.int a,.bl b=>a == (if b then 1 else 0)
 |.int a,.int b=>a == b
 |.str a,.str b=>a == b
 |.tup l,.tup m=>beqTs l m
 |.lst l,.lst m=>beqTs l m
 |.lst l,.scr m=>beqTs l (m.map .int)
 |.scr l,.lst m=>lh l m
 |.scr l,.scr m=>l == m
 |_,_=>ZD
def beqTs:List T->List T->Bool
 |[],[] =>ZC
 |t::l,u::m=>aU t u&&beqTs l m
 |_,_=>ZD
end
def kf(n:Nat)(e:Nat->Bool):(Oj (n+1)).all e=(e 0&&(Oj n).all λj=>e (j+1)):=by rw[Rw,List.all_cons,Wr];rfl
theorem kN:∀(l m:List T)(e:Nat->Bool),(∀(j:Nat) t u,l[j]?=ZA t->m[j]?=ZA u->e j=aU t u) ->
  beqTs l m=((Oj (min l.length m.length)).all e&&l.length == m.length)
 |[],[],_,_=>by simp[beqTs]
 |[],_::_,_,_=>by simp[beqTs]
 |_::_,[],_,_=>by simp[beqTs]
 |t::l,u::m,e,h=>by have ih:=kN l m (λj=>e (j+1)) λj t' u' h1 h2=>h (j+1) t' u' (by simpa using h1) (by simpa using h2);rw[beqTs,ih];have h0:=h 0 t u rfl rfl;simp only[Oh];rw[Nat.succ_min_succ,kf,h0,Bool.and_assoc];congr 2;simp
theorem sT:∀{l m:List T},l.length≠m.length->beqTs l m=ZD
 |[],[],h=>absurd rfl h
 |[],_::_,_=>by simp[beqTs]
 |_::_,[],_=>by simp[beqTs]
 |t::l,u::m,h=>by rw[beqTs,sT (l:=l) (m:=m) (by intro z;exact h (by simp[z]))];simp
theorem i9:∀{l:List T}{i:Nat}{t:T},l[i]?=ZA t->t.dep<=deps l
 |[],_,_,e=>by simp at e
 |t::l,0,u,e=>by simp at e;subst e;unfold deps;exact Nat.le_max_left _ _
 |t::l,i+1,u,e=>by have:=i9 (l:=l) (i:=i) (t:=u) (by simpa using e);unfold deps;exact OG this (Nat.le_max_right _ _)
def jW{x y:List N8}(h:s.heap.IsTuple a x.toArray)(h':s.heap.IsTuple a y.toArray):x=y:=by obtain⟨o,e,_,n,d⟩:=h;obtain⟨o',e',_,n',d'⟩:=h';rw[e]at e';cases e';rw[d]at d';injection d' with d1 _;simpa using congrArg Uz d1
def dF{x y:List N8}(h:s.heap.IsList a x.toArray)(h':s.heap.IsList a y.toArray):x=y:=by obtain⟨o,e,_,n,d⟩:=h;obtain⟨o',e',_,n',d'⟩:=h';rw[e]at e';cases e';rw[d]at d';injection d' with d1 _;simpa using congrArg Uz d1
variable{k:Tok}
def Bw{t:T}(r:ReV s t (.int i k)):GY i t=ZC:=by
 cases t with
 |non=>unfold ReV at r;cases r
 |bl b=>unfold ReV at r;cases r
 |int j=>unfold ReV at r;obtain⟨t,e⟩:=r;injection e with e1 _;subst e1;simp[GY]
 |str x=>unfold ReV at r;obtain⟨t,e⟩:=r;cases e
 |tup l=>unfold ReV at r;obtain⟨a,its,e,_⟩:=r;cases e
 |lst l=>unfold ReV at r;obtain⟨a,its,e,_⟩:=r;cases e
 |scr l=>unfold ReV at r;obtain⟨a,its,e,_⟩:=r;cases e
 |dct _ _=>unfold ReV at r;exact r.elim
theorem qR:∀{ns:List Int}{us:List N8}{l:List T},Qn us ns->ReVs s l us->lh ns l=ZC
 |[],us,l,h,r=>by
  cases h;cases l with
  |nil=>rfl
  |cons t l=>obtain⟨_,_,e,_⟩:=ReVs.me.mp r;cases e
 |n::ns,us,l,h,r=>by
  cases h with
  |cons a b hh=>
   cases l with
   |nil=>have:=ReVs.Da.mp r;cases this
   |cons t l=>
    obtain⟨u,ws,e,p,q⟩:=ReVs.me.mp r;injection e with e1 e2;subst e1 e2;rw[lh,Bw p,qR hh q];rfl
theorem fz:∀{us:List N8}{ns:List Int},Qn us ns->ReVs s (ns.map T.int) us
 |_,_,.nil=>ReVs.Da.mpr rfl
 |_,_,.cons n t h=>ReVs.me.mpr ⟨_,_,rfl,by unfold ReV;exact⟨_,rfl⟩,fz h⟩
theorem jX:∀{us:List N8}{ns ms:List Int},Qn us ns->Qn us ms->ns=ms
 |_,_,_,.nil,.nil=>rfl
 |_,_,_,.cons n t h,.cons _ _ h'=>by rw[jX h h']
mutual
theorem ReV.refl{s:Oc}:∀{t u:T}{v:N8},ReV s t v->ReV s u v->aU t u=ZC
 |.non,u,v,r,q=>by unfold ReV at r;subst r;cases u <;> (unfold ReV at q) <;> first|rfl| (cases q;done)| (obtain⟨_,e⟩:=q;cases e;done)| (obtain⟨_,_,e,_⟩:=q;cases e;done)
 |.bl b,u,v,r,q=>by unfold ReV at r;subst r;cases u <;> (unfold ReV at q) <;> first| (cases q;done)| (cases q;simp[aU];done)| (obtain⟨_,e⟩:=q;cases e;done)| (obtain⟨_,_,e,_⟩:=q;cases e;done)
 |.int b,u,v,r,q=>by unfold ReV at r;obtain⟨k,rfl⟩:=r;cases u <;> (unfold ReV at q) <;> first| (cases q;done)| (obtain⟨_,e⟩:=q;cases e;simp[aU];done)| (obtain⟨_,e⟩:=q;cases e;done)| (obtain⟨_,_,e,_⟩:=q;cases e;done)
 |.str b,u,v,r,q=>by unfold ReV at r;obtain⟨k,rfl⟩:=r;cases u <;> (unfold ReV at q) <;> first| (cases q;done)| (obtain⟨_,e⟩:=q;cases e;simp[aU];done)| (obtain⟨_,e⟩:=q;cases e;done)| (obtain⟨_,_,e,_⟩:=q;cases e;done)
 |.tup l,u,v,r,q=>by
  unfold ReV at r;obtain⟨a,its,rfl,h1,h2⟩:=r;cases u with
  |non=>unfold ReV at q;cases q
  |dct _ _=>unfold ReV at q;exact q.elim
  |bl _=>unfold ReV at q;cases q
  |int _=>unfold ReV at q;obtain⟨_,e⟩:=q;cases e
  |str _=>unfold ReV at q;obtain⟨_,e⟩:=q;cases e
  |tup m=>
   unfold ReV at q;obtain⟨a',its',e,h1',h2'⟩:=q;injection e with e;subst e;have:=jW h1 h1';subst this;unfold aU;exact ReVs.refl h2 h2'
  |lst m=>unfold ReV at q;obtain⟨a',its',e,h1',h2'⟩:=q;injection e with e;subst e;exact absurd rfl (ne_of_list_tuple h1' h1)
  |scr m=>unfold ReV at q;obtain⟨a',its',e,h1',h2'⟩:=q;injection e with e;subst e;exact absurd rfl (ne_of_list_tuple h1' h1)
 |.lst l,u,v,r,q=>by
  unfold ReV at r;obtain⟨a,its,rfl,h1,h2⟩:=r;cases u with
  |non=>unfold ReV at q;cases q
  |dct _ _=>unfold ReV at q;exact q.elim
  |bl _=>unfold ReV at q;cases q
  |int _=>unfold ReV at q;obtain⟨_,e⟩:=q;cases e
  |str _=>unfold ReV at q;obtain⟨_,e⟩:=q;cases e
  |lst m=>
   unfold ReV at q;obtain⟨a',its',e,h1',h2'⟩:=q;injection e with e;subst e;have:=dF h1 h1';subst this;unfold aU;exact ReVs.refl h2 h2'
  |tup m=>unfold ReV at q;obtain⟨a',its',e,h1',h2'⟩:=q;injection e with e;subst e;exact absurd rfl (ne_of_list_tuple h1 h1')
  |scr m=>
   unfold ReV at q;obtain⟨a',its',e,h1',h2'⟩:=q;injection e with e;subst e;have:=dF h1 h1';subst this;unfold aU;exact ReVs.refl h2 (fz h2')
 |.scr l,u,v,r,q=>by
  unfold ReV at r;obtain⟨a,its,rfl,h1,h2⟩:=r;cases u with
  |non=>unfold ReV at q;cases q
  |dct _ _=>unfold ReV at q;exact q.elim
  |bl _=>unfold ReV at q;cases q
  |int _=>unfold ReV at q;obtain⟨_,e⟩:=q;cases e
  |str _=>unfold ReV at q;obtain⟨_,e⟩:=q;cases e
  |lst m=>
   unfold ReV at q;obtain⟨a',its',e,h1',h2'⟩:=q;injection e with e;subst e;have:=dF h1 h1';subst this;unfold aU;exact qR h2 h2'
  |tup m=>unfold ReV at q;obtain⟨a',its',e,h1',h2'⟩:=q;injection e with e;subst e;exact absurd rfl (ne_of_list_tuple h1 h1')
  |scr m=>
   unfold ReV at q;obtain⟨a',its',e,h1',h2'⟩:=q;injection e with e;subst e;have:=dF h1 h1';subst this;unfold aU;have:=jX h2 h2';simp[this]
 |.dct _ _,u,v,r,q=>by unfold ReV at r;exact r.elim
theorem ReVs.refl{s:Oc}:∀{l m:List T}{us:List N8},ReVs s l us->ReVs s m us->beqTs l m=ZC
 |[],m,us,r,q=>by
  cases ReVs.Da.mp r;cases m with
  |nil=>simp[beqTs]
  |cons _ _=>obtain⟨_,_,e,_⟩:=ReVs.me.mp q;cases e
 |t::l,m,us,r,q=>by
  obtain⟨v,ws,rfl,p,z⟩:=ReVs.me.mp r;cases m with
  |nil=>cases ReVs.Da.mp q
  |cons u m=>
   obtain⟨v',ws',e,p',z'⟩:=ReVs.me.mp q;injection e with e1 e2;subst e1 e2;rw[beqTs,ReV.refl p p',ReVs.refl z z'];rfl
end
theorem qQ:∀(l:List Int)(m:List T),lh l m=beqTs (l.map T.int) m
 |[],[] =>by simp[lh,beqTs]
 |[],_::_=>by simp[lh,beqTs]
 |_::_,[] =>by simp[lh,beqTs]
 |i::l,t::m=>by rw[lh,Oa,beqTs,qQ l m];congr 1;cases t <;> simp[GY,aU]
theorem tR:∀(l m:List Int),(l == m)=beqTs (l.map T.int) (m.map T.int)
 |[],[] =>by simp[beqTs]
 |[],_::_=>by simp[beqTs]
 |_::_,[] =>by simp[beqTs]
 |i::l,t::m=>by rw[Oa,Oa,beqTs,<-tR l m];simp[aU]
theorem gL:∀(l:List Int),deps (l.map T.int)=0
 |[] =>rfl
 |i::l=>by rw[Oa,deps,gL l];simp[T.dep]
def ku:T->T->Prop
 |.tup _,.tup _=>False
 |.lst _,.lst _=>False
 |.lst _,.scr _=>False
 |.scr _,.lst _=>False
 |.scr _,.scr _=>False
 |_,_=>True
def wY(A:OU)(s:Oc)(x y:T)(u v:N8)(hn:ku x y)(hu:A.units<cLine)(rx:ReV s x u)(ry:ReV s y v):EqAt A s u v (aU x y)/\RcAt A s u v (aU x y)/\RcNeAt A s u v (!aU x y):=by
 match x,y,hn,rx,ry with
 |.dct _ _,_,_,rx,_=>exact(by unfold ReV at rx;exact rx:False).elim
 |_,.dct _ _,_,_,ry=>exact(by unfold ReV at ry;exact ry:False).elim
 |.non,.non,hn,rx,ry=>
  obtain rfl:u=Pl:=by unfold ReV at rx;exact rx
  obtain rfl:v=Pl:=by unfold ReV at ry;exact ry
  exact⟨EqAt.same _,RcAt.none_none ,RcNeAt.none_none ⟩
 |.non,.bl b2,hn,rx,ry=>
  obtain rfl:u=Pl:=by unfold ReV at rx;exact rx
  obtain rfl:v=Pn b2:=by unfold ReV at ry;exact ry
  exact⟨EqAt.none_bool b2,RcAt.none_bool b2,RcNeAt.none_bool b2⟩
 |.non,.int i2,hn,rx,ry=>
  obtain rfl:u=Pl:=by unfold ReV at rx;exact rx
  obtain⟨k2,rfl⟩:∃k,v=Qb i2 k:=by unfold ReV at ry;exact ry
  exact⟨EqAt.none_int i2 k2,RcAt.none_int i2 k2,RcNeAt.none_int i2 k2⟩
 |.non,.str x2,hn,rx,ry=>
  obtain rfl:u=Pl:=by unfold ReV at rx;exact rx
  obtain⟨k2,rfl⟩:∃k,v=QB x2 k:=by unfold ReV at ry;exact ry
  exact⟨EqAt.none_str x2 k2,RcAt.none_str x2 k2,RcNeAt.none_str x2 k2⟩
 |.non,.tup l2,hn,rx,ry=>
  obtain rfl:u=Pl:=by unfold ReV at rx;exact rx
  unfold ReV at ry;obtain⟨a2,us2,rfl,h2,q2⟩:=ry;exact⟨EqAt.none_tuple h2 hu,RcAt.none_tuple h2 hu,RcNeAt.none_tuple h2 hu⟩
 |.non,.lst l2,hn,rx,ry=>
  obtain rfl:u=Pl:=by unfold ReV at rx;exact rx
  unfold ReV at ry;obtain⟨a2,us2,rfl,h2,q2⟩:=ry;exact⟨EqAt.none_list h2 hu,RcAt.none_list h2 hu,RcNeAt.none_list h2 hu⟩
 |.non,.scr l2,hn,rx,ry=>
  obtain rfl:u=Pl:=by unfold ReV at rx;exact rx
  unfold ReV at ry;obtain⟨a2,us2,rfl,h2,q2⟩:=ry;exact⟨EqAt.none_list h2 hu,RcAt.none_list h2 hu,RcNeAt.none_list h2 hu⟩
 |.bl b1,.non,hn,rx,ry=>
  obtain rfl:u=Pn b1:=by unfold ReV at rx;exact rx
  obtain rfl:v=Pl:=by unfold ReV at ry;exact ry
  exact⟨EqAt.bool_none b1,RcAt.bool_none b1,RcNeAt.bool_none b1⟩
 |.bl b1,.bl b2,hn,rx,ry=>
  obtain rfl:u=Pn b1:=by unfold ReV at rx;exact rx
  obtain rfl:v=Pn b2:=by unfold ReV at ry;exact ry
  exact⟨EqAt.bool_bool b1 b2,RcAt.bool_bool b1 b2,RcNeAt.bool_bool b1 b2⟩
 |.bl b1,.int i2,hn,rx,ry=>
  obtain rfl:u=Pn b1:=by unfold ReV at rx;exact rx
  obtain⟨k2,rfl⟩:∃k,v=Qb i2 k:=by unfold ReV at ry;exact ry
  exact⟨EqAt.bool_int b1 i2 k2,RcAt.bool_int b1 i2 k2,RcNeAt.bool_int b1 i2 k2⟩
 |.bl b1,.str x2,hn,rx,ry=>
  obtain rfl:u=Pn b1:=by unfold ReV at rx;exact rx
  obtain⟨k2,rfl⟩:∃k,v=QB x2 k:=by unfold ReV at ry;exact ry
  exact⟨EqAt.bool_str b1 x2 k2,RcAt.bool_str b1 x2 k2,RcNeAt.bool_str b1 x2 k2⟩
 |.bl b1,.tup l2,hn,rx,ry=>
  obtain rfl:u=Pn b1:=by unfold ReV at rx;exact rx
  unfold ReV at ry;obtain⟨a2,us2,rfl,h2,q2⟩:=ry;exact⟨EqAt.bool_tuple b1 h2 hu,RcAt.bool_tuple b1 h2 hu,RcNeAt.bool_tuple b1 h2 hu⟩
 |.bl b1,.lst l2,hn,rx,ry=>
  obtain rfl:u=Pn b1:=by unfold ReV at rx;exact rx
  unfold ReV at ry;obtain⟨a2,us2,rfl,h2,q2⟩:=ry;exact⟨EqAt.bool_list b1 h2 hu,RcAt.bool_list b1 h2 hu,RcNeAt.bool_list b1 h2 hu⟩
 |.bl b1,.scr l2,hn,rx,ry=>
  obtain rfl:u=Pn b1:=by unfold ReV at rx;exact rx
  unfold ReV at ry;obtain⟨a2,us2,rfl,h2,q2⟩:=ry;exact⟨EqAt.bool_list b1 h2 hu,RcAt.bool_list b1 h2 hu,RcNeAt.bool_list b1 h2 hu⟩
 |.int i1,.non,hn,rx,ry=>
  obtain⟨k1,rfl⟩:∃k,u=Qb i1 k:=by unfold ReV at rx;exact rx
  obtain rfl:v=Pl:=by unfold ReV at ry;exact ry
  exact⟨EqAt.int_none i1 k1,RcAt.int_none i1 k1,RcNeAt.int_none i1 k1⟩
 |.int i1,.bl b2,hn,rx,ry=>
  obtain⟨k1,rfl⟩:∃k,u=Qb i1 k:=by unfold ReV at rx;exact rx
  obtain rfl:v=Pn b2:=by unfold ReV at ry;exact ry
  exact⟨EqAt.int_bool i1 k1 b2,RcAt.int_bool i1 k1 b2,RcNeAt.int_bool i1 k1 b2⟩
 |.int i1,.int i2,hn,rx,ry=>
  obtain⟨k1,rfl⟩:∃k,u=Qb i1 k:=by unfold ReV at rx;exact rx
  obtain⟨k2,rfl⟩:∃k,v=Qb i2 k:=by unfold ReV at ry;exact ry
  exact⟨EqAt.int_int i1 k1 i2 k2,RcAt.int_int i1 k1 i2 k2,RcNeAt.int_int i1 k1 i2 k2⟩
 |.int i1,.str x2,hn,rx,ry=>
  obtain⟨k1,rfl⟩:∃k,u=Qb i1 k:=by unfold ReV at rx;exact rx
  obtain⟨k2,rfl⟩:∃k,v=QB x2 k:=by unfold ReV at ry;exact ry
  exact⟨EqAt.int_str i1 k1 x2 k2,RcAt.int_str i1 k1 x2 k2,RcNeAt.int_str i1 k1 x2 k2⟩
 |.int i1,.tup l2,hn,rx,ry=>
  obtain⟨k1,rfl⟩:∃k,u=Qb i1 k:=by unfold ReV at rx;exact rx
  unfold ReV at ry;obtain⟨a2,us2,rfl,h2,q2⟩:=ry;exact⟨EqAt.int_tuple i1 k1 h2 hu,RcAt.int_tuple i1 k1 h2 hu,RcNeAt.int_tuple i1 k1 h2 hu⟩
 |.int i1,.lst l2,hn,rx,ry=>
  obtain⟨k1,rfl⟩:∃k,u=Qb i1 k:=by unfold ReV at rx;exact rx
  unfold ReV at ry;obtain⟨a2,us2,rfl,h2,q2⟩:=ry;exact⟨EqAt.int_list i1 k1 h2 hu,RcAt.int_list i1 k1 h2 hu,RcNeAt.int_list i1 k1 h2 hu⟩
 |.int i1,.scr l2,hn,rx,ry=>
  obtain⟨k1,rfl⟩:∃k,u=Qb i1 k:=by unfold ReV at rx;exact rx
  unfold ReV at ry;obtain⟨a2,us2,rfl,h2,q2⟩:=ry;exact⟨EqAt.int_list i1 k1 h2 hu,RcAt.int_list i1 k1 h2 hu,RcNeAt.int_list i1 k1 h2 hu⟩
 |.str x1,.non,hn,rx,ry=>
  obtain⟨k1,rfl⟩:∃k,u=QB x1 k:=by unfold ReV at rx;exact rx
  obtain rfl:v=Pl:=by unfold ReV at ry;exact ry
  exact⟨EqAt.str_none x1 k1,RcAt.str_none x1 k1,RcNeAt.str_none x1 k1⟩
 |.str x1,.bl b2,hn,rx,ry=>
  obtain⟨k1,rfl⟩:∃k,u=QB x1 k:=by unfold ReV at rx;exact rx
  obtain rfl:v=Pn b2:=by unfold ReV at ry;exact ry
  exact⟨EqAt.str_bool x1 k1 b2,RcAt.str_bool x1 k1 b2,RcNeAt.str_bool x1 k1 b2⟩
 |.str x1,.int i2,hn,rx,ry=>
  obtain⟨k1,rfl⟩:∃k,u=QB x1 k:=by unfold ReV at rx;exact rx
  obtain⟨k2,rfl⟩:∃k,v=Qb i2 k:=by unfold ReV at ry;exact ry
  exact⟨EqAt.str_int x1 k1 i2 k2,RcAt.str_int x1 k1 i2 k2,RcNeAt.str_int x1 k1 i2 k2⟩
 |.str x1,.str x2,hn,rx,ry=>
  obtain⟨k1,rfl⟩:∃k,u=QB x1 k:=by unfold ReV at rx;exact rx
  obtain⟨k2,rfl⟩:∃k,v=QB x2 k:=by unfold ReV at ry;exact ry
  exact⟨EqAt.str_str x1 k1 x2 k2,RcAt.str_str x1 k1 x2 k2,RcNeAt.str_str x1 k1 x2 k2⟩
 |.str x1,.tup l2,hn,rx,ry=>
  obtain⟨k1,rfl⟩:∃k,u=QB x1 k:=by unfold ReV at rx;exact rx
  unfold ReV at ry;obtain⟨a2,us2,rfl,h2,q2⟩:=ry;exact⟨EqAt.str_tuple x1 k1 h2 hu,RcAt.str_tuple x1 k1 h2 hu,RcNeAt.str_tuple x1 k1 h2 hu⟩
 |.str x1,.lst l2,hn,rx,ry=>
  obtain⟨k1,rfl⟩:∃k,u=QB x1 k:=by unfold ReV at rx;exact rx
  unfold ReV at ry;obtain⟨a2,us2,rfl,h2,q2⟩:=ry;exact⟨EqAt.str_list x1 k1 h2 hu,RcAt.str_list x1 k1 h2 hu,RcNeAt.str_list x1 k1 h2 hu⟩
 |.str x1,.scr l2,hn,rx,ry=>
  obtain⟨k1,rfl⟩:∃k,u=QB x1 k:=by unfold ReV at rx;exact rx
  unfold ReV at ry;obtain⟨a2,us2,rfl,h2,q2⟩:=ry;exact⟨EqAt.str_list x1 k1 h2 hu,RcAt.str_list x1 k1 h2 hu,RcNeAt.str_list x1 k1 h2 hu⟩
 |.tup l1,.non,hn,rx,ry=>
  unfold ReV at rx;obtain⟨a1,us1,rfl,h1,q1⟩:=rx;obtain rfl:v=Pl:=by unfold ReV at ry;exact ry
  exact⟨EqAt.tuple_none h1 hu,RcAt.tuple_none h1 hu,RcNeAt.tuple_none h1 hu⟩
 |.tup l1,.bl b2,hn,rx,ry=>
  unfold ReV at rx;obtain⟨a1,us1,rfl,h1,q1⟩:=rx;obtain rfl:v=Pn b2:=by unfold ReV at ry;exact ry
  exact⟨EqAt.tuple_bool b2 h1 hu,RcAt.tuple_bool b2 h1 hu,RcNeAt.tuple_bool b2 h1 hu⟩
 |.tup l1,.int i2,hn,rx,ry=>
  unfold ReV at rx;obtain⟨a1,us1,rfl,h1,q1⟩:=rx;obtain⟨k2,rfl⟩:∃k,v=Qb i2 k:=by unfold ReV at ry;exact ry
  exact⟨EqAt.tuple_int i2 k2 h1 hu,RcAt.tuple_int i2 k2 h1 hu,RcNeAt.tuple_int i2 k2 h1 hu⟩
 |.tup l1,.str x2,hn,rx,ry=>
  unfold ReV at rx;obtain⟨a1,us1,rfl,h1,q1⟩:=rx;obtain⟨k2,rfl⟩:∃k,v=QB x2 k:=by unfold ReV at ry;exact ry
  exact⟨EqAt.tuple_str x2 k2 h1 hu,RcAt.tuple_str x2 k2 h1 hu,RcNeAt.tuple_str x2 k2 h1 hu⟩
 |.tup _,.tup _,hn,_,_=>exact hn.elim
 |.tup l1,.lst l2,hn,rx,ry=>
  unfold ReV at rx;obtain⟨a1,us1,rfl,h1,q1⟩:=rx;unfold ReV at ry;obtain⟨a2,us2,rfl,h2,q2⟩:=ry;exact⟨EqAt.tuple_list h1 h2 hu,RcAt.tuple_list h1 h2 hu,RcNeAt.tuple_list h1 h2 hu⟩
 |.tup l1,.scr l2,hn,rx,ry=>
  unfold ReV at rx;obtain⟨a1,us1,rfl,h1,q1⟩:=rx;unfold ReV at ry;obtain⟨a2,us2,rfl,h2,q2⟩:=ry;exact⟨EqAt.tuple_list h1 h2 hu,RcAt.tuple_list h1 h2 hu,RcNeAt.tuple_list h1 h2 hu⟩
 |.lst l1,.non,hn,rx,ry=>
  unfold ReV at rx;obtain⟨a1,us1,rfl,h1,q1⟩:=rx;obtain rfl:v=Pl:=by unfold ReV at ry;exact ry
  exact⟨EqAt.list_none h1 hu,RcAt.list_none h1 hu,RcNeAt.list_none h1 hu⟩
 |.lst l1,.bl b2,hn,rx,ry=>
  unfold ReV at rx;obtain⟨a1,us1,rfl,h1,q1⟩:=rx;obtain rfl:v=Pn b2:=by unfold ReV at ry;exact ry
  exact⟨EqAt.list_bool b2 h1 hu,RcAt.list_bool b2 h1 hu,RcNeAt.list_bool b2 h1 hu⟩
 |.lst l1,.int i2,hn,rx,ry=>
  unfold ReV at rx;obtain⟨a1,us1,rfl,h1,q1⟩:=rx;obtain⟨k2,rfl⟩:∃k,v=Qb i2 k:=by unfold ReV at ry;exact ry
  exact⟨EqAt.list_int i2 k2 h1 hu,RcAt.list_int i2 k2 h1 hu,RcNeAt.list_int i2 k2 h1 hu⟩
 |.lst l1,.str x2,hn,rx,ry=>
  unfold ReV at rx;obtain⟨a1,us1,rfl,h1,q1⟩:=rx;obtain⟨k2,rfl⟩:∃k,v=QB x2 k:=by unfold ReV at ry;exact ry
  exact⟨EqAt.list_str x2 k2 h1 hu,RcAt.list_str x2 k2 h1 hu,RcNeAt.list_str x2 k2 h1 hu⟩
 |.lst l1,.tup l2,hn,rx,ry=>
  unfold ReV at rx;obtain⟨a1,us1,rfl,h1,q1⟩:=rx;unfold ReV at ry;obtain⟨a2,us2,rfl,h2,q2⟩:=ry;exact⟨EqAt.list_tuple h1 h2 hu,RcAt.list_tuple h1 h2 hu,RcNeAt.list_tuple h1 h2 hu⟩
 |.lst _,.lst _,hn,_,_=>exact hn.elim
 |.lst _,.scr _,hn,_,_=>exact hn.elim
 |.scr l1,.non,hn,rx,ry=>
  unfold ReV at rx;obtain⟨a1,us1,rfl,h1,q1⟩:=rx;obtain rfl:v=Pl:=by unfold ReV at ry;exact ry
  exact⟨EqAt.list_none h1 hu,RcAt.list_none h1 hu,RcNeAt.list_none h1 hu⟩
 |.scr l1,.bl b2,hn,rx,ry=>
  unfold ReV at rx;obtain⟨a1,us1,rfl,h1,q1⟩:=rx;obtain rfl:v=Pn b2:=by unfold ReV at ry;exact ry
  exact⟨EqAt.list_bool b2 h1 hu,RcAt.list_bool b2 h1 hu,RcNeAt.list_bool b2 h1 hu⟩
 |.scr l1,.int i2,hn,rx,ry=>
  unfold ReV at rx;obtain⟨a1,us1,rfl,h1,q1⟩:=rx;obtain⟨k2,rfl⟩:∃k,v=Qb i2 k:=by unfold ReV at ry;exact ry
  exact⟨EqAt.list_int i2 k2 h1 hu,RcAt.list_int i2 k2 h1 hu,RcNeAt.list_int i2 k2 h1 hu⟩
 |.scr l1,.str x2,hn,rx,ry=>
  unfold ReV at rx;obtain⟨a1,us1,rfl,h1,q1⟩:=rx;obtain⟨k2,rfl⟩:∃k,v=QB x2 k:=by unfold ReV at ry;exact ry
  exact⟨EqAt.list_str x2 k2 h1 hu,RcAt.list_str x2 k2 h1 hu,RcNeAt.list_str x2 k2 h1 hu⟩
 |.scr l1,.tup l2,hn,rx,ry=>
  unfold ReV at rx;obtain⟨a1,us1,rfl,h1,q1⟩:=rx;unfold ReV at ry;obtain⟨a2,us2,rfl,h2,q2⟩:=ry;exact⟨EqAt.list_tuple h1 h2 hu,RcAt.list_tuple h1 h2 hu,RcNeAt.list_tuple h1 h2 hu⟩
 |.scr _,.lst _,hn,_,_=>exact hn.elim
 |.scr _,.scr _,hn,_,_=>exact hn.elim
theorem Ea:∀(n:Nat)(A:OU)(s:Oc)(x y:T)(u v:N8),(x.dep<=n\/y.dep<=n)->A.units+n<cLine->ReV s x u->ReV s y v->EqAt A s u v (aU x y)/\RcAt A s u v (aU x y)/\RcNeAt A s u v (!aU x y):=by
 intro n;induction n with
 |zero=>
  intro A s x y u v hd hu rx ry;exact wY A s x y u v (by cases x <;> cases y <;> simp_all [ku,T.dep]) (by omega) rx ry
 |succ n ih=>
  intro A s x y u v hd hu rx ry;have hin:A.in1.units+n<cLine:=by show A.units+1+n<cLine;omega
  have items:∀(l m:List T)(us vs:List N8),(deps l<=n\/deps m<=n)->ReVs s l us->ReVs s m vs->∃e:Nat->Bool,(∀j (h1:j<us.toArray.size) (h2:j<vs.toArray.size),EqAt A.in1 s us.toArray[j] vs.toArray[j] (e j)) ∧
    (∀(j:Nat) t u,l[j]?=ZA t->m[j]?=ZA u->e j=aU t u):=λl m us vs hd r1 r2=>by
   refine⟨λj=>aU (l.getD j .non) (m.getD j .non),λj h1 h2=>?_,λj t u e1 e2=>by simp[UC,e1,e2]⟩;have l1:=r1.length;have l2:=r2.length;have h1':j<l.length:=by rw[l1];simpa using h1
   have h2':j<m.length:=by rw[l2];simpa using h2
   have e1:l[j]?=ZA l[j]:=by simp
   have e2:m[j]?=ZA m[j]:=by simp
   obtain⟨u1,z1,w1⟩:=r1.get e1;obtain⟨u2,z2,w2⟩:=r2.get e2;have q1:us.toArray[j]=u1:=by
    have:us[j]?=ZA us.toArray[j]:=by simp
    rw[z1]at this;exact(OM this).symm
   have q2:vs.toArray[j]=u2:=by
    have:vs[j]?=ZA vs.toArray[j]:=by simp
    rw[z2]at this;exact(OM this).symm
   rw[q1,q2];have g1:l.getD j .non=l[j]:=by simp[UC,e1]
   have g2:m.getD j .non=m[j]:=by simp[UC,e2]
   show EqAt A.in1 s u1 u2 (aU (l.getD j .non) (m.getD j .non));rw[g1,g2];refine(ih A.in1 s l[j] m[j] u1 u2 ?_ hin w1 w2).1;rcases hd with hd|hd
   .exact .inl (OG (i9 e1) hd)
   .exact .inr (OG (i9 e2) hd)
  have lists:∀(l m:List T)(a b:ZE)(us vs:List N8),(deps l<=n\/deps m<=n)->ReVs s l us->ReVs s m vs->s.heap.IsList a us.toArray->s.heap.IsList b vs.toArray ->
    EqAt A s (.ref a) (.ref b) (beqTs l m)/\RcAt A s (.ref a) (.ref b) (beqTs l m)/\RcNeAt A s (.ref a) (.ref b) (!beqTs l m):=λl m a b us vs hd r1 r2 h1 h2=>by
   have l1:=r1.length;have l2:=r2.length;have key:RcAt A s (.ref a) (.ref b) (beqTs l m)/\RcNeAt A s (.ref a) (.ref b) (!beqTs l m):=by
    by_cases hl:l.length=m.length
    .obtain⟨e,he,hb⟩:=items l m us vs hd r1 r2;have q:=kN l m e hb;have q2:beqTs l m=(Oj us.toArray.size).all e:=by rw[q,hl,Ws];simp[l2.symm,hl.symm,l1]
     rw[q2];have hsz:us.toArray.size=vs.toArray.size:=by simp;omega
     exact⟨RcAt.lists h1 h2 hsz (by omega) he,RcNeAt.lists h1 h2 hsz (by omega) he⟩
    .rw[sT hl];have hsz:(us.toArray.size != vs.toArray.size)=ZC:=by simp;omega
     exact⟨RcAt.lists_lengths h1 h2 hsz (by omega),RcNeAt.lists_lengths h1 h2 hsz (by omega)⟩
   refine⟨?_,key⟩;by_cases hab:a=b
   .subst hab;have:=dF h1 h2;subst this;rw[ReVs.refl r1 r2];exact EqAt.same _
   .exact EqAt.of_refs hab key.1
  cases x with
  |tup l=>
   cases y with
   |tup m=>
    unfold ReV at rx ry;obtain⟨a,us,rfl,h1,r1⟩:=rx;obtain⟨b,vs,rfl,h2,r2⟩:=ry;have hd':deps l<=n\/deps m<=n:=by simp only[T.dep]at hd;omega
    have l1:=r1.length;have l2:=r2.length;obtain⟨e,he,hb⟩:=items l m us vs hd' r1 r2;have q:=kN l m e hb;have q2:beqTs l m=((Oj (min us.toArray.size vs.toArray.size)).all e&&us.toArray.size == vs.toArray.size):=by rw[q];simp[l1,l2]
    have key:RcAt A s (.ref a) (.ref b) (beqTs l m)/\RcNeAt A s (.ref a) (.ref b) (!beqTs l m):=by rw[q2];exact⟨RcAt.tuples h1 h2 (by omega) he,RcNeAt.tuples h1 h2 (by omega) he⟩
    unfold aU;refine⟨?_,key⟩;by_cases hab:a=b
    .subst hab;have:=jW h1 h2;subst this;rw[ReVs.refl r1 r2];exact EqAt.same _
    .exact EqAt.of_refs hab key.1
   |_=>exact wY A s _ _ u v (by simp[ku]) (by omega) rx ry
  |lst l=>
   cases y with
   |lst m=>
    unfold ReV at rx ry;obtain⟨a,us,rfl,h1,r1⟩:=rx;obtain⟨b,vs,rfl,h2,r2⟩:=ry;unfold aU;exact lists l m a b us vs (by simp only[T.dep]at hd;omega) r1 r2 h1 h2
   |scr m=>
    unfold ReV at rx ry;obtain⟨a,us,rfl,h1,r1⟩:=rx;obtain⟨b,vs,rfl,h2,r2⟩:=ry;unfold aU;exact lists l (m.map T.int) a b us vs (by rw[gL];omega) r1 (fz r2) h1 h2
   |_=>exact wY A s _ _ u v (by simp[ku]) (by omega) rx ry
  |scr l=>
   cases y with
   |lst m=>
    unfold ReV at rx ry;obtain⟨a,us,rfl,h1,r1⟩:=rx;obtain⟨b,vs,rfl,h2,r2⟩:=ry;unfold aU;rw[qQ];exact lists (l.map T.int) m a b us vs (by rw[gL];omega) (fz r1) r2 h1 h2
   |scr m=>
    unfold ReV at rx ry;obtain⟨a,us,rfl,h1,r1⟩:=rx;obtain⟨b,vs,rfl,h2,r2⟩:=ry;unfold aU;rw[tR];exact lists (l.map T.int) (m.map T.int) a b us vs (by rw[gL];omega) (fz r1) (fz r2) h1 h2
   |_=>exact wY A s _ _ u v (by simp[ku]) (by omega) rx ry
  |_=>exact wY A s _ _ u v (by simp[ku]) (by omega) rx ry
mutual
def T.nf:T->T
 |.tup l=>.tup (nfs l)
 |.lst l=>.lst (nfs l)
 |.scr l=>.lst (l.map .int)
 |.non=>.non
 |.bl b=>.bl b
 |.int b=>.int b
 |.str b=>.str b
 |.dct a b=>.dct a b
def nfs:List T->List T
 |[] =>[]
 |t::l=>t.nf::nfs l
end
theorem wq:∀(l:List Int),nfs (l.map T.int)=l.map T.int
 |[] =>rfl
 |i::l=>by rw[Oa,nfs,wq l];simp[T.nf]
mutual
theorem mB:∀(t x:T),aU t.nf x=aU t x
 |.non,x=>by simp[T.nf]
 |.bl _,x=>by simp[T.nf]
 |.int _,x=>by simp[T.nf]
 |.str _,x=>by simp[T.nf]
 |.tup l,x=>by cases x <;> simp[T.nf,aU,beqTs_nf l]
 |.lst l,x=>by cases x <;> simp[T.nf,aU,beqTs_nf l]
 |.scr l,x=>by cases x <;> simp[T.nf,aU,qQ,tR]
 |.dct _ _,x=>by simp[T.nf]
theorem beqTs_nf:∀(l m:List T),beqTs (nfs l) m=beqTs l m
 |[],m=>by simp[nfs]
 |t::l,m=>by cases m <;> simp[nfs,beqTs,mB t,beqTs_nf l]
end
def J5{t:T}(r:ReV s t (.int i k)):t.nf=.int i:=by
 cases t with
 |non=>unfold ReV at r;cases r
 |bl b=>unfold ReV at r;cases r
 |int j=>unfold ReV at r;obtain⟨t,e⟩:=r;injection e with e1 _;subst e1;rfl
 |str x=>unfold ReV at r;obtain⟨t,e⟩:=r;cases e
 |tup l=>unfold ReV at r;obtain⟨a,its,e,_⟩:=r;cases e
 |lst l=>unfold ReV at r;obtain⟨a,its,e,_⟩:=r;cases e
 |scr l=>unfold ReV at r;obtain⟨a,its,e,_⟩:=r;cases e
 |dct _ _=>unfold ReV at r;exact r.elim
theorem zZ:∀{l:List T}{us:List N8}{ns:List Int},ReVs s l us->Qn us ns->nfs l=ns.map T.int
 |[],us,ns,r,h=>by cases ReVs.Da.mp r;cases h;rfl
 |t::l,us,ns,r,h=>by
  obtain⟨u,ws,rfl,p,q⟩:=ReVs.me.mp r;cases h with
  |cons a b hh=>rw[nfs,J5 p,zZ q hh];rfl
mutual
theorem ReV.nf{s:Oc}:∀{t u:T}{v:N8},ReV s t v->ReV s u v->t.nf=u.nf
 |.non,u,v,r,q=>by unfold ReV at r;subst r;cases u <;> (unfold ReV at q) <;> first|rfl| (cases q;done)| (obtain⟨_,e⟩:=q;cases e;done)| (obtain⟨_,_,e,_⟩:=q;cases e;done)
 |.bl b,u,v,r,q=>by unfold ReV at r;subst r;cases u <;> (unfold ReV at q) <;> first| (cases q;done)| (cases q;rfl)| (obtain⟨_,e⟩:=q;cases e;done)| (obtain⟨_,_,e,_⟩:=q;cases e;done)
 |.int b,u,v,r,q=>by unfold ReV at r;obtain⟨k,rfl⟩:=r;cases u <;> (unfold ReV at q) <;> first| (cases q;done)| (obtain⟨_,e⟩:=q;cases e;done)| (obtain⟨_,e⟩:=q;cases e;rfl)| (obtain⟨_,_,e,_⟩:=q;cases e;done)
 |.str b,u,v,r,q=>by unfold ReV at r;obtain⟨k,rfl⟩:=r;cases u <;> (unfold ReV at q) <;> first| (cases q;done)| (obtain⟨_,e⟩:=q;cases e;done)| (obtain⟨_,e⟩:=q;cases e;rfl)| (obtain⟨_,_,e,_⟩:=q;cases e;done)
 |.tup l,u,v,r,q=>by
  unfold ReV at r;obtain⟨a,its,rfl,h1,h2⟩:=r;cases u with
  |non=>unfold ReV at q;cases q
  |dct _ _=>unfold ReV at q;exact q.elim
  |bl _=>unfold ReV at q;cases q
  |int _=>unfold ReV at q;obtain⟨_,e⟩:=q;cases e
  |str _=>unfold ReV at q;obtain⟨_,e⟩:=q;cases e
  |tup m=>
   unfold ReV at q;obtain⟨a',its',e,h1',h2'⟩:=q;injection e with e;subst e;have:=jW h1 h1';subst this;unfold T.nf;rw[ReVs.nf h2 h2']
  |lst m=>unfold ReV at q;obtain⟨a',its',e,h1',h2'⟩:=q;injection e with e;subst e;exact absurd rfl (ne_of_list_tuple h1' h1)
  |scr m=>unfold ReV at q;obtain⟨a',its',e,h1',h2'⟩:=q;injection e with e;subst e;exact absurd rfl (ne_of_list_tuple h1' h1)
 |.lst l,u,v,r,q=>by
  unfold ReV at r;obtain⟨a,its,rfl,h1,h2⟩:=r;cases u with
  |non=>unfold ReV at q;cases q
  |dct _ _=>unfold ReV at q;exact q.elim
  |bl _=>unfold ReV at q;cases q
  |int _=>unfold ReV at q;obtain⟨_,e⟩:=q;cases e
  |str _=>unfold ReV at q;obtain⟨_,e⟩:=q;cases e
  |lst m=>
   unfold ReV at q;obtain⟨a',its',e,h1',h2'⟩:=q;injection e with e;subst e;have:=dF h1 h1';subst this;unfold T.nf;rw[ReVs.nf h2 h2']
  |tup m=>unfold ReV at q;obtain⟨a',its',e,h1',h2'⟩:=q;injection e with e;subst e;exact absurd rfl (ne_of_list_tuple h1 h1')
  |scr m=>
   unfold ReV at q;obtain⟨a',its',e,h1',h2'⟩:=q;injection e with e;subst e;have:=dF h1 h1';subst this;unfold T.nf;rw[ReVs.nf h2 (fz h2'),wq]
 |.scr l,u,v,r,q=>by
  unfold ReV at r;obtain⟨a,its,rfl,h1,h2⟩:=r;cases u with
  |non=>unfold ReV at q;cases q
  |dct _ _=>unfold ReV at q;exact q.elim
  |bl _=>unfold ReV at q;cases q
  |int _=>unfold ReV at q;obtain⟨_,e⟩:=q;cases e
  |str _=>unfold ReV at q;obtain⟨_,e⟩:=q;cases e
  |lst m=>
   unfold ReV at q;obtain⟨a',its',e,h1',h2'⟩:=q;injection e with e;subst e;have:=dF h1 h1';subst this;have z:=zZ h2' h2;unfold T.nf;rw[z]
  |tup m=>unfold ReV at q;obtain⟨a',its',e,h1',h2'⟩:=q;injection e with e;subst e;exact absurd rfl (ne_of_list_tuple h1 h1')
  |scr m=>
   unfold ReV at q;obtain⟨a',its',e,h1',h2'⟩:=q;injection e with e;subst e;have:=dF h1 h1';subst this;rw[jX h2 h2']
 |.dct _ _,u,v,r,q=>by unfold ReV at r;exact r.elim
theorem ReVs.nf{s:Oc}:∀{l m:List T}{us:List N8},ReVs s l us->ReVs s m us->nfs l=nfs m
 |[],m,us,r,q=>by
  cases ReVs.Da.mp r;cases m with
  |nil=>rfl
  |cons _ _=>obtain⟨_,_,e,_⟩:=ReVs.me.mp q;cases e
 |t::l,m,us,r,q=>by
  obtain⟨v,ws,rfl,p,z⟩:=ReVs.me.mp r;cases m with
  |nil=>cases ReVs.Da.mp q
  |cons u m=>
   obtain⟨v',ws',e,p',z'⟩:=ReVs.me.mp q;injection e with e1 e2;subst e1 e2;rw[nfs,nfs,ReV.nf p p',ReVs.nf z z']
end
variable{x y:T}
section
variable {a b c:ZG}{fa fb fc:Y2}
noncomputable def hW(x y:T):Bool:=(decide (x.dep<=60)||decide (y.dep<=60))&&(x.nd&&y.nd)
def oj(x y:T):Rs T:=if hW x y=ZC then .ok (.bl (aU x y))else .bad
def oB(x y:T):Rs T:=if hW x y=ZC then .ok (.bl (!aU x y))else .bad
def hV(h:x.dep<=60)(hx:x.nd=ZC)(hy:y.nd=ZC):hW x y=ZC:=by unfold hW;rw[decide_eq_true h,hx,hy];rfl
def wV(h:y.dep<=60)(hx:x.nd=ZC)(hy:y.nd=ZC):hW x y=ZC:=by unfold hW;rw[decide_eq_true h,hx,hy,Wt];rfl
def kL(h:hW x y=ZC):x.nd=ZC/\y.nd=ZC:=by unfold hW at h;exact QJ.mp (QJ.mp h).2
def sA(h:hW x y=ZC):x.dep<=60\/y.dep<=60:=by
 unfold hW at h;replace h:=(QJ.mp h).1;rcases Bool.or_eq_true_iff.mp h with h|h
 .exact .inl (of_decide_eq_true h)
 .exact .inr (of_decide_eq_true h)
def k8(hu:X.A.units+60<cLine):OpT X (Pm .Eq) oj:=by
 intro kw s σ H O x y vx vy ux uy Q I hf rx ry r1 r2 hp;unfold oj at hp;split at hp
 .rename_i h;have z:=Ea 60 X.A s x y ux uy (sA h) hu (Rep.val I (kL h).1 rx r1) (Rep.val I (kL h).2 ry r2);exact z.2.1 _ _ _ _ ⟨.bl _,H,I,rfl,hp H (Same.refl H) _ (Rep.bl_ _)⟩
 .exact hp.elim
def k7(hu:X.A.units+60<cLine):OpT X (Pm .NotEq) oB:=by
 intro kw s σ H O x y vx vy ux uy Q I hf rx ry r1 r2 hp;unfold oB at hp;split at hp
 .rename_i h;have z:=Ea 60 X.A s x y ux uy (sA h) hu (Rep.val I (kL h).1 rx r1) (Rep.val I (kL h).2 ry r2);exact z.2.2 _ _ _ _ ⟨.bl _,H,I,rfl,hp H (Same.refl H) _ (Rep.bl_ _)⟩
 .exact hp.elim
noncomputable def T.items:T->Option (List T)
 |.tup l=>ZA l
 |.lst l=>ZA l
 |.scr l=>ZA (l.map T.int)
 |_=>ZB
def fY(x:T)(l:List T):Bool:=l.any λy=>aU y x
noncomputable def sr(x y:T):Rs T:=match y.items with
 |some l=>if (x.dep<=60\/deps l<=60)/\x.nd=ZC/\y.nd=ZC then .ok (.bl (fY x l))else .bad
 |none=>.bad
theorem Gf(rx:ReV s x ux)(hu:A.units+60<cLine)(hd:x.dep<=60\/deps l<=60)(r:ReVs s l us):
  ∃e:N8->Bool,(∀y∈us,EqAt A s y ux (e y))/\us.any e=fY x l:=by
 classical
 have ex:∀y∈us,∃t∈l,ReV s t y:=λy hy=>by
  obtain⟨i,hi,rfl⟩:=Rn hy;have hl:=r.length;have e1:l[i]?=ZA l[i]:=by simp
  obtain⟨u,q1,q2⟩:=r.get e1;have:us[i]?=ZA us[i]:=by simp
  rw[this]at q1;cases q1;exact⟨l[i],PN _,q2⟩
 let e:N8->Bool:=λy=>decide (∃t∈l,ReV s t y/\aU t x=ZC)
 have dep:∀t∈l,t.dep<=60\/x.dep<=60:=λt ht=>by
  rcases hd with h|h
  .exact .inr h
  .obtain⟨i,hi,rfl⟩:=Rn ht;exact .inl (OG (i9 (i:=i) (by simp)) h)
 have uniq:∀y t t',ReV s t y->ReV s t' y->aU t x=aU t' x:=λy t t' z z'=>by rw[<-mB t,<-mB t',ReV.nf z z']
 have agree:∀y t,t∈l->ReV s t y->e y=aU t x:=λy t h z=>by
  show decide (∃t∈l,ReV s t y/\aU t x=ZC)=aU t x;cases q:aU t x with
  |true=>exact decide_eq_true ⟨t,h,z,q⟩
  |false=>
   refine decide_eq_false ?_;rintro ⟨t',h',z',q'⟩;rw[<-uniq y t t' z z',q]at q';cases q'
 refine⟨e,λy hy=>?_,?_⟩
 .obtain⟨t,h,z⟩:=ex y hy;rw[agree y t h z];exact(Ea 60 A s t x y ux (dep t h) hu z rx).1
 .have go:∀(l':List T)(us':List N8),(∀t∈l',t∈l)->ReVs s l' us'->us'.any e=l'.any λy=>aU y x:=by
   intro l';induction l' with
   |nil=>intro us' _ r';rw[ReVs.Da.mp r'];rfl
   |cons t l' ih=>
    intro us' sub r';obtain⟨u,ws,rfl,p,q⟩:=ReVs.me.mp r';rw[Q4,Q4,ih ws (λt ht=>sub t (N6 _ ht)) q,agree u t (sub t Ob) p]
  exact go l us (λ_ h=>h) r
def A5{u:N8}(r:ReV s y u)(h:y.items=ZA l):∃a us,u=.ref a/\ReVs s l us/\(s.heap.IsTuple a us.toArray\/s.heap.IsList a us.toArray):=by
 cases y with
 |tup m=>cases h;unfold ReV at r;obtain⟨a,us,e,h1,h2⟩:=r;exact⟨a,us,e,h2,.inl h1⟩
 |lst m=>cases h;unfold ReV at r;obtain⟨a,us,e,h1,h2⟩:=r;exact⟨a,us,e,h2,.inr h1⟩
 |scr m=>cases h;unfold ReV at r;obtain⟨a,us,e,h1,h2⟩:=r;exact⟨a,us,e,fz h2,.inr h1⟩
 |_=>cases h
def vZ(hu:X.A.units+61<cLine):OpT X (Pm .In) sr:=by
 intro kw s σ H O x y vx vy ux uy Q I hf rx ry r1 r2 hp;unfold sr at hp;split at hp
 .rename_i l hl;split at hp
  .rename_i hd3;obtain⟨hd,hnx,hny⟩:=hd3;obtain⟨a,us,rfl,rs,hh⟩:=A5 (Rep.val I hny ry r2) hl;obtain⟨e,he,ha⟩:=Gf (A:=X.A.in1) (Rep.val I hnx rx r1) (by show X.A.units+1+60<cLine;omega) hd rs;have q:=hp H (Same.refl H) _ (Rep.bl_ (fY x l));have he':∀y,y∈us.toArray->EqAt X.A.in1 s y ux (e y):=λy hy=>he y (by simpa using hy);have ha':us.toArray.any e=fY x l:=by simpa using ha
   rcases hh with hh|hh
   .exact in_tupleAt e hh he' (by rw[ha'];exact⟨.bl _,H,I,rfl,q⟩)
   .exact in_listAt e hh he' (by rw[ha'];exact⟨.bl _,H,I,rfl,q⟩)
  .exact hp.elim
 .exact hp.elim
noncomputable def ch(g g':T->T->Rs T)(fa fb fc:Y2)(Z:En):Rs T:=do
 let x <-fa Z
 let y <-fb Z
 let z <-g x y
 match z with
 |.bl ZC=>do
  let w <-fc Z
  g' y w
 |.bl ZD=>.ok (.bl ZD)
 |_=>.bad
def FQ{op':Xv}{g g':T->T->Rs T}(ho:OpT X (Pm op) g)(ho':OpT X (Pm op') g')(ha:df X a fa)(hb:df X b fb)(hc:df X c fc)
  (hm:autoParam (lastMarks [op,op'] [b,c]=ZD) v_):df X (.Compare a [op,op'] [b,c] pos) (ch g g' fa fb fc):=by
 intro kw s σ H Q I ⟨Z,O,E,hq⟩;have h1:=br E hq;refine Compare_chain (cM (ha kw s σ H _ I h1) λv s1 ⟨x,H1,I1,r1,t,rt,s',E',q1⟩=>chain_link ?_) hm;have h2:=br (f:=fb) E' q1;refine cM (hb kw s1 σ H1 _ I1 h2) λu s2 hh_=>?_;obtain⟨y,H2,I2,r2,t2,rt2,s'',E'',q2⟩:=hh_;refine cM (ho kw s2 σ H2 O t t2 x y v u (λv' H'=>∃t',Rep X.K O H' t' v'/\Same H2 H'/\Post X H' (match t' with
  |.bl ZC=>fc Z >>= λw=>g' t2 w
  |.bl ZD=>.ok (.bl ZD)
  |_=>.bad) (λt H'=>∀v,Rep X.K O H' t v->Q v H')) I2 (λp=>E''.fresh) (rt.same s'') rt2 r1 r2 (Post.mono q2.bind λt' H' s3 q v rv=>⟨t',rv,s3,q⟩)) λd s3 ⟨z,H3,I3,r3,t3,rt3,sm3,q3⟩=>?_
 have E3:=E''.same sm3;split at q3
 .cases Rep.FM.mp rt3;cases r3;refine Pe (ite_tt (chain_last ?_));have h4:=br (f:=fc) E3 q3;refine cM (hc kw s3 σ H3 _ I3 h4) λw' s4 ⟨z',H4,I4,r4,t4,rt4,s4',E4,q4⟩=>?_;exact ho' kw s4 σ H4 O t2 t4 y z' u w' Q I4 (λp=>E4.fresh) ((rt2.same sm3).same s4') rt4 r2 r4 q4
 .cases Rep.FM.mp rt3;cases r3;refine Pe (ite_ff ⟨.bl ZD,H3,I3,rfl,q3 H3 (Same.refl H3) _ (Rep.bl_ ZD)⟩)
 .exact q3.elim
def tb(f:Y2)(Z:En):Rs Bool:=do
 let x <-f Z
 match x with
 |.bl k=>.ok k
 |_=>.bad
def bt(f:Y3)(Z:En):Rs T:=do
 let k <-f Z
 .ok (.bl k)
def IE{f:Y2}(h:df X e f)(he:autoParam (∀whole,isTrue e X.env whole=(do let v <-whole;standAt e.pos;holding [v] (truthy v))) t_):xw X e (tb f):=by
 intro kw s σ H Q I ⟨Z,O,E,hq⟩;refine Cz h he kw s σ H Q I ?_;obtain⟨Z1,O1,E1,h1⟩:=br E hq;refine⟨Z1,O1,E1,Post.mono h1 λts H1 s1 q vs r=>?_⟩;obtain⟨t',r',s',E',q'⟩:=q vs r;split at q'
 .exact⟨_,Rep.FM.mp r',q' H1 (Same.refl H1)⟩
 .exact q'.elim
def IG{g:T->T->Rs T}(ho:OpT X (Pm op) g)(ha:df X a fa)(hb:df X b fb)(hm:RO op b=ZD:=by rfl):xw X (.Compare a [op] [b] pos) (tb (o2 g fa fb)):=by
 intro kw s σ H Q I ⟨Z,O,E,hq⟩;have hq':Post X H (o2 g fa fb Z) λt H'=>∀v,Rep X.K O H' t v->∃k,v=.bl k/\Q k H':=Post.mono hq.bind λt H' s' q v r=>by
  split at q
  .exact⟨_,Rep.FM.mp r,q H' (Same.refl H')⟩
  .exact q.elim
 have h1:=br E hq';refine UN (cM (ha kw s σ H _ I h1) λv s1 ⟨x,H1,I1,r1,t,rt,s',E',q1⟩=>?_) hm;have h2:=br (f:=fb) E' q1;refine cM (hb kw s1 σ H1 _ I1 h2) λu s2 hh_=>?_;obtain⟨y,H2,I2,r2,t2,rt2,s'',E'',q2⟩:=hh_;refine cM (ho kw s2 σ H2 O t t2 x y v u _ I2 (λp=>E''.fresh) (rt.same s'') rt2 r1 r2 q2) λd s3 hh_=>?_;obtain⟨z,H3,I3,r3,k,e,q3⟩:=hh_;subst e;cases r3;exact Pe ⟨H3,I3,q3⟩
def qT(f g:Y3)(Z:En):Rs Bool:=do
 let k <-f Z
 if k then g Z else .ok ZD
def nZ(f g:Y3)(Z:En):Rs Bool:=do
 let k <-f Z
 if k then .ok ZC else g Z
noncomputable def dQ(f:Y3)(Z:En):Rs Bool:=do
 let k <-f Z
 .ok (!k)
variable {f g:Y3}{dy:List ZG}
abbrev HU(X:Cx)(e:ZG)(f:Y3):Prop:=PW X e (BX X f)
def FA(ha:xw X a f):HU X (.BoolOp .And [a] pos) f:=FR ha
def IC(ha:xw X a f):HU X (.BoolOp .Or [a] pos) f:=Cw ha
def ID(ha:xw X a f)(hb:HU X (.BoolOp .And (b::dy) pos) g):HU X (.BoolOp .And (a::b::dy) pos) (qT f g):=by
 intro wh kw s σ H Q I ⟨Z,O,E,hq⟩;refine Jc ha hb wh kw s σ H Q I ?_;obtain⟨Z1,O1,E1,h1⟩:=lL E hq;refine⟨Z1,O1,E1,Post.mono h1 λk H1 s1 q=>?_⟩;obtain⟨s',E',q'⟩:=q;cases k with
 |true=>rw[if_pos rfl];exact⟨Z,O,E',by simpa using q'⟩
 |false=>rw[if_neg OA];exact q' H1 (Same.refl H1)
def Lc(ha:xw X a f)(hb:HU X (.BoolOp .Or (b::dy) pos) g):HU X (.BoolOp .Or (a::b::dy) pos) (nZ f g):=by
 intro wh kw s σ H Q I ⟨Z,O,E,hq⟩;refine Hr ha hb wh kw s σ H Q I ?_;obtain⟨Z1,O1,E1,h1⟩:=lL E hq;refine⟨Z1,O1,E1,Post.mono h1 λk H1 s1 q=>?_⟩;obtain⟨s',E',q'⟩:=q;cases k with
 |true=>rw[if_pos rfl];exact q' H1 (Same.refl H1)
 |false=>rw[if_neg OA];exact⟨Z,O,E',by simpa using q'⟩
def qt_w(h:HU X e f):xw X e f:=h.pt
def IF(ha:xw X a f):xw X (.UnaryOp .Not a pos) (dQ f):=by intro kw s σ H Q I ⟨Z,O,E,hq⟩;refine CA ha kw s σ H Q I ?_;obtain⟨Z1,O1,E1,h1⟩:=lL E hq;exact⟨Z1,O1,E1,Post.mono h1 λk H1 s1 ⟨s',E',q'⟩=>q' H1 (Same.refl H1)⟩
def cR(f g:Y2)(Z:En):Rs T:=do
 let x <-f Z
 match x with
 |.bl ZC=>g Z
 |.bl ZD=>.ok (.bl ZD)
 |_=>.bad
noncomputable def EL(f g:Y2)(Z:En):Rs T:=do
 let x <-f Z
 match x with
 |.bl ZC=>.ok (.bl ZC)
 |.bl ZD=>g Z
 |_=>.bad
def uu:T->Rs T
 |.bl k=>.ok (.bl (!k))
 |_=>.bad
def Ll{op}(h:df X a fa):df X (.BoolOp op [a] pos) fa:=Jk h
def Lw(ha:df X a fa)(hb:df X (.BoolOp .And (b::dy) pos) fb):df X (.BoolOp .And (a::b::dy) pos) (cR fa fb):=by
 intro kw s σ H Q I ⟨Z,O,E,hq⟩;refine Jn ha hb kw s σ H Q I ?_;obtain⟨Z1,O1,E1,h1⟩:=br E hq;refine⟨Z1,O1,E1,Post.mono h1 λts H1 s1 q vs r=>?_⟩;obtain⟨t',r',s',E',q'⟩:=q vs r;split at q'
 .exact⟨ZC,Rep.FM.mp r',by rw[if_pos rfl];exact⟨Z,O,E',q'⟩⟩
 .exact⟨ZD,Rep.FM.mp r',by rw[if_neg OA];exact q' H1 (Same.refl H1) _ (Rep.bl_ ZD)⟩
 .exact q'.elim
def q_or(ha:df X a fa)(hb:df X (.BoolOp .Or (b::dy) pos) fb):df X (.BoolOp .Or (a::b::dy) pos) (EL fa fb):=by
 intro kw s σ H Q I ⟨Z,O,E,hq⟩;refine LA ha hb kw s σ H Q I ?_;obtain⟨Z1,O1,E1,h1⟩:=br E hq;refine⟨Z1,O1,E1,Post.mono h1 λts H1 s1 q vs r=>?_⟩;obtain⟨t',r',s',E',q'⟩:=q vs r;split at q'
 .exact⟨ZC,Rep.FM.mp r',by rw[if_pos rfl];exact q' H1 (Same.refl H1) _ (Rep.bl_ ZC)⟩
 .exact⟨ZD,Rep.FM.mp r',by rw[if_neg OA];exact⟨Z,O,E',q'⟩⟩
 .exact q'.elim
def Ln(ha:df X a fa):df X (.UnaryOp .Not a pos) (o1 uu fa):=by
 intro kw s σ H Q I ⟨Z,O,E,hq⟩;refine Jl ha kw s σ H Q I ?_;obtain⟨Z1,O1,E1,h1⟩:=br E hq;refine⟨Z1,O1,E1,Post.mono h1 λts H1 s1 q vs r=>?_⟩;obtain⟨t',r',s',E',q'⟩:=q vs r;unfold uu at q';split at q'
 .exact⟨_,Rep.FM.mp r',q' H1 (Same.refl H1) _ (Rep.bl_ _)⟩
 .exact q'.elim
noncomputable def DO(f:Y3)(fa fb:Y2)(Z:En):Rs T:=do
 let k <-f Z
 if k then fa Z else fb Z
def q_if(hc:xw X c f)(ha:df X a fa)(hb:df X b fb):df X (.IfExp c a b pos) (DO f fa fb):=by
 intro kw s σ H Q I ⟨Z,O,E,hq⟩;refine CM hc ha hb kw s σ H Q I ?_;obtain⟨Z1,O1,E1,h1⟩:=lL E hq;refine⟨Z1,O1,E1,Post.mono h1 λk H1 s1 q=>?_⟩;obtain⟨s',E',q'⟩:=q;cases k with
 |true=>rw[if_pos rfl];exact⟨Z,O,E',by simpa using q'⟩
 |false=>rw[if_neg OA];exact⟨Z,O,E',by simpa using q'⟩
end
end Tr
namespace HT
open PySem PyProof.Rows
def kZ{t:ZE}{items:Array N8}{Q:Bool->Oc->Prop}(ht:Xu s.heap t items)(h:Q ZC s):ZJ (ZK prog w) A (Tg (.ref t)) Q E s:=by unfold Tg;refine N5 (Sa ht.typeIs (Oi ?_));exact h
def getItem_tuple_whole{t sl:ZE}{items:Array N8}(ht:Xu s.heap t items)(hs:s.heap.IsSliceOf sl vl vu .none)(pl:VS vl lo)(pu:VS vu hi)
  (hw:sIx items.size 0 lo=0/\sIx items.size items.size hi=items.size) (h:Q (.ref t) s):ZJ (ZK prog w) A (getItem (.ref t) (.ref sl)) Q E s:=by
 obtain⟨os,hos,hcs,hds⟩:=id hs;have hTs:s.TypeIs (.ref sl) "slice":=⟨os,hos,hcs⟩;unfold getItem;try with_reducible refine P5 ?_
 first|refine N5 (Oi ?_)|skip
 refine N5 (TZ ht.typeIs (by decide) ?_);refine N5 (Qi (name:=Om "__getitem__") ht.typeIs ON
  (Q3 ON ht.typeIs Tf ?_ (TB _ _)))
 show ZJ _ _ (RP (.ref t) >>= _) _ _ s;refine N5 (Ud ht ?_);refine N5 (Sa hTs ?_);rw[if_pos (by decide)];refine N5 (iX hs pl pu ?_);have hyes:(((sIx items.size 0 lo:Nat):Int) == 0&&(1:Int) == 1&&(sIx items.size items.size hi - sIx items.size 0 lo) == items.size)=ZC:=by rw[hw.1,hw.2];simp
 show ZJ _ _ (if (((sIx items.size 0 lo:Nat):Int) == 0&&(1:Int) == 1&&(sIx items.size items.size hi - sIx items.size 0 lo) == items.size)=ZC then _ else _) _ _ s;rw[if_pos hyes];first
  |refine N5 (kZ ht ?_)
  |refine kZ ht ?_
 try rw[if_pos rfl]
 first
  |exact N5 (SA (Oi ⟨_,rfl,Oi h⟩))
  |exact N5 (SA (N5 (Oi (Oi ⟨_,rfl,Oi h⟩))))
theorem mP{sl:ZE}{t:Tok}{Q:Int×Int×Nat->Oc->Prop}(hs:s.heap.IsSliceOf sl .none .none (.int (-1) t))
  (h:Q ((n:Int) - 1,-1,n) s):ZJ (ZK prog w) A (Q0 (.ref sl) (pure (n:Int))) Q E s:=by
 obtain⟨os,hos,hcs,hds⟩:=id hs;unfold Q0 TC;refine N5 (N5 (Qt hos hds (x:=.none) rfl (N5 (Qt hos hds (x:=.none) rfl (N5 (Qt hos hds (x:=.int (-1) t) rfl (Oi ?_)))))));refine N5 (slicePart_int ?_);show ZJ _ _ (if ((-1:Int) == 0)=ZC then _ else _) _ _ s;rw[if_neg (by decide)];refine N5 (TH (N5 (TH (N5 (Oi ?_)))));show ZJ _ _ (match PZ ZB ZB (-1) (n:Int)with| (lo,hi)=>pure (lo,(-1:Int),Pu lo hi (-1))) _ _ s;have e1:PZ ZB ZB (-1) (n:Int)=((n:Int) - 1,-1):=by simp[PZ]
 have e2:Pu ((n:Int) - 1) (-1) (-1)=n:=by unfold Pu;simp only[show ¬((-1:Int) > 0)by decide,if_false,W5,UA];split <;> omega
 rw[e1];show ZJ _ _ (pure ((n:Int) - 1,(-1:Int),Pu ((n:Int) - 1) (-1) (-1))) _ _ s;rw[e2];exact Oi h
theorem vV(xs:List N8):((Oj xs.length).filterMap λ(m:Nat)=>xs.toArray[(((xs.length:Int) - 1)+(m:Int)*(-1)).toNat]?)=xs.reverse:=by
 apply V4;intro i;have key:∀m∈Oj xs.length,xs.toArray[(((xs.length:Int) - 1)+(m:Int)*(-1)).toNat]?=ZA (xs.reverse.getD m .none):=λm hm=>by
  have hm':m<xs.length:=OZ.mp hm;have e:(((xs.length:Int) - 1)+(m:Int)*(-1)).toNat=xs.length - 1 - m:=by omega
  rw[e,List.getElem?_toArray,Od (by omega)];have:m<xs.reverse.length:=by simpa using hm'
  simp[UC,Od this,U3]
 have hmap:((Oj xs.length).filterMap λ(m:Nat)=>xs.toArray[(((xs.length:Int) - 1)+(m:Int)*(-1)).toNat]?)=(Oj xs.length).map λm=>xs.reverse.getD m .none:=by
  have gen:∀(r:List Nat)(f:Nat->Option N8)(g:Nat->N8),(∀m∈r,f m=ZA (g m))->r.filterMap f=r.map g:=by
   intro r f g;induction r with
   |nil=>intro _;rfl
   |cons m r ih=>
    intro h;rw[P6,h m Ob,Oa,ih λm' hm'=>h m' (N6 _ hm')]
  exact gen _ _ _ key
 rw[hmap];rw[Ot];by_cases hi:i<xs.length
 .have hr:i<xs.reverse.length:=by simpa using hi
  rw[Qq hi];simp[UC,Od hr]
 .rw[PM (by simpa using hi),PM (by simpa using hi)];rfl
theorem slicePick_rev(xs:List N8):Xi xs.toArray ZB ZB (ZA (-1))=xs.reverse.toArray:=by
 have e:Xi xs.toArray ZB ZB (ZA (-1))=((sliceRange ((xs.toArray.size:Int) - 1) (-1) (-1)).filterMap (xs.toArray[·]?)).toArray:=rfl;rw[e,<-vV xs,Ou];unfold sliceRange;have c:(if ((xs.length:Int) - 1) > -1 then(((xs.length:Int) - 1) - (-1) - (-1) - 1) / (-(-1:Int))else 0).toNat=xs.length:=by rw[W5,UA];split <;> omega
 show(((Oj (if ((xs.length:Int) - 1) > -1 then(((xs.length:Int) - 1) - (-1) - (-1) - 1) / (-(-1:Int))else 0).toNat).map λ(k:Nat)=>(((xs.length:Int) - 1)+(-1)*(k:Int)).toNat).filterMap (xs.toArray[·]?)).toArray=_;rw[c,Tv];congr 2;funext k;show xs.toArray[(((xs.length:Int) - 1)+(-1)*(k:Int)).toNat]?=_;rw[UD]
def getItem_tuple_rev{u sl:ZE}{items:List N8}{t:Tok}(ht:Xu s.heap u items.toArray)(hs:s.heap.IsSliceOf sl .none .none (.int (-1) t))
  (h:Q (.ref s.heap.objs.size) {s with heap:=s.heap.push {cls:=.type "tuple",data:=.seq items.reverse.toArray}})
  (hsz:items.length<=ZI):ZJ (ZK prog w) A (getItem (.ref u) (.ref sl)) Q E s:=by
 have htake:sizeOk (.seq items.reverse.toArray):=by show items.reverse.toArray.size<=ZI;simpa using hsz
 obtain⟨os,hos,hcs,hds⟩:=id hs;have hTs:s.TypeIs (.ref sl) "slice":=⟨os,hos,hcs⟩;unfold getItem;try with_reducible refine P5 ?_
 first|refine N5 (Oi ?_)|skip
 refine N5 (TZ ht.typeIs (by decide) ?_);refine N5 (Qi (name:=Om "__getitem__") ht.typeIs ON
  (Q3 ON ht.typeIs Tf ?_ (TB _ _)))
 show ZJ _ _ (RP (.ref u) >>= _) _ _ s;refine N5 (Ud ht ?_);refine N5 (Sa hTs ?_);rw[if_pos (by decide)];refine N5 (mP (n:=items.toArray.size) hs ?_);show ZJ _ _ (if ((((items.toArray.size:Nat):Int) - 1) == 0&&(-1:Int) == 1&&items.toArray.size == items.toArray.size)=ZC then _ else _) _ _ s;rw[if_neg (by simp)];have e:((Oj items.toArray.size).filterMap λ(m:Nat)=>items.toArray[((((items.toArray.size:Nat):Int) - 1)+(m:Int)*(-1)).toNat]?)=items.reverse:=by rw[Ou];exact vV items
 rw[e];first
  |exact N5 (m:=Pk _) (Pq (Oi ⟨_,rfl,Oi h⟩) htake)
  |exact N5 (m:=Pk _) (Pq (N5 (Oi (Oi ⟨_,rfl,Oi h⟩))) htake)
  |exact N5 (N5 (m:=Pk _) (Pq (Oi (Oi ⟨_,rfl,Oi h⟩)) htake))
  |exact N5 (N5 (m:=Pk _) (Pq (Oi ⟨_,rfl,Oi h⟩) htake))
end HT
variable{i:Nat}
namespace Tr
open PySem PySem.Spec PyProof.Rows L2
variable{H:Hp}{O:Ow}{X:Cx}{Z:En}{e:ZG}{es:List ZG}{fa fb fc:Y2}{l:List T}{p pos:Pos}{v:V}{vs:List V}{x:Str}{σ:L2.St}
section
variable {a b c:ZG}
theorem Reps.atI{i:Int}{t:T}(r:Reps K O H l vs)(e:L2.atI l i=ZA t):∃v,L2.atI vs i=ZA v/\Rep K O H t v:=by
 unfold L2.atI at e ⊢;rw[r.length]at e;cases q:ixN vs.length i with
 |none=>rw[q]at e;cases e
 |some j=>
  rw[q]at e;obtain⟨v,e1,e2⟩:=r.get (i:=j) (t:=t) e;exact⟨v,e1,e2⟩
noncomputable def aW(x y:T):Rs T:=match x.items,y with
 |some l,.int i=>match L2.atI l i with
  |some t=>.ok t
  |none=>.bad
 |_,_=>.bad
def q_ix(ha:df X a fa)(hb:df X b fb)(hs:autoParam (kO b) w_):df X (.Subscript a b pos) (o2 aW fa fb):=by
 intro kw s σ H Q I ⟨Z,O,E,hq⟩;have h1:=br E hq;refine UX (cM (ha kw s σ H _ I h1) λv s1 hh_=>?_);obtain⟨x,H1,I1,r1,t,rt,s',E',q1⟩:=hh_;have h2:=br (f:=fb) E' q1;refine cM (hb kw s1 σ H1 _ I1 h2) λu s2 hh_=>?_;obtain⟨y,H2,I2,r2,t2,rt2,s'',E'',q2⟩:=hh_;have rt':=rt.same s'';unfold aW at q2;split at q2
 .rename_i l i hl;split at q2
  .rename_i z hz;have hy:=Rep.AC.mp rt2;refine J2 a b kw s2 σ H2 x y v u Q I2 r1 r2 ?_ (hs _ _);cases t with
   |tup m=>
    cases hl;obtain⟨p,vs,e,n,q,rr⟩:=Rep.Fk.mp rt';obtain⟨w,ew,rw'⟩:=rr.atI hz;exact .inr (.inl ⟨p,vs,i,w,e,hy,SqT.of q,ew,q2 H2 (Same.refl H2) _ rw'⟩)
   |lst m=>
    cases hl;obtain⟨p,vs,e,n,q,rr⟩:=Rep.Do.mp rt';obtain⟨w,ew,rw'⟩:=rr.atI hz;exact .inl ⟨p,vs,i,w,e,hy,SqL.of q,ew,q2 H2 (Same.refl H2) _ rw'⟩
   |scr m=>
    cases hl;unfold Rep at rt';obtain⟨p,e,n,q⟩:=rt';obtain⟨w,ew,rw'⟩:=(Reps.ints (K:=X.K) (O:=O) (H:=H2) (ns:=m)).atI hz;exact .inl ⟨p,_,i,w,e,hy,q,ew,q2 H2 (Same.refl H2) _ rw'⟩
   |_=>cases hl
  .exact q2.elim
 .exact q2.elim
def Reps.cut(r:Reps K O H l vs)(lo hi:Option Int):Reps K O H (om l lo hi) (xf vs lo hi):=by unfold om xf;rw[r.length];exact(r.drop _).take _
def Bq(h:HT.sIx l.length 0 lo=0/\HT.sIx l.length l.length hi=l.length):om l lo hi=l:=by unfold om;rw[h.1,h.2];simp
def sl_tup_whole:SlR X (λx lo hi H Q=>∃a xs,x=.ref a/\SqT X.K H a xs/\(HT.sIx xs.length 0 lo=0/\HT.sIx xs.length xs.length hi=xs.length)/\Q (.ref a) H):=by
 intro kw s σ H x v vl vu lo hi sl Q I rx hs pl pu h;obtain⟨a,xs,rfl,hx,hw,q⟩:=h;cases rx;obtain⟨its,r,ht,hz⟩:=I.tuple hx;have hlen:its.toArray.size=xs.length:=by rw[Ou];exact r.length.symm
 refine⟨"tuple",_,ON.lookup,ht.typeIs,?_⟩;exact HT.getItem_tuple_whole ht hs pl pu (by rw[hlen];exact hw) ⟨.ref a,H,I,rfl,q⟩
def pN(_:En):Rs (Option Int):=.ok ZB
noncomputable def pS(f:Y2)(Z:En):Rs (Option Int):=do
 let x <-f Z
 match x with
 |.int i=>.ok (ZA i)
 |_=>.bad
def tPO(X:Cx)(f:En->Rs (Option Int)):TO:=λσ H Q=>∃Z O,EnvO X.K O H Z σ/\Post X H (f Z) λb H'=>Q b H'
abbrev MD(X:Cx)(e:Option ZG)(f:En->Rs (Option Int)):Prop:=PO X e (tPO X f)
def FI:MD X ZB pN:=by intro kw s σ H Q I ⟨Z,O,E,hq⟩;exact FX kw s σ H Q I (hq H (Same.refl H))
def FH(ha:df X a fa):MD X (ZA a) (pS fa):=by
 intro kw s σ H Q I ⟨Z,O,E,hq⟩;refine FW ha kw s σ H Q I ?_;obtain⟨Z1,O1,E1,h1⟩:=br E hq;refine⟨Z1,O1,E1,Post.mono h1 λts H1 s1 q vs r=>?_⟩;obtain⟨t',r',s',E',q'⟩:=q vs r;split at q'
 .exact⟨_,Rep.AC.mp r',q' H1 (Same.refl H1)⟩
 .exact q'.elim
def vq{f:En->Rs (Option Int)}{k:Option Int->Rs α}{Q:α->Hp->Prop}(E:EnvO X.K O H Z σ)(h:Post X H (f Z >>= k) Q):
  tPO X f σ H λb H'=>Same H H'/\EnvO X.K O H' Z σ/\Post X H' (k b) Q:=
 ⟨Z,O,E,Post.mono h.bind λt H' s q=>⟨s,E.same s,q⟩⟩
def FP{lo hi:Option ZG}{p2:Pos}{fl fu:En->Rs (Option Int)}(ha:df X a fa)(hl:MD X lo fl)(hu:MD X hi fu):df X (.Subscript a (.Slice lo hi ZB p2) pos) (sl fa fl fu):=by
 intro kw s σ H Q I ⟨Z,O,E,hq⟩;refine CK (sl_tup.or (sl_tup_whole.or Fm)) ha hl hu kw s σ H Q I ?_;obtain⟨Z1,O1,E1,h1⟩:=br E hq;refine⟨Z1,O1,E1,Post.mono h1 λts H1 s1 q vs r=>?_⟩;obtain⟨t',r',s',E',q'⟩:=q vs r;obtain⟨Z2,O2,E2,h2⟩:=vq E' q';refine⟨Z2,O2,E2,Post.mono h2 λo1 H2 s2 q=>?_⟩;obtain⟨s2',E2',q2⟩:=q;obtain⟨Z3,O3,E3,h3⟩:=vq E2' q2;refine⟨Z3,O3,E3,Post.mono h3 λo2 H3 s3 q=>?_⟩;obtain⟨s3',E3',q3⟩:=q;have rt:=(r'.same s2').same s3';unfold slT at q3;split at q3
 .rename_i l;obtain⟨p,ws,e,n,q,rr⟩:=Rep.Fk.mp rt;have hlen:=rr.length;by_cases hw:HT.sIx ws.length 0 o1=0/\HT.sIx ws.length ws.length o2=ws.length
  .refine .inr (.inl ⟨p,ws,e,SqT.of q,hw,?_⟩);rw[<-hlen]at hw;refine q3 H3 (Same.refl H3) _ ?_;rw[Bq hw];exact Rep.Fk.mpr ⟨p,ws,rfl,n,q,rr⟩
  .exact .inl ⟨p,ws,e,SqT.of q,hw,λp' hp=>q3 _ (aR hp _) _ (gR hp (E3'.fresh hp) (rr.cut o1 o2))⟩
 .rename_i l;obtain⟨p,ws,e,n,q,rr⟩:=Rep.Do.mp rt;exact .inr (.inr ⟨p,ws,e,SqL.of q,λp' hp=>q3 _ (aR hp _) _ (gS hp (E3'.fresh hp) (rr.cut o1 o2))⟩)
 .exact q3.elim
def Fu:T->Rs T
 |.tup l=>.ok (.tup l.reverse)
 |.lst l=>.ok (.lst l.reverse)
 |_=>.bad
theorem Reps.reverse:∀{l:List T}{vs:List V},Reps K O H l vs->Reps K O H l.reverse vs.reverse
 |[],vs,r=>by rw[Reps.Da.mp r];exact Reps.GM
 |t::l,vs,r=>by obtain⟨v,us,rfl,p,q⟩:=Reps.me.mp r;rw[Sv,Sv];exact q.reverse.append (Reps.Gc p Reps.GM)
def Lk{p1 p2 p3:Pos}(ha:df X a fa):df X (.Subscript a (.Slice ZB ZB (ZA (.UnaryOp .USub (.Constant (.int 1) j p1) p2)) p3) pos) (o1 Fu fa):=by
 intro kw s σ H Q I ⟨Z,O,E,hq⟩;have h1:=br E hq;refine UX (cM (ha kw s σ H _ I h1) λv s1 hh_=>?_);obtain⟨x,H1,I1,r1,t,rt,s',E',q1⟩:=hh_;refine wpAny_Slice ?_;rw[VT];refine Oi (Oi ?_);rw[evalPart_some];refine cM (Ht BR xZ kw s1 σ H1 (λw' H'=>w'=.int (-1)/\H'=H1) I1 ⟨1,rfl,rfl,rfl⟩) λsv s2 hh_=>?_;obtain⟨w',H2,I2,r2,e1,e2⟩:=hh_;subst e1 e2;obtain⟨tk,rfl⟩:=r2;have I4:Inv X kw σ H2 {s2 with heap:=s2.heap.push {cls:=.type "slice",data:=.fields #[.none,.none,.int (-1) tk]}}:=I2.kept (t':=s2.toks) λb ob q=>Of _ q;unfold Fu at q1;split at q1
 .rename_i l;obtain⟨p,ws,e,n,q,rr⟩:=Rep.Fk.mp rt;subst e;cases r1;obtain⟨its,r,ht,hz⟩:=I4.tuple (SqT.of q);have hs:Xp (s2.heap.push {cls:=.type "slice",data:=.fields #[.none,.none,.int (-1) tk]}) s2.heap.objs.size .none .none (.int (-1) tk):=Tt ..;refine tail_any (ops:=[.ref p,.ref s2.heap.objs.size]) ht.typeIs ON.lookup ?_ (by with_unfolding_all rfl);refine HT.getItem_tuple_rev ht hs ?_ (by rw[<-r.length];exact hz);refine⟨.ref _,_,I4.laid (t':=s2.toks) (o:=.tup ws.reverse) (λb ob q=>Of _ q) (Oq _) ?_,rfl,?_⟩
  .exact⟨by rw[Vh];exact hz,_,r.reverse,Vv _ _⟩
  .have hn:=I4.hok.fresh (Oq _);exact q1 _ (aR hn _) _ (gR hn (E'.fresh hn) rr.reverse)
 .rename_i l;obtain⟨p,ws,e,n,q,rr⟩:=Rep.Do.mp rt;subst e;cases r1;obtain⟨its,r,ht,hz⟩:=I4.list (SqL.of q);have hs:Xp (s2.heap.push {cls:=.type "slice",data:=.fields #[.none,.none,.int (-1) tk]}) s2.heap.objs.size .none .none (.int (-1) tk):=Tt ..;refine tail_any (ops:=[.ref p,.ref s2.heap.objs.size]) ht.isList.typeIs slot_list_getitem.lookup ?_ (by with_unfolding_all rfl);refine T1 ht.isList hs .none .none (.int (-1) tk) (by simp) ?_ (by rw[Ou,<-r.length];exact hz);rw[HT.slicePick_rev];refine⟨.ref _,_,I4.laid (t':=s2.toks) (o:=.lst ws.reverse) (λb ob q=>Of _ q) (Oq _) ?_,rfl,?_⟩
  .exact⟨by rw[Vh];exact hz,_,0,r.reverse,Oy _ rfl⟩
  .have hn:=I4.hok.fresh (Oq _);exact q1 _ (aR hn _) _ (gS hn (E'.fresh hn) rr.reverse)
 .exact q1.elim
def CallT(X:Cx)(f:N8)(g:List T->Rs T):Prop:=
 ∀(kw:Uf)(s:Oc)(σ:L2.St)(H:Hp)(O:Ow)(ts:List T)(vs:List V)(us:List N8)(Q:VK),Inv X kw σ H s->(∀p,H p=ZB->¬ O p)->Reps X.K O H ts vs->Vals vs us ->
  Post X H (g ts) (λt H'=>∀v,Rep X.K O H' t v->Q v H')->ZJ (ZK X.prog X.w) X.A (call f us) (EP X kw σ Q) X.xe s
def CallT.of{r:List V->Hp->VK->Prop}(h:CallR X f r){g:List T->Rs T}
  (w:∀(H:Hp)(O:Ow)(ts:List T)(vs:List V)(Q:VK),(∀p,H p=ZB->¬ O p)->Reps X.K O H ts vs->Post X H (g ts) (λt H'=>∀v,Rep X.K O H' t v->Q v H')->r vs H Q):CallT X f g:=
 λkw s σ H O ts vs us Q I hf rs rv hp=>h kw s σ H vs us Q I rv (w H O ts vs Q hf rs hp)
def cl(g:List T->Rs T)(fs:Y0)(Z:En):Rs T:=fs Z >>= g
variable {fs:Y0}{id:String}{g:List T->Rs T}
def zm(hc:CallT X (.builtin id) g)(hm:X.mg x=ZB)(hv:O9 x=ZA (.builtin id))(ha:qX X (e::es) fs)(hg:Gl X x:=by rfl)(hn:autoParam (x≠ "__name__") s_)(hdb:autoParam ((x == ("__debug__" : Str))=ZD) s_)
  (he:Ov (e::es) X.env=(ZD,eval e X.env)::Ov es X.env:=by rfl) (hpl:(backTo pos (Ov es X.env)).any (·.1)=ZD:=by rfl):df X (.Call (.Name x p) (e::es) [] pos) (cl g fs):=by
 intro kw s σ H Q I ⟨Z,O,E,hq⟩;refine Pa (fw I hg hm hv ?_ hn hdb);have h1:=eQ E hq;exact Qz (cM (ha pos kw s σ H _ I h1) λus s1 ⟨vs,H1,I1,r1,ts,rs,s',E',q1⟩=>hc kw s1 σ H1 O ts vs us Q I1 (λp=>E'.fresh) rs r1 q1) he hpl
def Cv(hc:CallT X (.type Ty) g)(hm:X.mg x=ZB)(hv:O9 x=ZA (.type Ty))(ha:qX X (e::es) fs)(hg:Gl X x:=by rfl)(hn:autoParam (x≠ "__name__") s_)(hdb:autoParam ((x == ("__debug__" : Str))=ZD) s_)
  (he:Ov (e::es) X.env=(ZD,eval e X.env)::Ov es X.env:=by rfl) (hpl:(backTo pos (Ov es X.env)).any (·.1)=ZD:=by rfl):df X (.Call (.Name x p) (e::es) [] pos) (cl g fs):=by
 intro kw s σ H Q I ⟨Z,O,E,hq⟩;refine Pa (fw I hg hm hv ?_ hn hdb);have h1:=eQ E hq;exact O8 (cM (ha pos kw s σ H _ I h1) λus s1 ⟨vs,H1,I1,r1,ts,rs,s',E',q1⟩=>hc kw s1 σ H1 O ts vs us Q I1 (λp=>E'.fresh) rs r1 q1) he hpl
def Reps.one{t:T}(r:Reps K O H [t] vs):∃v,vs=[v]/\Rep K O H t v:=by obtain⟨v,ws,rfl,p,q⟩:=Reps.me.mp r;cases Reps.Da.mp q;exact⟨v,rfl,p⟩
def Rep.sq{t:T}(r:Rep K O H t v)(h:t.items=ZA l):∃a vs,v=.ref a/\¬ O a/\Reps K O H l vs/\(SqL K H a vs\/SqT K H a vs):=by
 cases t with
 |tup m=>cases h;obtain⟨a,vs,e,n,q,z⟩:=Rep.Fk.mp r;exact⟨a,vs,e,n,z,.inr (SqT.of q)⟩
 |lst m=>cases h;obtain⟨a,vs,e,n,q,z⟩:=Rep.Do.mp r;exact⟨a,vs,e,n,z,.inl (SqL.of q)⟩
 |scr m=>cases h;unfold Rep at r;obtain⟨a,e,n,q⟩:=r;exact⟨a,_,e,n,Reps.ints,.inl q⟩
 |_=>cases h
noncomputable def cA:List T->Rs T
 |[.str x] =>if x.length<=ZI then .ok (.int x.length)else .bad
 |[x] =>match x.items with
  |some l=>.ok (.int l.length)
  |none=>.bad
 |_=>.bad
def cL:CallT X (.builtin "len") cA:=CallT.of (call_len_seq.or uV) λH O ts vs Q hf rs hp=>by
 unfold cA at hp;split at hp
 .obtain⟨v,rfl,r⟩:=rs.one;split at hp
  .rename_i h;exact .inr ⟨_,by rw[Rep.GT.mp r],h,hp H (Same.refl H) _ (Rep.GE _)⟩
  .exact hp.elim
 .obtain⟨v,rfl,r⟩:=rs.one;split at hp
  .rename_i l hl;obtain⟨a,vs,rfl,n,z,q⟩:=r.sq hl;exact .inl ⟨a,vs,rfl,q,hp H (Same.refl H) _ (by rw[<-z.length];exact Rep.GE _)⟩
  .exact hp.elim
 .exact hp.elim
noncomputable def fo:List T->Rs T
 |[.tup l] =>.ok (.tup l)
 |[.lst l] =>.ok (.tup l)
 |_=>.bad
def fO:CallT X (.type "tuple") fo:=CallT.of rF λH O ts vs Q hf rs hp=>by
 unfold fo at hp;split at hp
 .obtain⟨v,rfl,r⟩:=rs.one;obtain⟨a,ws,rfl,n,q,z⟩:=Rep.Fk.mp r;exact⟨a,ws,rfl,.inr ⟨SqT.of q,hp H (Same.refl H) _ (Rep.Fk.mpr ⟨a,ws,rfl,n,q,z⟩)⟩⟩
 .obtain⟨v,rfl,r⟩:=rs.one;obtain⟨a,ws,rfl,n,q,z⟩:=Rep.Do.mp r;exact⟨a,ws,rfl,.inl ⟨SqL.of q,λl hl=>hp _ (aR hl _) _ (gR hl (hf l hl) z)⟩⟩
 .exact hp.elim
noncomputable def wO:List T->Rs T
 |[.int i] =>.ok (.int i)
 |[.bl k] =>.ok (.int (if k then 1 else 0))
 |_=>.bad
def yN:CallT X (.type "int") wO:=CallT.of Bv λH O ts vs Q hf rs hp=>by
 unfold wO at hp;split at hp
 .obtain⟨v,rfl,r⟩:=rs.one;exact .inl ⟨_,by rw[Rep.AC.mp r],hp H (Same.refl H) _ (Rep.GE _)⟩
 .obtain⟨v,rfl,r⟩:=rs.one;exact .inr ⟨_,by rw[Rep.FM.mp r],hp H (Same.refl H) _ (Rep.GE _)⟩
 .exact hp.elim
noncomputable def qP:List T->Option (List Bool)
 |[] =>ZA []
 |.bl k::r=>(qP r).map (k:: ·)
 |_=>ZB
noncomputable def rG:List T->Rs T
 |[.lst l] =>match qP l with
  |some ks=>.ok (.bl (ks.all λk=>k))
  |none=>.bad
 |_=>.bad
theorem qO:∀{l:List T}{ks:List Bool}{vs:List V}{us:List N8},qP l=ZA ks->Reps K O H l vs->Vals vs us->us=ks.map Pn
 |[],ks,vs,us,e,r,v=>by cases e;cases Reps.Da.mp r;cases v;rfl
 |t::l,ks,vs,us,e,r,v=>by
  obtain⟨w,ws,rfl,p,q⟩:=Reps.me.mp r;cases t with
  |bl k=>
   unfold qP at e;cases z:qP l with
   |none=>rw[z]at e;cases e
   |some ks'=>
    rw[z]at e;cases e;cases v with
    |cons v1 v2=>
     cases Rep.FM.mp p;cases v1;rw[qO z q v2];rfl
  |_=>cases e
def uT(hc:X.calm=ZC):CallT X (.builtin "all") rG:=by
 intro kw s σ H O ts vs us Q I hf rs rv hp;unfold rG at hp;split at hp
 .obtain⟨v,rfl,r⟩:=rs.one;split at hp
  .rename_i ks hk;obtain⟨a,ws,rfl,n,q,z⟩:=Rep.Do.mp r;obtain⟨u,rfl,ru⟩:=lK rv;cases ru;obtain⟨its,r',pl,hz⟩:=I.list (SqL.of q);have hits:=qO hk z r';refine call_all_walk (Sx pl.isList ?_);have hne:a≠s.heap.objs.size:=λe=>by obtain⟨o,ho,_⟩:=pl.isList;rw[e]at ho;exact absurd (Os ho) (O7 _)
   refine⟨s.heap.objs.size,_,_,_,_,_,λi=>(ks[i]?).getD ZC,rfl,Walks.list (A:=X.A.in1) (I.ok.hd hc) s.heap.objs.size a hne its.toArray,⟨⟨_,Oy _ rfl,rfl,rfl⟩,?_⟩,?_,?_⟩
   .obtain⟨o,ho,hh⟩:=pl.isList;exact⟨o,Of _ ho,hh⟩
   .intro i v s' Q' E' hP hQ';subst hits;dsimp only at hQ';have hP':(ks.map Pn)[i]?=ZA v:=by simpa using hP
    rw[Ot]at hP';cases e:ks[i]? with
    |none=>rw[e]at hP';cases hP'
    |some k=>
     rw[e]at hP' hQ';cases hP';exact Pe hQ'
   .intro h' tk hk';have hlen:its.toArray.size=ks.length:=by rw[hits];simp
    have e:((Oj its.toArray.size).all λi=>(ks[i]?).getD ZC)=(ks.all λk=>k):=by
     rw[hlen];rw[Pc,OB,OB];constructor
     .intro h x hx;obtain⟨i,hi,rfl⟩:=Rn hx;have:=h i (OZ.mpr hi);simpa [hi]using this
     .intro h i hi;have hi':=OZ.mp hi;have:=h ks[i] (PN hi');simpa [hi']using this
    rw[e];have I1:Inv X kw σ H {s with heap:=s.heap.push {cls:=.type "list_iterator",data:=.fields #[.ref a,.int 0 0]}}:=I.kept (t':=s.toks) λb o e=>Of _ e;have I2:Inv X kw σ H {s with heap:=h',toks:=tk}:=by
     have:=I1.turned (h':=h') (t':=tk) (it:=s.heap.objs.size) (λb o hb e=>hk' b o (by simpa using hb) e) (I.hok.fresh (Oq _))
      (QC I.lt) (.inr I.sz) (λx c e z=>?_) (λp hp z=>?_)
     .exact this
     .obtain⟨v,q⟩:=I.cell x c e;exact absurd (Oo q.lt (R6 z.symm)) (O7 _)
     .exact absurd (Oo (Os (I.pin p hp).1) (R6 z.symm)) (O7 _)
    exact⟨.bl _,H,I2,rfl,hp H (Same.refl H) _ (Rep.bl_ _)⟩
  .exact hp.elim
 .exact hp.elim
end
noncomputable def T.ty:T->Option String
 |.non=>ZA "NoneType"
 |.bl _=>ZA "bool"
 |.int _=>ZA "int"
 |.str _=>ZA "str"
 |.tup _=>ZA "tuple"
 |.lst _=>ZA "list"
 |.scr _=>ZB
 |.dct _ _=>ZB
noncomputable def wW(i b t l s:Bool)(Ty:String):Option Bool:=match Ty with
 | "int" =>ZA i| "bool" =>ZA b| "tuple" =>ZA t| "list" =>ZA l| "str" =>ZA s
 |_=>ZB
noncomputable def zX(n Ty:String):Option Bool:=match n with
 | "NoneType" =>wW ZD ZD ZD ZD ZD Ty
 | "bool" =>wW ZC ZC ZD ZD ZD Ty
 | "int" =>wW ZC ZD ZD ZD ZD Ty
 | "str" =>wW ZD ZD ZD ZD ZC Ty
 | "tuple" =>wW ZD ZD ZC ZD ZD Ty
 | "list" =>wW ZD ZD ZD ZC ZD Ty
 |_=>ZB
def Ba(K:N4){n:String}(h:zX n Ty=ZA b):PySem.W.kitOne K (.type n) (.type Ty)=ZA b:=by unfold zX at h;split at h <;> first| (cases h;done)| (unfold wW at h;split at h <;> first| (cases h;done)| (cases h;kernel_rfl))
noncomputable def Gx(Ty:String)(t:T):Rs T:=match t.ty with
 |some n=>match zX n Ty with
  |some b=>.ok (.bl b)
  |none=>.bad
 |none=>.bad
def Rep.N0{t:T}{n:String}(r:Rep K O H t v)(h:t.ty=ZA n):nt K H v (.type n):=by
 cases t with
 |non=>cases h;cases Rep.MZ.mp r;exact .non
 |bl b=>cases h;cases Rep.FM.mp r;exact .bl b
 |int b=>cases h;cases Rep.AC.mp r;exact .int b
 |str b=>cases h;cases Rep.GT.mp r;exact .str b
 |tup l=>cases h;obtain⟨a,vs,rfl,_,q,_⟩:=Rep.Fk.mp r;exact .tup q
 |lst l=>cases h;obtain⟨a,vs,rfl,_,q,_⟩:=Rep.Do.mp r;exact .lst q
 |scr l=>cases h
 |dct _ _=>cases h
variable{H':Hp}{M:Mn}{O':Ow}{g:T->En->Rs En}{gs:List T->En->Rs En}{iter tg:ZG}{kw:Uf}{ps:List Str}
section
variable {a b c:ZG}{fs:Y0}{p2:Pos}
def gA:O9 "isinstance" =ZA (.builtin "isinstance"):=by decide+kernel
def Lq{tn:Str}(hm:X.mg "isinstance" =ZB)(hmt:X.mg tn=ZB)(hv:O9 tn=ZA (.type Ty))(ha:df X a fa)(hg:Gl X "isinstance":=by rfl)(hgt:Gl X tn:=by rfl)
  (hn:autoParam (tn≠ "__name__") s_) (hd:autoParam ((tn == ("__debug__" : Str))=ZD) s_)
  (he:Ov [a,.Name tn p2] X.env=(ZD,eval a X.env)::Ov [.Name tn p2] X.env:=by rfl) (hpl:(backTo pos (Ov [.Name tn p2] X.env)).any (·.1)=ZD:=by rfl)
  (hs:Ov [.Name tn p2] X.env=(ZD,eval (.Name tn p2) X.env)::Ov [] X.env:=by rfl):
  df X (.Call (.Name "isinstance" p) [a,.Name tn p2] [] pos) (o1 (Gx Ty) fa):=by
 intro kw s σ H Q I ⟨Z,O,E,hq⟩;refine Pa (fw I hg hm gA ?_ (by decide) (by decide));have hA:PA X [a,.Name tn p2] (ij (tP X fa) (ij (tC (.ty Ty)) tD)):=bB ha (bB (zA (v:=.ty Ty) hgt hmt hv rfl hn hd) dS hs) he;obtain⟨Z1,O1,E1,h1⟩:=br E hq;refine Qz (cM (hA pos kw s σ H (λvs H'=>∃v t,vs=[v,.ty Ty]/\Rep X.K O H' t v/\Post X H' (Gx Ty t) (λt H'=>∀v,Rep X.K O H' t v->Q v H')) I ?_) λus s1 ⟨vs,H1,I1,r1,v,t,e1,rt,q⟩=>?_) he hpl
 .refine⟨Z1,O1,E1,Post.mono h1 λts H1 s1 q vs r=>?_⟩;obtain⟨t',r',s',E',q'⟩:=q vs r;exact⟨vs,t',rfl,r',q'⟩
 .subst e1;obtain⟨u,w',rfl,ru,rw'⟩:=za r1;cases rw';unfold Gx at q;split at q
  .rename_i n hn';split at q
   .rename_i bb hb;exact A9 I1 ru (rt.N0 hn') (Ba _ hb) λtk=>⟨.bl bb,H1,I1.tok _,rfl,q H1 (Same.refl H1) _ (Rep.bl_ _)⟩
   .exact q.elim
  .exact q.elim
def spP(K:N4)(n:Nat)(g:List T->Rs T):Sp:=λvs H Q _=>∃ts O,Reps K O H ts vs/\(∀a,O a->Mtb H a)/\ts.length=n ∧
 match g ts with
 |.ok t=>∀v H',Same H H'->Rep K O H' t v->Q v H'
 |_=>False
def RzC(P:OF)(w:Pv)(mg:WF)(outer:List Env)(H:Hp)(s:Oc)(c:Str)(ev:N8)(s':Oc):Prop:=
 ∃e T C H',ev=.ref e/\mg c=ZA (.ref C)/\s'.os=s.os/\Rh s'.gens/\Un (kJ outer) [] H H' s.heap s'.heap/\HOk P w H' s'.heap/\Same H H'/\H' e=ZB/\s.heap.get? e=ZB/\MI s'.heap C e (ZA T)/\H' T=ZB/\s.heap.get? T=ZB
def FnX(P:OF)(w:Pv)(K:N4)(mg:WF)(base:ZH)(k:Nat)(f:ZE)(fd:PR)(ps:List Str)(n:Nat)(g:List T->Rs T):Prop:=
 ∀(A:OU)(outer:List Env)(s:Oc)(H:Hp)(args:Args)(us:List N8)(vs:List V)(O:Ow)(ts:List T)(c:Str)(R:Xh->Oc->Prop),Room k A->Env0 P w K mg base A outer s H->Vo s fd args (ps.zip us)->Vals vs us ->
  Reps K O H ts vs->(∀a,O a->Mtb H a)->ts.length=n->g ts=.err c->(∀ev s',RzC P w mg outer H s c ev s'->R (.error ev) s')->ZL (ZK P w) A (.call (.ref f) args) R s
structure BI (P:OF)(w:Pv)(K:N4)(mg:WF)(base:ZH)(k:Nat)(f:ZE)(fd:PR)(ps:List Str)(n:Nat)(g:List T->Rs T):Prop where
 h:rH P w K mg base CX0 k f fd ps (spP K n g)
 x:FnX P w K mg base k f fd ps n g
def C1{h:ZH}{a:ZE}{o:HO}(x:ObjOk P w H h a o):∃u,h.get? a=ZA u:=by
 cases o with
 |lst xs=>obtain⟨_,_,_,_,e⟩:=x;exact⟨_,e⟩
 |tup xs=>obtain⟨_,_,_,ob,e,_⟩:=x;exact⟨_,e⟩
 |dK kvs=>obtain⟨_,_,_,_,o,_,_,e,_⟩:=x;exact⟨_,e⟩
 |dT kvs=>obtain⟨_,_,_,_,o,_,_,e,_⟩:=x;exact⟨_,e⟩
 |set S n=>obtain⟨o,_,_,_,e,_⟩:=x;exact⟨_,e⟩
 |ins C dx fs=>obtain⟨_,_,_,e,_⟩:=x;exact⟨_,e⟩
 |own y=>obtain⟨_,e⟩:=x;exact⟨_,e⟩
 |xd fs=>obtain⟨_,⟨_,_,_,e,_⟩,_⟩:=x;exact⟨_,e⟩
 |rng lo hi=>obtain⟨_,_,_,e⟩:=x;exact⟨_,e⟩
 |frz ob u=>obtain⟨e,_⟩:=x;exact⟨_,e⟩
 |tbl q=>obtain⟨_,e,_⟩:=x;exact⟨_,e⟩
 |met f y=>exact⟨_,(show h.get? a=ZA _ from x)⟩
 |ext φ=>obtain⟨_,⟨_,e⟩,_⟩:=x;exact⟨_,e⟩
def qf(I:Inv X kw σ H s){e:ZE}(n:s.heap.get? e=ZB):H e=ZB:=by
 cases z:H e with
 |none=>rfl
 |some o=>
  obtain⟨o',ho'⟩:=C1 (I.hok e o z);rw[n]at ho';cases ho'
def lA(I:Inv X kw σ H s)(hex:X.ex=[]){e:ZE}(n:s.heap.get? e=ZB):X.s₀.heap.get? e=ZB:=by
 cases z:X.s₀.heap.get? e with
 |none=>rfl
 |some o=>
  obtain⟨o',ho'⟩:=I.base.there e o z (by rw[hex];simp);rw[n]at ho';cases ho'
def Jb{f:ZE}{g:List T->Rs T}(F:BI X.prog X.w X.K X.mg X.base k f fd ps n g)(hr:Room k X.A)(hm:X.mg x=ZA (.ref f))(hk:Qu X.K (.ref f)=ZC)(hb:Binds X.K fd ps [])(hps:ps.length=n)
  (hl:∀Z ts,fs Z=.ok ts->ts.length=n) (ha:qX X (e::es) fs) (hg:Gl X x:=by rfl) (hdb:autoParam ((x == ("__debug__" : Str))=ZD) s_) (he:Ov (e::es) X.env=(ZD,eval e X.env)::Ov es X.env:=by rfl) (hpl:(backTo pos (Ov es X.env)).any (·.1)=ZD:=by rfl):
  df X (.Call (.Name x p) (e::es) [] pos) (cl g fs):=by
 intro kw s σ H Q I ⟨Z,O,E,hq⟩;have hq':Post X H (fs Z >>= g) λt H'=>∀v,Rep X.K O H' t v->Q v H':=hq;cases q:fs Z with
 |bad=>rw[q]at hq';exact hq'.elim
 |err c=>
  rw[q]at hq';refine zx (E:=E0) F.h hr hg hm hk hb .nil zB ha hdb he hpl kw s σ H Q I ⟨Z,O,E,?_⟩;rw[q];exact hq'
 |ok ts=>
  rw[q]at hq';have hq2:Post X H (g ts) λt H'=>∀v,Rep X.K O H' t v->Q v H':=hq';cases q2:g ts with
  |bad=>rw[q2]at hq2;exact hq2.elim
  |ok t=>
   rw[q2]at hq2;refine zx (E:=E0) F.h hr hg hm hk hb .nil zB ha hdb he hpl kw s σ H Q I ⟨Z,O,E,?_⟩;rw[q];intro H1 s1 vs rs;rw[Px];refine⟨ts,O,rs,(E.same s1).mtb,hl Z ts q,?_⟩;rw[q2];exact λv H' s2 r=>hq2 H' (s1.trans s2) v r
  |err c=>
   rw[q2]at hq2;refine Pa (jh I hg hm ?_ hdb);refine Sd (h₀:=X.base) I.ok.mod.kin hk (cM (ha pos kw s σ H (λvs H'=>Same H H'/\Reps X.K O H' ts vs) I ⟨Z,O,E,?_⟩) (λus s1 ⟨vs,H1,I1,r,sm,rs⟩=>⟨I1.kIn,?_⟩)) he hpl
   .rw[q];exact λH' sm vs rs=>⟨sm,rs⟩
   .have hlen:us.length=ps.length:=by rw[<-r.length,<-rs.length,hl Z ts q,hps]
    have hb':=hb s1 us I1.kIn (by rw[Px];exact hlen);rw[Px]at hb';refine UW (R9 (F.x X.A X.stack s1 H1 ⟨us,[]⟩ us vs O ts c (λr s'=>match r with|.error ev=>X.xe ev s'|_=>False) hr I1.Nx hb' r rs (E.same sm).mtb (hl Z ts q) q2 λev s' w=>?_) λr s' hq=>?_)
    .obtain⟨ea,T,C,H',rfl,hmc,ho,hbare,hun,hok,sm2,hea,heo,fl,hT,hTo⟩:=w;have I2:Inv X kw σ H' s':=I1.Nu ho hun hok hbare (λb z=>absurd z (by simp));exact hq2 kw _ _ ⟨ea,ZA T,C,σ,H',rfl,hmc,I2,λb o q _=>sm2 b o (sm b o q),hea,λhex=>lA I1 hex heo,fl,(λt zt=>by cases zt;exact⟨hT,λhex=>lA I1 hex hTo⟩),λpp hpp=>⟨λzz=>(by have:=(I1.pin pp hpp).1;rw[zz,heo]at this;cases this),λzz=>(by cases zz;have:=(I1.pin pp hpp).1;rw[hTo]at this;cases this)⟩⟩
    .cases r with
     |error ev=>exact hq
     |ok fl=>exact hq.elim
def BY(X:Cx)(g:T->En->Rs En):TG:=λv σ H Q=>∃Z O M t,EnvM X.K O M H Z σ/\Rep X.K O H t v/\match g t Z with
 |.ok Z'=>∀σ',EnvM X.K O M H Z' σ'->Q σ' H
 |_=>False
abbrev EN(X:Cx)(tg:ZG)(g:T->En->Rs En):Prop:=PG X tg (BY X g)
def tPGs(X:Cx)(g:List T->En->Rs En):G4:=λvs σ H Q=>∃Z O M ts,EnvM X.K O M H Z σ/\Reps X.K O H ts vs/\match g ts Z with
 |.ok Z'=>∀σ',EnvM X.K O M H Z' σ'->Q σ' H
 |_=>False
abbrev EI(X:Cx)(tg:List ZG)(g:List T->En->Rs En):Prop:=PGs X tg (tPGs X g)
def PG.imp{t t':TG}(h:PG X e t)(w:∀v σ H Q,t' v σ H Q->t v σ H Q):PG X e t':=λkw s σ H v u Q I r q=>h kw s σ H v u Q I r (w v σ H Q q)
def PGs.imp{e:List ZG}{t t':G4}(h:PGs X e t)(w:∀v σ H Q,t' v σ H Q->t v σ H Q):PGs X e t':=λkw s σ H v u Q I r q=>h kw s σ H v u Q I r (w v σ H Q q)
noncomputable def gN(i:Nat)(t:T)(Z:En):Rs En:=if i<Z.length then .ok (Z.set i (.va t))else .bad
def EnvM.set{t:T}(E:EnvM K O M H Z σ)(hi:i<Z.length)(r:Rep K O H t v):EnvM K O M H (Z.set i (.va t)) (σ.set i (ZA v)) where
 len:=by rw[P3,P3];exact E.len
 val:=λj u e=>by
  by_cases hj:i=j
  .subst hj;rw[OS hi]at e;cases e;exact⟨v,OS (by rw[<-E.len];exact hi),r⟩
  .rw[OY hj]at e;obtain⟨w,e1,e2⟩:=E.val j u e;exact⟨w,by rw[OY hj];exact e1,e2⟩
 own:=λj o e=>by
  by_cases hj:i=j
  .subst hj;rw[OS hi]at e;cases e
  .rw[OY hj]at e;obtain⟨w,e1,e2⟩:=E.own j o e;exact⟨w,by rw[OY hj];exact e1,e2⟩
 sub:=E.sub
 dis:=E.dis
 trk:=E.trk
def FO(i:Nat)(hN:X.N.Nodup)(hi:X.N[i]?=ZA x:=by rfl)(hx:autoParam (Loc X.env.scope x) x_)(hf:autoParam (X.fn x=ZC\/X.env.scope.names.lookup x=ZA .local) r_):EN X (.Name x pos) (gN i):=
 PG.imp (F3 hN hi hx hf) λv σ H Q hh_=>by
  obtain⟨Z,O,M,t,E,r,h⟩:=hh_;unfold gN at h;split at h
  .rename_i Z' e;split at e
   .rename_i hl;cases e;exact h _ (E.set hl r)
   .cases e
  .exact h.elim
def ve(ts:List T)(Z:En):Rs En:=match ts with
 |[] =>.ok Z
 |_=>.bad
noncomputable def i7(g:T->En->Rs En)(gs:List T->En->Rs En)(ts:List T)(Z:En):Rs En:=match ts with
 |t::r=>do
  let Z1 <-g t Z
  gs r Z1
 |[] =>.bad
def FN:EI X [] ve:=PGs.imp F2 λvs σ H Q hh_=>by
 obtain⟨Z,O,M,ts,E,r,h⟩:=hh_;unfold ve at h;cases ts with
 |nil=>exact⟨Reps.Da.mp r,h σ E⟩
 |cons _ _=>exact h.elim
def Cq(h1:EN X e g)(h2:EI X es gs)
  (hs:(Qs (e::es) X.env).map (·.2)=assign e X.env::(Qs es X.env).map (·.2):=by rfl):EI X (e::es) (i7 g gs):=
 PGs.imp (CI h1 h2 hs) λvs σ H Q hh_=>by
  obtain⟨Z,O,M,ts,E,r,h⟩:=hh_;cases ts with
  |nil=>exact h.elim
  |cons t ts=>
   obtain⟨v,ws,rfl,p,q⟩:=Reps.me.mp r;refine⟨v,ws,rfl,Z,O,M,t,E,p,?_⟩;unfold i7 at h;cases e1:g t Z with
   |bad=>simp[e1]at h
   |err c=>simp[e1]at h
   |ok Z1=>
    intro σ1 E1;refine⟨Z1,O,M,ts,E1,q,?_⟩;simp only[e1,aG]at h;cases e2:gs ts Z1 with
    |bad=>simp[e2]at h
    |err c=>simp[e2]at h
    |ok Z2=>
     simp only[e2]at h;exact λσ2 E2=>h σ2 E2
noncomputable def gT(n:Nat)(gs:List T->En->Rs En)(t:T)(Z:En):Rs En:=match t with
 |.tup l=>if l.length=n then gs l Z else .bad
 |_=>.bad
def IX(hc:X.calm=ZC)(h:EI X es gs)(hn:(Qs es X.env).length=n:=by rfl)(hst:(Qs es X.env).findIdx? (·.1)=ZB:=by rfl):EN X (.Tuple es k pos) (gT n gs):=
 PG.imp (Ji hc h hn hst) λv σ H Q hh_=>by
  obtain⟨Z,O,M,t,E,r,h⟩:=hh_;unfold gT at h;cases t with
  |tup l=>
   obtain⟨a,vs,rfl,n',q,z⟩:=Rep.Fk.mp r;by_cases hl:l.length=n
   .simp only[if_pos hl]at h;exact⟨a,vs,rfl,SqT.of q,by rw[<-z.length];exact hl,Z,O,M,l,E,z,h⟩
   .simp only[if_neg hl]at h
  |_=>exact h.elim
def SqL.nn{a:ZE}(q:SqL K H a vs):¬ Nw K H a:=λ⟨h1,h2⟩=>by
 rcases q with(q|⟨o,q⟩)|⟨o,_,_,q,_⟩
 .rw[h1]at q;cases q
 .rw[h1]at q;cases q
 .rw[h2]at q;cases q
mutual
theorem Rep.more{K:N4}{O O':Ow}{H:Hp}(sub:∀a,O' a->O a\/Nw K H a):∀{t:T}{v:V},Rep K O H t v->Rep K O' H t v
 |.non,_,r=>by unfold Rep at r ⊢;exact r
 |.bl _,_,r=>by unfold Rep at r ⊢;exact r
 |.int _,_,r=>by unfold Rep at r ⊢;exact r
 |.str _,_,r=>by unfold Rep at r ⊢;exact r
 |.tup l,_,r=>by unfold Rep at r ⊢;obtain⟨a,vs,e,n,q,z⟩:=r;exact⟨a,vs,e,λp=>(sub a p).elim n λw=>(by rw[w.1]at q;cases q),q,Reps.more sub z⟩
 |.lst l,_,r=>by unfold Rep at r ⊢;obtain⟨a,vs,e,n,q,z⟩:=r;exact⟨a,vs,e,λp=>(sub a p).elim n λw=>(by rw[w.1]at q;cases q),q,Reps.more sub z⟩
 |.scr l,_,r=>by unfold Rep at r ⊢;obtain⟨a,e,n,q⟩:=r;exact⟨a,e,λp=>(sub a p).elim n λw=>Tr.SqL.nn q w,q⟩
 |.dct ks ts,_,r=>by unfold Rep at r ⊢;obtain⟨a,kvs,e,n,q,k,z⟩:=r;exact⟨a,kvs,e,λp=>(sub a p).elim n λw=>(by rcases q with q|⟨_,q⟩ <;> rw[w.1]at q <;> cases q),q,k,Reps.more sub z⟩
theorem Reps.more{K:N4}{O O':Ow}{H:Hp}(sub:∀a,O' a->O a\/Nw K H a):∀{l:List T}{vs:List V},Reps K O H l vs->Reps K O' H l vs
 |[],_,r=>by unfold Reps at r ⊢;exact r
 |t::l,_,r=>by unfold Reps at r ⊢;obtain⟨v,ws,e,p,q⟩:=r;exact⟨v,ws,e,Rep.more sub p,Reps.more sub q⟩
end
def Rep.move{P:Ow}{t:T}(hP:∀a,P a->O a\/Nw K H a)(hO:∀a,O' a->O a\/Nw K H a)(h:SameO P H H')(r:Rep K O H t v):Rep K O' H' t v:=
 Rep.less (O:=λa=>O' a\/P a) (λ_ z=>.inl z) (Rep.keep h (λ_ z=>.inr z) (Rep.more (λa z=>z.elim (hO a) (hP a)) r))
def Reps.move{P:Ow}{t:List T}{v:List V}(hP:∀a,P a->O a\/Nw K H a)(hO:∀a,O' a->O a\/Nw K H a)(h:SameO P H H')(r:Reps K O H t v):Reps K O' H' t v:=
 Reps.less (O:=λa=>O' a\/P a) (λ_ z=>.inl z) (Reps.keep h (λ_ z=>.inr z) (Reps.more (λa z=>z.elim (hO a) (hP a)) r))
def MH(K:N4)(O:Ow)(H:Hp)(ts:List T)(J:It):Prop:=∀(P O':Ow),(∀a,P a->O a\/Nw K H a)->(∀a,O' a->O a\/Nw K H a)->∀(i:Nat)(Hc:Hp),SameO P H Hc->(∀a,O' a->∃o,Hc a=ZA o) ->
 (ts.length<=i->J.stop i Hc)/\(∀t,ts[i]?=ZA t->J.go i Hc/\∀x Hc',J.yld i Hc x Hc'->Same Hc Hc'/\Rep K O' Hc' t x)
def MM(X:Cx)(f:Y0):TI:=λσ H R=>∃Z O,EnvO X.K O H Z σ/\Post X H (f Z) λts H'=>∀J,MH X.K O H' ts J->R J H'
abbrev BA(X:Cx)(tg iter:ZG)(f:Y0):Prop:=PI X tg iter (MM X f)
def PI.imp{t t':TI}(h:PI X tg iter t)(w:∀σ H R,t' σ H R->t σ H R):PI X tg iter t':=λkw s σ H R I q=>h kw s σ H R I (w σ H R q)
def iL(f:Y2)(Z:En):Rs (List T):=do
 let x <-f Z
 match x with
 |.lst l=>.ok l
 |_=>.bad
def iT(f:Y2)(Z:En):Rs (List T):=do
 let x <-f Z
 match x with
 |.tup l=>.ok l
 |_=>.bad
def zl(ha:df X a fa):BA X tg a (iL fa):=PI.imp (F0 ha) λσ H R hh_=>by
 obtain⟨Z,O,E,h⟩:=hh_;obtain⟨Z1,O1,E1,h1⟩:=br E h;refine⟨Z1,O1,E1,Post.mono h1 λts H1 s1 q vs r=>?_⟩;obtain⟨t',r',s',E',q'⟩:=q vs r;split at q'
 .rename_i l;obtain⟨a,ws,rfl,n,q,z⟩:=Rep.Do.mp r';refine⟨a,rfl,⟨ws,SqL.of q⟩,q' H1 (Same.refl H1) _ λP O' hP hO i Hc hs ht=>?_⟩;have hnP:¬ P a:=λz=>(hP a z).elim n λw=>by rw[w.1]at q;cases q
  refine⟨λhi=>⟨ws,SqL.of (hs _ _ q hnP),by rw[<-z.length];exact hi⟩,λt ht'=>?_⟩;obtain⟨v,e1,e2⟩:=z.get ht';refine⟨⟨ws,v,SqL.of (hs _ _ q hnP),e1⟩,λx Hc' y=>?_⟩;obtain⟨e,y⟩:=y;subst e;have:=y ws (SqL.of (hs _ _ q hnP));rw[e1]at this;cases this;exact⟨Same.refl _,e2.move hP hO hs⟩
 .exact q'.elim
def IV(ha:df X a fa):BA X tg a (iT fa):=PI.imp (Jh ha) λσ H R hh_=>by
 obtain⟨Z,O,E,h⟩:=hh_;obtain⟨Z1,O1,E1,h1⟩:=br E h;refine⟨Z1,O1,E1,Post.mono h1 λts H1 s1 q vs r=>?_⟩;obtain⟨t',r',s',E',q'⟩:=q vs r;split at q'
 .rename_i l;obtain⟨a,ws,rfl,n,q,z⟩:=Rep.Fk.mp r';refine⟨a,rfl,⟨ws,SqT.of q⟩,q' H1 (Same.refl H1) _ λP O' hP hO i Hc hs ht=>?_⟩;have hnP:¬ P a:=λz=>(hP a z).elim n λw=>by rw[w.1]at q;cases q
  refine⟨λhi=>⟨ws,SqT.of (hs _ _ q hnP),by rw[<-z.length];exact hi⟩,λt ht'=>?_⟩;obtain⟨v,e1,e2⟩:=z.get ht';refine⟨⟨ws,v,SqT.of (hs _ _ q hnP),e1⟩,λx Hc' y=>?_⟩;obtain⟨e,y⟩:=y;subst e;have:=y ws (SqT.of (hs _ _ q hnP));rw[e1]at this;cases this;exact⟨Same.refl _,e2.move hP hO hs⟩
 .exact q'.elim
def rng(lo hi:Int):List T:=(Oj (hi - lo).toNat).map λ(k:Nat)=>T.int (lo+(k:Int))
noncomputable def mi(i:Int):Bool:=decide (-(2 ^ 62)<=i)&&decide (i<2 ^ 62)
noncomputable def iR(f:Y0)(Z:En):Rs (List T):=do
 let x <-f Z
 match x with
 |[.int j] =>if mi j then .ok (rng 0 j)else .bad
 |[.int i,.int j] =>if mi i&&mi j then .ok (rng i j)else .bad
 |_=>.bad
def fL{i:Int}(h:mi i=ZC): -(2 ^ 62)<=i/\i<2 ^ 62:=by unfold mi at h;rw[N7]at h;exact⟨of_decide_eq_true h.1,of_decide_eq_true h.2⟩
def oJ(lo hi:Int):MH K O H (rng lo hi) (Itr lo (hi - lo).toNat):=λP O' hP hO i Hc hs ht=>by
 refine⟨λh=>?_,λt h=>?_⟩
 .show(hi - lo).toNat<=i;unfold rng at h;rw[N9,OR]at h;exact h
 .unfold rng at h;rw[Ot]at h;by_cases hi':i<(hi - lo).toNat
  .rw[Qq hi']at h;cases h;refine⟨hi',λx Hc' y=>?_⟩;obtain⟨e,y⟩:=y;subst e y;exact⟨Same.refl _,Rep.GE _⟩
  .rw[PM (by simpa using hi')]at h;cases h
def AK(hm:X.mg "range" =ZB)(ha:qX X [a] fs)(hg:Gl X "range":=by rfl)(hs:Ov [a] X.env=[(ZD,eval a X.env)]:=by rfl):BA X tg (.Call (.Name "range" p) [a] [] pos) (iR fs):=by
 intro kw s σ H R I ⟨Z,O,E,h⟩;have h1:=eQ E h;refine Call_ (fw I hg hm boot_range (O8 (cM (ha pos kw s σ H _ I h1) λus s1 ⟨vs,H1,I1,r1,ts,rs,s',E',q1⟩=>?_) hs rfl));split at q1
 .obtain⟨v,rfl,r⟩:=rs.one;split at q1
  .rename_i j hj;obtain⟨b1,b2⟩:=fL hj;cases Rep.AC.mp r;cases r1 with
   |cons r rr=>
    cases rr;obtain⟨t,rfl⟩:=r;exact Wz (lU I1 (by omega) (by omega) b1 b2 (q1 H1 (Same.refl H1) _ (oJ 0 j)))
  .exact q1.elim
 .obtain⟨v,ws,rfl,p1,q⟩:=Reps.me.mp rs;obtain⟨v2,rfl,r⟩:=q.one;split at q1
  .rename_i i j hj;rw[N7]at hj;obtain⟨b1,b2⟩:=fL hj.1;obtain⟨b3,b4⟩:=fL hj.2;cases Rep.AC.mp p1;cases Rep.AC.mp r;cases r1 with
   |cons r rr=>
    cases rr with
    |cons r' rr=>
     cases rr;obtain⟨t,rfl⟩:=r;obtain⟨t',rfl⟩:=r';exact WA (lU I1 b1 b2 b3 b4 (q1 H1 (Same.refl H1) _ (oJ i j)))
  .exact q1.elim
 .exact q1.elim
def AJ(hm:X.mg "range" =ZB)(ha:qX X [a,b] fs)(hg:Gl X "range":=by rfl)(hs:Ov [a,b] X.env=[(ZD,eval a X.env),(ZD,eval b X.env)]:=by rfl)(hs2:Ov [b] X.env=[(ZD,eval b X.env)]:=by rfl):
  BA X tg (.Call (.Name "range" p) [a,b] [] pos) (iR fs):=by
 intro kw s σ H R I ⟨Z,O,E,h⟩;have h1:=eQ E h;refine Call_ (fw I hg hm boot_range (O8 (cM (ha pos kw s σ H _ I h1) λus s1 ⟨vs,H1,I1,r1,ts,rs,s',E',q1⟩=>?_) (by rw[hs,hs2]) (by rw[hs2];rfl)));split at q1
 .obtain⟨v,rfl,r⟩:=rs.one;split at q1
  .rename_i j hj;obtain⟨b1,b2⟩:=fL hj;cases Rep.AC.mp r;cases r1 with
   |cons r rr=>
    cases rr;obtain⟨t,rfl⟩:=r;exact Wz (lU I1 (by omega) (by omega) b1 b2 (q1 H1 (Same.refl H1) _ (oJ 0 j)))
  .exact q1.elim
 .obtain⟨v,ws,rfl,p1,q⟩:=Reps.me.mp rs;obtain⟨v2,rfl,r⟩:=q.one;split at q1
  .rename_i i j hj;rw[N7]at hj;obtain⟨b1,b2⟩:=fL hj.1;obtain⟨b3,b4⟩:=fL hj.2;cases Rep.AC.mp p1;cases Rep.AC.mp r;cases r1 with
   |cons r rr=>
    cases rr with
    |cons r' rr=>
     cases rr;obtain⟨t,rfl⟩:=r;obtain⟨t',rfl⟩:=r';exact WA (lU I1 b1 b2 b3 b4 (q1 H1 (Same.refl H1) _ (oJ i j)))
  .exact q1.elim
 .exact q1.elim
end
variable{B:Ow}{D:vd}{N':List Str}{Q:VK}{body:List ZF}{f:Y3}{fe:Y2}{fi:Y0}{ifs:List ZG}{st:ZF}{tgt:T->En->Rs En}
section
variable {a b c:ZG}{fs:Y0}{p2:Pos}
def bU(src:List (Option Nat))(Z:En):En:=src.map λo=>match o with
 |some i=>match Z[i]? with
  |some (.va t)=>.va t
  |_=>.em
 |none=>.em
noncomputable def eO(tgt:T->En->Rs En)(fc:Y3)(fe:Y2):List T->Y0
 |[],_=>.ok []
 |t::r,Z=>do
  let Z1 <-tgt t Z
  let k <-fc Z1
  if k then do
   let y <-fe Z1
   let ys <-eO tgt fc fe r Z1
   .ok (y::ys)
  else eO tgt fc fe r Z1
noncomputable def d9(fi:Y0)(src:List (Option Nat))(tgt:T->En->Rs En)(fc:Y3)(fe:Y2)(Z:En):Rs T:=do
 let ts <-fi Z
 if ts.length<=ZI then match eO tgt fc fe ts (bU src Z)with
  |.ok ys=>.ok (.lst ys)
  |_=>.bad
 else .bad
def bT(_:En):Rs Bool:=.ok ZC
def tP0(K:N4)(f:Y2):TE:=λσ H Q=>∃Z O,EnvO K O H Z σ/\match f Z with
 |.ok t=>∀H',Same H H'->∀v,Rep K O H' t v->Q v H'
 |_=>False
def tPT0(K:N4)(f:Y3):TT:=λσ H Q=>∃Z O,EnvO K O H Z σ/\match f Z with
 |.ok t=>∀H',Same H H'->Q t H'
 |_=>False
def tP0.up{f:Y2}(h:tP0 X.K f σ H Q):tP X f σ H Q:=by
 obtain⟨Z,O,E,h⟩:=h;refine⟨Z,O,E,?_⟩;cases q:f Z with
 |ok t=>rw[q]at h;exact h
 |err c=>rw[q]at h;exact h.elim
 |bad=>rw[q]at h;exact h.elim
def tPT0.up{Q:Bool->Hp->Prop}(h:tPT0 X.K f σ H Q):BX X f σ H Q:=by
 obtain⟨Z,O,E,h⟩:=h;refine⟨Z,O,E,?_⟩;cases q:f Z with
 |ok t=>rw[q]at h;exact h
 |err c=>rw[q]at h;exact h.elim
 |bad=>rw[q]at h;exact h.elim
def FK:BH X [] (BX X bT):=λkw s σ H Q I ⟨Z,O,E,h⟩=>tX kw s σ H Q I (h H (Same.refl H))
def FJ(h:xw X c f):BH X [c] (BX X f):=FY h
abbrev noM:Mn:=λ_ _=>False
def A2{src:List (Option Nat)}{o:OT}(e:(bU src Z)[j]?=ZA (.ow o)):False:=by
 unfold bU at e;rw[Ot]at e;cases q:src[j]? with
 |none=>rw[q]at e;cases e
 |some o'=>
  rw[q]at e;cases o' with
  |none=>cases e
  |some i=>
   have e':(match Z[i]? with|some (Sl.va t)=>Sl.va t|_=>Sl.em)=Sl.ow o:=OM e;split at e' <;> cases e'
def wG(E:EnvO K O H Z σ)(src:List (Option Nat)):EnvM K O noM H (bU src Z) (gI src σ) where
 len:=by unfold bU gI;rw[N9,N9]
 val:=λj t e=>by
  unfold bU at e;unfold gI;rw[Ot]at e ⊢;cases q:src[j]? with
  |none=>rw[q]at e;cases e
  |some o=>
   rw[q]at e;cases o with
   |none=>cases e
   |some i=>
    have e':(match Z[i]? with|some (Sl.va t)=>Sl.va t|_=>Sl.em)=Sl.va t:=OM e;cases q2:Z[i]? with
    |none=>rw[q2]at e';cases e'
    |some z=>
     rw[q2]at e';cases z with
     |em=>cases e'
     |ow l=>cases e'
     |va t'=>
      cases e';obtain⟨v,e1,e2⟩:=E.val i _ q2;exact⟨v,by simp[e1],e2⟩
 own:=λj o e=>(A2 e).elim
 sub:=λ_ _ z=>z.elim
 dis:=λ_ _ _ z=>z.elim
 trk:=E.mtb
def ORep.no{o:OT}(r:ORep K O zF H o v):False:=by
 cases o with
 |lst l=>obtain⟨a,_,_,e,_⟩:=r;exact(e a).mpr rfl
 |dct ks ts=>obtain⟨a,_,_,e,_⟩:=r;exact(e a).mpr rfl
 |dd ks rows=>obtain⟨a,_,_,_,e,_⟩:=r;exact(e a).mpr (.inl rfl)
theorem EnvM.move{P:Ow}(E:EnvM K O noM H Z σ)(hP:∀a,P a->O a\/Nw K H a)(hO:∀a,O' a->O a\/Nw K H a)(h:SameO P H H')(trk:∀a,O' a->Mtb H' a):EnvM K O' noM H' Z σ where
 len:=E.len
 val:=λi t e=>let ⟨v,e1,e2⟩:=E.val i t e;⟨v,e1,e2.move hP hO h⟩
 own:=λi o e=>let ⟨_,_,r⟩:=E.own i o e;r.no.elim
 sub:=λ_ _ z=>z.elim
 dis:=λ_ _ _ z=>z.elim
 trk:=trk
noncomputable def KJ(fi:Y0)(src:List (Option Nat))(tgt:T->En->Rs En)(fc:Y3)(fe:Y2)(Z:En):Rs (List T):=fi Z >>= λts=>if ts.length<=ZI then(match eO tgt fc fe ts (bU src Z)with|.ok ys=>Rs.ok ys|_=>.bad)else .bad
def Dn{src:List (Option Nat)}{fc:Y3}:d9 fi src tgt fc fe Z=KJ fi src tgt fc fe Z >>= λl=>.ok (.lst l):=by
 unfold d9 KJ;cases fi Z with
 |bad=>rfl
 |err c=>rfl
 |ok ts=>
  rw[aG,aG];by_cases hz:ts.length<=ZI
  .rw[if_pos hz,if_pos hz];cases eO tgt fc fe ts (bU src Z) <;> rfl
  .rw[if_neg hz,if_neg hz];rfl
theorem Dm{src:List (Option Nat)}{fc:Y3}(E:EnvO X.K O H Z σ)
  (hq1:Post X H (KJ fi src tgt fc fe Z) λall H1=>∀D ys H',Nw X.K H1 D->Same H1 H'->H' D=ZA (.lst ys)->Reps X.K (λa=>O a\/a=D) H' all ys->Q (.ref D) H'):Ii X.K (MM X fi) src (BY X tgt) (tPT0 X.K fc) (tP0 X.K fe) σ H Q:=by
 unfold KJ at hq1;refine⟨Z,O,E,Post.mono hq1.bind λts H1 s1 q1 J hJ D hD hK=>?_⟩;have E1:=E.same s1;by_cases hz:ts.length<=ZI
 .rw[if_pos hz]at q1;cases hall:eO tgt fc fe ts (bU src Z)with
  |bad=>rw[hall]at q1;exact q1.elim
  |err c=>rw[hall]at q1;exact q1.elim
  |ok all=>
   rw[hall]at q1;have q2:∀D ys H',Nw X.K H1 D->Same H1 H'->H' D=ZA (.lst ys)->Reps X.K (λa=>O a\/a=D) H' all ys->Q (.ref D) H':=q1 H1 (Same.refl H1);have nD:Nw X.K H1 D:=⟨hD,hK⟩;let O':Ow:=λa=>O a\/a=D;have subO:∀a,O' a->O a\/Nw X.K H1 a:=λa z=>z.elim .inl λw=>.inr (w▸nD);refine⟨λi m σ' ys H'=>m=ts.length - i/\i<=ts.length/\ys.length<=i/\H' D=ZA (.lst ys)/\SameO (λa=>a=D) (upd H1 D (.lst [])) H' ∧
    ∃Z' yts zs,EnvM X.K O' noM H' Z' σ'/\Reps X.K O' H' yts ys/\eO tgt fc fe (ts.drop i) Z'=.ok zs/\yts++zs=all,⟨ts.length,?_⟩,?_⟩
   .have sN:Same H1 (upd H1 D (.lst [])):=aR hD _;refine⟨by omega,Pg _,Oq _,aH,λb o e _=>e,bU src Z,[],all,?_,Reps.GM,by simpa using hall,rfl⟩;have E2:EnvM X.K O noM H1 (bU src Z) (gI src σ):=wG E1 src;exact E2.move (P:=λa=>a=D) (λa z=>.inr (z▸nD)) subO (λb o e _=>sN b o e) λa z=>by
     rcases z with z|z
     .exact(E1.mtb a z).same sN
     .rw[z];exact .inl ⟨_,aH⟩
   .rintro i m σ' ys H' ⟨rfl,hi',hyl,hDl,hsm,Z',yts,zs,E',ry,hl,hyz⟩;refine⟨hDl,?_⟩;have sm1:SameO (λa=>a=D) H1 H':=λb o e nb=>hsm b o (by rw[aF nb];exact e) nb;have it:=hJ (λa=>a=D) O' (λa z=>.inr (z▸nD)) subO i H' sm1 (λa z=>(E'.trk a z).some);by_cases hlt:i<ts.length
    .refine .inr ?_;have hti:ts[i]?=ZA ts[i]:=by simp
     obtain⟨go,yl⟩:=it.2 ts[i] hti;refine⟨go,by omega,λxx Hc y=>?_⟩;obtain⟨sc,rx⟩:=yl xx Hc y;have Ec:=E'.same sc;rw[Qv hlt]at hl;unfold eO at hl;refine⟨Z',O',noM,ts[i],Ec,rx,?_⟩;cases e1:tgt ts[i] Z' with
     |bad=>rw[e1]at hl;cases hl
     |err cc=>rw[e1]at hl;cases hl
     |ok Z1=>
      rw[e1,aG]at hl;intro σ1 Eg;refine⟨Z1,O',⟨noM,Eg⟩,?_⟩;cases e2:fc Z1 with
      |bad=>rw[e2]at hl;cases hl
      |err cc=>rw[e2]at hl;cases hl
      |ok k=>
       rw[e2,aG]at hl;intro H3 s3;have E3:=Eg.same s3;have tot:Same H' H3:=sc.trans s3;have D3:H3 D=ZA (.lst ys):=tot _ _ hDl;have sm3:SameO (λa=>a=D) (upd H1 D (.lst [])) H3:=λb o e nb=>tot _ _ (hsm b o e nb);cases k with
       |false=>
        refine L2.iteF ?_;have hl':eO tgt fc fe (ts.drop (i+1)) Z1=.ok zs:=by simpa using hl
        exact⟨ts.length - (i+1),by omega,rfl,hlt,by omega,D3,sm3,Z1,yts,zs,E3,ry.same tot,hl',hyz⟩
       |true=>
        refine L2.iteT ?_;have hl':(fe Z1 >>= λy=>eO tgt fc fe (ts.drop (i+1)) Z1 >>= λys=>Rs.ok (y::ys))=.ok zs:=by simpa using hl
        refine⟨Z1,O',⟨noM,E3⟩,?_⟩;cases e3:fe Z1 with
        |bad=>rw[e3]at hl';cases hl'
        |err cc=>rw[e3]at hl';cases hl'
        |ok yt=>
         rw[e3,aG]at hl';cases e4:eO tgt fc fe (ts.drop (i+1)) Z1 with
         |bad=>rw[e4]at hl';cases hl'
         |err cc=>rw[e4]at hl';cases hl'
         |ok zs'=>
          rw[e4,aG]at hl';have hzs:yt::zs'=zs:=by injection hl'
          intro H4 s4 v rv;have D4:H4 D=ZA (.lst ys):=s4 _ _ D3;have E4:=E3.same s4;have tot4:Same H' H4:=tot.trans s4;have smD:SameO (λa=>a=D) H4 (upd H4 D (.lst (ys++[v]))):=λb o e nb=>by rw[aF nb];exact e
          have inO:∀a,a=D->O' a\/Nw X.K H4 a:=λa z=>.inl (.inr z);refine⟨D4,ts.length - (i+1),by omega,rfl,hlt,?_,aH,λb o e nb=>smD b o (s4 _ _ (sm3 b o e nb)) nb,Z1,yts++[yt],zs',?_,?_,e4,?_⟩
          .rw[Ol,QD];omega
          .exact E4.move inO (λa z=>.inl z) smD λaa z=>by
            by_cases hz:aa=D
            .rw[hz];exact .inl ⟨_,aH⟩
            .unfold Mtb;rw[aF hz];exact E4.trk aa z
          .have r1:Reps X.K O' H4 (yts++[yt]) (ys++[v]):=(ry.same tot4).append (Reps.Gc rv Reps.GM);exact r1.move inO (λa z=>.inl z) smD
          .rw[OQ,List.singleton_append,hzs];exact hyz
    .refine .inl ⟨it.1 (by omega),?_⟩;have hi2:i=ts.length:=by omega
     subst hi2;rw[WI]at hl;have hzs:zs=[]:=by unfold eO at hl;injection hl with hl;exact hl.symm
     subst hzs;rw[Px]at hyz;subst hyz;have sF:Same H1 H':=λb o e=>sm1 b o e λz=>by rw[z,hD]at e;cases e
     exact q2 D ys H' nD sF hDl ry
 .rw[if_neg hz]at q1;exact q1.elim
def zR{src:List (Option Nat)}{fc:Y3}(h0:tP X (d9 fi src tgt fc fe) σ H Q):Ii X.K (MM X fi) src (BY X tgt) (tPT0 X.K fc) (tP0 X.K fe) σ H Q:=by
 obtain⟨Z,O,E,hq⟩:=h0;refine Dm E ?_;have e:d9 fi src tgt fc fe Z=KJ fi src tgt fc fe Z >>= λl=>.ok (.lst l):=Dn;rw[e]at hq;cases q:KJ fi src tgt fc fe Z with
 |bad=>rw[q]at hq;exact hq.elim
 |err c=>rw[q]at hq;exact hq
 |ok l=>
  rw[q,aG]at hq;intro H1 s1 D ys H' nD sD eD rD;exact hq H' (s1.trans sD) _ (Rep.Do.mpr ⟨D,ys,rfl,λz=>(E.same s1).fresh nD.1 z,eD,rD.less λa z=>.inl z⟩)
def q_lc{elt:ZG}{src:List (Option Nat)}{fc:Y3}
  (hc:X.calm=ZC) (S:LcScope X scope N' src) (hi:BA X tg iter fi)
  (block:∀cl C s₀ H₀ fp,EN (cC X scope cl N' C s₀ H₀ fp) tg tgt/\BH (cC X scope cl N' C s₀ H₀ fp) ifs (BX (cC X scope cl N' C s₀ H₀ fp) fc)/\df (cC X scope cl N' C s₀ H₀ fp) elt fe)
  (hs:autoParam (∀x,Pf iter X.env x=pure x) t_):
  df X (.ListComp elt [⟨tg,iter,ifs,0⟩] scope pos) (d9 fi src tgt fc fe):=by
 have hPG:∀cl C s₀ H₀ fp,PG (cC X scope cl N' C s₀ H₀ fp) tg (BY X tgt):=λcl C s₀ H₀ fp=>(block cl C s₀ H₀ fp).1;have hPI:∀cl C s₀ H₀ fp,BH (cC X scope cl N' C s₀ H₀ fp) ifs (tPT0 X.K fc):=λcl C s₀ H₀ fp kw s σ H Q I h=>(block cl C s₀ H₀ fp).2.1 kw s σ H Q I (tPT0.up (X:=cC X scope cl N' C s₀ H₀ fp) h);have hPE:∀cl C s₀ H₀ fp,PE (cC X scope cl N' C s₀ H₀ fp) elt (tP0 X.K fe):=λcl C s₀ H₀ fp kw s σ H Q I h=>(block cl C s₀ H₀ fp).2.2 kw s σ H Q I (tP0.up (X:=cC X scope cl N' C s₀ H₀ fp) h);exact PE.imp (vW (g:=BY X tgt) (tc:=tPT0 X.K fc) (te:=tP0 X.K fe) hc S hi (λcl C s₀ H₀ fp=>⟨hPG cl C s₀ H₀ fp,hPI cl C s₀ H₀ fp,hPE cl C s₀ H₀ fp⟩) hs) λσ H Q h=>zR h
inductive Fl where
 |nx (Z:En)|rt (t:T)|bk (Z:En)|ct (Z:En)
abbrev Y1:=En->Rs Fl
def OO(B:Ow)(M:Mn):Ow:=λa=>B a\/M.u a
structure Ev (K:N4)(B:Ow)(M:Mn)(H:Hp)(Z:En)(σ:L2.St):Prop where
 env:EnvM K (OO B M) M H Z σ
 mine:∀a,M.u a->¬ B a
theorem Ev.same(h:Same H H')(e:Ev K B M H Z σ):Ev K B M H' Z σ:=⟨e.env.same h,e.mine⟩
def Ev.o(e:Ev K B M H Z σ):EnvO K (OO B M) H Z σ:=⟨M,e.env⟩
def PostF(X:Cx)(B P:Ow)(H:Hp)(r:Rs Fl)(D:vd):Prop:=match r with
 |.ok (.nx Z')=>∀σ' H' M',SameO P H H'->Ev X.K B M' H' Z' σ'->(∀a,M'.u a->P a\/Nw X.K H a)->D.nx σ' H'
 |.ok (.rt t)=>∀v H',SameO P H H'->Rep X.K B H' t v->D.rt v H'
 |.ok (.bk Z')=>∀σ' H' M',SameO P H H'->Ev X.K B M' H' Z' σ'->(∀a,M'.u a->P a\/Nw X.K H a)->D.bk σ' H'
 |.ok (.ct Z')=>∀σ' H' M',SameO P H H'->Ev X.K B M' H' Z' σ'->(∀a,M'.u a->P a\/Nw X.K H a)->D.ct σ' H'
 |.err c=>XA X P H c
 |.bad=>False
def ML(X:Cx)(F:Y1):TS:=λD σ H=>∃Z B M,Ev X.K B M H Z σ/\PostF X B M.u H (F Z) D
abbrev qU(X:Cx)(s:ZF)(F:Y1):Prop:=PS X s (ML X F)
abbrev nu(X:Cx)(s:List ZF)(F:Y1):Prop:=PSs X s (ML X F)
theorem PostF.later{P P1:Ow}{H1:Hp}{r:Rs Fl}(h:PostF X B P H r D)(s:SameO P H H1)(sub:∀a,P1 a->P a\/Nw X.K H a):PostF X B P1 H1 r D:=by
 have back:∀a,P1 a\/Nw X.K H1 a->P a\/Nw X.K H a:=λa z=>z.elim (sub a) (je s);cases r with
 |bad=>exact h
 |err c=>exact XA.later h s sub
 |ok f=>
  cases f with
  |nx Z'=>exact λσ' H' M' s' E' o'=>h σ' H' M' (s.trans s' sub) E' λa z=>back a (o' a z)
  |rt t=>exact λv H' s' r=>h v H' (s.trans s' sub) r
  |bk Z'=>exact λσ' H' M' s' E' o'=>h σ' H' M' (s.trans s' sub) E' λa z=>back a (o' a z)
  |ct Z'=>exact λσ' H' M' s' E' o'=>h σ' H' M' (s.trans s' sub) E' λa z=>back a (o' a z)
def PostF.xa{P:Ow}{c:Str}(h:PostF X B P H (.err c) D):XA X zF H c:=XA.later (P:=P) h (λ_ _ e _=>e) λ_ z=>z.elim
def sN(Z:En):Rs Fl:=.ok (.nx Z)
def aA(F G:Y1)(Z:En):Rs Fl:=do
 let f <-F Z
 match f with
 |.nx Z'=>G Z'
 |f=>.ok f
def IL:nu X [] sN:=PSs.imp zo λD σ H ⟨Z,B,M,E,h⟩=>h σ H M (λ_ _ e _=>e) E λa z=>.inl z
def FG{dy:List ZF}{F G:Y1}(h1:qU X st F)(h2:nu X dy G):nu X (st::dy) (aA F G):=PSs.imp (lV h1 h2) λD σ H hh_=>by
 obtain⟨Z,B,M,E,h⟩:=hh_;refine⟨Z,B,M,E,?_⟩;unfold aA at h;cases q:F Z with
 |bad=>rw[q]at h;exact h.elim
 |err c=>rw[q]at h;exact h
 |ok f=>
  rw[q,aG]at h;cases f with
  |nx Z'=>exact λσ' H' M' s' E' o'=>⟨Z',B,M',E',h.later s' o'⟩
  |rt t=>exact h
  |bk Z'=>exact h
  |ct Z'=>exact h
def IK{F:Y1}(h:qU X st F):nu X [st] F:=gG h
def aL(f:Y2)(Z:En):Rs Fl:=do
 let t <-f Z
 .ok (.rt t)
def II(ha:df X a fa):qU X (.Return (ZA a) pos) (aL fa):=PS.imp (jN ha) λD σ H hh_=>by
 obtain⟨Z,B,M,E,h⟩:=hh_;refine⟨Z,OO B M,E.o,?_⟩;unfold aL at h;cases q:fa Z with
 |bad=>rw[q]at h;exact h.elim
 |err c=>rw[q]at h;exact PostF.xa h
 |ok t=>
  rw[q,aG]at h;exact λH' s v r=>h v H' (SameO.of s) (r.less λ_ z=>.inl z)
def fS(f:Y3)(F G:Y1)(Z:En):Rs Fl:=do
 let k <-f Z
 if k then F Z else G Z
def Lg{A B:List ZF}{F G:Y1}(hc:xw X c f)(ha:nu X A F)(hb:nu X B G):qU X (.If c A B pos) (fS f F G):=PS.imp (Hs hc ha hb) λD σ H hh_=>by
 obtain⟨Z,B,M,E,h⟩:=hh_;refine⟨Z,OO B M,E.o,?_⟩;unfold fS at h;cases q:f Z with
 |bad=>rw[q]at h;exact h.elim
 |err c=>rw[q]at h;exact PostF.xa h
 |ok k=>
  rw[q,aG]at h;intro H' s;have E':Ev X.K B M H' Z σ:=E.same s;cases k with
  |true=>refine L2.iteT ?_;exact⟨Z,B,M,E',PostF.later (by simpa using h) (SameO.of s) λa z=>.inl z⟩
  |false=>refine L2.iteF ?_;exact⟨Z,B,M,E',PostF.later (by simpa using h) (SameO.of s) λa z=>.inl z⟩
noncomputable def cJ(f:Y2)(g:T->En->Rs En)(Z:En):Rs Fl:=do
 let t <-f Z
 match g t Z with
 |.ok Z'=>.ok (.nx Z')
 |_=>.bad
variable{f:Y2}
def B8(E:Ev X.K B M H Z σ)(h:PostF X B M.u H (cJ f g Z) D):BZ (tP X f) (BY X g) D σ H:=by
 refine⟨Z,OO B M,E.o,?_⟩;unfold cJ at h;cases q:f Z with
 |bad=>rw[q]at h;exact h.elim
 |err c=>rw[q]at h;exact PostF.xa h
 |ok t=>
  rw[q,aG]at h;intro H' s v r;refine⟨Z,OO B M,M,t,E.env.same s,r,?_⟩;cases q2:g t Z with
  |bad=>rw[q2]at h;exact h.elim
  |err c=>rw[q2]at h;exact h.elim
  |ok Z'=>
   rw[q2]at h;exact λσ' E'=>h σ' H' M (SameO.of s) ⟨E',E.mine⟩ λa z=>.inl z
def Fb{Q':VK}(h:tP X f σ H Q)(w:∀v H',Q v H'->Q' v H'):tP X f σ H Q':=by obtain⟨Z,O,E,q⟩:=h;exact⟨Z,O,E,Post.mono q λt H' _ z v r=>w v H' (z v r)⟩
def Lf{elt:ZG}{spos py:Pos}{src:List (Option Nat)}{fc:Y3}(i:Nat){y:Str}
  (hc:X.calm=ZC) (S:LcScope X scope N' src) (hi:BA X tg iter fi)
  (block:∀cl C s₀ H₀ fp,EN (cC X scope cl N' C s₀ H₀ fp) tg tgt/\BH (cC X scope cl N' C s₀ H₀ fp) ifs (BX (cC X scope cl N' C s₀ H₀ fp) fc)/\df (cC X scope cl N' C s₀ H₀ fp) elt fe)
  (hN:X.N.Nodup) (hiy:X.N[i]?=ZA y:=by rfl) (hy:autoParam (Loc X.env.scope y) x_) (hsw:P4 (.ListComp elt [⟨tg,iter,ifs,0⟩] scope pos) (ZA (.Name y py)) spos.line X.env=pure ZC:=by rfl)
  (hf:autoParam (X.fn y=ZC\/X.env.scope.names.lookup y=ZA .local) r_) (hs:autoParam (∀x,Pf iter X.env x=pure x) t_):
  qU X (.Assign [.Name y py] (.ListComp elt [⟨tg,iter,ifs,0⟩] scope pos) spos) (cJ (d9 fi src tgt fc fe) (gN i)):=by
 have hPG:∀cl C s₀ H₀ fp,PG (cC X scope cl N' C s₀ H₀ fp) tg (BY X tgt):=λcl C s₀ H₀ fp=>(block cl C s₀ H₀ fp).1;have hPI:∀cl C s₀ H₀ fp,BH (cC X scope cl N' C s₀ H₀ fp) ifs (tPT0 X.K fc):=λcl C s₀ H₀ fp kw s σ H Q I h=>(block cl C s₀ H₀ fp).2.1 kw s σ H Q I (tPT0.up (X:=cC X scope cl N' C s₀ H₀ fp) h);have hPE:∀cl C s₀ H₀ fp,PE (cC X scope cl N' C s₀ H₀ fp) elt (tP0 X.K fe):=λcl C s₀ H₀ fp kw s σ H Q I h=>(block cl C s₀ H₀ fp).2.2 kw s σ H Q I (tP0.up (X:=cC X scope cl N' C s₀ H₀ fp) h);refine PS.imp (Lx (g:=BY X tgt) (tc:=tPT0 X.K fc) (te:=tP0 X.K fe) (i:=i) hc S hi (λcl C s₀ H₀ fp=>⟨hPG cl C s₀ H₀ fp,hPI cl C s₀ H₀ fp,hPE cl C s₀ H₀ fp⟩) hN hiy hy hsw hf hs) λD σ H ⟨Z,B,M,E,h⟩=>zR (Fb (B8 E h) λv H' z=>?_);obtain⟨Z',O,M',t,E',r,q⟩:=z;unfold gN at q;split at q
 .rename_i Z2 e;split at e
  .rename_i hl;cases e;exact q _ (E'.set hl r)
  .cases e
 .exact q.elim
def IT(ha:df X a fa)(hg:EN X tg g)(hs:VL [tg] a pos.line X.env=pure ZD:=by rfl)(hw:VM [tg] a X.env=pure ZB:=by rfl)
  (h1:(Qs [tg] X.env).map (·.2)=[assign tg X.env]:=by rfl):qU X (.Assign [tg] a pos) (cJ fa g):=PS.imp (Je ha hg hs hw h1) λD σ H ⟨Z,B,M,E,h⟩=>B8 E h
def xS(f:Y2)(Z:En):Rs Fl:=do
 let _ <-f Z
 .ok (.nx Z)
def FF(ha:df X a fa)(hs:P4 a ZB pos.line X.env=pure ZD:=by rfl):qU X (.Expr a pos) (xS fa):=PS.imp (tW ha hs) λD σ H hh_=>by
 obtain⟨Z,B,M,E,h⟩:=hh_;refine⟨Z,OO B M,E.o,?_⟩;unfold xS at h;cases q:fa Z with
 |bad=>rw[q]at h;exact h.elim
 |err c=>rw[q]at h;exact PostF.xa h
 |ok t=>
  rw[q,aG]at h;exact λH' s v r=>h σ H' M (SameO.of s) (E.same s) λa z=>.inl z
noncomputable def bA(g:T->En->Rs En)(F:Y1):List T->Y1
 |[],Z=>.ok (.nx Z)
 |t::r,Z=>do
  let Z1 <-g t Z
  let f <-F Z1
  match f with
  |.nx Z2=>bA g F r Z2
  |.ct Z2=>bA g F r Z2
  |.bk Z2=>.ok (.nx Z2)
  |.rt t=>.ok (.rt t)
def eh(fi:Y0)(g:T->En->Rs En)(F:Y1)(Z:En):Rs Fl:=do
 let ts <-fi Z
 match bA g F ts Z with
 |.ok f=>.ok f
 |_=>.bad
def mV{t:Sem α}{Q:α->Oc->Prop}(h:ZJ (ZK P w) A t Q (λ_ _=>False) s):ZJ (ZK P w) A t Q E s:=Qm h (λ_ _ q=>q) λ_ _ z=>z.elim
def FV{wi:TI}{g:TG}{tb:TS}(hc:X.calm=ZC)(hi:PI X tg iter wi)(hg:PG X.nox tg g)(hb:PSs X.nox body tb)
  (hs:autoParam (∀x,Pf iter X.env x=pure x) t_):PS X (.For tg iter body [] pos) (tFor wi g tb):=by
 intro kw s σ H D I h;refine wpAny_For (cM (hi kw s σ H _ I h) λv s1 h1=>cM h1 λitv s2 h2=>?_) hs;obtain⟨it,fp,tn,J,H2,e,I2,T,st2,f2,W,⟨m0,w0⟩,turn⟩:=h2;subst e;have stat:∀{H':Hp},(∀b∈fp,H' b=ZB)->∀b∈fp,qV X kw H' b:=λhn b hb=>⟨hn b hb,(f2 b hb).2⟩;refine codeAny_forLoop_any (λn s'=>∃i σ' H',Inv X kw σ' H' s'/\tn i s'.heap/\(∀b∈fp,H' b=ZB)/\W i n σ' H') ?_ m0 ⟨0,σ,H2,I2,st2,λb hb=>(f2 b hb).1,w0⟩;rintro n s3 ⟨i,σ3,H3,I3,st3,fr3,w3⟩;rcases turn i n σ3 H3 w3 with⟨stop,qn⟩|⟨go,N,hN,step⟩
 .refine mV (cM (T.done X.nox rfl rfl rfl hc i kw s3 σ3 H3 _ (I3.FB _) (stat fr3) st3 stop) λr s4 ⟨hr,I4⟩=>?_);subst hr;exact Si ⟨σ3,H3,I4.FB _,qn⟩
 .refine mV (cM (T.item X.nox rfl rfl rfl hc i kw s3 σ3 H3 _ (I3.FB _) (stat fr3) st3 go) λr s4 ⟨u,hr,h4⟩=>?_);subst hr;refine mV (cM h4 λ_ s5 hh_=>?_);obtain⟨x,H5,I5,r5,y5,st5,fr5⟩:=hh_;have I5':=Inv.pinned (X:=X.nox) I5 (stat fr5) (T.obj _ _ st5);refine mV (cM (hg _ s5 σ3 H5 x u _ I5' r5 (step x H5 y5)) λ_ s6 hh_=>?_);obtain⟨σ6,H6,I6,q6⟩:=hh_;refine mV (cM (hb _ s6 σ6 H6 _ I6 q6) λf s7 q7=>?_);have again:∀{σ7:L2.St}{H7:Hp},Inv X.nox (kw++pI fp s5.heap) σ7 H7 s7->N σ7 H7->∃m,m<n/\∃i σ' H',Inv X kw σ' H' s7/\tn i s7.heap/\(∀b∈fp,H' b=ZB)/\W i m σ' H':=λ{σ7 H7} I7 n7=>by obtain⟨m',hm,w7⟩:=hN σ7 H7 n7;refine⟨m',hm,i+1,σ7,H7,(Inv.M0 (X:=X.nox) I7).FB _,T.keep _ _ _ st5 λb hb o e=>(I7.pin (b,o) (OI _ (OI _ (jf hb e)))).1,λb hb=>?_,w7⟩;obtain⟨o,e,d⟩:=T.obj _ _ st5 b hb;exact(I7.pin (b,o) (OI _ (OI _ (jf hb e)))).2.1
  cases f with
  |next=>obtain⟨σ7,H7,I7,n7⟩:=q7;exact again I7 n7
  |cont=>obtain⟨σ7,H7,I7,n7⟩:=q7;exact again I7 n7
  |brk=>obtain⟨σ7,H7,I7,q7⟩:=q7;exact⟨σ7,H7,(Inv.M0 (X:=X.nox) I7).FB _,q7⟩
  |ret v=>obtain⟨x7,σ7,H7,I7,r7,q7⟩:=q7;exact⟨x7,σ7,H7,(Inv.M0 (X:=X.nox) I7).FB _,r7,q7⟩
theorem IM{F:Y1}(hc:X.calm=ZC)(hi:BA X tg iter fi)(hg:EN X.nox tg g)(hb:nu X.nox body F)
  (hs:autoParam (∀x,Pf iter X.env x=pure x) t_):qU X (.For tg iter body [] pos) (eh fi g F):=PS.imp (FV hc hi hg hb hs) λD σ H hh_=>by
 obtain⟨Z,B,M,E,h⟩:=hh_;refine⟨Z,OO B M,E.o,?_⟩;unfold eh at h;cases q:fi Z with
 |bad=>rw[q]at h;exact h.elim
 |err c=>rw[q]at h;exact PostF.xa h
 |ok ts=>
  rw[q,aG]at h;cases qq:bA g F ts Z with
  |bad=>rw[qq]at h;exact h.elim
  |err c=>rw[qq]at h;exact h.elim
  |ok fin=>
  rw[qq]at h;intro H1 s1 J hJ;have E1:Ev X.K B M H1 Z σ:=E.same s1;have h1:PostF X B M.u H1 (.ok fin) D:=PostF.later h (SameO.of s1) λa z=>.inl z;refine⟨λi m σ' H'=>m=ts.length - i/\i<=ts.length/\SameO M.u H1 H'/\∃Z' M',Ev X.K B M' H' Z' σ'/\(∀a,M'.u a->M.u a\/Nw X.K H1 a)/\bA g F (ts.drop i) Z'=.ok fin,
   ⟨ts.length,by omega,Pg _,λ_ _ e _=>e,Z,M,E1,λa z=>.inl z,by simpa using qq⟩,?_⟩
  rintro i m σ' H' ⟨rfl,hi',sm,Z',M',E',ow,hl⟩;have it:=hJ M.u (OO B M') (λa z=>.inl (.inr z)) (λa z=>z.elim (λw=>.inl (.inl w)) λw=>(ow a w).elim (λy=>.inl (.inr y)) .inr) i H' sm (λa z=>(E'.env.trk a z).some);by_cases hlt:i<ts.length
  .have hti:ts[i]?=ZA ts[i]:=by simp
   obtain⟨go,yl⟩:=it.2 ts[i] hti;rw[Qv hlt]at hl;unfold bA at hl;refine .inr ⟨go,λσ2 H2=>∃m',m'<ts.length - i/\(m'=ts.length - (i+1)/\i+1<=ts.length/\SameO M.u H1 H2/\∃Z2 M2,Ev X.K B M2 H2 Z2 σ2/\(∀a,M2.u a->M.u a\/Nw X.K H1 a)/\bA g F (ts.drop (i+1)) Z2=.ok fin),λσ2 H2 z=>z,λx Hc y=>?_⟩;obtain⟨sc,rx⟩:=yl x Hc y;refine⟨Z',OO B M',M',ts[i],E'.env.same sc,rx,?_⟩;cases e1:g ts[i] Z' with
   |bad=>rw[e1]at hl;cases hl
   |err cc=>rw[e1]at hl;cases hl
   |ok Z1=>
    rw[e1,aG]at hl;intro σ1 Eg;have E2:Ev X.K B M' Hc Z1 σ1:=⟨Eg,E'.mine⟩;refine⟨Z1,B,M',E2,?_⟩;have smc:SameO M.u H1 Hc:=λb o e n=>sc _ _ (sm b o e n);have onward:∀{σ3:L2.St}{H3:Hp}{Z3:En}{M3:Mn},SameO M'.u Hc H3->Ev X.K B M3 H3 Z3 σ3->(∀a,M3.u a->M'.u a\/Nw X.K Hc a)->bA g F (ts.drop (i+1)) Z3=.ok fin ->
      ∃m',m'<ts.length - i/\(m'=ts.length - (i+1)/\i+1<=ts.length/\SameO M.u H1 H3/\∃Z2 M2,Ev X.K B M2 H3 Z2 σ3/\(∀a,M2.u a->M.u a\/Nw X.K H1 a)/\bA g F (ts.drop (i+1)) Z2=.ok fin):=
     λ{σ3 H3 Z3 M3} s3 E3 o3 p3=>⟨_,by omega,rfl,hlt,smc.trans s3 ow,Z3,M3,E3,λa z=>(o3 a z).elim (ow a) (je smc),p3⟩
    cases e2:F Z1 with
    |bad=>rw[e2]at hl;cases hl
    |err cc=>rw[e2]at hl;cases hl
    |ok f=>
     rw[e2,aG]at hl;cases f with
     |nx Z2=>exact λσ3 H3 M3 s3 E3 o3=>onward s3 E3 o3 hl
     |ct Z2=>exact λσ3 H3 M3 s3 E3 o3=>onward s3 E3 o3 hl
     |bk Z2=>
      cases hl;exact λσ3 H3 M3 s3 E3 o3=>h1 σ3 H3 M3 (smc.trans s3 ow) E3 λa z=>(o3 a z).elim (ow a) (je smc)
     |rt t=>
      cases hl;exact λv H3 s3 r=>h1 v H3 (smc.trans s3 ow) r
  .refine .inl ⟨it.1 (by omega),?_⟩;have hi2:i=ts.length:=by omega
   subst hi2;rw[WI]at hl;cases hl;exact h1 σ' H' M' sm E' ow
noncomputable def cg(c:Y3)(F:Y1):Nat->Y1
 |0,_=>.bad
 |n+1,Z=>match c Z with
  |.ok ZD=>.ok (.nx Z)
  |.ok ZC=>match F Z with
   |.ok (.nx Z')=>cg c F n Z'
   |.ok (.ct Z')=>cg c F n Z'
   |.ok (.bk Z')=>.ok (.nx Z')
   |.ok (.rt t)=>.ok (.rt t)
   |_=>.bad
  |_=>.bad
def Cn{fc:Y3}{F:Y1}(n:Nat)(hc:xw X.nox c fc)(hb:nu X.nox body F):qU X (.While c body [] pos) (cg fc F n):=by
 have base:PS X.nox (.While c body [] pos) (xI (BX X.nox fc) (ML X.nox F)):=CB PassesOwn.never hc hb;intro kw s σ H D I ⟨Z,B,M,E,h⟩;cases qq:cg fc F n Z with
 |bad=>rw[qq]at h;exact h.elim
 |err c=>
  exfalso;have:∀n Z,cg fc F n Z≠ .err c:=by
   intro n;induction n with
   |zero=>intro Z z;cases z
   |succ n ih=>
    intro Z z;unfold cg at z;split at z
    .cases z
    .split at z <;> first|exact ih _ z|cases z
    .cases z
  exact this n Z qq
 |ok fin=>
  rw[qq]at h;have goal:xI (BX X.nox fc) (ML X.nox F) D σ H:=by
   refine⟨λm σ' H'=>SameO M.u H H'/\∃Z' M',Ev X.K B M' H' Z' σ'/\(∀a,M'.u a->M.u a\/Nw X.K H a)/\cg fc F m Z'=.ok fin,⟨n,λ_ _ e _=>e,Z,M,E,λa z=>.inl z,qq⟩,?_⟩;rintro m σ' H' ⟨sm,Z',M',E',ow,hl⟩;cases m with
   |zero=>cases hl
   |succ m=>
    refine⟨Z',OO B M',E'.o,?_⟩;unfold cg at hl;cases e1:fc Z' with
    |bad=>rw[e1]at hl;cases hl
    |err cc=>rw[e1]at hl;cases hl
    |ok k=>
     rw[e1]at hl;intro H2 s2;have E2:Ev X.K B M' H2 Z' σ':=E'.same s2;have sm2:SameO M.u H H2:=λb o e n=>s2 _ _ (sm b o e n);cases k with
     |false=>
      cases hl;refine L2.iteF ?_;exact h σ' H2 M' sm2 E2 ow
     |true=>
      refine L2.iteT ?_;refine⟨λσ3 H3=>SameO M.u H H3/\∃Z3 M3,Ev X.K B M3 H3 Z3 σ3/\(∀a,M3.u a->M.u a\/Nw X.K H a)/\cg fc F m Z3=.ok fin,λσ3 H3 z=>⟨m,WH m,z⟩,Z',B,M',E2,?_⟩;have hl':(match F Z' with|.ok (.nx Z')=>cg fc F m Z'|.ok (.ct Z')=>cg fc F m Z'|.ok (.bk Z')=>.ok (.nx Z')|.ok (.rt t)=>.ok (.rt t)|_=>.bad)=.ok fin:=hl;cases e2:F Z' with
      |bad=>rw[e2]at hl';cases hl'
      |err cc=>rw[e2]at hl';cases hl'
      |ok f=>
       rw[e2]at hl';cases f with
       |nx Z2=>exact λσ3 H3 M3 s3 E3 o3=>⟨sm2.trans s3 ow,Z2,M3,E3,λa z=>(o3 a z).elim (ow a) (je sm2),hl'⟩
       |ct Z2=>exact λσ3 H3 M3 s3 E3 o3=>⟨sm2.trans s3 ow,Z2,M3,E3,λa z=>(o3 a z).elim (ow a) (je sm2),hl'⟩
       |bk Z2=>
        cases hl';exact λσ3 H3 M3 s3 E3 o3=>h σ3 H3 M3 (sm2.trans s3 ow) E3 λa z=>(o3 a z).elim (ow a) (je sm2)
       |rt t=>
        cases hl';exact λv H3 s3 r=>h v H3 (sm2.trans s3 ow) r
  refine mV (cM (base kw s σ H D (I.FB _) goal) λf s' q=>?_);cases f with
  |next=>obtain⟨σ7,H7,I7,n7⟩:=q;exact⟨σ7,H7,I7.FB _,n7⟩
  |cont=>obtain⟨σ7,H7,I7,n7⟩:=q;exact⟨σ7,H7,I7.FB _,n7⟩
  |brk=>obtain⟨σ7,H7,I7,n7⟩:=q;exact⟨σ7,H7,I7.FB _,n7⟩
  |ret v=>obtain⟨x7,σ7,H7,I7,r7,q7⟩:=q;exact⟨x7,σ7,H7,I7.FB _,r7,q7⟩
def K4(Z:En):Rs Fl:=.ok (.ct Z)
end
noncomputable def cb(F:Y1)(Z:En):Rs T:=do
 let f <-F Z
 match f with
 |.nx _=>.ok .non
 |.rt t=>.ok t
 |_=>.bad
def aV(n:Nat)(ts:List T):En:=ts.map Sl.va++OH (n - ts.length) Sl.em
variable{ts:List T}
def Az{o:OT}(e:(aV n ts)[i]?=ZA (.ow o)):False:=by
 unfold aV at e;by_cases hi:i<ts.length
 .rw[Q9 (by simpa using hi),Ot,Od hi]at e;cases e
 .rw[RQ (by simpa using hi),Rm]at e;split at e <;> cases e
variable{N:List Str}
theorem rP(r:Reps K O H ts vs)(hl:ts.length<=N.length)(trk:∀a,O a->Mtb H a):Ev K O noM H (aV N.length ts) (start N vs):=by
 have hlen:=r.length;have sub:∀a,OO O noM a->O a:=λa z=>z.elim id λ⟨_,w⟩=>w.elim;refine⟨⟨by unfold aV L2.start;simp;omega,λi t e=>?_,λi o e=>(Az e).elim,λ_ _ z=>z.elim,λ_ _ _ z=>z.elim,λa z=>trk a (sub a z)⟩,λa ⟨_,z⟩=>z.elim⟩;unfold aV at e;unfold L2.start;by_cases hi:i<ts.length
 .rw[Q9 (by simpa using hi),Ot,Od hi]at e;have e':ts[i]=t:=by injection e with e;injection e
  obtain⟨v,e1,e2⟩:=r.get (i:=i) (t:=t) (by rw[<-e'];simp);refine⟨v,?_,e2.less sub⟩;rw[Q9 (by simp;omega),Ot,e1];rfl
 .rw[RQ (by simpa using hi),Rm]at e;split at e <;> cases e
section
variable {mg:WF}{base:ZH}
theorem Mj{qual:Str}{f:ZE}{g:List T->Rs T}(Fn:L2.Fun K x qual st f fd)(S:dq N ps (ay st))(hn:ps.length=n)
  (hbody:∀(cdv:N8),fd.code=cdv->∀(A:OU)(outer:List Env)(s:Oc)(H:Hp)(E:XK),Room k (A.deeper (envOfC qual (ay st) s.heap.objs.size f cdv)) ->
   ∃F,nu (jm CX0 P w K mg base N qual (ay st) f cdv A outer s H E).nox (de st) F/\∀ts,ts.length=n->∀t,g ts=.ok t->cb F (aV N.length ts)=.ok t):rH P w K mg base CX0 (k+1) f fd ps (spP K n g):=by
 have hpl:ps.length<=N.length:=by have:=congrArg Py S.pre;rw[Po]at this;omega
 refine Fn.ok S (λvs H Q E h=>?_) (λcdv hcv A outer s H vs Q E hr h=>?_)
 .obtain⟨ts,O,r,_,hl,_⟩:=h;rw[<-r.length,hl,hn]
 .obtain⟨ts,O,r,trk,hl,h⟩:=h;obtain⟨F,hF,hv⟩:=hbody cdv hcv A outer s H E hr;refine⟨_,hF,aV N.length ts,O,noM,rP r (by omega) trk,?_⟩;have no:∀a,¬noM.u a:=λa ⟨_,z⟩=>z;cases q:g ts with
  |bad=>rw[q]at h;exact h.elim
  |err c=>rw[q]at h;exact h.elim
  |ok t=>
   rw[q]at h;have hb:=hv ts hl t q;unfold cb at hb;cases q2:F (aV N.length ts)with
   |bad=>rw[q2]at hb;cases hb
   |err c=>rw[q2]at hb;cases hb
   |ok fl=>
    rw[q2,aG]at hb;have sameOf:∀H',SameO noM.u H H'->Same H H':=λH' s b o e=>s b o e (no b);cases fl with
    |nx Z'=>cases hb;exact λσ' H' M' s' E' o'=>h .non H' (sameOf H' s') Rep.NB
    |rt t'=>cases hb;exact λv H' s' r'=>h v H' (sameOf H' s') r'
    |bk Z'=>cases hb
    |ct Z'=>cases hb
end
end Tr
namespace Enu
open PySem
open AutoSeq1 (wpAny_loadPart')
variable{its:Array N8}
def EY{it tt:ZE}{x:N8}(hi:s.heap.IsTupleIter it tt k)(ht:s.heap.IsTuple tt its)(hx:its[k]?=ZA x)
  (hQ:∀h',h'.IsTupleIter it tt (k+1)->SF it s.heap h'->Q x {s with heap:=h'}):ZJ (ZK prog w) A (Q8 (.ref it)) Q E s:=by
 obtain⟨ob,g1,g2,g3⟩:=id hi;obtain⟨ot,k1,_,m,k3⟩:=ht;unfold Q8;refine N5 (Qi (name:=Om "__next__") hi.typeIs Q1 (Q3 Q1 hi.typeIs S9 ?_ (S1 _)));show ZJ (ZK prog w) _ (field (.ref it) 0 >>= _) _ _ s;refine N5 (Qt g1 g3 (x:=.ref tt) rfl ?_);show ZJ (ZK prog w) _ (if (Oz tt == Pl)=ZC then _ else _) _ _ s;rw[if_neg (show ¬((Oz tt == Pl)=ZC)by exact OA)];show ZJ (ZK prog w) _ (field (.ref it) 1 >>= _) _ _ s;refine N5 (Qt g1 g3 (x:=.int k 0) rfl ?_);show ZJ (ZK prog w) _ (VV (.ref tt) >>= _) _ _ s;refine N5 (RW k1 k3 ?_);simp only[hx,Pz];refine N5 (Vb g1 g3 (by simp) (Oi ⟨x,rfl,Oi (hQ _ ?_ (Vc ..))⟩));refine⟨_,RB _ g1 (UE (Sf g3 _)),(Obj.cls_mapFields ..).trans g2,?_⟩;rw[Sf g3];simp[rawInt]
def tupStop{it tt:ZE}(hh:A.handled=ZB)(hi:s.heap.IsTupleIter it tt k)(ht:s.heap.IsTuple tt its)(hx:its[k]?=ZB)
  (hE:∀h' e,Heap.ExtBut it s.heap h'->(∃o,h'.get? e=ZA o/\o.cls=.type "StopIteration")->E (.ref e) {s with heap:=h'}):ZJ (ZK prog w) A (Q8 (.ref it)) Q E s:=by
 obtain⟨ob,g1,g2,g3⟩:=id hi;obtain⟨ot,k1,_,m,k3⟩:=ht;unfold Q8;refine N5 (Qi (name:=Om "__next__") hi.typeIs Q1 (Q3 Q1 hi.typeIs S9 ?_ (S1 _)));show ZJ (ZK prog w) _ (field (.ref it) 0 >>= _) _ _ s;refine N5 (Qt g1 g3 (x:=.ref tt) rfl ?_);show ZJ (ZK prog w) _ (if (Oz tt == Pl)=ZC then _ else _) _ _ s;rw[if_neg (show ¬((Oz tt == Pl)=ZC)by exact OA)];show ZJ (ZK prog w) _ (field (.ref it) 1 >>= _) _ _ s;refine N5 (Qt g1 g3 (x:=.int k 0) rfl ?_);show ZJ (ZK prog w) _ (VV (.ref tt) >>= _) _ _ s;refine N5 (RW k1 k3 ?_);simp only[hx,Pz];refine N5 (SA (N5 (Vb g1 g3 (by simp) ?_)));show ZJ (ZK prog w) _ (newExc (.type "StopIteration") [] >>= _) _ _ _;refine N5 ?_;simp only[newTuple,newExc];refine N5 (Pq ?_ (by size_fits));refine N5 (m:=firstArgMember _ _) (wpAny_of_eq (a:=Pl) (by first| (simp only[firstArgMember];rfl)|rfl) ?_);refine Pq ?_ (by size_fits);simp only[raiseNew];refine N5 (wpAny_handled ?_);first|rw[hh]|rw[show A.in1.handled=ZB from hh]
 refine N5 (Oi (wpAny_throw ?_));refine hE _ _ (((Vc ..).extBut.push _).push _) ⟨_,Oy _ rfl,rfl⟩
def tupDraws(hh:A.handled=ZB)(it tt:ZE)(hne:tt≠it)(its:Array N8):
  Draws prog w A it [it,tt] its.size (λi v=>its[i]?=ZA v) (λi h=>h.IsTupleIter it tt i/\h.IsTuple tt its) where
 live:=λ_ _ st=>by obtain⟨o,ho,_⟩:=st.1;exact⟨o,ho⟩
 frame:=λ_ _ _ st hk=>by obtain⟨⟨o,e,r⟩,⟨o',e',r'⟩⟩:=st;exact⟨⟨o,hk it (by simp) o e,r⟩,⟨o',hk tt (by simp) o' e',r'⟩⟩
 item:=λi s Q E hi st hQ=>by refine EY st.1 st.2 (x:=its[i]) (by simp[hi]) λh' hit' hs'=>?_;obtain⟨o',e',r'⟩:=st.2;exact hQ _ h' s.toks (by simp[hi]) ⟨hit',⟨o',(hs'.2 tt hne).trans e',r'⟩⟩ hs'
 done:=λs Q E st hE=>tupStop hh st.1 st.2 (by simp) hE
def newT(l:ZE)(items:Array N8)(n:Nat)(dct:Option ZE)(sl:Array (Option N8)):
  Meets (Builtin.«enumerate.__new__» ⟨[.type "enumerate",.ref l],[]⟩) (λ_ R s=>s.heap.get? l=ZA {cls:=.type "tuple",dict:=dct,data:=.seq items n,slots:=sl} ∧
   R (.ok (.ret (.ref (s.heap.push {cls:=.type "tuple_iterator",data:=.fields #[.ref l,.int 0 0]}).objs.size)))
    {s with heap:=(s.heap.push {cls:=.type "tuple_iterator",data:=.fields #[.ref l,.int 0 0]}).push {cls:=.type "enumerate",data:=.fields #[.none,.bool ZD,.ref s.heap.objs.size,rawInt 0,.none,.none]}}):=
 .of_wp λprog w A R s h=>by
  obtain⟨hp,g,d,tk,os⟩:=s;obtain⟨hl,h⟩:=h;have hsub:=sub_enumerate;have hT:Heap.IsTuple (Shared.heap ⟨hp,g,d,tk,os⟩) l items:=⟨_,hl,rfl,n,rfl⟩;wp_walk using OW hl;refine wpAny_stack_any λst=>Oi ?_;split
  .rename_i c _ _ _ _ _;cases (c == Ru "enumerate")
   .wp_walk using OW hl,Sk hT
    exact⟨_,rfl,h⟩
   .wp_walk using OW hl,Sk hT
    exact⟨_,rfl,h⟩
  .wp_walk using OW hl,Sk hT
   exact⟨_,rfl,h⟩
def callT{l:ZE}{items:Array N8}(hL:s.heap.IsTuple l items)
  (h:∀h',IsEnum h' (s.heap.objs.size+1) s.heap.objs.size 0 .none->h'.IsTupleIter s.heap.objs.size l 0->h'.objs.size=s.heap.objs.size+2 ->
   (∀b o,s.heap.get? b=ZA o->h'.get? b=ZA o)->Q (.ref (s.heap.objs.size+1)) {s with heap:=h'}):ZJ (ZK prog w) A (call (.type "enumerate") [.ref l]) Q E s:=by
 obtain⟨⟨cc,dc,dd,ss⟩,hl,hc,n,hd⟩:=hL;replace hc:cc=.type "tuple":=hc;replace hd:dd=.seq items n:=hd;subst hc hd;refine callType_new F.called_enumerate (by decide) (F.typeCall_enumerate_1 _) (F.newCall_enumerate_1 _) (λobj=>F.args_object_init_2 obj _) F.entry_enumerate_new (newT l items n dc ss) ⟨hl,?_⟩;have hz:(s.heap.push {cls:=.type "tuple_iterator",data:=.fields #[.ref l,.int 0 0]}).objs.size=s.heap.objs.size+1:=Rv ..;show _/\_;rw[hz];have he:IsEnum ((s.heap.push {cls:=.type "tuple_iterator",data:=.fields #[.ref l,.int 0 0]}).push
   {cls:=.type "enumerate",data:=.fields #[.none,.bool ZD,.ref s.heap.objs.size,rawInt 0,.none,.none]}) (s.heap.objs.size+1) s.heap.objs.size 0 .none:=by
  have q:=Oy (s.heap.push {cls:=.type "tuple_iterator",data:=.fields #[.ref l,.int 0 0]})
   (o:={cls:=.type "enumerate",data:=.fields #[.none,.bool ZD,.ref s.heap.objs.size,rawInt 0,.none,.none]}) rfl
  rw[hz]at q;exact q
 refine⟨⟨_,he,rfl⟩,h _ he ⟨_,Of _ (Oy _ rfl),rfl,rfl⟩ (by rw[Rv,hz]) λb o x=>Of _ (Of _ x)⟩
end Enu
namespace L2
open PySem PySem.Spec PyProof.Rows
variable{X:Cx}{fp:List ZE}{h':ZH}
section
variable {kw:Uf}{σ:L2.St}{H:Hp}
def Inv.Nz{Tp:ZE}{xs:List V}(I:Inv X kw σ H s)(hf:∀b∈fp,qV X kw H b)(k:∀b o,b∉fp->s.heap.get? b=ZA o->h'.get? b=ZA o)
  (ht:∀b∈fp,∃o,h'.get? b=ZA o) (hT:s.heap.objs.size<=Tp) (new:ObjOk X.prog X.w (upd H Tp (.tup xs)) h' Tp (.tup xs)):Inv X kw σ (upd H Tp (.tup xs)) {s with heap:=h',toks:=t'}:=by
 have hn:H Tp=ZB:=I.hok.fresh hT;have oB:∀b o,s.heap.get? b=ZA o->b≠Tp:=λb o e=>O5 (Oo (Os e) hT);have nf:∀b u,H b=ZA u->b∉fp:=λb u e z=>by rw[(hf b z).1]at e;cases e
 refine I.step (g':=s.gens) (d':=s.drawn) (ch:=fp) (λb hb=>⟨(hf b hb).2.2.2.1,(hf b hb).2.1,(hf b hb).2.2.2.2.1,(hf b hb).2.2.2.2.2⟩) (λb o _ _ hc e _=>k b o hc e) (λb o _ _ hc e _=>⟨o.slots,k b o hc e⟩)
  (λb o _ e n=>by rw[aF (oB b o e)];exact n) (λb o hc e=>⟨o,k b o hc e⟩) (λb ys e=>by rw[aF (cY e hn)];exact e) (λb o u e=>by rw[aF (cY e hn)];exact e)
  (λb ps e=>(by rw[aF (cY e hn),e])) (λm hm=>?_) (λb u e=>?_) I.bare
 .obtain⟨o,es,ep,ho,r⟩:=hm;exact⟨o,es,ep,k _ o (λz=>(hf _ z).2.1 rfl) ho,r⟩
 .by_cases hb:b=Tp
  .subst hb;rw[aH]at e;cases e;exact new
  .rw[aF hb]at e;refine(I.hok b u e).M4 (λc v hc q=>k c v ?_ q) (λc q=>by rw[aF (cY q hn)];exact q) λc ys q=>by rw[aF (cY q hn)];exact q
   rcases hc with z|z
   .rw[z];exact nf b u e
   .exact nf c _ z
def Inv.Na(I:Inv X kw σ H s)(hf:∀b∈fp,qV X kw H b)(k:∀b o,b∉fp->s.heap.get? b=ZA o->h'.get? b=ZA o):Inv X kw σ H {s with heap:=h',toks:=t'}:=by
 have nf:∀b u,H b=ZA u->b∉fp:=λb u e z=>by rw[(hf b z).1]at e;cases e
 refine I.step (g':=s.gens) (d':=s.drawn) (ch:=fp) (λb hb=>⟨(hf b hb).2.2.2.1,(hf b hb).2.1,(hf b hb).2.2.2.2.1,(hf b hb).2.2.2.2.2⟩) (λb o _ _ hc e _=>k b o hc e) (λb o _ _ hc e _=>⟨o.slots,k b o hc e⟩)
  (λb o _ e n=>n) (λb o hc e=>⟨o,k b o hc e⟩) (λb ys e=>e) (λb o u e=>e)
  (λb ps e=>(by rw[e])) (λm hm=>?_) (λb u e=>?_) I.bare
 .obtain⟨o,es,ep,ho,r⟩:=hm;exact⟨o,es,ep,k _ o (λz=>(hf _ z).2.1 rfl) ho,r⟩
 .refine(I.hok b u e).M4 (λc v hc q=>k c v ?_ q) (λc q=>q) λc ys q=>q;rcases hc with z|z
  .rw[z];exact nf b u e
  .exact nf c _ z
end
def EM(K:N4)(H:Hp)(a:ZE)(tt:Bool)(xs:List V):Prop:=if tt then SqT K H a xs else SqL K H a xs
def MW(K:N4)(a:ZE)(tt:Bool):It:=
 ⟨λi H=>∃xs x,EM K H a tt xs/\xs[i]?=ZA x,λi H x H'=>∃p v,x=.ref p/\H p=ZB/\H'=upd H p (.tup [.int (i:Nat),v])/\∀xs,EM K H a tt xs->xs[i]?=ZA v,λi H=>∃xs,EM K H a tt xs/\xs.length<=i⟩
def itAt(tt:Bool)(h:ZH)(it a:ZE)(i:Nat):Prop:=if tt then h.IsTupleIter it a i else h.IsListIter it a i
variable{h:ZH}
def itAt.obj{it a:ZE}(st:itAt tt h it a i):∃o,h.get? it=ZA o/\∀v,o.data≠ .cell v:=by
 cases tt with
 |true=>obtain⟨o,e,c,d⟩:=(show h.IsTupleIter it a i from st);exact⟨o,e,λv z=>by rw[d]at z;cases z⟩
 |false=>obtain⟨o,e,c,d⟩:=(show h.IsListIter it a i from st);exact⟨o,e,λv z=>by rw[d]at z;cases z⟩
def itAt.keep{it a:ZE}(st:itAt tt h it a i)(k:∀o,h.get? it=ZA o->h'.get? it=ZA o):itAt tt h' it a i:=by
 cases tt with
 |true=>obtain⟨o,e,r⟩:=(show h.IsTupleIter it a i from st);exact(show h'.IsTupleIter it a i from⟨o,k o e,r⟩)
 |false=>obtain⟨o,e,r⟩:=(show h.IsListIter it a i from st);exact(show h'.IsListIter it a i from⟨o,k o e,r⟩)
variable{elts:List ZG}{pos:Pos}
def Ax(tt:Bool)(a e it:ZE)(hei:e≠it):
  By P w K (.Tuple elts kk pos) (MW K a tt) [e,it] e (λi h=>(∃old,IsEnum h e it i old)/\itAt tt h it a i) where
 mem:=by simp
 obj:=λi h st b hb=>by
  obtain⟨⟨old,he⟩,hi⟩:=st;rcases Oe.mp hb with rfl|hb
  .exact⟨_,he,λv z=>by have z':W0 _=Data.cell v:=z;cases z'⟩
  .rw[Ox.mp hb];exact hi.obj
 keep:=λi h h' st k=>by obtain⟨⟨old,he⟩,hi⟩:=st;exact⟨⟨old,k e (by simp) _ he⟩,hi.keep λo q=>k it (by simp) o q⟩
 item:=by
  intro X hP hw hK hc i kw s σ H E I hf st hg;subst hP hw hK;obtain⟨xs,x,hq,hx⟩:=hg;obtain⟨⟨old,he⟩,hi⟩:=st;have key:∀(its:List N8),Vals xs its->(∀ys,EM X.K H a tt ys->ys=xs)->∀(fp0:List ZE)(St:Nat->ZH->Prop),Draws X.prog X.w X.A.in1 it fp0 its.toArray.size (λi v=>its.toArray[i]?=ZA v) St->e∉fp0->it∈fp0->St i s.heap ->
    (∀h',St (i+1) h'->itAt tt h' it a (i+1)) ->
    ZJ (ZK X.prog X.w) X.A (pyNext (.ref e)) (λr s1=>∃u,r=ZA u/\ZJ (ZK X.prog X.w) X.A (Sj (.Tuple elts kk pos) (.ref e) u) (λ_ s2=>∃x' H',Inv X kw σ H' s2/\RelV x' u/\(MW X.K a tt).yld i H x' H' ∧
     ((∃old,IsEnum s2.heap e it (i+1:Nat) old)/\itAt tt s2.heap it a (i+1))/\∀b∈ [e,it],H' b=ZB) E s1) E s:=by
   intro its rv uniq fp0 St D hef hif hst hnext;obtain⟨u,hu,ru⟩:=rv.get hx;have hlt:i<its.toArray.size:=by have:=(Og.mp hu).1;simpa using this
   have W:=WalksT.enumerateD D e hei hef hif;refine W.item i s _ _ hlt ⟨⟨old,he⟩,hst⟩ λTp vals h1 tk hPt hTsz hTup hMid hk=>⟨.ref Tp,rfl,?_⟩;refine W.go elts kk pos i Tp {s with heap:=h1,toks:=tk} _ _ hMid λh2 hst2 hk2=>?_;obtain⟨t,x',hPx,hvals⟩:=hPt;subst hvals;have hxe:x'=u:=by
    have h1':its.toArray[i]?=ZA x':=hPx;have h2':its.toArray[i]?=ZA u:=by simpa using hu
    rw[h1']at h2';exact OM h2'
   subst hxe;have hTw:=W.apart i Tp h1 hMid;obtain⟨oT,eT,rT⟩:=hTup;have eT2:h2.get? Tp=ZA oT:=hk2 Tp oT hTw eT;have kAll:∀b o,b∉ [e,it]->s.heap.get? b=ZA o->h2.get? b=ZA o:=λb o hb q=>hk2 b o hb (hk b o hb q);obtain⟨⟨old2,he2⟩,hs2⟩:=hst2;have hit2:=hnext h2 hs2;have there:∀b∈ [e,it],∃o,h2.get? b=ZA o:=λb hb=>by
    rcases Oe.mp hb with rfl|hb
    .exact⟨_,he2⟩
    .rw[Ox.mp hb];obtain⟨o,q,_⟩:=hit2.obj;exact⟨o,q⟩
   have hn:H Tp=ZB:=I.hok.fresh hTsz;have new:ObjOk X.prog X.w (upd H Tp (.tup [.int (i:Nat),x])) h2 Tp (.tup [.int (i:Nat),x]):=
    ⟨by show 2<=ZI;decide,[.int (i:Nat) t,x'],.cons ⟨t,rfl⟩ (.cons ru .nil),⟨oT,eT2,rT⟩⟩
   have I2:=I.Nz (t':=tk) hf kAll there hTsz new;refine⟨.ref Tp,_,I2,rfl,⟨Tp,x,rfl,hn,rfl,λys hy=>by rw[uniq ys hy];exact hx⟩,⟨⟨old2,he2⟩,hit2⟩,λb hb=>?_⟩;have hbT:b≠Tp:=λz=>by
    obtain⟨o,q⟩:∃o,s.heap.get? b=ZA o:=by
     rcases Oe.mp hb with rfl|hb
     .exact⟨_,he⟩
     .rw[Ox.mp hb];obtain⟨o,q,_⟩:=hi.obj;exact⟨o,q⟩
    exact absurd (Oo (Os q) hTsz) (by rw[z];exact O7 _)
   rw[aF hbT];exact(hf b hb).1
  have hne:∀b∈ [e,it],a≠b:=λb hb z=>by
   have hb':=(hf b hb).1;rw[<-z]at hb';have hbs:=hf b hb;cases tt with
   |true=>
    have hq':SqT X.K H a xs:=hq;rcases hq' with(q|⟨o,q⟩)|⟨o,its,n,q,_⟩
    .rw[hb']at q;cases q
    .rw[hb']at q;cases q
    .rcases hbs.2.2.2.1 with z1|z1
     .exact I.ok.noex a o (I.ok.mod.kin a o q) (z▸z1)
     .exact absurd (Oo (Os (I.ok.bs a o (I.ok.mod.kin a o q)).1) (z▸z1)) (O7 _)
   |false=>
    have hq':SqL X.K H a xs:=hq;rcases hq' with(q|⟨o,q⟩)|⟨o,its,n,q,_⟩
    .rw[hb']at q;cases q
    .rw[hb']at q;cases q
    .rcases hbs.2.2.2.1 with z1|z1
     .exact I.ok.noex a o (I.ok.mod.kin a o q) (z▸z1)
     .exact absurd (Oo (Os (I.ok.bs a o (I.ok.mod.kin a o q)).1) (z▸z1)) (O7 _)
  have hea:e≠a:=λz=>hne e (by simp) z.symm;have hia:it≠a:=λz=>hne it (by simp) z.symm;cases tt with
  |true=>
   have hq':SqT X.K H a xs:=hq;obtain⟨its,rv,p,hz⟩:=I.tuple hq';exact key its rv (λys hy=>I.M8 hy hq') _ _ (Enu.tupDraws (A:=X.A.in1) (I.ok.hd hc) it a (PJ hia) its.toArray) (by simp[hei,hea]) (by simp) ⟨hi,p⟩ λh' z=>z.1
  |false=>
   have hq':SqL X.K H a xs:=hq;obtain⟨its,rv,p,hz⟩:=I.list hq';exact key its rv (λys hy=>I.Nc hy hq') _ _ (Draws.list (A:=X.A.in1) (I.ok.hd hc) it a (PJ hia) its.toArray) (by simp[hei,hea]) (by simp) ⟨hi,p.isList⟩ λh' z=>z.1
 done:=by
  intro X hP hw hK hc i kw s σ H E I hf st hg;subst hP hw hK;obtain⟨xs,hq,hx⟩:=hg;obtain⟨⟨old,he⟩,hi⟩:=st;have fin:∀h',Heap.ExtBut it s.heap h'->(ZB:Option N8)=ZB/\Inv X kw σ H {s with heap:=h'}:=λh' eb=>⟨rfl,I.Na (t':=s.toks) hf λb o hb q=>eb b o (λz=>hb (by simp[z])) q⟩;cases tt with
  |true=>
   have hq':SqT X.K H a xs:=hq;obtain⟨its,rv,p,hz⟩:=I.tuple hq';have hl:=rv.length;have hnone:its.toArray[i]?=ZB:=by simp;omega
   have hT:s.TypeIs (.ref e) "enumerate":=⟨_,he,rfl⟩;unfold pyNext;refine N5 (VW (Qi (name:=Om "__next__") hT UF (Q3 UF hT F.entry_enumerate_next ?_ (F.args_enumerate_next_1 _))));show ZJ (ZK X.prog X.w) _ (field (.ref e) 2 >>= _) _ _ _;refine N5 (Qt he rfl (x:=.ref it) rfl ?_);refine N5 (Enu.tupStop (I.ok.hd hc) hi p hnone λh' x he' hx'=>?_);obtain⟨o,ho,hcl⟩:=hx';exact N5 (WS (T:="StopIteration") (b:=ZC) ⟨o,ho,hcl⟩ isSubtype_stop (Oi (fin h' he')))
  |false=>
   have hq':SqL X.K H a xs:=hq;obtain⟨its,rv,p,hz⟩:=I.list hq';have hl:=rv.length;have hnone:its.toArray[i]?=ZB:=by simp;omega
   exact wpAny_pyNext_enum_end (I.ok.hd hc) he hi p.isList hnone fin
 self:=λ_ _ _ _ _ st h=>by obtain⟨⟨old,he⟩,_⟩:=st;exact Wl he h
section
variable {tpos:Pos}
def qN:O9 "enumerate" =ZA (.type "enumerate"):=by decide+kernel
def iEnu(K:N4)(tl:TA):TI:=λσ H R=>tl σ H λvs H1=>∃a tt,vs=[.ref a]/\(∃xs,EM K H1 a tt xs)/\R (MW K a tt) H1
theorem F1{l:ZG}{tl:TA}{p:Pos}(hg:Gl X "enumerate")(hm:X.mg "enumerate" =ZB)(hl:PA X [l] tl)(hs:Ov [l] X.env=[(ZD,eval l X.env)]:=by rfl):PI X (.Tuple elts kk tpos) (.Call (.Name "enumerate" p) [l] [] pos) (iEnu X.K tl):=by
 intro kw s σ H R I h;refine Call_ (fw I hg hm qN (O8 (cM (hl pos kw s σ H _ I h) λus s1 ⟨vs,H1,I1,r1,q1⟩=>?_) hs rfl));obtain⟨a,tt,e,⟨xs,hq⟩,q⟩:=q1;subst e;obtain⟨u,rfl,ru⟩:=lK r1;cases ru;have fin:∀h',IsEnum h' (s1.heap.objs.size+1) s1.heap.objs.size 0 .none->itAt tt h' s1.heap.objs.size a 0->h'.objs.size=s1.heap.objs.size+2->(∀b o,s1.heap.get? b=ZA o->h'.get? b=ZA o) ->
   ZJ (ZK X.prog X.w) X.A (pyIter (.ref (s1.heap.objs.size+1))) (MV X kw σ (.Tuple elts kk tpos) R) X.xe {s1 with heap:=h'}:=λh' he hi hsz hk=>by
  refine Wl he ?_;have I2:Inv X kw σ H1 {s1 with heap:=h'}:=I1.kept (t':=s1.toks) hk;refine⟨s1.heap.objs.size+1,[s1.heap.objs.size+1,s1.heap.objs.size],_,_,H1,rfl,I2,Ax tt a (s1.heap.objs.size+1) s1.heap.objs.size (WJ _),⟨⟨_,he⟩,hi⟩,λb hb=>?_,q⟩;rcases Oe.mp hb with rfl|hb
  .exact I1.Ng (by omega) (I1.hok.fresh (by omega))
  .rw[Ox.mp hb];exact I1.Ng (Oq _) (I1.hok.fresh (Oq _))
 cases tt with
 |true=>
  have hq':SqT X.K H1 a xs:=hq;obtain⟨its,rv,pl,hz⟩:=I1.tuple hq';exact Enu.callT pl λh' he hi hsz hk=>fin h' he hi hsz hk
 |false=>
  have hq':SqL X.K H1 a xs:=hq;obtain⟨its,rv,pl,hz⟩:=I1.list hq';exact call_enumerate_list pl.isList λh' he hi hsz hk=>fin h' he hi hsz hk
end
end L2
namespace Tr
open PySem PySem.Spec PyProof.Rows L2
section
variable {X:Cx}{a:ZG}{fa:Y2}{fs:Y0}{p pos:Pos}
def iS(f:Y2)(Z:En):Rs (List T):=do
 let x <-f Z
 match x with
 |.lst l=>.ok l
 |.tup l=>.ok l
 |_=>.bad
def IW{tg:ZG}(ha:df X a fa):BA X tg a (iS fa):=by
 intro kw s σ H R I ⟨Z,O,E,h⟩;unfold iS at h;cases q:fa Z with
 |bad=>rw[q]at h;exact h.elim
 |err c=>exact zl ha kw s σ H R I ⟨Z,O,E,by unfold iL;rw[q]at h ⊢;exact h⟩
 |ok x=>
  rw[q,aG]at h;cases x with
  |lst l=>exact zl ha kw s σ H R I ⟨Z,O,E,by unfold iL;rw[q];exact h⟩
  |tup l=>exact IV ha kw s σ H R I ⟨Z,O,E,by unfold iT;rw[q];exact h⟩
  |_=>exact h.elim
noncomputable def dP:Nat->List T->List T
 |_,[] =>[]
 |n,t::r=>.tup [.int n,t] ::dP (n+1) r
theorem sI:∀(l:List T)(n i:Nat),(dP n l)[i]?=(l[i]?).map λt=>T.tup [.int ((n+i:Nat):Int),t]
 |[],n,i=>by simp[dP]
 |t::l,n,0=>by simp[dP]
 |t::l,n,i+1=>by rw[dP,Ro,sI l (n+1) i,Ro];congr 2;funext t;congr 4;omega
theorem sH:∀(l:List T)(n:Nat),(dP n l).length=l.length
 |[],n=>rfl
 |t::l,n=>by rw[dP,Oh,Oh,sH l]
noncomputable def iE(f:Y0)(Z:En):Rs (List T):=do
 let xs <-f Z
 match xs with
 |[x] =>match x.items with
  |some l=>.ok (dP 0 l)
  |none=>.bad
 |_=>.bad
def FL{elts:List ZG}{tpos:Pos}(hm:X.mg "enumerate" =ZB)(ha:qX X [a] fs)(hg:Gl X "enumerate":=by rfl)(hs:Ov [a] X.env=[(ZD,eval a X.env)]:=by rfl):
  BA X (.Tuple elts kk tpos) (.Call (.Name "enumerate" p) [a] [] pos) (iE fs):=PI.imp (F1 hg hm ha hs) λσ H R hh_=>by
 obtain⟨Z,O,E,h⟩:=hh_;obtain⟨Z1,O1,E1,h1⟩:=eQ E h;refine⟨Z1,O1,E1,Post.mono h1 λts H1 s1 q vs r=>?_⟩;obtain⟨t',r',s',E',q'⟩:=q vs r;split at q'
 .rename_i x0;obtain⟨v,rfl,rv⟩:=r'.one;split at q'
  .rename_i l hl;have main:∀(aa:ZE)(tt:Bool)(ws:List V),v=.ref aa->¬ O aa->Reps X.K O H1 l ws->EM X.K H1 aa tt ws->(∀P Hc,SameO P H1 Hc->¬ P aa->EM X.K Hc aa tt ws)->¬ Nw X.K H1 aa ->
     ∃a tt,[v]=[V.ref a]/\(∃xs,EM X.K H1 a tt xs)/\R (MW X.K a tt) H1:=λaa tt ws e n z sq mv nn=>by
    refine⟨aa,tt,by rw[e],⟨ws,sq⟩,q' H1 (Same.refl H1) _ λP O' hP hO i Hc hsm htr=>?_⟩;have hnP:¬ P aa:=λy=>(hP aa y).elim n nn;have sqc:=mv P Hc hsm hnP;refine⟨λhi=>⟨ws,sqc,by rw[<-z.length,<-sH l 0];exact hi⟩,λt ht=>?_⟩;rw[sI]at ht;cases e1:l[i]? with
    |none=>rw[e1]at ht;cases ht
    |some t0=>
     rw[e1]at ht;cases ht;obtain⟨v0,f1,f2⟩:=z.get e1;refine⟨⟨ws,v0,sqc,f1⟩,λx Hc' y=>?_⟩;obtain⟨pp,vv,e2,hpn,e3,hy⟩:=y;have:=hy ws sqc;rw[f1]at this;cases this;subst e2 e3;refine⟨aR hpn _,gR hpn (λzz=>?_) (Reps.Gc (by simpa using Rep.GE _) (Reps.Gc (f2.move hP hO hsm) Reps.GM))⟩;obtain⟨o,w⟩:=htr pp zz;rw[hpn]at w;cases w
   cases x0 with
   |tup m=>
    cases hl;obtain⟨aa,ws,e,n,qq,z⟩:=Rep.Fk.mp rv;exact main aa ZC ws e n z (show SqT X.K H1 aa ws from SqT.of qq) (λP Hc hsm hn=>show SqT X.K Hc aa ws from SqT.of (hsm _ _ qq hn)) λw=>by rw[w.1]at qq;cases qq
   |lst m=>
    cases hl;obtain⟨aa,ws,e,n,qq,z⟩:=Rep.Do.mp rv;exact main aa ZD ws e n z (show SqL X.K H1 aa ws from SqL.of qq) (λP Hc hsm hn=>show SqL X.K Hc aa ws from SqL.of (hsm _ _ qq hn)) λw=>by rw[w.1]at qq;cases qq
   |scr m=>
    cases hl;unfold Rep at rv;obtain⟨aa,e,n,qq⟩:=rv;exact main aa ZD _ e n Reps.ints (show SqL X.K H1 aa _ from qq) (λP Hc hsm hn=>show SqL X.K Hc aa _ from Tr.SqL.keep hsm hn qq) (Tr.SqL.nn qq)
   |_=>cases hl
  .exact q'.elim
 .exact q'.elim
end
end Tr
namespace Tm
open PySem PyProof.Rows
def mX:fillsNumberSlot (.type "tuple") "mul" =pure ZD:=
 PySem.fillsNumberSlot_seq (id:="tuple.__mul__") (r:=ZA (.builtin "tuple.__rmul__")) Uh.lookup (by decide+kernel) V5.lookup (by decide+kernel)
def tT:seqRepeat? (.type "tuple")=pure (ZA (.builtin "tuple.__mul__")):=by unfold seqRepeat?;rw[WK (T:="tuple") (name:="__mul__") (id:="tuple.__mul__") Uh.lookup (by decide+kernel),WK (T:="tuple") (name:="__rmul__") (id:="tuple.__rmul__") V5.lookup (by decide+kernel)];rfl
def xW(a:Int)(t:Tok)(l:ZE)(items:Array N8)(n:Nat)(dd:Option ZE)(sl:Array (Option N8)):
  Meets (Builtin.«int.__rmul__» ⟨[.int a t,.ref l],[]⟩) (λ_ R s=>s.heap.get? l=ZA {cls:=.type "tuple",dict:=dd,data:=.seq items n,slots:=sl}/\R (.ok (.ret U4)) s):=
 .of_wp λprog w A R s h=>by obtain⟨hp,g,d,tk,os⟩:=s;obtain⟨hl,h⟩:=h;wp_walk;exact⟨_,rfl,h⟩
open AutoSeq1 (wpAny_loadPart')
theorem C8(l:ZE)(items:Array N8)(n:Nat)(dd:Option ZE)(sl:Array (Option N8))(x:Int)(u:Tok)(h1:1<x)(h2:x<2 ^ 31)(hne:items.isEmpty=ZD)(hz:items.size*x.toNat<=ZI)
  (hz2:(TN (λa b=>a++b) #[] (OH x.toNat items)).size<=ZI):
  Meets (Builtin.«tuple.__mul__» ⟨[.ref l,.int x u],[]⟩) (λ_ R s=>s.heap.get? l=ZA {cls:=.type "tuple",dict:=dd,data:=.seq items n,slots:=sl} ∧
   R (.ok (.ret (Oz s.heap.objs.size))) {s with heap:=s.heap.push {cls:=Ru "tuple",data:=Data.seq (TN (λa b=>a++b) #[] (OH x.toNat items))}}):=
 .of_wp λprog w A R s h=>by
  obtain⟨hp,g,d,tk,os⟩:=s;obtain⟨hl,h⟩:=h;have hT:Xu hp l items:=⟨_,hl,rfl,n,rfl⟩;have hx:((items.size:Nat):Int)*x=((items.size*x.toNat:Nat):Int):=by
   have e:x=((x.toNat:Nat):Int):=by omega
   rw[Int.natCast_mul,<-e]
  wp_walk using OW hl
  rw[if_neg (by simp;omega)];refine N5 (Ud (s:=⟨hp,g,d,tk,os⟩) hT ?_);dsimp only;rw[if_neg (by rw[hne];simp;omega),if_neg (by rw[hne];simp;omega),hx,if_neg (by have:(ZI:Nat)<=1000000000:=(by decide);omega),if_neg (by unfold Builtin.Tuple.tupleTooMany;rw[decide_eq_true_iff];omega)];refine N5 (m:=Pk _) (Pq ?_ hz2);exact Oi ⟨_,rfl,h⟩
def mul_tuple{t:ZE}{k:Int}{tk:Tok}(ht:Xu s.heap t vs.toArray)(h1:1<k)(h2:k<2 ^ 31)(hv:vs≠ [])(hz:vs.length*k.toNat<=ZI)
  (h:Q (.ref s.heap.objs.size) {s with heap:=s.heap.push {cls:=.type "tuple",data:=.seq (OH k.toNat vs).flatten.toArray}}):
  ZJ (ZK prog w) A (Qw .Mult (.ref t) (.int k tk)) Q E s:=by
 obtain⟨⟨cls,dd,data,sl⟩,ho,hc,n,hd⟩:=id ht;simp only at hc hd;subst hc hd;have e:TN (λa b=>a++b) #[] (OH k.toNat vs.toArray)=(OH k.toNat vs).flatten.toArray:=by have q:=L2.foldl_rep vs k.toNat [];simpa using q
 refine TJ (T:="tuple") (U:="int") (by decide) ⟨_,ho,rfl⟩ (λs'=>UY s' k tk) mX W3 S7 tT WE.lookup
  (Sb S7 (UY s k tk) WG (V3 _ _) (xW k tk t vs.toArray n dd sl)
   ⟨ho,rfl,⟨_,ho,rfl⟩,Sb Uh ⟨_,ho,rfl⟩ F.entry_tuple_mul (F.args_tuple_mul_2 _ _) (C8 t vs.toArray n dd sl k tk h1 h2 (by simpa using hv) (by simpa using hz) (by rw[e,Ou,L2.len_rep,Wp];exact hz)) ⟨ho,?_⟩⟩)
 rw[e];exact h
end Tm
variable{Q:Option N8->Oc->Prop}
namespace Tr
open PySem PySem.Spec PyProof.Rows L2
variable{X:Cx}
noncomputable def cv(x y:T):Rs T:=match x,y with
 |.tup l,.int k=>if 1<k/\k<2 ^ 31/\l≠ []/\l.length*k.toNat<=ZI then .ok (.tup (OH k.toNat l).flatten)else .bad
 |x,y=>yj x y
instance (l:List T):Decidable (l≠ []):=by cases l <;> simp <;> infer_instance
def di:OpT X (Qw .Mult) cv:=by
 intro kw s σ H O x y vx vy ux uy Q I hf rx ry r1 r2 hp;unfold cv at hp;split at hp
 .rename_i l k;split at hp
  .rename_i h;obtain⟨a,vs,e1,n1,q1,z1⟩:=Rep.Fk.mp rx;subst e1;cases Rep.AC.mp ry;cases r1;obtain⟨tk,rfl⟩:=r2;obtain⟨its,rv,pl,hz⟩:=I.tuple (SqT.of q1);have hl1:=z1.length;have hl2:=rv.length;have hne:its≠ []:=λz=>h.2.2.1 (List.eq_nil_of_length_eq_zero (by rw[hl1,hl2,z];rfl));refine Tm.mul_tuple pl h.1 h.2.1 hne (by rw[<-hl2,<-hl1];exact h.2.2.2) ?_;have hn:=I.hok.fresh (Oq _);refine⟨.ref _,_,I.laid (t':=s.toks) (o:=.tup (OH k.toNat vs).flatten) (λb ob q=>Of _ q) (Oq _) ?_,rfl,hp _ (aR hn _) _ (gR hn (hf _ hn) (z1.rep _))⟩;refine⟨?_,_,rv.rep k.toNat,Vv _ _⟩;rw[len_rep,Wp,<-hl1];exact h.2.2.2
  .exact hp.elim
 .exact Jo kw s σ H O _ _ vx vy ux uy Q I hf rx ry r1 r2 hp
noncomputable def Gj(outer:List (Str×RN))(N:List Str)(names:List (Str×RN))(N':List Str)(src:List (Option Nat)):Bool:=
 names.all (λy=>y.2 != .cell||names.lookup y.1 == ZA .cell)&&names.all (λy=>y.2 != .local||names.lookup y.1 == ZA .local)&&src.length == N'.length&&
 (Oj N'.length).all (λj=>match src[j]? with
  |some (ZA i)=>match N'[j]? with
   |some x=>N[i]? == ZA x&&names.lookup x == ZA .free
   |none=>ZC
  |_=>ZC)&&
 names.all (λy=>y.2 != .free||(outer.lookup y.1 == ZA .cell||outer.lookup y.1 == ZA .free))
variable{N:List Str}
theorem LcScope.by{N':List Str}{src:List (Option Nat)}{names:List (Str×RN)}(hN:X.N=N)(hs:X.env.scope.names=names)(hk:scope.kind=.function)(h:Gj names N scope.names N' src=ZC):LcScope X scope N' src:=by
 unfold Gj at h;simp only[N7]at h;obtain⟨⟨⟨⟨h1,h2⟩,h3⟩,h4⟩,h5⟩:=h;have a1:=OB.mp h1;have a2:=OB.mp h2;have a4:=OB.mp h4;have a5:=OB.mp h5;refine⟨hk,λy hy hl=>by have:=a1 y hy;rw[hl]at this;simpa using this,λy hy hl=>?_,by simpa using h3,λj i x e1 e2=>?_,λx hx=>?_⟩
 .have:=a2 y hy;rw[hl]at this;simpa using this
 .have hj:j<N'.length:=(Og.mp e2).1;have:=a4 j (OZ.mpr hj);rw[e1]at this;simp only[e2]at this;rw[N7]at this;rw[hN];exact⟨by simpa using this.1,by simpa using this.2⟩
 .have:=a5 _ hx;simp only[bne_self_eq_false,T9,Ta]at this;show X.env.scope.names.lookup x=_\/X.env.scope.names.lookup x=_;rw[hs];rcases this with z|z
  .exact .inl (by simpa using z)
  .exact .inr (by simpa using z)
def bZ:ZG->Bool
 |.Starred .. =>ZD
 |_=>ZC
def bo:List ZG->Bool
 |[] =>ZC
 |e::r=>bZ e&&bo r
variable{e:ZG}{env:Env}{es:List ZG}
def bp(h:bZ e=ZC):Ov (e::es) env=(ZD,eval e env)::Ov es env:=by cases e <;> first|rfl|cases h
theorem gn{pos:Pos}{env:Env}:∀{es:List ZG},bo es=ZC->(backTo pos (Ov es env)).any (·.1)=ZD
 |[],_=>rfl
 |e::r,h=>by unfold bo at h;rw[N7]at h;rw[bp h.1];have ih:=gn (pos:=pos) (env:=env) h.2;show(ZD||(backTo pos (Ov r env)).any (·.1))=ZD;rw[ih];rfl
variable{a:ZG}{f fa:Y2}{g:List T->Rs T}{p pos:Pos}{ps:List Str}{x:Str}
section
variable {b:ZG}{fs:Y0}{p2:Pos}
def qa_c{g:Y0}(he:df X e f)(hr:qX X es g)(hn:bZ e=ZC:=by rfl):qX X (e::es) (ae f g):=oy he hr (bp hn)
def q_cB{id:String}(hc:CallT X (.builtin id) g)(hm:X.mg x=ZB)(hv:O9 x=ZA (.builtin id))(ha:qX X (e::es) fs)(hn:bo (e::es)=ZC:=by rfl)(hg:Gl X x:=by rfl)(h1:autoParam (x≠ "__name__") s_)(h2:autoParam ((x == ("__debug__" : Str))=ZD) s_):
  df X (.Call (.Name x p) (e::es) [] pos) (cl g fs):=by
 unfold bo at hn;rw[N7]at hn;exact zm hc hm hv ha hg h1 h2 (bp hn.1) (gn hn.2)
def q_cT(hc:CallT X (.type Ty) g)(hm:X.mg x=ZB)(hv:O9 x=ZA (.type Ty))(ha:qX X (e::es) fs)(hn:bo (e::es)=ZC:=by rfl)(hg:Gl X x:=by rfl)(h1:autoParam (x≠ "__name__") s_)(h2:autoParam ((x == ("__debug__" : Str))=ZD) s_):
  df X (.Call (.Name x p) (e::es) [] pos) (cl g fs):=by
 unfold bo at hn;rw[N7]at hn;exact Cv hc hm hv ha hg h1 h2 (bp hn.1) (gn hn.2)
def q_c{f:ZE}(F:BI X.prog X.w X.K X.mg X.base k f fd ps n g)(hr:Room k X.A)(hm:X.mg x=ZA (.ref f))(hk:Qu X.K (.ref f)=ZC)(hb:Binds X.K fd ps [])
  (hl:∀Z ts,fs Z=.ok ts->ts.length=n) (ha:qX X (e::es) fs) (hps:ps.length=n:=by rfl) (hn:bo (e::es)=ZC:=by rfl) (hg:Gl X x:=by rfl) (h2:autoParam ((x == ("__debug__" : Str))=ZD) s_):df X (.Call (.Name x p) (e::es) [] pos) (cl g fs):=by
 unfold bo at hn;rw[N7]at hn;exact Jb F hr hm hk hb hps hl ha hg h2 (bp hn.1) (gn hn.2)
def q_is{tn:Str}(hm:X.mg "isinstance" =ZB)(hmt:X.mg tn=ZB)(hv:O9 tn=ZA (.type Ty))(ha:df X a fa)(hn:bZ a=ZC:=by rfl)(hg:Gl X "isinstance":=by rfl)(hgt:Gl X tn:=by rfl)
  (h1:autoParam (tn≠ "__name__") s_) (h2:autoParam ((tn == ("__debug__" : Str))=ZD) s_):df X (.Call (.Name "isinstance" p) [a,.Name tn p2] [] pos) (o1 (Gx Ty) fa):=
 Lq hm hmt hv ha hg hgt h1 h2 (bp hn) (gn rfl) (bp rfl)
end
def HQ(Z:En)(ts:List T)(h:ai Z=.ok ts):ts.length=0:=by cases h;rfl
def HP{g:Y0}(hg:∀Z ts,g Z=.ok ts->ts.length=n)(Z:En)(ts:List T)(h:ae f g Z=.ok ts):ts.length=n+1:=by
 unfold ae at h;cases q:f Z with
 |bad=>rw[q]at h;cases h
 |err c=>rw[q]at h;cases h
 |ok t=>
  rw[q,aG]at h;cases q2:g Z with
  |bad=>rw[q2]at h;cases h
  |err c=>rw[q2]at h;cases h
  |ok r=>
   rw[q2,aG]at h;cases h;rw[Oh,hg Z r q2]
def g8(h:Room k A):A.units+60<cLine:=by have:=h.un;omega
theorem Bb(h:Room k A):A.units+61<cLine:=by have:=h.un;omega
structure Fn (K:N4)(mg:WF)(x:Str)(st:ZF)(ps:List Str)(f:ZE)(fd:PR):Prop where
 fn:L2.Fun K x x st f fd
 bd:Binds K fd ps []
 mg:mg x=ZA (.ref f)
def val(n m:Nat)(F:Y1)(ts:List T):Rs T:=if ts.length=n then cb F (aV m ts)else .bad
variable{ts:List T}
def H0{F:Y1}{t:T}(h:val n m F ts=.ok t):cb F (aV m ts)=.ok t:=by
 unfold val at h;split at h
 .exact h
 .cases h
variable{H:Hp}
def sp_script{a:ZE}{E:XK}(hS:SqL K H a (ns.map V.int))(h:g [.scr ns]=.ok (.bl ZC)):spP K 1 g [.ref a] H (λv _=>v=.bl ZC) E:=by
 refine⟨[.scr ns],λ_=>False,Reps.Gc ?_ Reps.GM,λ_ z=>z.elim,rfl,?_⟩
 .unfold Rep;exact⟨a,rfl,λz=>z,hS⟩
 .rw[h];exact λv H' _ r=>Rep.FM.mp r
def vH{l:List α}{z:α}(h:l[i]?=ZA z):l.set i z=l:=by obtain⟨hi,rfl⟩:=Og.mp h;exact UG hi
def Mn.set(M:Mn)(i:Nat)(m:Ow):Mn:=λj=>if j=i then m else M j
variable{M:Mn}{m:Ow}
def Mn.Nd{a:ZE}(h:(M.set i m).u a):m a\/M.u a:=by
 obtain⟨j,h⟩:=h;unfold Mn.set at h;by_cases z:j=i
 .rw[if_pos z]at h;exact .inl h
 .rw[if_neg z]at h;exact .inr ⟨j,h⟩
def Mn.NI:M.set i m i=m:=by unfold Mn.set;rw[if_pos rfl]
def Mn.Ni(h:j≠i):M.set i m j=M j:=by unfold Mn.set;rw[if_neg h]
variable{H':Hp}{O O':Ow}
theorem RowsR.move{P:Ow}(hP:∀a,P a->O a\/Nw K H a)(hO:∀a,O' a->O a\/Nw K H a)(h:SameO P H H'):∀{rs:List (List T×List T)}{as:List ZE},(∀b∈as,¬P b)->RowsR K O H rs as->RowsR K O' H' rs as
 |[],_,_,r=>r
 |_::_,_,hb,⟨b,bs,kvs,e1,e2,e3,e4,e5⟩=>by subst e1;exact⟨b,bs,kvs,rfl,h _ _ e2 (hb b Ob),e3,e4.move hP hO h,e5.move hP hO h λc hc=>hb c (N6 _ hc)⟩
variable{v:V}
theorem ORep.move{P M:Ow}{o:OT}(hP:∀a,P a->O a\/Nw K H a)(hO:∀a,O' a->O a\/Nw K H a)(h:SameO P H H')(hM:∀a,M a->¬ P a)(r:ORep K O M H o v):ORep K O' M H' o v:=by
 cases o with
 |lst l=>obtain⟨a,vs,e1,e2,e3,e4⟩:=r;exact⟨a,vs,e1,e2,h _ _ e3 (hM a ((e2 a).mpr rfl)),e4.move hP hO h⟩
 |dct ks ts=>obtain⟨a,kvs,e1,e2,e3,e4,e5⟩:=r;exact⟨a,kvs,e1,e2,h _ _ e3 (hM a ((e2 a).mpr rfl)),e4,e5.move hP hO h⟩
 |dd ks rows=>
  obtain⟨a,kvs,as,e1,e2,e3,e4,e5,e6,e7,e8⟩:=r;exact⟨a,kvs,as,e1,e2,e3,e4,h _ _ e5 (hM a ((e2 a).mpr (.inl rfl))),e6,e7,e8.move hP hO h λb hb=>hM b ((e2 b).mpr (.inr hb))⟩
theorem RowsR.mtb:∀{rs:List (List T×List T)}{as:List ZE},RowsR K O H rs as->∀b∈as,∃kvs,H b=ZA (.dT kvs)
 |[],_,r,b,hb=>by unfold RowsR at r;subst r;simp at hb
 |_::_,_,⟨b0,bs,kvs,e1,e2,e3,e4,e5⟩,b,hb=>by
  subst e1;rcases Oe.mp hb with rfl|hb
  .exact⟨kvs,e2⟩
  .exact e5.mtb b hb
def OT.isD:OT->Bool
 |.lst _=>ZD
 |_=>ZC
def ORep.kind{M:Ow}{o:OT}(r:ORep K O M H o v):∀a,M a->if o.isD then ∃kvs,H a=ZA (.dT kvs)else ∃vs,H a=ZA (.lst vs):=λa z=>by
 cases o with
 |lst l=>obtain⟨b,vs,e1,e2,e3,e4⟩:=r;cases (e2 a).mp z;exact⟨vs,e3⟩
 |dct ks ts=>obtain⟨b,kvs,e1,e2,e3,e4,e5⟩:=r;cases (e2 a).mp z;exact⟨kvs,e3⟩
 |dd ks rows=>
  obtain⟨b,kvs,as,e1,e2,e3,e4,e5,e6,e7,e8⟩:=r;rcases(e2 a).mp z with z|z
  .cases z;exact⟨kvs,e5⟩
  .exact e8.mtb a z
def ORep.mtb{M:Ow}{o:OT}(r:ORep K O M H o v)(a:ZE)(z:M a):Mtb H a:=by
 have:=r.kind a z;split at this
 .exact .inr this
 .exact .inl this
theorem vL:∀{rs:List (List T×List T)}{as:List ZE},(∀b∈as,¬O b)->RowsR K O H rs as->Reps K O H (rs.map λr=>T.dct r.1 r.2) (as.map V.ref)
 |[],_,_,r=>by unfold RowsR at r;subst r;exact Reps.GM
 |_::_,_,hn,⟨b,bs,kvs,e1,e2,e3,e4,e5⟩=>by subst e1;exact Reps.Gc (Rep.FS.mpr ⟨b,kvs,rfl,hn b Ob,.inl e2,e3,e4⟩) (vL (λc hc=>hn c (N6 _ hc)) e5)
theorem RowsR.less(sub:∀a,O' a->O a):∀{rs:List (List T×List T)}{as:List ZE},RowsR K O H rs as->RowsR K O' H rs as
 |[],_,r=>r
 |_::_,_,⟨b,bs,kvs,e1,e2,e3,e4,e5⟩=>⟨b,bs,kvs,e1,e2,e3,e4.less sub,e5.less sub⟩
def ORep.rep{M:Ow}{o:OT}(sub:∀a,O' a->O a)(hn:∀a,M a->¬ O' a)(r:ORep K O M H o v):Rep K O' H o.view v:=by
 cases o with
 |lst l=>obtain⟨a,vs,e1,e2,e3,e4⟩:=r;exact Rep.Do.mpr ⟨a,vs,e1,hn a ((e2 a).mpr rfl),e3,e4.less sub⟩
 |dct ks ts=>obtain⟨a,kvs,e1,e2,e3,e4,e5⟩:=r;exact Rep.FS.mpr ⟨a,kvs,e1,hn a ((e2 a).mpr rfl),.inl e3,e4,e5.less sub⟩
 |dd ks rows=>
  obtain⟨a,kvs,as,e1,e2,e3,e4,e5,e6,e7,e8⟩:=r;refine Rep.FS.mpr ⟨a,kvs,e1,hn a ((e2 a).mpr (.inl rfl)),.inl e5,e6,?_⟩;rw[e7];exact vL (λb hb=>hn b ((e2 b).mpr (.inr hb))) (e8.less sub)
variable{B:Ow}{Z:En}{σ:L2.St}
section
variable {o o':OT}
def Ev.new(E:Ev K B M H Z σ)(hl:i<Z.length)(hm:∀a,m a->Nw K H a)(s:Same H H')(r:ORep K (OO B (M.set i m)) m H' o v):
  Ev K B (M.set i m) H' (Z.set i (.ow o)) (σ.set i (ZA v))/\∀a,(M.set i m).u a->M.u a\/Nw K H a:=by
 have hls:i<σ.length:=by rw[<-E.env.len];exact hl
 have sub:∀a,(M.set i m).u a->M.u a\/Nw K H a:=λa z=>(Mn.Nd z).elim (λw=>.inr (hm a w)) .inl;have subO:∀a,OO B (M.set i m) a->OO B M a\/Nw K H a:=λa z=>z.elim (λw=>.inl (.inl w)) λw=>(sub a w).elim (λy=>.inl (.inr y)) .inr;have dQ:∀a,Nw K H a->¬ OO B M a:=λa w z=>by obtain⟨o,e⟩:=(E.env.trk a z).some;rw[w.1]at e;cases e
 refine⟨⟨⟨by rw[P3,P3];exact E.env.len,λj t e=>?_,λj o' e=>?_,λj a z=>.inr ⟨j,z⟩,λj k a z1 z2=>?_,λa z=>?_⟩,λa z=>?_⟩,sub⟩
 .by_cases hj:i=j
  .subst hj;rw[OS hl]at e;cases e
  .rw[OY hj]at e;obtain⟨w,e1,e2⟩:=E.env.val j t e;exact⟨w,by rw[OY hj];exact e1,(e2.more subO).same s⟩
 .by_cases hj:i=j
  .subst hj;rw[OS hl]at e;cases e;exact⟨v,OS hls,by rw[Mn.NI];exact r⟩
  .rw[OY hj]at e;obtain⟨w,e1,e2⟩:=E.env.own j o' e;refine⟨w,by rw[OY hj];exact e1,?_⟩;rw[Mn.Ni (λz=>hj z.symm)];exact(e2.move (P:=zF) (λ_ z=>z.elim) subO (λb u q _=>q) λ_ _ z=>z).same s
 .unfold Mn.set at z1 z2;by_cases hj:j=i
  .by_cases hk:k=i
   .exact hj.trans hk.symm
   .rw[if_pos hj]at z1;rw[if_neg hk]at z2;exact(dQ a (hm a z1) (.inr ⟨k,z2⟩)).elim
  .by_cases hk:k=i
   .rw[if_neg hj]at z1;rw[if_pos hk]at z2;exact(dQ a (hm a z2) (.inr ⟨j,z1⟩)).elim
   .rw[if_neg hj]at z1;rw[if_neg hk]at z2;exact E.env.dis j k a z1 z2
 .rcases z with z|z
  .exact(E.env.trk a (.inl z)).same s
  .rcases Mn.Nd z with w|w
   .exact r.mtb a w
   .exact(E.env.trk a (.inr w)).same s
 .intro hb;rcases Mn.Nd z with w|w
  .exact dQ a (hm a w) (.inl hb)
  .exact E.mine a w hb
def Ev.put(E:Ev K B M H Z σ)(hi:Z[i]?=ZA (.ow o))(hs:σ[i]?=ZA (ZA v))(s:SameO (M i) H H')(r:ORep K (OO B M) (M i) H' o' v):Ev K B M H' (Z.set i (.ow o')) σ/\SameO M.u H H':=by
 have hl:i<Z.length:=(Og.mp hi).1;have inO:∀a,M i a->OO B M a\/Nw K H a:=λa z=>.inl (.inr ⟨i,z⟩);have idO:∀a,OO B M a->OO B M a\/Nw K H a:=λa z=>.inl z;refine⟨⟨⟨by rw[P3];exact E.env.len,λj t e=>?_,λj o2 e=>?_,E.env.sub,E.env.dis,λa z=>?_⟩,E.mine⟩,λb u e n=>s b u e λz=>n ⟨i,z⟩⟩
 .by_cases hj:i=j
  .subst hj;rw[OS hl]at e;cases e
  .rw[OY hj]at e;obtain⟨w,e1,e2⟩:=E.env.val j t e;exact⟨w,e1,e2.move inO idO s⟩
 .by_cases hj:i=j
  .subst hj;rw[OS hl]at e;cases e;exact⟨v,hs,r⟩
  .rw[OY hj]at e;obtain⟨w,e1,e2⟩:=E.env.own j o2 e;exact⟨w,e1,e2.move inO idO s λa z y=>hj (E.env.dis i j a y z)⟩
 .by_cases hz:M i a
  .exact r.mtb a hz
  .rcases E.env.trk a z with⟨vs,e⟩|⟨kvs,e⟩
   .exact .inl ⟨vs,s _ _ e hz⟩
   .exact .inr ⟨kvs,s _ _ e hz⟩
noncomputable def disown(i:Nat)(Z:En):En:=match Z[i]? with
 |some (.ow o)=>Z.set i (.va o.view)
 |_=>Z
theorem EnvM.disown(E:EnvM K O M H Z σ)(i:Nat)(sub:∀a,O' a->O a)(hn:∀a,M i a->¬ O' a)(hin:∀j a,j≠i->M j a->O' a):EnvM K O' (M.set i zF) H (disown i Z) σ:=by
 have base:EnvM K O' (M.set i zF) H (Z.set i (match Z[i]? with|some (.ow o)=>.va o.view|some x=>x|none=>.em)) σ:=by
  refine⟨by rw[P3];exact E.len,λj t e=>?_,λj o e=>?_,λj a z=>?_,λj k a z1 z2=>?_,λa z=>E.trk a (sub a z)⟩
  .by_cases hj:i=j
   .subst hj;by_cases hl:i<Z.length
    .rw[OS hl]at e;cases q:Z[i]? with
     |none=>rw[q]at e;cases e
     |some z=>
      rw[q]at e;cases z with
      |em=>cases e
      |va t'=>cases e;obtain⟨w,e1,e2⟩:=E.val i _ q;exact⟨w,e1,e2.less sub⟩
      |ow o=>cases e;obtain⟨w,e1,e2⟩:=E.own i _ q;exact⟨w,e1,e2.rep sub hn⟩
    .rw[PM (by rw[P3];omega)]at e;cases e
   .rw[OY hj]at e;obtain⟨w,e1,e2⟩:=E.val j t e;exact⟨w,e1,e2.less sub⟩
  .by_cases hj:i=j
   .subst hj;by_cases hl:i<Z.length
    .rw[OS hl]at e;cases q:Z[i]? with
     |none=>rw[q]at e;cases e
     |some z=>
      rw[q]at e;cases z with
      |em=>cases e
      |va t'=>cases e
      |ow o=>cases e
    .rw[PM (by rw[P3];omega)]at e;cases e
   .rw[OY hj]at e;obtain⟨w,e1,e2⟩:=E.own j o e;refine⟨w,e1,?_⟩;rw[Mn.Ni (λz=>hj z.symm)];exact e2.move (P:=zF) (λ_ z=>z.elim) (λa z=>.inl (sub a z)) (λb u q _=>q) λ_ _ z=>z
  .unfold Mn.set at z;by_cases hj:j=i
   .rw[if_pos hj]at z;exact z.elim
   .rw[if_neg hj]at z;exact hin j a hj z
  .unfold Mn.set at z1 z2;by_cases hj:j=i
   .rw[if_pos hj]at z1;exact z1.elim
   .by_cases hk:k=i
    .rw[if_pos hk]at z2;exact z2.elim
    .rw[if_neg hj]at z1;rw[if_neg hk]at z2;exact E.dis j k a z1 z2
 unfold Tr.disown;cases q:Z[i]? with
 |none=>rw[q,List.set_eq_of_length_le (List.getElem?_eq_none_iff.mp q)]at base;exact base
 |some z=>
  rw[q]at base;cases z with
  |em=>rw[vH q]at base;exact base
  |va t=>rw[vH q]at base;exact base
  |ow o=>exact base
theorem Ev.disown(E:Ev K B M H Z σ)(i:Nat):Ev K B (M.set i zF) H (disown i Z) σ/\∀a,(M.set i zF).u a->M.u a:=by
 have sub:∀a,(M.set i zF).u a->M.u a:=λa z=>(Mn.Nd z).elim (λw=>w.elim) id;refine⟨⟨E.env.disown i (λa z=>z.elim .inl λw=>.inr (sub a w)) (λa z y=>?_) λj a hj z=>.inr ⟨j,by rw[Mn.Ni hj];exact z⟩,λa z=>E.mine a (sub a z)⟩,sub⟩;rcases y with y|⟨j,y⟩
 .exact E.mine a ⟨i,z⟩ y
 .unfold Mn.set at y;by_cases hj:j=i
  .rw[if_pos hj]at y;exact y
  .rw[if_neg hj]at y;exact hj (E.env.dis j i a y z)
end
variable{H1:Hp}{apos cpos:Pos}{st:ZF}
section
variable {p2 p3:Pos}
def Ev.subO(hm:∀a,m a->Nw K H a)(a:ZE)(z:OO B (M.set i m) a):OO B M a\/Nw K H a:=
 z.elim (λw=>.inl (.inl w)) λw=>(Mn.Nd w).elim (λy=>.inr (hm a y)) λy=>.inl (.inr y)
def l0(s:Same H H1){a:ZE}(n:Nw K H1 a):Nw K H a:=(je (SameO.of (P:=zF) s) n).elim (λz=>z.elim) id
def KW(X:Cx)(t:TA):TE:=λσ H Q=>t σ H λxs H1=>xs.length<=ZI/\∀p,Nw X.K H1 p->Q (.ref p) (upd H1 p (.lst xs))
def F4{t:TA}(h:PA X es t):PE X (.List es pos) (KW X t):=by
 intro kw s σ H Q I hq;refine VO (cM (h pos kw s σ H _ I hq) λus s1 ⟨xs,H1,I1,r,z,q⟩=>⟨by rw[<-r.length];exact z,?_⟩);have hf:H1 s1.heap.objs.size=ZB:=I1.hok.fresh (Oq _);have hk:X.K.lookup s1.heap.objs.size=ZB:=by
  cases q:X.K.lookup s1.heap.objs.size with
  |none=>rfl
  |some o=>exact absurd (Os (I1.kIn _ o q)) (O7 _)
 refine⟨.ref s1.heap.objs.size,upd H1 s1.heap.objs.size (.lst xs),I1.laid (t':=s1.toks) (λb u e=>Of _ e) (Oq _) ?_,rfl,q _ ⟨hf,hk⟩⟩;exact⟨z,us,0,r,Oy _ rfl⟩
noncomputable def jB(i:Nat)(f:Y0)(Z:En):Rs Fl:=do
 let l <-f Z
 if i<Z.length/\l.length<=ZI then .ok (.nx (Z.set i (.ow (.lst l))))else .bad
def FD(i:Nat){f:Y0}(hN:X.N.Nodup)(ha:qX X es f)(hi:X.N[i]?=ZA x:=by rfl)(hx:autoParam (Loc X.env.scope x) x_)(hs:P4 (.List es p2) (ZA (.Name x p3)) pos.line X.env=pure ZD:=by rfl)
  (hf:autoParam (X.fn x=ZC\/X.env.scope.names.lookup x=ZA .local) r_):qU X (.Assign [.Name x p3] (.List es p2) pos) (jB i f):=PS.imp (pH hN hi hx (F4 ha) hs hf) λD σ H hh_=>by
 obtain⟨Z,B,M,E,h⟩:=hh_;refine⟨Z,OO B M,E.o,?_⟩;unfold jB at h;cases q:f Z with
 |bad=>rw[q]at h;exact h.elim
 |err c=>rw[q]at h;exact PostF.xa h
 |ok l=>
  rw[q,aG]at h;intro H1 s1 vs rs;by_cases hl:i<Z.length/\l.length<=ZI
  .rw[if_pos hl]at h;refine⟨by rw[<-rs.length];exact hl.2,λp hp=>?_⟩;have hm:∀a,a=p->Nw X.K H1 a:=λa z=>z▸hp;obtain⟨E2,sub⟩:=(E.same s1).new (m:=λa=>a=p) (o:=.lst l) (v:=.ref p) (H':=upd H1 p (.lst vs)) hl.1 hm (aR hp.1 _) ⟨p,vs,rfl,λb=>S8,aH,(rs.more (Ev.subO hm)).same (aR hp.1 _)⟩;exact h _ _ _ (SameO.of (s1.trans (aR hp.1 _))) E2 λa z=>(sub a z).imp_right (l0 s1)
  .rw[if_neg hl]at h;exact h.elim
noncomputable def iY(i:Nat)(f:Y2)(Z:En):Rs Fl:=match Z[i]? with
 |some (.ow (.lst l))=>f Z >>= λt=>if l.length<ZI then .ok (.nx (Z.set i (.ow (.lst (l++[t])))))else .bad
 |_=>.bad
def Ev.putL{o:OT}{l':List T}{b:ZE}{vs':List V}(E:Ev K B M H Z σ)(hi:Z[i]?=ZA (.ow o))(hs:σ[i]?=ZA (ZA (.ref b)))(hM:∀c,M i c↔c=b)(r:Reps K (OO B M) H l' vs'):
  Ev K B M (upd H b (.lst vs')) (Z.set i (.ow (.lst l'))) σ/\SameO M.u H (upd H b (.lst vs')):=by
 have sm:SameO (M i) H (upd H b (.lst vs')):=λc u e nb=>by rw[aF (λz=>nb ((hM c).mpr z))];exact e
 exact E.put hi hs sm ⟨b,vs',rfl,hM,aH,r.move (P:=M i) (λa z=>.inl (.inr ⟨i,z⟩)) (λa z=>.inl z) sm⟩
def IU(i:Nat)(ha:df X a fa)(hN:X.N[i]?=ZA x:=by rfl)(hv:autoParam (u6 X.env.scope x) u_)(hn:bZ a=ZC:=by rfl)
  (hbase:Qx (.Name x p2) "append" X.env (eval (.Name x p2) X.env)=eval (.Name x p2) X.env:=by rfl) (hline:(apos.endLine == cpos.line)=ZC:=by rfl)
  (hd:autoParam ((x == ("__debug__" : Str))=ZD) s_) (hcd:autoParam ((x == ("__classdict__" : Str))=ZD) s_)
  (hsw:P4 (.Call (.Attribute (.Name x p2) "append" apos) [a] [] cpos) ZB pos.line X.env=pure ZD:=by rfl):qU X (.Expr (.Call (.Attribute (.Name x p2) "append" apos) [a] [] cpos) pos) (iY i fa):=by
 have h1:Ov [a] X.env=(ZD,eval a X.env)::Ov [] X.env:=bp hn;refine PS.imp (tW (zy QK PySem.F.slot_list_append PySem.F.type_list_append sd (jd hN hv hd hcd) (bB ha dS h1) hbase ?_ hline h1 rfl) hsw) λD σ H ⟨Z,B,M,E,h⟩=>?_
 .rw[h1];rfl
 unfold iY at h;split at h
 .rename_i l hl;obtain⟨v0,e1,b,vs,rfl,hM,e3,e4⟩:=E.env.own i _ hl;refine⟨.ref b,e1,.inl ⟨rfl,vs,SqL.of e3⟩,Z,OO B M,E.o,?_⟩;cases q:fa Z with
  |bad=>rw[q]at h;exact h.elim
  |err c=>rw[q]at h;exact PostF.xa h
  |ok t=>
   rw[q,aG]at h;split at h
   .rename_i hz;intro H1 s1 v r;have e3':=s1 _ _ e3;refine⟨b,vs,v,rfl,rfl,e3',by rw[<-e4.length];exact hz,?_⟩;obtain⟨g1,g2⟩:=(E.same s1).putL (l':=l++[t]) (vs':=vs++[v]) hl e1 hM ((e4.same s1).append (Reps.Gc r Reps.GM));exact h σ _ M (λc o e nb=>g2 c o (s1 _ _ e) nb) g1 λc z=>.inl z
   .exact h.elim
 .exact h.elim
noncomputable def Kd(i:Nat)(l:List T)(Z:En):T->Rs Fl
 |.lst m=>if l.length+m.length<=ZI then .ok (.nx (Z.set i (.ow (.lst (l++m)))))else .bad
 |_=>.bad
noncomputable def pG(i:Nat)(f:Y2)(Z:En):Rs Fl:=match Z[i]? with
 |some (.ow (.lst l))=>f Z >>= Kd i l Z
 |_=>.bad
def IP(i:Nat)(ha:df X a fa)(hN:X.N[i]?=ZA x:=by rfl)(hv:autoParam (u6 X.env.scope x) u_)(hn:bZ a=ZC:=by rfl)
  (hbase:Qx (.Name x p2) "extend" X.env (eval (.Name x p2) X.env)=eval (.Name x p2) X.env:=by rfl) (hline:(apos.endLine == cpos.line)=ZC:=by rfl)
  (hd:autoParam ((x == ("__debug__" : Str))=ZD) s_) (hcd:autoParam ((x == ("__classdict__" : Str))=ZD) s_)
  (hsw:P4 (.Call (.Attribute (.Name x p2) "extend" apos) [a] [] cpos) ZB pos.line X.env=pure ZD:=by rfl):qU X (.Expr (.Call (.Attribute (.Name x p2) "extend" apos) [a] [] cpos) pos) (pG i fa):=by
 have h1:Ov [a] X.env=(ZD,eval a X.env)::Ov [] X.env:=bp hn;refine PS.imp (tW (zy QK PySem.F.slot_list_extend PySem.F.type_list_extend AW (jd hN hv hd hcd) (bB ha dS h1) hbase ?_ hline h1 rfl) hsw) λD σ H ⟨Z,B,M,E,h⟩=>?_
 .rw[h1];rfl
 unfold pG at h;split at h
 .rename_i l hl;obtain⟨v0,e1,b,vs,rfl,hM,e3,e4⟩:=E.env.own i _ hl;refine⟨.ref b,e1,.inl ⟨rfl,vs,SqL.of e3⟩,Z,OO B M,E.o,?_⟩;cases q:fa Z with
  |bad=>rw[q]at h;exact h.elim
  |err c=>rw[q]at h;exact PostF.xa h
  |ok t=>
   rw[q,aG]at h;unfold Kd at h;split at h
   .rename_i m;split at h
    .rename_i hz;intro H1 s1 v r;obtain⟨c,ws,rfl,nO,hc,rm⟩:=Rep.Do.mp r;have e3':=s1 _ _ e3;refine⟨b,c,vs,ws,rfl,rfl,e3',hc,by rw[<-e4.length,<-rm.length];exact hz,?_⟩;obtain⟨g1,g2⟩:=(E.same s1).putL (l':=l++m) (vs':=vs++ws) hl e1 hM ((e4.same s1).append rm);exact h σ _ M (λc o e nb=>g2 c o (s1 _ _ e) nb) g1 λc z=>.inl z
    .exact h.elim
   .exact h.elim
 .exact h.elim
def nX(i:Nat)(F:Y1)(Z:En):Rs Fl:=F (disown i Z)
def IQ(i:Nat){F:Y1}(h:qU X st F):qU X st (nX i F):=PS.imp h λD σ H hh_=>by obtain⟨Z,B,M,E,q⟩:=hh_;obtain⟨E',sub⟩:=E.disown i;exact⟨disown i Z,B,_,E',PostF.later q (λ_ _ e _=>e) λa z=>.inl (sub a z)⟩
mutual
def T.nk(D:Bool):T->Bool
 |.scr _=>ZD
 |.dct _ ts=>!D&&nks D ts
 |.lst l=>D&&nks D l
 |.tup l=>nks D l
 |_=>ZC
def nks(D:Bool):List T->Bool
 |[] =>ZC
 |t::l=>t.nk D&&nks D l
end
mutual
theorem Rep.lend{K:N4}{O O':Ow}{H:Hp}{D:Bool}(hk:∀a,O a->O' a\/if D then ∃kvs,Rd H a (.dT kvs)else ∃vs,H a=ZA (.lst vs)):∀{t:T}{v:V},t.nk D=ZC->Rep K O' H t v->Rep K O H t v
 |.non,_,_,r=>by unfold Rep at r ⊢;exact r
 |.bl _,_,_,r=>by unfold Rep at r ⊢;exact r
 |.int _,_,_,r=>by unfold Rep at r ⊢;exact r
 |.str _,_,_,r=>by unfold Rep at r ⊢;exact r
 |.tup l,_,h,r=>by
  unfold Rep at r ⊢;unfold T.nk at h;obtain⟨a,vs,e,n,q,z⟩:=r;refine⟨a,vs,e,λp=>(hk a p).elim n λw=>?_,q,Reps.lend hk h z⟩;split at w
  .obtain⟨_,w|⟨_,w⟩⟩:=w <;> rw[q]at w <;> cases w
  .obtain⟨_,w⟩:=w;rw[q]at w;cases w
 |.lst l,_,h,r=>by unfold Rep at r ⊢;unfold T.nk at h;rw[N7]at h;obtain⟨h1,h2⟩:=h;subst h1;obtain⟨a,vs,e,n,q,z⟩:=r;refine⟨a,vs,e,λp=>(hk a p).elim n λw=>?_,q,Reps.lend hk h2 z⟩;rw[if_pos rfl]at w;obtain⟨_,w|⟨_,w⟩⟩:=w <;> rw[q]at w <;> cases w
 |.scr l,_,h,r=>by unfold T.nk at h;cases h
 |.dct ks ts,_,h,r=>by
  unfold Rep at r ⊢;unfold T.nk at h;rw[N7]at h;obtain⟨h1,h2⟩:=h;cases D with
  |true=>cases h1
  |false=>
   obtain⟨a,kvs,e,n,q,k,z⟩:=r;refine⟨a,kvs,e,λp=>(hk a p).elim n λw=>?_,q,k,Reps.lend hk h2 z⟩;rw[if_neg OA]at w;obtain⟨_,w⟩:=w;rcases q with q|⟨_,q⟩ <;> rw[q]at w <;> cases w
theorem Reps.lend{K:N4}{O O':Ow}{H:Hp}{D:Bool}(hk:∀a,O a->O' a\/if D then ∃kvs,Rd H a (.dT kvs)else ∃vs,H a=ZA (.lst vs)):∀{l:List T}{vs:List V},nks D l=ZC->Reps K O' H l vs->Reps K O H l vs
 |[],_,_,r=>by unfold Reps at r ⊢;exact r
 |t::l,_,h,r=>by unfold Reps at r ⊢;unfold nks at h;rw[N7]at h;obtain⟨v,ws,e,p,q⟩:=r;exact⟨v,ws,e,Rep.lend hk h.1 p,Reps.lend hk h.2 q⟩
end
noncomputable def ln(i:Nat)(f:Y2)(Z:En):Rs T:=match Z[i]? with
 |some (.ow o)=>f (disown i Z) >>= λt=>if t.nk o.isD=ZC then .ok t else .bad
 |_=>f Z
def JK(i:Nat)(f:Y3)(Z:En):Rs Bool:=f (disown i Z)
def sW(E:EnvM K O M H Z σ)(i:Nat):EnvM K (λa=>O a/\¬ M i a) (M.set i zF) H (disown i Z) σ:=
 E.disown i (λa z=>z.1) (λa z y=>y.2 z) λj a hj z=>⟨E.sub j a z,λy=>hj (E.dis j i a z y)⟩
def q_ln(i:Nat)(h:df X e f):df X e (ln i f):=PE.imp h λσ H Q ⟨Z,O,⟨M,E⟩,q⟩=>by
 unfold ln at q;split at q
 .rename_i o hi;refine⟨disown i Z,_,⟨_,sW E i⟩,?_⟩;obtain⟨w,e1,r⟩:=E.own i o hi;refine Post.mono (Post.bind q) λt H' s q2 v rv=>?_;split at q2
  .rename_i hk;have kd:=(r.same s).kind;refine q2 H' (Same.refl _) v (Rep.lend (λa z=>?_) hk rv);by_cases hm:M i a
   .refine .inr ?_;have this:=kd a hm;by_cases hD:o.isD=ZC
    .rw[if_pos hD]at this ⊢;exact this.imp λ_ z=>.inl z
    .rw[if_neg hD]at this ⊢;exact this
   .exact .inl ⟨z,hm⟩
  .exact q2.elim
 .exact⟨Z,O,⟨M,E⟩,q⟩
def Ld(i:Nat){f:Y3}(h:xw X e f):xw X e (JK i f):=PT.imp h λσ H Q ⟨Z,O,⟨M,E⟩,q⟩=>⟨disown i Z,_,⟨_,sW E i⟩,q⟩
end
noncomputable def lG:List T->List T->List Key->Option T
 |k'::ks,v::vs,k=>if keyOf k'=ZA k then ZA v else lG ks vs k
 |_,_,_=>ZB
noncomputable def hZ(k v:T):List T->List T->List T×List T
 |k'::ks,v'::vs=>if keyOf k'=keyOf k then(k'::ks,v::vs)else(k'::(hZ k v ks vs).1,v'::(hZ k v ks vs).2)
 |_,_=>([k],[v])
def bO(x y:T):Rs T:=match x,keyOf y with
 |.dct ks vs,ZA k=>match lG ks vs k with
  |some t=>.ok t
  |none=>.bad
 |_,_=>.bad
noncomputable def jE(x y:T):Rs T:=match x,keyOf y with
 |.dct ks vs,ZA k=>match lG ks vs k with
  |some t=>.ok t
  |none=>.ok .non
 |_,_=>.bad
noncomputable def Bk(x y:T):Rs T:=match y,keyOf x with
 |.dct ks vs,ZA k=>.ok (.bl (lG ks vs k).isSome)
 |_,_=>.bad
def oD(g:T->T->Rs T)(fa fb:Y2)(Z:En):Rs T:=fa Z >>= λx=>match x with
 |.dct ks vs=>fb Z >>= g (.dct ks vs)
 |_=>.bad
def oL(g:T->T->Rs T)(fa fb:Y2)(Z:En):Rs T:=fa Z >>= λx=>match x with
 |.lst l=>fb Z >>= g (.lst l)
 |_=>.bad
noncomputable def KG:List T->Option (List (T×T))
 |[] =>ZA []
 |.tup [k,v] ::l=>match keyOf k,KG l with
  |some _,ZA r=>ZA ((k,v)::r)
  |_,_=>ZB
 |_=>ZB
def kc:List (T×T)->List T×List T->List T×List T
 |[],d=>d
 | (k,v)::r,d=>kc r (hZ k v d.1 d.2)
noncomputable def Aj:List T->Rs T
 |[.lst l] =>match KG l with
  |some ps=>if l.length<=1000 then .ok (.dct (kc ps ([],[])).1 (kc ps ([],[])).2)else .bad
  |none=>.bad
 |_=>.bad
def nQ:List T->Bool
 |[] =>ZC
 |k::l=>(keyOf k).isSome&&nQ l
noncomputable def rS(i:Nat)(f:Y2)(Z:En):Rs Fl:=f Z >>= λt=>Aj [t] >>= λd=>match d with
 |.dct ks vs=>if i<Z.length then .ok (.nx (Z.set i (.ow (.dct ks vs))))else .bad
 |_=>.bad
noncomputable def AF(i:Nat)(fk fv:Y2)(Z:En):Rs Fl:=match Z[i]? with
 |some (.ow (.dct ks vs))=>fv Z >>= λv=>fk Z >>= λk=>match keyOf k with
  |some _=>if ks.length<1000 then .ok (.nx (Z.set i (.ow (.dct (hZ k v ks vs).1 (hZ k v ks vs).2))))else .bad
  |none=>.bad
 |_=>.bad
noncomputable def pF(i j:Nat)(Z:En):Rs Fl:=match Z[j]? with
 |some (.va (.lst l))=>if i<Z.length/\nQ l=ZC/\(l.map keyOf).Nodup/\l.length<=1000 then .ok (.nx (Z.set i (.ow (.dd l (l.map λ_=>(l,l.map λ_=>.non))))))else .bad
 |_=>.bad
noncomputable def rk:List T->List (List T×List T)->List Key->Option (List T×List T)
 |k'::ks,r::rs,k=>if keyOf k'=ZA k then ZA r else rk ks rs k
 |_,_,_=>ZB
noncomputable def rj(k:List Key)(x:List T×List T):List T->List (List T×List T)->List (List T×List T)
 |k'::ks,r::rs=>if keyOf k'=ZA k then x::rs else r::rj k x ks rs
 |_,rs=>rs
noncomputable def jA(i:Nat)(fa fb fv:Y2)(Z:En):Rs Fl:=match Z[i]? with
 |some (.ow (.dd ks rows))=>fv Z >>= λv=>fa Z >>= λa=>match(keyOf a).bind λka=>(rk ks rows ka).map λr=>(ka,r)with
  |some (ka,r)=>fb Z >>= λb=>if (keyOf b).isSome=ZC/\r.1.length<1000 then .ok (.nx (Z.set i (.ow (.dd ks (rj ka (hZ b v r.1 r.2) ks rows)))))else .bad
  |none=>.bad
 |_=>.bad
def gq:List T->Option (List Int)
 |[] =>ZA []
 |.int i::l=>(gq l).map (i:: ·)
 |_=>ZB
def lmin(i:Int):List Int->Int
 |[] =>i
 |j::l=>lmin (if j<i then j else i) l
def mZ(i:Int):List Int->Int
 |[] =>i
 |j::l=>mZ (if i<j then j else i) l
noncomputable def Dd:List T->Rs T
 |[.lst l] =>match gq l with
  |some (i::ns)=>.ok (.int (mZ i ns))
  |_=>.bad
 |[.int i,.int j] =>.ok (.int (mZ i [j]))
 |_=>.bad
noncomputable def kM(x:T):List T->Nat->Option Nat
 |[],_=>ZB
 |t::l,n=>if aU t x then ZA n else kM x l (n+1)
noncomputable def ip(y x:T):Rs T:=match y with
 |.lst l=>if (x.dep<=60\/deps l<=60)/\x.nd=ZC/\nds l=ZC then match kM x l 0 with
   |some n=>.ok (.int n)
   |none=>.bad
  else .bad
 |_=>.bad
noncomputable def AD(ms:List (List T->Rs T))(f0:Y2)(fs:Y0)(Z:En):Rs T:=f0 Z >>= λk=>match k with
 |.int i=>match L2.atI ms i with
  |some m=>fs Z >>= m
  |none=>.bad
 |_=>.bad
noncomputable def B7(i:Nat)(f:Y2)(Z:En):Rs Fl:=match Z[i]? with
 |some (.va (.int a))=>f Z >>= λy=>match y with
  |.int b=>.ok (.nx (Z.set i (.va (.int (a+b)))))
  |_=>.bad
 |_=>.bad
noncomputable def lR(f:Y0)(Z:En):Rs T:=f Z >>= λx=>match x with
 |[.int i,.int j] =>if mi i&&mi j&&decide ((j - i).toNat<=1000)then .ok (.lst (rng i j))else .bad
 |[.int j] =>if mi j&&decide (j.toNat<=1000)then .ok (.lst (rng 0 j))else .bad
 |_=>.bad
noncomputable def Mf(f:Y0)(Z:En):Rs (List T):=f Z >>= λx=>match x with
 |[.int i,.int j,.int (-1)] =>if mi i&&mi j then .ok ((Oj (i - j).toNat).map λ(k:Nat)=>T.int (i - (k:Int)))else .bad
 |_=>.bad
def FU:Nat:=1000000000000
variable{h:ZH}
theorem iJ{b b':ZH}:∀{l:List Env},h.FunFrames b l->(∀a∈l.filterMap (·.frame),b'.get? a=ZB)->h.FunFrames b' l
 |[],_,_=>trivial
 |env::dy,⟨hk,⟨L,o,hf,hn,ho,hd⟩,hr⟩,q=>by rw[P6,hf]at q;exact⟨hk,⟨L,o,hf,q L Ob,ho,hd⟩,iJ hr λa ha=>q a (N6 _ ha)⟩
variable{C e:ZE}{M:Xq}{outer:List Env}
structure G8 (fs:List ZE)(C e:ZE)(T:Option ZE)(h h':ZH)(T':ZE):Prop where
 flt:MI h' C e (ZA T')
 new:T=ZA T'\/h.get? T'=ZB
 keep:∀b o,b∉fs->b≠e->T≠ZA b->h.get? b=ZA o->h'.get? b=ZA o
 slot:∀b o,b∈fs->h.get? b=ZA o->∃sl,h'.get? b=ZA {o with slots:=sl}
def JL{base:ZH}{L:ZE}{T:Option ZE}{Q:Unit->Oc->Prop}(hfr:A.frames=ZA (env::outer))(hl:s.heap.FunFrames base (env::outer))(hf:env.frame=ZA L)
  (F:MI s.heap C e T) (h:∀h' T',G8 ((env::outer).filterMap (·.frame)) C e T s.heap h' T'->Q () {s with heap:=h'}):ZJ M A (leaving env (.ref e)) Q E s:=by
 generalize hB:Ux s.heap (e::(T.toList++(env::outer).filterMap (·.frame)))=B;have bm:∀b,b∈e::(T.toList++(env::outer).filterMap (·.frame))->B.get? b=ZB:=λb m=>by rw[<-hB];exact SW _ m
 have hl':s.heap.FunFrames B (env::outer):=iJ hl λa ha=>bm a (N6 _ (OI _ ha));have hst:B.StaysIn s.heap:=λb o q=>by rw[<-hB]at q;exact Tq _ q
 have hen:B.get? e=ZB:=bm e Ob;have main:∀h',Heap.Left B (env::outer) e (.ref C) s.heap h'->Q () {s with heap:=h'}:=λh' ⟨x1,x2,⟨oe,vs,T',oT,ts,he,hc,hd,h1,hnT,hTe,hT,hdT,h3⟩,x4⟩=>by
  refine h h' T' ⟨⟨hTe,oe,vs,he,hc,hd,h1,oT,ts,hT,hdT,h3⟩,?_,λb o n1 n2 n3 q=>?_,λb o m q=>?_⟩
  .cases q:s.heap.get? T' with
   |none=>exact .inr rfl
   |some o=>
    left;by_cases z:T'∈e::(T.toList++(env::outer).filterMap (·.frame))
    .rcases Oe.mp z with z|z
     .exact absurd z hTe
     .rcases OP.mp z with z|z
      .cases T with
       |none=>simp at z
       |some t=>simp at z;rw[z]
      .obtain⟨_,o',ho',hnf⟩:=x2.mem z;rw[hT]at ho';cases ho';exact absurd hdT (hnf ts)
    .rw[<-hB,Rk _ q z]at hnT;cases hnT
  .refine x1 b o ?_;rw[<-hB];refine Rk _ q λz=>?_;rcases Oe.mp z with z|z
   .exact n2 z
   .rcases OP.mp z with z|z
    .cases T with
     |none=>simp at z
     |some t=>simp at z;exact n3 (by rw[z])
    .exact n1 z
  .obtain⟨_,o',ho',hnf⟩:=hl.mem m;rw[q]at ho';cases ho';exact x4 b o q hnf
 cases T with
 |none=>
  obtain⟨oe,vs,he,hc,hd,h1⟩:=F;refine wpAny_leaving_first hfr hl' hf he hst hen hd h1 λh' x=>main h' ?_;rw[hc]at x;exact x
 |some t=>
  obtain⟨hte,oe,vs,he,hc,hd,h1,oT,ts,hT,hdT,h3⟩:=F;exact wpAny_leaving_next hfr hl' hf ⟨oe,vs,t,oT,ts,he,hc,hd,h1,bm t (N6 _ (O6 _ (by simp))),hte,hT,hdT,h3⟩ hst hen main
noncomputable abbrev ou:List N8:=[.type "ValueError",.type "Exception",.type "BaseException",.type "object"]
structure OwnExc (K:N4)(C:ZE)(bm:List N8):Prop where
 at_:∀h:ZH,K.In h->∃nm q N bs hdct sn sub ab col dd k0 k1 k2 k3 k5 mN,h.get? C=ZA (PV nm q C N bs bm hdct sn sub ab col dd k0 k1 k2 k3 k5 "ValueError.__new__")/\h.Ns N mN/\mN "__init__" =ZB/\OwnTail h ou bm
def OwnExc.base(O:OwnExc K C bm)(k:K.In h):bm.contains (.type "BaseException")=ZC:=by obtain⟨_,_,_,_,_,_,_,_,_,_,_,_,_,_,_,_,_,_,_,T⟩:=O.at_ h k;exact T.hasType (by decide)
def B6(c:Str)(_:En):Rs Fl:=.err c
variable{c:Str}{p1:Pos}
def Co{msg:Str}{np:Pos}(O:OwnExc X.K C bm)(hc:X.calm=ZC)(hm:X.mg c=ZA (.ref C))(hg:Gl X c:=by rfl)(hd:autoParam ((c == ("__debug__" : Str))=ZD) s_):
  qU X (.Raise (ZA (.Call (.Name c np) [.Constant (.str msg) j p1] [] cpos)) ZB pos) (B6 c):=by
 intro kw s σ H D I ⟨Z,B,M,E,k⟩;have k:XA X M.u H c:=k;obtain⟨nm,q,N,bs,hdct,sn,sub,ab,col,dd,k0,k1,k2,k3,k5,mN,hC,hN,hni,T⟩:=O.at_ s.heap I.kIn;refine wpAny_Raise_call_subU (C:=C) (mN:=mN) (nm:=nm) (q:=q) (N:=N) (bs:=bs) (hdct:=hdct) (sn:=sn) (sub:=sub) (ab:=ab) (col:=col) (dd:=dd) (k0:=k0) (k1:=k1) (k2:=k2) (k3:=k3) (k5:=k5) Th (Bn:="ValueError") (by decide) Th (O.base I.kIn) (I.ok.hd hc) (by rfl) hni (jh I hg hm ⟨rfl,?_⟩ hd);show ZJ _ _ (evalArgs (.ref C) ZC ((ZD,eval (.Constant (.str msg) j p1) X.env)::backTo cpos (Ov [] X.env)) []) _ _ s;refine RS (Rx (Vt (Re ?_)));refine⟨rfl,by show 1<=ZI;decide,hC,hN,T,λh' e hm'=>k kw _ _ ?_⟩;obtain⟨t,ht,ht2,ht3⟩:=hm'.there;have I':Inv X kw σ H {s with heap:=h',toks:=s.toks+1}:=I.kept (t':=s.toks+1) λb o z=>hm'.keeps b o z;refine⟨e,ZB,C,σ,H,rfl,hm,I',λb o z _=>z,?_,?_,⟨_,_,ht,rfl,rfl,rfl⟩,(λt z=>by cases z),λp hp=>⟨λz=>?_,λz=>by cases z⟩⟩
 .exact qf I hm'.new
 .exact λhex=>lA I hex hm'.new
 .have:=(I.pin p hp).1;rw[z,show s.heap.get? e=ZB from hm'.new]at this;cases this
variable{f:ZE}{mg:WF}{qual:Str}
section
variable {base:ZH}
theorem Ka(Fn:L2.Fun K x qual st f fd)(S:dq N ps (ay st))(hn:ps.length=n)
  (hbody:∀(cdv:N8),fd.code=cdv->∀(A:OU)(outer:List Env)(s:Oc)(H:Hp)(E:XK),Room k (A.deeper (envOfC qual (ay st) s.heap.objs.size f cdv)) ->
   ∃F,(∀xe,nu ((jm CX0 P w K mg base N qual (ay st) f cdv A outer s H E).FB xe) (de st) F)/\∀ts,ts.length=n->∀c,g ts=.err c->F (aV N.length ts)=.err c):FnX P w K mg base (k+1) f fd ps n g:=by
 intro A outer s H args us vs O ts c R hr e0 hb r rs trk hl hg hR;have hpl:ps.length<=N.length:=by have:=congrArg Py S.pre;rw[Po]at this;omega
 obtain⟨oc,od,kV,doc,pm,an,cdv,ct,osl,rfl,lk,hcd⟩:=Fn.ex;have hlen:vs.length=ps.length:=by rw[<-rs.length,hl,hn]
 have KX:K.In s.heap:=e0.mod.kin.keeps λb o e=>(e0.bs b o e).1;have lim:s.heap.NoLimit:=e0.mod.nolimit.keeps λb o e=>(e0.bs b o e).1;have hkind:∀y∈ps.zip us,(ay st).names.lookup y.1=ZA .local\/((ay st).names.lookup y.1=ZA .cell/\((QR (s.heap.objs.size+1) (ay st).names []).lookup y.1).isSome=ZC):=λ⟨n,v⟩ hy=>by
  rcases S.par n (Rf hy).1 with q|q
  .exact .inl q
  .exact .inr ⟨q,QY _ _ _ (.inl q)⟩
 refine SO hr.depth (KX _ _ lk) rfl S.co S.gen rfl (Ts KX hcd) (hb _ _ _ _ ?_);refine Q2 S.kind hkind λenv he s1 x=>?_;subst he;refine⟨lim.keeps x.toInCall.keep,Wx ?_⟩;obtain⟨F,hF,hv⟩:=hbody cdv rfl A outer s H E0 (hr.deeper _);let xe:WP:=λev s'=>ZJ (ZK P w) (A.deeper (envOfC qual (ay st) s.heap.objs.size f cdv)) (leaving (envOfC qual (ay st) s.heap.objs.size f cdv) ev) (λ_ s''=>R (.error ev) s'') (λe' s''=>R (.error e') s'') s';have I:Inv ((jm CX0 P w K mg base N qual (ay st) f cdv A outer s H E0).FB xe) [] (start N vs) H s1:=(kI S hr.hd e0 hlen r x).FB _;have no:∀a,¬noM.u a:=λa ⟨_,z⟩=>z;refine Qm (hF xe [] s1 (start N vs) H {nx:=λ_ _=>False,rt:=λ_ _=>False,bk:=λ_ _=>False,ct:=λ_ _=>False} I ⟨aV N.length ts,O,noM,rP rs (by omega) trk,?_⟩) (λfl s' z=>?_) λe s' hs=>hs
 rotate_left
 .cases fl with
  |next=>obtain⟨_,_,_,z⟩:=z;exact z.elim
  |cont=>obtain⟨_,_,_,z⟩:=z;exact z.elim
  |brk=>obtain⟨_,_,_,z⟩:=z;exact z.elim
  |ret v=>obtain⟨_,_,_,_,_,z⟩:=z;exact z.elim
 rw[hv ts hl c hg];intro kw ev s' w';show ZJ _ _ _ _ _ _;obtain⟨e,T,C,σ',H',rfl,hm,I',sm,he,heo,fl,hT,_⟩:=w';have heo:=heo rfl;have hT:∀t,T=ZA t->H' t=ZB/\s.heap.get? t=ZB:=λt z=>⟨(hT t z).1,(hT t z).2 rfl⟩;refine JL (base:=base) (outer:=outer) (L:=s.heap.objs.size) I'.ok.frames I'.stack rfl fl λh' T' g=>hR _ _ ?_;have hex:((jm CX0 P w K mg base N qual (ay st) f cdv A outer s H E0).FB xe).ex=[]:=rfl;have Tn:H' T'=ZB/\s.heap.get? T'=ZB:=by
  rcases g.new with z|z
  .exact hT T' z
  .exact⟨qf I' z,lA I' hex z⟩
 have out:∀b o,s.heap.get? b=ZA o->b≠s.heap.objs.size:=λb o q z=>by have:=Os q;rw[z]at this;exact absurd this (O7 _)
 have mem:∀b,b∈kJ ((envOfC qual (ay st) s.heap.objs.size f cdv)::outer)->b=s.heap.objs.size\/b∈kJ outer:=λb z=>by have z':b∈s.heap.objs.size::kJ outer:=z;exact Oe.mp z'
 have ne:∀b o,s.heap.get? b=ZA o->b≠e/\T≠ZA b:=λb o q=>⟨λz=>(by subst z;rw[show s.heap.get? b=ZB from heo]at q;cases q),λz=>(by rw[show s.heap.get? b=ZB from(hT b z).2]at q;cases q)⟩;have keepH:∀b u,H' b≠ZB->s'.heap.get? b=ZA u->h'.get? b=ZA u:=λb u hb q=>by refine g.keep b u (λz=>hb (I'.IR b z)) (λz=>hb (by rw[z];exact he)) (λz=>hb (hT b z).1) q
 refine⟨e,T',C,H',rfl,hm,I'.os,I'.bare,⟨λb o q n hb hx=>?_,λb o q n hb hx=>?_,λb o q n hx=>I'.base.free b o q n hx,λb o q hx=>?_,I'.base.tups,I'.base.frzs,I'.base.tbls⟩,λa o q=>?_,λb o q=>sm b o q (no b),he,heo,g.flt,Tn.1,Tn.2⟩
 .exact g.keep b o (λz=>(mem b z).elim (out b o q) hb) (ne b o q).1 (ne b o q).2 (I'.base.keep b o q n hb hx)
 .obtain⟨sl,q1⟩:=I'.base.slot b o q n hb hx;obtain⟨sl',q2⟩:=g.slot b _ (N6 _ hb) q1;exact⟨sl',q2⟩
 .obtain⟨o',q1⟩:=I'.base.there b o q hx;by_cases z:b∈kJ ((envOfC qual (ay st) s.heap.objs.size f cdv)::outer)
  .obtain⟨sl,q2⟩:=g.slot b o' z q1;exact⟨_,q2⟩
  .exact⟨o',g.keep b o' z (ne b o q).1 (ne b o q).2 q1⟩
 .refine(I'.hok a o q).M4 (λb u hb z=>keepH b u ?_ z) (λ_ z=>z) λ_ _ z=>z;rcases hb with rfl|hb
  .rw[q];simp
  .rw[hb];simp
end
def EW{m:Nat}{F:Y1}(h:val n m F ts=.err c):F (aV m ts)=.err c:=by
 unfold val at h;split at h
 .unfold cb at h;cases z:F (aV m ts)with
  |bad=>rw[z]at h;cases h
  |err c'=>rw[z]at h;cases h;rfl
  |ok f=>
   rw[z,aG]at h;cases f <;> cases h
 .cases h
section
variable {base:ZH}
def Kc{F:Y1}(Fn:L2.Fun K x qual st f fd)(S:dq N ps (ay st))(hn:ps.length=n)
  (hbody:∀(cdv:N8),fd.code=cdv->∀(A:OU)(outer:List Env)(s:Oc)(H:Hp)(E:XK),Room k (A.deeper (envOfC qual (ay st) s.heap.objs.size f cdv)) ->
   ∀xe,nu ((jm CX0 P w K mg base N qual (ay st) f cdv A outer s H E).FB xe) (de st) F):BI P w K mg base (k+1) f fd ps n (val n N.length F):=
 ⟨Mj Fn S hn λcdv hcv A outer s H E hr=>⟨F,hbody cdv hcv A outer s H E hr _,λts _ _ h=>H0 h⟩,Ka Fn S hn λcdv hcv A outer s H E hr=>⟨F,hbody cdv hcv A outer s H E hr,λts _ c h=>EW h⟩⟩
end
variable{args:List ZG}{as:List ZE}{gs:List (List T->Rs T)}{kw:Uf}{vs:List V}
section
variable {Q:VK}
def K5(F:BI X.prog X.w X.K X.mg X.base k f fd ps n g)(hr:Room k X.A)(hb:Binds X.K fd ps [])(hps:ps.length=n)(I:Inv X kw σ H s)(r:Vals vs us)(rs:Reps X.K O H ts vs)(mt:∀a,O a->Mtb H a)(hl:ts.length=n)
  (hq:Post X H (g ts) λt H'=>∀v,Rep X.K O H' t v->Q v H'):ZJ (ZK X.prog X.w) X.A (call (.ref f) us) (EP X kw σ Q) X.xe s:=by
 cases q2:g ts with
 |bad=>rw[q2]at hq;exact hq.elim
 |ok t=>
  rw[q2]at hq;refine xT (E:=E0) (dvs:=[]) (ds:=[]) F.h hr hb .nil zB I r ⟨ts,O,by simpa using rs,mt,hl,?_⟩;rw[q2];exact λv H' s2 rr=>hq H' s2 v rr
 |err c=>
  rw[q2]at hq;have hlen:us.length=ps.length:=by rw[<-r.length,<-rs.length,hl,hps]
  have hb':=hb s us I.kIn (by rw[Px];exact hlen);rw[Px]at hb';refine UW (R9 (F.x X.A X.stack s H ⟨us,[]⟩ us vs O ts c (λr s'=>match r with|.error ev=>X.xe ev s'|_=>False) hr I.Nx hb' r rs mt hl q2 λev s' w=>?_) λr s' hq=>?_)
  .obtain⟨ea,T,C,H',rfl,hmc,ho,hbare,hun,hok,sm2,hea,heo,fl,hT,hTo⟩:=w;have I2:Inv X kw σ H' s':=I.Nu ho hun hok hbare (λb z=>absurd z (by simp));exact hq kw _ _ ⟨ea,ZA T,C,σ,H',rfl,hmc,I2,λb o q _=>sm2 b o q,hea,λhex=>lA I hex heo,fl,(λt zt=>by cases zt;exact⟨hT,λhex=>lA I hex hTo⟩),λpp hpp=>⟨λzz=>(by have:=(I.pin pp hpp).1;rw[zz,heo]at this;cases this),λzz=>(by cases zz;have:=(I.pin pp hpp).1;rw[hTo]at this;cases this)⟩⟩
  .cases r with
   |error ev=>exact hq
   |ok fl=>exact hq.elim
inductive Sels (X:Cx) (n:Nat):List ZG->List ZE->List (List T->Rs T)->Prop
 |nil:Sels X n [] [] []
 |cons {x:Str} {p:Pos} {es:List ZG} {as:List ZE} {gs:List (List T->Rs T)} {k:Nat} {f:ZE} {fd:PR} {ps:List Str} {g:List T->Rs T}:BI X.prog X.w X.K X.mg X.base k f fd ps n g->Room k X.A->X.mg x=ZA (.ref f)->Qu X.K (.ref f)=ZC->Binds X.K fd ps []->ps.length=n->Gl X x->(x == ("__debug__" : Str))=ZD ->
   Sels X n es as gs->Sels X n (.Name x p::es) (f::as) (g::gs)
def seln:Sels X n [] [] []:=.nil
def selc(F:BI X.prog X.w X.K X.mg X.base k f fd ps n g)(hr:Room k X.A)(hm:X.mg x=ZA (.ref f))(hk:Qu X.K (.ref f)=ZC)(hb:Binds X.K fd ps [])(h:Sels X n es as gs)(hps:ps.length=n:=by rfl)(hg:Gl X x:=by rfl)(hd:autoParam ((x == ("__debug__" : Str))=ZD) s_):
  Sels X n (.Name x p::es) (f::as) (g::gs):=.cons F hr hm hk hb hps hg hd h
theorem Sels.pa:∀{es:List ZG}{as:List ZE}{gs:List (List T->Rs T)},Sels X n es as gs->PA X es (λσ H Q=>Q (as.map V.ref) H)
 |_,_,_,.nil=>λpos kw s σ H Q I h=>dS pos kw s σ H Q I h
 |_,_,_,.cons F hr hm hk hb hps hg hd h=>λpos kw s σ H Q I q=>bB (t9 (v:=.ref _) hg hm rfl hd) h.pa (bp rfl) pos kw s σ H Q I q
theorem Sels.len:∀{es:List ZG}{as:List ZE}{gs:List (List T->Rs T)},Sels X n es as gs->as.length=gs.length
 |_,_,_,.nil=>rfl
 |_,_,_,.cons _ _ _ _ _ _ _ _ h=>by rw[Oh,Oh,h.len]
theorem Sels.at_:∀{es:List ZG}{as:List ZE}{gs:List (List T->Rs T)},Sels X n es as gs->∀{j:Nat}{g:List T->Rs T},gs[j]?=ZA g->∃f fd ps k,as[j]?=ZA f/\BI X.prog X.w X.K X.mg X.base k f fd ps n g/\Room k X.A/\Qu X.K (.ref f)=ZC/\Binds X.K fd ps []/\ps.length=n
 |_,_,_,.nil,j,g,e=>by simp at e
 |_,_,_,.cons F hr hm hk hb hps hg hd h,0,g,e=>by simp at e;subst e;exact⟨_,_,_,_,rfl,F,hr,hk,hb,hps⟩
 |_,_,_,.cons F hr hm hk hb hps hg hd h,j+1,g,e=>by obtain⟨f,fd,ps,k,e1,r⟩:=h.at_ (j:=j) (by simpa using e);exact⟨f,fd,ps,k,by simpa using e1,r⟩
def oX{b:ZG}{Q:WP}
  (h:ZJ M A (eval (.Subscript a b p) env) (λf s₁=>ZJ M A (callWith pos f [] (backTo pos (Ov args env)) (VQ pos (Te [] env))) Q E s₁) E s):
  ZJ M A (eval (.Call (.Subscript a b p) args [] pos) env) Q E s:=by
 rw[show eval (.Call (.Subscript a b p) args [] pos) env=(do callWith pos (<-eval (.Subscript a b p) env) [] (backTo pos (Ov args env)) (VQ pos (Te [] env)))from rfl];exact N5 h
def EB{xs:List α}{ys:List β}{i:Int}{y:β}(hl:xs.length=ys.length)(h:L2.atI ys i=ZA y):∃j:Nat,ys[j]?=ZA y/\∀x,xs[j]?=ZA x->L2.atI xs i=ZA x:=by
 unfold L2.atI at h ⊢;rw[hl];cases q:ixN ys.length i with
 |none=>rw[q]at h;cases h
 |some j=>rw[q]at h;exact⟨j,h,λx e=>e⟩
theorem Lj{a0 i0:ZG}{p2:Pos}{f0:Y2}{fs:Y0}(S:Sels X n es as gs)(h0:df X i0 f0)(hl:∀Z ts,fs Z=.ok ts->ts.length=n)(ha:qX X (a0::args) fs)
  (hn:bo (a0::args)=ZC:=by rfl) (hs:autoParam (kO i0) w_) (hz:autoParam (es.length<=100) s_):df X (.Call (.Subscript (.List es p1) i0 p2) (a0::args) [] pos) (AD gs f0 fs):=by
 intro kw s σ H Q I ⟨Z,O,E,hq⟩;have hes:as.length<=ZI:=by
  have:∀{es:List ZG}{as:List ZE}{gs:List (List T->Rs T)},Sels X n es as gs->es.length=as.length:=by
   intro es as gs h;induction h with
   |nil=>rfl
   |cons _ _ _ _ _ _ _ _ _ ih=>rw[Oh,Oh,ih]
  rw[<-this S,PD];omega
 have hq':Post X H (f0 Z >>= λk=>match k with|.int i=>(match L2.atI gs i with|some m=>fs Z >>= m|none=>.bad)|_=>.bad) λt H'=>∀v,Rep X.K O H' t v->Q v H':=hq;refine oX (cM (LC ix_list (tZ S.pa) h0 hs kw s σ H (λv H'=>∃(i:Int)(m:List T->Rs T)(j:Nat),L2.atI gs i=ZA m/\gs[j]?=ZA m/\(∀x,as[j]?=ZA x->v=.ref x)/\Same H H'/\Post X H' (fs Z >>= m) λt H'=>∀v,Rep X.K O H' t v->Q v H') I ?_) λf s1 r=>?_)
 .refine⟨by rw[N9];exact hes,λl hl0=>?_⟩;have E1:=E.same (aR hl0 (.lst (as.map V.ref)));have s1:Same H (upd H l (.lst (as.map V.ref))):=aR hl0 _;refine⟨Z,O,E1,Post.mono (Post.bind (Post.later hq' s1)) λt H2 s2 q2 v rv=>?_⟩;cases t with
  |int i=>
   have hv:=Rep.AC.mp rv;subst hv;simp only at q2;cases z:L2.atI gs i with
   |none=>rw[z]at q2;exact q2.elim
   |some m=>
    rw[z]at q2;obtain⟨j,z1,z2⟩:=EB (xs:=as) S.len z;obtain⟨f,fd,ps,k,e1,_⟩:=S.at_ z1;have z3:L2.atI (as.map V.ref) i=ZA (.ref f):=by
     have:=z2 f e1;unfold L2.atI at this ⊢;rw[N9];cases y:ixN as.length i with
     |none=>rw[y]at this;cases this
     |some j'=>
      rw[y]at this;show(as.map V.ref)[j']?=_;rw[Ot];have:as[j']?=ZA f:=this;rw[this];rfl
    refine⟨l,as.map V.ref,i,.ref f,rfl,rfl,SqL.of (s2 _ _ aH),z3,i,m,j,z,z1,λx ex=>?_,s1.trans s2,q2⟩;rw[e1]at ex;cases ex;rfl
  |_=>exact q2.elim
 .obtain⟨v,H1,I1,rv,i,m,j,z,z1,hv,sm,q⟩:=r;obtain⟨f',fd,ps,k,e1,F,hr,hk,hb,hps⟩:=S.at_ z1;cases hv f' e1;cases rv;unfold bo at hn;rw[N7]at hn;refine Sd (h₀:=X.base) I.ok.mod.kin hk (cM (ha pos kw s1 σ H1 (λvs H'=>∃ts,fs Z=.ok ts/\Reps X.K O H' ts vs/\Same H1 H'/\Post X H' (m ts) λt H'=>∀v,Rep X.K O H' t v->Q v H') I1 ⟨Z,O,E.same sm,?_⟩) (λus s2 ⟨vs,H2,I2,r,ts,et,rs,s2',q2⟩=>⟨I2.kIn,?_⟩)) (bp hn.1) (gn hn.2)
  .cases y:fs Z with
   |bad=>rw[y]at q;exact q.elim
   |err c=>rw[y]at q;exact q
   |ok ts=>
    rw[y]at q;exact λH' s' vs rs=>⟨ts,rfl,rs,s',Post.later q s'⟩
  .exact K5 F hr hb hps I2 r rs ((E.same sm).same s2').mtb (hl Z ts et) q2
end
def Lh:qU X (.Continue pos) K4:=PS.imp vS λD σ H ⟨Z,B,M,E,h⟩=>h σ H M (λ_ _ e _=>e) E λa z=>.inl z
def IS(i:Nat){pos':Pos}(hN:X.N.Nodup)(ha:df X a fa)(hi:X.N[i]?=ZA x:=by rfl)(hx:autoParam (Loc X.env.scope x) x_)(hf:autoParam (X.fn x=ZC\/X.env.scope.names.lookup x=ZA .local) r_):
  qU X (.AugAssign (.Name x pos') .Add a pos) (B7 i fa):=PS.imp (Jd hN hi hx ha J4 hf) λD σ H hh_=>by
 obtain⟨Z,B,M,E,h⟩:=hh_;unfold B7 at h;split at h
 .rename_i n e;obtain⟨v,e1,r⟩:=E.env.val i _ e;cases Rep.AC.mp r;have hl:i<Z.length:=(Og.mp e).1;refine⟨.int n,e1,Z,OO B M,E.o,?_⟩;cases q:fa Z with
  |bad=>rw[q]at h;exact h.elim
  |err c=>rw[q]at h;exact PostF.xa h
  |ok t=>
   rw[q,aG]at h;cases t with
   |int m=>
    intro H1 s1 v rv;cases Rep.AC.mp rv;exact⟨n,m,rfl,rfl,h _ _ M (SameO.of s1) ⟨(E.env.same s1).set hl (Rep.GE _),E.mine⟩ λa z=>.inl z⟩
   |_=>exact h.elim
 .exact h.elim
inductive OTail (h:ZH):List N8->Prop
 |base:OTail h ou
 |own {A:ZE} {c0:N8} {dd:Option ZE} {cd:ClassData} {sl:Array (Option N8)} {mA:WF} {tl:List N8} :
   h.get? A=ZA {cls:=c0,dict:=dd,data:=.cls cd,slots:=sl}->h.Ns cd.ns mA->(∀n∈calmNames,mA n=ZB)->OTail h tl->OTail h (.ref A::tl)
def OTail.tail(T:OTail h tl):OwnTail h ou tl:=by
 induction T with
 |base=>exact .base
 |own hA hN hq _ ih=>exact .own hA hN (hq _ (.head _)) ih
variable{d:Drawn}{dd:Option ZE}{g:Array VJ}{k0 y:Option N8}{mN:WF}{n nm q:Str}{sn:List Str}{tk:Tok}
section
variable {t:Nat}
def G2(hn:n∈calmNames)(T:OTail h tl)(hrest:Xk ou n=pure y)(hq:Q y ⟨h,g,d,t,os⟩):
  ZJ M A (Xk tl n) Q E ⟨h,g,d,t,os⟩:=by
 induction T with
 |base=>rw[hrest];exact Oi hq
 |own hA hN hni _ ih=>
  rw[WT];refine N5 (wpAny_classOwn_cls hA hN ?_);rw[hni n hn];exact ih
def LP:mroOf (.type "ValueError")=pure ou:=by rw[mroOf_type];kernel_rfl
variable {N:ZE}{bs:List N8}{sub:List N8}
def yp(hn:n∈calmNames)(hC:h.get? C=ZA (PV nm q C N bs bm hdct sn sub ab col dd k0 k1 k2 k3 k5 newId))(hN:h.Ns N mN)(hmN:∀n∈calmNames,mN n=ZB)(T:OTail h bm)
  (hB:Sy (.type "ValueError") n=pure y) (hq:Q y ⟨h,g,d,t,os⟩):ZJ M A (Sy (.ref C) n) Q E ⟨h,g,d,t,os⟩:=by
 have hrest:Xk ou n=pure y:=by rw[typeLookup_eq,LP]at hB;exact hB
 rw[typeLookup_eq];refine N5 (wpAny_mroOf_exc hC ?_);rw[WT];refine N5 (wpAny_classOwn_exc hC hN ?_);rw[hmN n hn];exact G2 hn T hrest hq
def Di:Sy (.type "ValueError") "__class__" =pure (ZA (.builtin "object.__class__")):=by rw[Sm,Q7];kernel_rfl
def yu:Sy (.type "ValueError") "__getattr__" =pure ZB:=by rw[Sm,Q7];kernel_rfl
def ga_V:Slot "ValueError" "__getattribute__" "BaseException.__getattribute__":=.of (owner:="BaseException") (n:="__getattribute__") (by rw[Sm,Q7];kernel_rfl) (by decide+kernel) (by decide+kernel) (by decide+kernel) (by first|exact .inl (by decide+kernel)|exact .inr (by decide+kernel)) (by rw[isSubtype_type];kernel_rfl)
variable {a:ZE}{o:Obj}{vs:Array N8}
def GW(hC:h.get? C=ZA (PV nm q C N bs bm hdct sn sub ab col dd k0 k1 k2 k3 k5 newId))(T:OTail h bm)
  (hx:h.get? a=ZA o) (hc:o.cls=.ref C) (hq:R (.ok (.ret (.ref C))) ⟨h,g,d,t,os⟩):
  ZL (ZK prog w) A (.call (.builtin "getset_descriptor.__get__") ⟨[.builtin "object.__class__",.ref a,.ref C],[]⟩) R ⟨h,g,d,t,os⟩:=by
 have hT5:(⟨h,g,d,t,os⟩:Oc).TypeIs (.builtin "object.__class__") "getset_descriptor":=SG;have hcB:(Oz C::bm).contains (.type (".".intercalate ("object.__class__".cutAt '.').dropLast))=ZC:=by rw[F.owner_object_class,Qe,T.tail.hasType (b:=ZC) (by decide)];rfl
 refine S0 Vy.plain F.entry_gs_get (Vy.check _ _ _ _ _ _ _ _ hT5 (F.args_gs_get _ _ _) ?_);repeat (any_goals (first|assumption| (with_reducible refine Pr hx ?_;rw[hc])| (with_reducible refine QU hC ?_;rw[hcB])|wp_step))
 refine⟨Code.quiet_builtin _ (by decide+kernel),QV F.entry_object_class ?_⟩;repeat (any_goals (first|assumption| (with_reducible refine Pr hx ?_;rw[hc])|wp_step))
def DU{nameV:N8}{Q:Unit->Oc->Prop}(hC:h.get? C=ZA (PV nm q C N bs bm hdct sn sub ab col dd k0 k1 k2 k3 k5 newId))(T:OTail h bm)
  (hx:h.get? a=ZA o) (hc:o.cls=.ref C) (hq:Q () ⟨h,g,d,t,os⟩):ZJ M A (WU "BaseException.__getattribute__" ⟨[.ref a,nameV],[]⟩) Q E ⟨h,g,d,t,os⟩:=by
 have hk:builtinKind "BaseException.__getattribute__" =ZA .slot:=by decide+kernel
 have hsplit:splitId "BaseException.__getattribute__" =ZA ("BaseException","__getattribute__"):=by decide+kernel
 have hcB:(Oz C::bm).contains (.type "BaseException")=ZC:=by rw[Qe,T.tail.hasType (b:=ZC) (by decide)];rfl
 have ha:=F.args_bexc_ga (.ref a) nameV;simp only[WU,hk,hsplit];refine N5 ?_
 .unfold isInstance;repeat (first| (with_reducible refine Pr hx ?_;rw[hc])| (with_reducible refine QU hC ?_;rw[hcB])|wp_step)
  exact hq
def Bs{Q:Fin->Oc->Prop}(hC:h.get? C=ZA (PV nm q C N bs bm hdct sn sub ab col dd k0 k1 k2 k3 k5 newId))(hN:h.Ns N mN)
  (hmN:∀n∈calmNames,mN n=ZB) (T:OTail h bm) (hx:h.get? a=ZA o) (hc:o.cls=.ref C) (hd:o.data=.fields vs) (hq:Q (.done (.ret (.ref C))) ⟨h,g,d,t,os⟩):
  ZJ (ZK prog w) A (Builtin.«object.__getattribute__» ⟨[.ref a,.str "__class__" tk],[]⟩) Q E ⟨h,g,d,t,os⟩:=by
 have hT5:(⟨h,g,d,t,os⟩:Oc).TypeIs (.builtin "object.__class__") "getset_descriptor":=SG;have f5:=SG;have f6:=Vy.lookup;have f7:=F.slot_gs_set.lookup;have hmA:("__class__" : Str)∈calmNames:=.tail _ (.tail _ (.tail _ (.head _)));repeat (any_goals (first|assumption| (with_reducible refine Pr hx ?_;rw[hc])|with_reducible refine yp hmA hC hN hmN T Di ?_|wp_step))
 refine GW hC T hx hc ?_;repeat (any_goals (first|assumption|wp_step))
def Eu(hC:h.get? C=ZA (PV nm q C N bs bm hdct sn sub ab col dd k0 k1 k2 k3 k5 newId))(hN:h.Ns N mN)
  (hmN:∀n∈calmNames,mN n=ZB) (T:OTail h bm) (hx:h.get? a=ZA o) (hc:o.cls=.ref C) (hd:o.data=.fields vs) (hq:R (.ok (.ret (.ref C))) ⟨h,g,d,t,os⟩):
  ZL (ZK prog w) A (.call (.builtin "BaseException.__getattribute__") ⟨[.ref a,.str "__class__" tk],[]⟩) R ⟨h,g,d,t,os⟩:=
 S0 ga_V.plain F.entry_bexc_ga (DU hC T hx hc (Bs hC hN hmN T hx hc hd hq))
def Kq{fill expr:Bool}{Q:WP}(hC:h.get? C=ZA (PV nm q C N bs bm hdct sn sub ab col dd k0 k1 k2 k3 k5 newId))(hN:h.Ns N mN)
  (hmN:∀n∈calmNames,mN n=ZB) (T:OTail h bm) (hx:h.get? a=ZA o) (hc:o.cls=.ref C) (hd:o.data=.fields vs) (hq:Q (.ref C) ⟨h,g,d,t,os⟩):
  ZJ (ZK prog w) A (getAttrBy (.ref a) (.str "__class__" tk) fill expr) Q E ⟨h,g,d,t,os⟩:=by
 have f3:=ga_V.bind (.ref a);have hx0:(expr&&onTheHeap (RJ "BaseException.__getattribute__"))=ZD:=by cases expr <;> rfl
 have hx2:(RJ "BaseException.__getattribute__" == RJ "object.__getattribute__")=ZD:=by decide+kernel
 have hx1:(onTheHeap (Oz C)&&RJ "BaseException.__getattribute__" == RJ "object.__getattribute__")=ZD:=by rw[hx2];rfl
 have hm1:("__getattribute__" : Str)∈calmNames:=.tail _ (.head _);have hm2:("__getattr__" : Str)∈calmNames:=.tail _ (.tail _ (.head _));repeat (any_goals (first|assumption| (with_reducible refine Pr hx ?_;rw[hc])|with_reducible refine yp hm1 hC hN hmN T ga_V.lookup ?_|with_reducible refine yp hm2 hC hN hmN T yu ?_|wp_step))
 refine Eu hC hN hmN T hx hc hd ?_;repeat (any_goals (first|assumption|wp_step))
def Ex(hC:h.get? C=ZA (PV nm q C N bs bm hdct sn sub ab col dd k0 k1 k2 k3 k5 newId))(hN:h.Ns N mN)
  (hmN:∀n∈calmNames,mN n=ZB) (T:OTail h bm) (hx:h.get? a=ZA o) (hc:o.cls=.ref C) (hd:o.data=.fields vs) (hq:Q (ZA (.ref C)) ⟨h,g,d,t+1,os⟩):
  ZJ (ZK prog w) A (getAttr? (.ref a) "__class__") Q E ⟨h,g,d,t,os⟩:=by
 unfold getAttr? getAttrBy?;repeat (any_goals (first|assumption|with_reducible apply Kq hC hN hmN T hx hc hd|wp_step))
end
variable{D:ZE}{Q:Fin->Oc->Prop}
section
variable {t:Nat}
variable {N:ZE}{bs:List N8}{sub:List N8}
variable {a:ZE}{o:Obj}{vs:Array N8}
def AS{dep:Int}(hx:h.get? a=ZA o)(hc:o.cls=.ref C)(hq:Q (.done (.ret (.bool ZC))) ⟨h,g,d,t,os⟩):
  ZJ (ZK prog w) A (Builtin.«isinstance.nested» ⟨[.ref a,.ref C,.int dep tk],[]⟩) Q E ⟨h,g,d,t,os⟩:=by
 have e:(Oz C == Oz C)=ZC:=by simp
 repeat (any_goals (first|assumption| (with_reducible refine Pr hx ?_;rw[hc])|wp_step))
def JC{dep:Int}(hC:h.get? C=ZA (PV nm q C N bs bm hdct sn sub ab col dd k0 k1 k2 k3 k5 newId))(T:OTail h bm)(hx:h.get? a=ZA o)(hc:o.cls=.ref C)
  (hq:Q (.done (.ret (.bool ZC))) ⟨h,g,d,t,os⟩):ZJ (ZK prog w) A (Builtin.«isinstance.nested» ⟨[.ref a,.type "ValueError",.int dep tk],[]⟩) Q E ⟨h,g,d,t,os⟩:=by
 have e:(Oz C == Ru "ValueError")=ZD:=rfl;have hty:typeOf (.type "ValueError")=pure (.type "type"):=by kernel_rfl
 have hcB:(Oz C::bm).contains (.type "ValueError")=ZC:=by rw[Qe,T.tail.hasType (b:=ZC) (by decide)];rfl
 repeat (any_goals (first|assumption| (with_reducible refine Pr hx ?_;rw[hc])| (with_reducible refine QU hC ?_;rw[hcB])|wp_step))
def C6{oD:Obj}{cD:ClassData}{dep:Int}(hC:h.get? C=ZA (PV nm q C N bs bm hdct sn sub ab col dd k0 k1 k2 k3 k5 newId))(hN:h.Ns N mN)(hmN:∀n∈calmNames,mN n=ZB)(T:OTail h bm)
  (hx:h.get? a=ZA o) (hc:o.cls=.ref C) (hd:o.data=.fields vs) (hD:h.get? D=ZA oD) (hDt:oD.cls=.type "type") (hDd:oD.data=.cls cD) (hne:(Oz C == Oz D)=ZD) (hnb:(Oz C::bm).contains (.ref D)=ZD)
  (hq:Q (.done (.ret (.bool ZD))) ⟨h,g,d,t+1,os⟩):ZJ (ZK prog w) A (Builtin.«isinstance.nested» ⟨[.ref a,.ref D,.int dep tk],[]⟩) Q E ⟨h,g,d,t,os⟩:=by
 repeat (any_goals (first|assumption| (with_reducible refine Pr hx ?_;rw[hc])| (with_reducible refine Pr hD ?_;rw[hDt])| (with_reducible refine Pr hD ?_;rw[hDd])| (with_reducible refine Pr hC ?_)| (with_reducible refine QU hC ?_;rw[hnb])|with_reducible refine Ex hC hN hmN T hx hc hd ?_|wp_step))
end
structure OX (K:N4)(C:ZE)(bm:List N8):Prop where
 at_:∀h:ZH,K.In h->∃nm q N bs hdct sn sub ab col dd k0 k1 k2 k3 k5 mN,h.get? C=ZA (PV nm q C N bs bm hdct sn sub ab col dd k0 k1 k2 k3 k5 "ValueError.__new__")/\h.Ns N mN/\(∀n∈calmNames,mN n=ZB)/\OTail h bm
def OX.own(O:OX K C bm):OwnExc K C bm:=⟨λh k=>by obtain⟨nm,q,N,bs,hdct,sn,sub,ab,col,dd,k0,k1,k2,k3,k5,mN,h1,h2,h3,h4⟩:=O.at_ h k;exact⟨nm,q,N,bs,hdct,sn,sub,ab,col,dd,k0,k1,k2,k3,k5,mN,h1,h2,h3 _ (.head _),h4.tail⟩⟩
variable{Q:VK}{oe:Obj}
section
variable {ev:Array N8}{bmD:List N8}
def tIs(e:ZE)(b:Bool):TE:=λσ H Q=>σ[0]?=ZA (ZA (.ref e))/\Q (.bl b) H
def DJ(hp:(e,oe)∈X.pn)(hc:oe.cls=.ref C)(hd:oe.data=.fields ev)(OC:OX X.K C bm)(OD:OX X.K D bmD)(b:Bool)(hb:(decide (C=D))=b)(hnb:C≠D->bm.contains (.ref D)=ZD)
  (I:Inv X kw σ H s) (q:Q (.bl b) H):ZJ (ZK X.prog X.w) X.A (call (.builtin "isinstance") [.ref e,.ref D]) (EP X kw σ Q) X.xe s:=by
 have hx:s.heap.get? e=ZA oe:=(I.pin (e,oe) (O6 _ hp)).1;obtain⟨nm,qq,N,bs,hdct,sn,sub,ab,col,dd,k0,k1,k2,k3,k5,mN,hC,hN,hmN,T⟩:=OC.at_ s.heap I.kIn;obtain⟨nm',qq',N',bs',hdct',sn',sub',ab',col',dd',k0',k1',k2',k3',k5',mN',hD,_⟩:=OD.at_ s.heap I.kIn;obtain⟨h,g,d,t,os⟩:=s;refine VX ?_ (by intro z;cases z);by_cases z:C=D
 .subst z;have:b=ZC:=by rw[<-hb];simp
  subst this;exact AS hx hc ⟨.bl ZC,H,I,rfl,q⟩
 .have:b=ZD:=by rw[<-hb];simp[z]
  subst this;refine C6 hC hN hmN T hx hc hd hD rfl rfl ?_ ?_ ⟨.bl ZD,H,I.tok _,rfl,q⟩
  .rw[beq_eq_false_iff_ne];exact λy=>z (T3 y)
  .rw[Qe,hnb z,Bool.or_false,beq_eq_false_iff_ne];exact λy=>z (T3 y).symm
def DK(hp:(e,oe)∈X.pn)(hc:oe.cls=.ref C)(OC:OX X.K C bm)
  (I:Inv X kw σ H s) (q:Q (.bl ZC) H):ZJ (ZK X.prog X.w) X.A (call (.builtin "isinstance") [.ref e,.type "ValueError"]) (EP X kw σ Q) X.xe s:=by
 have hx:s.heap.get? e=ZA oe:=(I.pin (e,oe) (O6 _ hp)).1;obtain⟨nm,qq,N,bs,hdct,sn,sub,ab,col,dd,k0,k1,k2,k3,k5,mN,hC,hN,hmN,T⟩:=OC.at_ s.heap I.kIn;obtain⟨h,g,d,t,os⟩:=s;refine VX ?_ (by intro z;cases z);exact JC hC T hx hc ⟨.bl ZC,H,I,rfl,q⟩
def mS{en dn:Str}{p2:Pos}(hN:X.N[0]?=ZA en)(hv:u6 X.env.scope en)(hp:(e,oe)∈X.pn)(hc:oe.cls=.ref C)(hd:oe.data=.fields ev)(OC:OX X.K C bm)(OD:OX X.K D bmD)(b:Bool)(hb:(decide (C=D))=b)(hnb:C≠D->bm.contains (.ref D)=ZD)
  (hm:X.mg "isinstance" =ZB) (hmD:X.mg dn=ZA (.ref D)) (hg:Gl X "isinstance":=by rfl) (hgD:Gl X dn:=by rfl) (hde:autoParam ((en == ("__debug__" : Str))=ZD) s_) (hce:autoParam ((en == ("__classdict__" : Str))=ZD) s_) (hdd:autoParam ((dn == ("__debug__" : Str))=ZD) s_)
  (he:Ov [.Name en p1,.Name dn p2] X.env=(ZD,eval (.Name en p1) X.env)::Ov [.Name dn p2] X.env:=by rfl) (hpl:(backTo pos (Ov [.Name dn p2] X.env)).any (·.1)=ZD:=by rfl)
  (hs:Ov [.Name dn p2] X.env=(ZD,eval (.Name dn p2) X.env)::Ov [] X.env:=by rfl):
  PE X (.Call (.Name "isinstance" p) [.Name en p1,.Name dn p2] [] pos) (tIs e b):=by
 intro kw s σ H Q I ⟨hσ,q⟩;refine Pa (fw I hg hm gA ?_ (by decide) (by decide));have hA:PA X [.Name en p1,.Name dn p2] (ij (o8 0) (ij (tC (.ref D)) tD)):=bB (jd hN hv hde hce) (bB (t9 hgD hmD rfl hdd) dS hs) he;refine Qz (cM (hA pos kw s σ H (λvs H'=>vs=[.ref e,.ref D]/\H'=H) I ⟨.ref e,hσ,rfl,rfl⟩) λus s1 ⟨vs,H1,I1,r1,e1,e2⟩=>?_) he hpl;subst e1;obtain⟨u,w',rfl,ru,rw'⟩:=za r1;cases ru;cases rw';subst e2;exact DJ hp hc hd OC OD b hb hnb I1 q
end
def eqB(a b:Bool):MeetsSeq.EqGives (.bool a) (.bool b) (a == b):=λprog w A E s Q h=>(PySem.SeqAt.EqAt.bool_bool a b (A:=A) (s:=s)) prog w E Q h
theorem tj:∀{ks:List Bool}{us:List N8},Vals (ks.map V.bl) us->us=ks.map Pn
 |[],us,r=>by cases r;rfl
 |k::ks,us,r=>by
  cases r with
  |cons r1 r2=>cases r1;rw[tj r2];rfl
def mh:N8->Bool
 |.bool b=>b
 |_=>ZD
def Fy:V->List V->Hp->VK->Prop:=λx vs H Q=>∃(l:ZE)(ks:List Bool),x=.ref l/\vs=[.bl ZC]/\H l=ZA (.lst (ks.map V.bl))/\Q (.int (ks.countP id:Nat)) H
def AX:MtR X "list.count" Fy:=by
 intro kw s σ H x vs v us Q I rx rv h;obtain⟨l,ks,rfl,rfl,hH,q⟩:=h;cases rx;obtain⟨u,rfl,ru⟩:=rv.one;cases ru;obtain⟨z,its,n,r,hl,e⟩:=I.KM hH;have hi:=tj r;subst hi;refine Sb F.slot_list_count ⟨_,e,rfl⟩ F.entry_list_count (F.args_list_count_2 _ _) (MeetsSeq.list_count l (ks.map Pn).toArray n (.bool ZC) mh λy hy=>?_) ⟨e,?_⟩
 .have hy':y∈ks.map Pn:=by simpa using hy
  obtain⟨k,_,rfl⟩:=On.mp hy';have:=eqB k ZC;cases k <;> exact this
 .have hc:(ks.map Pn).toArray.toList.countP mh=ks.countP id:=by simp only[List.countP_map];rfl
  rw[hc];exact⟨.int _,H,I.tok _,⟨_,rfl⟩,q⟩
def Fw:V->List V->Hp->VK->Prop:=λx vs H Q=>∃(l:ZE)(ks:List Bool)(j:Nat),x=.ref l/\vs=[.bl ZC]/\H l=ZA (.lst (ks.map V.bl))/\ks[j]?=ZA ZC/\(∀m,m<j->ks[m]?=ZA ZD)/\j<=1000/\Q (.int (j:Nat)) H
theorem AV:MtR X "list.index" Fw:=by
 intro kw s σ H x vs v us Q I rx rv h;obtain⟨l,ks,j,rfl,rfl,hH,hj,hno,hs,q⟩:=h;cases rx;obtain⟨u,rfl,ru⟩:=rv.one;cases ru;obtain⟨z,its,n,r,hl,e⟩:=I.KM hH;have hi:=tj r;subst hi;have hjl:j<ks.length:=(Og.mp hj).1;refine Sb V6 ⟨_,e,rfl⟩ Vz (Vi _ _) (MeetsSeq.list_index l (ks.map Pn).toArray n (.bool ZC) mh (λy hy=>?_) j (by simpa using hjl) (by omega) ?_ ?_) ⟨e,?_⟩
 .have hy':y∈ks.map Pn:=by simpa using hy
  obtain⟨k,_,rfl⟩:=On.mp hy';have:=eqB k ZC;cases k <;> exact this
 .have:ks[j]=ZC:=by have:=(Og.mp hj).2;exact this
  simp[this,mh]
 .intro m hm hmj;have hmk:m<ks.length:=by simpa using hm
  have:=(Og.mp (hno m hmj)).2;simp[this,mh]
 .exact⟨.int _,H,I.tok _,⟨_,rfl⟩,q⟩
noncomputable abbrev MR(P:OF)(w:Pv)(K:N4)(mg:WF)(base:ZH)(N:List Str)(qual:Str)(scope:RF)(f:ZE)(cd:N8)(A:OU)(outer:List Env)(s:Oc)(H:Hp)(e:ZE)(oe:Obj):Cx:=
 {jm CX0 P w K mg base N qual scope f cd A outer s H E0 with calm:=ZD,pn:=[(e,oe)],xe:=λ_ _=>False}
section
variable {base:ZH}
def yD 
  (S:dq N ps scope) (e0:Env0 P w K mg base A outer s H) (hl:vs.length=ps.length) (r:Vals vs us)
  (x:InCallC s s.heap.objs.size (bindL (envOfC qual scope s.heap.objs.size f cd).kindOf (ps.zip us) λ_=>ZB) (QR (s.heap.objs.size+1) scope.names []) (bindC (envOfC qual scope s.heap.objs.size f cd).kindOf (ps.zip us) λ_=>ZB) s1)
  (he:s.heap.get? e=ZA oe) (hH:H e=ZB) (hf:e∉kJ outer) (hc:∀v,oe.data≠ .cell v):
  Inv (MR P w K mg base N qual scope f cd A outer s H e oe) [] (start N vs) H s1:=by
 have e0':Env0 P w K mg base {A with handled:=ZB} outer s H:=⟨e0.frames,e0.mod,e0.bs,e0.bsz,e0.funs,e0.frf,e0.hok,e0.bare,e0.tb⟩;have I:=kI (CX:=CX0) (E:=E0) S (A:={A with handled:=ZB}) rfl e0' hl r x;obtain⟨h1,tk,hs1,hk⟩:=x.done;have ok:=I.ok;refine⟨⟨ok.mod,ok.kind,ok.glob,ok.blt,ok.above,ok.inj,ok.has,ok.cab,(λz=>by cases z),U2 e0.frames,.inr ⟨rfl,rfl⟩,ok.exf,ok.bs,ok.bsz,ok.noex,ok.exfs,ok.funs,ok.frf,ok.tb⟩,I.os,I.bare,I.base,I.loc,I.cell,I.free,I.freeC,λp hp=>?_,I.hok,I.len⟩;have hp':p=(e,oe):=by simpa using hp
 subst hp';refine⟨?_,hH,?_,hf,hc⟩
 .rw[hs1];exact hk e oe he
 .exact O5 (Os he)
theorem Kb{args:Args}(Fn:L2.Fun K x qual st f fd)(S:dq N ps (ay st))(hlen:vs.length=ps.length)
  (hr:A.depth+3<RV) (e0:Env0 P w K mg base A outer s H) (hb:Vo s fd args (ps.zip us)) (r:Vals vs us) (he:s.heap.get? e=ZA oe) (hH:H e=ZB) (hf:e∉kJ outer) (hc:∀v,oe.data≠ .cell v)
  (hbody:∀(cdv:N8),∃t,PSs (MR P w K mg base N qual (ay st) f cdv A outer s H e oe) (de st) t/\t {nx:=λ_ _=>False,rt:=Q} (start N vs) H):
  ZL (ZK P w) A (.call (.ref f) args) (CR CX0 outer P w H s Q E0) s:=by
 obtain⟨oc,od,kV,doc,pm,an,cdv,ct,osl,rfl,lk,hcd⟩:=Fn.ex;have KX:K.In s.heap:=e0.mod.kin.keeps λb o e=>(e0.bs b o e).1;have lim:s.heap.NoLimit:=e0.mod.nolimit.keeps λb o e=>(e0.bs b o e).1;have hkind:∀y∈ps.zip us,(ay st).names.lookup y.1=ZA .local\/((ay st).names.lookup y.1=ZA .cell/\((QR (s.heap.objs.size+1) (ay st).names []).lookup y.1).isSome=ZC):=λ⟨n,v⟩ hy=>by
  rcases S.par n (Rf hy).1 with q|q
  .exact .inl q
  .exact .inr ⟨q,QY _ _ _ (.inl q)⟩
 refine SO (by omega) (KX _ _ lk) rfl S.co S.gen rfl (Ts KX hcd) (hb _ _ _ _ ?_);refine Q2 S.kind hkind λenv hen s1 x=>?_;subst hen;refine⟨lim.keeps x.toInCall.keep,Wx ?_⟩;obtain⟨t,ht,hq⟩:=hbody cdv;have I:=yD S e0 hlen r x he hH hf hc;refine Qm (ht [] s1 (start N vs) H _ I hq) (λfl s' hs=>?_) λe s' hs=>hs.elim;cases fl with
 |ret u=>
  obtain⟨v,σ',H',J,rv,q⟩:=hs;exact⟨v,H',J.os,J.bare,J.base,J.hok,rv,q⟩
 |next=>obtain⟨_,_,_,q⟩:=hs;exact q.elim
 |brk=>obtain⟨_,_,_,q⟩:=hs;exact q.elim
 |cont=>obtain⟨_,_,_,q⟩:=hs;exact q.elim
end
def LM{base:ZH}{L:ZE}{T:Option ZE}{Q:Unit->Oc->Prop}(hfr:A.frames=ZA (env::outer))(hl:s.heap.FunFrames base (env::outer))(hf:env.frame=ZA L)
  (F:MI s.heap C e T) (h:∀h' T',G8 ((env::outer).filterMap (·.frame)) C e T s.heap h' T'->Q () {s with heap:=h'}):
  ZJ M A (Xj (.ref e) env) (λ_ s'=>ZJ M A (setFlight (.ref e) ZB) Q E s') E s:=by
 generalize hB:Ux s.heap (e::(T.toList++(env::outer).filterMap (·.frame)))=B;have bm:∀b,b∈e::(T.toList++(env::outer).filterMap (·.frame))->B.get? b=ZB:=λb m=>by rw[<-hB];exact SW _ m
 have hl':s.heap.FunFrames B (env::outer):=iJ hl λa ha=>bm a (N6 _ (OI _ ha));have hst:B.StaysIn s.heap:=λb o q=>by rw[<-hB]at q;exact Tq _ q
 have hen:B.get? e=ZB:=bm e Ob;have main:∀h',Heap.Left B (env::outer) e (.ref C) s.heap h'->Q () {s with heap:=h'}:=λh' ⟨x1,x2,⟨oe,vs,T',oT,ts,he,hc,hd,h1,hnT,hTe,hT,hdT,h3⟩,x4⟩=>by
  refine h h' T' ⟨⟨hTe,oe,vs,he,hc,hd,h1,oT,ts,hT,hdT,h3⟩,?_,λb o n1 n2 n3 q=>?_,λb o m q=>?_⟩
  .cases q:s.heap.get? T' with
   |none=>exact .inr rfl
   |some o=>
    left;by_cases z:T'∈e::(T.toList++(env::outer).filterMap (·.frame))
    .rcases Oe.mp z with z|z
     .exact absurd z hTe
     .rcases OP.mp z with z|z
      .cases T with
       |none=>simp at z
       |some t=>simp at z;rw[z]
      .obtain⟨_,o',ho',hnf⟩:=x2.mem z;rw[hT]at ho';cases ho';exact absurd hdT (hnf ts)
    .rw[<-hB,Rk _ q z]at hnT;cases hnT
  .refine x1 b o ?_;rw[<-hB];refine Rk _ q λz=>?_;rcases Oe.mp z with z|z
   .exact n2 z
   .rcases OP.mp z with z|z
    .cases T with
     |none=>simp at z
     |some t=>simp at z;exact n3 (by rw[z])
    .exact n1 z
  .obtain⟨_,o',ho',hnf⟩:=hl.mem m;rw[q]at ho';cases ho';exact x4 b o q hnf
 cases T with
 |none=>
  obtain⟨oe,vs,he,hc,hd,h1⟩:=F;unfold Xj;simp only[hf];refine N5 (Qt he hd h1 ?_);rw[if_neg (by decide)];refine wpAny_newEntry hfr hl' hf he hst hen hd (PU.mp h1).1 λh' x=>main h' ?_;rw[hc]at x;exact x
 |some t=>
  obtain⟨hte,oe,vs,he,hc,hd,h1,oT,ts,hT,hdT,h3⟩:=F;have hnT:B.get? t=ZB:=bm t (N6 _ (O6 _ (by simp)));unfold Xj;simp only[hf];refine N5 (Qt he hd h1 ?_);rw[if_pos (show(Oz t != Pl)=ZC from by simp)];refine N5 (Qt hT hdT h3 ?_);rw[if_neg (show ¬((Pl == rawInt L)=ZC)from by simp[rawInt])];refine N5 (Vb hT hdT (PU.mp h3).1 ?_);have other:∀b,b≠t->(s.heap.update t (VA (·.setIfInBounds 3 Pl))).get? b=s.heap.get? b:=λb hb=>Ph _ _ (PJ hb);have noRec:∀b o,s.heap.get? b=ZA o->(∀vs,o.data≠ .fields vs)->b≠t:=λb o hb hnf q=>by rw[q,hT]at hb;injection hb with hb;subst hb;exact hnf ts hdT
  refine wpAny_newEntry hfr (hl'.of_keeps λb o hb hnf=>⟨o,(other b (noRec b o hb hnf)).trans hb,rfl⟩) hf ((other e (PJ hte)).trans he)
   (λb o hbo=>(other b λq=>by rw[q,hnT]at hbo;cases hbo).trans (hst b o hbo)) hen hd (PU.mp h1).1
   λh' x=>main h' ?_
  obtain⟨x1,x2,x3,x4⟩:=x;rw[hc]at x3;exact⟨x1,x2,x3,λb o hb hnf=>x4 b o ((other b (noRec b o hb hnf)).trans hb) hnf⟩
variable{h':ZH}
def Inv.gone{T':ZE}{T:Option ZE}(I:Inv X kw σ H s)(hst:X.stack=X.env::X.outer)(hfe:X.env.frame=ZA X.env.locals)(hcl:∀x c,X.env.cells.lookup x≠ZA c)(hex:X.ex=[])
  (g:G8 ((X.env::X.outer).filterMap (·.frame)) C e T s.heap h' T') (he:H e=ZB) (heo:X.s₀.heap.get? e=ZB) (hT:∀t,T=ZA t->H t=ZB/\X.s₀.heap.get? t=ZB) (hp:∀p∈X.pn++kw,p.1≠e/\T≠ZA p.1):
  Inv X kw σ H {s with heap:=h'}:=by
 have mem:∀b,b∈(X.env::X.outer).filterMap (·.frame)↔b=X.env.locals\/b∈X.fs:=λb=>by rw[P6,hfe];exact Oe
 have out:∀b o,X.s₀.heap.get? b=ZA o->b≠X.env.locals:=λb o q z=>by have h1:=Os q;have h2:=I.ok.above;rw[z]at h1;exact absurd (Oo h1 h2) (O7 _)
 have ne:∀b o,X.s₀.heap.get? b=ZA o->b≠e/\T≠ZA b:=λb o q=>⟨λz=>(by subst z;rw[heo]at q;cases q),λz=>(by rw[(hT b z).2]at q;cases q)⟩;have fr:∀b,b∈(X.env::X.outer).filterMap (·.frame)->H b=ZB:=λb z=>I.IR b (by rw[hst];exact z);have keepH:∀b u,H b≠ZB->s.heap.get? b=ZA u->h'.get? b=ZA u:=λb u hb q=>by refine g.keep b u (λz=>hb (fr b z)) (λz=>hb (by rw[z];exact he)) (λz=>hb (hT b z).1) q
 refine⟨I.ok,I.os,I.bare,⟨λb o q n hb hx=>?_,λb o q n hb hx=>?_,I.base.free,λb o q hx=>?_,I.base.tups,I.base.frzs,I.base.tbls⟩,?_,λx c z=>absurd z (hcl x c),I.free,I.freeC,λp hp'=>?_,λa o q=>?_,I.len⟩
 .exact g.keep b o (λz=>((mem b).mp z).elim (out b o q) hb) (ne b o q).1 (ne b o q).2 (I.base.keep b o q n hb hx)
 .obtain⟨sl,q1⟩:=I.base.slot b o q n hb hx;obtain⟨sl',q2⟩:=g.slot b _ ((mem b).mpr (.inr hb)) q1;exact⟨sl',q2⟩
 .obtain⟨o',q1⟩:=I.base.there b o q hx;by_cases z:b∈(X.env::X.outer).filterMap (·.frame)
  .obtain⟨sl,q2⟩:=g.slot b o' z q1;exact⟨_,q2⟩
  .exact⟨o',g.keep b o' z (ne b o q).1 (ne b o q).2 q1⟩
 .obtain⟨m,⟨o,es,ep,ho,hd,r⟩,hl⟩:=I.loc;obtain⟨sl,q2⟩:=g.slot X.env.locals o ((mem _).mpr (.inl rfl)) ho;refine⟨m,⟨_,es,ep,q2,hd,r⟩,λi x v a1 a2 a3=>?_⟩;obtain⟨u,ru,lk⟩:=hl i x v a1 a2 a3;refine⟨u,ru,?_⟩;rcases lk with z|⟨_,c,z,_⟩
  .exact .inl z
  .exact absurd z (hcl x c)
 .obtain⟨b1,b2,b3,b4,b5⟩:=I.pin p hp';exact⟨g.keep p.1 p.2 (λz=>((mem _).mp z).elim b3 b4) (hp p hp').1 (hp p hp').2 b1,b2,b3,b4,b5⟩
 .refine(I.hok a o q).M4 (λb u hb z=>keepH b u ?_ z) (λ_ z=>z) λ_ _ z=>z;rcases hb with rfl|hb
  .rw[q];simp
  .rw[hb];simp
variable{N:ZE}{dd':Option ZE}{sn':List Str}
section
variable {t:Nat}
variable {bs:List N8}{sub:List N8}
variable {nm' q':Str}{N':ZE}{bm':List N8}{k0' k1' k2' k3' k5':Option N8}{newId':String}
def AY{Q:Bool->Oc->Prop}(hC:h.get? C=ZA (PV nm q C N bs bm hdct sn sub ab col dd k0 k1 k2 k3 k5 newId))(hD:h.get? D=ZA (PV nm' q' D N' bs' bm' hdct' sn' sub' ab' col' dd' k0' k1' k2' k3' k5' newId'))
  (he:h.get? e=ZA oe) (hcls:oe.cls=.ref C) (hb:bm'.contains (.type "BaseException")=ZC) (hin:(Oz C::bm).contains (.ref D)=ZC) (hq:Q ZC ⟨h,g,d,t,os⟩):ZJ M A (excMatches (.ref e) (.ref D)) Q E ⟨h,g,d,t,os⟩:=by
 have hcB:(Oz D::bm').contains (.type "BaseException")=ZC:=by rw[Qe,hb,Wt]
 have f:=tc_notTuple;unfold excMatches;repeat (first| (with_reducible refine Pr he ?_;rw[hcls])|with_reducible refine Pr hD ?_| (with_reducible refine QU hD ?_;rw[hcB])| (with_reducible refine QU hC ?_;rw[hin])|wp_step)
 exact hq
end
noncomputable abbrev yM(X:Cx)(e:ZE)(oe:Obj):Cx:={X with A:=X.A.mark (ZA (.ref e)),calm:=ZD,pn:=(e,oe)::X.pn,xe:=λ_ _=>False}
def zY(I:Inv X kw σ H s)(he:s.heap.get? e=ZA oe)(hH:H e=ZB)(hne:e≠X.env.locals)(hf:e∉X.fs)(hc:∀v,oe.data≠ .cell v):Inv (yM X e oe) kw σ H s:=by
 have ok:=I.ok;refine⟨⟨ok.mod,ok.kind,ok.glob,ok.blt,ok.above,ok.inj,ok.has,ok.cab,(λz=>by cases z),?_,ok.stk,ok.exf,ok.bs,ok.bsz,ok.noex,ok.exfs,ok.funs,ok.frf,ok.tb⟩,I.os,I.bare,I.base,I.loc,I.cell,I.free,I.freeC,λp hp=>?_,I.hok,I.len⟩
 .exact ok.frames
 .rcases Oe.mp (show p∈(e,oe)::(X.pn++kw)from hp)with z|z
  .subst z;exact⟨he,hH,hne,hf,hc⟩
  .exact I.pin p z
def Gy(ok:X.Ok)(I:Inv (yM X e oe) kw σ H s):Inv X kw σ H s:=
 ⟨ok,I.os,I.bare,I.base,I.loc,I.cell,I.free,I.freeC,λp hp=>I.pin p (N6 _ hp),I.hok,I.len⟩
def Inv.forget{tk:Nat}{m:WF}(I:Inv X kw σ H s)(hcl:∀x c,X.env.cells.lookup x≠ZA c)(hn:h'.Ns X.env.locals m)(hs:SF X.env.locals s.heap h'):Inv X kw (OH X.N.length ZB) H {s with heap:=h',toks:=tk}:=by
 have out:∀b o,X.s₀.heap.get? b=ZA o->b≠X.env.locals:=λb o q z=>by have h1:=Os q;have h2:=I.ok.above;rw[z]at h1;exact absurd (Oo h1 h2) (O7 _)
 have kp:∀b o,b≠X.env.locals->s.heap.get? b=ZA o->h'.get? b=ZA o:=λb o n q=>hs.extBut b o n q;refine⟨I.ok,I.os,I.bare,⟨λb o q n hb hx=>kp b o (out b o q) (I.base.keep b o q n hb hx),λb o q n hb hx=>?_,I.base.free,λb o q hx=>?_,I.base.tups,I.base.frzs,I.base.tbls⟩,⟨m,hn,λi x v a1 a2 a3=>?_⟩,λx c z=>absurd z (hcl x c),I.free,I.freeC,λp hp=>?_,λa o q=>?_,by simp⟩
 .obtain⟨sl,q1⟩:=I.base.slot b o q n hb hx;exact⟨sl,kp b _ (out b o q) q1⟩
 .obtain⟨o',q1⟩:=I.base.there b o q hx;exact⟨o',kp b o' (out b o q) q1⟩
 .rw[Rm]at a2;split at a2 <;> cases a2
 .obtain⟨b1,b2,b3,b4,b5⟩:=I.pin p hp;exact⟨kp p.1 p.2 b3 b1,b2,b3,b4,b5⟩
 .have nl:∀b u,H b=ZA u->b≠X.env.locals:=λb u q z=>by rw[z,I.free]at q;cases q
  refine(I.hok a o q).M4 (λb u hb z=>kp b u ?_ z) (λ_ z=>z) λ_ _ z=>z;rcases hb with rfl|hb
  .exact nl _ _ q
  .exact nl _ _ hb
noncomputable def vJ(F:Y1)(h:Str->Rs T)(Z:En):Rs Fl:=match F Z with
 |.err c=>match h c with
  |.ok t=>.ok (.rt t)
  |_=>.bad
 |r=>r
def u7(X:Cx)(i:Nat)(suite:List ZF)(CE:ZE)(h:Str->Rs T):Prop:=
 ∀(c:Str)(C:ZE)(t:T),X.mg c=ZA (.ref C)->h c=.ok t->∃bm,OX X.K C bm/\(Oz C::bm).contains (.ref CE)=ZC ∧
  ∀(e:ZE)(oe:Obj)(ev:Array N8),oe.cls=.ref C->oe.data=.fields ev->∀(kw:Uf)(s:Oc)(σ:L2.St)(H:Hp)(O:Ow)(Q:VK),Inv (yM X e oe) kw σ H s->H e=ZB->e∉kJ X.stack->σ[i]?=ZA (ZA (.ref e))->(∀p,H p=ZB->¬ O p) ->
   (∀v H',Same H H'->Rep X.K O H' t v->Q v H')->ZJ (ZK X.prog X.w) (yM X e oe).A (execs suite X.env) (SP (yM X e oe) kw {nx:=λ_ _=>False,rt:=Q}) (λ_ _=>False) s
def Inv.NR(kw:Uf)(I:Inv X kw σ H s):Inv {X with pn:=X.pn++kw} [] σ H s:=
 ⟨⟨I.ok.mod,I.ok.kind,I.ok.glob,I.ok.blt,I.ok.above,I.ok.inj,I.ok.has,I.ok.cab,I.ok.hd,I.ok.frames,I.ok.stk,I.ok.exf,I.ok.bs,I.ok.bsz,I.ok.noex,I.ok.exfs,I.ok.funs,I.ok.frf,I.ok.tb⟩,I.os,I.bare,I.base,I.loc,I.cell,I.free,I.freeC,λp hp=>I.pin p (by rw[Px]at hp;exact hp),I.hok,I.len⟩
def Inv.NP{pins1:Uf}{xe:WP}(I:Inv {X with pn:=X.pn++kw,xe:=xe} pins1 σ H s):Inv X kw σ H s:=
 ⟨⟨I.ok.mod,I.ok.kind,I.ok.glob,I.ok.blt,I.ok.above,I.ok.inj,I.ok.has,I.ok.cab,I.ok.hd,I.ok.frames,I.ok.stk,I.ok.exf,I.ok.bs,I.ok.bsz,I.ok.noex,I.ok.exfs,I.ok.funs,I.ok.frf,I.ok.tb⟩,I.os,I.bare,I.base,I.loc,I.cell,I.free,I.freeC,λp hp=>I.pin p (O6 _ hp),I.hok,I.len⟩
def IH{body suite:List ZF}{b0:ZF}{F:Y1}{h:Str->Rs T}{ce:Str}{CE:ZE}{np hpos:Pos}(hst:X.stack=X.env::X.outer)(hfe:X.env.frame=ZA X.env.locals)(hcl:∀x c,X.env.cells.lookup x≠ZA c)(hex:X.ex=[])
  (hN:X.N.Nodup) (hi:X.N[i]?=ZA n) (hloc:X.env.scope.names.lookup n=ZA .local) (hm:X.mg ce=ZA (.ref CE)) (OE:OX X.K CE bmE)
  (hb:∀pn xe,nu {X with pn:=pn,xe:=xe} body F) (hs:u7 X i (b0::suite) CE h) (hg:Gl X ce:=by rfl) (hd:autoParam ((ce == ("__debug__" : Str))=ZD) s_):
  qU X (.Try body [.ExceptHandler (ZA (.Name ce np)) (ZA n) (b0::suite) hpos] [] [] pos) (vJ F h):=by
 intro kw s σ H D I ⟨Z,B,M,E,hq⟩;refine wpAny_Try_except ?_;unfold vJ at hq;cases q:F Z with
 |bad=>rw[q]at hq;exact hq.elim
 |ok fl=>
  rw[q]at hq;refine Qm (hb X.pn (λ_ _=>False) kw s σ H D (I.FB _) ⟨Z,B,M,E,by rw[q];cases fl <;> exact hq⟩) (λf s1 r=>?_) (λe s1 z=>z.elim);cases f with
  |next=>obtain⟨σ7,H7,I7,q7⟩:=r;exact Si ⟨σ7,H7,I7.FB _,q7⟩
  |ret u=>obtain⟨x7,σ7,H7,I7,r7,q7⟩:=r;exact⟨x7,σ7,H7,I7.FB _,r7,q7⟩
  |brk=>obtain⟨σ7,H7,I7,q7⟩:=r;exact⟨σ7,H7,I7.FB _,q7⟩
  |cont=>obtain⟨σ7,H7,I7,q7⟩:=r;exact⟨σ7,H7,I7.FB _,q7⟩
 |err c=>
  rw[q]at hq;cases q2:h c with
  |bad=>simp only[q2]at hq;exact hq.elim
  |err c'=>simp only[q2]at hq;exact hq.elim
  |ok t=>
   simp only[q2]at hq;have hq':∀v H',SameO M.u H H'->Rep X.K B H' t v->D.rt v H':=hq;refine Qm (hb (X.pn++kw) _ [] s σ H {nx:=λ_ _=>False,rt:=λ_ _=>False,bk:=λ_ _=>False,ct:=λ_ _=>False} ((Tr.Inv.NR kw I).FB _) ⟨Z,B,M,E,?_⟩) (λfl s' z=>?_) λ_ _ z=>z
   rotate_left
   .cases fl with
    |next=>obtain⟨_,_,_,z⟩:=z;exact z.elim
    |cont=>obtain⟨_,_,_,z⟩:=z;exact z.elim
    |brk=>obtain⟨_,_,_,z⟩:=z;exact z.elim
    |ret v=>obtain⟨_,_,_,_,_,z⟩:=z;exact z.elim
   rw[q];intro pins1 ev s1 w;obtain⟨e,T,C,σ1,H1,rfl,hmc,I1,sm,he,heo,fl,hT,hpp⟩:=w;have I1:Inv X kw σ1 H1 s1:=Tr.Inv.NP (X:=X) I1;have hpp:∀p∈X.pn++kw,p.1≠e/\T≠ZA p.1:=λp hp=>hpp p (O6 _ hp);have heo:=heo hex;have hT:∀t,T=ZA t->H1 t=ZB/\X.s₀.heap.get? t=ZB:=λt z=>⟨(hT t z).1,(hT t z).2 hex⟩;show ZJ _ _ _ _ _ _;have hfr:X.A.frames=ZA (X.env::X.outer):=by rw[<-hst];exact I1.ok.frames
   have hstk:s1.heap.FunFrames X.base (X.env::X.outer):=by rw[<-hst];exact I1.stack
   refine LM hfr hstk hfe fl λh' T' g=>?_;have I2:=Inv.gone I1 hst hfe hcl hex g he heo hT hpp;have Tn:H1 T'=ZB/\X.s₀.heap.get? T'=ZB/\∀p∈X.pn++kw,p.1≠T':=by
    rcases g.new with z|z
    .exact⟨(hT T' z).1,(hT T' z).2,λp hp y=>(hpp p hp).2 (by rw[z,y])⟩
    .exact⟨qf I1 z,lA I1 hex z,λp hp y=>by have:=(I1.pin p hp).1;rw[y,z]at this;cases this⟩
   obtain⟨bm,OC,hin,run⟩:=hs c C t hmc q2;obtain⟨hTe,oe,ev,hoe,hoc,hod,h1,oT,ts,hoT,hdT,h3⟩:=g.flt;have nfr:∀b o vs,h'.get? b=ZA o->o.data=.fields vs->b∉(X.env::X.outer).filterMap (·.frame):=λb o vs hb hd z=>by have:=I2.stack;rw[hst]at this;obtain⟨_,o',ho',hnf⟩:=this.mem z;rw[show h'.get? b=ZA o' from ho']at hb;cases hb;exact hnf vs hd
   have hel:e≠X.env.locals:=λz=>nfr e oe ev hoe hod (by rw[P6,hfe];exact z▸Ob);have hef:e∉X.fs:=λz=>nfr e oe ev hoe hod (by rw[P6,hfe];exact N6 _ z);have hcell:∀v,oe.data≠ .cell v:=λv z=>by rw[hod]at z;cases z
   have I3:Inv (yM X e oe) kw σ1 H1 {s1 with heap:=h'}:=zY I2 hoe he hel hef hcell;refine wpAny_handleBy_cons (codeAny_handlers_test (jh (X:=yM X e oe) I3 hg hm ?_ hd)) (by intro z;cases z);obtain⟨nm,qq,N,bs,hdct,sn,sub,ab,col,dd,k0,k1,k2,k3,k5,mN,hC,_⟩:=OC.at_ h' I3.kIn;obtain⟨nm',qq',N',bs',hdct',sn',sub',ab',col',dd',k0',k1',k2',k3',k5',mN',hD,_,_,TD⟩:=OE.at_ h' I3.kIn;refine AY hC hD hoe hoc (TD.tail.hasType (by decide)) hin (codeAny_handlers_suite_as ?_);refine wpAny_setFlight_none hoe hod h1 hoT hdT (PU.mp h3).1 ?_;generalize hU:h'.update T' (VA (·.setIfInBounds 3 Pl))=h2;have kp:∀b,b≠T'->h2.get? b=h'.get? b:=λb hb=>by rw[<-hU];exact Ph _ _ (PJ hb)
   have hT2:h2.get? T'=ZA (VA (·.setIfInBounds 3 Pl) oT):=by rw[<-hU];exact RB _ hoT (UE (Sf hdT _))
   have hoe2:h2.get? e=ZA oe:=(kp e (PJ hTe)).trans hoe;have g2:G8 ((X.env::X.outer).filterMap (·.frame)) C e (ZA T') h' h2 T':=⟨⟨hTe,oe,ev,hoe2,hoc,hod,h1,_,_,hT2,Sf hdT _,by simp[(PU.mp h3).1]⟩,.inl rfl,λb o _ _ n3 q=>(kp b λz=>n3 (by rw[z])).trans q,λb o m q=>⟨o.slots,(kp b λz=>nfr T' oT ts hoT hdT (z▸m)).trans q⟩⟩;have I4:Inv X kw σ1 H1 {s1 with heap:=h2}:=Inv.gone (s:={s1 with heap:=h'}) I2 hst hfe hcl hex g2 he heo (λt z=>by cases z;exact⟨Tn.1,Tn.2.1⟩) λp hp=>⟨(hpp p hp).1,λz=>Tn.2.2 p hp (OM z).symm⟩;have I5:Inv (yM X e oe) kw σ1 H1 {s1 with heap:=h2}:=zY I4 hoe2 he hel hef hcell;refine lM (X:=yM X e oe) (v:=.ref e) I5 hN hi (.inl hloc) rfl (λs3 I6=>?_) (.inr hloc);have hil:i<σ1.length:=by rw[I1.len];exact(Og.mp hi).1
   refine Qm (run e oe ev hoc hod kw s3 _ H1 B (λv H'=>Same H1 H'/\Rep X.K B H' t v) I6 he (λz=>?_) (by simp[hil]) (λp hp z=>?_) λv H' s' r=>⟨s',r⟩) (λf s4 r=>?_) λ_ _ z=>z.elim
   .rw[hst]at z;exact nfr e oe ev hoe hod z
   .obtain⟨o,ho⟩:=(E.env.trk p (.inl z)).some;have:=sm p o ho (λw=>E.mine p w z);rw[hp]at this;cases this
   .cases f with
    |next=>obtain⟨_,_,_,z⟩:=r;exact z.elim
    |brk=>obtain⟨_,_,_,z⟩:=r;exact z.elim
    |cont=>obtain⟨_,_,_,z⟩:=r;exact z.elim
    |ret u=>
     obtain⟨v,σ',H',I7,rv,s',rt⟩:=r;obtain⟨m,hn,_⟩:=I7.loc;refine wpAny_nameGoes (show X.env.kindOf n=ZA .local from hloc) hn (by rw[I.ok.kind];rfl) λh8 m8 hn8 hs8=>?_;exact⟨v,_,H',Inv.forget (Gy I.ok I7) hcl hn8 hs8,rv,hq' v H' (λb o y nn=>s' b o (sm b o y nn)) rt⟩
def Kt:O9 "ValueError" =ZA (.type "ValueError"):=by decide+kernel
def Jm{en:Str}{p2:Pos}(hN:X.N[0]?=ZA en)(hv:u6 X.env.scope en)(hp:(e,oe)∈X.pn)(hc:oe.cls=.ref C)(OC:OX X.K C bm)
  (hm:X.mg "isinstance" =ZB) (hmD:X.mg "ValueError" =ZB) (hg:Gl X "isinstance":=by rfl) (hgD:Gl X "ValueError":=by rfl) (hde:autoParam ((en == ("__debug__" : Str))=ZD) s_) (hce:autoParam ((en == ("__classdict__" : Str))=ZD) s_)
  (he:Ov [.Name en p1,.Name "ValueError" p2] X.env=(ZD,eval (.Name en p1) X.env)::Ov [.Name "ValueError" p2] X.env:=by rfl) (hpl:(backTo pos (Ov [.Name "ValueError" p2] X.env)).any (·.1)=ZD:=by rfl)
  (hs:Ov [.Name "ValueError" p2] X.env=(ZD,eval (.Name "ValueError" p2) X.env)::Ov [] X.env:=by rfl):
  PE X (.Call (.Name "isinstance" p) [.Name en p1,.Name "ValueError" p2] [] pos) (tIs e ZC):=by
 intro kw s σ H Q I ⟨hσ,q⟩;refine Pa (fw I hg hm gA ?_ (by decide) (by decide));have hA:PA X [.Name en p1,.Name "ValueError" p2] (ij (o8 0) (ij (tC (.ty "ValueError")) tD)):=bB (jd hN hv hde hce) (bB (zA (v:=.ty "ValueError") hgD hmD Kt rfl) dS hs) he;refine Qz (cM (hA pos kw s σ H (λvs H'=>vs=[.ref e,.ty "ValueError"]/\H'=H) I ⟨.ref e,hσ,rfl,rfl⟩) λus s1 ⟨vs,H1,I1,r1,e1,e2⟩=>?_) he hpl;subst e1;obtain⟨u,w',rfl,ru,rw'⟩:=za r1;cases ru;cases rw';subst e2;exact DK hp hc OC I1 q
def LL{ob:N8}{oe:Option ZE}{es:Array DictEntry}{n:Nat}{oz:Array (Option N8)}(r:K.lookup N=ZA ⟨ob,oe,.dict es n,oz⟩)(s:(es.toList.all λe=>B1 e.key)=ZC)
  (u0:SD K N "__init__" =ZA ZB) (u1:SD K N "__getattribute__" =ZA ZB) (u2:SD K N "__getattr__" =ZA ZB) (u3:SD K N "__class__" =ZA ZB):
  ∀h:ZH,K.In h->∃mN,h.Ns N mN/\∀n∈calmNames,mN n=ZB:=λh k=>by
 refine⟨nsFind es,⟨_,es,n,k _ _ r,rfl,λe he=>?_,λ_=>rfl⟩,λx hx=>?_⟩
 .have:=OB.mp s e (by simpa using he);cases q:e.key <;> rw[q]at this <;> first|exact⟨_,_,rfl⟩|cases this
 .have key:∀x,SD K N x=ZA ZB->nsFind es x=ZB:=λx u=>by
   unfold SD at u;rw[r]at u;simp only at u;split at u
   .cases u
   .rename_i he;unfold nsFind findBy;rw[<-Vu,he];rfl
  unfold calmNames at hx;simp only[Oe,Pb,or_false]at hx;rcases hx with rfl|rfl|rfl|rfl
  .exact key _ u0
  .exact key _ u1
  .exact key _ u2
  .exact key _ u3
section
variable {bs:List N8}{sub:List N8}
variable {nm' q':Str}{N':ZE}{k0' k1' k2' k3' k5':Option N8}
def F5(w:K.lookup C=ZA (PV nm q C N bs ou hdct sn sub ab col dd k0 k1 k2 k3 k5 "ValueError.__new__"))(ns:∀h:ZH,K.In h->∃mN,h.Ns N mN/\∀n∈calmNames,mN n=ZB):OX K C ou:=⟨λh k=>by obtain⟨mN,h1,h2⟩:=ns h k;exact⟨nm,q,N,bs,hdct,sn,sub,ab,col,dd,k0,k1,k2,k3,k5,mN,k _ _ w,h1,h2,.base⟩⟩
def CT(w:K.lookup C=ZA (PV nm q C N bs (.ref D::ou) hdct sn sub ab col dd k0 k1 k2 k3 k5 "ValueError.__new__"))(ns:∀h:ZH,K.In h->∃mN,h.Ns N mN/\∀n∈calmNames,mN n=ZB)
  (wD:K.lookup D=ZA (PV nm' q' D N' bs' ou hdct' sn' sub' ab' col' dd' k0' k1' k2' k3' k5' "ValueError.__new__")) (nsD:∀h:ZH,K.In h->∃mN,h.Ns N' mN/\∀n∈calmNames,mN n=ZB):OX K C (.ref D::ou):=⟨λh k=>by
 obtain⟨mN,h1,h2⟩:=ns h k;obtain⟨mD,d1,d2⟩:=nsD h k;exact⟨nm,q,N,bs,hdct,sn,sub,ab,col,dd,k0,k1,k2,k3,k5,mN,k _ _ w,h1,h2,.own (k _ _ wD) d1 d2 .base⟩⟩
end
theorem K6(h:Room k A):A.depth+3<RV:=by have:=h.dp;omega
def Cb(i j:Int):rng i j=((Oj (j - i).toNat).map λ(k:Nat)=>i+(k:Int)).map T.int:=by unfold rng;rw[OK];rfl
theorem yZ:∀{xs:List V}{us:List N8},xs.length=us.length->(∀(m:Nat)(u:N8),us[m]?=ZA u->∃x,xs[m]?=ZA x/\RelV x u)->Vals xs us
 |[],[],_,_=>.nil
 |[],_::_,h,_=>by cases h
 |_::_,[],h,_=>by cases h
 |x::xs,u::us,h,k=>by obtain⟨y,e,r⟩:=k 0 u rfl;cases e;exact .cons r (yZ (by simpa using h) λm v hv=>k (m+1) v hv)
theorem zH{i j:Int}{t t' t2:Tok}{tk0:Nat}(hc:X.A.handled=ZB)(I1:Inv X kw σ H1 s1)(c1 : -(2 ^ 62)<=i)(c2:i<2 ^ 62)(c3 : -(2 ^ 62)<=j)(c4:j<2 ^ 62)(k3:(j - i).toNat<=1000)(fr:∀p,H1 p=ZB->¬ O p)
  (q1:∀H',Same H1 H'->∀v,Rep X.K O H' (.lst (rng i j)) v->Q v H'):
  ZJ (ZK X.prog X.w) X.A (call (.type "list") [.ref s1.heap.objs.size]) (EP X kw σ Q) X.xe {s1 with heap:=s1.heap.push {cls:=.type "range",data:=.fields #[.int i t,.int j t',.int 1 t2]},toks:=tk0}:=by
 refine call_list_range (n:=(j - i).toNat) hc (W1 ..) (small_one c1 c2 c3 c4) (by rw[rangeSize_one];split <;> omega) (by omega) λh' tk acc' c' kp hS hacc=>?_;have I2:Inv X kw σ H1 {s1 with heap:=s1.heap.push {cls:=.type "range",data:=.fields #[.int i t,.int j t',.int 1 t2]},toks:=tk0}:=I1.kept λb o e=>Of _ e;have hn:H1 (s1.heap.push {cls:=.type "range",data:=.fields #[.int i t,.int j t',.int 1 t2]}).objs.size=ZB:=I2.hok.fresh (Oq _);have hv:Vals (((Oj (j - i).toNat).map λ(k:Nat)=>i+(k:Int)).map V.int) acc'.toList:=by
  refine yZ ?_ ?_
  .simp[hacc.1]
  .intro m u hu;have hu':acc'[m]?=ZA u:=by simpa using hu
   obtain⟨tk,rfl⟩:=hacc.2 m u hu';have hm:m<(j - i).toNat:=by have:=(PU.mp hu').1;rw[hacc.1]at this;exact this
   refine⟨.int (i+(m:Int)),by simp[hm],⟨tk,?_⟩⟩;rw[Int.mul_one]
 have I3:Inv X kw σ (upd H1 _ (.lst _)) {s1 with heap:=h',toks:=tk}:=I2.laid (t':=tk) (o:=.lst (((Oj (j - i).toNat).map λ(k:Nat)=>i+(k:Int)).map V.int)) kp (Oq _) ⟨by rw[N9,N9,OR,PD];omega,acc'.toList,c',hv,by simpa using hS⟩;refine⟨.ref _,_,I3,rfl,q1 _ (aR hn _) _ ?_⟩;rw[Cb];exact gS hn (fr _ hn) Reps.ints
def Ct{fs:Y0}{p2 pos2:Pos}(hc:X.calm=ZC)(h1:X.mg "list" =ZB)(h2:X.mg "range" =ZB)(ha:qX X (a::es) fs)(g1:Gl X "list":=by rfl)(g2:Gl X "range":=by rfl)
  (hn:bo (a::es)=ZC:=by rfl)
  (he2:Ov [.Call (.Name "range" p2) (a::es) [] pos2] X.env=(ZD,eval (.Call (.Name "range" p2) (a::es) [] pos2) X.env)::Ov [] X.env:=by rfl) (hpl2:(backTo pos (Ov [] X.env)).any (·.1)=ZD:=by rfl):
  df X (.Call (.Name "list" p1) [.Call (.Name "range" p2) (a::es) [] pos2] [] pos) (lR fs):=by
 unfold bo at hn;rw[N7]at hn;intro kw s σ H Q I ⟨Z,O,E,hq⟩;have hz:=eQ E hq;have b1:O9 ("list" : Str)=ZA (.type "list"):=by decide+kernel
 have b2:O9 ("range" : Str)=ZA (.type "range"):=by decide+kernel
 refine Pa (fw I g1 h1 b1 ?_ (by decide) (by decide));refine O8 ?_ he2 hpl2;rw[he2];show ZJ _ _ (spliced ((ZD,eval (.Call (.Name "range" p2) (a::es) [] pos2) X.env)::backTo pos (Ov [] X.env))) _ _ s;refine Rx ?_;refine Pa (fw I g2 h2 b2 ?_ (by decide) (by decide));refine O8 (cM (ha pos2 kw s σ H _ I hz) λus s1 ⟨vs,H1,I1,r1,ts,rs,sm,E1,q1⟩=>?_) (bp hn.1) (gn hn.2);split at q1
 .rename_i i j;split at q1
  .rename_i hk;rw[N7,N7]at hk;obtain⟨⟨k1,k2⟩,k3⟩:=hk;obtain⟨c1,c2⟩:=fL k1;obtain⟨c3,c4⟩:=fL k2;have k3:=of_decide_eq_true k3;obtain⟨v,ws,rfl,r2,q⟩:=Reps.me.mp rs;obtain⟨v2,rfl,r3⟩:=q.one;cases Rep.AC.mp r2;cases Rep.AC.mp r3;cases r1 with
   |cons ra rr=>
    cases rr with
    |cons rb rr=>
     cases rr;obtain⟨t,rfl⟩:=ra;obtain⟨t',rfl⟩:=rb;exact WA (Re (zH (I.ok.hd hc) I1 c1 c2 c3 c4 k3 (λp=>E1.fresh) q1))
  .exact q1.elim
 .rename_i j;split at q1
  .rename_i hk;rw[N7]at hk;obtain⟨k2,k3⟩:=hk;obtain⟨c3,c4⟩:=fL k2;have k3:=of_decide_eq_true k3;obtain⟨v,rfl,r2⟩:=rs.one;cases Rep.AC.mp r2;cases r1 with
   |cons ra rr=>
    cases rr;obtain⟨t,rfl⟩:=ra;exact Wz (Re (zH (I.ok.hd hc) I1 (by omega) (by omega) c3 c4 (by rw[Int.sub_zero];exact k3) (λp=>E1.fresh) q1))
  .exact q1.elim
 .exact q1.elim
end Tr
variable{Q:WP}
namespace L2
open PySem PySem.Spec PyProof.Rows
variable{y:V}
section
variable {κ:Type}[DecidableEq κ]
noncomputable def iV(kvs:List (κ×V))(k:κ):Option V:=(kvs.find? λkv=>decide (kv.1=k)).map (·.2)
noncomputable def dR(kvs:List (κ×V))(k:κ)(v:V):List (κ×V):=
 if (kvs.any λkv=>decide (kv.1=k))=ZC then kvs.map (λkv=>if kv.1=k then(kv.1,v)else kv)else kvs++[(k,v)]
def BO{k:κ}:iV ([]:List (κ×V)) k=ZB:=rfl
def gO{p:κ×V}{r:List (κ×V)}{k:κ}(e:p.1=k):iV (p::r) k=ZA p.2:=by simp[iV,RC,e]
def gP{p:κ×V}{r:List (κ×V)}{k:κ}(e:¬ p.1=k):iV (p::r) k=iV r k:=by simp[iV,RC,e]
theorem vj(k:κ):∀kvs:List (κ×V),(kvs.any λkv=>decide (kv.1=k))=(iV kvs k).isSome
 |[] =>rfl
 |p::r=>by
  rw[Q4];by_cases e:p.1=k
  .simp only[gO e,decide_eq_true e,Wu,Vx]
  .rw[gP e,decide_eq_false e,T9];exact vj k r
theorem iq(kvs:List (κ×V))(k:κ)(v:V):(dR kvs k v).length<=kvs.length+1:=by
 unfold dR;split
 .rw[N9];omega
 .rw[Ol,Oh,UH];omega
def RelO.M5{o:Option V}{u:Option N8}(r:RelO o u):o.isSome=u.isSome:=by
 cases o with
 |none=>cases u with
  |none=>rfl
  |some _=>exact(show False from r).elim
 |some _=>cases u with
  |none=>exact(show False from r).elim
  |some _=>rfl
def RelO.getD{o:Option V}{u:Option N8}{d:V}{d':N8}(r:RelO o u)(rd:RelV d d'):RelV (o.getD d) (u.getD d'):=by
 cases o with
 |none=>cases u with
  |none=>exact rd
  |some _=>exact(show False from r).elim
 |some _=>cases u with
  |none=>exact(show False from r).elim
  |some _=>exact r
def KV.val{kvs:List (κ×V)}{vs:List (κ×N8)}(r:KV kvs vs)(k:κ):RelO (iV kvs k) (valueAt vs k):=by
 unfold KV at r;induction r with
 |nil=>exact RH
 |@cons p q ps qs h t ih=>
  obtain⟨h1,h2⟩:=h;by_cases e:p.1=k
  .have e':q.1=k:=h1.symm.trans e;have b:valueAt (q::qs) k=ZA q.2:=by simp[valueAt,RC,e']
   rw[gO e,b];exact h2
  .have e':¬ q.1=k:=λz=>e (h1.trans z);have b:valueAt (q::qs) k=valueAt qs k:=by simp[valueAt,RC,e']
   rw[gP e,b];exact ih
def KV.any{kvs:List (κ×V)}{vs:List (κ×N8)}(r:KV kvs vs)(k:κ):(kvs.any λkv=>decide (kv.1=k))=vs.any λkv=>decide (kv.1=k):=by
 unfold KV at r;induction r with
 |nil=>rfl
 |cons h t ih=>rw[Q4,Q4,ih,h.1]
def KV.NL{kvs:List (κ×V)}{vs:List (κ×N8)}(r:KV kvs vs)(k:κ){u:N8}(ry:RelV y u):
  KV (kvs.map λkv=>if kv.1=k then(kv.1,y)else kv) (vs.map λkv=>if kv.1=k then(kv.1,u)else kv):=by
 unfold KV at r ⊢;induction r with
 |nil=>exact .nil
 |@cons p q ps qs h t ih=>
  rw[Oa,Oa];refine .cons ?_ ih;obtain⟨h1,h2⟩:=h;by_cases e:p.1=k
  .rw[if_pos e,if_pos (h1.symm.trans e)];exact⟨h1,ry⟩
  .rw[if_neg e,if_neg (λz=>e (h1.trans z))];exact⟨h1,h2⟩
def KV.put{kvs:List (κ×V)}{vs:List (κ×N8)}(r:KV kvs vs)(k:κ){u:N8}(ry:RelV y u):KV (dR kvs k y) (stored vs k u):=by
 unfold dR stored;rw[r.any k];by_cases e:(vs.any λkv=>decide (kv.1=k))=ZC
 .rw[if_pos e,if_pos e];exact r.NL k ry
 .rw[if_neg e,if_neg e];exact Paired.snoc r ⟨rfl,ry⟩
def KV.length{kvs:List (κ×V)}{vs:List (κ×N8)}(r:KV kvs vs):kvs.length=vs.length:=T8 r
end
def wN{k:Key}{u:N8}(r:RelV (kV k) u):(dw P w).is k u=ZC:=by
 cases k with
 |inl i=>obtain⟨t,e⟩:=(show ∃t,u=Qb i t from r);subst e;exact wz P w i t
 |inr x=>obtain⟨t,e⟩:=(show ∃t,u=QB x t from r);subst e;exact wy P w x t
theorem sk:∀{ks:List Key}{us:List N8},Vals (ks.map kV) us->ItemsAre (dw P w) ks us
 |[],_,r=>by rw[Tw]at r;cases r;exact .nil
 |k::ks,_,r=>by
  rw[Oa]at r;cases r with
  |cons h t=>exact .cons (wN h) (sk t)
abbrev KT(H:Hp):List (List Key×V)->List (List Key×ZE×N8)->Prop:=Uj λp q=>p.1=q.1/\H q.2.1=ZA (.tup (p.1.map kV))/\RelV p.2 q.2.2
variable{H:Hp}{kvs:List (List Key×V)}{xs:List (List Key×ZE×N8)}
def KT.val(r:KT H kvs xs)(k:List Key):RelO (iV kvs k) ((atKey xs k).map (·.2)):=by
 induction r with
 |nil=>exact RH
 |@cons p q ps qs h t ih=>
  obtain⟨h1,_,h2⟩:=h;by_cases e:p.1=k
  .have e':q.1=k:=h1.symm.trans e;have b:atKey (q::qs) k=ZA q.2:=by simp[atKey,RC,e']
   rw[gO e,b];exact h2
  .have e':¬ q.1=k:=λz=>e (h1.trans z);have b:atKey (q::qs) k=atKey qs k:=by simp[atKey,RC,e']
   rw[gP e,b];exact ih
def KT.NL(r:KT H kvs xs)(k:List Key){u:N8}(ry:RelV y u):
  KT H (kvs.map λkv=>if kv.1=k then(kv.1,y)else kv) (xs.map (putAt k u)):=by
 induction r with
 |nil=>exact .nil
 |@cons p q ps qs h t ih=>
  rw[Oa,Oa];refine .cons ?_ ih;obtain⟨h1,h2,h3⟩:=h;unfold putAt;by_cases e:p.1=k
  .rw[if_pos e,if_pos (h1.symm.trans e)];exact⟨h1,h2,ry⟩
  .rw[if_neg e,if_neg (λz=>e (h1.trans z))];exact⟨h1,h2,h3⟩
variable{b:ZE}
def KT.put(r:KT H kvs xs)(k:List Key){u:N8}(hb:H b=ZA (.tup (k.map kV)))(ry:RelV y u):
  KT H (dR kvs k y) (storedH xs k b u):=by
 have e:(kvs.any λkv=>decide (kv.1=k))=(atKey xs k).isSome:=by rw[vj,(r.val k).M5,V7]
 unfold dR storedH;rw[e];by_cases q:(atKey xs k).isSome=ZC
 .rw[if_pos q,if_pos q];exact r.NL k ry
 .rw[if_neg q,if_neg q];exact Paired.snoc r ⟨rfl,hb,ry⟩
variable{H':Hp}
def KT.keeps(r:KT H kvs xs)(ht:∀b ys,H b=ZA (.tup ys)->H' b=ZA (.tup ys)):KT H' kvs xs:=
 Paired.NA r λ_ _ z=>⟨z.1,ht _ _ z.2.1,z.2.2⟩
variable{a:ZE}
section
variable {h:ZH}
def rW{u:HO}(ok:HOk P w H h)(e:Rd H a u):ObjOk P w H h a u:=e.ok ok
def sM{kvs:List (Key×V)}(ok:HOk P w H h)(e:Rd H a (.dK kvs)):kvs.length<=ZI/\(a == Qr)=ZD/\∃vs,KV kvs vs/\h.DictOf (dw P w) a vs:=
 show ObjOk P w H h a (.dK kvs)from rW ok e
def Mr{kvs:List (Key×V)}(ok:HOk P w H h)(e:H a=ZA (.dK kvs)):kvs.length<=ZI/\(a == Qr)=ZD/\∃vs,KV kvs vs/\h.DictOf (dw P w) a vs:=sM ok (.inl e)
def key_of{ks:List Key}(ok:HOk P w H h)(e:H a=ZA (.tup (ks.map kV))):(TX (dw P w)).is h ks a:=by obtain⟨_,its,r,o,h1,h2,n,h3⟩:=(show ObjOk P w H h a (.tup (ks.map kV))from ok a _ e);exact⟨o,its.toArray,n,h1,h2,h3,by simpa using sk r⟩
def lg(ok:HOk P w H h)(e:Rd H a (.dT kvs)):kvs.length<=ZI/\(a == Qr)=ZD ∧
  ∃xs,KT H kvs xs/\h.DictOfH (TX (dw P w)) a xs:=by
 obtain⟨z,y,xs,r,o,es,ep,h1,h2,h3,h4,h5⟩:=(show ObjOk P w H h a (.dT kvs)from rW ok e);refine⟨z,y,xs,r,o,es,ep,h1,h2,h3,h4,λx hx=>?_,h5⟩;have all:∀{l:List (List Key×V)}{m:List (List Key×ZE×N8)},KT H l m->∀x∈m,(TX (dw P w)).is h x.1 x.2.1:=by
  intro l m q;induction q with
  |nil=>intro x hx;exact nomatch hx
  |@cons p q ps qs hq t ih=>
   intro x hx;rcases Oe.mp hx with e|hx
   .subst e;exact key_of ok (by rw[<-hq.1];exact hq.2.1)
   .exact ih x hx
 exact all r x hx
def Eo(ok:HOk P w H h)(e:H a=ZA (.dT kvs)):kvs.length<=ZI/\(a == Qr)=ZD ∧
  ∃xs,KT H kvs xs/\h.DictOfH (TX (dw P w)) a xs:=lg ok (.inl e)
end
def DGet(H:Hp)(a:ZE)(y:V)(r:Option V):Prop:=
 (∃kvs k,Rd H a (.dK kvs)/\y=kV k/\r=iV kvs k)\/∃kvs k b,Rd H a (.dT kvs)/\y=.ref b/\H b=ZA (.tup (k.map kV))/\r=iV kvs k
def DPut(H:Hp)(a:ZE)(y v:V)(H':Hp):Prop:=
 (∃kvs k,H a=ZA (.dK kvs)/\y=kV k/\kvs.length<ZI/\H'=upd H a (.dK (dR kvs k v))) ∨
 ∃kvs k b,H a=ZA (.dT kvs)/\y=.ref b/\H b=ZA (.tup (k.map kV))/\kvs.length<ZI/\H'=upd H a (.dT (dR kvs k v))
variable{k:List Key}
def DGet.t(e:H a=ZA (.dT kvs))(eb:H b=ZA (.tup (k.map kV))):DGet H a (.ref b) (iV kvs k):=.inr ⟨kvs,k,b,.inl e,rfl,eb,rfl⟩
def DPut.t{v:V}(e:H a=ZA (.dT kvs))(eb:H b=ZA (.tup (k.map kV)))(hl:kvs.length<ZI):
  DPut H a (.ref b) v (upd H a (.dT (dR kvs k v))):=.inr ⟨kvs,k,b,e,rfl,eb,hl,rfl⟩
variable{X:Cx}{h':ZH}{kw:Uf}{σ:St}
section
variable {v:V}{u r:N8}{o:Option V}
def Inv.big(I:Inv X kw σ H s):Qr<s.heap.objs.size:=by have h:OJ<s.heap.objs.size:=(I.mod.glob.keeps I.bk).lt;exact UB (by decide) h
def Bp(hu:A.units+1<cLine)(I:Inv X kw σ H s)(g:DGet H a y (ZA v))(ry:RelV y u)(h:∀w' s',Inv X kw σ H s'->RelV v w'->Q w' s'):
  ZJ (ZK X.prog X.w) A (getItem (.ref a) u) Q E s:=by
 rcases g with⟨kvs,k,e,ey,l⟩|⟨kvs,k,b,e,ey,eb,l⟩
 .subst ey;obtain⟨z,hd,vs,rel,dd⟩:=sM I.hok e;obtain⟨w',hw,rw'⟩:=RelO.some_of (v:=v) (o:=valueAt vs k) (by rw[l];exact rel.val k);exact wpAny_getItem_of (wN ry) dd.mapOf hw (h w' _ (I.tok _) rw')
 .subst ey;cases (show u=Oz b from ry);obtain⟨z,hd,xs,rel,dd⟩:=lg I.hok e;obtain⟨w',hw,rw'⟩:=RelO.some_of (v:=v) (o:=(atKey xs k).map (·.2)) (by rw[l];exact rel.val k);obtain⟨p,hp,hp2⟩:=Qo.mp hw;refine wpAny_getItem_heap (QF hu) (key_of I.hok eb) dd hp ?_;rw[hp2];exact h w' _ (I.tok _) rw'
def d_in(hu:A.units+1<cLine)(I:Inv X kw σ H s)(g:DGet H a y o)(ry:RelV y u)(h:∀s',Inv X kw σ H s'->Q (.bool o.isSome) s'):
  ZJ (ZK X.prog X.w) A (Pm .In u (.ref a)) Q E s:=by
 rcases g with⟨kvs,k,e,ey,l⟩|⟨kvs,k,b,e,ey,eb,l⟩
 .subst ey;obtain⟨z,hd,vs,rel,dd⟩:=sM I.hok e;refine wpAny_in_of (wN ry) hd dd.mapOf ?_;rw[<-(rel.val k).M5,<-l];exact h _ (I.tok _)
 .subst ey;cases (show u=Oz b from ry);obtain⟨z,hd,xs,rel,dd⟩:=lg I.hok e;refine wpAny_in_heap (QF hu) (key_of I.hok eb) hd dd ?_;have q:=(rel.val k).M5;rw[V7]at q;rw[<-q,<-l];exact h _ (I.tok _)
def uS{ob:HO}(I:Inv X kw σ H s)(mu:ME (H a))(hs:SF a s.heap h')(he:∃q,h'.get? a=ZA q)(new:ObjOk X.prog X.w (upd H a ob) h' a ob):
  Inv X kw σ (upd H a ob) {s with heap:=h',toks:=t'}:=
 I.write (x:=a) (e:=a) mu (.inl rfl) (λb q hb z=>(hs.2 b hb).trans z) he new
def Km{kvs:List (Key×V)}{vs:List (Key×N8)}(z:kvs.length<=ZI)(hd:(a == Qr)=ZD)(rel:KV kvs vs)(dd:h'.DictOf (dw P w) a vs):
  ObjOk P w H' h' a (.dK kvs):=⟨z,hd,vs,rel,dd⟩
theorem Bo{Q:Unit->Oc->Prop}(hu:A.units+1<cLine)(I:Inv X kw σ H s)(g:DPut H a y v H')(ry:RelV y u)(rv:RelV v r)(h:∀s',Inv X kw σ H' s'->Q () s'):
  ZJ (ZK X.prog X.w) A (setItem (.ref a) u r) Q E s:=by
 rcases g with⟨kvs,k,e,ey,l,eH⟩|⟨kvs,k,b,e,ey,eb,l,eH⟩
 .subst ey eH;obtain⟨z,hd,vs,rel,dd⟩:=Mr I.hok e;have hz:vs.length<=ZI:=by rw[<-rel.length];exact z
  have hl:(dR kvs k v).length<=ZI:=by have:=iq kvs k v;omega
  refine wpAny_setItem_pairs (hsz:=hz) (wN ry) dd λh' dd' hs=>h _ ?_;have he:∃q,h'.get? a=ZA q:=let ⟨q,_,_,hq,_⟩:=dd';⟨q,hq⟩;exact uS I (by rw[e];exact RH) hs he (Km hl hd (rel.put k rv) dd')
 .subst ey eH;cases (show u=Oz b from ry);obtain⟨z,hd,xs,rel,dd⟩:=Eo I.hok e;have hz:xs.length<=ZI:=by rw[<-T8 rel];exact z
  have hl:(dR kvs k v).length<=ZI:=by have:=iq kvs k v;omega
  refine wpAny_setItem_heap (hsz:=hz) (QF hu) (key_of I.hok eb) dd λh' dd' hs=>h _ ?_;obtain⟨q,es,ep,hq,h2,h3,h4,_,h5⟩:=dd';refine uS I (by rw[e];exact RH) hs ⟨q,hq⟩ ⟨hl,hd,_,(rel.put k eb rv).keeps λc ys ec=>?_,q,es,ep,hq,h2,h3,h4,h5⟩;rw[aF (l7 ec e (λz=>nomatch z))];exact ec
end
def BB(i:ZG):Prop:=∀ov iv,Vp i ZD ov iv=operate [ov,iv] (getItem ov iv)
variable{pos:Pos}{value:ZG}
def Fd{env:Env}{slice:ZG}{T id:String}
  (hl:Sy (.type T) "__getitem__" =pure (ZA (.builtin id))) (hs:BB slice)
  (h:ZJ (ZK prog w) A (eval value env) (λo s₁=>ZJ (ZK prog w) A (eval slice env) (λi s₂=>s₂.TypeIs o T/\ZJ (ZK prog w) A (getItem o i) Q E s₂) E s₁) E s):
  ZJ (ZK prog w) A (eval (.Subscript value slice pos) env) Q E s:=by
 refine UX (Qm h (λo s₁ h₁=>Qm h₁ (λi s₂ h₂=>?_) λ_ _ x=>x) λ_ _ x=>x);obtain⟨hT,h₂⟩:=h₂;unfold VU;refine N5 ?_;rw[getitemInPython_of_ne hT.not_modules];refine N5 (wpAny_specialOf hT hl ?_);have fin:ZJ (ZK prog w) A (Vp slice ZD o i) (λr s₃=>ZJ (ZK prog w) A (letTemporaryGo value o r >>= λ_=>pure r) Q E s₃) E s₂:=by rw[hs o i];exact wpAny_operating (Qm h₂ (λr s₃ h₃=>N5 (wpAny_letTemporaryGo (Oi h₃))) λ_ _ x=>x)
 first
  |exact Oi (N5 fin)
  |exact N5 (Oi (N5 fin))
  |exact N5 fin
def w6{o:Option V}(I:Inv X kw σ H s)(g:DGet H a y o):s.TypeIs (.ref a) "dict":=by
 rcases g with⟨kvs,k,e,_,_⟩|⟨kvs,k,b,e,_,_,_⟩
 .obtain⟨_,_,vs,_,dd⟩:=sM I.hok e;exact dd.typeIs
 .obtain⟨_,_,xs,_,dd⟩:=lg I.hok e;exact dd.typeIs
def KZ(td ty:TE):TE:=λσ H Q=>td σ H λx H1=>ty σ H1 λy H2=>∃a v,x=.ref a/\DGet H2 a y (ZA v)/\Q v H2
def K3(td ty tv:TE):TS:=λD σ H=>tv σ H λv H1=>td σ H1 λx H2=>ty σ H2 λy H3=>∃a H4,x=.ref a/\DPut H3 a y v H4/\D.nx σ H4
section
variable {o i e:ZG}{pos' tpos:Pos}{td ty tv:TE}
def zw(hu:X.A.units+1<cLine)(ho:PE X o td)(hi:PE X i ty)(hs:BB i):PE X (.Subscript o i pos) (KZ td ty):=by intro kw s σ H Q I h;refine Fd PySem.F.slot_dict_getitem.lookup hs (cM (ho kw s σ H _ I h) λu s1 ⟨x,H1,I1,rx,q1⟩=>cM (hi kw s1 σ H1 _ I1 q1) λiv s2 hh_=>?_);obtain⟨y,H2,I2,ry,a,v,ex,g,q2⟩:=hh_;subst ex;obtain rfl:u=Oz a:=rx;exact⟨w6 I2 g,Bp hu I2 g ry λw' s3 I3 rw'=>⟨v,H2,I3,rw',q2⟩⟩
def zp(hu:X.A.units+1<cLine)(ho:PE X o td)(hi:PE X i ty)(hv:PE X value tv)(hs:P4 value (ZA (.Subscript o i pos')) pos.line X.env=pure ZD):
  PS X (.Assign [.Subscript o i pos'] value pos) (K3 td ty tv):=by
 intro kw s σ H D I h;refine wpAny_Assign_Subscript (cM (hv kw s σ H _ I h) λr s1 ⟨v,H1,I1,rv,q1⟩=>cM (ho kw s1 σ H1 _ I1 q1) λu s2 ⟨x,H2,I2,rx,q2⟩=>cM (hi kw s2 σ H2 _ I2 q2) λiv s3 ⟨y,H3,I3,ry,a,H4,ex,g,q3⟩=>?_) hs;subst ex;obtain rfl:u=Oz a:=rx;exact Bo hu I3 g ry rv λs4 I4=>⟨σ,H4,I4,q3⟩
end
def Ep(h:ZH)(hb:Qr<h.objs.size):ObjOk P w H (h.push {cls:=.type "dict",data:=.dict #[]}) h.objs.size (.dT []):=
 ⟨Pg _,beq_eq_false_iff_ne.mpr (PJ (O5 hb)),[],.nil,_,#[],0,Oy _ rfl,⟨rfl,rfl,rfl⟩,rfl,rfl,Ra⟩
structure M1 (X:Cx)(o:ZG)(m:Str)(apos:Pos)(e:ZG)(cpos:Pos):Prop where
 base:Qx o m X.env (eval o X.env)=eval o X.env
 few:((backTo cpos (Ov [e] X.env)).all (λx=>!x.1)&&(VQ cpos (Te [] X.env)).all (λx=>x.1.isSome)
  &&decide (([e]:List ZG).length+([]:List Wj).length+(if ([]:List Wj).isEmpty then 0 else 1)<30))=ZC
 line:(apos.endLine == cpos.line)=ZC
 trees:backTo cpos (Ov [e] X.env)=[(ZD,eval e X.env)]
structure M2 (X:Cx)(o:ZG)(m:Str)(apos:Pos)(e f:ZG)(cpos:Pos):Prop where
 base:Qx o m X.env (eval o X.env)=eval o X.env
 few:((backTo cpos (Ov [e,f] X.env)).all (λx=>!x.1)&&(VQ cpos (Te [] X.env)).all (λx=>x.1.isSome)
  &&decide (([e,f]:List ZG).length+([]:List Wj).length+(if ([]:List Wj).isEmpty then 0 else 1)<30))=ZC
 line:(apos.endLine == cpos.line)=ZC
 trees:backTo cpos (Ov [e,f] X.env)=[(ZD,eval e X.env),(ZD,eval f X.env)]
def IsD(H:Hp)(a:ZE):Prop:=(∃kvs,Rd H a (.dK kvs))\/∃kvs,Rd H a (.dT kvs)
def J3(I:Inv X kw σ H s)(d:IsD H a):
  s.TypeIs (.ref a) "dict"/\(∀b,Oz a=.ref b->∃ob,s.heap.get? b=ZA ob/\ob.dict=ZB)/\(a == Qr)=ZD:=by
 rcases d with⟨kvs,e⟩|⟨kvs,e⟩
 .obtain⟨_,hd,vs,_,dd⟩:=sM I.hok e;refine⟨dd.typeIs,λb q=>?_,hd⟩;cases q;obtain⟨ob,_,_,h1,h2,_⟩:=dd;exact⟨ob,h1,h2.2.1⟩
 .obtain⟨_,hd,xs,_,dd⟩:=lg I.hok e;refine⟨dd.typeIs,λb q=>?_,hd⟩;cases q;obtain⟨ob,_,_,h1,h2,_⟩:=dd;exact⟨ob,h1,h2.2.1⟩
section
variable {d:V}{u r:N8}{o:Option V}
def Ko(hu:A.units+1<cLine)(I:Inv X kw σ H s)(g:DGet H a y o)(ry:RelV y u)(h:∀w' s',Inv X kw σ H s'->RelV (o.getD .non) w'->Q w' s'):
  ZJ (ZK X.prog X.w) A (call (.builtin "dict.get") [.ref a,u]) Q E s:=by
 rcases g with⟨kvs,k,e,ey,l⟩|⟨kvs,k,b,e,ey,eb,l⟩
 .subst ey;obtain⟨z,hd,vs,rel,dd⟩:=sM I.hok e;refine call_meetsIn SE dd.typeIs Ul (T4 _ _) (meets_dict_get (dw X.prog X.w) a (wN ry) hd) ⟨_,dd.mapOf,h _ _ (I.tok _) ?_⟩;rw[l];exact(rel.val k).getD rfl
 .subst ey;cases (show u=Oz b from ry);obtain⟨z,hd,xs,rel,dd⟩:=lg I.hok e;refine call_meetsIn SE dd.typeIs Ul (T4 _ _) (meetsH_dict_get (TX (dw X.prog X.w)) a b hd) ⟨QF hu,k,xs,key_of I.hok eb,dd,h _ _ (I.tok _) ?_⟩;rw[l];exact(rel.val k).getD rfl
end
def Ik(td ty:TE):TE:=λσ H Q=>td σ H λx H1=>∃a,x=.ref a/\IsD H1 a/\ty σ H1 λy H2=>∃o,DGet H2 a y o/\Q (o.getD .non) H2
section
variable {o e f:ZG}{apos cpos:Pos}{td ty tx:TE}
def CO(hu:X.A.units+1<cLine)(ho:PE X o td)(he:PE X e ty)(m:M1 X o "get" apos e cpos):PE X (.Call (.Attribute o "get" apos) [e] [] cpos) (Ik td ty):=by intro kw s σ H Q I h;refine wpAny_Call_method m.base m.few m.line PySem.F.plainAttrs_dict SE PySem.F.type_dict_get (cM (ho kw s σ H _ I h) λu s1 hh_=>?_);obtain⟨x,H1,I1,rx,a,ex,d,q1⟩:=hh_;subst ex;obtain rfl:u=Oz a:=rx;obtain⟨t1,t2,_⟩:=J3 I1 d;refine⟨t1,t2,?_⟩;rw[m.trees];refine Sq rfl (RS (Rx (cM (he kw s1 σ H1 _ I1 q1) λiv s2 ⟨y,H2,I2,ry,ov,g,q2⟩=>Re ?_)));exact Ko hu I2 g ry λw' s3 I3 rw'=>⟨_,H2,I3,rw',q2⟩
end
end L2
namespace Tr
open PySem PySem.Spec PyProof.Rows L2
variable{H:Hp}{a:ZE}{k:List Key}{kvs:List (List Key×V)}
def DGet.NM{b:ZE}(e:Rd H a (.dT kvs))(eb:H b=ZA (.tup (k.map kV))):DGet H a (.ref b) (iV kvs k):=.inr ⟨kvs,k,b,e,rfl,eb,rfl⟩
theorem mj{k:Nat}(h:Room k A):A.units+1<cLine:=by have:=h.un;omega
variable{O:Ow}
theorem qw:∀{l:List T}{vs:List V}{k:List Key},qx l=ZA k->Reps K O H l vs->vs=k.map kV
 |[],vs,k,h,r=>by cases Reps.Da.mp r;cases h;rfl
 |t::l,vs,k,h,r=>by
  obtain⟨v,ws,rfl,p,q⟩:=Reps.me.mp r;unfold qx at h;cases e1:HD t with
  |none=>rw[e1]at h;cases h
  |some a=>
   cases e2:qx l with
   |none=>rw[e1,e2]at h;cases h
   |some b=>
    rw[e1,e2]at h;cases h;rw[qw e2 q,Oa];congr 1;cases t with
    |int i=>cases e1;exact Rep.AC.mp p
    |str x=>cases e1;exact Rep.GT.mp p
    |_=>cases e1
variable{v:V}
def ir{y:T}(h:keyOf y=ZA k)(r:Rep K O H y v):∃b,v=.ref b/\H b=ZA (.tup (k.map kV)):=by
 cases y with
 |tup l=>
  obtain⟨a,vs,e1,_,e3,e4⟩:=Rep.Fk.mp r;rw[qw h e4]at e3;exact⟨a,e1,e3⟩
 |_=>cases h
theorem mw:∀{ks ts:List T}{kvs:List (List Key×V)},ks.map keyOf=kvs.map (λp=>ZA p.1)->Reps K O H ts (kvs.map (·.2))->match lG ks ts k with
  |some t=>∃v,iV kvs k=ZA v/\Rep K O H t v
  |none=>iV kvs k=ZB
 |[],ts,kvs,h,r=>by
  cases kvs with
  |nil=>unfold lG;exact BO
  |cons _ _=>cases h
 |k'::ks,ts,kvs,h,r=>by
  cases kvs with
  |nil=>cases h
  |cons p kvs=>
   rw[Oa,Oa]at h;injection h with h1 h2;rw[Oa]at r;cases ts with
   |nil=>have:=Reps.Da.mp r;cases this
   |cons t ts=>
    obtain⟨v,ws,e,q1,q2⟩:=Reps.me.mp r;injection e with e1 e2;subst e1 e2;unfold lG;by_cases hk:keyOf k'=ZA k
    .rw[if_pos hk];rw[h1]at hk;injection hk with hk;exact⟨_,gO hk,q1⟩
    .rw[if_neg hk];have hk2:¬ p.1=k:=λz=>hk (by rw[h1,z]);rw[gP hk2];exact mw h2 q2
def tU [DecidableEq κ]{k:κ}{p:κ×V}{r:List (κ×V)}(h:¬ p.1=k):dR (p::r) k v=p::dR r k v:=by
 unfold dR;rw[Q4,decide_eq_false h,T9];by_cases q:(r.any λkv=>decide (kv.1=k))=ZC
 .rw[if_pos q,if_pos q,Oa,if_neg h]
 .rw[if_neg q,if_neg q];rfl
def tV [DecidableEq κ]{k:κ}{p:κ×V}{r:List (κ×V)}(h:p.1=k)(hn:∀q∈r,q.1≠k):dR (p::r) k v=(p.1,v)::r:=by
 unfold dR;rw[Q4,decide_eq_true h,Wu,if_pos rfl,Oa,if_pos h];congr 1;conv=>rhs;rw[<-RD r]
 exact OL λq hq=>if_neg (hn q hq)
theorem mr{kT vT:T}(hk:keyOf kT=ZA k)(hv:Rep K O H vT v):∀{ks ts:List T}{kvs:List (List Key×V)},ks.map keyOf=kvs.map (λp=>ZA p.1)->Reps K O H ts (kvs.map (·.2))->(kvs.map (·.1)).Nodup ->
  (hZ kT vT ks ts).1.map keyOf=(dR kvs k v).map (λp=>ZA p.1)/\Reps K O H (hZ kT vT ks ts).2 ((dR kvs k v).map (·.2))
 |[],ts,kvs,h,r,_=>by
  cases kvs with
  |nil=>
   unfold hZ;refine⟨?_,Reps.Gc hv Reps.GM⟩;simp[dR,hk]
  |cons _ _=>cases h
 |k'::ks,ts,kvs,h,r,hn=>by
  cases kvs with
  |nil=>cases h
  |cons p kvs=>
   rw[Oa,Oa]at h;injection h with h1 h2;rw[Oa]at r;rw[Oa]at hn;obtain⟨n1,n2⟩:=OV.mp hn;cases ts with
   |nil=>have:=Reps.Da.mp r;cases this
   |cons t ts=>
    obtain⟨v',ws,e,q1,q2⟩:=Reps.me.mp r;injection e with e1 e2;subst e1 e2;unfold hZ;by_cases hz:keyOf k'=keyOf kT
    .rw[if_pos hz];have hp:p.1=k:=by rw[hz,hk]at h1;injection h1 with h1;exact h1.symm
     rw[tV hp λq hq z=>n1 (by rw[hp,<-z];exact List.mem_map_of_mem hq)];exact⟨by rw[Oa,Oa,h1,h2],Reps.Gc hv q2⟩
    .rw[if_neg hz];have hp:¬ p.1=k:=λz=>hz (by rw[h1,z,hk]);obtain⟨a1,a2⟩:=mr hk hv h2 q2 n2;rw[tU hp];exact⟨by rw[Oa,Oa,h1,a1],Reps.Gc q1 a2⟩
def G7{xs:List (List Key×ZE×N8)}(rel:KT H kvs xs):kvs.map (·.1)=xs.map (·.1):=by
 induction rel with
 |nil=>rfl
 |cons h t ih=>rw[Oa,Oa,ih,h.1]
variable{X:Cx}
def w9{kw:Uf}{σ:L2.St}(I:Inv X kw σ H s)(e:H a=ZA (.dT kvs)):(kvs.map (·.1)).Nodup/\kvs.length<=ZI:=by obtain⟨z,_,xs,rel,_,_,_,_,_,_,_,_,hn⟩:=Eo I.hok e;rw[G7 rel];exact⟨hn,z⟩
variable{a b:ZG}{fa fb:Y2}{pos:Pos}
def Ls(hu:X.A.units+1<cLine)(ha:df X a fa)(hb:df X b fb)(hs:autoParam (BB b) w_):df X (.Subscript a b pos) (o2 bO fa fb):=by
 refine PE.imp (zw hu ha hb hs) λσ H Q ⟨Z,O,E,hq⟩=>?_;obtain⟨Z1,O1,E1,h1⟩:=br E hq;refine⟨Z1,O1,E1,Post.mono h1 λt H1 s1 q v r=>?_⟩;obtain⟨t',r',s',E',q'⟩:=q v r;obtain⟨Z2,O2,E2,h2⟩:=br (f:=fb) E' q';refine⟨Z2,O2,E2,Post.mono h2 λt2 H2 s2 q2 v2 r2=>?_⟩;obtain⟨t2',r2',s2',E2',q2'⟩:=q2 v2 r2;have r'':=r'.same s2';unfold bO at q2';split at q2'
 .rename_i ks vs k hk;split at q2'
  .rename_i x hx;obtain⟨a,kvs,e1,e2,e3,e4,e5⟩:=Rep.FS.mp r'';obtain⟨b,f1,f2⟩:=ir hk r2';have g:=mw (k:=k) e4 e5;rw[hx]at g;obtain⟨w,g1,g2⟩:=g;exact⟨a,w,e1,by rw[f1,<-g1];exact DGet.NM e3 f2,q2' H2 (Same.refl H2) w g2⟩
  .exact q2'.elim
 .exact q2'.elim
open PySem.SeqAt
variable{x:T}
def Dc(rx:ReV s x ux)(hu:A.units+60<cLine){l:List T}(hd:x.dep<=60\/deps l<=60)(r:ReVs s l us):
  ∃e:N8->Bool,(∀y∈us,EqAt A s y ux (e y))/\us.map e=l.map λt=>aU t x:=by
 classical
 have ex:∀y∈us,∃t∈l,ReV s t y:=λy hy=>by
  obtain⟨i,hi,rfl⟩:=Rn hy;have hl:=r.length;have e1:l[i]?=ZA l[i]:=by simp
  obtain⟨u,q1,q2⟩:=r.get e1;have:us[i]?=ZA us[i]:=by simp
  rw[this]at q1;cases q1;exact⟨l[i],PN _,q2⟩
 let e:N8->Bool:=λy=>decide (∃t∈l,ReV s t y/\aU t x=ZC)
 have dep:∀t∈l,t.dep<=60\/x.dep<=60:=λt ht=>by
  rcases hd with h|h
  .exact .inr h
  .obtain⟨i,hi,rfl⟩:=Rn ht;exact .inl (OG (i9 (i:=i) (by simp)) h)
 have uniq:∀y t t',ReV s t y->ReV s t' y->aU t x=aU t' x:=λy t t' z z'=>by rw[<-mB t,<-mB t',ReV.nf z z']
 have agree:∀y t,t∈l->ReV s t y->e y=aU t x:=λy t h z=>by
  show decide (∃t∈l,ReV s t y/\aU t x=ZC)=aU t x;cases q:aU t x with
  |true=>exact decide_eq_true ⟨t,h,z,q⟩
  |false=>
   refine decide_eq_false ?_;rintro ⟨t',h',z',q'⟩;rw[<-uniq y t t' z z',q]at q';cases q'
 refine⟨e,λy hy=>?_,?_⟩
 .obtain⟨t,h,z⟩:=ex y hy;rw[agree y t h z];exact(Ea 60 A s t x y ux (dep t h) hu z rx).1
 .have go:∀(l':List T)(us':List N8),(∀t∈l',t∈l)->ReVs s l' us'->us'.map e=l'.map λy=>aU y x:=by
   intro l';induction l' with
   |nil=>intro us' _ r';rw[ReVs.Da.mp r'];rfl
   |cons t l' ih=>
    intro us' sub r';obtain⟨u,ws,rfl,p,q⟩:=ReVs.me.mp r';rw[Oa,Oa,ih ws (λt ht=>sub t (N6 _ ht)) q,agree u t (sub t Ob) p]
  exact go l us (λ_ h=>h) r
theorem qH:∀{l:List T}{n k:Nat},kM x l n=ZA k->n<=k/\(l.map λt=>aU t x)[k - n]?=ZA ZC/\∀m,m<k - n->(l.map λt=>aU t x)[m]?=ZA ZD
 |[],n,k,h=>by cases h
 |t::l,n,k,h=>by
  unfold kM at h;cases q:aU t x with
  |true=>
   rw[q,if_pos rfl]at h;cases h;refine⟨Oq _,?_,λm hm=>by omega⟩;rw[SH,Oa,q];rfl
  |false=>
   rw[q,if_neg (by decide)]at h;obtain⟨h1,h2,h3⟩:=qH h;have e:k - n=(k - (n+1))+1:=by omega
   refine⟨by omega,?_,λm hm=>?_⟩
   .rw[e,Oa,Ro];exact h2
   .cases m with
    |zero=>rw[Oa,q];rfl
    |succ m=>rw[Oa,Ro];exact h3 m (by omega)
section
variable {apos cpos:Pos}
theorem Cu(hu:X.A.units+61<cLine)(ha:df X a fa)(hb:df X b fb)(hn:bZ b=ZC:=by rfl)
  (hbase:Qx a "index" X.env (eval a X.env)=eval a X.env:=by rfl) (hline:(apos.endLine == cpos.line)=ZC:=by rfl):df X (.Call (.Attribute a "index" apos) [b] [] cpos) (oL ip fa fb):=by
 have hs:Ov [b] X.env=(ZD,eval b X.env)::Ov [] X.env:=bp hn;intro kw s σ H Q I ⟨Z,O,E,hq⟩;refine Uv hbase (by rw[hs];rfl) hline rfl (cM (ha kw s σ H _ I (br E hq)) λv s1 hh_=>?_);obtain⟨x,H1,I1,r1,t,rt,s',E',q1⟩:=hh_;cases t with
 |lst l=>
  obtain⟨c,vs,e1,e2,e3,e4⟩:=Rep.Do.mp rt;subst e1;obtain rfl:v=Oz c:=r1;obtain⟨h1,h2⟩:=BU I1 (show RelV (.ref c) (.ref c)from rfl) (.inl ⟨rfl,vs,SqL.of e3⟩);refine⟨_,_,QK,T5,T6,h1,h2,?_⟩;rw[hs];refine Sq rfl (RS (Rx (cM (hb kw s1 σ H1 _ I1 (br (f:=fb) E' q1)) λu s2 ⟨y,H2,I2,r2,t2,rt2,s'',E'',q2⟩=>Re ?_)));unfold ip at q2;split at q2
  .rename_i l' heq;cases heq;split at q2
   .rename_i hd3;obtain⟨hd,hnx,hny⟩:=hd3;split at q2
    .rename_i k hk;have rv:=Rep.val I2 (show(T.lst l).nd=ZC by unfold T.nd;exact hny) (rt.same s'') (show RelV (.ref c) (.ref c)from rfl);unfold ReV at rv;obtain⟨c',us,ec,hl,rs⟩:=rv;cases ec;obtain⟨⟨cls,dd,data,sl⟩,ho,hc,n,hdd⟩:=id hl;simp only at hc hdd;subst hc hdd;obtain⟨e,he,ha⟩:=Dc (A:=X.A.in1) (Rep.val I2 hnx rt2 r2) (by show X.A.units+1+60<cLine;omega) hd rs;obtain⟨_,k1,k2⟩:=qH hk;rw[SI]at k1 k2;rw[<-ha]at k1 k2;have hkl:k<us.length:=by have:=(Og.mp k1).1;rwa [N9]at this
     have hz:us.length<=ZI:=by have z:=(I2.KM (s'' _ _ e3)).1;have h3:=rs.length;have h4:=e4.length;omega
     refine Sb V6 ⟨_,ho,rfl⟩ Vz (Vi _ _) (list_indexAt c us.toArray n dd sl u e k (by simpa using hkl) (by rw[PD]at hz;omega) ?_ ?_) ⟨ho,λy hy=>he y (by simpa using hy),?_⟩
     .have:=(Og.mp k1).2;rw[Rr]at this;simpa using this
     .intro m hm hmk;have:=(Og.mp (k2 m hmk)).2;rw[Rr]at this;simpa using this
     .exact⟨.int _,H2,I2.tok _,⟨_,rfl⟩,q2 H2 (Same.refl H2) _ (Rep.GE _)⟩
    .exact q2.elim
   .exact q2.elim
  .rename_i hno;exact(hno l rfl).elim
 |_=>exact q1.elim
def Ja(hu:X.A.units+1<cLine)(ha:df X a fa)(hb:df X b fb)(hn:bZ b=ZC:=by rfl)
  (hbase:Qx a "get" X.env (eval a X.env)=eval a X.env:=by rfl) (hline:(apos.endLine == cpos.line)=ZC:=by rfl):df X (.Call (.Attribute a "get" apos) [b] [] cpos) (oD jE fa fb):=by
 have hs:Ov [b] X.env=(ZD,eval b X.env)::Ov [] X.env:=bp hn;refine PE.imp (CO hu ha hb ⟨hbase,by rw[hs];rfl,hline,by rw[hs];rfl⟩) λσ H Q ⟨Z,O,E,hq⟩=>?_;obtain⟨Z1,O1,E1,h1⟩:=br E hq;refine⟨Z1,O1,E1,Post.mono h1 λt H1 s1 q v r=>?_⟩;obtain⟨t',r',s',E',q'⟩:=q v r;cases t' with
 |dct ks vs=>
  obtain⟨c,kvs,e1,e2,e3,e4,e5⟩:=Rep.FS.mp r';refine⟨c,e1,.inr ⟨kvs,e3⟩,?_⟩;obtain⟨Z2,O2,E2,h2⟩:=br (f:=fb) E' q';refine⟨Z2,O2,E2,Post.mono h2 λt2 H2 s2 q2 v2 r2=>?_⟩;obtain⟨t2',r2',s2',E2',q2'⟩:=q2 v2 r2;unfold jE at q2';split at q2'
  .rename_i ks' vs' k heq hk;cases heq;obtain⟨b,f1,f2⟩:=ir hk r2';have g:=mw (k:=k) e4 (e5.same s2');refine⟨iV kvs k,by rw[f1];exact DGet.NM (Rd.NF (P:=zF) (SameO.of s2') (λz=>z) e3) f2,?_⟩;cases hx:lG ks vs k with
   |some z=>
    rw[hx]at g q2';obtain⟨w,g1,g2⟩:=g;rw[g1];exact q2' H2 (Same.refl H2) w g2
   |none=>
    rw[hx]at g q2';rw[g];exact q2' H2 (Same.refl H2) .non Rep.NB
  .exact q2'.elim
 |_=>exact q'.elim
def CW(hu:X.A.units+1<cLine):OpT X (Pm .In) Bk:=by
 intro kw s σ H O x y vx vy ux uy Q I hf rx ry r1 r2 hp;unfold Bk at hp;split at hp
 .rename_i ks vs k hk;obtain⟨c,kvs,e1,e2,e3,e4,e5⟩:=Rep.FS.mp ry;obtain⟨b,f1,f2⟩:=ir hk rx;subst e1 f1;obtain rfl:uy=Oz c:=r2;have g:=mw (k:=k) e4 e5;have hsome:(lG ks vs k).isSome=(iV kvs k).isSome:=by
   cases hx:lG ks vs k with
   |some z=>rw[hx]at g;obtain⟨w,g1,_⟩:=g;rw[g1];rfl
   |none=>rw[hx]at g;rw[g];rfl
  refine d_in hu I (DGet.NM e3 f2) r1 λs' I'=>⟨.bl _,H,I',rfl,?_⟩;rw[<-hsome];exact hp H (Same.refl H) _ (Rep.bl_ _)
 .exact hp.elim
end
section
variable {c:ZG}{fc:Y2}{p2 p3 p4:Pos}{x:Str}
theorem IJ(i:Nat)(hu:X.A.units+1<cLine)(hb:df X b fb)(hc:df X c fc)(hN:X.N[i]?=ZA x:=by rfl)(hv:autoParam (u6 X.env.scope x) u_)
  (hd:autoParam ((x == ("__debug__" : Str))=ZD) s_) (hcd:autoParam ((x == ("__classdict__" : Str))=ZD) s_)
  (hs:P4 c (ZA (.Subscript (.Name x p2) b p3)) pos.line X.env=pure ZD:=by rfl):qU X (.Assign [.Subscript (.Name x p2) b p3] c pos) (AF i fb fc):=by
 intro kw s σ H D I ⟨Z,B,M,E,h⟩;refine zp hu (jd hN hv hd hcd) hb hc hs kw s σ H D I ?_;unfold AF at h;split at h
 .rename_i ks vs hl;obtain⟨v0,e1,d,kvs,rfl,hM,e3,e4,e5⟩:=E.env.own i _ hl;obtain⟨nd,nz⟩:=w9 I e3;refine⟨Z,OO B M,E.o,?_⟩;cases q:fc Z with
  |bad=>rw[q]at h;exact h.elim
  |err c=>rw[q]at h;exact PostF.xa h
  |ok vT=>
   rw[q,aG]at h;intro H1 s1 v r;refine⟨.ref d,e1,Z,OO B M,(E.same s1).o,?_⟩;have h1:=h.later (SameO.of s1) (P1:=M.u) λa z=>.inl z;cases q2:fb Z with
   |bad=>rw[q2]at h1;exact h1.elim
   |err c=>rw[q2]at h1;exact PostF.xa h1
   |ok kT=>
    rw[q2,aG]at h1;intro H2 s2 y ry;cases q3:keyOf kT with
    |none=>rw[q3]at h1;exact h1.elim
    |some k=>
     rw[q3]at h1;have h2:=h1.later (SameO.of s2) (P1:=M.u) λa z=>.inl z;have hlen:ks.length=kvs.length:=by have:=congrArg Py e4;simpa using this
     by_cases hz:ks.length<1000
     .simp only[if_pos hz]at h2;obtain⟨kb,f1,f2⟩:=ir q3 ry;have e3':=s2 _ _ (s1 _ _ e3);obtain⟨g1,g2⟩:=mr q3 (r.same s2) e4 ((e5.same s1).same s2) nd;refine⟨d,upd H2 d (.dT (dR kvs k v)),rfl,by rw[f1];exact DPut.t e3' f2 (by rw[PD];omega),?_⟩;have sm:SameO (M i) H2 (upd H2 d (.dT (dR kvs k v))):=λc u e nb=>by rw[aF (λz=>nb ((hM c).mpr z))];exact e
      obtain⟨g3,g4⟩:=((E.same s1).same s2).put (o':=.dct (hZ kT vT ks vs).1 (hZ kT vT ks vs).2) hl e1 sm ⟨d,_,rfl,hM,aH,g1,g2.move (P:=M i) (λa z=>.inl (.inr ⟨i,z⟩)) (λa z=>.inl z) sm⟩;exact h2 σ _ M g4 g3 λc z=>.inl z
     .simp only[if_neg hz]at h2;exact h2.elim
 .exact h.elim
theorem vi:∀{kvs:List (List Key×V)}{as:List ZE}{v:V},kvs.map (·.2)=as.map V.ref->iV kvs k=ZA v->∃b∈as,v=.ref b
 |[],as,v,_,h=>by cases h
 |p::kvs,as,v,e,h=>by
  cases as with
  |nil=>cases e
  |cons b0 bs=>
   rw[Oa,Oa]at e;injection e with e1 e2;by_cases hk:p.1=k
   .rw[gO hk]at h;cases h;exact⟨b0,Ob,e1⟩
   .rw[gP hk]at h;obtain⟨b,hb,e⟩:=vi e2 h;exact⟨b,N6 _ hb,e⟩
theorem vP{r:List T×List T}:∀{ks:List T}{rows:List (List T×List T)}{kvs:List (List Key×V)}{as:List ZE},ks.map keyOf=kvs.map (λp=>ZA p.1)->kvs.map (·.2)=as.map V.ref->RowsR K O H rows as->rk ks rows k=ZA r ->
  ∃b kv,iV kvs k=ZA (.ref b)/\b∈as/\H b=ZA (.dT kv)/\r.1.map keyOf=kv.map (λp=>ZA p.1)/\Reps K O H r.2 (kv.map (·.2))
 |[],rows,kvs,as,h1,h2,h3,h=>by unfold rk at h;cases h
 |k'::ks,rows,kvs,as,h1,h2,h3,h=>by
  cases rows with
  |nil=>unfold rk at h;cases h
  |cons r0 rows=>
   cases kvs with
   |nil=>cases h1
   |cons p kvs=>
    rw[Oa,Oa]at h1;injection h1 with h1 h1';obtain⟨b0,bs,kv0,rfl,e2,e3,e4,e5⟩:=h3;rw[Oa,Oa]at h2;injection h2 with h2 h2';unfold rk at h;by_cases hk:keyOf k'=ZA k
    .rw[if_pos hk]at h;cases h;rw[h1]at hk;injection hk with hk;exact⟨b0,kv0,by rw[gO hk,h2],Ob,e2,e3,e4⟩
    .rw[if_neg hk]at h;have hk2:¬ p.1=k:=λz=>hk (by rw[h1,z]);obtain⟨b,kv,g1,g2,g3⟩:=vP h1' h2' e5 h;exact⟨b,kv,by rw[gP hk2];exact g1,N6 _ g2,g3⟩
theorem vK{H':Hp}{xr:List T×List T}{b:ZE}{kv':List (List Key×V)}(hO:O b)(hS:SameO (λc=>c=b) H H')(hb:H' b=ZA (.dT kv'))(hx1:xr.1.map keyOf=kv'.map (λp=>ZA p.1))(hx2:Reps K O H' xr.2 (kv'.map (·.2))):
  ∀{ks:List T}{rows:List (List T×List T)}{kvs:List (List Key×V)}{as:List ZE},ks.map keyOf=kvs.map (λp=>ZA p.1)->kvs.map (·.2)=as.map V.ref->RowsR K O H rows as->as.Nodup->iV kvs k=ZA (.ref b)->RowsR K O H' (rj k xr ks rows) as
 |[],rows,kvs,as,h1,h2,h3,hn,h=>by
  cases kvs with
  |nil=>cases h
  |cons _ _=>cases h1
 |k'::ks,rows,kvs,as,h1,h2,h3,hn,h=>by
  have inO:∀a,a=b->O a\/Nw K H a:=λa z=>.inl (z▸hO);cases kvs with
  |nil=>cases h1
  |cons p kvs=>
   rw[Oa,Oa]at h1;injection h1 with h1 h1';cases rows with
   |nil=>unfold RowsR at h3;subst h3;cases h2
   |cons r0 rows=>
    obtain⟨b0,bs,kv0,rfl,e2,e3,e4,e5⟩:=h3;rw[Oa,Oa]at h2;injection h2 with h2 h2';obtain⟨n1,n2⟩:=OV.mp hn;unfold rj;by_cases hk:keyOf k'=ZA k
    .rw[if_pos hk];rw[h1]at hk;injection hk with hk;rw[gO hk,h2]at h;cases h;exact⟨b,bs,kv',rfl,hb,hx1,hx2,e5.move (P:=λc=>c=b) inO (λa z=>.inl z) hS λc hc z=>n1 (z▸hc)⟩
    .rw[if_neg hk];have hk2:¬ p.1=k:=λz=>hk (by rw[h1,z]);rw[gP hk2]at h;obtain⟨b',hb',e'⟩:=vi h2' h;cases e';have hne:b0≠b:=λz=>n1 (z▸hb');exact⟨b0,bs,kv0,rfl,hS _ _ e2 hne,e3,e4.move (P:=λc=>c=b) inO (λa z=>.inl z) hS,vK hO hS hb hx1 hx2 h1' h2' e5 n2 h⟩
theorem FC(i:Nat)(hu:X.A.units+1<cLine)(ha:df X a fa)(hb:df X b fb)(hc:df X c fc)(hsl:autoParam (BB a) w_)(hN:X.N[i]?=ZA x:=by rfl)(hv:autoParam (u6 X.env.scope x) u_)
  (hd:autoParam ((x == ("__debug__" : Str))=ZD) s_) (hcd:autoParam ((x == ("__classdict__" : Str))=ZD) s_)
  (hs:P4 c (ZA (.Subscript (.Subscript (.Name x p2) a p3) b p4)) pos.line X.env=pure ZD:=by rfl):qU X (.Assign [.Subscript (.Subscript (.Name x p2) a p3) b p4] c pos) (jA i fa fb fc):=by
 intro kw s σ H D I ⟨Z,B,M,E,h⟩;refine zp hu (zw hu (jd hN hv hd hcd) ha hsl) hb hc hs kw s σ H D I ?_;unfold jA at h;split at h
 .rename_i ks rows hl;obtain⟨v0,e1,d,kvs,as,rfl,hM,na,nas,e5,e6,e7,e8⟩:=E.env.own i _ hl;refine⟨Z,OO B M,E.o,?_⟩;cases q:fc Z with
  |bad=>rw[q]at h;exact h.elim
  |err c=>rw[q]at h;exact PostF.xa h
  |ok vT=>
   rw[q,aG]at h;intro H1 s1 v r;refine⟨.ref d,e1,Z,OO B M,(E.same s1).o,?_⟩;have h1:=h.later (SameO.of s1) (P1:=M.u) λa z=>.inl z;cases q2:fa Z with
   |bad=>rw[q2]at h1;exact h1.elim
   |err c=>rw[q2]at h1;exact PostF.xa h1
   |ok aT=>
    rw[q2,aG]at h1;intro H2 s2 y ry;have h2:=h1.later (SameO.of s2) (P1:=M.u) λa z=>.inl z;have E2:=(E.same s1).same s2;have s12:=s1.trans s2;split at h2
    .rename_i ka rr hk;obtain⟨ka',q3,hk⟩:=Option.bind_eq_some_iff.mp hk;obtain⟨r',q4,hk⟩:=Qo.mp hk;cases hk;obtain⟨rb,kv,g1,g2,g3,g4,g5⟩:=vP e6 e7 e8 q4;obtain⟨ndr,nzr⟩:=w9 I g3;obtain⟨ab,f1,f2⟩:=ir q3 ry;refine⟨d,.ref rb,rfl,by rw[f1,<-g1];exact DGet.t (s12 _ _ e5) f2,Z,OO B M,E2.o,?_⟩;cases q5:fb Z with
     |bad=>rw[q5]at h2;exact h2.elim
     |err c=>rw[q5]at h2;exact PostF.xa h2
     |ok bT=>
      rw[q5,aG]at h2;intro H3 s3 y2 ry2;have h3:=h2.later (SameO.of s3) (P1:=M.u) λa z=>.inl z;have s13:=s12.trans s3;have E3:=E2.same s3;have hlen:rr.1.length=kv.length:=by have:=congrArg Py g4;simpa using this
      by_cases hz:(keyOf bT).isSome=ZC/\rr.1.length<1000
      .rw[if_pos hz]at h3;obtain⟨kb,q6⟩:=R5.mp hz.1;obtain⟨bb,f3,f4⟩:=ir q6 ry2;obtain⟨u1,u2⟩:=mr q6 ((r.same s2).same s3) g4 (g5.same s13) ndr;refine⟨rb,upd H3 rb (.dT (dR kv kb v)),rfl,by rw[f3];exact DPut.t (s13 _ _ g3) f4 (by rw[PD];omega),?_⟩;have mrb:M i rb:=(hM rb).mpr (.inr g2);have hOb:OO B M rb:=.inr ⟨i,mrb⟩;have sm1:SameO (λc=>c=rb) H3 (upd H3 rb (.dT (dR kv kb v))):=λc u e nb=>by rw[aF nb];exact e
       have sm:SameO (M i) H3 (upd H3 rb (.dT (dR kv kb v))):=λc u e nb=>sm1 c u e λz=>nb (z▸mrb);have inO:∀a,a=rb->OO B M a\/Nw X.K H3 a:=λa z=>.inl (z▸hOb);have dne:d≠rb:=λz=>na (z▸g2);obtain⟨g6,g7⟩:=E3.put (o':=.dd ks (rj ka (hZ bT vT rr.1 rr.2) ks rows)) hl e1 sm ⟨d,kvs,as,rfl,hM,na,nas,sm1 _ _ (s13 _ _ e5) dne,e6,e7,vK hOb sm1 aH u1 (u2.move (P:=λc=>c=rb) inO (λa z=>.inl z) sm1) e6 e7 (e8.same s13) nas g1⟩;exact h3 σ _ M g7 g6 λc z=>.inl z
      .rw[if_neg hz]at h3;exact h3.elim
    .exact h2.elim
 .exact h.elim
end
end Tr
namespace PySem
open Sem (wp)
namespace F
def lk_list_keys:Sy (.type "list") "keys" =pure ZB:=by rw[Sm,Q7];kernel_rfl
def lk_list_getattr:Sy (.type "list") "__getattr__" =pure ZB:=by rw[Sm,Q7];kernel_rfl
end F
variable{tk:Tok}
section
variable {h:ZH}{g:Array VJ}{d:Drawn}{t:Nat}{a:ZE}{its:Array N8}
def n8{Q:Fin->Oc->Prop}(hx:h.get? a=ZA {cls:=.type "list",data:=.seq its n})(hh:A.handled=ZB)
  (hq:∀h' tk' e,W6 h h' e (.ref a) "keys"->E (.ref e) ⟨h',g,d,tk',os⟩):
  ZJ (ZK prog w) A (Builtin.«object.__getattribute__» ⟨[.ref a,.str "keys" tk],[]⟩) Q E ⟨h,g,d,t,os⟩:=by
 have hT:(⟨h,g,d,t,os⟩:Oc).TypeIs (.ref a) "list":=⟨_,hx,rfl⟩;have f4:=F.lk_list_keys;repeat (any_goals (first|assumption|wp_step))
 exact wpAny_raiseAttrError hh (λh' tk e hx=>hq h' tk e hx) (attrMsg_fits (by decide+kernel) (by rw[PD];decide))
def qu(hx:h.get? a=ZA {cls:=.type "list",data:=.seq its n})(hh:A.handled=ZB)
  (hq:∀h' tk' e,W6 h h' e (.ref a) "keys"->R (.error (.ref e)) ⟨h',g,d,tk',os⟩):
  ZL (ZK prog w) A (.call (.builtin "list.__getattribute__") ⟨[.ref a,.str "keys" tk],[]⟩) R ⟨h,g,d,t,os⟩:=
 S0 Rg.plain F.entry_list_ga (Rg.check _ _ _ _ _ _ _ _ (show(⟨h,g,d,t,os⟩:Oc).TypeIs (.ref a) "list" from⟨_,hx,rfl⟩) (F.args_list_getattribute_2 _ _) (n8 hx hh hq))
def qv{Q:Option N8->Oc->Prop}(hx:h.get? a=ZA {cls:=.type "list",data:=.seq its n})(hh:A.handled=ZB)
  (hq:∀h' tk',(∀b o,h.get? b=ZA o->h'.get? b=ZA o)->Q ZB ⟨h',g,d,tk',os⟩):ZJ (ZK prog w) A (getAttr? (.ref a) "keys") Q E ⟨h,g,d,t,os⟩:=by
 have hT:∀tk,(⟨h,g,d,tk,os⟩:Oc).TypeIs (.ref a) "list":=λ_=>⟨_,hx,rfl⟩;have f1:=sub_AttributeError;have f2:=Rg.lookup;have f3:=Rg.bind (.ref a);have f5:=F.lk_list_getattr;unfold getAttr? getAttrBy? getAttrBy;repeat (any_goals (first|assumption|exact hT _|wp_step))
 refine qu hx hh λh' tk' e hx'=>?_;obtain⟨t',u',he⟩:=hx'.there;repeat (any_goals (first|assumption|exact hT _|wp_step))
 exact hq _ _ hx'.keeps
end
end PySem
namespace PySem.F
def entry_dict_update_loop:entryFor table "dict.update.loop" =ZA Builtin.«dict.update.loop»:=entryFor_of_tree (by kernel_rfl)
def plain_dict_update_loop:plainId "dict.update.loop" =ZC:=by decide+kernel
end PySem.F
variable{Q:Option Nat->SM->Prop}
namespace Tr
open PySem PySem.Spec PyProof.Rows L2
noncomputable def fV(kvs:List (List Key×V)):List (List Key×V)->List (List Key×V)
 |[] =>kvs
 |p::ps=>fV (dR kvs p.1 p.2) ps
def PairsAt(H:Hp):List V->List (List Key×V)->Prop
 |[],ps=>ps=[]
 |x::xs,ps=>∃b kb p r,ps=p::r/\x=.ref b/\H b=ZA (.tup [.ref kb,p.2])/\H kb=ZA (.tup (p.1.map kV))/\PairsAt H xs r
variable{H:Hp}{d:ZE}{kvs:List (List Key×V)}
theorem PairsAt.upd{o:HO}(hd:H d=ZA (.dT kvs)):∀{xs:List V}{ps:List (List Key×V)},PairsAt H xs ps->PairsAt (L2.upd H d o) xs ps
 |[],_,h=>h
 |x::xs,_,⟨b,kb,p,r,e1,e2,e3,e4,e5⟩=>⟨b,kb,p,r,e1,e2,by rw[aF (l7 e3 hd (λz=>nomatch z))];exact e3,by rw[aF (l7 e4 hd (λz=>nomatch z))];exact e4,e5.upd hd⟩
def tq{a b:HO}:upd (upd H d a) d b=upd H d b:=by
 funext c
 by_cases h:c=d
 .rw[h,aH,aH]
 .rw[aF h,aF h,aF h]
variable{X:Cx}{kw:Uf}{xs:List V}{σ:L2.St}
section
variable {res:N8}{R:Xh->Oc->Prop}{l it:ZE}
theorem Bm(hh:A.handled=ZB)(hu:A.units+3<cLine):∀(k i:Nat)(s:Oc)(H:Hp)(kvs ps:List (List Key×V)),xs.length - i=k->i<=xs.length->H l=ZA (.lst xs)->H d=ZA (.dT kvs)->kvs.length+(xs.length - i)<=1000->Inv X kw σ H s->s.heap.IsListIter it l i->qV X kw H it->PairsAt H (xs.drop i) ps ->
  (∀s',Inv X kw σ (upd H d (.dT (fV kvs ps))) s'->R (.ok (.ret res)) s')->ZL (ZK X.prog X.w) A (.builtin "dict.update.loop" ⟨[.ref d,.ref it,rawInt i,res],[]⟩) R s:=by
 intro k;induction k with
 |zero=>
  intro i s H kvs ps hk hi hl hd hz I hit hf hp hR;refine QV F.entry_dict_update_loop ?_;rw[Qk F.plain_dict_update_loop _];obtain⟨z,its,n,r,hlen,e⟩:=I.KM hl;have hL:s.heap.IsList l its.toArray:=⟨_,e,rfl,n,rfl⟩;show ZJ _ A.in1 (pyNext (.ref it) >>= _) _ _ s;refine N5 (UM hh hit hL (by simp;omega) λh' hm=>?_);show ZJ _ _ (Builtin.Dict.addKeywords d [] >>= _) _ _ _;refine N5 (Oi (Oi ?_));have hnil:xs.drop i=[]:=QZ (by omega);rw[hnil]at hp;unfold PairsAt at hp;subst hp;have e2:upd H d (.dT (fV kvs []))=H:=by
   funext b
   by_cases hb:b=d
   .rw[hb,aH,hd];rfl
   .rw[aF hb]
  rw[e2]at hR;exact hR _ (I.Na (fp:=[it]) (t':=s.toks) (λb hb=>by rw[Ox.mp hb];exact hf) λb o hb eb=>hm b o (λz=>hb (by rw[z];exact Ox.mpr rfl)) eb)
 |succ k ih=>
  intro i s H kvs ps hk hi hl hd hz I hit hf hp hR;refine QV F.entry_dict_update_loop ?_;rw[Qk F.plain_dict_update_loop _];obtain⟨z,its,n,r,hlen,e⟩:=I.KM hl;have hL:s.heap.IsList l its.toArray:=⟨_,e,rfl,n,rfl⟩;have hlt:i<xs.length:=by omega
  have hlt':i<its.length:=by omega
  show ZJ _ A.in1 (pyNext (.ref it) >>= _) _ _ s;refine N5 (Ur hit hL (x:=its[i]) (by simp[hlt']) λh' hit' hm=>?_);have I1:Inv X kw σ H {s with heap:=h'}:=I.Na (fp:=[it]) (t':=s.toks) (λb hb=>by rw[Ox.mp hb];exact hf) λb o hb eb=>(hm.2 b (λz=>hb (by rw[z];exact Ox.mpr rfl))).trans eb;have hdrop:xs.drop i=xs[i] ::xs.drop (i+1):=Qv hlt;rw[hdrop]at hp;obtain⟨b,kb,p,r',rfl,ex,hb,hkb,hp'⟩:=hp;have rx:RelV xs[i] its[i]:=by obtain⟨u,q1,q2⟩:=r.get (Od hlt);rw[Od hlt']at q1;cases q1;exact q2
  rw[ex]at rx;have eu:its[i]=Oz b:=rx;rw[eu];obtain⟨z2,its2,r2,ob,hob1,hob2,nb,hob3⟩:=(show ObjOk X.prog X.w H h' b (.tup [.ref kb,p.2])from I1.hok b _ hb);obtain⟨u1,us1,q1,rfl⟩:∃u1 us1,RelV (V.ref kb) u1/\its2=u1::us1:=by cases r2 with|cons a b=>exact⟨_,_,a,rfl⟩
  cases r2 with
  |cons ra rb=>
   obtain⟨u2,q2,rfl⟩:∃u2,RelV p.2 u2/\us1=[u2]:=by cases rb with|cons a b=>cases b;exact⟨_,a,rfl⟩
   obtain rfl:u1=Oz kb:=q1;show ZJ _ A.in1 (holding [Oz b] _ >>= _) _ _ _;refine N5 (P5 ?_);refine N5 (SC ?_);unfold Builtin.Dict.pairItems;refine N5 (Sa (s:={s with heap:=h'}) (T:="tuple") ⟨ob,hob1,hob2⟩ ?_);rw[if_pos (by decide)];refine N5 (RW (s:={s with heap:=h'}) hob1 hob3 (Oi ?_));show ZJ _ _ (holding [Oz kb,u2] (dictSet d (.ref kb) u2)) _ _ _;refine P5 ?_;obtain⟨zz,hds,xs2,rel,dd⟩:=Eo I1.hok hd;have hzl:xs2.length<=ZI:=by rw[<-T8 rel];exact zz
   have hkl:kvs.length<ZI:=by rw[PD];omega
   have hl2:(dR kvs p.1 p.2).length<=ZI:=by have:=iq kvs p.1 p.2;omega
   refine wpAny_dictSet_heap (hsz:=hzl) (QF (by show A.units+1<cLine;omega)) (key_of I1.hok hkb) dd λh2 dd2 hs2=>?_;obtain⟨q,es,ep,hq,h22,h3,h4,_,h5⟩:=dd2;have I2:Inv X kw σ (upd H d (.dT (dR kvs p.1 p.2))) {s with heap:=h2,toks:=s.toks+(TX (dw X.prog X.w)).draws p.1}:=
    uS (s:={s with heap:=h'}) I1 (by rw[hd];exact RH) hs2 ⟨q,hq⟩ ⟨hl2,hds,_,(rel.put p.1 hkb q2).keeps λc ys ec=>by rw[aF (l7 ec hd (λz=>nomatch z))];exact ec,q,es,ep,hq,h22,h3,h4,h5⟩
   have hld:l≠d:=l7 hl hd (λz=>nomatch z);have hitd:it≠d:=λz=>by have:=hf.1;rw[z,hd]at this;cases this
   have hcast:(i:Int)+1=((i+1:Nat):Int):=by omega
   refine Oi ⟨Rq F.plain_dict_update_loop _,?_⟩;rw[hcast];refine ih (i+1) _ (upd H d (.dT (dR kvs p.1 p.2))) (dR kvs p.1 p.2) r' (by omega) (by omega) (by rw[aF hld];exact hl) aH (by have:=iq kvs p.1 p.2;omega) I2 ?_ ⟨by rw[aF hitd];exact hf.1,hf.2⟩ (hp'.upd hd) λs' I'=>?_
   .obtain⟨oi,ho1,ho2,ho3⟩:=hit';exact⟨oi,(hs2.2 it hitd).trans ho1,ho2,ho3⟩
   .rw[tq]at I';exact hR s' I'
end
theorem PairsAt.same{H':Hp}(s:Same H H'):∀{xs:List V}{ps:List (List Key×V)},PairsAt H xs ps->PairsAt H' xs ps
 |[],_,h=>h
 |x::xs,_,⟨b,kb,p,r,e1,e2,e3,e4,e5⟩=>⟨b,kb,p,r,e1,e2,s _ _ e3,s _ _ e4,e5.same s⟩
section
variable {l:ZE}{ps:List (List Key×V)}
theorem w8{Q:WP}(hh:A.handled=ZB)(hu:A.units+8<cLine)(I:Inv X kw σ H s)(hl:H l=ZA (.lst xs))(hz:xs.length<=1000)(hp:PairsAt H xs ps)
  (h:∀p s',Nw X.K H p->Inv X kw σ (upd H p (.dT (fV [] ps))) s'->Q (.ref p) s'):ZJ (ZK X.prog X.w) A (call (.type "dict") [.ref l]) Q E s:=by
 have hk:X.K.lookup s.heap.objs.size=ZB:=by
  cases q:X.K.lookup s.heap.objs.size with
  |none=>rfl
  |some o=>exact absurd (Os (I.kIn _ o q)) (O7 _)
 have hn:H s.heap.objs.size=ZB:=I.hok.fresh (Oq _);have hlp:l≠s.heap.objs.size:=λz=>by rw[z,hn]at hl;cases hl
 refine callType_codes (Q₁:=λobj s₁=>obj=.ref s.heap.objs.size/\s₁= {s with heap:=s.heap.push {cls:=.type "dict",data:=.dict #[]}}) F.kt_called_dict (F.kt_typeCall_dict_1 _) F.entry_dict_init (kt_code_dict_new _ ⟨rfl,rfl⟩) ?_;rintro obj s₁ ⟨rfl,rfl⟩;have I1:Inv X kw σ (upd H s.heap.objs.size (.dT [])) {s with heap:=s.heap.push {cls:=.type "dict",data:=.dict #[]}}:=I.laid (a:=s.heap.objs.size) (o:=.dT []) (t':=s.toks) (λ_ _ q=>Of _ q) (Oq _) (Ep s.heap I.big);have hT:({s with heap:=s.heap.push {cls:=.type "dict",data:=.dict #[]}}:Oc).TypeIs (.ref s.heap.objs.size) "dict":=⟨_,Oy _ rfl,rfl⟩;have hl1:upd H s.heap.objs.size (.dT []) l=ZA (.lst xs):=by rw[aF hlp];exact hl
 obtain⟨z,its,n,r,hlen,e⟩:=I1.KM hl1;refine⟨hT,F.args_dict_init_2 _ _,?_⟩;unfold Builtin.«dict.__init__»;refine N5 ?_;unfold Builtin.Dict.selfAndRest;refine N5 (UQ hT ?_);show ZJ _ _ (pure (s.heap.objs.size,[Oz l])) _ _ _;refine Oi ?_;show ZJ _ _ (T7 "dict.__init__" s.heap.objs.size (.ref l) [] .none) _ _ _;unfold T7;refine N5 (Sa (T:="list") ⟨_,e,rfl⟩ ?_);rw[if_pos (by decide)];refine N5 (qv e hh λh' tk' kp=>?_);have I2:Inv X kw σ (upd H s.heap.objs.size (.dT [])) {s with heap:=h',toks:=tk'}:=I1.kept (t':=tk') kp;rw[if_pos (by rfl)];refine N5 (SA ?_);have eL:({s with heap:=h',toks:=tk'}:Oc).heap.IsList l its.toArray:=⟨_,kp _ _ e,rfl,n,rfl⟩;refine N5 (Sx eL ?_);have I3:Inv X kw σ (upd H s.heap.objs.size (.dT [])) {s with heap:=h'.push {cls:=.type "list_iterator",data:=.fields #[.ref l,.int 0 0]},toks:=tk'}:=I2.kept (t':=tk') λb u q=>Of _ q;have hpl:s.heap.objs.size<h'.objs.size:=Os (kp _ _ (Oy _ rfl));have hni:upd H s.heap.objs.size (.dT []) h'.objs.size=ZB:=by rw[aF (QC hpl)];exact I.hok.fresh (P9 hpl)
 have hp1:PairsAt (upd H s.heap.objs.size (.dT [])) xs ps:=hp.same (aR hn _);refine Oi ⟨Rq F.plain_dict_update_loop _,?_⟩;refine Bm (A:=A.in1) (X:=X) (kw:=kw) (σ:=σ) (l:=l) (xs:=xs) (it:=h'.objs.size) hh (by show A.units+1+3<cLine;omega) xs.length 0 _ (upd H s.heap.objs.size (.dT [])) [] ps (by omega) (Pg _) hl1 aH (by simp;omega) I3 ⟨_,Oy _ rfl,rfl,rfl⟩ (I2.Ng (Oq _) hni) hp1 λs' I'=>?_;rw[tq]at I';exact⟨rfl,h _ _ ⟨hn,hk⟩ I'⟩
end
theorem hu8(h:Room k A):A.units+8<cLine:=by have:=h.un;omega
def yf{k:List Key}{v:V}(h:(kvs.map (·.1)).Nodup):((dR kvs k v).map (·.1)).Nodup:=by
 unfold dR;by_cases a:(kvs.any λkv=>decide (kv.1=k))=ZC
 .rw[if_pos a,OK];have:((λx=>x.1)∘λkv:List Key×V=>if kv.1=k then(kv.1,v)else kv)=λx=>x.1:=by
   funext x
   show(if x.1=k then(x.1,v)else x).1=x.1;by_cases e:x.1=k
   .rw[if_pos e]
   .rw[if_neg e]
  rw[this];exact h
 .rw[if_neg a,PC,PQ];refine⟨h,by simp,λx hx y hy=>?_⟩;simp only[Oa,Tw,Ox]at hy;subst hy;intro z;subst z;obtain⟨p,hp,e⟩:=On.mp hx;exact a (Rt.mpr ⟨p,hp,decide_eq_true e⟩)
def MU(K:N4)(O:Ow)(H:Hp):List (T×T)->List (List Key×V)->Prop
 |[],ps=>ps=[]
 |a::l,ps=>∃p r,ps=p::r/\keyOf a.1=ZA p.1/\Rep K O H a.2 p.2/\MU K O H l r
variable{O:Ow}
theorem sL:∀{l:List (T×T)}{ps:List (List Key×V)}{ks ts:List T}{kvs:List (List Key×V)},MU K O H l ps->ks.map keyOf=kvs.map (λp=>ZA p.1)->Reps K O H ts (kvs.map (·.2))->(kvs.map (·.1)).Nodup ->
  (kc l (ks,ts)).1.map keyOf=(fV kvs ps).map (λp=>ZA p.1)/\Reps K O H (kc l (ks,ts)).2 ((fV kvs ps).map (·.2))
 |[],ps,ks,ts,kvs,h,h1,h2,hn=>by unfold MU at h;subst h;exact⟨h1,h2⟩
 | (a,b)::l,ps,ks,ts,kvs,h,h1,h2,hn=>by obtain⟨p,r,rfl,e1,e2,e3⟩:=h;obtain⟨g1,g2⟩:=mr (vT:=b) e1 e2 h1 h2 hn;show(kc l (hZ a b ks ts)).1.map keyOf=(fV (dR kvs p.1 p.2) r).map (λp=>ZA p.1)/\Reps K O H (kc l (hZ a b ks ts)).2 ((fV (dR kvs p.1 p.2) r).map (·.2));exact sL (l:=l) e3 g1 g2 (yf hn)
theorem zq:∀{l:List T}{tps:List (T×T)}{xs:List V},KG l=ZA tps->Reps K O H l xs->∃ps,PairsAt H xs ps/\MU K O H tps ps
 |[],tps,xs,h,r=>by cases Reps.Da.mp r;cases h;exact⟨[],rfl,rfl⟩
 |t::l,tps,xs,h,r=>by
  obtain⟨v,ws,rfl,p,q⟩:=Reps.me.mp r;unfold KG at h;split at h
  .rename_i heq;cases heq
  .rename_i k v' l' heq;cases heq;split at h
   .rename_i kk rr hk hr;cases h;obtain⟨ps,g1,g2⟩:=zq hr q;obtain⟨b,vs,e1,e2,e3,e4⟩:=Rep.Fk.mp p;obtain⟨u1,us1,rfl,f1,f2⟩:=Reps.me.mp e4;obtain⟨u2,us2,rfl,f3,f4⟩:=Reps.me.mp f2;cases Reps.Da.mp f4;obtain⟨kb,f5,f6⟩:=ir hk f1;subst f5;exact⟨(kk,u2)::ps,⟨b,kb,(kk,u2),ps,rfl,e1,e3,f6,g1⟩,⟨(kk,u2),ps,rfl,hk,f3,g2⟩⟩
   .cases h
  .cases h
section
variable {e:ZG}{f:Y2}{x y:Str}{p pos p2 p3:Pos}
def Ij(X:Cx)(f:Y2):TE:=λσ H Q=>tP X f σ H λv H'=>∃a xs ps,v=.ref a/\H' a=ZA (.lst xs)/\xs.length<=1000/\PairsAt H' xs ps/\∀q,Nw X.K H' q->Q (.ref q) (upd H' q (.dT (fV [] ps)))
def CN(hu:X.A.units+8<cLine)(hc:X.calm=ZC)(hm:X.mg "dict" =ZB)(ha:df X e f)(hg:Gl X "dict")(hs:bZ e=ZC):PE X (.Call (.Name "dict" p) [e] [] pos) (Ij X f):=by
 have h1:Ov [e] X.env=(ZD,eval e X.env)::Ov [] X.env:=bp hs;intro kw s σ H Q I hq;refine Pa (fw I hg hm (show O9 "dict" =ZA (.type "dict")by decide+kernel) ?_ (by decide) (by decide));refine O8 (cM (bB (te:=tP X f) ha dS h1 pos kw s σ H (λxs H'=>∃v,xs=[v]/\∃a xs ps,v=.ref a/\H' a=ZA (.lst xs)/\xs.length<=1000/\PairsAt H' xs ps/\∀q,Nw X.K H' q->Q (.ref q) (upd H' q (.dT (fV [] ps)))) I ?_) λus s1 hh=>?_) h1 rfl
 .obtain⟨Z,O,E,h⟩:=hq;exact⟨Z,O,E,Post.mono h λt H' _ g v r=>⟨v,rfl,g v r⟩⟩
 .obtain⟨vs,H1,I1,r1,v,rfl,a,xs,ps,ev,e1,e2,e3,e4⟩:=hh;subst ev;obtain⟨u,rfl,ru⟩:=r1.one;obtain rfl:u=Oz a:=ru;exact w8 (I1.ok.hd hc) hu I1 e1 e2 e3 λq s' nw I'=>⟨.ref q,_,I',rfl,e4 q nw⟩
def FE(i:Nat)(hu:X.A.units+8<cLine)(hc:X.calm=ZC)(hm:X.mg "dict" =ZB)(hN:X.N.Nodup)(ha:df X e f)(hst:bZ e=ZC:=by rfl)(hg:Gl X "dict":=by rfl)(hi:X.N[i]?=ZA x:=by rfl)(hx:autoParam (Loc X.env.scope x) x_)(hs:P4 (.Call (.Name "dict" p) [e] [] p2) (ZA (.Name x p3)) pos.line X.env=pure ZD:=by rfl)
  (hf:autoParam (X.fn x=ZC\/X.env.scope.names.lookup x=ZA .local) r_):qU X (.Assign [.Name x p3] (.Call (.Name "dict" p) [e] [] p2) pos) (rS i f):=PS.imp (pH hN hi hx (CN hu hc hm ha hg hst) hs hf) λD σ H hh_=>by
 obtain⟨Z,B,M,E,h⟩:=hh_;refine⟨Z,OO B M,E.o,?_⟩;unfold rS at h;cases q:f Z with
 |bad=>rw[q]at h;exact h.elim
 |err c=>rw[q]at h;exact PostF.xa h
 |ok t=>
  rw[q,aG]at h;intro H1 s1 v r;have h1:=h.later (SameO.of s1) (P1:=M.u) λa z=>.inl z;cases t with
  |lst l=>
   obtain⟨a,xs,rfl,e2,e3,e4⟩:=Rep.Do.mp r;unfold Aj at h1;split at h1
   .rename_i l' heq;cases heq;split at h1
    .rename_i tps hps;by_cases hz:l.length<=1000
     .rw[if_pos hz,aG]at h1;obtain⟨ps,g1,g2⟩:=zq hps e4;refine⟨a,xs,ps,rfl,e3,by rw[<-e4.length];exact hz,g1,λnd nw=>?_⟩;by_cases hl:i<Z.length
      .simp only[if_pos hl]at h1;have hm:∀a,a=nd->Nw X.K H1 a:=λa z=>z▸nw;obtain⟨k1,k2⟩:=sL (ks:=[]) (ts:=[]) (kvs:=[]) g2 rfl Reps.GM Ra;obtain⟨E2,sub⟩:=(E.same s1).new (m:=λa=>a=nd) (o:=.dct (kc tps ([],[])).1 (kc tps ([],[])).2) (v:=.ref nd) (H':=upd H1 nd (.dT (fV [] ps))) hl hm (aR nw.1 _) ⟨nd,_,rfl,λb=>S8,aH,k1,(k2.more (Ev.subO hm)).same (aR nw.1 _)⟩;exact h1 _ _ _ (SameO.of (aR nw.1 _)) E2 sub
      .simp only[if_neg hl]at h1;exact h1.elim
     .rw[if_neg hz]at h1;exact h1.elim
    .exact h1.elim
   .rename_i hno;exact(hno l rfl).elim
  |_=>exact h1.elim
end
theorem qe:∀{l:List T}{ns:List Int}{xs:List V}{us:List N8},gq l=ZA ns->Reps K O H l xs->Vals xs us->Qn us ns
 |[],ns,xs,us,h,r,v=>by cases Reps.Da.mp r;cases v;cases h;exact .nil
 |t::l,ns,xs,us,h,r,v=>by
  obtain⟨w,ws,rfl,p,q⟩:=Reps.me.mp r;cases v with
  |cons v1 v2=>
   cases t with
   |int i=>
    unfold gq at h;obtain⟨m,h1,rfl⟩:=Qo.mp h;cases Rep.AC.mp p;obtain⟨k,rfl⟩:=v1;exact .cons _ _ (qe h1 q v2)
   |_=>cases h
theorem se:∀(l:List Int)(i:Int),mZ i l∈i::l/\∀a∈i::l,a<=mZ i l
 |[],i=>⟨Ob,λa h=>by cases Ox.mp h;exact P8 _⟩
 |j::l,i=>by
  obtain⟨h1,h2⟩:=se l (if i<j then j else i);unfold mZ;have h3:=h2 _ Ob;refine⟨?_,λa ha=>?_⟩
  .rcases Oe.mp h1 with e|e
   .rw[e];by_cases h:i<j
    .rw[if_pos h];simp
    .rw[if_neg h];simp
   .exact N6 _ (N6 _ e)
  .rcases Oe.mp ha with rfl|ha
   .by_cases h:a<j
    .rw[if_pos h]at h3 ⊢;omega
    .rw[if_neg h]at h3 ⊢;omega
   .rcases Oe.mp ha with rfl|ha
    .by_cases h:i<a
     .rw[if_pos h]at h3 ⊢;omega
     .rw[if_neg h]at h3 ⊢;omega
    .exact h2 a (N6 _ ha)
theorem Kp(hc:X.calm=ZC):CallT X (.builtin "max") Dd:=by
 intro kw s σ H O ts vs us Q I hf rs rv hp;unfold Dd at hp;split at hp
 .rename_i l;obtain⟨v,rfl,r⟩:=rs.one;split at hp
  .rename_i i ns hk;obtain⟨a,ws,rfl,n,q,z⟩:=Rep.Do.mp r;obtain⟨u,rfl,ru⟩:=lK rv;cases ru;obtain⟨its,r',pl,hz⟩:=I.list (SqL.of q);have hi:=qe hk z r';obtain⟨xs,e⟩:=hi.allInts.items;have hns:i::ns=xs.toList.map (·.1):=by rw[<-hi.numsOf,<-nums_intItems,<-e]
   have hl:s.heap.IsList a (intItems xs):=by rw[<-e];exact pl.isList
   have hsz:0<xs.size:=by have h3:=congrArg Py hns;rw[Oh,N9]at h3;rw[<-PL];omega
   refine max_intList (I.ok.hd hc) hl hsz λv h' tk hv hk'=>?_;obtain⟨t,rfl⟩:=intItems_at hv;obtain⟨h1,h2⟩:=argBest_gt (numAt xs) (xs.size - 1);refine⟨.int _,H,I.kept (t':=tk) hk',⟨_,rfl⟩,?_⟩;have eM:numAt xs (argBest (λi j=>decide (numAt xs i > numAt xs j)) (xs.size - 1))=mZ i ns:=by
    obtain⟨g1,g2⟩:=se ns i;have m1:numAt xs (argBest (λi j=>decide (numAt xs i > numAt xs j)) (xs.size - 1))∈i::ns:=by rw[hns,numAt_eq];exact PySem.getD_mem (by rw[N9,PL];omega)
    have k1:=g2 _ m1;rw[hns]at g1;obtain⟨j,hj,ej⟩:=mem_getD g1;rw[N9,PL]at hj;rw[<-numAt_eq]at ej;have k2:=h2 j (by omega);rw[ej]at k2;exact Int.le_antisymm k1 k2
   rw[eM];exact hp H (Same.refl H) _ (Rep.GE _)
  .exact hp.elim
 .rename_i i j;obtain⟨v,ws,rfl,p,q⟩:=Reps.me.mp rs;obtain⟨v2,rfl,p2⟩:=q.one;cases Rep.AC.mp p;cases Rep.AC.mp p2;refine Bu hc kw s σ H _ us Q I rv ⟨i,j,rfl,?_⟩;exact hp H (Same.refl H) _ (Rep.GE _)
 .exact hp.elim
noncomputable def gQ:List T->Option (List (List Int))
 |[] =>ZA []
 |.tup l::r=>match gq l,gQ r with
  |some ns,ZA k=>if ns=[]then ZB else ZA (ns::k)
  |_,_=>ZB
 |_=>ZB
def nP(a b:List Int):Bool:=!cQ b a
theorem i5:∀l,cQ l l=ZD
 |[] =>rfl
 |a::l=>by unfold cQ;rw[if_pos rfl];exact i5 l
theorem md:∀a b c,cQ a b=ZC->cQ b c=ZC->cQ a c=ZC
 |[],[],_,h,_=>absurd h (by simp[cQ])
 |_::_,[],_,h,_=>absurd h (by simp[cQ])
 |[],_::_,[],_,h=>absurd h (by simp[cQ])
 |[],_::_,_::_,_,_=>rfl
 |_::_,_::_,[],_,h=>absurd h (by simp[cQ])
 |x::a,y::b,z::c,h,g=>by
  unfold cQ at h g ⊢;by_cases e:x=y
  .subst e;rw[if_pos rfl]at h;by_cases e2:x=z
   .rw[if_pos e2]at g ⊢;exact md a b c h g
   .rw[if_neg e2]at g ⊢;exact g
  .rw[if_neg e]at h;by_cases e2:y=z
   .subst e2;rw[if_neg e];exact h
   .rw[if_neg e2]at g;have h1:=of_decide_eq_true h;have h2:=of_decide_eq_true g;rw[if_neg (by omega)];exact decide_eq_true (by omega)
theorem jT:∀a b,cQ a b=ZD->cQ b a=ZD->a=b
 |[],[],_,_=>rfl
 |[],_::_,h,_=>absurd h (by simp[cQ])
 |_::_,[],_,h=>absurd h (by simp[cQ])
 |x::a,y::b,h,g=>by
  unfold cQ at h g;by_cases e:x=y
  .subst e;rw[if_pos rfl]at h g;rw[jT a b h g]
  .rw[if_neg e]at h;rw[if_neg (λz=>e z.symm)]at g;have h1:=of_decide_eq_false h;have h2:=of_decide_eq_false g;omega
def qr(a b c:List Int)(h:cQ a c=ZC):cQ a b=ZC\/cQ b c=ZC:=by
 cases h1:cQ a b with
 |true=>exact .inl rfl
 |false=>
  cases h2:cQ b a with
  |true=>exact .inr (md _ _ _ h2 h)
  |false=>rw[<-jT _ _ h1 h2];exact .inr h
def JO(a b c:List Int)(h:nP a b=ZC)(g:nP b c=ZC):nP a c=ZC:=by
 unfold nP at*;cases z:cQ c a with
 |false=>rfl
 |true=>
  rcases qr c b a z with y|y
  .rw[y]at g;cases g
  .rw[y]at h;cases h
def Gi(a b:List Int):(nP a b||nP b a)=ZC:=by
 unfold nP;cases z:cQ b a with
 |false=>rfl
 |true=>
  cases y:cQ a b with
  |false=>rfl
  |true=>have:=md _ _ _ z y;rw[i5]at this;cases this
def Dl(a b:List Int)(h:nP a b=ZC)(g:nP b a=ZC):a=b:=by
 unfold nP at h g;refine jT a b ?_ ?_
 .cases z:cQ a b with
  |false=>rfl
  |true=>rw[z]at g;cases g
 .cases z:cQ b a with
  |false=>rfl
  |true=>rw[z]at h;cases h
def iW{k m:List (List Int)}(p:m.Perm k)(s:m.Pairwise (λa b=>nP a b=ZC)):m=k.mergeSort nP:=
 List.Perm.eq_of_pairwise (le:=λa b=>nP a b=ZC) (λa b _ _ h g=>Dl a b h g) s (List.pairwise_mergeSort JO Gi k) (p.trans (List.mergeSort_perm k nP).symm)
theorem zN:∀(l m:List Int),HT.lexLt l m=cQ l m
 |[],[] =>rfl
 |[],_::_=>rfl
 |_::_,[] =>rfl
 |a::l,b::m=>by rw[HT.lexLt_cons,zN l m];rfl
structure SrtB (k0:U0)(o:Array Xr)(st:SM):Prop where
 p:(arrOf st).Perm o
 k:kindOf st=k0
 f:S4 st=ZB
 e:RX st= #[]
def SrtB.len{o:Array Xr}(b:SrtB k0 o st):(arrOf st).size=o.size:=b.p.size_eq
variable{xs:Array Xr}
def SrtB.arr{o:Array Xr}(b:SrtB k0 o st)(h:xs.Perm (arrOf st)):SrtB k0 o (setArr st xs):=⟨h.trans b.p,b.k,b.f,b.e⟩
def xp(κ:KeyKind)(k0:U0)(prog:OF)(w:Pv)(A:OU)(s:Oc):Prop:=
 ∀(E:WP)(x y:N8)(a b:κ.α)(Q:Bool->Oc->Prop),κ.keyOf x=ZA a->κ.keyOf y=ZA b->Q (κ.blt a b) s->ZJ (ZK prog w) A (keyLt' k0 x y) Q E s
abbrev gk(κ:KeyKind)(st:SM)(i:Nat):κ.α:=KK κ (arrOf st) i
variable{κ:KeyKind}
theorem EX(h:Qp κ xs n)(hl:κ.kle (KK κ xs (n - 1)) (KK κ xs n)):Qp κ xs (n+1):=λi j le lt=>by
 rcases Rj j n with z|z
 .exact h i j le z
 .obtain rfl:j=n:=by omega
  rcases Rj i j with y|y
  .exact SR (h i (j - 1) (by omega) (by omega)) hl
  .rw[show i=j by omega];exact RE _
def oP(h:Vq κ xs n)(hl:κ.kle (KK κ xs n) (KK κ xs (n - 1))):Vq κ xs (n+1):=λi j le lt=>by
 rcases Rj j n with z|z
 .exact h i j le z
 .obtain rfl:j=n:=by omega
  rcases Rj i j with y|y
  .exact SR hl (h i (j - 1) (by omega) (by omega))
  .rw[show i=j by omega];exact RE _
theorem BP(h:n<=1):Qp κ xs n:=λi j le lt=>by rw[show i=j by omega];exact RE _
def Kl(h:n<=1):Vq κ xs n:=λi j le lt=>by rw[show i=j by omega];exact RE _
section
variable {o:Array Xr}
def Hl(b:SrtB k0 o st)(ks:KeysOf κ o)(hi:i<o.size):∃z,(arrOf st)[i]?=ZA z/\κ.keyOf z.1=ZA (gk κ st i):=by have h1:i<(arrOf st).size:=b.len▸hi;obtain⟨a,ha⟩:=ks _ ((Tj.mp b.p).mem_iff.mp (Array.getElem_mem_toList h1));have e:=getElem?_pos (arrOf st) i h1;refine⟨_,e,?_⟩;show _=ZA (KK κ (arrOf st) i);unfold KK;rw[e,ha];simp[ha]
def vF(c:xp κ k0 prog w A s)(ks:KeysOf κ o)(b:SrtB k0 o st){Q:Option Bool->SM->Prop}(hi:i<o.size)(hj:j<o.size)(q:Q (ZA (κ.blt (gk κ st i) (gk κ st j))) st):
  wpS (ZK prog w) A E s (ltAt' i j) Q st:=by
 obtain⟨⟨x,x2⟩,e1,k1⟩:=Hl b ks hi;obtain⟨⟨y,y2⟩,e2,k2⟩:=Hl b ks hj;rw[ltAt'_eq];refine PF (Xl ?_);dsimp only;rw[elem'_eq,elem'_eq,e1,e2];refine PF (Qy (PF (Qy ?_)));rw[lt'_eq];refine PF (Xl ?_);rw[b.k];exact PF (wpS_lift (VW (c _ x y _ _ _ k1 k2 ⟨rfl,Qy q⟩)))
def Hk{Q:AscSt->SM->Prop}(c:xp κ k0 prog w A s)(ks:KeysOf κ o)(b:SrtB k0 o st)(hm:m<=o.size)(h1:1<=a)(h2:a<=m)(so:Qp κ (arrOf st) a)
  (q:∀n,a<=n->n<=m->Qp κ (arrOf st) n->(n≠m->κ.klt (gk κ st n) (gk κ st (n - 1)))->Q (ZB,n) st):wpS (ZK prog w) A E s (ascLoop a m) Q st:=by
 unfold ascLoop;refine SQ (I:=λn r st'=>r=(ZB,n)/\st'=st/\Qp κ (arrOf st) n) (λn r st' l1 l2 hI=>?_) (λr st' hI=>?_) ⟨rfl,rfl,so⟩
 .obtain⟨rfl,rfl,sn⟩:=hI;refine PF (vF c ks b (Oo l2 hm) (Ry (V8 _ _) (Oo l2 hm)) ?_);cases z:κ.blt (gk κ st' n) (gk κ st' (n - 1))with
  |true=>exact Qy (q n l1 (P9 l2) sn λ_=>z)
  |false=>exact Qy ⟨rfl,rfl,EX sn z⟩
 .obtain⟨rfl,rfl,sn⟩:=hI;have e:max a m=m:=SS h2;rw[e]at sn ⊢;exact q m h2 (Oq _) sn λh=>absurd rfl h
def tN{Q:Unit->SM->Prop}(b:SrtB k0 o st)(q:∀st',SrtB k0 o st'->arrOf st'=mirror (arrOf st) i j ((j - i) / 2)->Q () st'):wpS (ZK prog w) A E s (reverseSlice' i j) Q st:=by rw[reverseSlice'_eq];exact Wm (q _ (b.arr (mirror_perm _ _ _ _)) rfl)
abbrev EH(κ:KeyKind)(k0:U0)(o:Array Xr)(m:Nat)(Q:Option Nat->SM->Prop):Prop:=∀n st',SrtB k0 o st'->1<=n->n<=m->Qp κ (arrOf st') n->Q (ZA n) st'
theorem zf(c:xp κ k0 prog w A s)(ks:KeysOf κ o)(b:SrtB k0 o st)(hm:m<=o.size)(h1:1<=n)(h2:n<=m)(dn:Vq κ (arrOf st) n)(q:EH κ k0 o m Q):
  wpS (ZK prog w) A E s (tail3 n m) Q st:=by
 unfold tail3;refine PF (tN b λst' b' e=>PF (Hk c ks b' hm h1 h2 (λi j le lt=>?_) λk l1 l2 so _=>Qy (q k st' b' (by omega) l2 so)));have hz:n<=(arrOf st).size:=by rw[b.len];omega
 rw[e,KK_mirror hz,KK_mirror hz,if_pos ⟨Pg _,by omega⟩,if_pos ⟨Pg _,by omega⟩];exact dn _ _ (by omega) (by omega)
def uc(g1:k - 1<=i)(g2:i<k):i=k - 1:=UI (SX g2) g1
def K2{Q:DescSt->SM->Prop}(c:xp κ k0 prog w A s)(ks:KeysOf κ o)(b:SrtB k0 o st)(hm:m<=o.size)(h1:1<=n)(h2:n<=m)(dn:Vq κ (arrOf st) n)
  (q:∀k r st',SrtB k0 o st'->n<=k->k<=m->Vq κ (arrOf st') k->r+1<=k->(∀i,k - (r+1)<=i->i<k->gk κ st' i=gk κ st' (k - 1))->Q (ZB,k,r) st'):wpS (ZK prog w) A E s (descLoop n m) Q st:=by
 unfold descLoop;refine SQ (I:=λk c st'=>∃r,c=(ZB,k,r)/\SrtB k0 o st'/\Vq κ (arrOf st') k/\r+1<=k/\∀i,k - (r+1)<=i->i<k->gk κ st' i=gk κ st' (k - 1)) (λk r st' l1 l2 hI=>?_) (λr st' hI=>?_)
  ⟨0,rfl,b,dn,h1,λi g1 g2=>by rw[uc g1 g2]⟩
 .obtain⟨r,rfl,b',d',hr,eq⟩:=hI;dsimp only;have kk:=Oo l2 hm;have kp:k - 1<o.size:=Ry (V8 _ _) kk;have hz:k<=(arrOf st').size:=by rw[b'.len];exact P9 kk
  refine PF (vF c ks b' kk kp ?_);cases z:κ.blt (gk κ st' k) (gk κ st' (k - 1))with
  |true=>
   have d2:=oP d' (TQ z);show wpS _ _ _ _ (if r > 0 then _ else _) _ _;by_cases hr0:r > 0
   .rw[if_pos hr0];refine PF (tN b' λst2 b2 e2=>Qy ⟨0,rfl,b2,λi j le lt=>?_,Ui (Pg _),λi g1 g2=>by rw[uc g1 g2]⟩);rw[e2,QX hz eq,QX hz eq];exact d2 i j le lt
   .rw[if_neg hr0];exact Qy ⟨0,rfl,b',d2,Ui (Pg _),λi g1 g2=>by rw[uc g1 g2]⟩
  |false=>
   refine PF (vF c ks b' kp kk ?_);cases y:κ.blt (gk κ st' (k - 1)) (gk κ st' k)with
   |true=>exact Qy (q k r st' b' l1 (P9 l2) d' hr eq)
   |false=>
    refine Qy ⟨r+1,rfl,b',oP d' y,Ui hr,λi g1 g2=>?_⟩;have e:gk κ st' k=gk κ st' (k - 1):=Vj y z;rw[VB];rcases Rj i k with g3|g3
    .rw[e];exact eq i (by rw[Nat.add_sub_add_right]at g1;exact g1) g3
    .rw[UI (TR g2) g3]
 .obtain⟨r,rfl,b',d',hr,eq⟩:=hI;have e:max n m=m:=SS h2;rw[e]at d' hr eq ⊢;exact q m r st' b' h2 (Oq _) d' hr eq
theorem zg(c:xp κ k0 prog w A s)(ks:KeysOf κ o)(b:SrtB k0 o st)(hm:m<=o.size)(h2:n+1<=m)(dn:Vq κ (arrOf st) (n+1))(q:EH κ k0 o m Q):
  wpS (ZK prog w) A E s (descPart n m) Q st:=by
 unfold descPart;refine PF (wpS_lift (SA ⟨rfl,PF (K2 c ks b hm (by omega) h2 dn λk r st' b' l1 l2 d' hr eq=>?_)⟩));dsimp only;have hz:k<=(arrOf st').size:=by rw[b'.len];omega
 by_cases hr0:r > 0
 .rw[if_pos hr0];refine PF (tN b' λst2 b2 e2=>zf c ks b2 hm (by omega) l2 (λi j le lt=>?_) q);rw[e2,QX hz eq,QX hz eq];exact d' i j le lt
 .rw[if_neg hr0];exact zf c ks b' hm (by omega) l2 d' q
theorem Ip(c:xp κ k0 prog w A s)(ks:KeysOf κ o)(b:SrtB k0 o st)(hm:m<=o.size)(h1:1<=m)(q:EH κ k0 o m Q):wpS (ZK prog w) A E s (countRun' 0 m) Q st:=by
 rw[countRun0_eq];refine PF (Hk c ks b hm (Oq 1) h1 (BP (Oq 1)) λn l1 l2 so lt=>?_);dsimp only;by_cases e:n=m
 .rw[if_pos (beq_iff_eq.mpr e)];exact Qy (q n st b l1 l2 so)
 rw[if_neg (λz=>e (beq_iff_eq.mp z))];have fall:=TQ (lt e);by_cases g:n > 1
 .rw[if_pos g];refine PF (vF c ks b (by omega) (by omega) ?_);cases z:κ.blt (gk κ st 0) (gk κ st (n - 1))with
  |true=>exact Qy (q n st b l1 l2 so)
  |false=>
   have all:∀k,0<=k->k<n->gk κ st k=gk κ st (n - 1):=λk _ hk=>
    Vj (so k (n - 1) (by omega) (by omega)) (SR (show κ.kle (gk κ st (n - 1)) (gk κ st 0)from z) (so 0 k (by omega) hk))
   have hz:n<=(arrOf st).size:=by rw[b.len];omega
   refine PF (tN b λst2 b2 e2=>zg c ks b2 hm (by omega) (oP (λi j le lt=>?_) ?_) q)
   .rw[e2,QX hz all,QX hz all];show κ.kle (gk κ st j) (gk κ st i);rw[all i (Pg _) (by omega),all j (Pg _) (by omega)];exact RE _
   .rw[e2,QX hz all,QX hz all];exact fall
 .rw[if_neg g];exact zg c ks b hm (by omega) (oP (Kl (by omega)) fall) q
theorem JH{l u:Nat}(h:l<u):l<=(l+u) / 2/\(l+u) / 2<u:=⟨by omega,by omega⟩
def J7{l:Nat}(hk:k<xs.size)(lk:l<=k)(so:Qp κ xs k)(lo:∀i,i<l->κ.kle (KK κ xs i) (KK κ xs k))(hi:∀i,l<=i->i<k->κ.klt (KK κ xs k) (KK κ xs i)):Qp κ (bubble xs k (k - l)) (k+1):=λi j le lt=>by
 rw[KK_bubble hk (V8 _ _),KK_bubble hk (V8 _ _),Nat.sub_sub_self lk];have lt:=TR lt;rcases V9 i l with i1|i1|i1
 .rw[if_neg (O5 i1),if_neg λz=>Nat.lt_asymm z.1 i1];rcases V9 j l with j1|j1|j1
  .rw[if_neg (O5 j1),if_neg λz=>Nat.lt_asymm z.1 j1];exact so _ _ le (Oo j1 lk)
  .rw[if_pos j1];exact lo i i1
  .rw[if_neg (QC j1),if_pos ⟨j1,lt⟩];exact so _ _ (SX (UB i1 j1)) (Oo (SY j1) lt)
 .rw[if_pos i1];rcases Nat.lt_or_eq_of_le (i1▸le:l<=j)with j1|j1
  .rw[if_neg (QC j1),if_pos ⟨j1,lt⟩];exact TQ (hi _ (SX j1) (Oo (SY j1) lt))
  .rw[if_pos j1.symm];exact RE _
 .have j1:=Oo i1 le;rw[if_neg (QC i1),if_pos ⟨i1,OG le lt⟩,if_neg (QC j1),if_pos ⟨j1,lt⟩];exact so _ _ (Nat.sub_le_sub_right le 1) (Oo (SY j1) lt)
theorem Iq{Q:Bool->SM->Prop}(c:xp κ k0 prog w A s)(ks:KeysOf κ o)(b:SrtB k0 o st)(h1:1<=n)(hn:n<=o.size)(ha:a<=n)(so:Qp κ (arrOf st) a)
  (q:∀st',SrtB k0 o st'->Qp κ (arrOf st') n->Q ZC st'):wpS (ZK prog w) A E s (binarySort' 0 n a) Q st:=by
 rw[binarySort'_eq];simp only[R7];refine PF (SQ (I:=λk r st'=>r=(ZB,())/\SrtB k0 o st'/\Qp κ (arrOf st') k) (λk r st1 l1 l2 hI=>?_) (λr st1 hI=>?_) ⟨rfl,b,?_⟩)
 .obtain⟨rfl,b1,so1⟩:=hI;have hk:k<o.size:=Oo l2 hn;refine PF (wpS_mono (SQ (I:=λx r st2=>st2=st1/\∃l u,r=(ZB,l,u)/\l<=u/\u<=k/\u<=k+l - x/\(∀i,i<l->κ.kle (gk κ st1 i) (gk κ st1 k))/\∀i,u<=i->i<k->κ.klt (gk κ st1 k) (gk κ st1 i))
   (Q:=λr st2=>st2=st1/\∃l u,r=(ZB,l,u)/\l<=k/\(∀i,i<l->κ.kle (gk κ st1 i) (gk κ st1 k))/\∀i,l<=i->i<k->κ.klt (gk κ st1 k) (gk κ st1 i)) (λx r st2 y1 y2 hJ=>?stp) (λr st2 hJ=>?fin) ⟨rfl,0,k,rfl,Pg _,Oq _,Oq _,λi hi=>absurd hi (W7 _),λi g1 g2=>absurd g2 (Nat.not_lt.mpr g1)⟩) λr st2 hJ=>?pst)
  case stp=>
   obtain⟨rfl,l,u,rfl,lu,uk,mz,lo,hi⟩:=hJ;dsimp only;by_cases g:l ≥ u
   .rw[if_pos g];exact Qy ⟨rfl,l,u,rfl,OG lu uk,lo,λi g1 g2=>hi i (OG g g1) g2⟩
   .rw[if_neg g];have hm:=JH (Nat.lt_of_not_le g);generalize (l+u) / 2=m at hm ⊢;have mk:m<k:=Oo hm.2 uk;refine PF (vF c ks b1 hk (UB mk hk) ?_);have am:u<=k+(m+1) - (x+1)/\m<=k+l - (x+1):=by clear lo hi so so1 q ks c b b1 hn ha h1;omega
    cases z:κ.blt (gk κ st2 k) (gk κ st2 m)with
    |true=>exact Qy ⟨rfl,l,m,rfl,hm.1,P9 mk,am.2,lo,λi g1 g2=>KeyOrd.klt_of_klt_of_kle z (so1 _ i g1 g2)⟩
    |false=>exact Qy ⟨rfl,m+1,u,rfl,hm.2,uk,am.1,λi g1=>SR (so1 i m (TR g1) mk) z,hi⟩
  case fin=>
   obtain⟨rfl,l,u,rfl,lu,uk,mz,lo,hi⟩:=hJ;have e:u<=l:=by clear lo hi so so1 q ks c b b1 hn ha h1;omega
   exact⟨rfl,l,u,rfl,OG lu uk,lo,λi g1 g2=>hi i (OG e g1) g2⟩
  case pst=>
   obtain⟨rfl,l,u,rfl,lk,lo,hi⟩:=hJ;dsimp only;rw[moveDown'_eq];exact PF (Wm (Qy ⟨rfl,b1.arr (bubble_perm _ _ _),J7 (by rw[b1.len];exact hk) lk so1 lo hi⟩))
 .obtain⟨rfl,b1,so1⟩:=hI;rw[SS (Nat.max_le.mpr ⟨ha,h1⟩)]at so1;exact Qy (q st1 b1 so1)
 .rcases Nat.le_total a 1 with g|g
  .rw[SS g];exact BP (Oq 1)
  .rw[Nat.max_eq_left g];exact so
theorem Ir{Q:Unit->SM->Prop}(c:xp κ k0 prog w A s)(ks:KeysOf κ o)(b:SrtB k0 o st)(h2:2<=o.size)(h64:o.size<64)
  (q:∀st',(arrOf st').Perm o->S4 st'=ZB->Qp κ (arrOf st') o.size->Q () st'):wpS (ZK prog w) A E s sortRuns' Q st:=by
 rw[sortRuns'_eq];refine PF (Xl ?_);dsimp only;have hmr:minRun' o.size o.size 0=o.size:=by
  cases hz:o.size with
  |zero=>omega
  |succ f=>rw[minRun'_succ,if_pos (by omega)]
 simp only[b.len,hmr];refine PF (wpS_mono (SQ (I:=λx r st1=>(x=0/\r=(ZB,0)/\SrtB k0 o st1)\/(x≠0/\r=(ZB,o.size)/\(arrOf st1).Perm o/\S4 st1=ZB/\(RX st1).size=1/\Qp κ (arrOf st1) o.size))
  (Q:=λr st1=>r=(ZB,o.size)/\(arrOf st1).Perm o/\S4 st1=ZB/\(RX st1).size=1/\Qp κ (arrOf st1) o.size) (λx r st1 l1 l2 hI=>?stp) (λr st1 hI=>?fin) (.inl ⟨rfl,rfl,b⟩)) λr st1 hI=>?pst)
 case stp=>
  rcases hI with⟨rfl,rfl,b1⟩|⟨_,rfl,hI⟩
  .dsimp only;rw[if_neg (by omega)];simp only[SI,Ws,R7];refine PF (Ip c ks b1 (Oq _) (by omega) λn st2 b2 n1 n2 so2=>?_);dsimp only;have fin:∀st3,SrtB k0 o st3->Qp κ (arrOf st3) o.size->(arrOf (Wn st3 ((RX st3).push (0,o.size,0)))).Perm o/\S4 (Wn st3 ((RX st3).push (0,o.size,0)))=ZB ∧
     (RX (Wn st3 ((RX st3).push (0,o.size,0)))).size=1/\Qp κ (arrOf (Wn st3 ((RX st3).push (0,o.size,0)))) o.size:=λst3 b3 so3=>⟨b3.p,b3.f,by
    show((RX st3).push _).size=1;rw[b3.e];rfl,so3⟩
   by_cases g:n<o.size
   .rw[if_pos g];refine PF (wpS_lift (SA ⟨rfl,PF (Iq c ks b2 (Sw h2) (Oq _) n2 so2 λst3 b3 so3=>?_)⟩));simp only[Bool.not_true,Qc,if_false];refine PF (Xl ?_);rw[show(RX st3).back?=ZB by rw[b3.e];rfl];exact PF (Wm (Qy (.inr ⟨by omega,rfl,fin st3 b3 so3⟩)))
   .rw[if_neg g];obtain rfl:n=o.size:=by omega
    refine PF (Xl ?_);rw[show(RX st2).back?=ZB by rw[b2.e];rfl];exact PF (Wm (Qy (.inr ⟨by omega,rfl,fin st2 b2 so2⟩)))
  .dsimp only;rw[if_pos (Oq _)];exact Qy ⟨rfl,hI⟩
 case fin=>
  rcases hI with⟨h,_,_⟩|⟨_,hI⟩
  .omega
  .exact hI
 case pst=>
  obtain⟨rfl,hp,hf,he,hs⟩:=hI;dsimp only;refine PF (wpS_mono (SQ (I:=λ_ r st2=>st2=st1/\r=(ZB,())) (Q:=λr st2=>st2=st1/\r=(ZB,())) (λx r st2 _ _ hJ=>?stp) (λ_ _ h=>h) ⟨rfl,rfl⟩) λr st2 hJ=>?pst);case stp=>
   obtain⟨rfl,rfl⟩:=hJ;refine PF (Xl ?_);rw[if_pos (R6 he)];exact Qy ⟨rfl,rfl⟩
  case pst=>
   obtain⟨rfl,rfl⟩:=hJ;exact Qy (q _ hp hf hs)
end
theorem kr:∀{m:List T}{ns:List Int},gq m=ZA ns->m=ns.map .int
 |[],ns,h=>by cases h;rfl
 |t::m,ns,h=>by
  cases t with
  |int i=>
   unfold gq at h;obtain⟨k,h1,rfl⟩:=Qo.mp h;rw[kr h1];rfl
  |_=>cases h
variable (R:RK)
variable {R:RK}
variable{h:ZH}
theorem RK.key_of(r:R.V h v ns):R.key h v=ZA ns:=by unfold RK.key;have e:∃ns,R.V h v ns:=⟨ns,r⟩;rw[dif_pos e,R.inj e.choose_spec r]
theorem RK.Nm(e:R.key h v=ZA ns):R.V h v ns:=by
 unfold RK.key at e;split at e
 .rename_i g;cases e;exact g.choose_spec
 .cases e
def RK.kind(R:RK)(h:ZH):PyProof.Rows.KeyKind:={α:=List Int,blt:=cQ,irrefl:=i5,trans:=md,negTrans:=qr,total:=jT,keyOf:=R.key h,dflt:=[]}
def RK.row(R:RK)(h:ZH)(v:N8):List Int:=(R.key h v).getD []
theorem RK.NK(r:R.V h v ns):R.row h v=ns:=by unfold RK.row;rw[RK.key_of r];rfl
theorem J9(v:N8):firstOfTuple' v=(typeOf v >>= λt=>if t != .type "tuple" then pure ZB else Builtin.List.listItems v >>= λxs=>pure xs[0]?):=rfl
theorem Ac:∀{vs:List N8}{Q:List (Option N8)->Oc->Prop},(∀v∈vs,∃ns,R.V s.heap v ns)->(∀us ns,Qn us ns->us.length=vs.length->Q (us.map ZA) s)->ZJ (ZK prog w) A (vs.mapM firstOfTuple') Q E s
 |[],Q,_,q=>by rw[List.mapM_nil];exact Oi (q [] [] .nil rfl)
 |v::vs,Q,h,q=>by rw[List.mapM_cons,J9];obtain⟨ns,r⟩:=h _ Ob;obtain⟨a,its,n,o,m,t,rfl,e,hc,d,e0⟩:=R.fst r;refine N5 (N5 (Sa (T:="tuple") ⟨o,e,hc⟩ ?_));rw[if_neg (by decide+kernel)];refine N5 (WB e d (Oi ?_));rw[e0];exact N5 (Ac (λv hv=>h v (N6 _ hv)) λus ns j hl=>Oi (q (.int m t::us) (m::ns) (.cons m t j) (by rw[Oh,Oh,hl])))
theorem kk3{Q:U0->Oc->Prop}(hv:∀v∈vs,∃ns,R.V s.heap v ns)(ne:vs≠ [])(q:Q (tuples' ZC) s):ZJ (ZK prog w) A (keyKind' vs.toArray) Q E s:=by
 rw[keyKind'_eq,Wa];refine N5 ?_;rw[map_eq_pure_bind];refine N5 (Ac hv λus ns i hl=>Oi ?_);rw[if_pos (by simp)];refine N5 (SA ?_);have ef:(us.map ZA).toArray.filterMap id=us.toArray:=by simp
 rw[ef,oneTypeOnly'_eq,Wa,mapM_typeOf_ints i];cases i with
 |nil=>exact absurd (List.length_eq_zero_iff.mp hl.symm) ne
 |@cons m t us' ns' i'=>
  simp only[map_pure,pure_bind];have hall:((VC (λ_=>Ru "int") (Qb m t::us')).toArray.all λx=>x == Ru "int")=ZC:=by simp only[List.all_toArray,Wr,OB];intro _ _;rfl
  rw[show(VC (λ_=>Ru "int") (Qb m t::us')).toArray[0]?=ZA (Ru "int")by simp];simp only[hall,if_true,pure_bind];exact Oi q
theorem out3{o:Array Xr}(hp:xs.Perm o)(hs:Qp (R.kind h) xs o.size):xs.toList.Perm o.toList/\(xs.toList.map λp=>R.row h p.1).Pairwise (λa b=>nP a b=ZC):=by
 refine⟨Tj.mp hp,?_⟩;rw[RT];intro i j hi hj hij;have hi':i<xs.size:=by simpa using hi
 have hj':j<xs.size:=by simpa using hj
 have z:cQ (KK (R.kind h) xs j) (KK (R.kind h) xs i)=ZD:=hs i j (P9 hij) (by rw[<-hp.size_eq];exact hj');have g:∀k (hk:k<xs.size),KK (R.kind h) xs k=R.row h xs[k].1:=λk hk=>by unfold KK;rw[getElem?_pos xs k hk];rfl
 rw[g i hi',g j hj']at z;simp only[Rr,Array.getElem_toList];unfold nP;rw[z];rfl
theorem run3{ks:List N8}{Q:SM->Oc->Prop}(hu:A.units+60<cLine)(hl:ks.length=vs.length)(hk:∀v∈ks,∃ns,R.V s.heap v ns)(h2:2<=vs.length)(h64:vs.length<64)
  (q:∀st',S4 st'=ZB->(arrOf st').toList.Perm (ks.zip vs)->((arrOf st').toList.map λp=>R.row s.heap p.1).Pairwise (λa b=>nP a b=ZC)->Q st' s):
  ZJ (ZK prog w) A ((sortRuns').run (SortSt.mk' (tuples' ZC) (ks.toArray.zip vs.toArray) #[] 7 ZB)) (λr s'=>Q r.2 s') E s:=by
 have hz:(ks.toArray.zip vs.toArray).size=vs.length:=by simp[hl]
 have hz2:(ks.toArray.zip vs.toArray).toList=ks.zip vs:=by simp
 have kso:PyProof.Rows.KeysOf (R.kind s.heap) (ks.toArray.zip vs.toArray):=λp hp=>by rw[hz2]at hp;obtain⟨ns,r⟩:=hk p.1 (Rf hp).1;exact⟨ns,RK.key_of r⟩
 refine Qm (Ir (κ:=R.kind s.heap) (k0:=tuples' ZC) (o:=ks.toArray.zip vs.toArray) (st:=SortSt.mk' (tuples' ZC) (ks.toArray.zip vs.toArray) #[] 7 ZB)
  (Q:=λ_ st'=>(arrOf st').Perm (ks.toArray.zip vs.toArray)/\S4 st'=ZB/\Qp (R.kind s.heap) (arrOf st') (ks.toArray.zip vs.toArray).size) (λE x y a b Q hx hy q=>R.lt hu (RK.Nm hx) (RK.Nm hy) q) kso ⟨Array.Perm.refl _,rfl,rfl,rfl⟩
  (by rw[hz];omega) (by rw[hz];exact h64) λst' a1 a2 a3=>⟨a1,a2,a3⟩) ?_ λ_ _ e=>e
 rintro ⟨⟨⟩,st'⟩ s' ⟨rfl,hp,hf,hs⟩;obtain⟨g1,g2⟩:=out3 hp hs;exact q st' hf (by rw[<-hz2];exact g1) g2
end Tr
namespace L2
open PySem PySem.Spec PyProof.Rows
theorem wW{b:Nat}:b∈ [n+4,n,n+1,n+2,n+3] ↔n<=b/\b<n+5:=by simp only[Oe,Pb,or_false];omega
end L2
namespace Tr
open PySem PySem.Spec PyProof.Rows L2
def Wk(K:N4)(O:Ow)(H1:Hp)(l:List T)(v:V):Prop:=∃(aa:ZE)(tt:Bool)(ws:List V),v=.ref aa/\¬ O aa/\Reps K O H1 l ws/\EM K H1 aa tt ws/\(∀P Hc,SameO P H1 Hc->¬ P aa->EM K Hc aa tt ws)/\¬ Nw K H1 aa
def c0(g:List T->Rs T)(_:En):Rs T:=match g []with
 |.ok t=>.ok t
 |_=>.bad
section
variable {X:Cx}{a b:ZG}{pos p2 p3:Pos}{x:Str}
def q_c0{f:ZE}{ps:List Str}{g:List T->Rs T}{p:Pos}(F:BI X.prog X.w X.K X.mg X.base k f fd ps 0 g)(hr:Room k X.A)(hm:X.mg x=ZA (.ref f))(hk:Qu X.K (.ref f)=ZC)(hb:Binds X.K fd ps [])
  (hg:Gl X x:=by rfl) (hdb:autoParam ((x == ("__debug__" : Str))=ZD) s_):df X (.Call (.Name x p) [] [] pos) (c0 g):=by
 intro kw s σ H Q I ⟨Z,O,E,hq⟩;unfold c0 at hq;cases q2:g []with
 |bad=>rw[q2]at hq;exact hq.elim
 |err c=>rw[q2]at hq;exact hq.elim
 |ok t=>
  rw[q2]at hq;refine CP (E:=E0) F.h hr hg hm hk hb .nil zB hdb kw s σ H Q I ?_;refine⟨[],O,Reps.GM,E.mtb,rfl,?_⟩;rw[q2];exact λv H' s2 r=>hq H' s2 v r
end
end Tr
variable{b:Int}
namespace L2
open PySem PySem.Spec PyProof.Rows
theorem nH(a b:Int):Rl a b (-1)=if a > b then a - b else 0:=by unfold Rl;simp only[show ¬((-1:Int) > 0)by decide,if_false,W5,UA];split <;> omega
theorem Fi{a:Int}(ha : -(2 ^ 62)<=a)(ha':a<2 ^ 62)(hb : -(2 ^ 62)<=b)(hb':b<2 ^ 62):Vd a b (-1)=ZC:=by unfold Vd;rw[nH];simp only[Builtin.Range.rangeFitsLong,N7,Ta,decide_eq_true_eq,beq_iff_eq,show ¬((-1:Int) > 0)by decide,if_false];split <;> omega
def Itm(lo:Int)(n:Nat):It:=⟨λi _=>i<n,λi H x H'=>H'=H/\x=.int (lo - i),λi _=>n<=i⟩
variable{tg:ZG}
theorem vm(it:ZE)(lo:Int)(n:Nat):By P w K tg (Itm lo n) [it] it (λi h=>Vn h it (lo+(i:Nat)*(-1)) ((n:Int) - (i:Nat)) (-1)) where
 mem:=by simp
 obj:=λi h st b hb=>by
  have e:b=it:=by simpa using hb
  subst e;exact⟨_,st,λv z=>by have z':W0 _=Data.cell v:=z;cases z'⟩
 keep:=λi h h' st k=>k it (by simp) _ st
 item:=by intro X hP hw hK hc i kw s σ H E I hf st hg;subst hP hw hK;obtain⟨f0,f1,f2,f3,f4,f5⟩:=hf it (by simp);have W:=Walks.range (prog:=X.prog) (w:=X.w) (I.ok.hd hc) it lo (-1) n;refine W.item i s _ _ hg st λv h' tk hv st' kk=>?_;obtain⟨t,rfl⟩:=hv;have I1:Inv X kw σ H {s with heap:=h',toks:=tk}:=I.turned (λb o hb e=>kk b o (by simpa using hb) e) f0 f1 f3 f4 f5;refine⟨_,rfl,Ab (s:={s with heap:=h',toks:=tk}) (n:="range_iterator") st' rfl rfl (by decide) ⟨.int (lo - i),H,I1,⟨t,?_⟩,⟨rfl,rfl⟩,st',λb hb=>(hf b hb).1⟩⟩;congr 1;omega
 done:=by intro X hP hw hK hc i kw s σ H E I hf st hg;subst hP hw hK;obtain⟨f0,f1,f2,f3,f4,f5⟩:=hf it (by simp);exact Us (I.ok.hd hc) st (by have:n<=i:=hg;omega) λh' eb=>⟨rfl,I.turned (t':=s.toks) (λb o hb e=>eb b o hb e) f0 f1 f3 f4 f5⟩
 self:=λ_ _ _ _ _ st h=>Ut st h
section
variable {X:Cx}
theorem AH{kw:Uf}{σ:St}{H:Hp}{R:It->Hp->Prop}{lo hi:Int}{t u v:Tok}(I:Inv X kw σ H s)(h1 : -(2 ^ 62)<=lo)(h2:lo<2 ^ 62)(h3 : -(2 ^ 62)<=hi)(h4:hi<2 ^ 62)
  (q:R (Itm lo (lo - hi).toNat) H):ZJ (ZK X.prog X.w) X.A (pyIter (.ref s.heap.objs.size)) (MV X kw σ tg R) E {s with heap:=s.heap.push {cls:=.type "range",data:=.fields #[.int lo t,.int hi u,.int (-1) v]},toks:=tk}:=by
 refine VN (W1 ..) (Fi h1 h2 h3 h4) ?_;have I1:Inv X kw σ H {s with heap:=s.heap.push {cls:=.type "range",data:=.fields #[.int lo t,.int hi u,.int (-1) v]},toks:=tk}:=I.kept λb o e=>Of _ e;refine⟨(s.heap.push {cls:=.type "range",data:=.fields #[.int lo t,.int hi u,.int (-1) v]}).objs.size,[(s.heap.push {cls:=.type "range",data:=.fields #[.int lo t,.int hi u,.int (-1) v]}).objs.size],_,_,H,rfl,
  I1.kept (t':=tk) λb o e=>Of _ e,vm _ lo (lo - hi).toNat,?_,λb hb=>?_,q⟩
 .have e1:lo+((0:Nat):Int)*(-1)=lo:=by simp
  have e2:(((lo - hi).toNat:Nat):Int) - ((0:Nat):Int)=Rl lo hi (-1):=by rw[nH];split <;> omega
  show Vn _ _ (lo+((0:Nat):Int)*(-1)) ((((lo - hi).toNat:Nat):Int) - ((0:Nat):Int)) (-1);rw[e1,e2];exact Oy _ rfl
 .have e:b=(s.heap.push {cls:=.type "range",data:=.fields #[.int lo t,.int hi u,.int (-1) v]}).objs.size:=by simpa using hb
  subst e;exact I1.Ng (Oq _) (I1.hok.fresh (Oq _))
end
end L2
namespace Tr
open PySem PySem.Spec PyProof.Rows L2
section
variable {X:Cx}{a b c:ZG}{fs:Y0}{p pos:Pos}
def Mb{O:Ow}{H:Hp}(lo:Int)(n:Nat):MH K O H ((Oj n).map λ(k:Nat)=>T.int (lo - (k:Int))) (Itm lo n):=λP O' hP hO i Hc hs ht=>by
 refine⟨λh=>?_,λt h=>?_⟩
 .show n<=i;rw[N9,OR]at h;exact h
 .rw[Ot]at h;by_cases hi':i<n
  .rw[Qq hi']at h;cases h;refine⟨hi',λx Hc' y=>?_⟩;obtain⟨e,y⟩:=y;subst e y;exact⟨Same.refl _,Rep.GE _⟩
  .rw[PM (by simpa using hi')]at h;cases h
theorem AI{tg:ZG}(hm:X.mg "range" =ZB)(ha:qX X [a,b,c] fs)(hg:Gl X "range":=by rfl)(hn:bo [a,b,c]=ZC:=by rfl):BA X tg (.Call (.Name "range" p) [a,b,c] [] pos) (Mf fs):=by
 unfold bo at hn;rw[N7]at hn;intro kw s σ H R I ⟨Z,O,E,h⟩;have h1:=eQ E h;refine Call_ (fw I hg hm boot_range (O8 (cM (ha pos kw s σ H _ I h1) λus s1 ⟨vs,H1,I1,r1,ts,rs,s',E',q1⟩=>?_) (bp hn.1) (gn hn.2)));split at q1
 .rename_i i j;by_cases hj:(mi i&&mi j)=ZC
  .rw[if_pos hj]at q1;rw[N7]at hj;obtain⟨b1,b2⟩:=fL hj.1;obtain⟨b3,b4⟩:=fL hj.2;obtain⟨v,ws,rfl,p1,q⟩:=Reps.me.mp rs;obtain⟨v2,ws2,rfl,p2,q2⟩:=Reps.me.mp q;obtain⟨v3,rfl,p3⟩:=q2.one;cases Rep.AC.mp p1;cases Rep.AC.mp p2;cases Rep.AC.mp p3;cases r1 with
   |cons r rr=>
    cases rr with
    |cons r' rr=>
     cases rr with
     |cons r'' rr=>
      cases rr;obtain⟨t,rfl⟩:=r;obtain⟨t',rfl⟩:=r';obtain⟨t'',rfl⟩:=r'';refine call_range_3 (by decide) (AH I1 b1 b2 b3 b4 (q1 H1 (Same.refl H1) _ (Mb i _))) (TL (Uq ?_));omega
  .rw[if_neg hj]at q1;exact q1.elim
 .exact q1.elim
end
end Tr
namespace PySem
open Sem (wp)
open L2 (itAt)
structure PW (prog:OF)(w:Pv)(A:OU)(I:ZE)(T:String)(fp wr:List ZE)(n:Nat)(R:Nat->N8->N8->Prop)(St:Nat->Option ZE->ZH->Prop):Prop where
 sub:∀b∈wr,b∈fp
 ty:∀i o (s:Oc),St i o s.heap->s.TypeIs (.ref I) T
 frame:∀i o h h',St i o h->(∀b∈fp,∀ob,h.get? b=ZA ob->h'.get? b=ZA ob)->St i o h'
 item:∀i o (s:Oc) (Q:Option N8->Oc->Prop) (E:WP),i<n->St i o s.heap->(∀t,o=ZA t->∃ob,s.heap.get? t=ZA ob) ->
  (∀p h' tk x y,R i x y->s.heap.objs.size<=p->IsPair h' p x y->St (i+1) (ZA (o.getD p)) h'->(∀b ob,b∉wr->s.heap.get? b=ZA ob->h'.get? b=ZA ob)->Q (ZA (.ref p)) {s with heap:=h',toks:=tk})->ZJ (ZK prog w) A (pyNext (.ref I)) Q E s
 done:∀o (s:Oc) (Q:Option N8->Oc->Prop) (E:WP),St n o s.heap->(∀t,o=ZA t->∃ob,s.heap.get? t=ZA ob)->(∀h' tk,(∀b ob,b∉wr->s.heap.get? b=ZA ob->h'.get? b=ZA ob)->Q ZB {s with heap:=h',toks:=tk})->ZJ (ZK prog w) A (pyNext (.ref I)) Q E s
 self:∀i o (s:Oc) (Q:WP) (E:WP),St i o s.heap->Q (.ref I) s->ZJ (ZK prog w) A (pyIter (.ref I)) Q E s
end PySem
namespace Tr
open PySem PySem.Spec PyProof.Rows L2
def bkV:N8->V
 |.int n _=>.int n
 |.ref a=>.ref a
 |_=>.non
variable{X:Cx}{a b:ZG}{p p1 pos:Pos}
section
variable {fs:Y0}{p2:Pos}
theorem rY:∀{m:List T}{ns:List Int},gq m=ZA ns->m=ns.map .int
 |[],ns,h=>by cases h;rfl
 |t::m,ns,h=>by
  cases t with
  |int i=>
   unfold gq at h;obtain⟨k,h1,rfl⟩:=Qo.mp h;rw[rY h1];rfl
  |_=>cases h
end
structure QE (X:Cx)(e:ZG)(f:Y2):Prop where
 h:df X e f
structure QA (X:Cx)(e:List ZG)(f:Y0):Prop where
 h:qX X e f
structure QT (X:Cx)(e:ZG)(f:Y3):Prop where
 h:xw X e f
structure QW (X:Cx)(e:ZG)(f:Y3):Prop where
 h:HU X e f
structure QS (X:Cx)(e:ZF)(f:Y1):Prop where
 h:qU X e f
structure Bz (X:Cx)(e:List ZF)(f:Y1):Prop where
 h:nu X e f
structure QG (X:Cx)(e:ZG)(f:T->En->Rs En):Prop where
 h:EN X e f
structure MT (X:Cx)(e:List ZG)(f:List T->En->Rs En):Prop where
 h:EI X e f
structure QI (X:Cx)(t e:ZG)(f:Y0):Prop where
 h:BA X t e f
structure QO (X:Cx)(e:Option ZG)(f:En->Rs (Option Int)):Prop where
 h:MD X e f
structure MC (X:Cx)(e:List ZG)(f:Y3):Prop where
 h:BH X e (BX X f)
variable{x:Str}
def af(i:Nat)(hN:(Cx.N X)[i]?=ZA x:=by rfl)(hv:autoParam (u6 (Q5 (Cx.env X)) x) u_)(hd:autoParam ((x == Om "__debug__")=ZD) s_)(hcd:autoParam ((x == Om "__classdict__")=ZD) s_):QE X (O4 x pos) (vr i):=
 ⟨Cr (i:=i) (hN:=hN) (hv:=hv) (hd:=hd) (hcd:=hcd)⟩
variable{i:Int}
def aj:QE X (S2 (Const.int i) j pos) (cn (T.int i)):=
 ⟨Lr ⟩
def iU{i:Bool}:QE X (S2 (Const.bool i) j pos) (cn (T.bl i)):=
 ⟨q_bl ⟩
def bP:QE X (S2 Const.none j pos) (cn T.non):=
 ⟨Lo ⟩
def sY{i:Str}:QE X (S2 (Const.str i) j pos) (cn (T.str i)):=
 ⟨Li ⟩
def EV{u:N8}(hm:Cx.mg X x=ZA u)(r:L2.RelV (V.int i) u)(hg:Gl X x:=by rfl)(hd:autoParam ((x == Om "__debug__")=ZD) s_):QE X (O4 x pos) (cn (T.int i)):=
 ⟨IZ (hm:=hm) (r:=r) (hg:=hg) (hd:=hd)⟩
def ag:QA X [] ai:=
 ⟨xX ⟩
def ah{X:Cx}{e:ZG}{es:List ZG}{f:Y2}{g:Y0}(he:QE X e f)(hr:QA X es g)(hn:bZ e=ZC:=by rfl):QA X (e::es) (ae f g):=
 ⟨qa_c (he:=he.h) (hr:=hr.h) (hn:=hn)⟩
def aP{X:Cx}{es:List ZG}{x1:Nat}{pos:Pos}{f:Y0}(h:QA X es f):QE X (Expr.Tuple es x1 pos) (aQ f):=
 ⟨Ho (h:=h.h)⟩
variable{es:List ZG}
def cG{f:Y0}(h:QA X es f):QE X (W8 es pos) (dB f):=
 ⟨Lp (h:=h.h)⟩
variable{fa fb:Y2}{g:T->T->Rs T}
def au{op:WY}(ho:OpT X (Qw op) g)(ha:QE X a fa)(hb:QE X b fb):QE X (Expr.BinOp a op b pos) (o2 g fa fb):=
 ⟨Lv (ho:=ho) (ha:=ha.h) (hb:=hb.h)⟩
def dD(ho:OpT X (Pm op) g)(ha:QE X a fa)(hb:QE X b fb)(hm:RO op b=ZD:=by rfl):QE X (Wv a [op] [b] pos) (o2 g fa fb):=
 ⟨Lu (ho:=ho) (ha:=ha.h) (hb:=hb.h) (hm:=hm)⟩
def mG(ha:QE X a fa):QE X (UJ UnaryOp.USub a pos) (o1 kW fa):=
 ⟨Hq (ha:=ha.h)⟩
variable{c:ZG}
def vh{fc:Y2}{op':Xv}{g':T->T->Rs T}(ho:OpT X (Pm op) g)(ho':OpT X (Pm op') g')(ha:QE X a fa)(hb:QE X b fb)(hc:QE X c fc)(hm:autoParam (lastMarks [op,op'] [b,c]=ZD) v_):QE X (Wv a [op,op'] [b,c] pos) (ch g g' fa fb fc):=
 ⟨FQ (ho:=ho) (ho':=ho') (ha:=ha.h) (hb:=hb.h) (hc:=hc.h) (hm:=hm)⟩
variable{e:ZG}
def c9{f:Y2}(h:QE X e f)(he:autoParam (∀(whole:Sem N8),PySem.isTrue e (Cx.env X) whole=(do let v <-whole;standAt (Expr.pos e);holding [v] (truthy v))) t_):QT X e (tb f):=
 ⟨IE (h:=h.h) (he:=he)⟩
def bf(ho:OpT X (Pm op) g)(ha:QE X a fa)(hb:QE X b fb)(hm:RO op b=ZD:=by rfl):QT X (Wv a [op] [b] pos) (tb (o2 g fa fb)):=
 ⟨IG (ho:=ho) (ha:=ha.h) (hb:=hb.h) (hm:=hm)⟩
variable{f:Y3}
def vf(ha:QT X a f):QW X (Rb UV [a] pos) f:=
 ⟨FA (ha:=ha.h)⟩
def kn(ha:QT X a f):QW X (Rb VD [a] pos) f:=
 ⟨IC (ha:=ha.h)⟩
def yW{g:Y3}{dy:List ZG}(ha:QT X a f)(hb:QW X (Rb UV (b::dy) pos) g):QW X (Rb UV (a::b::dy) pos) (qT f g):=
 ⟨ID (ha:=ha.h) (hb:=hb.h)⟩
def mE{g:Y3}{dy:List ZG}(ha:QT X a f)(hb:QW X (Rb VD (b::dy) pos) g):QW X (Rb VD (a::b::dy) pos) (nZ f g):=
 ⟨Lc (ha:=ha.h) (hb:=hb.h)⟩
def ny(h:QW X e f):QT X e f:=
 ⟨qt_w (h:=h.h)⟩
def fh(ha:QT X a f):QT X (UJ UnaryOp.Not a pos) (dQ f):=
 ⟨IF (ha:=ha.h)⟩
def dN{op:BoolOp}(h:QE X a fa):QE X (Rb op [a] pos) fa:=
 ⟨Ll (h:=h.h)⟩
def dE{dy:List ZG}(ha:QE X a fa)(hb:QE X (Rb UV (b::dy) pos) fb):QE X (Rb UV (a::b::dy) pos) (cR fa fb):=
 ⟨Lw (ha:=ha.h) (hb:=hb.h)⟩
def Hb{dy:List ZG}(ha:QE X a fa)(hb:QE X (Rb VD (b::dy) pos) fb):QE X (Rb VD (a::b::dy) pos) (EL fa fb):=
 ⟨q_or (ha:=ha.h) (hb:=hb.h)⟩
def xE(ha:QE X a fa):QE X (UJ UnaryOp.Not a pos) (o1 uu fa):=
 ⟨Ln (ha:=ha.h)⟩
def yX(hc:QT X c f)(ha:QE X a fa)(hb:QE X b fb):QE X (Expr.IfExp c a b pos) (DO f fa fb):=
 ⟨q_if (hc:=hc.h) (ha:=ha.h) (hb:=hb.h)⟩
def aE(ha:QE X a fa)(hb:QE X b fb)(hs:autoParam (kO b) w_):QE X (Qa a b pos) (o2 aW fa fb):=
 ⟨q_ix (ha:=ha.h) (hb:=hb.h) (hs:=hs)⟩
def cU:QO X ZB pN:=
 ⟨FI ⟩
def cT(ha:QE X a fa):QO X (ZA a) (pS fa):=
 ⟨FH (ha:=ha.h)⟩
def cV{lo hi:Option ZG}{p2:Pos}{fl fu:En->Rs (Option Int)}(ha:QE X a fa)(hl:QO X lo fl)(hu:QO X hi fu):QE X (Qa a (Expr.Slice lo hi ZB p2) pos) (sl fa fl fu):=
 ⟨FP (ha:=ha.h) (hl:=hl.h) (hu:=hu.h)⟩
variable{p3:Pos}
def HY{p2:Pos}(ha:QE X a fa):QE X (Qa a (Expr.Slice ZB ZB (ZA (UJ UnaryOp.USub (S2 (Const.int 1) j p1) p2)) p3) pos) (o1 Fu fa):=
 ⟨Lk (ha:=ha.h)⟩
variable{g:List T->Rs T}
def dg{fs:Y0}{id:String}(hc:CallT X (RJ id) g)(hm:Cx.mg X x=ZB)(hv:O9 x=ZA (RJ id))(ha:QA X (e::es) fs)(hn:bo (e::es)=ZC:=by rfl)(hg:Gl X x:=by rfl)(h1:autoParam (x≠Om "__name__") s_)(h2:autoParam ((x == Om "__debug__")=ZD) s_):QE X (Qg (O4 x p) (e::es) [] pos) (cl g fs):=
 ⟨q_cB (hc:=hc) (hm:=hm) (hv:=hv) (ha:=ha.h) (hn:=hn) (hg:=hg) (h1:=h1) (h2:=h2)⟩
def jx{fs:Y0}(hc:CallT X (Ru Ty) g)(hm:Cx.mg X x=ZB)(hv:O9 x=ZA (Ru Ty))(ha:QA X (e::es) fs)(hn:bo (e::es)=ZC:=by rfl)(hg:Gl X x:=by rfl)(h1:autoParam (x≠Om "__name__") s_)(h2:autoParam ((x == Om "__debug__")=ZD) s_):QE X (Qg (O4 x p) (e::es) [] pos) (cl g fs):=
 ⟨q_cT (hc:=hc) (hm:=hm) (hv:=hv) (ha:=ha.h) (hn:=hn) (hg:=hg) (h1:=h1) (h2:=h2)⟩
variable{ps:List Str}
def zq_c{fs:Y0}{f:ZE}(F:BI (Cx.prog X) (Cx.w X) (Cx.K X) (Cx.mg X) (Cx.base X) k f fd ps n g)(hr:Room k (Cx.A X))(hm:Cx.mg X x=ZA (Oz f))(hk:W.keepIn (Cx.K X) (Oz f)=ZC)(hb:L2.Binds (Cx.K X) fd ps [])(hl:∀(Z:En)(ts:List T),fs Z=Rs.ok ts->Py ts=n)(ha:QA X (e::es) fs)(hps:Py ps=n:=by rfl)(hn:bo (e::es)=ZC:=by rfl)(hg:Gl X x:=by rfl)(h2:autoParam ((x == Om "__debug__")=ZD) s_):QE X (Qg (O4 x p) (e::es) [] pos) (cl g fs):=
 ⟨q_c (F:=F) (hr:=hr) (hm:=hm) (hk:=hk) (hb:=hb) (hl:=hl) (ha:=ha.h) (hps:=hps) (hn:=hn) (hg:=hg) (h2:=h2)⟩
def BM{p2:Pos}{tn:Str}(hm:Cx.mg X (Om "isinstance")=ZB)(hmt:Cx.mg X tn=ZB)(hv:O9 tn=ZA (Ru Ty))(ha:QE X a fa)(hn:bZ a=ZC:=by rfl)(hg:Gl X (Om "isinstance"):=by rfl)(hgt:Gl X tn:=by rfl)(h1:autoParam (tn≠Om "__name__") s_)(h2:autoParam ((tn == Om "__debug__")=ZD) s_):QE X (Qg (O4 (Om "isinstance") p) [a,O4 tn p2] [] pos) (o1 (Gx Ty) fa):=
 ⟨q_is (hm:=hm) (hmt:=hmt) (hv:=hv) (ha:=ha.h) (hn:=hn) (hg:=hg) (hgt:=hgt) (h1:=h1) (h2:=h2)⟩
def ak(i:Nat)(hN:RL (Cx.N X))(hi:(Cx.N X)[i]?=ZA x:=by rfl)(hx:autoParam (L2.Loc (Q5 (Cx.env X)) x) x_)(hf:autoParam (Cx.fn X x=ZC\/R1 x (Ua (Q5 (Cx.env X)))=ZA NameKind.local) r_):QG X (O4 x pos) (gN i):=
 ⟨FO (i:=i) (hN:=hN) (hi:=hi) (hx:=hx) (hf:=hf)⟩
def gm:MT X [] ve:=
 ⟨FN ⟩
variable{g:T->En->Rs En}{gs:List T->En->Rs En}
def bu(h1:QG X e g)(h2:MT X es gs)(hs:VC (λx=>WW x) (Qs (e::es) (Cx.env X))=assign e (Cx.env X)::VC (λx=>WW x) (Qs es (Cx.env X)):=by rfl):MT X (e::es) (i7 g gs):=
 ⟨Cq (h1:=h1.h) (h2:=h2.h) (hs:=hs)⟩
def ig(hc:Cx.calm X=ZC)(h:MT X es gs)(hn:Py (Qs es (Cx.env X))=n:=by rfl)(hst:List.findIdx? (λx=>WX x) (Qs es (Cx.env X))=ZB:=by rfl):QG X (Expr.Tuple es k pos) (gT n gs):=
 ⟨IX (hc:=hc) (h:=h.h) (hn:=hn) (hst:=hst)⟩
variable{tg:ZG}
def cj{fs:Y0}(hm:Cx.mg X (Om "range")=ZB)(ha:QA X [a] fs)(hg:Gl X (Om "range"):=by rfl)(hs:Ov [a] (Cx.env X)=[(ZD,eval a (Cx.env X))]:=by rfl):QI X tg (Qg (O4 (Om "range") p) [a] [] pos) (iR fs):=
 ⟨AK (hm:=hm) (ha:=ha.h) (hg:=hg) (hs:=hs)⟩
def xC{fs:Y0}(hm:Cx.mg X (Om "range")=ZB)(ha:QA X [a,b] fs)(hg:Gl X (Om "range"):=by rfl)(hs:Ov [a,b] (Cx.env X)=[(ZD,eval a (Cx.env X)),(ZD,eval b (Cx.env X))]:=by rfl)(hs2:Ov [b] (Cx.env X)=[(ZD,eval b (Cx.env X))]:=by rfl):QI X tg (Qg (O4 (Om "range") p) [a,b] [] pos) (iR fs):=
 ⟨AJ (hm:=hm) (ha:=ha.h) (hg:=hg) (hs:=hs) (hs2:=hs2)⟩
def bY:MC X [] bT:=
 ⟨FK ⟩
def fD(h:QT X c f):MC X [c] f:=
 ⟨FJ (h:=h.h)⟩
variable{N':List Str}{fc:Y3}{fe:Y2}{fi:Y0}{ifs:List ZG}{iter:ZG}{tgt:T->En->Rs En}
def Hd{elt:ZG}{src:List (Option Nat)}(hc:Cx.calm X=ZC)(S:LcScope X scope N' src)(hi:QI X tg iter fi)(block:∀(cl:List (Str×ZE))(C:ZE)(s₀:Oc)(H₀:Hp)(fp:List ZE),QG (cC X scope cl N' C s₀ H₀ fp) tg tgt/\MC (cC X scope cl N' C s₀ H₀ fp) ifs fc/\QE (cC X scope cl N' C s₀ H₀ fp) elt fe)(hs:autoParam (∀(x:N8),Pf iter (Cx.env X) x=pure x) t_):QE X (Ub elt [{target:=tg,iter:=iter,ifs:=ifs,is_async:=0}] scope pos) (d9 fi src tgt fc fe):=
 ⟨q_lc (hc:=hc) (S:=S) (hi:=hi.h) (block:=λa1 a2 a3 a4 a5=>⟨(block a1 a2 a3 a4 a5).1.h,(block a1 a2 a3 a4 a5).2.1.h,(block a1 a2 a3 a4 a5).2.2.h⟩) (hs:=hs)⟩
def bx:Bz X [] sN:=
 ⟨IL ⟩
variable{st:ZF}
def ao{dy:List ZF}{F G:Y1}(h1:QS X st F)(h2:Bz X dy G):Bz X (st::dy) (aA F G):=
 ⟨FG (h1:=h1.h) (h2:=h2.h)⟩
def aq{F:Y1}(h:QS X st F):Bz X [st] F:=
 ⟨IK (h:=h.h)⟩
def ax(ha:QE X a fa):QS X (Stmt.Return (ZA a) pos) (aL fa):=
 ⟨II (ha:=ha.h)⟩
def cf{A B:List ZF}{F G:Y1}(hc:QT X c f)(ha:Bz X A F)(hb:Bz X B G):QS X (Stmt.If c A B pos) (fS f F G):=
 ⟨Lg (hc:=hc.h) (ha:=ha.h) (hb:=hb.h)⟩
def BL{elt:ZG}{spos py:Pos}{src:List (Option Nat)}(i:Nat){y:Str}(hc:Cx.calm X=ZC)(S:LcScope X scope N' src)(hi:QI X tg iter fi)(block:∀(cl:List (Str×ZE))(C:ZE)(s₀:Oc)(H₀:Hp)(fp:List ZE),QG (cC X scope cl N' C s₀ H₀ fp) tg tgt/\MC (cC X scope cl N' C s₀ H₀ fp) ifs fc/\QE (cC X scope cl N' C s₀ H₀ fp) elt fe)(hN:RL (Cx.N X))(hiy:(Cx.N X)[i]?=ZA y:=by rfl)(hy:autoParam (L2.Loc (Q5 (Cx.env X)) y) x_)(hsw:P4 (Ub elt [{target:=tg,iter:=iter,ifs:=ifs,is_async:=0}] scope pos) (ZA (O4 y py)) (RY spos) (Cx.env X)=pure ZC:=by rfl)(hf:autoParam (Cx.fn X y=ZC\/R1 y (Ua (Q5 (Cx.env X)))=ZA NameKind.local) r_)(hs:autoParam (∀(x:N8),Pf iter (Cx.env X) x=pure x) t_):QS X (Tc [O4 y py] (Ub elt [{target:=tg,iter:=iter,ifs:=ifs,is_async:=0}] scope pos) spos) (cJ (d9 fi src tgt fc fe) (gN i)):=
 ⟨Lf (i:=i) (hc:=hc) (S:=S) (hi:=hi.h) (block:=λa1 a2 a3 a4 a5=>⟨(block a1 a2 a3 a4 a5).1.h,(block a1 a2 a3 a4 a5).2.1.h,(block a1 a2 a3 a4 a5).2.2.h⟩) (hN:=hN) (hiy:=hiy) (hy:=hy) (hsw:=hsw) (hf:=hf) (hs:=hs)⟩
def az(ha:QE X a fa)(hg:QG X tg g)(hs:VL [tg] a (RY pos) (Cx.env X)=pure ZD:=by rfl)(hw:VM [tg] a (Cx.env X)=pure ZB:=by rfl)(h1:VC (λx=>WW x) (Qs [tg] (Cx.env X))=[assign tg (Cx.env X)]:=by rfl):QS X (Tc [tg] a pos) (cJ fa g):=
 ⟨IT (ha:=ha.h) (hg:=hg.h) (hs:=hs) (hw:=hw) (h1:=h1)⟩
def gj(ha:QE X a fa)(hs:P4 a ZB (RY pos) (Cx.env X)=pure ZD:=by rfl):QS X (Stmt.Expr a pos) (xS fa):=
 ⟨FF (ha:=ha.h) (hs:=hs)⟩
variable{body:List ZF}
def bX{F:Y1}(hc:Cx.calm X=ZC)(hi:QI X tg iter fi)(hg:QG (Cx.nox X) tg g)(hb:Bz (Cx.nox X) body F)(hs:autoParam (∀(x:N8),Pf iter (Cx.env X) x=pure x) t_):QS X (Stmt.For tg iter body [] pos) (eh fi g F):=
 ⟨IM (hc:=hc) (hi:=hi.h) (hg:=hg.h) (hb:=hb.h) (hs:=hs)⟩
def rL{F:Y1}(n:Nat)(hc:QT (Cx.nox X) c fc)(hb:Bz (Cx.nox X) body F):QS X (Stmt.While c body [] pos) (cg fc F n):=
 ⟨Cn (n:=n) (hc:=hc.h) (hb:=hb.h)⟩
def bh(ha:QE X a fa):QI X tg a (iS fa):=
 ⟨IW (ha:=ha.h)⟩
def jH{fs:Y0}{elts:List ZG}{tpos:Pos}(hm:Cx.mg X (Om "enumerate")=ZB)(ha:QA X [a] fs)(hg:Gl X (Om "enumerate"):=by rfl)(hs:Ov [a] (Cx.env X)=[(ZD,eval a (Cx.env X))]:=by rfl):QI X (Expr.Tuple elts kk tpos) (Qg (O4 (Om "enumerate") p) [a] [] pos) (iE fs):=
 ⟨FL (hm:=hm) (ha:=ha.h) (hg:=hg) (hs:=hs)⟩
variable{f:Y0}
def iQ{p2:Pos}(i:Nat)(hN:RL (Cx.N X))(ha:QA X es f)(hi:(Cx.N X)[i]?=ZA x:=by rfl)(hx:autoParam (L2.Loc (Q5 (Cx.env X)) x) x_)(hs:P4 (W8 es p2) (ZA (O4 x p3)) (RY pos) (Cx.env X)=pure ZD:=by rfl)(hf:autoParam (Cx.fn X x=ZC\/R1 x (Ua (Q5 (Cx.env X)))=ZA NameKind.local) r_):QS X (Tc [O4 x p3] (W8 es p2) pos) (jB i f):=
 ⟨FD (i:=i) (hN:=hN) (ha:=ha.h) (hi:=hi) (hx:=hx) (hs:=hs) (hf:=hf)⟩
variable{apos cpos:Pos}
def ie{p2:Pos}(i:Nat)(ha:QE X a fa)(hN:(Cx.N X)[i]?=ZA x:=by rfl)(hv:autoParam (u6 (Q5 (Cx.env X)) x) u_)(hn:bZ a=ZC:=by rfl)(hbase:Qx (O4 x p2) (Om "append") (Cx.env X) (eval (O4 x p2) (Cx.env X))=eval (O4 x p2) (Cx.env X):=by rfl)(hline:(Vk apos == RY cpos)=ZC:=by rfl)(hd:autoParam ((x == Om "__debug__")=ZD) s_)(hcd:autoParam ((x == Om "__classdict__")=ZD) s_)(hsw:P4 (Qg (RU (O4 x p2) (Om "append") apos) [a] [] cpos) ZB (RY pos) (Cx.env X)=pure ZD:=by rfl):QS X (Stmt.Expr (Qg (RU (O4 x p2) (Om "append") apos) [a] [] cpos) pos) (iY i fa):=
 ⟨IU (i:=i) (ha:=ha.h) (hN:=hN) (hv:=hv) (hn:=hn) (hbase:=hbase) (hline:=hline) (hd:=hd) (hcd:=hcd) (hsw:=hsw)⟩
def sX{p2:Pos}(i:Nat)(ha:QE X a fa)(hN:(Cx.N X)[i]?=ZA x:=by rfl)(hv:autoParam (u6 (Q5 (Cx.env X)) x) u_)(hn:bZ a=ZC:=by rfl)(hbase:Qx (O4 x p2) (Om "extend") (Cx.env X) (eval (O4 x p2) (Cx.env X))=eval (O4 x p2) (Cx.env X):=by rfl)(hline:(Vk apos == RY cpos)=ZC:=by rfl)(hd:autoParam ((x == Om "__debug__")=ZD) s_)(hcd:autoParam ((x == Om "__classdict__")=ZD) s_)(hsw:P4 (Qg (RU (O4 x p2) (Om "extend") apos) [a] [] cpos) ZB (RY pos) (Cx.env X)=pure ZD:=by rfl):QS X (Stmt.Expr (Qg (RU (O4 x p2) (Om "extend") apos) [a] [] cpos) pos) (pG i fa):=
 ⟨IP (i:=i) (ha:=ha.h) (hN:=hN) (hv:=hv) (hn:=hn) (hbase:=hbase) (hline:=hline) (hd:=hd) (hcd:=hcd) (hsw:=hsw)⟩
def ja(i:Nat){F:Y1}(h:QS X st F):QS X st (nX i F):=
 ⟨IQ (i:=i) (h:=h.h)⟩
def kY(i:Nat){f:Y2}(h:QE X e f):QE X e (ln i f):=
 ⟨q_ln (i:=i) (h:=h.h)⟩
def HV(i:Nat){f:Y3}(h:QT X e f):QT X e (JK i f):=
 ⟨Ld (i:=i) (h:=h.h)⟩
variable{args:List ZG}{f0:Y2}{gs:List (List T->Rs T)}
def HX{a0 i0:ZG}{p2:Pos}{as:List ZE}{fs:Y0}(S:Sels X n es as gs)(h0:QE X i0 f0)(hl:∀(Z:En)(ts:List T),fs Z=Rs.ok ts->Py ts=n)(ha:QA X (a0::args) fs)(hn:bo (a0::args)=ZC:=by rfl)(hs:autoParam (kO i0) w_)(hz:autoParam (Py es<=100) s_):QE X (Qg (Qa (W8 es p1) i0 p2) (a0::args) [] pos) (AD gs f0 fs):=
 ⟨Lj (S:=S) (h0:=h0.h) (hl:=hl) (ha:=ha.h) (hn:=hn) (hs:=hs) (hz:=hz)⟩
def HW:QS X (Stmt.Continue pos) K4:=
 ⟨Lh ⟩
def ES(i:Nat){pos':Pos}(hN:RL (Cx.N X))(ha:QE X a fa)(hi:(Cx.N X)[i]?=ZA x:=by rfl)(hx:autoParam (L2.Loc (Q5 (Cx.env X)) x) x_)(hf:autoParam (Cx.fn X x=ZC\/R1 x (Ua (Q5 (Cx.env X)))=ZA NameKind.local) r_):QS X (Stmt.AugAssign (O4 x pos') Operator.Add a pos) (B7 i fa):=
 ⟨IS (i:=i) (hN:=hN) (ha:=ha.h) (hi:=hi) (hx:=hx) (hf:=hf)⟩
def rM{fs:Y0}{p2 pos2:Pos}(hc:Cx.calm X=ZC)(h1:Cx.mg X (Om "list")=ZB)(h2:Cx.mg X (Om "range")=ZB)(ha:QA X (a::es) fs)(g1:Gl X (Om "list"):=by rfl)(g2:Gl X (Om "range"):=by rfl)(hn:bo (a::es)=ZC:=by rfl)(he2:Ov [Qg (O4 (Om "range") p2) (a::es) [] pos2] (Cx.env X)=(ZD,eval (Qg (O4 (Om "range") p2) (a::es) [] pos2) (Cx.env X))::Ov [] (Cx.env X):=by rfl)(hpl2:(List.any (backTo pos (Ov [] (Cx.env X))) λx=>WX x)=ZD:=by rfl):QE X (Qg (O4 (Om "list") p1) [Qg (O4 (Om "range") p2) (a::es) [] pos2] [] pos) (lR fs):=
 ⟨Ct (hc:=hc) (h1:=h1) (h2:=h2) (ha:=ha.h) (g1:=g1) (g2:=g2) (hn:=hn) (he2:=he2) (hpl2:=hpl2)⟩
variable{C:ZE}
def mF{c:Str}{msg:Str}{np:Pos}(O:OX X.K C bm)(hm:X.mg c=ZA (.ref C))(hc:X.calm=ZC:=by rfl)(hg:Gl X c:=by rfl)(hd:autoParam ((c == ("__debug__" : Str))=ZD) s_):
  QS X (.Raise (ZA (.Call (.Name c np) [.Constant (.str msg) j p1] [] cpos)) ZB pos) (B6 c):=⟨Co O.own hc hm hg hd⟩
variable{n:Str}
def EO{suite:List ZF}{b0:ZF}{F:Y1}{h:Str->Rs T}{ce:Str}{CE:ZE}(i:Nat){np hpos:Pos}(hN:X.N.Nodup)(hm:X.mg ce=ZA (.ref CE))(OE:OX X.K CE bmE)
  (hb:∀pn xe,Bz {X with pn:=pn,xe:=xe} body F) (hs:u7 X i (b0::suite) CE h) (hst:X.stack=X.env::X.outer:=by rfl) (hfe:X.env.frame=ZA X.env.locals:=by rfl) (hcl:∀x c,X.env.cells.lookup x≠ZA c) (hex:X.ex=[]:=by rfl)
  (hi:X.N[i]?=ZA n:=by rfl) (hloc:X.env.scope.names.lookup n=ZA .local:=by rfl) (hg:Gl X ce:=by rfl) (hd:autoParam ((ce == ("__debug__" : Str))=ZD) s_):
  QS X (.Try body [.ExceptHandler (ZA (.Name ce np)) (ZA n) (b0::suite) hpos] [] [] pos) (vJ F h):=⟨IH hst hfe hcl hex hN hi hloc hm OE (λpn xe=>(hb pn xe).h) hs hg hd⟩
variable{N:List Str}{mg:WF}
def sZ{base:ZH}{qual:Str}{f:ZE}{n:Nat}{F:Y1}(Fn:L2.Fun K x qual st f fd)(S:dq N ps (ay st))(hn:ps.length=n)
  (hbody:∀(cdv:N8),fd.code=cdv->∀(A:OU)(outer:List Env)(s:Oc)(H:Hp)(E:XK),Room k (A.deeper (envOfC qual (ay st) s.heap.objs.size f cdv)) ->
   ∀xe,Bz ((jm CX0 P w K mg base N qual (ay st) f cdv A outer s H E).FB xe) (de st) F):BI P w K mg base (k+1) f fd ps n (val n N.length F):=Kc Fn S hn λcdv hcv A outer s H E hr xe=>(hbody cdv hcv A outer s H E hr xe).h
def du(hu:SJ (Cx.A X)+1<cLine)(ha:QE X a fa)(hb:QE X b fb)(hs:autoParam (BB b) w_):QE X (Qa a b pos) (o2 bO fa fb):=
 ⟨Ls (hu:=hu) (ha:=ha.h) (hb:=hb.h) (hs:=hs)⟩
def yY(hu:SJ (Cx.A X)+1<cLine)(ha:QE X a fa)(hb:QE X b fb)(hn:bZ b=ZC:=by rfl)(hbase:Qx a (Om "get") (Cx.env X) (eval a (Cx.env X))=eval a (Cx.env X):=by rfl)(hline:(Vk apos == RY cpos)=ZC:=by rfl):QE X (Qg (RU a (Om "get") apos) [b] [] cpos) (oD jE fa fb):=
 ⟨Ja (hu:=hu) (ha:=ha.h) (hb:=hb.h) (hn:=hn) (hbase:=hbase) (hline:=hline)⟩
def Av(hu:SJ (Cx.A X)+61<cLine)(ha:QE X a fa)(hb:QE X b fb)(hn:bZ b=ZC:=by rfl)(hbase:Qx a (Om "index") (Cx.env X) (eval a (Cx.env X))=eval a (Cx.env X):=by rfl)(hline:(Vk apos == RY cpos)=ZC:=by rfl):QE X (Qg (RU a (Om "index") apos) [b] [] cpos) (oL ip fa fb):=
 ⟨Cu (hu:=hu) (ha:=ha.h) (hb:=hb.h) (hn:=hn) (hbase:=hbase) (hline:=hline)⟩
def BK{f:Y2}{p2:Pos}(i:Nat)(hu:SJ (Cx.A X)+8<cLine)(hc:Cx.calm X=ZC)(hm:Cx.mg X (Om "dict")=ZB)(hN:RL (Cx.N X))(ha:QE X e f)(hst:bZ e=ZC:=by rfl)(hg:Gl X (Om "dict"):=by rfl)(hi:(Cx.N X)[i]?=ZA x:=by rfl)(hx:autoParam (L2.Loc (Q5 (Cx.env X)) x) x_)(hs:P4 (Qg (O4 (Om "dict") p) [e] [] p2) (ZA (O4 x p3)) (RY pos) (Cx.env X)=pure ZD:=by rfl)(hf:autoParam (Cx.fn X x=ZC\/R1 x (Ua (Q5 (Cx.env X)))=ZA NameKind.local) r_):QS X (Tc [O4 x p3] (Qg (O4 (Om "dict") p) [e] [] p2) pos) (rS i f):=
 ⟨FE (i:=i) (hu:=hu) (hc:=hc) (hm:=hm) (hN:=hN) (ha:=ha.h) (hst:=hst) (hg:=hg) (hi:=hi) (hx:=hx) (hs:=hs) (hf:=hf)⟩
def ER{fc:Y2}{p2:Pos}(i:Nat)(hu:SJ (Cx.A X)+1<cLine)(hb:QE X b fb)(hc:QE X c fc)(hN:(Cx.N X)[i]?=ZA x:=by rfl)(hv:autoParam (u6 (Q5 (Cx.env X)) x) u_)(hd:autoParam ((x == Om "__debug__")=ZD) s_)(hcd:autoParam ((x == Om "__classdict__")=ZD) s_)(hs:P4 c (ZA (Qa (O4 x p2) b p3)) (RY pos) (Cx.env X)=pure ZD:=by rfl):QS X (Tc [Qa (O4 x p2) b p3] c pos) (AF i fb fc):=
 ⟨IJ (i:=i) (hu:=hu) (hb:=hb.h) (hc:=hc.h) (hN:=hN) (hv:=hv) (hd:=hd) (hcd:=hcd) (hs:=hs)⟩
def oU{fc:Y2}{p2 p4:Pos}(i:Nat)(hu:SJ (Cx.A X)+1<cLine)(ha:QE X a fa)(hb:QE X b fb)(hc:QE X c fc)(hsl:autoParam (BB a) w_)(hN:(Cx.N X)[i]?=ZA x:=by rfl)(hv:autoParam (u6 (Q5 (Cx.env X)) x) u_)(hd:autoParam ((x == Om "__debug__")=ZD) s_)(hcd:autoParam ((x == Om "__classdict__")=ZD) s_)(hs:P4 c (ZA (Qa (Qa (O4 x p2) a p3) b p4)) (RY pos) (Cx.env X)=pure ZD:=by rfl):QS X (Tc [Qa (Qa (O4 x p2) a p3) b p4] c pos) (jA i fa fb fc):=
 ⟨FC (i:=i) (hu:=hu) (ha:=ha.h) (hb:=hb.h) (hc:=hc.h) (hsl:=hsl) (hN:=hN) (hv:=hv) (hd:=hd) (hcd:=hcd) (hs:=hs)⟩
def LcScope.byN{src:List (Option Nat)}(hN:X.N=N)(hk:scope.kind=.function)(h:Gj scope.names N scope.names N' src=ZC)
  (hf:(scope.names.all λy=>y.2 != .free||(X.env.scope.names.lookup y.1 == ZA .cell||X.env.scope.names.lookup y.1 == ZA .free))=ZC):LcScope X scope N' src:=by
 have z:=LcScope.by (X:={X with env:={X.env with scope:=scope}}) hN rfl hk h
 refine⟨hk,z.cel,z.loc,z.len,z.from_,λx hx=>?_⟩;have:=OB.mp hf _ hx;simp only[bne_self_eq_false,T9,Ta]at this;show X.env.scope.names.lookup x=_\/X.env.scope.names.lookup x=_;rcases this with z|z
 .exact .inl (by simpa using z)
 .exact .inr (by simpa using z)
open PySem.W
def DZ(h:ZH):(D1 h).In h:=by
 have key:∀(l:List Nat)(a:ZE)(o:Obj),(l.filterMap λa=>(h.get? a).map λo=>(a,o)).lookup a=ZA o->h.get? a=ZA o:=by
  intro l;induction l with
  |nil=>intro a o e;cases e
  |cons b r ih=>
   intro a o e;cases hb:h.get? b with
   |none=>rw[List.filterMap_cons_none (by rw[hb];rfl)]at e;exact ih a o e
   |some ob=>
    rw[List.filterMap_cons_some (b:=(b,ob)) (by rw[hb];rfl),Pp]at e;cases q:a == b with
    |true=>rw[q]at e;cases e;rw[eq_of_beq q];exact hb
    |false=>rw[q]at e;exact ih a o e
 exact λa o e=>key _ a o e
variable{K:Frag}
def HK(e:obF K n=exF n st):∃f fd,nsIn K OJ n=ZA (ZA (.ref f))/\L2.Fun K n n st f fd:=by
 unfold obF at e;split at e
 .rename_i f hf;split at e
  .rename_i oc od d sl hl;cases d;unfold exF at e;simp only[Su,Vs]at e;obtain⟨h1,h2,h3,h4,h5,h6,h7,h8,h9,h10,h11⟩:=e;subst h1 h2 h3 h4 h5 h6 h7 h8 h9;exact⟨f,_,hf,J8 hl h10 h11⟩
  .cases e
 .cases e
def p0{N:ZE}(e:LJ K N n=ZC):nsIn K N n=ZA ZB:=by
 unfold LJ at e;split at e
 .assumption
 .cases e
def Jx(e:MQ K n=ZA i):∃t,nsIn K OJ n=ZA (ZA (.int i t)):=by
 unfold MQ at e;split at e
 .rename_i i' t h;cases e;exact⟨t,h⟩
 .cases e
def oZ:∀{l:List N8},zd l=ZC->l=ou:=by
 intro l e;unfold zd at e;split at e
 .simp only[N7,beq_iff_eq]at e;obtain⟨⟨⟨h1,h2⟩,h3⟩,h4⟩:=e;subst h1 h2 h3 h4;rfl
 .cases e
def iD{D:Option ZE}(e:Ga K D n=ZA C):nsIn K OJ n=ZA (ZA (.ref C)) ∧
  ∃nm q N bs bm hd sn su ab co dd k0 k1 k2 k3 k5,BQ D bm=ZC/\K.lookup C=ZA (PV nm q C N bs bm hd sn su ab co dd k0 k1 k2 k3 k5 "ValueError.__new__")/\∀h:ZH,K.In h->∃mN,h.Ns N mN/\∀n∈calmNames,mN n=ZB:=by
 unfold Ga at e;split at e
 .rename_i C' hC;split at e
  .rename_i t dd c k0 k1 k2 k3 b k5 hl;split at e
   .rename_i E m ob oe es ep oz hm hN;split at e
    .rename_i hq;cases e;simp only[N7,beq_iff_eq,TU]at hq;obtain⟨⟨⟨⟨⟨⟨h1,h2⟩,h3⟩,h4⟩,h5⟩,h6⟩,h7⟩:=hq;have z:=OB.mp h5;refine⟨hC,c.name,c.qualname,c.ns,c.bases,m,c.hasDict,c.slotNames,c.subclasses,c.abstract,c.collection,dd,k0,k1,k2,k3,k5,h7,?_,LL hN h4 (p0 (z _ (.head _))) (p0 (z _ (.tail _ (.head _)))) (p0 (z _ (.tail _ (.tail _ (.head _))))) (p0 (z _ (.tail _ (.tail _ (.tail _ (.head _))))))⟩;rw[hl];cases c;simp only at hm h3;subst h1 h2 hm h3 h6;rfl
    .cases e
   .cases e
  .cases e
 .cases e
def ox0(e:Ga K ZB n=ZA C):OX K C ou:=by obtain⟨_,_,_,_,_,_,_,_,_,_,_,_,_,_,_,_,_,hu,hl,hn⟩:=iD e;cases oZ hu;exact F5 hl hn
variable{D:ZE}{m:Str}
def KH(e:Ga K (ZA D) n=ZA C)(d:Ga K ZB m=ZA D):OX K C (.ref D::ou):=by
 obtain⟨_,_,_,_,_,bm,_,_,_,_,_,_,_,_,_,_,_,hu,hl,hn⟩:=iD e;obtain⟨_,_,_,_,_,_,_,_,_,_,_,_,_,_,_,_,_,hu',hl',hn'⟩:=iD d;cases oZ hu';unfold BQ at hu;simp only at hu;split at hu
 .rw[N7]at hu;cases eq_of_beq hu.1;cases oZ hu.2;exact CT hl hn hl' hn'
 .cases hu
def gM{o:Option α}{r:List (Option α)}{l:List α}(e:yT (o::r)=ZA l):∃a l',o=ZA a/\l=a::l'/\yT r=ZA l':=by
 cases o with
 |none=>cases e
 |some a=>
  unfold yT at e;split at e
  .rename_i l' h;cases e;exact⟨a,l',rfl,rfl,h⟩
  .cases e
def ED{l:List α}(e:yT ([]:List (Option α))=ZA l):l=[]:=by cases e;rfl
theorem rZ:∀{l:List ZE},uv l=ZC->l.Nodup
 |[],_=>.nil
 |a::r,h=>by unfold uv at h;rw[N7]at h;refine OV.mpr ⟨λhm=>?_,rZ h.2⟩;have:=OB.mp h.1 a hm;simp at this
def Jw{es:List Str}(e:MP K (m::es)=ZC):∃D l,Ga K ZB m=ZA D/\yT (es.map (Ga K (ZA D)))=ZA l/\(l++[D]).Nodup:=by
 rw[MP]at e;split at e
 .rename_i D hD;split at e
  .rename_i l hl;exact⟨D,l,hD,hl,rZ e⟩
  .cases e
 .cases e
section
variable {S:rK}{top:Nat->ZF}{h:ZH}
theorem uB{f g:α->β}:∀{l:List α}(j:Nat){a:α},l.map f=l.map g->l[j]?=ZA a->f a=g a
 |[],_,_,_,q=>by cases q
 |b::l,0,a,e,q=>by cases q;exact(W9.inj e).1
 |b::l,j+1,a,e,q=>uB (l:=l) j (W9.inj e).2 q
def L6(j:Nat){i:Nat}(X:K.In h)(G:h.Ns OJ mg)(e:pZ S K=nV S top)(q:S.tab[j]?=ZA (n,i))
  (hb:∀(kV doc pm:N8)(an:Option ZE)(cdv ct:N8)(us:List N8),us.length=ps.length->VP (fnOf n n (ix (top i)) (de (top i)) (ay (top i)) .none kV doc pm an cdv ct) ⟨us,[]⟩=pure (ps.zip us)):
  ∃f fd,Fn K mg n (top i) ps f fd:=by
 obtain⟨f,fd,h1,h2⟩:=HK (uB j (congrArg (·.1) e) q);exact⟨f,fd,h2,h2.binds hb,mg_of X G h1⟩
def L4(j:Nat){i:Nat}{fa:ZE}(X:K.In h)(G:h.Ns OJ mg)(e:pZ S K=nV S top)(q:S.tab[j]?=ZA (n,i))(hfa:mg n=ZA (.ref fa))
  (hb:∀(kV doc pm:N8)(an:Option ZE)(cdv ct u:N8),VP (fnOf n n (ix (top i)) (de (top i)) (ay (top i)) .none kV doc pm an cdv ct) ⟨[u],[]⟩=pure [(x,u)]):
  ∃fd,Fn K mg n (top i) [x] fa fd/\∀(s:Oc)(u:N8),Vo s fd ⟨[u],[]⟩ [(x,u)]:=by
 obtain⟨f,fd,h1,h2⟩:=HK (uB j (congrArg (·.1) e) q);have z:=hfa.symm.trans (mg_of X G h1);cases z;have hh:=h2;obtain⟨oc,od,kV,doc,pm,an,cdv,ct,osl,rfl,lk,hcd⟩:=hh.ex;exact⟨_,⟨h2,.all λus hl=>match us,hl with|[u],_=>hb kV doc pm an cdv ct u,mg_of X G h1⟩,λs u=>.of_eq (hb kV doc pm an cdv ct u)⟩
def fK(j:Nat)(X:K.In h)(G:h.Ns OJ mg)(e:pZ S K=nV S top)(q:S.zs[j]?=ZA n):mg n=ZB:=
 mg_none_of X G (p0 (OB.mp (congrArg (·.2.1) e:S.zs.all (LJ K OJ)=ZC) n (Pw q)))
def si(j:Nat)(X:K.In h)(G:h.Ns OJ mg)(e:pZ S K=nV S top)(q:S.cs[j]?=ZA (n,i)):∃t,mg n=ZA (.int i t):=by obtain⟨t,ht⟩:=Jx (uB (f:=λc=>MQ K c.1) (g:=λc=>ZA c.2) j (congrArg (·.2.2.1) e) q);exact⟨t,mg_of X G ht⟩
def L7(e:pZ S K=nV S top):MP K S.es=ZC:=congrArg (·.2.2.2) e
end
def left_of{p:OF}{loose:List Str}{Xt:Oc->Bool}{Yf:Oc->α}{Ya:Pv->α}{N:Nat}{g0:Bool}
  (e:opening p=plainProg p.main.scope.names) (hN:Nat.ble 600 N=ZC) (f:∀s,fenceModules? p s=ZA s)
  (h:∀(w:Pv)(os:Wg),(topFrom treeTable p w N ⟨boot_heap w.params,⟨[]⟩,boot_drawn,boot_toks,os⟩).map (λs=>(openSeen q loose (Xf p.main.body) Xt g0 s,Yf s))=ZA (openGood q loose,Ya w)):
  LeftO p q loose Xt Yf Ya N g0:=λw=>by
 obtain⟨⟨h0,gs,d,k,os⟩,e1,e2⟩:=Qo.mp (boot_open e hN f w);simp only[Vs]at e2;obtain⟨rfl,rfl,rfl,rfl⟩:=e2;unfold openEnds;rw[e1];exact h w os
structure Cl (P:OF)(w:Pv)(K:Frag)(mg:WF)(base:ZH)(k:Nat)(x:Str)(n:Nat)(m:List T->Rs T):Prop where
 ex:∃f fd ps,mg x=ZA (.ref f)/\keepIn K (.ref f)=ZC/\Binds K fd ps []/\ps.length=n/\BI P w K mg base k f fd ps n m
abbrev fZ(K:Frag)(mg:WF)(x:Str)(st:ZF)(ps:List Str):Prop:=∃f fd,Fn K mg x st ps f fd
section
variable {base:ZH}{n:Nat}{F:Y1}
def Mt(H:fZ K mg x st ps)(S:dq N ps (ay st))(hn:ps.length=n)
  (hbody:∀(f:ZE)(cdv:N8)(A:OU)(outer:List Env)(s:Oc)(H:Hp)(E:XK),Room k (A.deeper (envOfC x (ay st) s.heap.objs.size f cdv)) ->
   ∀xe,Bz ((jm CX0 P w K mg base N x (ay st) f cdv A outer s H E).FB xe) (de st) F):Cl P w K mg base (k+1) x n (val n N.length F):=by
 obtain⟨f,fd,h⟩:=H;exact⟨f,fd,ps,h.mg,h.fn.kp,h.bd,hn,sZ h.fn S hn λcdv _=>hbody f cdv⟩
def Kr(H:fZ K mg x st ps)(S:dq N ps (ay st))(hn:ps.length=n)
  (hbody:∀(f:ZE)(cdv:N8),(∃o fd,mg x=ZA (.ref f)/\K.lookup f=ZA o/\o.data=.func fd/\fd.code=cdv)->∀(A:OU)(outer:List Env)(s:Oc)(H:Hp)(E:XK),Room k (A.deeper (envOfC x (ay st) s.heap.objs.size f cdv)) ->
   ∀xe,Bz ((jm CX0 P w K mg base N x (ay st) f cdv A outer s H E).FB xe) (de st) F):Cl P w K mg base (k+1) x n (val n N.length F):=by
 obtain⟨f,fd,h⟩:=H;refine⟨f,fd,ps,h.mg,h.fn.kp,h.bd,hn,sZ h.fn S hn λcdv hc=>hbody f cdv ?_⟩;have hh:=h.fn;obtain⟨oc,od,kV,doc,pm,an,cdv',ct,osl,rfl,lk,hcd⟩:=hh.ex;exact⟨_,_,h.mg,lk,rfl,hc⟩
end
variable{g:List T->Rs T}
section
variable {fs:Y0}{n k':Nat}
def aK(c:Cl X.prog X.w X.K X.mg X.base k x n g)(hr:Room k' X.A)(ha:QA X (e::es) fs)(hk:autoParam (k<=k') s_)(hl:∀(Z:En)(ts:List T),fs Z=.ok ts->ts.length=n:=by repeat first|exact HQ|refine HP ?_)
  (hn:bo (e::es)=ZC:=by rfl) (hg:Gl X x:=by rfl) (h2:autoParam ((x == Om "__debug__")=ZD) s_):QE X (.Call (.Name x p) (e::es) [] pos) (cl g fs):=by
 obtain⟨f,fd,ps,h1,h3,h4,h5,h6⟩:=c.ex;exact zq_c h6 (hr.mono hk) h1 h3 h4 hl ha h5 hn hg h2
def vg(h:∃t,X.mg x=ZA (.int i t))(hg:Gl X x:=by rfl)(hd:autoParam ((x == Om "__debug__")=ZD) s_):QE X (.Name x pos) (cn (.int i)):=by obtain⟨t,h⟩:=h;exact EV h ⟨_,rfl⟩ hg hd
abbrev G6(X:Cx)(n:Nat)(es:List ZG)(gs:List (List T->Rs T)):Prop:=∃as,Sels X n es as gs
def selN:G6 X n [] []:=⟨_,seln⟩
def Fp(c:Cl X.prog X.w X.K X.mg X.base k x n g)(hr:Room k' X.A)(h:G6 X n es gs)(hk:autoParam (k<=k') s_)(hg:Gl X x:=by rfl)(hd:autoParam ((x == Om "__debug__")=ZD) s_):G6 X n (.Name x p::es) (g::gs):=by obtain⟨f,fd,ps,h1,h3,h4,h5,h6⟩:=c.ex;obtain⟨as,h⟩:=h;exact⟨_,selc h6 (hr.mono hk) h1 h3 h4 h h5 hg hd⟩
def EU{a0 i0:ZG}{p2:Pos}(S:G6 X n es gs)(h0:QE X i0 f0)(ha:QA X (a0::args) fs)(hl:∀(Z:En)(ts:List T),fs Z=.ok ts->ts.length=n:=by repeat first|exact HQ|refine HP ?_)
  (hn:bo (a0::args)=ZC:=by rfl) (hs:autoParam (kO i0) w_) (hz:autoParam (Py es<=100) s_):QE X (.Call (.Subscript (.List es p1) i0 p2) (a0::args) [] pos) (AD gs f0 fs):=by
 obtain⟨as,S⟩:=S;exact HX S h0 hl ha hn hs hz
end
variable{H:Hp}
theorem PairsAt.snoc{b kb:ZE}{p:List Key×V}(h1:H b=ZA (.tup [.ref kb,p.2]))(h2:H kb=ZA (.tup (p.1.map kV))):∀{xs:List V}{ps:List (List Key×V)},PairsAt H xs ps->PairsAt H (xs++[.ref b]) (ps++[p])
 |[],_,h=>by unfold PairsAt at h;subst h;exact⟨b,kb,p,[],rfl,rfl,h1,h2,rfl⟩
 |x::xs,_,⟨b',kb',p',r,e1,e2,e3,e4,e5⟩=>by subst e1;exact⟨b',kb',p',r++[p],rfl,e2,e3,e4,e5.snoc h1 h2⟩
theorem PairsAt.move{H':Hp}{zs:List V}(hD:H D=ZA (.lst zs))(s:SameO (λa=>a=D) H H'):∀{xs:List V}{ps:List (List Key×V)},PairsAt H xs ps->PairsAt H' xs ps
 |[],_,h=>h
 |x::xs,_,⟨b,kb,p,r,e1,e2,e3,e4,e5⟩=>⟨b,kb,p,r,e1,e2,s _ _ e3 (l7 e3 hD (λz=>nomatch z)),s _ _ e4 (l7 e4 hD (λz=>nomatch z)),e5.move hD s⟩
theorem PairsAt.len:∀{xs:List V}{ps:List (List Key×V)},PairsAt H xs ps->xs.length=ps.length
 |[],_,h=>by unfold PairsAt at h;subst h;rfl
 |x::xs,_,⟨b,kb,p,r,e1,e2,e3,e4,e5⟩=>by subst e1;rw[Oh,Oh,e5.len]
variable{O:Ow}{Q:VK}{Z:En}{kk:List (List Key)}{l:List T}{σ:L2.St}
theorem wC{src:List (Option Nat)}{wi:TI}{te:TE}(E:EnvO X.K O H Z σ)(hwi:∀R,(∀H1,Same H H1->∀J,MH X.K O H1 l J->R J H1)->wi σ H R)(hz:l.length<=1000)(hk:l.map keyOf=kk.map ZA)(hs:0<src.length)
  (Acc:Hp->ZE->List V->Prop) (a0:∀H1 D,Same H H1->Nw X.K H1 D->Acc (upd H1 D (.lst [])) D [])
  (am:∀H1 H2 D vs ys,Acc H1 D vs->H1 D=ZA (.lst ys)->SameO (λa=>a=D) H1 H2->Acc H2 D vs)
  (hte:∀t∈l,∀σ' H' O' D vs ys (Q':VK),EnvM X.K O' noM H' ((bU src Z).set 0 (.va t)) σ'->Acc H' D vs->H' D=ZA (.lst ys)->(∀v H'',Same H' H''->Acc H'' D (vs++[v])->Q' v H'')->te σ' H' Q')
  (hq:∀H1 D ys ps H',Same H H1->Nw X.K H1 D->Same H1 H'->H' D=ZA (.lst ys)->PairsAt H' ys ps->ps.map (·.1)=kk->Acc H' D (ps.map (·.2))->Q (.ref D) H'):
  Ii X.K wi src (BY X (gN 0)) vp (E9 (ij (o8 0) (ij te tD))) σ H Q:=by
 refine hwi _ λH1 s1 J hJ D hD hK=>?_;have nD:Nw X.K H1 D:=⟨hD,hK⟩;have E1:=E.same s1;have lk:l.length=kk.length:=by have:=congrArg Py hk;rwa [N9,N9]at this
 have hlen:0<(bU src Z).length:=by unfold bU;rw[N9];exact hs
 let O':Ow:=λa=>O a\/a=D
 have subO:∀a,O' a->O a\/Nw X.K H1 a:=λa z=>z.elim .inl λw=>.inr (w▸nD);refine⟨λi m σ' ys H'=>m=l.length - i/\i<=l.length/\ys.length=i/\H' D=ZA (.lst ys)/\SameO (λa=>a=D) (upd H1 D (.lst [])) H' ∧
  ∃s0 ps,EnvM X.K O' noM H' ((bU src Z).set 0 s0) σ'/\PairsAt H' ys ps/\ps.map (·.1)=kk.take i/\Acc H' D (ps.map (·.2)),⟨l.length,?_⟩,?_⟩
 .have sN:Same H1 (upd H1 D (.lst [])):=aR hD _;refine⟨by omega,Pg _,rfl,aH,λb o e _=>e,(bU src Z)[0],[],?_,rfl,rfl,a0 H1 D s1 nD⟩;rw[UG];exact(wG E1 src).move (P:=λa=>a=D) (λa z=>.inr (z▸nD)) subO (λb o e _=>sN b o e) λa z=>by
   rcases z with z|z
   .exact(E1.mtb a z).same sN
   .rw[z];exact .inl ⟨_,aH⟩
 .rintro i m σ' ys H' ⟨rfl,hi',hyl,hDl,hsm,s0,ps,E',hp,hkk,hacc⟩;refine⟨hDl,?_⟩;have sm1:SameO (λa=>a=D) H1 H':=λb o e nb=>hsm b o (by rw[aF nb];exact e) nb;have it:=hJ (λa=>a=D) O' (λa z=>.inr (z▸nD)) subO i H' sm1 (λa z=>(E'.trk a z).some);by_cases hlt:i<l.length
  .refine .inr ?_;obtain⟨go,yl⟩:=it.2 l[i] (by simp);refine⟨go,by rw[hyl,PD];omega,λxx Hc y=>?_⟩;obtain⟨sc,rx⟩:=yl xx Hc y;have Ec:=E'.same sc;have eg:gN 0 l[i] ((bU src Z).set 0 s0)=.ok ((bU src Z).set 0 (.va l[i])):=by unfold gN;rw[if_pos (by rw[P3];exact hlen),Ww]
   refine⟨(bU src Z).set 0 s0,O',noM,l[i],Ec,rx,?_⟩;rw[eg];intro σ1 Eg;unfold vp;dsimp only;rw[if_pos rfl];obtain⟨kv,ekv,rkv⟩:=Eg.val 0 l[i] (by rw[OS hlen]);refine⟨kv,ekv,?_⟩;have aC:Acc Hc D (ps.map (·.2)):=am H' Hc D _ ys hacc hDl λb o e _=>sc b o e;have DC:Hc D=ZA (.lst ys):=sc _ _ hDl;refine hte l[i] (PN hlt) σ1 Hc O' D _ ys _ Eg aC DC λv H4 s4 acc4=>⟨by show 2<=ZI;rw[PD];omega,λp hpn=>?_⟩;have D4:H4 D=ZA (.lst ys):=s4 _ _ DC;have pD:p≠D:=λz=>by rw[z,D4]at hpn;cases hpn
   have E4:=Eg.same s4;have ki:kk[i]'(by omega)=kk[i]'(by omega):=rfl;have hki:keyOf l[i]=ZA (kk[i]'(by omega)):=by have:=congrArg (λz=>z[i]?) hk;simp only[Ot,Od hlt,Od (show i<kk.length by omega),Xa]at this;exact OM this
   obtain⟨kb,rfl,hkb⟩:=ir hki (rkv.same s4);have s46:SameO (λa=>a=D) H4 (upd (upd H4 p (.tup [.ref kb,v])) D (.lst (ys++[.ref p]))):=λb o e nb=>by rw[aF nb,aF (λz=>by rw[z,hpn]at e;cases e)];exact e
   refine⟨by rw[aF (PJ pD)];exact D4,l.length - (i+1),by omega,rfl,hlt,?_,aH,λb o e nb=>s46 b o (s4 _ _ (sc _ _ (hsm b o e nb))) nb,.va l[i],ps++[(kk[i]'(by omega),v)],?_,?_,?_,?_⟩
   .rw[Ol,hyl];rfl
   .exact E4.move (λa z=>.inl (.inr z)) (λa z=>.inl z) s46 λaa z=>by
     by_cases hz:aa=D
     .rw[hz];exact .inl ⟨_,aH⟩
     .exact(E4.trk aa z).elim (λ⟨vs,e⟩=>.inl ⟨vs,s46 _ _ e hz⟩) λ⟨vs,e⟩=>.inr ⟨vs,s46 _ _ e hz⟩
   .refine((hp.same (sc.trans s4)).move D4 s46).snoc (kb:=kb) (p:=(kk[i]'(by omega),v)) ?_ ?_
    .rw[aF pD,aH]
    .exact s46 _ _ hkb (l7 hkb D4 (λz=>nomatch z))
   .rw[PC,hkk];show kk.take i++[kk[i]'(by omega)]=kk.take (i+1);rw[List.take_append_getElem]
   .rw[PC];exact am H4 _ D _ ys acc4 D4 s46
  .refine .inl ⟨it.1 (by omega),?_⟩;have sF:Same H1 H':=λb o e=>sm1 b o e λz=>by rw[z,hD]at e;cases e
   exact hq H1 D ys ps H' s1 nD sF hDl hp (by rw[hkk,Sr (by omega)]) hacc
def tE(K:N4)(t:TE):TE:=λσ H Q=>t σ H λv H'=>∃a xs ps,v=.ref a/\H' a=ZA (.lst xs)/\xs.length<=1000/\PairsAt H' xs ps/\∀q,Nw K H' q->Q (.ref q) (upd H' q (.dT (fV [] ps)))
def vX{t:TE}(hu:X.A.units+8<cLine)(hc:X.calm=ZC)(hm:X.mg "dict" =ZB)(ha:PE X e t)(hg:Gl X "dict")(hs:bZ e=ZC):PE X (.Call (.Name "dict" p) [e] [] pos) (tE X.K t):=by
 have h1:Ov [e] X.env=(ZD,eval e X.env)::Ov [] X.env:=bp hs;intro kw s σ H Q I hq;refine Pa (fw I hg hm (show O9 "dict" =ZA (.type "dict")by decide+kernel) ?_ (by decide) (by decide));refine O8 (cM (bB (te:=t) ha dS h1 pos kw s σ H (λzs H'=>match zs with|[v] =>∃a xs ps,v=.ref a/\H' a=ZA (.lst xs)/\xs.length<=1000/\PairsAt H' xs ps/\∀q,Nw X.K H' q->Q (.ref q) (upd H' q (.dT (fV [] ps)))|_=>False) I ?_) λus s1 hh=>?_) h1 rfl
 .exact hq
 .obtain⟨vs,H1,I1,r1,hv⟩:=hh
  match vs,hv,r1 with
  |[v],hv,r1=>
  obtain⟨a,xs,ps,ev,e1,e2,e3,e4⟩:=hv;subst ev;obtain⟨u,rfl,ru⟩:=r1.one;obtain rfl:u=Oz a:=ru;exact w8 (I1.ok.hd hc) hu I1 e1 e2 e3 λq s' nw I'=>⟨.ref q,_,I',rfl,e4 q nw⟩
theorem mQ:∀(ps kvs:List (List Key×V)),((kvs++ps).map (·.1)).Nodup->fV kvs ps=kvs++ps
 |[],kvs,_=>by rw[fV,Px]
 |p::ps,kvs,h=>by
  have e:dR kvs p.1 p.2=kvs++[p]:=by unfold dR;rw[if_neg];intro z;obtain⟨q,hq,e⟩:=Rt.mp z;have e:=of_decide_eq_true e;rw[PC,PQ]at h;exact h.2.2 q.1 (On.mpr ⟨q,hq,rfl⟩) p.1 (by simp) e
  rw[fV,e,mQ ps (kvs++[p]) (by rw[OQ];exact h),OQ];rfl
def gX(kk:List (List Key)):List (List Key×V):=kk.map λk=>(k,V.non)
def xU:∀{ps:List (List Key×V)},ps.map (·.1)=kk->(∀v∈ps.map (·.2),v=V.non)->ps=gX kk:=by
 intro ps h1 h2;subst h1;unfold gX;rw[OK];conv=>lhs;rw[<-RD ps]
 exact OL λp hp=>Prod.ext rfl (h2 p.2 (On.mpr ⟨p,hp,rfl⟩))
variable{K:N4}
def tPI0(K:N4)(f:Y0):TI:=λσ H R=>∃Z O,EnvO K O H Z σ/\match f Z with
 |.ok ts=>∀H',Same H H'->∀J,MH K O H' ts J->R J H'
 |_=>False
def tPI0.up{R:It->Hp->Prop}(h:tPI0 X.K f σ H R):MM X f σ H R:=by
 obtain⟨Z,O,E,h⟩:=h;refine⟨Z,O,E,?_⟩;cases q:f Z with
 |ok t=>rw[q]at h;exact h
 |err c=>rw[q]at h;exact h.elim
 |bad=>rw[q]at h;exact h.elim
def xJ(X:Cx)(src:List (Option Nat)):TE:=tE X.K (Ii X.K (tPI0 X.K (iS (vr 1))) src (BY X (gN 0)) vp (E9 (ij (o8 0) (ij (tC .non) tD))))
def Jj{eb tb ib:ZG}{q1 pc lp:Pos}{jj:Nat}{src:List (Option Nat)}{x1}(hu:X.A.units+8<cLine)(hc:X.calm=ZC)(hm:X.mg "dict" =ZB)(hg:Gl X "dict")(S:LcScope X sc N' src)(hi:BA X tb ib (iS (vr 1)))
  (blk:∀cl C s₀ H₀ fp,EN (cC X sc cl N' C s₀ H₀ fp) tb (gN 0)/\PE (cC X sc cl N' C s₀ H₀ fp) eb (o8 0)/\bZ eb=ZC) (hs:∀x,Pf ib X.env x=pure x):
  PE X (.Call (.Name "dict" p) [.ListComp (.Tuple [eb,.Constant .none jj pc] x1 q1) [⟨tb,ib,[],0⟩] sc lp] [] pos) (xJ X src):=
 PE.imp (vX hu hc hm (vW hc S hi (λcl C s₀ H₀ fp=>⟨(blk cl C s₀ H₀ fp).1,tX,tY (bB (blk cl C s₀ H₀ fp).2.1 (bB CL dS (bp rfl)) (bp (blk cl C s₀ H₀ fp).2.2))⟩) hs) hg rfl) λσ H Q h=>tPI0.up h
theorem Ca{src:List (Option Nat)}(E:EnvO X.K O H Z σ)(hf:iS (vr 1) Z=.ok l)(hz:l.length<=1000)(hk:l.map keyOf=kk.map ZA)(hn:kk.Nodup)(hs:0<src.length)
  (hq:∀d H',Same H H'->Nw X.K H d->H' d=ZA (.dT (gX kk))->Q (.ref d) H'):xJ X src σ H Q:=by
 have lk:l.length=kk.length:=by have:=congrArg Py hk;rwa [N9,N9]at this
 unfold xJ tE;refine wC (X:=X) (te:=tC .non) E (λR h=>⟨Z,O,E,by rw[hf];exact h⟩) hz hk hs (λ_ _ vs=>∀v∈vs,v=V.non) (λ_ _ _ _ v h=>nomatch h) (λ_ _ _ _ _ h _ _=>h) (λt ht σ' H' O' D vs ys Q' _ acc _ k=>k _ H' (Same.refl H') λv hv=>?_) λH1 D ys ps H' s1 nD s2 hD hp h1 h2=>?_
 .rcases OP.mp hv with z|z
  .exact acc v z
  .exact Ox.mp z
 .have e:ps=gX kk:=xU h1 h2;refine⟨D,ys,ps,rfl,hD,by rw[hp.len,e];unfold gX;rw[N9];omega,hp,λq nq=>?_⟩;have e2:fV [] ps=gX kk:=by rw[mQ ps [] (by rw[P2,h1];exact hn),P2,e]
  rw[e2];exact hq q _ ((s1.trans s2).trans (aR nq.1 _)) (l0 (s1.trans s2) nq) aH
theorem vQ:∀(l:List T)(kk:List (List Key)),l.length=kk.length->Reps K O H (l.map λ_=>T.non) ((gX kk).map (·.2))
 |[],[],_=>Reps.GM
 |_::l,_::kk,h=>Reps.Gc Rep.NB (vQ l kk (by simpa using h))
 |[],_::_,h=>by simp at h
 |_::_,[],h=>by simp at h
theorem vM(hk:l.map keyOf=kk.map ZA):∀{m:List T}{ds:List ZE},m.length=ds.length->(∀d∈ds,H d=ZA (.dT (gX kk)))->RowsR K O H (m.map λ_=>(l,l.map λ_=>T.non)) ds
 |[],[],_,_=>rfl
 |_::m,d::ds,h,hd=>⟨d,ds,gX kk,rfl,hd d Ob,by unfold gX;rw[OK];exact hk,vQ l kk (by have:=congrArg Py hk;rwa [N9,N9]at this),vM hk (by simpa using h) λe he=>hd e (N6 _ he)⟩
 |[],_::_,h,_=>by simp at h
 |_::_,[],h,_=>by simp at h
theorem zV:∀{l:List T},nQ l=ZC->∃kk:List (List Key),l.map keyOf=kk.map ZA
 |[],_=>⟨[],rfl⟩
 |t::l,h=>by unfold nQ at h;rw[N7]at h;obtain⟨kk,e⟩:=zV h.2;obtain⟨k,ek⟩:=R5.mp h.1;exact⟨k::kk,by rw[Oa,Oa,ek,e]⟩
theorem Cp(i j:Nat){ea r ta ia:ZG}{q1 lp p2:Pos}{x1}{src:List (Option Nat)}(hu:X.A.units+8<cLine)(hc:X.calm=ZC)(hm:X.mg "dict" =ZB)(hN:X.N.Nodup)
  (S:LcScope X sc N' [ZB,ZA j]) (hi:BA X ta ia (iS (vr j))) (hsr:0<src.length)
  (blk:∀cl C s₀ H₀ fp,EN (cC X sc cl N' C s₀ H₀ fp) ta (gN 0)/\PE (cC X sc cl N' C s₀ H₀ fp) ea (o8 0)/\PE (cC X sc cl N' C s₀ H₀ fp) r (xJ X src)) (h1:bZ ea=ZC:=by rfl) (h2:bZ r=ZC:=by rfl)
  (hs:autoParam (∀x,Pf ia X.env x=pure x) t_) (hg:Gl X "dict":=by rfl) (hix:X.N[i]?=ZA x:=by rfl) (hx:autoParam (Loc X.env.scope x) x_)
  (hsw:P4 (.Call (.Name "dict" p) [.ListComp (.Tuple [ea,r] x1 q1) [⟨ta,ia,[],0⟩] sc lp] [] p2) (ZA (.Name x p3)) pos.line X.env=pure ZD:=by rfl)
  (hf:autoParam (X.fn x=ZC\/X.env.scope.names.lookup x=ZA .local) r_):
  qU X (.Assign [.Name x p3] (.Call (.Name "dict" p) [.ListComp (.Tuple [ea,r] x1 q1) [⟨ta,ia,[],0⟩] sc lp] [] p2) pos) (pF i j):=
 PS.imp (pH hN hix hx (vX hu hc hm (vW (g:=BY X (gN 0)) (tc:=vp) (te:=E9 (ij (o8 0) (ij (xJ X src) tD))) hc S hi (λcl C s₀ H₀ fp=>⟨(blk cl C s₀ H₀ fp).1,tX,tY (bB (blk cl C s₀ H₀ fp).2.1 (bB (blk cl C s₀ H₀ fp).2.2 dS (bp h2)) (bp h1))⟩) hs) hg rfl) hsw hf) λD σ H hh_=>by
  obtain⟨Z,B,M,E,h⟩:=hh_;unfold pF at h;cases qj:Z[j]? with
  |none=>rw[qj]at h;exact h.elim
  |some z=>
   rw[qj]at h
   match z,h,qj with
   |.va (.lst l),h,qj=>
    dsimp only at h;by_cases hh:i<Z.length/\nQ l=ZC/\(l.map keyOf).Nodup/\l.length<=1000
    .rw[if_pos hh]at h;obtain⟨hl,hky,hnd,hz⟩:=hh;obtain⟨kk,hk⟩:=zV hky;have lk:l.length=kk.length:=by have:=congrArg Py hk;rwa [N9,N9]at this
     have hn:kk.Nodup:=by rw[hk]at hnd;exact(Wb.mp hnd).imp λh z=>h (by rw[z])
     have fj:iS (vr j) Z=.ok l:=by unfold iS vr;rw[qj];rfl
     have hlc:bU [ZB,ZA j] Z=[.em,.va (.lst l)]:=by unfold bU;simp[qj]
     unfold BZ tE;refine wC (X:=X) (te:=xJ X src) E.o (λR h=>⟨Z,OO B M,E.o,by rw[fj];exact h⟩) hz hk (by simp)
      (λH' D vs=>H D=ZB/\Same H H'/\∃ds:List ZE,vs=ds.map V.ref/\ds.Nodup/\∀d∈ds,Nw X.K H d/\H' d=ZA (.dT (gX kk)))
      (λH1 D s1 nD=>⟨(l0 s1 nD).1,s1.trans (aR nD.1 _),[],rfl,Ra,λd h=>nomatch h⟩)
      (λH1 H2 D vs ys ⟨c1,c2,ds,c3,c4,c5⟩ hD s=>⟨c1,(λb o e=>s b o (c2 b o e) (λz=>by rw[z,c1]at e;cases e)),ds,c3,c4,λd hd=>⟨(c5 d hd).1,s _ _ (c5 d hd).2 (l7 (c5 d hd).2 hD (λz=>nomatch z))⟩⟩)
      (λt ht σ' H' O' D vs ys Q' E' ⟨c1,c2,ds,c3,c4,c5⟩ hD k=>Ca (l:=l) (kk:=kk) ⟨noM,E'⟩ (by rw[hlc];rfl) hz hk hn hsr λd H'' s' nd hd=>?_) λH1 D ys ps H' s1 nD s2 hD hp e1 ⟨c1,c2,ds,c3,c4,c5⟩=>?_
     .refine k _ H'' s' ⟨c1,c2.trans s',ds++[d],by rw[c3,PC];rfl,?_,λe he=>?_⟩
      .refine PQ.mpr ⟨c4,by simp,λu hu w hw=>?_⟩;rw[Ox.mp hw];intro z;have:=(c5 u hu).2;rw[z,nd.1]at this;cases this
      .rcases OP.mp he with z|z
       .exact⟨(c5 e z).1,s' _ _ (c5 e z).2⟩
       .rw[Ox.mp z];exact⟨l0 c2 nd,hd⟩
     .have hpl:ps.length=kk.length:=by rw[<-e1,N9]
      refine⟨D,ys,ps,rfl,hD,by rw[hp.len];omega,hp,λq nq=>?_⟩;have e2:fV [] ps=ps:=by rw[mQ ps [] (by rw[P2,e1];exact hn),P2]
      rw[e2];have qd:q∉ds:=λz=>by have:=(c5 q z).2;rw[nq.1]at this;cases this
      have dl:ds.length=ps.length:=by have:=congrArg Py c3;rw[N9,N9]at this;exact this.symm
      have hm':∀b,b=q\/b∈ds->Nw X.K H b:=λb z=>z.elim (λw=>w▸l0 c2 nq) λw=>(c5 b w).1;have sF:Same H (upd H' q (.dT ps)):=c2.trans (aR nq.1 _);obtain⟨E2,sub⟩:=E.new (m:=λb=>b=q\/b∈ds) (o:=.dd l (l.map λ_=>(l,l.map λ_=>.non))) (v:=.ref q) (H':=upd H' q (.dT ps)) hl hm' sF ⟨q,ps,ds,rfl,λb=>S8,qd,c4,aH,by rw[hk,<-e1,OK];rfl,c3,vM hk (by omega) λd hd=>by rw[aF (show d≠q from λz=>qd (z▸hd))];exact(c5 d hd).2⟩;exact h _ _ _ (SameO.of sF) E2 sub
    .rw[if_neg hh]at h;exact h.elim
   |.em,h,_=>exact h.elim
   |.ow _,h,_=>exact h.elim
   |.va .non,h,_=>exact h.elim
   |.va (.bl _),h,_=>exact h.elim
   |.va (.int _),h,_=>exact h.elim
   |.va (.str _),h,_=>exact h.elim
   |.va (.tup _),h,_=>exact h.elim
   |.va (.scr _),h,_=>exact h.elim
   |.va (.dct _ _),h,_=>exact h.elim
def Au(i j:Nat){ea r ta ia:ZG}{q1 lp p2:Pos}{x1}{src:List (Option Nat)}(hu:X.A.units+8<cLine)(hc:X.calm=ZC)(hm:X.mg "dict" =ZB)(hN:X.N.Nodup)
  (S:LcScope X sc N' [ZB,ZA j]) (hi:QI X ta ia (iS (vr j))) (hsr:0<src.length)
  (blk:∀cl C s₀ H₀ fp,QG (cC X sc cl N' C s₀ H₀ fp) ta (gN 0)/\PE (cC X sc cl N' C s₀ H₀ fp) ea (o8 0)/\PE (cC X sc cl N' C s₀ H₀ fp) r (xJ X src)) (h1:bZ ea=ZC:=by rfl) (h2:bZ r=ZC:=by rfl)
  (hs:autoParam (∀x,Pf ia X.env x=pure x) t_) (hg:Gl X "dict":=by rfl) (hix:X.N[i]?=ZA x:=by rfl) (hx:autoParam (Loc X.env.scope x) x_)
  (hsw:P4 (.Call (.Name "dict" p) [.ListComp (.Tuple [ea,r] x1 q1) [⟨ta,ia,[],0⟩] sc lp] [] p2) (ZA (.Name x p3)) pos.line X.env=pure ZD:=by rfl)
  (hf:autoParam (X.fn x=ZC\/X.env.scope.names.lookup x=ZA .local) r_):
  QS X (.Assign [.Name x p3] (.Call (.Name "dict" p) [.ListComp (.Tuple [ea,r] x1 q1) [⟨ta,ia,[],0⟩] sc lp] [] p2) pos) (pF i j):=
 ⟨Cp i j hu hc hm hN S hi.h hsr (λcl C s₀ H₀ fp=>⟨(blk cl C s₀ H₀ fp).1.h,(blk cl C s₀ H₀ fp).2⟩) h1 h2 hs hg hix hx hsw hf⟩
def KN{k':Nat}(c:Cl X.prog X.w X.K X.mg X.base k x 0 g)(hr:Room k' X.A)(hk:autoParam (k<=k') s_)(hg:Gl X x:=by rfl)(h2:autoParam ((x == Om "__debug__")=ZD) s_):QE X (.Call (.Name x p) [] [] pos) (c0 g):=by obtain⟨f,fd,ps,h1,h3,h4,h5,h6⟩:=c.ex;exact⟨q_c0 h6 (hr.mono hk) h1 h3 h4 hg h2⟩
def fsc{P:List Str}(h1:sc.kind=.function:=by rfl)(h2:sc.isCoroutine=ZD:=by rfl)(h3:sc.isGenerator=ZD:=by rfl)(h4:autoParam (N.Nodup) y_)(h5:N.take P.length=P:=by rfl)
  (h6:autoParam (∀x∈P,sc.names.lookup x=ZA .local\/sc.names.lookup x=ZA .cell) y_) (h7:autoParam (∀y∈sc.names,y.2≠ .free) y_):dq N P sc:=⟨h1,h2,h3,h4,h5,h6,h7⟩
def xA{fs:Y0}(hm:X.mg "range" =ZB)(ha:QA X [a,b,c] fs)(hg:Gl X "range":=by rfl)(hn:bo [a,b,c]=ZC:=by rfl):QI X tg (.Call (.Name "range" p) [a,b,c] [] pos) (Mf fs):=⟨AI hm ha.h hg hn⟩
def tbl(pl:List Nat)(L:Bool):SetTable:={mask:=7,place:=pl.toArray,dummies:=#[],finger:=0,led:=L,moves:=0,plain:=ZC}
end Tr
variable{Q:WP}
namespace L2
open PySem PySem.Spec PyProof.Rows PySem.W
def MX(K:Frag)(mg:WF):Prop:=∃bm ob,mg "__builtins__" =ZA (.ref bm)/\bm≠R8/\bm≠OJ/\K.lookup bm=ZA ob/\ob.cls=.type "module"/\ob.dict=ZA R8/\ob.data=.plain
variable{pos:Pos}
def yS{pos':Pos}{c:N8}(l:List N8)(h:TriplesOk l):TY pos' (l++[rawInt pos.line,rawInt pos.col,c])=ZA v->TY pos' l=ZA v\/v=c:=by
 fun_induction TriplesOk l with
 |case1=>
  intro e;simp only[P2,TY,rawInt]at e;split at e
  .exact .inr (OM e).symm
  .cases e
 |case2 a t b u x dy ih=>
  intro e;simp only[WL,TY]at e ⊢;split at e
  .rename_i hc;rw[if_pos hc];exact .inl e
  .rename_i hc;rw[if_neg hc];exact ih h e
 |case3 l h1 h2=>exact h.elim
variable{H:Hp}{body:ZG}
section
variable {X:Cx}{kw:Uf}{σ:List (Option V)}
def MG(H:Hp)(P:ZE)(h:ZH)(mg:WF)(q:Str)(params:SN)(body:ZG)(scope:RF)(f:ZE):Prop:=∃c ctv,h.get? f=ZA (kla_obj "<lambda>" q params body scope [] ((mg "__name__").getD .none) c ctv)/\h.CodeRec (.ref c) q/\H c=ZA (.own P)
def Dr{c P:ZE}(I:Inv X kw σ H s)(hcode:X.env.code=.ref c)(C:CodeHd X.base c P)(hP:H P=ZA (.tbl (X.env.qual++ "<lambda>")))(B:MX X.K X.mg)
  (hdef:defaultsOf params X.env=([],[])) (hcl:UZ scope X.env=pure [])  
  (q:∀f H' h' tk,s.heap.objs.size<=f->Same H H'->Inv X kw σ H' {s with heap:=h',toks:=tk}->H' f=ZB->MG H' P h' X.mg (X.env.qual++ "<lambda>") params body scope f->Q (.ref f) {s with heap:=h',toks:=tk}):
  ZJ (ZK X.prog X.w) X.A (eval (.Lambda params body scope pos) X.env) Q E s:=by
 refine kla_eval hdef ?_;obtain⟨bm,ob,b1,b2,b3,b4,b5,b6,b7⟩:=B;have eb:X.base.get? bm=ZA ob:=I.mod.kin bm ob b4;have hbP:bm≠P:=λz=>by have:=(I.bs bm ob eb).2;rw[z,hP]at this;cases this
 have hgs:s.heap.Ns OJ X.mg:=I.mod.glob.keeps I.bk;have hgP:OJ≠P:=λz=>by obtain⟨o,es,ep,e,_⟩:=I.mod.glob;have:=(I.bs _ o e).2;rw[z,hP]at this;cases this
 have hB:s.heap.BuiltinsAt X.mg P:=⟨bm,ob,b1,b2,b3,hbP,I.bk _ _ eb,b5,b6,b7⟩;have hC:CodeHd s.heap c P:=C.keeps I.bk;obtain⟨ps,e,ht,r⟩:=I.hok P _ hP;cases hf:TY pos ps.toList with
 |none=>
  have hnf:=hf;refine kla_makeFunction (mg:=X.mg) hcl I.ok.glob hgs hcode hC e ht hnf hgP hB λc' ctv h' tk hx hge hlt hrec htb=>?_;have hn':H c'=ZB:=I.hok.fresh hge;have ncP:c'≠P:=λz=>by rw[z,hP]at hn';cases hn'
  have same:Same H (upd H c' (.own P)):=λb o eb=>by rw[aF (λz=>by rw[z,hn']at eb;cases eb)];exact eb
  have pk:∀b u,b≠P->s.heap.get? b=ZA u->(h'.push (kla_obj "<lambda>" (X.env.qual++ "<lambda>") params body scope [] ((X.mg "__name__").getD .none) c' ctv)).get? b=ZA u:=λb u n eb=>Of _ (hx b u n eb);obtain⟨c₂,oc,vs,t,ee,hoc,hd,hv⟩:=hrec;cases ee;have htb':=Of (kla_obj "<lambda>" (X.env.qual++ "<lambda>") params body scope [] ((X.mg "__name__").getD .none) c' ctv) htb;have hoc':=Of (kla_obj "<lambda>" (X.env.qual++ "<lambda>") params body scope [] ((X.mg "__name__").getD .none) c' ctv) hoc;have sz:s.heap.objs.size<=h'.objs.size:=P9 (Ry hge hlt);refine q h'.objs.size (upd H c' (.own P)) _ tk sz same ?_ ?_ ⟨c',ctv,Oy _ rfl,⟨c',oc,vs,t,rfl,hoc',hd,hv⟩,aH⟩
  .refine I.un ⟨λb u eb n _ _=>pk b u (λz=>by rw[z,hP]at n;cases n) eb,λb u eb n _ _=>⟨u.slots,pk b u (λz=>by rw[z,hP]at n;cases n) eb⟩,λb u eb n _=>?_,λb u eb _=>?_,λb xs eb=>same _ _ eb,λb o u eb=>same _ _ eb,λb ps eb=>same _ _ eb⟩ λb u eb=>?_
   .rw[aF (O5 (Oo (Os eb) hge))];exact n
   .by_cases hb:b=P
    .exact⟨_,hb▸htb'⟩
    .exact⟨u,pk b u hb eb⟩
   .by_cases hb:b=c'
    .subst hb;rw[aH]at eb;cases eb;exact⟨oc,hoc'⟩
    .rw[aF hb]at eb;by_cases hbP:b=P
     .subst hbP;rw[hP]at eb;cases eb;refine⟨_,htb',?_,λpos' v ev=>?_⟩
      .have:=TriplesOk_snoc pos.line pos.col (.ref c') ps.toList ht;simpa using this
      .have ev':TY pos' (ps.toList++[rawInt pos.line,rawInt pos.col,.ref c'])=ZA v:=by simpa using ev
       rcases yS ps.toList ht ev' with z|z
       .obtain⟨c2,o2,v2,t2,a1,a2,a3,a4⟩:=r pos' v z;exact⟨c2,o2,v2,t2,a1,same _ _ a2,pk _ _ (λz=>by rw[z,hP]at a2;cases a2) a3,a4⟩
       .exact⟨c',oc,vs,t,z,aH,hoc',hd,hv⟩
     .exact(I.hok b u eb).M4 (λd v hd' qd=>pk d v (λz=>by
       rcases hd' with hd'|hd'
       .exact hbP (hd'.symm.trans z)
       .rw[z,hP]at hd';cases hd') qd) (λd qd=>same _ _ qd) λd xs qd=>same _ _ qd
  .rw[aF (QC hlt)];exact I.hok.fresh sz
 |some v=>
  obtain⟨c',oc,vs,t,rfl,ho,e2,d2,v2⟩:=r pos v hf;refine kla_makeFunctionHit (mg:=X.mg) hcl I.ok.glob hgs hcode hC e ht hf hB λctv h' tk hk hsz=>?_;have kk:∀b u,s.heap.get? b=ZA u->(h'.push (kla_obj "<lambda>" (X.env.qual++ "<lambda>") params body scope [] ((X.mg "__name__").getD .none) c' ctv)).get? b=ZA u:=λb u eb=>Of _ (hk b u eb);exact q h'.objs.size H _ tk hsz (λ_ _ e=>e) (I.kept kk) (I.hok.fresh hsz) ⟨c',ctv,Oy _ rfl,⟨c',oc,vs,t,rfl,kk _ _ e2,d2,v2⟩,ho⟩
end
def MF(h:ZH)(mg:WF)(q:Str)(params:SN)(body:ZG)(scope:RF)(f:ZE):Prop:=∃c ctv,h.get? f=ZA (kla_obj "<lambda>" q params body scope [] ((mg "__name__").getD .none) c ctv)/\h.CodeRec (.ref c) q
def Ds{CX:BJ}{K:Frag}{mg:WF}{base:ZH}{f:ZE}{q:Str}{N ps:List Str}{outer:List Env}{vs:List V}{Q:VK}{E:XK}
  (L:MF s.heap mg q params body scope f) (S:dq N ps scope) (hr:Room (k+1) A) (e0:Env0 P w K mg base A outer s H)
  (hb:∀c ctv,VP (kla_fn "<lambda>" q params body scope [] ((mg "__name__").getD .none) (.ref c) ctv) ⟨us,[]⟩=pure (ps.zip us)) (hl:vs.length=ps.length) (r:Vals vs us)
  (hbody:∀c,∃t,PE (jm CX P w K mg base N q scope f (.ref c) A outer s H E) body t/\t (start N vs) H Q):
  ZL (ZK P w) A (.call (.ref f) ⟨us,[]⟩) (CR CX outer P w H s Q E) s:=by
 obtain⟨c,ctv,ho,hcd⟩:=L;have lim:s.heap.NoLimit:=e0.mod.nolimit.keeps λb o e=>(e0.bs b o e).1;have hkind:∀y∈ps.zip us,scope.names.lookup y.1=ZA .local\/(scope.names.lookup y.1=ZA .cell/\((QR (s.heap.objs.size+1) scope.names []).lookup y.1).isSome=ZC):=λ⟨n,v⟩ hy=>by
  rcases S.par n (Rf hy).1 with q|q
  .exact .inl q
  .exact .inr ⟨q,QY _ _ _ (.inl q)⟩
 refine kla_callFunE hr.depth ho rfl S.co S.gen rfl hcd ?_;rw[hb c ctv];refine Oi (Q2 S.kind hkind λenv he s1 x=>?_);subst he;refine⟨lim.keeps x.toInCall.keep,kla_codeExpr ?_⟩;obtain⟨t,ht,hq⟩:=hbody c;have I:Inv (jm CX P w K mg base N q scope f (.ref c) A outer s H E) [] (start N vs) H s1:=kI S hr.hd e0 hl r x;exact Qm (ht [] s1 (start N vs) H _ I hq) (λu s' ⟨v,H',J,rv,q⟩=>⟨v,H',J.os,J.bare,J.base,J.hok,rv,q⟩) λe s' hs=>hs
end L2
namespace HT
open PySem PyProof.Rows
open PySem.SeqAt
open PySem.AutoSeq1 (wpAny_loadPart')
open PySem.MeetsSeq PySem.MeetsSeq2 PySem.MeetsSeq3
def oK(h:Qn vs ns):∀{i:Nat}{v:N8},vs[i]?=ZA v->∃n t,ns[i]?=ZA n/\v=.int n t:=by
 induction h with
 |nil=>intro i v e;cases e
 |cons n t r ih=>
  intro i v e;cases i with
  |zero=>cases e;exact⟨n,t,rfl,rfl⟩
  |succ i=>exact ih (by simpa using e)
theorem De(l b:ZE)(items items2:Array N8)(n n2:Nat)(dd dd2:Option ZE)(sl sl2:Array (Option N8))(ns ms:List Int)(hi:Qn items.toList ns)(hj:Qn items2.toList ms)(k:Nat):
  ∀i:Nat,items.size - i=k->i<=items.size->i<=items2.size->Meets (Builtin.«list.__eq__.loop» ⟨[.ref l,.ref b,rawInt i,rawInt 0],[]⟩)
   (λ_ R s=>s.heap.get? l=ZA {cls:=.type "list",dict:=dd,data:=.seq items n,slots:=sl}/\s.heap.get? b=ZA {cls:=.type "list",dict:=dd2,data:=.seq items2 n2,slots:=sl2} ∧
    R (.ok (.ret (.bool (lexLt (ns.drop i) (ms.drop i))))) s):=by
 have z1:items.size=ns.length:=by rw[<-hi.length];simp
 have z2:items2.size=ms.length:=by rw[<-hj.length];simp
 induction k with
 |zero=>
  intro i hk h1 h2 prog w A R s h;obtain⟨hp,g,d,tk,os⟩:=s;obtain⟨hl,hb,h⟩:=h;wp_walk using OW hl,OW hb;have hi1:items[((i:Nat):Int).toNat]?=ZB:=by simp;omega
  have hv:lexLt (ns.drop i) (ms.drop i)=decide (items.size<items2.size):=by
   rw[QZ (by omega)];cases q:ms.drop i with
   |nil=>
    have:=List.drop_eq_nil_iff.mp q;rw[rC];exact(decide_eq_false (by omega)).symm
   |cons y ys=>
    have:i<ms.length:=by have:=congrArg Py q;rw[QH,Oh]at this;omega
    rw[qm];exact(decide_eq_true (by omega)).symm
  rw[hv]at h;rw[hi1];wp_walk using OW hl,OW hb;exact h
 |succ k ih=>
  intro i hk h1 h2 prog w A R s h;obtain⟨hp,g,d,tk,os⟩:=s;obtain⟨hl,hb,h⟩:=h;wp_walk using OW hl,OW hb;have hlt:i<items.size:=by omega
  have hi1:items[((i:Nat):Int).toNat]?=ZA items[i]:=by simp[hlt]
  obtain⟨a,t,ha,hva⟩:=oK hi (i:=i) (v:=items[i]) (by simp[hlt]);obtain⟨hl1,ha1⟩:=Og.mp ha;have hdn:ns.drop i=a::ns.drop (i+1):=by rw[Qv hl1,ha1]
  by_cases hlt2:i<items2.size
  .have hi2:items2[((i:Nat):Int).toNat]?=ZA items2[i]:=by simp[hlt2]
   obtain⟨c,u,hc',hvc⟩:=oK hj (i:=i) (v:=items2[i]) (by simp[hlt2]);obtain⟨hl2,hc2⟩:=Og.mp hc';have hdm:ms.drop i=c::ms.drop (i+1):=by rw[Qv hl2,hc2]
   have hc:((i:Int)+1)=((i+1:Nat):Int):=by push_cast;rfl
   rw[hdn,hdm,lexLt_cons]at h;rw[hi1,hi2,hva,hvc];obtain⟨e,he,hiff⟩:=Eb A.in1 ⟨hp,g,d,tk,os⟩ a t c u;refine N5 (he prog w _ _ ?_);cases e with
   |true=>
    rw[if_pos (hiff.mp rfl)]at h;wp_walk;rw[hc];exact⟨Rq plain_eq_loop _,QV entry_eq_loop (by rw[Qk plain_eq_loop _];exact ih (i+1) (by omega) (by omega) (by omega) prog w A R _ ⟨hl,hb,h⟩)⟩
   |false=>
    rw[if_neg (λq=>absurd (hiff.mpr q) OA)]at h;wp_walk using OW hl,OW hb;rw[hi1,hi2,hva,hvc];have hri:=Cm A.in1 ⟨hp,g,d,tk,os⟩ a t c u prog w;wp_walk using hri;exact h
  .have hi2:items2[((i:Nat):Int).toNat]?=ZB:=by simp;omega
   have hm:ms.drop i=[]:=QZ (by omega);rw[hdn,hm,qo]at h;rw[hi1,hi2];wp_walk using OW hl,OW hb;have hf:decide (items.size<items2.size)=ZD:=decide_eq_false (by omega);rw[<-hf]at h;exact h
def uE(l b:ZE)(items items2:Array N8)(n n2:Nat)(dd dd2:Option ZE)(sl sl2:Array (Option N8))(ns ms:List Int)(hi:Qn items.toList ns)(hj:Qn items2.toList ms):
  Meets (Builtin.«list.__lt__» ⟨[.ref l,.ref b],[]⟩)
   (λ_ R s=>s.heap.get? l=ZA {cls:=.type "list",dict:=dd,data:=.seq items n,slots:=sl}/\s.heap.get? b=ZA {cls:=.type "list",dict:=dd2,data:=.seq items2 n2,slots:=sl2} ∧
    R (.ok (.ret (.bool (lexLt ns ms)))) s):=by
 intro prog w A R s h;obtain⟨hp,g,d,tk,os⟩:=s;obtain⟨hl,hb,h⟩:=h;have f3:=AutoSeq1.sub_list_list;wp_walk using OW hl,OW hb;exact⟨Rq plain_eq_loop _,QV entry_eq_loop (by rw[Qk plain_eq_loop _];exact De l b items items2 n n2 dd dd2 sl sl2 ns ms hi hj _ 0 rfl (Pg _) (Pg _) prog w A R _ ⟨hl,hb,by simpa using h⟩)⟩
variable{items2:Array N8}
def lt_lstInts{l b:ZE}{items:Array N8}{n2:Nat}(hl:s.heap.get? l=ZA (seqObj "list" items n))(hb:s.heap.get? b=ZA (seqObj "list" items2 n2))(hi:Qn items.toList ns)(hj:Qn items2.toList ms)
  (hu:A.units<cLine) (h:Q (.bool (lexLt ns ms)) s):ZJ (ZK prog w) A (Pm .Lt (.ref l) (.ref b)) Q E s:=
 Ss (op:=.Lt) ⟨_,hl,rfl⟩ ⟨_,hb,rfl⟩ PySem.F.slot_list_lt PySem.F.entry_list_lt (PySem.F.args_list_lt_2 _ _) (uE l b items items2 n n2 ZB ZB #[] #[] ns ms hi hj)
  ⟨hl,hb,show Pn (lexLt ns ms)≠U4/\Q (.bool (lexLt ns ms)) s from⟨(λx=>nomatch x),h⟩⟩ hu
def Kx:∀{ns ms:List Int},ns.length=ms.length->((Oj ns.length).all λj=>ns.getD j 0 == ms.getD j 0)=decide (ns=ms):=λ{ns ms} h=>by
 rw[Pc,OB,decide_eq_true_iff];constructor
 .intro g;refine RZ h λi h1 h2=>?_;have:=g i (OZ.mpr h1);rw[beq_iff_eq,O0,O0,Od h1,Od h2]at this;exact this
 .rintro rfl i _;exact beq_self_eq_true _
theorem eq_lstInts{l b:ZE}{items:Array N8}{n2:Nat}{Q:Bool->Oc->Prop}(hl:s.heap.get? l=ZA (seqObj "list" items n))(hb:s.heap.get? b=ZA (seqObj "list" items2 n2))(hi:Qn items.toList ns)(hj:Qn items2.toList ms)
  (hu:A.units<cLine) (h:Q (decide (ns=ms)) s):ZJ (ZK prog w) A (eqBool (.ref l) (.ref b)) Q E s:=by
 have z1:items.size=ns.length:=by rw[<-hi.length];simp
 have z2:items2.size=ms.length:=by rw[<-hj.length];simp
 unfold eqBool;refine P5 ?_;refine Xm (λhab=>?_) (λ_=>?_)
 .cases eq_of_beq hab;rw[hl]at hb;cases hb;rw[decide_eq_true (hi.nums.symm.trans hj.nums)]at h;show ZJ (ZK prog w) _ (pure ZC) Q E s;exact Oi h
 .refine N5 ?_;by_cases hsz:items.size=items2.size
  .refine Ss (op:=.Eq) ⟨_,hl,rfl⟩ ⟨_,hb,rfl⟩ U1 Uy (Um _ _) (list_eqAt l b items items2 n n2 ZB ZB #[] #[] hsz λj=>ns.getD j 0 == ms.getD j 0) ⟨hl,hb,λj h1 h2=>?_,?_⟩ hu
   .obtain⟨x,t,hx,hvx⟩:=oK hi (i:=j) (v:=items[j]) (by simp[h1]);obtain⟨y,u,hy,hvy⟩:=oK hj (i:=j) (v:=items2[j]) (by simp[h2]);rw[hvx,hvy,O0,O0,hx,hy];exact Vr x t y u
   .rw[z1,Kx (by omega)];exact⟨(λx=>nomatch x),Pe h⟩
  .refine Ss (op:=.Eq) ⟨_,hl,rfl⟩ ⟨_,hb,rfl⟩ U1 Uy (Um _ _) (list_eq_lengthsAt l b items items2 n n2 ZB ZB #[] #[] (by simpa using hsz)) ⟨hl,hb,?_⟩ hu;rw[decide_eq_false (λz=>hsz (by rw[z1,z2,z]))]at h;exact⟨(λx=>nomatch x),Pe h⟩
end HT
namespace Tr
open PySem PySem.Spec PyProof.Rows L2 PySem.W
noncomputable def i6:RF:={kind:=.function,names:=[("numbers",.local),("len",.globalImplicit)],isGenerator:=ZD,isCoroutine:=ZD,more:=[]}
def m6(p:Pos):SN:={posonlyargs:=[],args:=[{arg:="numbers",annotation:=ZB,pos:=p}],vararg:=ZB,kwonlyargs:=[],kw_defaults:=[],kwarg:=ZB,defaults:=[]}
noncomputable def oF(p1 p2 p3 p4 p5 p6:Pos):ZG:=.Tuple [.UnaryOp .USub (.Call (.Name "len" p1) [.Name "numbers" p2] [] p3) p4,.Name "numbers" p5] 0 p6
structure KpF (F:List ZE)(h h':ZH):Prop where
 keep:∀b o,b∉F->h.get? b=ZA o->h'.get? b=ZA o
 slot:∀b o,b∈F->h.get? b=ZA o->∃sl,h'.get? b=ZA {o with slots:=sl}
variable{h:ZH}
def KpF.trans{F:List ZE}{h1 h2:ZH}(a:KpF F h h1)(b:KpF F h1 h2):KpF F h h2:=⟨λc o n e=>b.keep c o n (a.keep c o n e),λc o n e=>by obtain⟨sl,e1⟩:=a.slot c o n e;obtain⟨sl',e2⟩:=b.slot c _ n e1;exact⟨sl',e2⟩⟩
def VF(F:List ZE)(h:ZH)(v:N8)(ns:List Int):Prop:=∃k t tk b its n ms,v=.ref k/\k∉F/\b∉F/\h.IsTuple k #[.int t tk,.ref b]/\h.get? b=ZA (seqObj "list" its n)/\Qn its.toList ms/\ns=t::ms
def VF.keep{F:List ZE}{h':ZH}(a:VF F h v ns)(k:∀b o,b∉F->h.get? b=ZA o->h'.get? b=ZA o):VF F h' v ns:=
 let ⟨q,t,tk,b,its,n,ms,e,h1,h2,⟨o,g,r⟩,h4,h5,h6⟩:=a
 ⟨q,t,tk,b,its,n,ms,e,h1,h2,⟨o,k _ _ h1 g,r⟩,k _ _ h2 h4,h5,h6⟩
variable{H:Hp}
def Fg{b:ZE}(hok:HOk P w H h)(q:SqL [] H b (ms.map V.int)):(∃u,H b=ZA u)/\∃its n,h.get? b=ZA (seqObj "list" its n)/\Qn its.toList ms:=by
 have back:∀{xs:List Int}{us:List N8},Vals (xs.map V.int) us->Qn us xs:=by
  intro xs;induction xs with
  |nil=>intro us r;cases r;exact .nil
  |cons x xs ih=>
   intro us r;cases r with
   |cons a r=>
    obtain⟨t,rfl⟩:=a;exact .cons x t (ih r)
 rcases q with(q|⟨o,q⟩)|⟨o,xs,n,z,_⟩
 .obtain⟨_,its,n,rv,e⟩:=hok b _ q;exact⟨⟨_,q⟩,its.toArray,n,e,by simpa using back rv⟩
 .obtain⟨_,_,its,n,rv,e⟩:=hok b _ q;exact⟨⟨_,q⟩,its.toArray,n,e,by simpa using back rv⟩
 .cases z
variable{CX:BJ}{G:List ZE}{X:Cx}{a f:ZE}{mg:WF}{p1 p3 p4 p5 p6:Pos}{kw:Uf}{σ:L2.St}
section
variable{q:Str}
def Dt{base:ZH}{outer:List Env}{E:XK}{p2:Pos}(hm:mg "len" =ZB):
  df (jm CX P w [] mg base ["numbers"] q i6 f cd A outer s H E) (oF p1 p2 p3 p4 p5 p6) (aQ (ae (o1 kW (cl cA (ae (vr 0) ai))) (ae (vr 0) ai))):=
 Ho (oy (Hq (zm cL hm (by decide+kernel) (oy (Cr 0) xX))) (oy (Cr 0) xX))
theorem Dq{ob:Obj}{pp p2:Pos}(I:Inv X kw σ H s)(hr:Room (k+3) X.A)(L:MF s.heap X.mg q (m6 pp) (oF p1 p2 p3 p4 p5 p6) i6 f)
  (ha:H a≠ZB) (ho:s.heap.get? a=ZA (seqObj "list" its.toArray n)) (hi:Qn its ms) (hz':its.length<=ZI) (hm:X.mg "len" =ZB) (hG:∀c∈G,c≠a/\∃o,s.heap.get? c=ZA o):
  ZJ (ZK X.prog X.w) X.A.in1.in1 (call (.ref f) [.ref a]) (λu s'=>s'.os=s.os/\Rh s'.gens/\KpF (kJ X.stack) s.heap s'.heap/\VF G s'.heap u ((-(ms.length:Int))::ms)) E s:=by
 have hl:=hi.length;have e0:=I.Nx;let H2:Hp:=λb=>if b=a then ZA (.frz (seqObj "list" its.toArray n) (.lst (ms.map V.int)))else ZB;have h2a:H2 a=ZA (.frz (seqObj "list" its.toArray n) (.lst (ms.map V.int))):=if_pos rfl;have h2n:∀b,b≠a->H2 b=ZB:=λb hb=>if_neg hb;have naF:∀b∈kJ X.stack,b≠a:=λb hb z=>ha (z▸e0.frf b hb);have hok2:HOk X.prog X.w H2 s.heap:=λb u e=>by
  by_cases hb:b=a
  .subst hb;rw[h2a]at e;cases e;exact⟨ho,by rw[N9];omega,its,n,mH hi,ho⟩
  .rw[h2n b hb]at e;cases e
 have e1:Env0 X.prog X.w [] X.mg X.base X.A X.stack s H2:=⟨e0.frames,⟨(λb o e=>by cases e),e0.mod.glob,e0.mod.blt,e0.mod.nolimit⟩,λb o e=>⟨(e0.bs b o e).1,h2n b λz=>ha (z▸(e0.bs b o e).2)⟩,e0.bsz,e0.funs,λb hb=>h2n b (naF b hb),hok2,e0.bare,λf o fd c oc vs P _ e=>by cases e⟩;refine UW (R9 (Ds (CX:=λ_ _ _ _ _ _=>False) (E:=λ_ _ _=>False) (N:=["numbers"]) (ps:=["numbers"]) (us:=[.ref a]) (vs:=[.ref a]) (Q:=λv H'=>Same H2 H'/\∃kk b,v=.ref kk/\H' kk=ZA (.tup [.int (-(ms.length:Int)),.ref b])/\SqL [] H' b (ms.map V.int)) L fsc hr.in1.in1 e1.in1.in1 (λc ctv=>rfl) rfl (.cons rfl .nil) λc=>⟨_,Dt hm,[.va (.scr ms)],zF,⟨λ_ _=>False,rfl,λi t e=>?_,λi o e=>?_,λ_ _ z=>z.elim,λ_ _ _ z=>z.elim,λ_ z=>z.elim⟩,?_⟩) λr s' hq=>?_)
 .cases i with
  |zero=>cases e;exact⟨.ref a,rfl,by unfold Rep;exact⟨a,rfl,λz=>z,.inl (.inr ⟨_,h2a⟩)⟩⟩
  |succ i=>simp at e
 .cases i with
  |zero=>cases e
  |succ i=>simp at e
 .have ev:aQ (ae (o1 kW (cl cA (ae (vr 0) ai))) (ae (vr 0) ai)) [.va (.scr ms)]=.ok (.tup [.int (-(ms.length:Int)),.scr ms]):=by
   have e1:cl cA (ae (vr 0) ai) [.va (.scr ms)]=.ok (.int ms.length):=by show Rs.ok (T.int ((ms.map T.int).length:Nat))=_;rw[N9]
   have e2:o1 kW (cl cA (ae (vr 0) ai)) [.va (.scr ms)]=.ok (.int (-(ms.length:Int))):=by unfold o1;rw[e1];rfl
   unfold aQ;rw[ae,e2];show(if ([T.int (-(ms.length:Int)),T.scr ms]:List T).length<=ZI then Rs.ok (T.tup [.int (-(ms.length:Int)),.scr ms])else .bad)=_;rw[if_pos (by rw[PD];simp)]
  rw[ev];intro H' sm v rv;refine⟨sm,?_⟩;obtain⟨kk,vs,rfl,_,hk,rs⟩:=Rep.Fk.mp rv;obtain⟨v1,w1,rfl,r1,rs⟩:=Reps.me.mp rs;obtain⟨v2,w2,rfl,r2,rs⟩:=Reps.me.mp rs;cases Reps.Da.mp rs;cases Rep.AC.mp r1;unfold Rep at r2;obtain⟨b,rfl,_,sq⟩:=r2;exact⟨kk,b,rfl,hk,sq⟩
 .cases r with
  |error e=>exact QM hq
  |ok fl=>
   cases fl with
   |next=>exact QM hq
   |brk=>exact QM hq
   |cont=>exact QM hq
   |ret u=>
    obtain⟨v,H',os,bare,un,hok,rv,sm,kk,b,rfl,hk,sq⟩:=hq;obtain rfl:u=Oz kk:=rv;have nF:∀c u,H' c=ZA u->c∉G:=λc u e hc=>by obtain⟨na,o,eo⟩:=hG c hc;have:=un.free c o eo (h2n c na) (by simp);rw[e]at this;cases this
    obtain⟨⟨u2,hb2⟩,xs,m,ho2,hi2⟩:=Fg hok sq;obtain⟨_,its2,rv2,tp⟩:=hok kk _ hk;have tp':∃tk,its2=[.int (-(ms.length:Int)) tk,.ref b]:=by
     cases rv2 with
     |cons a1 r=>
      obtain⟨t,rfl⟩:=a1;cases r with
      |cons a2 r=>
       cases r;exact⟨t,by rw[show _=Oz b from a2]⟩
    obtain⟨tk,rfl⟩:=tp';refine⟨os,bare,⟨λc o hc e=>?_,λc o hc e=>?_⟩,kk,_,tk,b,xs,m,ms,rfl,nF _ _ hk,nF _ _ hb2,tp,ho2,hi2,rfl⟩
    .by_cases hca:c=a
     .subst hca;rw[ho]at e;cases e;exact(hok c _ (un.frzs c _ _ h2a)).1
     .exact un.keep c o e (h2n c hca) hc (by simp)
    .exact un.slot c o e (h2n c (naF c hc)) hc (by simp)
end
def A0(t u:Int)(a b:List Int):cQ (t::a) (u::b)=if t=u then cQ a b else decide (t<u):=rfl
theorem Dv{a:Int}{t u:Tok}{Q:Bool->Oc->Prop}(h:Q (decide (a<b)) s):∀k,ZJ (ZK prog w) A (oneLt' k (.int a t) (.int b u)) Q E s
 |true=>oneLt_int h
 |false=>by rw[oneLt'_eq];simp only[Qc,if_false];exact N5 (wpAny_lt_int (show ZJ (ZK prog w) A (truthOfDropped (.bool (decide (a<b)))) Q E s from Pe h))
theorem zM:∀(l m:List Int),HT.lexLt l m=cQ l m
 |[],[] =>rfl
 |[],_::_=>rfl
 |_::_,[] =>rfl
 |a::l,b::m=>by rw[HT.lexLt_cons,zM l m];rfl
def Cd(G:List ZE):RK where
 V:=VF G
 inj:=λ⟨k,t,tk,b,its,n,ms,e,_,_,⟨o,h1,_,c1,h2⟩,h3,h4,h5⟩ ⟨k',t',tk',b',its',n',ms',e',_,_,⟨o',h1',_,c1',h2'⟩,h3',h4',h5'⟩=>by subst e;cases e';rw[h1]at h1';cases h1';rw[h2]at h2';cases h2';rw[h3]at h3';cases h3';rw[h5,h5',<-h4.nums,<-h4'.nums]
 on:=λa up=>a.keep λb o _ e=>up b o e
 fst:=λ⟨k,t,tk,b,its,n,ms,e,_,_,⟨o,h1,c1,c2,h2⟩,_⟩=>⟨k,_,c2,o,t,tk,e,h1,c1,h2,rfl⟩
 lt:=λ{prog w A s E x y a b Q} hu ⟨xk,t,k,xb,xi,xn,xm,ex,_,_,⟨xo,xh,xc,xq,xd⟩,xl,xi',xr⟩ ⟨yk,u,k',yb,yi,yn,ym,ey,_,_,⟨yo,yh,yc,yq,yd⟩,yl,yi',yr⟩ q=>by
  subst ex ey xr yr;refine kat_lt xh xd yh yd ?_;refine kat_cons (WQ ?_);rw[A0]at q;by_cases z:t=u
  .rw[beq_iff_eq.mpr z];rw[if_pos z]at q;refine kat_yes (kat_cons (HT.eq_lstInts xl yl xi' yi' (by omega) ?_));by_cases z2:xm=ym
   .rw[decide_eq_true z2];subst z2;rw[i5]at q;exact kat_yes (kat_nil q)
   .rw[decide_eq_false z2];refine kat_no (kat_one _ _ (HT.lt_lstInts xl yl xi' yi' (by omega) ?_));rw[zM];exact q
  .rw[beq_eq_false_iff_ne.mpr z];rw[if_neg z]at q;exact kat_no (Dv q _)
theorem nJ{R:α->β->Prop}{a:α}{b:β}(h:R a b):∀{l:List α}{m:List β},Uj R l m->Uj R (l++[a]) (m++[b])
 |_,_,.nil=>.cons h .nil
 |_,_,.cons r t=>.cons r (nJ h t)
theorem lx{R:α->β->Prop}:∀{l:List α}{m:List β},Uj R l m->l.length=m.length
 |_,_,.nil=>rfl
 |_,_,.cons _ t=>by rw[Oh,Oh,lx t]
theorem pJ:∀{l:List N8}{m:List (List Int)},Uj (VF G h) l m->l.map ((Cd G).row h)=m
 |_,_,.nil=>rfl
 |_,_,.cons r t=>by rw[Oa,RK.NK (R:=Cd G) r,pJ t]
theorem pK{R:α->β->Prop}:∀{l:List α}{m:List β},Uj R l m->∀a∈l,∃b,R a b
 |_,_,.nil,a,h=>by cases h
 |_,_,.cons r t,a,h=>by
  rcases Oe.mp h with rfl|h
  .exact⟨_,r⟩
  .exact pK t a h
variable{kA:Array N8}{kS:ZE}
section
variable {F:List ZE}{L:ZE}{rows:List (List Int)}{P:Fin->Oc->Prop}
def uF{h0 h':ZH}(k:KpF F h0 h)(ha:h0.objs.size<=a)(u:∀b o,b≠a->h.get? b=ZA o->h'.get? b=ZA o):KpF F h0 h':=
 ⟨λb o n e=>u b o (O5 (Oo (Os e) ha)) (k.keep b o n e),λb o n e=>let ⟨sl,e1⟩:=k.slot b o n e;⟨sl,u b _ (O5 (Oo (Os e) ha)) e1⟩⟩
def Srt(rows:List (List Int))(vs out:List N8):Prop:=∃ps:List (List Int×N8),ps.Perm (rows.zip vs)/\out=ps.map WW/\(ps.map WX).Pairwise (λa b=>nP a b=ZC)
theorem Gn{e e1:Nat}(hs:s0.heap.objs.size<=L)(hk:s0.heap.objs.size<=kS)(hne:kS≠L)(os:s.os=s0.os)(bare:Rh s.gens)(kp:KpF F s0.heap s.heap)
  (hL:s.heap.get? L=ZA (seqObj "list" #[] e1)) (hK:s.heap.get? kS=ZA (seqObj "list" kA e)) (hkz:kA.size<=64) (hf:S4 st=ZB) (hz:(arrOf st).size<=64)
  (q:∀s3 c,s3.os=s0.os->Rh s3.gens->KpF F s0.heap s3.heap->s3.heap.get? L=ZA (seqObj "list" ((arrOf st).map (·.2)) c)->P (.done (.ret .none)) s3):
  ZJ (ZK prog w) A (ksk_tail L ZD e1 (.ref kS) st) P E s:=by
 have u1:∀b o,b≠kS->s.heap.get? b=ZA o->(s.heap.update kS (PB λ_=>(#[]:Array N8))).get? b=ZA o:=λb o n e=>by rw[Rp _ _ _ _ n];exact e
 have hL1:=u1 L _ hne.symm hL;generalize hg:(arrOf st).map (·.2)=g at q;have hgz:g.size<=ZI:=by rw[<-hg,Array.size_map,PD];omega
 obtain⟨c2,hc2⟩:∃c2,((s.heap.update kS (PB λ_=>(#[]:Array N8))).update L (PB λ_=>g)).get? L=ZA (seqObj "list" g c2):=⟨_,UR hL1 λ_=>g⟩;have kp3:KpF F s0.heap ((s.heap.update kS (PB λ_=>(#[]:Array N8))).update L (PB λ_=>g)):=uF (uF kp hk u1) hs λb o n e=>by rw[Rp _ _ _ _ n];exact e
 unfold ksk_tail;simp only[Qc,if_false];rw[hg];refine N5 (Ue hK rfl ?_ (by rw[PD];omega) (Pg _));refine N5 (Ug ?_);refine N5 (seqEpoch_at hL1 rfl ?_);refine N5 (Ue hL1 rfl ?_ (Pg _) (OG hgz (Xc _)));rw[hf];simp only[bne_self_eq_false,Qc,if_false];exact Oi (q {s with heap:=_} c2 os bare kp3 hc2)
theorem JP{e e1:Nat}(hu:A.units+60<cLine)(hs:s0.heap.objs.size<=L)(hk:s0.heap.objs.size<=kS)(hne:kS≠L)(os:s.os=s0.os)(bare:Rh s.gens)(kp:KpF F s0.heap s.heap)
  (hL:s.heap.get? L=ZA (seqObj "list" #[] e1)) (hK:s.heap.get? kS=ZA (seqObj "list" kA e)) (pr:Uj (VF G s.heap) kA.toList rows) (hlen:rows.length=vs.length) (h64:vs.length<64)
  (q:∀s3 out c,s3.os=s0.os->Rh s3.gens->KpF F s0.heap s3.heap->s3.heap.get? L=ZA (seqObj "list" out c)->Srt rows vs out.toList->P (.done (.ret .none)) s3):
  ZJ (ZK prog w) A (ksk_end L ZD vs.toArray e1 (.ref kS) kA) P E s:=by
 have hkl:kA.toList.length=vs.length:=by rw[lx pr,hlen]
 have hsz:kA.size=vs.length:=by rw[<-PL];exact hkl
 have fin:∀st:SM,S4 st=ZB->(arrOf st).toList.Perm (kA.toList.zip vs)->((arrOf st).toList.map λp=>(Cd G).row s.heap p.1).Pairwise (λa b=>nP a b=ZC)->ZJ (ZK prog w) A (ksk_tail L ZD e1 (.ref kS) st) P E s:=λst hf hp hs'=>by
  have hz:(arrOf st).size<=64:=by have:=hp.length_eq;rw[PL,Xd]at this;omega
  refine Gn hs hk hne os bare kp hL hK (by omega) hf hz λs3 c o1 o2 o3 o4=>q s3 _ c o1 o2 o3 o4 ⟨(arrOf st).toList.map λp=>((Cd G).row s.heap p.1,p.2),?_,?_,?_⟩
  .have:=hp.map λp:N8×N8=>((Cd G).row s.heap p.1,p.2);rw[show(kA.toList.zip vs).map (λp:N8×N8=>((Cd G).row s.heap p.1,p.2))=(kA.toList.map ((Cd G).row s.heap)).zip vs by rw[List.zip_map_left];exact OL λ_ _=>rfl,pJ pr]at this;exact this
  .rw[Array.toList_map,OK];rfl
  .rw[OK];exact hs'
 unfold ksk_end;simp only[Qc,if_false];by_cases h2:vs.toArray.size<2
 .rw[if_pos h2,if_pos h2];refine N5 (Oi ?_);rw[StateT.run_pure];refine N5 (Oi ?_);try dsimp only
  refine fin (SortSt.mk' general' (kA.zip vs.toArray) #[] 7 ZB) rfl (by show(kA.zip vs.toArray).toList.Perm _;simp) ?_;show(((kA.zip vs.toArray).toList.map _).Pairwise _);have:(kA.zip vs.toArray).toList.length<=1:=by rw[Ou]at h2;simp;omega
  generalize (kA.zip vs.toArray).toList=l at this
  match l,this with
  |[],_=>exact V0
  |[x],_=>exact List.pairwise_singleton _ _
 .rw[if_neg h2,if_neg h2];rw[Ou]at h2;have hv:∀v∈kA.toList,∃ns,(Cd G).V s.heap v ns:=λv hm=>pK pr v hm;have kz:kA=kA.toList.toArray:=by simp
  rw[kz];refine N5 (kk3 (R:=Cd G) hv (λz=>by rw[z]at hkl;simp at hkl;omega) ?_);refine N5 (Qm (run3 (R:=Cd G) (ks:=kA.toList) (vs:=vs) (Q:=λst' s'=>s'=s/\S4 st'=ZB/\(arrOf st').toList.Perm (kA.toList.zip vs)/\((arrOf st').toList.map λp=>(Cd G).row s.heap p.1).Pairwise (λa b=>nP a b=ZC)) hu hkl hv (by omega) h64 λst' hf hp hs=>⟨rfl,hf,hp,hs⟩) (λr s' ⟨es,hf,hp,hs⟩=>?_) λ_ _ e=>e);subst es;exact fin _ hf hp hs
theorem JQ{f:N8}{M:Oc->Prop}(hu:A.units+60<cLine)(hF:∀b∈F,b<s0.heap.objs.size)(hs:s0.heap.objs.size<=L)(os:s.os=s0.os)(bare:Rh s.gens)(kp:KpF F s0.heap s.heap)
  (ho:s.heap.get? L=ZA (seqObj "list" vs.toArray n)) (hlen:rows.length=vs.length) (h64:vs.length<64)
  (turn:∀(i:Nat)(v:N8)(ns:List Int)(kS:ZE),s0.heap.objs.size<=kS->vs[i]?=ZA v->rows[i]?=ZA ns->∀s':Oc,s'.os=s0.os->Rh s'.gens->KpF F s0.heap s'.heap->(∃o,s'.heap.get? kS=ZA o) ->
   ZJ (ZK prog w) A (call f [v]) (λu s''=>s''.os=s'.os/\Rh s''.gens/\KpF F s'.heap s''.heap/\VF (kS::F) s''.heap u ns) (λ_ _=>False) s')
  (q:∀s3 out c,s3.os=s0.os->Rh s3.gens->KpF F s0.heap s3.heap->s3.heap.get? L=ZA (seqObj "list" out c)->Srt rows vs out.toList->P (.done (.ret .none)) s3):
  ZJ (ZK prog w) A (ksk_tree L f ZD) P E s:=by
 obtain⟨e1,ho1⟩:∃e1,(s.heap.update L (PB λ_=>(#[]:Array N8))).get? L=ZA (seqObj "list" #[] e1):=⟨_,UR ho λ_=>#[]⟩;have ha:=Os ho;have kp1:KpF F s0.heap (s.heap.update L (PB λ_=>(#[]:Array N8))):=uF kp hs λb o n e=>by rw[Rp _ _ _ _ n];exact e
 unfold ksk_tree;refine N5 (WB ho rfl ?_);refine N5 (Ue ho rfl ?_ (by rw[Ou,PD];omega) (Pg _));refine N5 (seqEpoch_at ho1 rfl ?_);refine N5 (wpAny_newTuple ?_ (by show vs.length<=_;rw[PD];omega));refine N5 (wpAny_newList ?_ (Pg _));refine P5 ?_;have hsz:((s.heap.update L (PB λ_=>(#[]:Array N8))).push (seqObj "tuple" vs.toArray 0)).objs.size=s.heap.objs.size+1:=by rw[size_push',WM]
 have up:∀b o,(s.heap.update L (PB λ_=>(#[]:Array N8))).get? b=ZA o->(((s.heap.update L (PB λ_=>(#[]:Array N8))).push (seqObj "tuple" vs.toArray 0)).push (seqObj "list" #[] 0)).get? b=ZA o:=λb o e=>Of _ (Of _ e);have kp2:KpF F s0.heap (((s.heap.update L (PB λ_=>(#[]:Array N8))).push (seqObj "tuple" vs.toArray 0)).push (seqObj "list" #[] 0)):=⟨λb o n e=>up b o (kp1.keep b o n e),λb o n e=>let ⟨sl,e'⟩:=kp1.slot b o n e;⟨sl,up b _ e'⟩⟩;have hL2:=up L _ ho1;have hK2:(((s.heap.update L (PB λ_=>(#[]:Array N8))).push (seqObj "tuple" vs.toArray 0)).push (seqObj "list" #[] 0)).get? (s.heap.objs.size+1)=ZA (seqObj "list" #[] 0):=by rw[<-hsz];exact Oy _ rfl
 show ZJ _ _ (ksk_rest L f ZD vs.toArray e1 (.ref ((s.heap.update L (PB λ_=>(#[]:Array N8))).push (seqObj "tuple" vs.toArray 0)).objs.size)) _ _ {s with heap:=((s.heap.update L (PB λ_=>(#[]:Array N8))).push (seqObj "tuple" vs.toArray 0)).push (seqObj "list" #[] 0)};rw[hsz];generalize hkS:s.heap.objs.size+1=kS at hK2 ⊢;have hne:kS≠L:=by rw[<-hkS];exact QC (RI ha)
 have hk:s0.heap.objs.size<=kS:=by rw[<-hkS];exact OG hs (Nat.le_succ_of_le (P9 ha))
 have nF:∀a,s0.heap.objs.size<=a->a∉F:=λa h z=>absurd (hF a z) (Nat.not_lt.mpr h);generalize ((s.heap.update L (PB λ_=>(#[]:Array N8))).push (seqObj "tuple" vs.toArray 0)).push (seqObj "list" #[] 0)=h6 at kp2 hL2 hK2 ⊢;unfold ksk_rest;refine N5 (SA ?_);first
  |rw[List.forIn_toArray]
  | (rw[<-VE];simp only[List.toList_toArray])
  |rw[<-VE]
 refine N5 (ksk_fold (λi s'=>s'.os=s0.os/\Rh s'.gens/\KpF F s0.heap s'.heap/\s'.heap.get? L=ZA (seqObj "list" #[] e1)/\∃kA e,s'.heap.get? kS=ZA (seqObj "list" kA e)/\Uj (VF (kS::F) s'.heap) kA.toList (rows.take i)) vs 0 {s with heap:=h6}
  ⟨os,bare,kp2,hL2,#[],0,hK2,by simpa using Paired.nil⟩ ?step ?done)
 case step=>
  rintro j x s' hx ⟨o1,o2,o3,o4,kA,e,o5,o6⟩;simp only[R7]at o6 ⊢;have hj:j<vs.length:=(Og.mp hx).1;obtain⟨ns,hns⟩:∃k,rows[j]?=ZA k:=⟨_,Od (by omega)⟩;have hz:kA.size<=vs.length:=by have h1:=lx o6;rw[PL,Po]at h1;omega
  refine N5 (VW (Qm (turn j x ns kS hk hx hns s' o1 o2 o3 ⟨_,o5⟩) (λu s'' he=>?_) λ_ _ hF=>hF.elim));obtain⟨r1,r2,r3,r4⟩:=he;try dsimp only
  have k5:=r3.keep _ _ (nF kS hk) o5;have u1:∀b o,b≠kS->s''.heap.get? b=ZA o->(s''.heap.update kS (PB (·.push u))).get? b=ZA o:=λb o n e=>by rw[Rp _ _ _ _ n];exact e
  have ek:rows.take (j+1)=rows.take j++[ns]:=by rw[List.take_add_one,hns];simp
  have ea:(kA.push u).toList=kA.toList++[u]:=by simp
  have vk:∀v ms,VF (kS::F) s''.heap v ms->VF (kS::F) (s''.heap.update kS (PB (·.push u))) v ms:=λv ms z=>z.keep λb o n e=>u1 b o (λy=>n (by simp[y])) e;refine N5 (Ue k5 rfl ?_ (by rw[PD];omega) (OG (R6 (Array.size_push ..)) (by rw[PD];omega)));refine Oi ⟨rfl,r1.trans o1,r2,uF (o3.trans r3) hk u1,u1 L _ hne.symm (r3.keep _ _ (nF L hs) o4),kA.push u,_,UR k5 (·.push u),?_⟩;rw[ea,ek];exact nJ (vk _ _ r4) (Paired.NA o6 λv ms z=>vk v ms (z.keep λb o n e=>r3.keep b o (λy=>n (N6 _ y)) e))
 case done=>
  rintro s' ⟨o1,o2,o3,o4,kA,e,o5,o6⟩;have e3:rows.take (0+vs.length)=rows:=Sr (by omega);rw[e3]at o6;try dsimp only
  refine N5 (WB o5 rfl ?_);exact JP hu hs hk hne o1 o2 o3 o4 o5 o6 hlen h64 q
end
noncomputable def jR:List T->Option (List (List Int))
 |[] =>ZA []
 |.lst l::r=>match gq l,jR r with
  |some ns,ZA k=>ZA (ns::k)
  |_,_=>ZB
 |_=>ZB
def BG(ns:List Int):List Int:=(-(ns.length:Int))::ns
noncomputable def vE:List T->Rs T
 |[.lst l] =>match jR l with
  |some k=>if k.length<64 then .ok (.lst (((k.map BG).mergeSort nP).map λr=>.lst (r.tail.map .int)))else .bad
  |none=>.bad
 |_=>.bad
variable{K:Frag}{O:Ow}{P c:ZE}{e:ZG}
section
variable {H':Hp}
def DL(I:Inv X kw σ H s)(os:s'.os=s.os)(bare:Rh s'.gens)(kp:KpF (kJ X.stack) s.heap s'.heap)(free:∀b o,s.heap.get? b=ZA o->H b=ZB->H' b=ZB)(same:Same H H')(hok:HOk X.prog X.w H' s'.heap):Inv X kw σ H' s':=by
 obtain⟨hh,g,d,t,os'⟩:=s';obtain rfl:os'=s.os:=os;refine I.call (ch:=[]) ⟨λb o e n hb _=>kp.keep b o hb e,λb o e n hb _=>kp.slot b o hb e,λb o e n _=>free b o e n,λb o e _=>?_,λb xs e=>same _ _ e,λb o u e=>same _ _ e,λb q e=>same _ _ e⟩ hok bare λb z=>absurd z (by simp);by_cases hb:b∈kJ X.stack
 .obtain⟨sl,e'⟩:=kp.slot b o hb e;exact⟨_,e'⟩
 .exact⟨o,kp.keep b o hb e⟩
def DP(I:Inv X kw σ H s)(kp:KpF (kJ X.stack) s.heap s'.heap):HOk X.prog X.w H s'.heap:=λb u e=>
 (I.hok b u e).M4 (λc v hc q=>kp.keep c v (λz=>by
  have:=I.IR c z;rcases hc with rfl|hc
  .rw[e]at this;cases this
  .rw[hc]at this;cases this) q) (λ_ q=>q) λ_ _ q=>q
theorem uD:∀{l:List T}{k:List (List Int)}{ws:List V}{its:List N8},jR l=ZA k->Reps K O H l ws->Vals ws its->k.length=its.length/\∀(j:Nat)(r:List Int)(v:N8),(k.map BG)[j]?=ZA r->its[j]?=ZA v->∃ns b,r=BG ns/\v=.ref b/\Rep K O H (.lst (ns.map .int)) (.ref b)
 |[],k,ws,its,h,rs,rv=>by cases h;cases Reps.Da.mp rs;cases rv;exact⟨rfl,λj r v e=>by simp at e⟩
 |t::l,k,ws,its,h,rs,rv=>by
  obtain⟨v0,ws',rfl,r0,rs'⟩:=Reps.me.mp rs;cases rv with
  |cons a rv=>
   cases t with
   |lst m=>
    unfold jR at h;split at h
    .rename_i ns k' h1 h2;cases h;obtain⟨g1,g2⟩:=uD h2 rs' rv;refine⟨by rw[Oh,Oh,g1],λj r v e1 e2=>?_⟩;cases j with
     |zero=>
      cases e1;cases e2;obtain⟨b,vs,rfl,_⟩:=Rep.Do.mp r0;refine⟨ns,b,rfl,a,?_⟩;rw[<-rY h1];exact r0
     |succ j=>exact g2 j r v (by simpa using e1) (by simpa using e2)
    .cases h
   |_=>unfold jR at h;cases h
theorem m9:∀{xs:List Int}{us:List N8},Vals (xs.map V.int) us->Qn us xs
 |[],us,r=>by cases r;exact .nil
 |x::xs,us,r=>by
  cases r with
  |cons a r=>
   obtain⟨t,rfl⟩:=a;exact .cons x t (m9 r)
theorem vD:∀{ps:List (List Int×N8)},(∀p∈ps,∃ns b,p.1=BG ns/\p.2=.ref b/\Rep K O H (.lst (ns.map .int)) (.ref b))->Vals (ps.map λp=>bkV p.2) (ps.map WW)/\Reps K O H (ps.map λp=>.lst (p.1.tail.map .int)) (ps.map λp=>bkV p.2)
 |[],_=>⟨.nil,Reps.GM⟩
 |p::ps,h=>by obtain⟨ns,b,e1,e2,r⟩:=h p Ob;obtain⟨g1,g2⟩:=vD λq hq=>h q (N6 _ hq);rw[Oa,Oa,Oa,e1,e2];exact⟨.cons rfl g1,Reps.Gc r g2⟩
theorem IY{fs:Y0}{p pos kp p8 pp p2:Pos}(hr:Room (k+3) X.A)(hm:X.mg "sorted" =ZB)(hml:X.mg "len" =ZB)(hcode:X.env.code=.ref c)(C:CodeHd X.base c P)(hTb:∀H,Tb X.K X.mg H->H P=ZA (.tbl (X.env.qual++ "<lambda>")))(B:MX X.K X.mg)(ha:qX X [e] fs)
  (hst:bo [e]=ZC:=by rfl) (hg:Gl X "sorted":=by rfl) (hcl:UZ i6 X.env=pure []:=by rfl):
  df X (.Call (.Name "sorted" p) [e] [⟨ZA "key",.Lambda (m6 pp) (oF p1 p2 p3 p4 p5 p6) i6 p8,kp⟩] pos) (cl vE fs):=by
 intro kw s σ H Q I ⟨Z,O,Ev,hq⟩;unfold bo at hst;rw[N7]at hst;have e2:Ov [e] X.env=(ZD,eval e X.env)::Ov [] X.env:=bp hst.1;refine Pa (fw I hg hm (show O9 "sorted" =ZA (.builtin "sorted")by decide+kernel) ?_ (by decide) (by decide));refine callWith_kw (cM (ha pos kw s σ H _ I (eQ Ev hq)) λus s1 ⟨vs,H1,I1,r1,ts,rs,sm1,E',q1⟩=>?_) (by rw[e2];rfl) (by rw[e2];rfl);refine kws_cons (Dr I1 hcode C (hTb H1 I1.tb) B rfl hcl λf H2 h2 tk2 hf sm2 I2 hfn L2_=>kws_nil ?_);obtain⟨cc,ctv,lo,lc,lown⟩:=L2_;have q2:=Post.later q1 sm2;have rs2:=rs.same sm2;have E2:=E'.same sm2;unfold vE at q2;split at q2
 .rename_i l;split at q2
  .rename_i kk hk;by_cases h64:kk.length<64
   .rw[if_pos h64]at q2;obtain⟨v1,rfl,ra⟩:=rs2.one;obtain⟨c1,ws,rfl,n1,hx,rx⟩:=Rep.Do.mp ra;obtain⟨u1,rfl,z1⟩:=Vals.one r1;obtain rfl:u1=Oz c1:=z1;obtain⟨z,its,n,rv,hlen,eo⟩:=I2.KM hx;obtain⟨g1,g2⟩:=uD hk rx rv;have hF:∀b∈kJ X.stack,b<h2.objs.size:=λb hb=>by obtain⟨o,eo,_⟩:=(I2.stack.mem hb).2;exact Os eo
    have hF1:∀b∈kJ X.stack,b<s1.heap.objs.size:=λb hb=>by obtain⟨o,eo,_⟩:=(I1.stack.mem hb).2;exact Os eo
    have fF:f∉kJ X.stack:=λhb=>absurd (hF1 f hb) (Nat.not_lt.mpr hf);have cF:cc∉kJ X.stack:=λhb=>by have:=I2.IR cc hb;rw[lown]at this;cases this
    have i64:its.length<64:=by omega
    show ZJ (ZK X.prog X.w) X.A (call (.builtin "sorted") [.ref c1] [(Om "key",.ref f)]) _ _ {s1 with heap:=h2,toks:=tk2};refine call_function_entry_kw kind_sorted plain_sorted entry_sorted (ksk_s1 _ _) ?_;unfold Builtin.«sorted»;refine N5 (m:=checkCount "sorted" 1 1 _) (Oi ?_);refine N5 (collect_list (s:={s1 with heap:=h2,toks:=tk2}) ⟨_,eo,rfl,n,rfl⟩ ?_ (by rw[PD];omega));refine N5 (wpAny_newList ?_ (by rw[PD];omega));have hsz:((h2.push (seqObj "list" #[] 0)).update h2.objs.size (PB (· ++its.toArray))).objs.size=h2.objs.size+1:=by rw[WM,size_push']
    have hoL:(((h2.push (seqObj "list" #[] 0)).update h2.objs.size (PB (· ++its.toArray))).push (seqObj "list" its.toArray 0)).get? (h2.objs.size+1)=ZA (seqObj "list" its.toArray 0):=by rw[<-hsz];exact Oy _ rfl
    have keep:∀b o,h2.get? b=ZA o->(((h2.push (seqObj "list" #[] 0)).update h2.objs.size (PB (· ++its.toArray))).push (seqObj "list" its.toArray 0)).get? b=ZA o:=λb o q=>by have hlt:b<h2.objs.size:=Os q;rw[Wc _ _ _ (by rw[hsz];exact O5 (RI hlt)),Rp _ _ _ _ (O5 hlt),Wc _ _ _ (O5 hlt)];exact q
    show ZJ _ _ _ _ _ {s1 with heap:=((h2.push (seqObj "list" #[] 0)).update h2.objs.size (PB (· ++its.toArray))).push (seqObj "list" its.toArray 0),toks:=tk2};rw[hsz];refine N5 (P5 (wpAny_call_entry_kw slot_list_sort ⟨_,hoL,rfl⟩ entry_list_sort ?body (ksk_l1 _ _)));show ZJ (ZK X.prog X.w) X.A.in1.in1 (Builtin.«list.sort» ⟨[.ref (h2.objs.size+1)],[(Om "key",.ref f)]⟩) _ _ _;rw[ksk_t1];refine JQ (F:=kJ X.stack) (s0:={s1 with heap:=h2,toks:=tk2}) (rows:=kk.map BG) (by have:=hr.un;show X.A.units+1+1+60<cLine;omega) hF (Xc _) rfl I2.bare ⟨λb o _ e=>keep b o e,λb o _ e=>⟨o.slots,keep b o e⟩⟩ hoL (by rw[N9];exact g1) i64 (M:=λ_=>True) (λi v row kS hkS hv hrow s' o1 o2 o3 ⟨ok,hok⟩=>?_) λs3 out cx o1 o2 o3 o4 ⟨ps,t1,t2,t3⟩=>⟨_,rfl,?_⟩
    .obtain⟨ns,b,rfl,rfl,rb⟩:=g2 i row v hrow hv;obtain⟨b',wb,eb,nb,hb,rwb⟩:=Rep.Do.mp rb;cases eb;cases Reps.Nq rwb;have I3:Inv X kw σ H2 s':=DL I2 o1 o2 o3 (λ_ _ _ n=>n) (λ_ _ e=>e) (DP I2 o3);obtain⟨zb,itb,nb',rvb,hlb,eob⟩:=I3.KM hb;have bl:b<h2.objs.size:=I2.hok.lt hb;have:=Dq (k:=k) (G:=kS::kJ X.stack) (E:=λ_ _=>False) (ob:=default) I3 hr (f:=f) (q:=X.env.qual++ "<lambda>") (pp:=pp) (p1:=p1) (p2:=p2) (p3:=p3) (p4:=p4) (p5:=p5) (p6:=p6) ⟨cc,ctv,o3.keep _ _ fF lo,let ⟨c2,oc,vs,t,a1,a2,a3⟩:=lc;⟨c2,oc,vs,t,a1,o3.keep _ _ (by cases a1;exact cF) a2,a3⟩⟩ (a:=b) (its:=itb) (n:=nb') (ms:=ns) (by rw[hb];simp) eob (m9 rvb) (by rw[<-hlb];exact zb) hml λc hc=>?_
     .exact this
     .rcases Oe.mp hc with rfl|hc
      .exact⟨QC (Oo bl hkS),ok,hok⟩
      .refine⟨λz=>?_,?_⟩
       .have:=I2.IR c hc;rw[z,hb]at this;cases this
       .obtain⟨o,eo,_⟩:=(I3.stack.mem hc).2;exact⟨o,eo⟩
    .refine Oi ⟨_,rfl,?_⟩;have pm:∀p∈ps,∃ns b,p.1=BG ns/\p.2=.ref b/\Rep X.K O H2 (.lst (ns.map .int)) (.ref b):=λp hp=>by have hp':=t1.mem_iff.mp hp;obtain⟨j,hj⟩:=SZ hp';rw[List.getElem?_zip_eq_some]at hj;exact g2 j p.1 p.2 hj.1 hj.2
     obtain⟨v1,v2⟩:=vD pm;have hL:H2 (h2.objs.size+1)=ZB:=I2.hok.fresh (Xc _);have eS:=iW (k:=kk.map BG) (m:=ps.map WX) (by have:=t1.map WX;rwa [List.map_fst_zip (by rw[N9];omega)]at this) t3
     have hps:ps.length=its.length:=by have:=t1.length_eq;rw[Xd,N9]at this;omega
     refine⟨.ref (h2.objs.size+1),upd H2 (h2.objs.size+1) (.lst (ps.map λp=>bkV p.2)),DL I2 o1 o2 o3 (λb o e n=>by rw[aF (O5 (RI (Os e)))];exact n) (aR hL _) (λb u e=>?_),rfl,q2 _ (aR hL _) _ ?_⟩
     .by_cases hb:b=h2.objs.size+1
      .subst hb;rw[aH]at e;cases e;refine⟨by rw[N9,hps,PD];omega,out.toList,cx,by rw[t2];exact v1,?_⟩;rw[o4]
      .rw[aF hb]at e;exact(DP I2 o3 b u e).M4 (λ_ _ _ q=>q) (λd q=>aR hL _ _ _ q) λd xs q=>aR hL _ _ _ q
     .rw[<-eS,OK];exact gS hL (E2.fresh hL) v2
   .rw[if_neg h64]at q2;exact q2.elim
  .exact q2.elim
 .exact q2.elim
end
theorem kG(P a:ZE):∀l:Frag,(l.filter λp=>!(p.1 == P)).lookup a=if a=P then ZB else l.lookup a
 |[] =>by rw[List.filter_nil];split <;> rfl
 | (b,o)::l=>by
  by_cases hb:b=P
  .subst hb;rw[List.filter_cons_of_neg (by simp),kG b a l];split
   .rfl
   .rename_i h;rw[Pp,beq_false_of_ne h]
  .rw[Sg (by simp[hb]),Pp,Pp,kG P a l];cases q:a == b with
   |true=>
    have:=eq_of_beq q;subst this;simp[hb]
   |false=>rfl
structure LmK (K:Frag)(f c P:ZE):Prop where
 nm:nsIn K OJ "most_kept" =ZA (ZA (.ref f))
 fn:∃o d,K.lookup f=ZA o/\o.data=.func d/\d.code=.ref c
 cd:∃oc vs,K.lookup c=ZA oc/\oc.data=.fields vs/\vs[11]?=ZA (.ref P)
 hd:∀h:ZH,K.In h->CodeHd h c P
def E6(e:E7 K=ZA (c,P)):∃f,LmK K f c P:=by
 unfold E7 at e;split at e
 .rename_i f hf;split at e
  .rename_i oc od d osl hl;split at e
   .rename_i c' hc;split at e
    .rename_i n dd vs sl hk;split at e
     .rename_i P' file tf flags tg inF text tt h11 h18 h7 h9 h10;split at e
      .rename_i hn;cases e;simp only[N7,beq_iff_eq,bne_iff_ne]at hn;obtain⟨rfl,hne⟩:=hn;refine⟨f,hf,⟨_,d,hl,rfl,hc⟩,⟨_,vs,hk,rfl,h11⟩,λh KX=>⟨_,vs,file,tf,flags,tg,inF,text,tt,KX _ _ hk,rfl,rfl,h11,?_,?_,?_,?_,?_,hne⟩⟩
       .simp[Qh,h11]
       .simp[Qh,h18]
       .simp[Qh,h7]
       .simp[Qh,h9]
       .simp[Qh,h10]
      .cases e
     .cases e
    .cases e
   .cases e
  .cases e
 .cases e
def Ku(X:K.In h)(G:h.Ns OJ mg)(e:Kv K=ZC):MX K mg:=by
 unfold Kv at e;split at e
 .rename_i bm hb;split at e
  .rename_i n d sl hl;simp only[N7,beq_iff_eq,bne_iff_ne]at e;obtain⟨⟨h1,h2⟩,rfl,rfl⟩:=e;exact⟨bm,_,mg_of X G hb,h1,h2,hl,rfl,rfl,rfl⟩
  .simp at e
 .cases e
def LmK.tb(L:LmK K f c P)(X:K.In h)(G:h.Ns OJ mg)(hH:H P=ZA (.tbl n6)):Tb K mg H:=λf' o fd c' oc vs P' a1 a2 a3 a4 a5 a6 a7=>by rw[mg_of X G L.nm]at a1;cases a1;obtain⟨o2,d2,b1,b2,b3⟩:=L.fn;rw[b1]at a2;cases a2;rw[b2]at a3;cases a3;rw[b3]at a4;cases a4;obtain⟨oc2,vs2,c1,c2,c3⟩:=L.cd;rw[c1]at a5;cases a5;rw[c2]at a6;cases a6;rw[c3]at a7;cases a7;exact hH
def DY(h:ZH)(P:ZE):(qE h P).In h:=λa o e=>by
 unfold qE at e;rw[kG]at e;split at e
 .cases e
 .exact DZ h a o e
def DX(h:ZH)(P:ZE):(qE h P).lookup P=ZB:=by unfold qE;rw[kG,if_pos rfl]
def HS(S:rK)(top:Nat->ZF)(h:ZH):Prop:=∃(K:Frag)(f c P:ZE),K.In h/\pZ S K=nV S top/\K.lookup P=ZB/\LmK K f c P/\Kv K=ZC/\h.get? P=ZA (tabObj #[])
variable{S:rK}
def Dg{top:Nat->ZF}(e:zI S h=(nV S top,ZC)):HS S top h:=by
 unfold zI at e;split at e
 .rename_i c0 P h0;obtain⟨e1,e2⟩:=T2 e;split at e2
  .rename_i c P' h1;simp only[N7,beq_iff_eq]at e2;obtain⟨⟨rfl,e3⟩,e4⟩:=e2;split at e4
   .rename_i ps sl hP;simp only[N7,beq_iff_eq]at e4;obtain⟨f,L⟩:=E6 h1;refine⟨_,f,c,P',DY h P',e1,DX h P',L,e3,?_⟩;rw[hP,SK e4.1,SK e4.2]
   .cases e4
  .cases e2
 .cases (T2 e).2
noncomputable def hookX(S:rK)(top:Nat->ZF):Hook:=
 ⟨_,λs=>zI S s.heap,λ_=>(nV S top,ZC),λ_ h=>HS S top h,λ_ s e=>Dg e,λ_ _ _ ⟨K,f,c,P,a,b,d,l,m,t⟩ k=>⟨K,f,c,P,a.keeps k,b,d,l,m,k _ _ t⟩⟩
def walk_x{l:OpenLaw}{loose:List Str}{XP:(WF)->ZH->Prop}{d:DefRec}{top:Nat->ZF}{sp:Frag->Sp}{x:Str}
  (hn:l.most=ZA n) (hn2:n<=ZI) (hdf:d.params.defaults=[]) (hr:Room k callerA)
  (F:∀(w:Pv)(K:Frag)(mg:WF)(fa:ZE)(h:ZH),K.In h->pZ S K=nV S top->(∃f c P,LmK K f c P)->Kv K=ZC->h.Ns OJ mg->mg d.name=ZA (.ref fa) ->
   ∃fd:PR,(∀(s:Oc)(u:N8),Vo s fd ⟨[u],[]⟩ [(x,u)])/\∀base:ZH,K.In base->base.Ns OJ mg->rH l.prog w K mg base CX k fa fd [x] (sp K))
  (hsp:∀(K:Frag)(H:Hp)(a:ZE)(ns:List Int),ns.length<=n->Kz H->SqL K H a (ns.map V.int)->sp K [.ref a] H (λv _=>v=.bl ZC) λ_ _ _=>False)
  (hCX:∀(H:Hp)(s:Oc)(e:N8)(s':Oc),CX [] H s (λ_ _ _=>False) e s'->False):
  WalkO q loose XP (hookX S top).says l.row.toRowW d [] (λf vs=>PySem.call f vs):=by
 refine Att.attach_call hn hdf λw s₀ s₁ mg mb fa o pm cd doc a vs ns G Y ho hd hcd hmg hobj hints hlen hg=>?_;obtain⟨K,f,c,P,KX,e,hPK,L,hbm,hP⟩:=Y;obtain⟨fd,hb,hF⟩:=F w K mg fa _ KX e ⟨f,c,P,L⟩ hbm G.T.g hmg;exact Dp KX G.T.g G.T.b G.T.builtins G.T.nolimit hg hobj hints (OG hlen hn2) hr (P0:=P) (c0:=c) ((L.hd _ KX).tab hP) hPK (λH hH=>L.tb KX G.T.g hH) hF hb (λH hO hS=>hsp K H a ns hlen hO hS) λH e s'=>hCX H s₁ e s'
def KA(K:Frag)(mg:WF)(base:ZH):Prop:=∃f c P,mg "most_kept" =ZA (.ref f)/\(∃o d,K.lookup f=ZA o/\o.data=.func d/\d.code=.ref c)/\CodeHd base c P/\(∀H,Tb K mg H->H P=ZA (.tbl n6))/\MX K mg
def Gk{base:ZH}(L:∃f c P,LmK K f c P)(b:Kv K=ZC)(X:K.In h)(G:h.Ns OJ mg)(X2:K.In base):KA K mg base:=by obtain⟨f,c,P,L⟩:=L;have hL:=L;obtain⟨o,d,b1,b2,b3⟩:=hL.fn;obtain⟨oc,vs,c1,c2,c3⟩:=hL.cd;have m:=mg_of X G L.nm;exact⟨f,c,P,m,⟨o,d,b1,b2,b3⟩,L.hd base X2,λH t=>t f o d c oc vs P m b1 b2 b3 c1 c2 c3,Ku X G b⟩
section
variable {fs:Y0}{p pos kp p8 pp p2:Pos}
def ET(L:KA X.K X.mg X.base)(hx:∃o fd,X.mg "most_kept" =ZA (.ref f)/\X.K.lookup f=ZA o/\o.data=.func fd/\fd.code=X.env.code)(hr:Room (k+3) X.A)(hm:X.mg "sorted" =ZB)(hml:X.mg "len" =ZB)(ha:QA X [e] fs)
  (hq:X.env.qual= "most_kept" ++ ".<locals>.":=by rfl) (hst:bo [e]=ZC:=by rfl) (hg:Gl X "sorted":=by rfl) (hcl:UZ i6 X.env=pure []:=by rfl):
  QE X (.Call (.Name "sorted" p) [e] [⟨ZA "key",.Lambda (m6 pp) (oF p1 p2 p3 p4 p5 p6) i6 p8,kp⟩] pos) (cl vE fs):=by
 obtain⟨f',c,P,m,⟨o,d,b1,b2,b3⟩,C,T,B⟩:=L;obtain⟨o',d',m',a1,a2,a3⟩:=hx;rw[m]at m';cases m';rw[b1]at a1;cases a1;rw[b2]at a2;cases a2;exact⟨IY hr hm hml (a3.symm.trans b3) C (λH t=>by rw[hq];exact T H t) B ha.h hst hg hcl⟩
end
noncomputable def zk:T->T->Option Bool
 |.dct ks us,.dct ks' us'=>if ks.map keyOf=ks'.map keyOf/\us.length=us'.length/\deps us<=50/\nds us=ZC/\nds us'=ZC then ZA (beqTs us us')else ZB
 |_,_=>ZB
noncomputable def jM:List T->List T->Option Bool
 |[],[] =>ZA ZC
 |t::l,u::m=>match zk t u,jM l m with
  |some a,ZA b=>ZA (a&&b)
  |_,_=>ZB
 |_,_=>ZB
noncomputable def Bf:T->T->Rs T
 |.dct ks rs,.dct ks' rs'=>if ks.map keyOf=ks'.map keyOf then match jM rs rs' with
   |some b=>.ok (.bl b)
   |none=>.bad
  else .bad
 |_,_=>.bad
def gE(b:List Int):List (List Int)->List Int
 |[] =>b
 |k::l=>gE (if cQ k b=ZC then k else b) l
noncomputable def wA:List T->Rs T
 |[.lst l] =>match jR l with
  |some (k::ks)=>.ok (.lst ((gE k ks).map .int))
  |_=>.bad
 |_=>.bad
end Tr
namespace PySem.W
open PySem PySem.Calls
open PyProof.Rows
def EqW(prog:OF)(w:Pv)(A:OU)(s:Oc)(u v:N8)(b:Bool):Prop:=∀(E:WP)(Q:Bool->Oc->Prop),Q b s->ZJ (ZK prog w) A (eqBool u v) Q E s
section
variable {K:Type}[DecidableEq K]
variable {knd:HeapKind prog w K}
theorem Fh{nm:String}{a b:ZE}{xs ys:List (K×ZE×N8)}{Q:Bool->Oc->Prop}(hu:knd.room A)(ha:(a == Qr)=ZD)(hb:(b == Qr)=ZD)
  (da:s.heap.DictOfH knd a xs) (db:s.heap.DictOfH knd b ys) (hk:xs.map (·.1)=ys.map (·.1)) (he:∀j x y,xs[j]?=ZA x->ys[j]?=ZA y->EqW prog w A s x.2.2 y.2.2 (e j)) (h:Q ((Oj xs.length).all e) s):
  ZJ (ZK prog w) A (Uo nm a b) Q E s:=by
 obtain⟨oa,eA,ep,pA,_,qA,hea,hia,hna⟩:=da;obtain⟨ob,eB,ep',pB,_,qB,heb,hib,hnb⟩:=db;have hla:eA.size=xs.length:=Xn hea;have hlb:eB.size=ys.length:=Xn heb;have hl:xs.length=ys.length:=by have:=congrArg Py hk;simpa using this
 have n1:¬ (a == Qr)=ZC:=λz=>by rw[ha]at z;cases z
 have n2:¬ (b == Qr)=ZC:=λz=>by rw[hb]at z;cases z
 unfold Uo;unfold Builtin.Dict.showsAll;rw[if_neg n1,if_neg n2];refine N5 (Oi (N5 (Oi (N5 (SB pA qA ?_)))));dsimp only;apply N5;refine SB pB qB ?_;have sz_:eA.size=eB.size:=by omega
 rw[if_neg (by rw[sz_];simp)];refine N5 (Xo pA qA ?_);refine N5 ?_;simp only[UT,Std.Legacy.Range.size,Nat.div_one,VB,SI];refine wpAny_forIn_list _
  (λtl q s'=>s'=s/\q=(ZB,())/\∃i,tl=List.range' i (eA.size - i)/\i<=eA.size/\∀j,j<i->e j=ZC)
  _ ?_ ?_ _ _ ⟨rfl,rfl,0,by simp,Pg _,λj hj=>absurd hj (W7 _)⟩
 .rintro x tl q s' ⟨rfl,rfl,i,hr,hi,all_⟩;have lt_:i<eA.size:=by
   rcases Rj i eA.size with h|h
   .exact h
   .exact absurd hr (by rw[Nat.sub_eq_zero_of_le h];simp)
  obtain⟨rfl,lft⟩:x=i/\tl=List.range' (i+1) (eA.size - (i+1)):=by
   have e:eA.size - i=(eA.size - (i+1))+1:=by omega
   rw[e]at hr;rw[WN]at hr;injection hr with h1 h2;exact⟨h1,h2⟩
  have h1:x<xs.length:=by omega
  have h2:x<ys.length:=by omega
  have kk:xs[x].1=ys[x].1:=by have:=congrArg (λl=>l[x]?) hk;simpa [Od h1,Od h2]using this
  have e1:eA[x]?=ZA (Wh knd xs[x]):=by rw[entry_at hea x,Od h1];rfl
  have e2:eB[x]?=ZA (Wh knd ys[x]):=by rw[entry_at heb x,Od h2];rfl
  refine N5 (SB pA qA ?_);rw[e1];show ZJ _ _ (holding [Oz xs[x].2.1,xs[x].2.2] _ >>= _) _ _ _;refine N5 (P5 (N5 (wpAny_dictFind_heap hu (hia _ (PN h1)) pB qB heb hib hnb (λno=>?_) λj p hj=>?_)))
  .exact absurd (show ys[x]?=ZA (xs[x].1,ys[x].2)by rw[Od h2,kk]) (no x _)
  .obtain rfl:j=x:=by obtain⟨hjl,ej⟩:=Og.mp hj;refine(Wd (l:=ys.map (·.1)) (by rw[N9];exact hjl) hnb).mp ?_;rw[Ot,Ot,hj,Od h2];show ZA xs[x].1=ZA ys[x].1;rw[kk]
   dsimp only;refine N5 (SB pB qB ?_);rw[e2];refine P5 (he j _ _ (Od h1) (Od h2) _ _ ?_);cases ee:e j with
   |false=>
    rw[show(!ZD)=ZC from rfl,if_pos rfl];apply Oi;apply Oi;rw[List.all_eq_false.mpr ⟨j,OZ.mpr h1,by rw[ee];decide⟩]at h;exact h
   |true=>
    rw[if_neg (show ¬(!ZC)=ZC by decide)];refine N5 (Xo pA qA ?_);rw[if_neg (by simp)];refine Oi ⟨rfl,rfl,j+1,lft,lt_,λk hk=>?_⟩;rcases Nat.lt_succ_iff_lt_or_eq.mp hk with z|rfl
    .exact all_ k z
    .exact ee
 .rintro q s' ⟨rfl,rfl,i,hr,hi,all_⟩;have hin:i=eA.size:=by
   rcases Rj i eA.size with h|h
   .have e:eA.size - i=(eA.size - (i+1))+1:=by omega
    exact absurd hr (by rw[e,WN];simp)
   .exact UI hi h
  refine Oi ?_;rw[OB.mpr (λk hk=>all_ k (by have:=OZ.mp hk;omega))]at h;exact h
def jl{a b:ZE}{xs ys:List (K×ZE×N8)}(hu:A.units<cLine)(hr:knd.room A.in1)(ha:(a == Qr)=ZD)(hb:(b == Qr)=ZD)
  (da:s.heap.DictOfH knd a xs) (db:s.heap.DictOfH knd b ys) (hk:xs.map (·.1)=ys.map (·.1)) (he:∀j x y,xs[j]?=ZA x->ys[j]?=ZA y->EqW prog w A.in1 s x.2.2 y.2.2 (e j)) (h:Q (.bool ((Oj xs.length).all e)) s):
  ZJ (ZK prog w) A (Pm .Eq (Oz a) (Oz b)) Q E s:=by
 have ta:=da.typeIs;have tb:=db.typeIs;refine wpAny_richCompare_same_room (op:=.Eq) ta tb F.slot_dict_eq ?_ hu;refine Q3 F.slot_dict_eq ta F.entry_dict_eq ?_ (F.args_dict_eq_2 _ _);show ZJ _ _ (TF "__eq__" ⟨[Oz a,Oz b],[]⟩ >>= _) _ _ s;apply N5;unfold TF;apply N5;refine UQ ta ?_;show ZJ _ _ (pure ((Oz a:N8),(Oz b:N8))) _ _ s;apply Oi;apply N5;refine WS (T:="dict") tb F.sub_dict_dict ?_;simp only[if_false,Qc,Bool.not_true];refine N5 (Oi (N5 (Oi (N5 (Fh hr ha hb da db hk he ?_)))));exact Oi ⟨_,rfl,(by intro z;cases z),by simpa using h⟩
end
end PySem.W
variable{k:Bool}
namespace Tr
open PySem PySem.Spec PyProof.Rows L2 PySem.SeqAt
open PySem.W (EqW jl)
variable{H:Hp}{kvs:List (List Key×V)}{xs:List (List Key×ZE×N8)}
def oH(r:KT H kvs xs):xs.map (·.1)=kvs.map (·.1):=by
 unfold KT at r;induction r with
 |nil=>rfl
 |cons h t ih=>rw[Oa,Oa,ih,h.1]
def oG(r:KT H kvs xs):Vals (kvs.map (·.2)) (xs.map (·.2.2)):=by
 unfold KT at r;induction r with
 |nil=>exact .nil
 |cons h t ih=>exact .cons h.2.2 ih
def sg{ks ks':List T}{kvs':List (List Key×V)}(h:ks.map keyOf=ks'.map keyOf)(e:ks.map keyOf=kvs.map (λp=>ZA p.1))(e':ks'.map keyOf=kvs'.map (λp=>ZA p.1)):kvs.map (·.1)=kvs'.map (·.1):=by rw[e,e']at h;have:=congrArg (List.filterMap id) h;simpa [Tv,We]using this
variable{a:ZE}{h:ZH}
def Er{K:Type}[DecidableEq K]{knd:HeapKind prog w K}{xs ys:List (K×ZE×N8)}(d:h.DictOfH knd a xs)(e:h.DictOfH knd a ys):xs.map (·.2.2)=ys.map (·.2.2):=by obtain⟨o,es,ep,h1,_,h2,h3,_⟩:=d;obtain⟨o',es',ep',h1',_,h2',h3',_⟩:=e;rw[h1]at h1';cases h1';rw[h2]at h2';cases h2';rw[h3]at h3';have:=congrArg (VC DictEntry.val) h3';simpa [Wh,We]using this
def EqW.refs{b:ZE}(hne:a≠b)(h:∀(E:WP)(Q:WP),Q (.bool k) s->ZJ (ZK prog w) A (Pm .Eq (.ref a) (.ref b)) Q E s):EqW prog w A s (.ref a) (.ref b) k:=λE Q hq=>by unfold eqBool;refine P5 ?_;refine Xm (λz=>absurd (T3 (eq_of_beq z)) hne) λ_=>?_;exact N5 (show ZJ (ZK prog w) A (Pm .Eq (.ref a) (.ref b)) _ E s from h E _ (Pe hq))
variable{X:Cx}
section
variable {kw:Uf}{σ:L2.St}{O:Ow}
theorem Fs(I:Inv X kw σ H s)(hu:A.units+53<cLine){ks us ks' us':List T}{v v':V}{u u':N8}(r:Rep X.K O H (.dct ks us) v)(q:RelV v u)(r':Rep X.K O H (.dct ks' us') v')(q':RelV v' u')
  (hk:ks.map keyOf=ks'.map keyOf) (hl:us.length=us'.length) (hd:deps us<=50) (hn:nds us=ZC) (hn':nds us'=ZC):EqW X.prog X.w A s u u' (beqTs us us'):=by
 obtain⟨a,kvs,rfl,_,e,e1,rv⟩:=Rep.FS.mp r;obtain⟨b,kvs',rfl,_,e',e1',rv'⟩:=Rep.FS.mp r';obtain rfl:u=.ref a:=q;obtain rfl:u'=.ref b:=q';obtain⟨_,na,xs,kt,dd⟩:=lg I.hok e;obtain⟨_,nb,ys,kt',dd'⟩:=lg I.hok e';have V1:ReVs s us (xs.map (·.2.2)):=Reps.val I hn rv (oG kt);have V2:ReVs s us' (ys.map (·.2.2)):=Reps.val I hn' rv' (oG kt');by_cases hab:a=b
 .subst hab;rw[<-Er dd dd']at V2;rw[ReVs.refl V1 V2];exact λE Q hq=>EqAt.same _ _ _ E Q hq
 .refine EqW.refs hab λE Q hq=>?_;have l1:=V1.length;rw[N9]at l1;refine jl (e:=λj=>aU (us.getD j .non) (us'.getD j .non)) (by omega) (QF (by omega)) na nb dd dd' (by rw[oH kt,oH kt'];exact sg hk e1 e1') (λj x y hx hy=>?_) ?_
  .have h1:j<us.length:=by rw[l1];exact(Og.mp hx).1
   have h2:j<us'.length:=by omega
   obtain⟨w1,z1,t1⟩:=V1.get (Od h1);obtain⟨w2,z2,t2⟩:=V2.get (Od h2);rw[Ot,hx]at z1;rw[Ot,hy]at z2;cases z1;cases z2;show EqW _ _ _ _ _ _ (aU (us.getD j .non) (us'.getD j .non));rw[show us.getD j .non=us[j]by simp[h1],show us'.getD j .non=us'[j]by simp[h2]];have:=(Ea 50 A.in1 s us[j] us'[j] _ _ (.inl (OG (i9 (Od h1)) hd)) (by show A.units+1+50<cLine;omega) t1 t2).1;exact λE Q hq=>this _ _ E Q hq
  .have q:=kN us us' (λj=>aU (us.getD j .non) (us'.getD j .non)) λj t u h1 h2=>by simp[UC,h1,h2]
   rw[q,<-hl,Ws]at hq;rw[<-l1];simpa using hq
theorem vN(I:Inv X kw σ H s)(hu:A.units+53<cLine):∀{rs rs':List T}{vs vs':List V}{us us':List N8}{b:Bool},Reps X.K O H rs vs->Vals vs us->Reps X.K O H rs' vs'->Vals vs' us'->jM rs rs'=ZA b ->
  ∃e:Nat->Bool,(∀(j:Nat) u u',us[j]?=ZA u->us'[j]?=ZA u'->EqW X.prog X.w A s u u' (e j))/\b=(Oj us.length).all e
 |[],[],vs,vs',us,us',b,r,v,r',v',h=>by cases Reps.Da.mp r;cases v;cases h;exact⟨λ_=>ZC,λj u u' z=>by simp at z,rfl⟩
 |[],_::_,_,_,_,_,_,_,_,_,_,h=>by cases h
 |_::_,[],_,_,_,_,_,_,_,_,_,h=>by cases h
 |t::l,t'::l',vs,vs',us,us',b,r,v,r',v',h=>by
  obtain⟨x,xs,rfl,p,q⟩:=Reps.me.mp r;obtain⟨x',xs',rfl,p',q'⟩:=Reps.me.mp r';cases v with
  |@cons _ u _ us v1 v2=>
   cases v' with
   |@cons _ u' _ us' v1' v2'=>
    unfold jM at h;split at h
    .rename_i a c h1 h2;cases h;obtain⟨e,he,hb⟩:=vN I hu q v2 q' v2' h2;have h0:EqW X.prog X.w A s u u' a:=by
      unfold zk at h1;split at h1
      .split at h1
       .rename_i z;cases h1;exact Fs I hu p v1 p' v1' z.1 z.2.1 z.2.2.1 z.2.2.2.1 z.2.2.2.2
       .cases h1
      .cases h1
     refine⟨λj=>match j with|0=>a|j+1=>e j,λj w w' z z'=>?_,by rw[Oh,kf,hb]⟩;cases j with
     |zero=>cases z;cases z';exact h0
     |succ j=>exact he j w w' z z'
    .cases h
theorem CV(hu:X.A.units+60<cLine):OpT X (Pm .Eq) Bf:=by
 intro kw s σ H O x y vx vy ux uy Q I hf rx ry r1 r2 hp;unfold Bf at hp;split at hp
 .rename_i ks rs ks' rs';by_cases hk:ks.map keyOf=ks'.map keyOf
  .rw[if_pos hk]at hp;cases hb:jM rs rs' with
   |none=>rw[hb]at hp;exact hp.elim
   |some k=>
    rw[hb]at hp;obtain⟨a,kvs,rfl,_,e,e1,rv⟩:=Rep.FS.mp rx;obtain⟨b,kvs',rfl,_,e',e1',rv'⟩:=Rep.FS.mp ry;obtain rfl:ux=.ref a:=r1;obtain rfl:uy=.ref b:=r2;obtain⟨_,na,xs,kt,dd⟩:=lg I.hok e;obtain⟨_,nb,ys,kt',dd'⟩:=lg I.hok e';obtain⟨ee,he,hbb⟩:=vN I (A:=X.A.in1) (by show X.A.units+1+53<cLine;omega) rv (oG kt) rv' (oG kt') hb;refine jl (e:=ee) (by omega) (QF (by omega)) na nb dd dd' (by rw[oH kt,oH kt'];exact sg hk e1 e1') (λj x y hx hy=>he j _ _ (by rw[Ot,hx];rfl) (by rw[Ot,hy];rfl)) ?_;rw[N9]at hbb;rw[<-hbb];exact⟨.bl k,H,I,rfl,hp H (Same.refl H) _ (Rep.bl_ _)⟩
  .rw[if_neg hk]at hp;exact hp.elim
 .exact hp.elim
end
section
variable {h0:ZH}{its:Array N8}{I l S:ZE}{res:List Int}{r:Nat->List Int}
def KC(h0 h:ZH):Prop:=∀b o,h0.get? b=ZA o->h.get? b=ZA o
def CmR(prog:OF)(w:Pv)(A:OU)(h0:ZH)(its:Array N8)(r:Nat->List Int):Prop:=
 ∀(i j:Nat)(x y:N8)(s:Oc)(Q E:WP),KC h0 s.heap->its[i]?=ZA x->its[j]?=ZA y->Q (.bool (cQ (r i) (r j))) s->ZJ (ZK prog w) A (richCompare .Lt x y) Q E s
noncomputable def two(v:N8)(c:Nat):Obj:={cls:=.type "list",dict:=ZB,data:=.seq #[v,v] c,slots:=#[]}
theorem JF(hh:A.handled=ZB)(h1:l≠I)(h2:S≠I)(h3:S≠l)(h4:∀b o,h0.get? b=ZA o->b≠I/\b≠S)(hc:CmR prog w A.in1 h0 its r):
  ∀(m j b:Nat)(s:Oc)(x:N8)(c:Nat),j+m=its.size->its[b]?=ZA x->s.heap.IsListIter I l j->s.heap.IsList l its->s.heap.get? S=ZA (two x c)->KC h0 s.heap->res=gE (r b) ((Oj m).map λq=>r (j+q)) ->
   (∀b' x' h' tk,its[b']?=ZA x'->r b'=res->KC h0 h'->R (.ok (.ret x')) {s with heap:=h',toks:=tk})->ZL (ZK prog w) A (.builtin "min.loop" ⟨[.ref I,.none,.ref S],[]⟩) R s:=by
 have W:=Walks.list (prog:=prog) (w:=w) (A:=A.in1) hh I l h1 its;have nm:(toString "min" ++toString ".loop" : String)= "min.loop":=by decide
 intro m;induction m with
 |zero=>
  intro j b s x c e ex i1 i2 eS kp er hR;refine QV So (by rw[Qk PX _];refine N5 (m:=VV _) (RW eS rfl (N5 (m:=tryCatch _ _) (SC (W.done s _ _ ⟨by rw[<-e];exact i1,i2⟩ λh' tk k1=>?_))));have eS':=k1 S _ (by simpa using h2) eS;refine N5 (m:=updateSeq S _) (US eS' rfl (N5 (Ug (Oi (hR b x _ tk ex er.symm λa o q=>?_)))));have n:=h4 a o q;exact(Ph _ _ (PJ n.2)).trans (k1 a o (by simpa using n.1) (kp a o q)))
 |succ m ih=>
  intro j b s x c e ex i1 i2 eS kp er hR;have hj:j<its.size:=by omega
  refine QV So (by
   rw[Qk PX _];refine N5 (m:=VV _) (RW eS rfl (N5 (m:=tryCatch _ _) (SC (W.item j s _ _ hj ⟨i1,i2⟩ λy h' tk ey st k1=>?_))));have eS':=k1 S _ (by simpa using h2) eS;have kp':KC h0 h':=λa o q=>k1 a o (by simpa using(h4 a o q).1) (kp a o q);have er':res=gE (if cQ (r j) (r b)=ZC then r j else r b) ((Oj m).map λq=>r (j+1+q)):=by rw[er,Rw,Oa,OK];show gE (if cQ (r (j+0)) (r b)=ZC then r (j+0)else r b) _=_;rw[Nat.add_zero];congr 1;refine OL λq _=>?_;show r (j+(q+1))=_;rw[show j+(q+1)=j+1+q by omega]
   refine N5 (m:=tryCatch (holding [y,y] _) _) (SC (P5 (N5 (hc j b y x {s with heap:=h',toks:=tk} _ _ kp' ey ex (N5 (P5 (Pe (N5 (Ug (Oi ?_))))))))));cases q:cQ (r j) (r b)with
   |true=>
    rw[q,if_pos rfl]at er';rw[if_pos rfl];refine N5 (m:=updateSeq S _) (US eS' rfl (N5 (Ug ?_)));rw[nm];refine Oi ⟨Rq PX _,ih (j+1) j _ y _ (by omega) ey (st.1.at λo z=>?_) (st.2.at λo z=>?_) (RB _ eS' rfl) (λa o z=>(Ph _ _ (PJ (h4 a o z).2)).trans (kp' a o z)) er' λb' x' h'' tk'=>hR b' x' h'' tk'⟩
    .exact(Ph _ _ h2).trans z
    .exact(Ph _ _ h3).trans z
   |false=>
    rw[q,if_neg (by decide)]at er';rw[if_neg (by decide)];refine N5 (Ug ?_);rw[nm];exact Oi ⟨Rq PX _,ih (j+1) b _ x c (by omega) ex st.1 st.2 eS' kp' er' λb' x' h'' tk'=>hR b' x' h'' tk'⟩)
theorem C9{k:List Int}{ks:List (List Int)}(hh:A.handled=ZB)(hl:s.heap.IsList l its)(hz:its.size=ks.length+1)(hk:∀i,r i=(k::ks).getD i [])(hc:CmR prog w A.in1 s.heap its r)
  (h:∀b x h' tk,its[b]?=ZA x->r b=gE k ks->KC s.heap h'->Q x {s with heap:=h',toks:=tk}):ZJ (ZK prog w) A (call (.builtin "min") [.ref l]) Q E s:=by
 have nm:(toString "min" ++toString ".loop" : String)= "min.loop":=by decide
 have hlt:l<s.heap.objs.size:=hl.elim λ_ e=>Os e.1;refine call_function_tree PySem.F.kind_min PySem.F.plain_min PySem.F.entry_min (PySem.F.args_min1 _) (N5 (m:=S5 "min" _ 0 _) (wpAny_of_eq (show S5 "min" ["key","default"] 0 ⟨[],[]⟩=pure [ZB,ZB]from rfl) (N5 (Oi (N5 (Sx hl ?_))))));refine N5 (Pq ?_);rw[nm];generalize hI:s.heap.push {cls:=.type "list_iterator",data:=.fields #[.ref l,.int 0 0]}=hp;have hsz:hp.objs.size=s.heap.objs.size+1:=by rw[<-hI];exact Rv ..
 have st:hp.IsListIter s.heap.objs.size l 0/\hp.IsList l its:=by rw[<-hI];exact⟨⟨_,Oy _ rfl,rfl,rfl⟩,hl.push _⟩
 have kp:KC s.heap hp:=λb o e=>by rw[<-hI];exact Of _ e
 have n1:l≠s.heap.objs.size:=O5 hlt;have n2:hp.objs.size≠s.heap.objs.size:=by rw[hsz];exact WJ _
 have n3:hp.objs.size≠l:=λz=>U5 (show s.heap.objs.size+1<s.heap.objs.size from by rw[<-hsz,z];exact hlt);have n4:∀b o,s.heap.get? b=ZA o->b≠s.heap.objs.size/\b≠hp.objs.size:=λb o e=>by have:=Os e;exact⟨O5 this,λz=>U5 (show s.heap.objs.size+1<s.heap.objs.size from by rw[<-hsz,<-z];exact this)⟩
 have W:=Walks.list (prog:=prog) (w:=w) (A:=A.in1) hh s.heap.objs.size l n1 its;refine Oi ⟨Rq PX _,QV So (by
  rw[Qk PX _];have eS:(hp.push {cls:=.type "list",data:=.seq #[] 0}).get? hp.objs.size=ZA _:=Oy _ rfl;refine N5 (m:=VV _) (RW eS rfl (N5 (m:=tryCatch _ _) (SC (W.item 0 _ _ _ (by omega) ⟨st.1.at λo e=>Of _ e,st.2.push _⟩ λy h' tk ey st' k1=>?_))));have eS':=k1 hp.objs.size _ (by simpa using n2) eS;refine N5 (m:=updateSeq hp.objs.size _) (US eS' rfl ?_);rw[nm];have kp':KC s.heap (h'.update hp.objs.size (PB λ_=>#[y,y])):=λa o e=>(Ph _ _ (PJ (n4 a o e).2)).trans (k1 a o (by simpa using(n4 a o e).1) (Of _ (kp a o e)));refine Oi ⟨Rq PX _,JF (h0:=s.heap) (res:=gE k ks) hh n1 n2 n3 n4 hc ks.length 1 0 _ y _ (by omega) ey (st'.1.at λo z=>?_) (st'.2.at λo z=>?_) (RB _ eS' rfl) kp' ?_ λb x h'' tk' ex er kp''=>h b x h'' tk' ex er kp''⟩
  .exact(Ph _ _ n2).trans z
  .exact(Ph _ _ n3).trans z
  .rw[hk 0];show _=gE k _;congr 1;refine RZ (by simp) λi a1 a2=>?_;rw[Rr,Tx,hk,show 1+i=i+1 by omega];simp[a1])⟩
end
theorem GV(hc:X.calm=ZC)(hu:X.A.units+60<cLine):CallT X (.builtin "min") wA:=by
 intro kw s σ H O ts vs us Q I hf rs rv hp;unfold wA at hp;split at hp
 .rename_i l;obtain⟨v,rfl,r⟩:=rs.one;split at hp
  .rename_i k ks hk;obtain⟨a,ws,rfl,n,q,z⟩:=Rep.Do.mp r;obtain⟨u,rfl,ru⟩:=Vals.one rv;obtain rfl:u=Oz a:=ru;obtain⟨zz,its,m,r',hlen,eo⟩:=I.KM q;obtain⟨g1,g2⟩:=uD hk z r';have at_:∀(i:Nat)(x:N8),its[i]?=ZA x->∃b,x=.ref b/\Rep X.K O H (.lst (((k::ks).getD i []).map .int)) (.ref b):=λi x e=>by
    have hi:i<(k::ks).length:=by rw[g1];exact(Og.mp e).1
    obtain⟨ns,b,e1,e2,e3⟩:=g2 i (BG ((k::ks).getD i [])) x (by rw[Ot,Od hi,O0,Od hi];rfl) e;have:(k::ks).getD i []=ns:=congrArg List.tail e1;rw[this];exact⟨b,e2,e3⟩
   have hd:∀(b:ZE)(ns:List Int),Rep X.K O H (.lst (ns.map .int)) (.ref b)->∃(js:List N8)(c:Nat),s.heap.get? b=ZA (seqObj "list" js.toArray c)/\Qn js ns:=λb ns e=>by obtain⟨b',vs',eb,_,q',z'⟩:=Rep.Do.mp e;cases eb;obtain⟨_,js,c,r2,_,eo2⟩:=I.KM q';cases Reps.Nq z';exact⟨js,c,eo2,m9 r2⟩
   refine C9 (l:=a) (its:=its.toArray) (r:=λi=>(k::ks).getD i []) (k:=k) (ks:=ks) (I.ok.hd hc) ⟨_,eo,rfl,m,rfl⟩ (by rw[Ou,<-g1,Oh]) (λi=>rfl) (λi j x y s' Q' E' kp ex ey hq=>?_) λb x h' tk ex er kp=>?_
   .obtain⟨b1,rfl,p1⟩:=at_ i x (by simpa using ex);obtain⟨b2,rfl,p2⟩:=at_ j y (by simpa using ey);obtain⟨js1,c1,o1,i1⟩:=hd b1 _ p1;obtain⟨js2,c2,o2,i2⟩:=hd b2 _ p2;exact HT.lt_lstInts (kp _ _ o1) (kp _ _ o2) (by simpa using i1) (by simpa using i2) (show X.A.units+1<cLine by omega) (by rw[zN];exact hq)
   .obtain⟨b1,rfl,p1⟩:=at_ b x (by simpa using ex);rw[show(k::ks).getD b []=gE k ks from er]at p1;exact⟨.ref b1,H,I.kept (t':=tk) kp,rfl,hp H (Same.refl H) _ p1⟩
  .exact hp.elim
 .exact hp.elim
variable{mg:WF}{ps:List Str}
section
variable {base:ZH}{x:Str}{st:ZF}{k:Nat}{F:Y1}
def aO(N:List Str)(H:fZ K mg x st ps)
  (hbody:N.Nodup->∀(f:ZE)(cdv:N8)(A:OU)(outer:List Env)(s:Oc)(H:Hp)(E:XK),Room k (A.deeper (envOfC x (ay st) s.heap.objs.size f cdv)) ->
   ∀xe,Bz ((jm CX0 P w K mg base N x (ay st) f cdv A outer s H E).FB xe) (de st) F) (S:autoParam (dq N ps (ay st)) z_) (hn:ps.length=n:=by rfl):Cl P w K mg base (k+1) x n (val n N.length F):=Mt H S hn (hbody S.nd)
end
def cH{pos:Pos}{elt tg iter:ZG}{ifs:List ZG}{src:List (Option Nat)}{fi:Y0}{tgt:T->En->Rs En}{fc:Y3}{fe:Y2}(N' N:List Str)(st:ZF)(hi:QI X tg iter fi)
  (block:N'.Nodup->∀(cl:List (Str×ZE))(C:ZE)(s₀:Oc)(H₀:Hp)(fp:List ZE),QG (cC X scope cl N' C s₀ H₀ fp) tg tgt/\MC (cC X scope cl N' C s₀ H₀ fp) ifs fc/\QE (cC X scope cl N' C s₀ H₀ fp) elt fe)
  (hc:Cx.calm X=ZC:=by rfl) (hN:X.N=N:=by rfl) (hm:X.env.scope.names=(ay st).names:=by rfl) (hk:scope.kind=.function:=by rfl) (h:autoParam (Gj (ay st).names N scope.names N' src=ZC) y_) (nd:autoParam (N'.Nodup) y_) (hs:autoParam (∀(x:N8),Pf iter (Cx.env X) x=pure x) t_):
  QE X (Ub elt [{target:=tg,iter:=iter,ifs:=ifs,is_async:=0}] scope pos) (d9 fi src tgt fc fe):=Hd hc (LcScope.by hN hm hk h) hi (block nd) hs
@[elab_as_elim] theorem LV {α:Type} {p:List α->Prop} (h:p []):∀us:List α,us.length=0->p us
 |[],_=>h
@[elab_as_elim] theorem HC {α:Type} {p:List α->Prop} (h:∀a,p [a]):∀us:List α,us.length=1->p us
 |[a],_=>h a
@[elab_as_elim] theorem LU {α:Type} {p:List α->Prop} (h:∀a b,p [a,b]):∀us:List α,us.length=2->p us
 |[a,b],_=>h a b
@[elab_as_elim] theorem LS {α:Type} {p:List α->Prop} (h:∀a b c,p [a,b,c]):∀us:List α,us.length=3->p us
 |[a,b,c],_=>h a b c
section
variable {S:rK}{top:Nat->ZF}
def cz(j:Nat){n:Str}(X:K.In h)(G:h.Ns OJ mg)(e:pZ S K=nV S top)(q:S.tab[j]?=ZA (n,i):=by rfl)
  (hb:∀(kV doc pm:N8)(an:Option ZE)(cdv ct:N8)(us:List N8),us.length=ps.length->VP (R3 n n (ix (top i)) (de (top i)) (ay (top i)) .none kV doc pm an cdv ct) ⟨us,[]⟩=pure (ps.zip us):=by intro _ _ _ _ _ _ us hl;first|exact HC (λ_=>rfl) us hl|exact LU (λ_ _=>rfl) us hl|exact LS (λ_ _ _=>rfl) us hl|exact LV rfl us hl):
  ∃f fd,Fn K mg n (top i) ps f fd:=L6 j X G e q hb
end
end Tr
namespace G
open PySem PySem.Spec PyProof.Rows L2 Tr
structure Bl (mg:WF):Prop where
 b_ValueError:mg "ValueError" =ZB
 b_all:mg "all" =ZB
 b_bool:mg "bool" =ZB
 b_dict:mg "dict" =ZB
 b_enumerate:mg "enumerate" =ZB
 b_int:mg "int" =ZB
 b_isinstance:mg "isinstance" =ZB
 b_len:mg "len" =ZB
 b_list:mg "list" =ZB
 b_max:mg "max" =ZB
 b_min:mg "min" =ZB
 b_range:mg "range" =ZB
 b_sorted:mg "sorted" =ZB
 b_tuple:mg "tuple" =ZB
structure Cs (mg:WF):Prop where
 MOST_CLOCKS:∃t,mg "MOST_CLOCKS" =ZA (.int 4 t)
 MOST_LETTERS:∃t,mg "MOST_LETTERS" =ZA (.int 8 t)
 MOST_READINGS:∃t,mg "MOST_READINGS" =ZA (.int 4 t)
 LAST_READING:∃t,mg "LAST_READING" =ZA (.int 99 t)
 SLOWEST:∃t,mg "SLOWEST" =ZA (.int 9 t)
 LONGEST:∃t,mg "LONGEST" =ZA (.int 999 t)
def uW:O9 "bool" =ZA (.type "bool"):=by decide+kernel
def iz:O9 "int" =ZA (.type "int"):=by decide+kernel
def bW:O9 "tuple" =ZA (.type "tuple"):=by decide+kernel
structure Xs (K:N4)(mg:WF)(ac bi bn bv ca ci cr:ZE):Prop where
 m_NoRecord:mg "NoRecord" =ZA (.ref ac)
 m_NoEvent:mg "NoEvent" =ZA (.ref bi)
 m_NoNumber:mg "NoNumber" =ZA (.ref bn)
 m_NoWorld:mg "NoWorld" =ZA (.ref bv)
 m_Barred:mg "Barred" =ZA (.ref ca)
 m_Nothing:mg "Nothing" =ZA (.ref ci)
 m_ClockError:mg "ClockError" =ZA (.ref cr)
 o_NoRecord:OX K ac (.ref cr::ou)
 o_NoEvent:OX K bi (.ref cr::ou)
 o_NoNumber:OX K bn (.ref cr::ou)
 o_NoWorld:OX K bv (.ref cr::ou)
 o_Barred:OX K ca (.ref cr::ou)
 o_Nothing:OX K ci (.ref cr::ou)
 o_ClockError:OX K cr ou
 d:[ac,bi,bn,bv,ca,ci,cr].Nodup
abbrev cI:ZF:=top 68
def aaD:dq ["_law_e","_law_flags"] ["_law_e"] (ay cI):=⟨rfl,rfl,rfl,by decide+kernel,rfl,by decide+kernel,by decide+kernel⟩
noncomputable def cN(j:Nat):T:=.tup [.str "refused",.int (j:Nat)]
noncomputable def ng(c:Str):Rs T:=if c= "NoRecord" then .ok (cN 0)else if c= "NoEvent" then .ok (cN 1)else if c= "NoNumber" then .ok (cN 2)else if c= "NoWorld" then .ok (cN 3)else if c= "Barred" then .ok (cN 4)else if c= "Nothing" then .ok (cN 5)else .bad
variable{C ca cr bi bn ac bv ci f:ZE}{ev:Array N8}{mg:WF}{oe:Obj}
section
variable {base:ZH}
def Xs.ne{D:ZE}(h:C≠D):(Oz C::ou).contains (.ref D)=ZD:=by
 rw[Qe];have:(Oz D == Oz C)=ZD:=by rw[beq_eq_false_iff_ne];exact λz=>h (T3 z).symm
 rw[this];rfl
theorem Ck{e:ZE}{outer:List Env}{H:Hp}{Q:VK}(S:Xs K mg ac bi bn bv ca ci cr)(OC:OX K C (.ref cr::ou))
  (hc:oe.cls=.ref C) (hd:oe.data=.fields ev) (hi:mg "isinstance" =ZB) (hv:mg "ValueError" =ZB) (f8:cr≠ac) (gt:cr≠bi) (ii:cr≠bn) (im:cr≠bv) (io:cr≠ca) (jp:cr≠ci)
  {b0 b1 b2 b3 b4 b5:Bool} (h0:decide (C=ac)=b0) (h1:decide (C=bi)=b1) (h2:decide (C=bn)=b2) (h3:decide (C=bv)=b3) (h4:decide (C=ca)=b4) (h5:decide (C=ci)=b5)
  (cnt:[b0,b1,b2,b3,b4,b5].countP id=1) (hj:[b0,b1,b2,b3,b4,b5][j]?=ZA ZC) (hno:∀m,m<j->[b0,b1,b2,b3,b4,b5][m]?=ZA ZD)
  (q:∀p H',Same H H'->H p=ZB->H' p=ZA (.tup [.str "refused",.int (j:Nat)])->Q (.ref p) H') (cdv:N8):
  ∃t,PSs (MR P w K mg base ["_law_e","_law_flags"] "_law_refused" (ay cI) f cdv A outer s H e oe) (de cI) t/\t {nx:=λ_ _=>False,rt:=Q} (start ["_law_e","_law_flags"] [.ref e]) H:=by
 have nd:=aaD.nd;have hp:(e,oe)∈(MR P w K mg base ["_law_e","_law_flags"] "_law_refused" (ay cI) f cdv A outer s H e oe).pn:=Ob;refine⟨_,lV (pH (i:=1) nd rfl (TL rfl) (tZ (bB (mS rfl (TL rfl) hp hc hd OC S.o_NoRecord b0 h0 (λ_=>Xs.ne f8) hi S.m_NoRecord) (bB (mS rfl (TL rfl) hp hc hd OC S.o_NoEvent b1 h1 (λ_=>Xs.ne gt) hi S.m_NoEvent) (bB (mS rfl (TL rfl) hp hc hd OC S.o_NoNumber b2 h2 (λ_=>Xs.ne ii) hi S.m_NoNumber) dS)))))
  (lV (pH (i:=1) nd rfl (TL rfl) (LB CZ (pv 1) (tZ (bB (mS rfl (TL rfl) hp hc hd OC S.o_NoWorld b3 h3 (λ_=>Xs.ne im) hi S.m_NoWorld) (bB (mS rfl (TL rfl) hp hc hd OC S.o_Barred b4 h4 (λ_=>Xs.ne io) hi S.m_Barred) (bB (mS rfl (TL rfl) hp hc hd OC S.o_Nothing b5 h5 (λ_=>Xs.ne jp) hi S.m_Nothing) dS))))))
  (lV (Hs (PW.pt (Hr (FT LD (zy QK PySem.F.slot_list_count PySem.F.type_list_count AX (pv 1) (bB CQ dS)) xZ (Jz _)) (Cw (CA (Cz (Jm rfl (TL rfl) hp hc OC hi hv)))))) (gG CC) zo)
  (gG (jN (tY (bB CJ (bB (zy QK T5 T6 AV (pv 1) (bB CQ dS)) dS))))))),?_⟩
 refine⟨rfl,rfl,rfl,(by show 3<=ZI;decide),λl1 n1=>?_⟩;refine⟨.ref l1,rfl,rfl,rfl,rfl,(by show 3<=ZI;decide),λl2 n2=>?_⟩;have ne21:l1≠l2:=λz=>by subst z;rw[aH]at n2;cases n2
 refine⟨l1,l2,[.bl b0,.bl b1,.bl b2],[.bl b3,.bl b4,.bl b5],rfl,rfl,by rw[aF ne21,aH],aH,(by show 3+3<=ZI;decide),λl3 n3=>?_⟩;refine⟨.ref l3,rfl,.inl ⟨rfl,_,SqL.of aH⟩,⟨l3,[b0,b1,b2,b3,b4,b5],rfl,rfl,aH,?_⟩⟩;have hz:(!decide (V.int (([b0,b1,b2,b3,b4,b5].countP id:Nat):Int)=V.int 1))=ZD:=by rw[cnt];simp
 refine⟨rfl,ZD,congrArg V.bl hz,iteF ⟨rfl,ZC,rfl,iteF ?_⟩⟩;have hj6:j<6:=by have:=(Og.mp hj).1;simpa using this
 refine⟨.ref l3,rfl,.inl ⟨rfl,_,SqL.of aH⟩,⟨l3,[b0,b1,b2,b3,b4,b5],j,rfl,rfl,aH,hj,hno,by omega,(by show 2<=ZI;decide),λp np=>q p _ ?_ ?_ aH⟩⟩
 rotate_left
 .have m3:p≠l3:=λz=>by subst z;rw[aH]at np;cases np
  have m2:p≠l2:=λz=>by subst z;rw[aF m3,aH]at np;cases np
  have m1:p≠l1:=λz=>by subst z;rw[aF m3,aF m2,aH]at np;cases np
  rw[aF m3,aF m2,aF m1]at np;exact np
 intro b o hb;have m1:b≠l1:=λz=>by subst z;rw[n1]at hb;cases hb
 have m2:b≠l2:=λz=>by subst z;rw[aF m1,hb]at n2;cases n2
 have m3:b≠l3:=λz=>by subst z;rw[aF m2,aF m1,hb]at n3;cases n3
 have m4:b≠p:=λz=>by subst z;rw[aF m3,aF m2,aF m1,hb]at np;cases np
 rw[aF m4,aF m3,aF m2,aF m1];exact hb
end
variable{X:Cx}{p1:Pos}
def tRC(X:Cx)(i:Nat)(e:ZE)(j:Nat):TE:=λσ H Q=>σ[i]?=ZA (ZA (.ref e))/\H e=ZB/\e∉kJ X.stack/\∀p H',Same H H'->H p=ZB->H' p=ZA (.tup [.str "refused",.int (j:Nat)])->Q (.ref p) H'
def f9{en:Str}{p pos:Pos}{e:ZE}(hN:X.N[i]?=ZA en)(hv:u6 X.env.scope en)
  (Fn_:Fn X.K X.mg "_law_refused" cI ["_law_e"] f fd) (S:Xs X.K X.mg ac bi bn bv ca ci cr) (OC:OX X.K C (.ref cr::ou))
  (hc:oe.cls=.ref C) (hd:oe.data=.fields ev) (hi:X.mg "isinstance" =ZB) (hvv:X.mg "ValueError" =ZB) (f8:cr≠ac) (gt:cr≠bi) (ii:cr≠bn) (im:cr≠bv) (io:cr≠ca) (jp:cr≠ci)
  {b0 b1 b2 b3 b4 b5:Bool} (h0:decide (C=ac)=b0) (h1:decide (C=bi)=b1) (h2:decide (C=bn)=b2) (h3:decide (C=bv)=b3) (h4:decide (C=ca)=b4) (h5:decide (C=ci)=b5)
  (cnt:[b0,b1,b2,b3,b4,b5].countP id=1) (hj:[b0,b1,b2,b3,b4,b5][j]?=ZA ZC) (hno:∀m,m<j->[b0,b1,b2,b3,b4,b5][m]?=ZA ZD) (hr:X.A.depth+3<RV)
  (hg:Gl (yM X e oe) "_law_refused":=by rfl) (hde:autoParam ((en == ("__debug__" : Str))=ZD) s_) (hce:autoParam ((en == ("__classdict__" : Str))=ZD) s_)
  (he:Ov [.Name en p1] X.env=(ZD,eval (.Name en p1) X.env)::Ov [] X.env:=by rfl) (hpl:(backTo pos (Ov [] X.env)).any (·.1)=ZD:=by rfl):
  PE (yM X e oe) (.Call (.Name "_law_refused" p) [.Name en p1] [] pos) (tRC X i e j):=by
 intro kw s σ H Q I ⟨hσ,hH,hf,q⟩;refine Pa (jh (X:=yM X e oe) I hg Fn_.mg ?_ (by decide));have hA:PA (yM X e oe) [.Name en p1] (ij (o8 i) tD):=bB (jd (X:=yM X e oe) hN hv hde hce) dS he;refine Sd (h₀:=X.base) I.ok.mod.kin Fn_.fn.kp (cM (hA pos kw s σ H (λvs H'=>vs=[.ref e]/\H'=H) I ⟨.ref e,hσ,rfl,rfl⟩) λus s1 ⟨vs,H1,I1,r,e1,e2⟩=>⟨I1.kIn,?_⟩) he hpl;subst e1;subst e2;obtain⟨u,rfl,ru⟩:=lK r;cases ru;have hoe:s1.heap.get? e=ZA oe:=(I1.pin (e,oe) (O6 _ Ob)).1;have hb:=Fn_.bd s1 [.ref e] I1.kIn rfl;refine UW (R9 (Kb (Q:=Q) Fn_.fn aaD (vs:=[.ref e]) rfl hr I1.Nx hb r hoe hH hf (λv z=>by rw[hd]at z;cases z) λcdv=>Ck S OC hc hd hi hvv f8 gt ii im io jp h0 h1 h2 h3 h4 h5 cnt hj hno q cdv) λr s' hq=>?_);cases r with
 |error ev=>exact hq.elim
 |ok fl=>
  cases fl with
  |ret u=>exact I1.after hq
  |next=>exact hq.elim
  |brk=>exact hq.elim
  |cont=>exact hq.elim
def ko{O:Ow}{H H':Hp}{p:ZE}(hO:∀p,H p=ZB->¬ O p)(hp:H p=ZB)(h:H' p=ZA (.tup [.str "refused",.int (j:Nat)])):Rep K O H' (cN j) (.ref p):=
 Rep.Fk.mpr ⟨p,_,rfl,hO p hp,h,Reps.Gc (Rep.NH _) (Reps.Gc (Rep.GE _) Reps.GM)⟩
theorem B0{en:Str}{p pos rp:Pos}(hN:X.N[i]?=ZA en)(hv:u6 X.env.scope en)
  (Fn_:Fn X.K X.mg "_law_refused" cI ["_law_e"] f fd) (S:Xs X.K X.mg ac bi bn bv ca ci cr) (hi:X.mg "isinstance" =ZB) (hvv:X.mg "ValueError" =ZB) (hr:X.A.depth+3<RV)
  (hg:autoParam (∀e oe,Gl (yM X e oe) "_law_refused") w_) (hde:autoParam ((en == ("__debug__" : Str))=ZD) s_) (hce:autoParam ((en == ("__classdict__" : Str))=ZD) s_)
  (he:Ov [.Name en p1] X.env=(ZD,eval (.Name en p1) X.env)::Ov [] X.env:=by rfl) (hpl:(backTo pos (Ov [] X.env)).any (·.1)=ZD:=by rfl):
  u7 X i [.Return (ZA (.Call (.Name "_law_refused" p) [.Name en p1] [] pos)) rp] cr ng:=by
 have dd:=S.d;have ap:∀{a b:ZE}(i j:Nat),i<j->[ac,bi,bn,bv,ca,ci,cr][i]?=ZA a->[ac,bi,bn,bv,ca,ci,cr][j]?=ZA b->a≠b:=λ{a b} i j hij ha hb z=>by have:=(Wd (Og.mp ha).1 dd).mp (ha.trans (z▸hb.symm));omega
 have hin:∀C:ZE,(Oz C:: .ref cr::ou).contains (.ref cr)=ZC:=λC=>by rw[Qe,Qe,beq_self_eq_true,Wu,Wt]
 have f8:cr≠ac:=(PJ (ap 0 6 (by decide) rfl rfl));have gt:cr≠bi:=(PJ (ap 1 6 (by decide) rfl rfl));have ii:cr≠bn:=(PJ (ap 2 6 (by decide) rfl rfl));have im:cr≠bv:=(PJ (ap 3 6 (by decide) rfl rfl));have io:cr≠ca:=(PJ (ap 4 6 (by decide) rfl rfl));have jp:cr≠ci:=(PJ (ap 5 6 (by decide) rfl rfl));intro c C t hm ht;unfold ng at ht;by_cases z0:c= "NoRecord"
 .rw[if_pos z0]at ht;cases ht;rw[z0,S.m_NoRecord]at hm;cases hm;refine⟨_,S.o_NoRecord,hin _,λe oe ev hc hd kw s σ H O Q I hH hf hσ hO q=>?_⟩;exact gG (jN (f9 hN hv Fn_ S S.o_NoRecord hc hd hi hvv f8 gt ii im io jp (b0:=ZC) (b1:=ZD) (b2:=ZD) (b3:=ZD) (b4:=ZD) (b5:=ZD) (by simp) (by rw[decide_eq_false (ap 0 1 (by decide) rfl rfl)]) (by rw[decide_eq_false (ap 0 2 (by decide) rfl rfl)]) (by rw[decide_eq_false (ap 0 3 (by decide) rfl rfl)]) (by rw[decide_eq_false (ap 0 4 (by decide) rfl rfl)]) (by rw[decide_eq_false (ap 0 5 (by decide) rfl rfl)]) (by decide) (j:=0) rfl (λm hm=>by omega) hr (hg e oe) hde hce he hpl)) kw s σ H _ I ⟨hσ,hH,hf,λp H' sm hp h=>q _ _ sm (ko hO hp h)⟩
 rw[if_neg z0]at ht;by_cases z1:c= "NoEvent"
 .rw[if_pos z1]at ht;cases ht;rw[z1,S.m_NoEvent]at hm;cases hm;refine⟨_,S.o_NoEvent,hin _,λe oe ev hc hd kw s σ H O Q I hH hf hσ hO q=>?_⟩;exact gG (jN (f9 hN hv Fn_ S S.o_NoEvent hc hd hi hvv f8 gt ii im io jp (b0:=ZD) (b1:=ZC) (b2:=ZD) (b3:=ZD) (b4:=ZD) (b5:=ZD) (by rw[decide_eq_false (PJ (ap 0 1 (by decide) rfl rfl))]) (by simp) (by rw[decide_eq_false (ap 1 2 (by decide) rfl rfl)]) (by rw[decide_eq_false (ap 1 3 (by decide) rfl rfl)]) (by rw[decide_eq_false (ap 1 4 (by decide) rfl rfl)]) (by rw[decide_eq_false (ap 1 5 (by decide) rfl rfl)]) (by decide) (j:=1) rfl (λm hm=>by match m,hm with|0,_=>rfl) hr (hg e oe) hde hce he hpl)) kw s σ H _ I ⟨hσ,hH,hf,λp H' sm hp h=>q _ _ sm (ko hO hp h)⟩
 rw[if_neg z1]at ht;by_cases z2:c= "NoNumber"
 .rw[if_pos z2]at ht;cases ht;rw[z2,S.m_NoNumber]at hm;cases hm;refine⟨_,S.o_NoNumber,hin _,λe oe ev hc hd kw s σ H O Q I hH hf hσ hO q=>?_⟩;exact gG (jN (f9 hN hv Fn_ S S.o_NoNumber hc hd hi hvv f8 gt ii im io jp (b0:=ZD) (b1:=ZD) (b2:=ZC) (b3:=ZD) (b4:=ZD) (b5:=ZD) (by rw[decide_eq_false (PJ (ap 0 2 (by decide) rfl rfl))]) (by rw[decide_eq_false (PJ (ap 1 2 (by decide) rfl rfl))]) (by simp) (by rw[decide_eq_false (ap 2 3 (by decide) rfl rfl)]) (by rw[decide_eq_false (ap 2 4 (by decide) rfl rfl)]) (by rw[decide_eq_false (ap 2 5 (by decide) rfl rfl)]) (by decide) (j:=2) rfl (λm hm=>by match m,hm with|0,_=>rfl|1,_=>rfl) hr (hg e oe) hde hce he hpl)) kw s σ H _ I ⟨hσ,hH,hf,λp H' sm hp h=>q _ _ sm (ko hO hp h)⟩
 rw[if_neg z2]at ht;by_cases z3:c= "NoWorld"
 .rw[if_pos z3]at ht;cases ht;rw[z3,S.m_NoWorld]at hm;cases hm;refine⟨_,S.o_NoWorld,hin _,λe oe ev hc hd kw s σ H O Q I hH hf hσ hO q=>?_⟩;exact gG (jN (f9 hN hv Fn_ S S.o_NoWorld hc hd hi hvv f8 gt ii im io jp (b0:=ZD) (b1:=ZD) (b2:=ZD) (b3:=ZC) (b4:=ZD) (b5:=ZD) (by rw[decide_eq_false (PJ (ap 0 3 (by decide) rfl rfl))]) (by rw[decide_eq_false (PJ (ap 1 3 (by decide) rfl rfl))]) (by rw[decide_eq_false (PJ (ap 2 3 (by decide) rfl rfl))]) (by simp) (by rw[decide_eq_false (ap 3 4 (by decide) rfl rfl)]) (by rw[decide_eq_false (ap 3 5 (by decide) rfl rfl)]) (by decide) (j:=3) rfl (λm hm=>by match m,hm with|0,_=>rfl|1,_=>rfl|2,_=>rfl) hr (hg e oe) hde hce he hpl)) kw s σ H _ I ⟨hσ,hH,hf,λp H' sm hp h=>q _ _ sm (ko hO hp h)⟩
 rw[if_neg z3]at ht;by_cases z4:c= "Barred"
 .rw[if_pos z4]at ht;cases ht;rw[z4,S.m_Barred]at hm;cases hm;refine⟨_,S.o_Barred,hin _,λe oe ev hc hd kw s σ H O Q I hH hf hσ hO q=>?_⟩;exact gG (jN (f9 hN hv Fn_ S S.o_Barred hc hd hi hvv f8 gt ii im io jp (b0:=ZD) (b1:=ZD) (b2:=ZD) (b3:=ZD) (b4:=ZC) (b5:=ZD) (by rw[decide_eq_false (PJ (ap 0 4 (by decide) rfl rfl))]) (by rw[decide_eq_false (PJ (ap 1 4 (by decide) rfl rfl))]) (by rw[decide_eq_false (PJ (ap 2 4 (by decide) rfl rfl))]) (by rw[decide_eq_false (PJ (ap 3 4 (by decide) rfl rfl))]) (by simp) (by rw[decide_eq_false (ap 4 5 (by decide) rfl rfl)]) (by decide) (j:=4) rfl (λm hm=>by match m,hm with|0,_=>rfl|1,_=>rfl|2,_=>rfl|3,_=>rfl) hr (hg e oe) hde hce he hpl)) kw s σ H _ I ⟨hσ,hH,hf,λp H' sm hp h=>q _ _ sm (ko hO hp h)⟩
 rw[if_neg z4]at ht;by_cases z5:c= "Nothing"
 .rw[if_pos z5]at ht;cases ht;rw[z5,S.m_Nothing]at hm;cases hm;refine⟨_,S.o_Nothing,hin _,λe oe ev hc hd kw s σ H O Q I hH hf hσ hO q=>?_⟩;exact gG (jN (f9 hN hv Fn_ S S.o_Nothing hc hd hi hvv f8 gt ii im io jp (b0:=ZD) (b1:=ZD) (b2:=ZD) (b3:=ZD) (b4:=ZD) (b5:=ZC) (by rw[decide_eq_false (PJ (ap 0 5 (by decide) rfl rfl))]) (by rw[decide_eq_false (PJ (ap 1 5 (by decide) rfl rfl))]) (by rw[decide_eq_false (PJ (ap 2 5 (by decide) rfl rfl))]) (by rw[decide_eq_false (PJ (ap 3 5 (by decide) rfl rfl))]) (by rw[decide_eq_false (PJ (ap 4 5 (by decide) rfl rfl))]) (by simp) (by decide) (j:=5) rfl (λm hm=>by match m,hm with|0,_=>rfl|1,_=>rfl|2,_=>rfl|3,_=>rfl|4,_=>rfl) hr (hg e oe) hde hce he hpl)) kw s σ H _ I ⟨hσ,hH,hf,λp H' sm hp h=>q _ _ sm (ko hO hp h)⟩
 rw[if_neg z5]at ht;cases ht
def sV:Y1:=
 (aL (cR (o1 (Gx "tuple") (vr 0)) (ch KI KI (vr 1) (cl cA (ae (vr 0) ai)) (vr 2))))
def aS:List T->Rs T:=val 3 3 sV
def yV:Y1:=
 (aL (cR (o1 (Gx "int") (vr 0)) (o1 uu (o1 (Gx "bool") (vr 0)))))
def jg:List T->Rs T:=val 1 1 yV
def kh:Y1:=
 (aL (cR (cl jg (ae (vr 0) ai)) (ch KI KI (vr 1) (vr 0) (vr 2))))
def bc:List T->Rs T:=val 3 3 kh
def nv:Y1:=
 (aL (cR (cl bc (ae (vr 0) (ae (cn (.int 1)) (ae (cn (.int 9)) ai)))) (cl bc (ae (vr 1) (ae (vr 0) (ae (cn (.int 9)) ai))))))
def gK:List T->Rs T:=val 2 2 nv
def As:Y1:=
 (aL (cl rG (ae (d9 (iR (ae (o2 fB (cl cA (ae (vr 0) ai)) (cn (.int 1))) ai)) [ZB,ZA 0] (gN 0) bT (o2 wB (o2 aW (vr 1) (vr 0)) (o2 aW (vr 1) (o2 aY (vr 0) (cn (.int 1)))))) ai)))
def kF:List T->Rs T:=val 1 1 As
def fR:Y1:=
 (aA (fS (dQ (tb (cl aS (ae (vr 0) (ae (cn (.int 1)) (ae (cn (.int 4)) ai)))))) (aL (cn (.bl ZD))) sN) (aL (cR (cl rG (ae (d9 (iS (vr 0)) [ZB] (gN 0) bT (cl bc (ae (vr 0) (ae (cn (.int 0)) (ae (cn (.int 99)) ai))))) ai)) (cl kF (ae (vr 0) ai)))))
def cy:List T->Rs T:=val 1 1 fR
def jq:Y1:=
 (aL (cR (cl aS (ae (vr 0) (ae (cn (.int 3)) (ae (cn (.int 3)) ai)))) (cR (cl gK (ae (o2 aW (vr 0) (cn (.int 0))) (ae (o2 aW (vr 0) (cn (.int 1))) ai))) (cl cy (ae (o2 aW (vr 0) (cn (.int 2))) ai)))))
def dY:List T->Rs T:=val 1 1 jq
def jr:Y1:=
 (aL (cR (cl aS (ae (vr 0) (ae (cn (.int 1)) (ae (cn (.int 4)) ai)))) (cl rG (ae (d9 (iS (vr 0)) [ZB] (gN 0) bT (cl dY (ae (vr 0) ai))) ai))))
def eE:List T->Rs T:=val 1 1 jr
def jn:Y1:=
 (aA (fS (nZ (dQ (tb (cl aS (ae (vr 1) (ae (cn (.int 2)) (ae (cn (.int 2)) ai)))))) (dQ (tb (cl bc (ae (o2 aW (vr 1) (cn (.int 0))) (ae (cn (.int 0)) (ae (o2 fB (cl cA (ae (vr 0) ai)) (cn (.int 1))) ai))))))) (aL (cn (.bl ZD))) sN) (aL (cl bc (ae (o2 aW (vr 1) (cn (.int 1))) (ae (cn (.int 0)) (ae (o2 fB (cl cA (ae (o2 aW (o2 aW (vr 0) (o2 aW (vr 1) (cn (.int 0)))) (cn (.int 2))) ai)) (cn (.int 1))) ai))))))
def dX:List T->Rs T:=val 2 2 jn
def jo:Y1:=
 (aL (cR (cl bc (ae (vr 0) (ae (cn (.int 0)) (ae (cn (.int 999)) ai)))) (EL (o2 iI (vr 1) (cn .non)) (cl bc (ae (vr 1) (ae (vr 0) (ae (cn (.int 999)) ai)))))))
def fq:List T->Rs T:=val 2 2 jo
def fA:Y1:=
 (aA (fS (nZ (dQ (tb (cl aS (ae (vr 1) (ae (cn (.int 4)) (ae (cn (.int 4)) ai)))))) (dQ (tb (cl fq (ae (o2 aW (vr 1) (cn (.int 2))) (ae (o2 aW (vr 1) (cn (.int 3))) ai)))))) (aL (cn (.bl ZD))) sN) (aL (cR (cl dX (ae (vr 0) (ae (o2 aW (vr 1) (cn (.int 0))) ai))) (cR (cl dX (ae (vr 0) (ae (o2 aW (vr 1) (cn (.int 1))) ai))) (o2 oB (o2 aW (vr 1) (cn (.int 0))) (o2 aW (vr 1) (cn (.int 1))))))))
def cO:List T->Rs T:=val 2 2 fA
def iM:Y1:=
 (aL (cR (cl aS (ae (vr 1) (ae (cn (.int 0)) (ae (cn (.int 8)) ai)))) (cl rG (ae (d9 (iS (vr 1)) [ZB,ZA 0] (gN 0) bT (cl cO (ae (vr 1) (ae (vr 0) ai)))) ai))))
def dJ:List T->Rs T:=val 2 2 iM
def iA:Y1:=
 (aL (cR (cl aS (ae (vr 0) (ae (cn (.int 2)) (ae (cn (.int 2)) ai)))) (cR (cl eE (ae (o2 aW (vr 0) (cn (.int 0))) ai)) (cl dJ (ae (o2 aW (vr 0) (cn (.int 0))) (ae (o2 aW (vr 0) (cn (.int 1))) ai))))))
def dW:List T->Rs T:=val 1 1 iA
def e9:Y1:=
 (fS (dQ (tb (cl dW (ae (vr 0) ai)))) (B6 "NoRecord") sN)
def cp:List T->Rs T:=val 1 1 e9
abbrev bcF:Y1:=(aA (cJ (aQ (ae (vr 0) (ae (vr 4) ai))) (gN 5)) (aA (cJ (aQ (ae (vr 0) (ae (o2 aY (vr 4) (cn (.int 1))) ai))) (gN 6)) (aA (cJ (o2 fB (o2 aW (vr 2) (o2 aY (vr 4) (cn (.int 1)))) (o2 aW (vr 2) (vr 4))) (gN 7)) (aA (iY 3 (aQ (ae (vr 5) (ae (vr 6) (ae (o2 cv (vr 7) (o2 aW (vr 1) (cn (.int 1)))) ai))))) (iY 3 (aQ (ae (vr 6) (ae (vr 5) (ae (o2 cv (o1 kW (vr 7)) (o2 aW (vr 1) (cn (.int 0)))) ai)))))))))
def fQ:Y1:=
 (aA (cJ (o2 aW (vr 1) (cn (.int 2))) (gN 2)) (aA (jB 3 ai) (aA (eh (iR (ae (o2 fB (cl cA (ae (vr 2) ai)) (cn (.int 1))) ai)) (gN 4) bcF) (nX 3 (aL (vr 3))))))
def dj:List T->Rs T:=val 2 8 fQ
def fy:Y1:=
 (aA (jB 1 (ae (aQ (ae (o2 aW (vr 0) (cn (.int 1))) (ae (o2 aW (vr 0) (cn (.int 0))) (ae (o1 kW (o2 aW (vr 0) (cn (.int 2)))) ai)))) ai)) (aA (fS (tb (o2 fW (o2 aW (vr 0) (cn (.int 3))) (cn .non))) (iY 1 (aQ (ae (o2 aW (vr 0) (cn (.int 0))) (ae (o2 aW (vr 0) (cn (.int 1))) (ae (o2 aW (vr 0) (cn (.int 3))) ai))))) sN) (nX 1 (aL (vr 1)))))
def cZ:List T->Rs T:=val 1 2 fy
abbrev bdF:Y1:=pG 1 (cl dj (ae (vr 2) (ae (vr 3) ai)))
def kl:Y1:=
 (aA (xS (cl cp (ae (vr 0) ai))) (aA (jB 1 ai) (aA (eh (iE (ae (o2 aW (vr 0) (cn (.int 0))) ai)) (gT 2 (i7 (gN 2) (i7 (gN 3) ve))) bdF) (aA (eh (iS (o2 aW (vr 0) (cn (.int 1)))) (gN 4) (pG 1 (cl cZ (ae (vr 4) ai)))) (nX 1 (aL (vr 1)))))))
def eV:List T->Rs T:=val 1 5 kl
def ff:Y1:=
 (fS (dQ (tb (cl bc (ae (vr 1) (ae (cn (.int 0)) (ae (o2 fB (vr 0) (cn (.int 1))) ai)))))) (B6 "NoNumber") sN)
def eR:List T->Rs T:=val 2 2 ff
abbrev peF:Y1:=pG 1 (d9 (iR (ae (cl cA (ae (o2 aW (vr 3) (cn (.int 2))) ai)) ai)) [ZB,ZA 2] (gN 0) bT (aQ (ae (vr 1) (ae (vr 0) ai))))
def qW:Y1:=
 (aA (xS (cl cp (ae (vr 0) ai))) (aA (jB 1 ai) (aA (eh (iE (ae (o2 aW (vr 0) (cn (.int 0))) ai)) (gT 2 (i7 (gN 2) (i7 (gN 3) ve))) peF) (nX 1 (aL (vr 1))))))
def eU:List T->Rs T:=val 1 4 qW
def kj:Y1:=
 (aA (cJ (oD jE (vr 0) (o2 aW (vr 1) (cn (.int 1)))) (gN 3)) (aL (EL (o2 iI (vr 3) (cn .non)) (o2 wB (o2 aY (o2 aW (vr 2) (cn (.int 0))) (o2 aW (vr 1) (cn (.int 2)))) (o2 aW (vr 3) (cn (.int 0)))))))
def dZ:List T->Rs T:=val 3 4 kj
abbrev EK:Y1:=(aA (cJ (ln 2 (oD jE (vr 2) (o2 aW (vr 5) (cn (.int 0))))) (gN 6)) (aA (fS (nZ (tb (o2 iI (vr 6) (cn .non))) (dQ (JK 2 (tb (cl dZ (ae (vr 2) (ae (vr 5) (ae (vr 6) ai)))))))) K4 sN) (aA (cJ (o2 aY (o2 aW (vr 6) (cn (.int 1))) (dB (ae (vr 4) ai))) (gN 7)) (aA (cJ (d9 (iS (vr 7)) [ZB,ZA 0] (gN 0) bT (o2 aW (o2 aW (vr 1) (vr 0)) (cn (.int 0)))) (gN 8)) (aA (fS (tb (o2 sr (o2 aW (vr 5) (cn (.int 1))) (vr 8))) (aL (aQ (ae (cn .non) (ae (sl (vr 7) (pS (oL ip (vr 8) (o2 aW (vr 5) (cn (.int 1))))) pN) ai)))) sN) (aA (AF 2 (o2 aW (vr 5) (cn (.int 1))) (aQ (ae (o2 aY (o2 aW (vr 6) (cn (.int 0))) (o2 aW (vr 5) (cn (.int 2)))) (ae (vr 7) ai)))) (cJ (cn (.bl ZC)) (gN 3))))))))
def kg:Y1:=
 (aA (rS 2 (d9 (iS (vr 1)) [ZB] (gN 0) bT (aQ (ae (vr 0) (ae (aQ (ae (cn (.int 0)) (ae (dB ai) ai))) ai))))) (aA (cJ (cn (.bl ZC)) (gN 3)) (aA (cg (tb (vr 3)) (aA (cJ (cn (.bl ZD)) (gN 3)) (eh (iE (ae (vr 0) ai)) (gT 2 (i7 (gN 4) (i7 (gN 5) ve))) EK)) FU) (nX 2 (aL (aQ (ae (vr 2) (ae (cn .non) ai))))))))
def fI:List T->Rs T:=val 2 9 kg
def gd:Y1:=
 (aA (cJ (cl eU (ae (vr 0) ai)) (gN 2)) (aA (cJ (o2 aW (cl fI (ae (vr 1) (ae (vr 2) ai))) (cn (.int 0))) (gN 3)) (aA (fS (tb (o2 iI (vr 3) (cn .non))) (aL (cn .non)) sN) (aL (cl fo (ae (d9 (iS (vr 2)) [ZB,ZA 3] (gN 0) bT (o2 aW (o2 bO (vr 1) (vr 0)) (cn (.int 0)))) ai))))))
def eC:List T->Rs T:=val 2 4 gd
def G9:Y1:=
 (aL (cl eC (ae (vr 0) (ae (cl eV (ae (vr 0) ai)) ai))))
def kD:List T->Rs T:=val 1 1 G9
def xu:Y1:=
 (aL (o2 fW (cl kD (ae (vr 0) ai)) (cn .non)))
def aN:List T->Rs T:=val 1 1 xu
def dH:Y1:=
 (fS (dQ (tb (cl aN (ae (vr 0) ai)))) (B6 "NoWorld") sN)
def bD:List T->Rs T:=val 1 1 dH
def cu:Y1:=
 (aA (cJ (cl eV (ae (vr 0) ai)) (gN 2)) (aA (xS (cl eR (ae (cl cA (ae (vr 2) ai)) (ae (vr 1) ai)))) (aA (xS (cl bD (ae (vr 0) ai))) (aA (cJ (o2 aW (vr 2) (vr 1)) (gN 3)) (aA (cJ (o2 aW (cl fI (ae (o2 aY (sl (vr 2) pN (pS (vr 1))) (sl (vr 2) (pS (o2 aY (vr 1) (cn (.int 1)))) pN)) (ae (dB (ae (o2 aW (vr 3) (cn (.int 0))) ai)) ai))) (cn (.int 0))) (gN 4)) (aL (cR (o2 Bk (o2 aW (vr 3) (cn (.int 1))) (vr 4)) (o2 KI (o2 aW (o2 bO (vr 4) (o2 aW (vr 3) (cn (.int 1)))) (cn (.int 0))) (o2 aW (vr 3) (cn (.int 2)))))))))))
def cq:List T->Rs T:=val 2 5 cu
def rJ:Y1:=
 (aL (lR (ae (cl cA (ae (o2 aW (vr 0) (cn (.int 1))) ai)) ai)))
def bK:List T->Rs T:=val 1 1 rJ
def vc:Y1:=
 (aL (o2 aW (cl fI (ae (cl eV (ae (vr 0) ai)) (ae (dB (ae (vr 1) ai)) ai))) (cn (.int 0))))
def fH:List T->Rs T:=val 2 2 vc
def BF:Y1:=
 (aL (DO (tb (o2 Bk (vr 1) (vr 0))) (o2 aW (o2 bO (vr 0) (vr 1)) (cn (.int 0))) (cn .non)))
def gJ:List T->Rs T:=val 2 2 BF
abbrev amF:Y1:=(aA (cJ (cl fH (ae (vr 0) (ae (vr 3) ai))) (gN 4)) (iY 2 (cl fo (ae (d9 (iS (vr 1)) [ZB,ZA 4] (gN 0) bT (cl gJ (ae (vr 1) (ae (vr 0) ai)))) ai))))
def lI:Y1:=
 (aA (xS (cl bD (ae (vr 0) ai))) (aA (cJ (cl eU (ae (vr 0) ai)) (gN 1)) (aA (jB 2 ai) (aA (eh (iS (vr 1)) (gN 3) amF) (aL (ln 2 (cl fo (ae (vr 2) ai))))))))
def gY:List T->Rs T:=val 1 5 lI
def iK:Y1:=
 (aA (fS (tb (o2 oB (cl eU (ae (vr 0) ai)) (cl eU (ae (vr 1) ai)))) (aL (cn (.bl ZD))) sN) (aA (fS (nZ (dQ (tb (cl aN (ae (vr 0) ai)))) (dQ (tb (cl aN (ae (vr 1) ai))))) (aL (cR (o1 uu (cl aN (ae (vr 0) ai))) (o1 uu (cl aN (ae (vr 1) ai))))) sN) (aL (o2 oj (cl gY (ae (vr 0) ai)) (cl gY (ae (vr 1) ai))))))
def cm:List T->Rs T:=val 2 2 iK
def xt:Y1:=
 (aL (aQ (ae (o2 aW (vr 0) (cn (.int 0))) (ae (cl fo (ae (d9 (iS (vr 1)) [ZB,ZA 0] (gN 0) bT (o2 aW (o2 aW (vr 1) (cn (.int 1))) (vr 0))) ai)) ai))))
def bR:List T->Rs T:=val 2 2 xt
def BD:Y1:=
 (aL (d9 (iS (vr 0)) [ZB,ZA 1] (gN 0) (tb (o2 oB (vr 0) (vr 1))) (vr 0)))
def ez:List T->Rs T:=val 2 2 BD
def c8:Y1:=
 (aA (xS (cl bD (ae (vr 0) ai))) (aA (cJ (cl bK (ae (vr 0) ai)) (gN 1)) (aL (d9 (iS (vr 1)) [ZB,ZA 0,ZA 1] (gN 0) (tb (cl cm (ae (cl bR (ae (vr 1) (ae (cl ez (ae (vr 2) (ae (vr 0) ai))) ai))) (ae (vr 1) ai)))) (vr 0)))))
def bz:List T->Rs T:=val 1 2 c8
def dI:Y1:=
 (aA (xS (cl bD (ae (vr 0) ai))) (aA (cJ (vr 0) (gN 1)) (aA (eh (Mf (ae (o2 fB (cl cA (ae (o2 aW (vr 0) (cn (.int 1))) ai)) (cn (.int 1))) (ae (o1 kW (cn (.int 1))) (ae (o1 kW (cn (.int 1))) ai)))) (gN 2) (aA (cJ (cl bR (ae (vr 1) (ae (cl ez (ae (cl bK (ae (vr 1) ai)) (ae (vr 2) ai))) ai))) (gN 3)) (fS (tb (cl cm (ae (vr 3) (ae (vr 0) ai)))) (cJ (vr 3) (gN 1)) sN))) (aL (vr 1)))))
def b9:List T->Rs T:=val 1 4 dI
def BE:Y1:=
 (aA (cJ (dB (ae (dB ai) ai)) (gN 1)) (aA (eh (iS (vr 0)) (gN 2) (cJ (o2 aY (vr 1) (d9 (iS (vr 1)) [ZB,ZA 2] (gN 0) bT (o2 aY (vr 0) (dB (ae (vr 1) ai))))) (gN 1))) (aL (vr 1))))
def kE:List T->Rs T:=val 1 3 BE
def gy:Y1:=
 (aA (xS (cl cp (ae (vr 0) ai))) (aA (cJ (cl vE (ae (cl kE (ae (cl bK (ae (vr 0) ai)) ai)) ai)) (gN 1)) (aA (cJ (cn (.int 0)) (gN 2)) (aA (cg (dQ (tb (cl aN (ae (cl bR (ae (vr 0) (ae (o2 aW (vr 1) (vr 2)) ai))) ai)))) (B7 2 (cn (.int 1))) FU) (aL (o2 aW (vr 1) (vr 2)))))))
def dU:List T->Rs T:=val 1 3 gy
def hY:Y1:=
 (aA (fS (tb (cl aN (ae (vr 0) ai))) (aL (dB ai)) sN) (aA (cJ (cl bK (ae (vr 0) ai)) (gN 1)) (aL (d9 (iS (vr 1)) [ZB,ZA 0,ZA 1] (gN 0) (tb (cl aN (ae (cl bR (ae (vr 1) (ae (cl ez (ae (vr 2) (ae (vr 0) ai))) ai))) ai))) (vr 0)))))
def ft:List T->Rs T:=val 1 2 hY
def dt:Y1:=
 (vJ (aA (fS (tb (o2 wB (vr 0) (cn (.int 4)))) (aL (AD [bz,b9,dU,ft] (vr 0) (ae (vr 1) ai))) sN) (aL (cl cq (ae (vr 1) (ae (vr 2) ai))))) ng)
def aZ:List T->Rs T:=val 3 4 dt
def gf:Y1:=
 (aA (cJ (aQ (ae (aQ (ae (aQ (ae (cn (.int 1)) (ae (cn (.int 1)) (ae (aQ (ae (cn (.int 0)) (ae (cn (.int 1)) ai))) ai)))) (ae (aQ (ae (cn (.int 1)) (ae (cn (.int 1)) (ae (aQ (ae (cn (.int 0)) ai)) ai)))) ai))) (ae (aQ (ae (aQ (ae (aQ (ae (cn (.int 1)) (ae (cn (.int 0)) ai))) (ae (aQ (ae (cn (.int 0)) (ae (cn (.int 0)) ai))) (ae (cn (.int 1)) (ae (cn .non) ai))))) (ae (aQ (ae (aQ (ae (cn (.int 1)) (ae (cn (.int 0)) ai))) (ae (aQ (ae (cn (.int 0)) (ae (cn (.int 1)) ai))) (ae (cn (.int 2)) (ae (cn .non) ai))))) ai))) ai))) (gN 0)) (aL (cR (o2 oj (cl aZ (ae (cn (.int 0)) (ae (vr 0) (ae (cn .non) ai)))) (dB (ae (cn (.int 0)) (ae (cn (.int 1)) ai)))) (o2 oj (cl aZ (ae (cn (.int 1)) (ae (vr 0) (ae (cn .non) ai)))) (aQ (ae (o2 aW (vr 0) (cn (.int 0))) (ae (sl (o2 aW (vr 0) (cn (.int 1))) pN (pS (cn (.int 1)))) ai)))))))
def dz:List T->Rs T:=val 0 1 gf
abbrev evF:Y1:=cJ (o2 aY (vr 1) (d9 (iR (ae (cl cA (ae (o2 aW (vr 3) (cn (.int 2))) ai)) ai)) [ZB,ZA 2] (gN 0) bT (aQ (ae (vr 1) (ae (vr 0) ai))))) (gN 1)
def lj:Y1:=
 (aA (cJ (dB ai) (gN 1)) (aA (eh (iE (ae (vr 0) ai)) (gT 2 (i7 (gN 2) (i7 (gN 3) ve))) evF) (aL (vr 1))))
def bj:List T->Rs T:=val 1 4 lj
def ju:Y1:=
 (aA (cJ (cl fo (ae (d9 (iS (sl (o2 aW (vr 0) (cn (.int 0))) pN (pS (cn (.int 2))))) [ZB] (gN 0) bT (o2 aY (sl (vr 0) pN (pS (cn (.int 2)))) (aQ (ae (sl (o2 aW (vr 0) (cn (.int 2))) pN (pS (cn (.int 2)))) ai)))) ai)) (gN 1)) (aA (cJ (cl bj (ae (vr 1) ai)) (gN 2)) (aL (aQ (ae (vr 1) (ae (cl fo (ae (d9 (iS (o2 aW (vr 0) (cn (.int 1)))) [ZB,ZA 2] (gN 0) (qT (tb (o2 sr (o2 aW (vr 0) (cn (.int 0))) (vr 1))) (tb (o2 sr (o2 aW (vr 0) (cn (.int 1))) (vr 1)))) (vr 0)) ai)) ai))))))
def gH:List T->Rs T:=val 1 3 ju
abbrev lkF:Y1:=(aA (cJ (o2 fB (o2 aW (vr 5) (vr 6)) (o2 aW (vr 5) (o2 fB (vr 6) (cn (.int 1))))) (gN 7)) (aA (iY 1 (aQ (ae (aQ (ae (vr 2) (ae (o2 fB (vr 6) (cn (.int 1))) ai))) (ae (aQ (ae (vr 2) (ae (vr 6) ai))) (ae (o2 cv (vr 4) (vr 7)) ai))))) (iY 1 (aQ (ae (aQ (ae (vr 2) (ae (vr 6) ai))) (ae (aQ (ae (vr 2) (ae (o2 fB (vr 6) (cn (.int 1))) ai))) (ae (o2 fB (cn (.int 0)) (o2 cv (vr 3) (vr 7))) ai)))))))
abbrev llF:Y1:=(aA (iY 1 (aQ (ae (vr 9) (ae (vr 8) (ae (o2 fB (cn (.int 0)) (vr 10)) ai))))) (fS (tb (o2 fW (vr 11) (cn .non))) (iY 1 (aQ (ae (vr 8) (ae (vr 9) (ae (vr 11) ai))))) sN))
def iP:Y1:=
 (aA (jB 1 ai) (aA (eh (iE (ae (o2 aW (vr 0) (cn (.int 0))) ai)) (gT 2 (i7 (gN 2) (i7 (gT 3 (i7 (gN 3) (i7 (gN 4) (i7 (gN 5) ve)))) ve))) (eh (iR (ae (cn (.int 1)) (ae (cl cA (ae (vr 5) ai)) ai))) (gN 6) lkF)) (aA (eh (iS (o2 aW (vr 0) (cn (.int 1)))) (gT 4 (i7 (gN 8) (i7 (gN 9) (i7 (gN 10) (i7 (gN 11) ve))))) llF) (nX 1 (aL (vr 1))))))
def bV:List T->Rs T:=val 1 12 iP
abbrev KP:Y1:=(fS (qT (tb (o2 fW (ln 2 (o2 bO (o2 bO (vr 2) (vr 3)) (vr 6))) (cn .non))) (tb (o2 fW (ln 2 (o2 bO (o2 bO (vr 2) (vr 6)) (vr 4))) (cn .non)))) (aA (cJ (o2 aY (ln 2 (o2 bO (o2 bO (vr 2) (vr 3)) (vr 6))) (ln 2 (o2 bO (o2 bO (vr 2) (vr 6)) (vr 4)))) (gN 7)) (fS (nZ (tb (o2 iI (ln 2 (o2 bO (o2 bO (vr 2) (vr 3)) (vr 4))) (cn .non))) (tb (o2 wB (vr 7) (ln 2 (o2 bO (o2 bO (vr 2) (vr 3)) (vr 4)))))) (jA 2 (vr 3) (vr 4) (vr 7)) sN)) sN)
def jt:Y1:=
 (aA (pF 2 0) (aA (eh (iS (vr 0)) (gN 3) (jA 2 (vr 3) (vr 3) (cn (.int 0)))) (aA (eh (iS (vr 1)) (gT 3 (i7 (gN 3) (i7 (gN 4) (i7 (gN 5) ve)))) (fS (nZ (tb (o2 iI (ln 2 (o2 bO (o2 bO (vr 2) (vr 3)) (vr 4))) (cn .non))) (tb (o2 wB (vr 5) (ln 2 (o2 bO (o2 bO (vr 2) (vr 3)) (vr 4)))))) (jA 2 (vr 3) (vr 4) (vr 5)) sN)) (aA (eh (iS (vr 0)) (gN 6) (eh (iS (vr 0)) (gN 3) (eh (iS (vr 0)) (gN 4) KP))) (nX 2 (aL (DO (tb (o2 oj (d9 (iS (vr 0)) [ZB,ZA 2] (gN 0) (tb (o2 wB (o2 bO (o2 bO (vr 1) (vr 0)) (vr 0)) (cn (.int 0)))) (vr 0)) (dB ai))) (vr 2) (cn .non))))))))
def bN:List T->Rs T:=val 2 8 jt
def km:Y1:=
 (aA (fS (tb (o2 oj (vr 0) (dB ai))) (aL (o2 cv (cn (.int 7)) (vr 1))) sN) (aL (o2 aY (o2 aW (vr 0) (o2 l9 (vr 1) (cl cA (ae (vr 0) ai)))) (o2 cv (cn (.int 6553)) (o2 mn (vr 1) (cl cA (ae (vr 0) ai)))))))
def gv:List T->Rs T:=val 2 2 km
def jv:Y1:=
 (aA (cJ (o2 l9 (o2 aY (o2 cv (o2 l9 (cl gv (ae (vr 0) (ae (vr 1) ai))) (cn (.int 2147483563))) (cn (.int 69069))) (o2 cv (cn (.int 104723)) (o2 aY (vr 1) (cn (.int 1))))) (cn (.int 2147483563))) (gN 3)) (aA (cJ (o2 l9 (o2 aY (o2 cv (vr 3) (vr 3)) (o2 mn (vr 3) (cn (.int 3)))) (cn (.int 2147483399))) (gN 3)) (aL (o2 l9 (o2 mn (o2 l9 (o2 aY (o2 cv (vr 3) (vr 3)) (o2 mn (vr 3) (cn (.int 7)))) (cn (.int 2147483647))) (cn (.int 11))) (vr 2)))))
def aJ:List T->Rs T:=val 3 4 jv
def fg:Y1:=
 (aA (cJ (cl bj (ae (vr 2) ai)) (gN 3)) (aA (fS (tb (o2 wB (cl cA (ae (vr 3) ai)) (cn (.int 2)))) (aL (cn .non)) sN) (aA (cJ (cl aJ (ae (vr 0) (ae (vr 1) (ae (cl cA (ae (vr 3) ai)) ai)))) (gN 4)) (aA (cJ (o2 l9 (o2 aY (o2 aY (vr 4) (cn (.int 1))) (cl aJ (ae (vr 0) (ae (o2 aY (vr 1) (cn (.int 1))) (ae (o2 fB (cl cA (ae (vr 3) ai)) (cn (.int 1))) ai))))) (cl cA (ae (vr 3) ai))) (gN 5)) (aA (cJ (cl aJ (ae (vr 0) (ae (o2 aY (vr 1) (cn (.int 2))) (ae (cn (.int 8)) ai)))) (gN 6)) (aA (cJ (DO (tb (o2 oj (cl aJ (ae (vr 0) (ae (o2 aY (vr 1) (cn (.int 3))) (ae (cn (.int 3)) ai)))) (cn (.int 0)))) (cn .non) (o2 aY (vr 6) (cl aJ (ae (vr 0) (ae (o2 aY (vr 1) (cn (.int 4))) (ae (cn (.int 9)) ai)))))) (gN 7)) (aL (aQ (ae (o2 aW (vr 3) (vr 4)) (ae (o2 aW (vr 3) (vr 5)) (ae (vr 6) (ae (vr 7) ai))))))))))))
def dM:List T->Rs T:=val 3 8 fg
abbrev clF:Y1:=cJ (o2 aY (vr 3) (aQ (ae (o2 aY (o2 aY (o2 aW (vr 3) (o1 kW (cn (.int 1)))) (cn (.int 1))) (cl aJ (ae (vr 0) (ae (o2 aY (o2 aY (vr 1) (cn (.int 3))) (vr 4)) (ae (cn (.int 5)) ai))))) ai))) (gN 3)
def jw:Y1:=
 (aA (cJ (o2 aY (cn (.int 1)) (cl aJ (ae (vr 0) (ae (vr 1) (ae (cn (.int 3)) ai))))) (gN 2)) (aA (cJ (aQ (ae (cl aJ (ae (vr 0) (ae (o2 aY (vr 1) (cn (.int 2))) (ae (cn (.int 6)) ai)))) ai)) (gN 3)) (aA (eh (iR (ae (cl aJ (ae (vr 0) (ae (o2 aY (vr 1) (cn (.int 1))) (ae (cn (.int 3)) ai)))) ai)) (gN 4) clF) (aL (aQ (ae (vr 2) (ae (o2 aY (vr 2) (cl aJ (ae (vr 0) (ae (o2 aY (vr 1) (cn (.int 6))) (ae (cn (.int 3)) ai))))) (ae (vr 3) ai))))))))
def dk:List T->Rs T:=val 2 5 jw
abbrev leF:Y1:=aA (cJ (cl dM (ae (vr 0) (ae (o2 aY (o2 aY (vr 1) (cn (.int 31))) (o2 cv (cn (.int 6)) (vr 5))) (ae (vr 3) ai)))) (gN 6)) (cJ (o2 aY (vr 4) (o2 cv (dB (ae (vr 6) ai)) (cl wO (ae (o2 fW (vr 6) (cn .non)) ai)))) (gN 4))
def iO:Y1:=
 (aA (cJ (cl fo (ae (d9 (iR (ae (o2 aY (cn (.int 1)) (cl aJ (ae (vr 0) (ae (vr 1) (ae (cn (.int 3)) ai))))) ai)) [ZB,ZA 0,ZA 1] (gN 0) bT (cl dk (ae (vr 1) (ae (o2 aY (o2 aY (vr 2) (cn (.int 1))) (o2 cv (cn (.int 8)) (vr 0))) ai)))) ai)) (gN 3)) (aA (cJ (dB ai) (gN 4)) (aA (eh (iR (ae (cl aJ (ae (vr 0) (ae (o2 aY (vr 1) (cn (.int 30))) (ae (o2 aY (vr 2) (cn (.int 1))) ai)))) ai)) (gN 5) leF) (aL (aQ (ae (vr 3) (ae (cl fo (ae (vr 4) ai)) ai)))))))
def gh:List T->Rs T:=val 3 7 iO
def xv:Y1:=
 (aA (cJ (dB (ae (dB ai) ai)) (gN 1)) (aA (eh (iR (ae (vr 0) ai)) (gN 2) (cJ (o2 aY (vr 1) (d9 (iS (vr 1)) [ZB,ZA 2] (gN 0) bT (o2 aY (vr 0) (dB (ae (vr 1) ai))))) (gN 1))) (aL (vr 1))))
def gu:List T->Rs T:=val 1 3 xv
def lJ:Y1:=
 (aA (cJ (aQ (ae (o2 aW (vr 0) (cn (.int 0))) (ae (cl fo (ae (d9 (iS (vr 1)) [ZB,ZA 0] (gN 0) bT (o2 aW (o2 aW (vr 1) (cn (.int 1))) (vr 0))) ai)) ai))) (gN 2)) (aL (o2 fW (cl bN (ae (cl bj (ae (o2 aW (vr 0) (cn (.int 0))) ai)) (ae (cl bV (ae (vr 2) ai)) ai))) (cn .non))))
def gZ:List T->Rs T:=val 2 3 lJ
def gB:Y1:=
 (aA (cJ (cl bj (ae (o2 aW (vr 0) (cn (.int 0))) ai)) (gN 1)) (aA (cJ (cl bN (ae (vr 1) (ae (cl bV (ae (vr 0) ai)) ai))) (gN 2)) (aA (cJ (dB ai) (gN 3)) (aA (eh (iR (ae (cl cA (ae (o2 aW (vr 0) (cn (.int 1))) ai)) ai)) (gN 4) (aA (cJ (aQ (ae (o2 aW (vr 0) (cn (.int 0))) (ae (o2 aY (sl (o2 aW (vr 0) (cn (.int 1))) pN (pS (vr 4))) (sl (o2 aW (vr 0) (cn (.int 1))) (pS (o2 aY (vr 4) (cn (.int 1)))) pN)) ai))) (gN 5)) (cJ (o2 aY (vr 3) (o2 cv (dB (ae (vr 4) ai)) (cl wO (ae (o2 Bf (cl bN (ae (vr 1) (ae (cl bV (ae (vr 5) ai)) ai))) (vr 2)) ai)))) (gN 3)))) (aL (vr 3))))))
def dh:List T->Rs T:=val 1 6 gB
def iN:Y1:=
 (aA (cJ (cl gH (ae (cl gh (ae (vr 0) (ae (cn (.int 0)) (ae (cn (.int 6)) ai)))) ai)) (gN 1)) (aA (cJ (aQ (ae (o2 aW (vr 1) (cn (.int 0))) (ae (sl (o2 aW (vr 1) (cn (.int 1))) pN (pS (cn (.int 4)))) ai))) (gN 1)) (aA (cJ (cl bj (ae (o2 aW (vr 1) (cn (.int 0))) ai)) (gN 2)) (aA (cJ (cl bV (ae (vr 1) ai)) (gN 3)) (aA (cJ (cl bN (ae (vr 2) (ae (vr 3) ai))) (gN 4)) (aA (cJ (cl cA (ae (o2 aW (vr 1) (cn (.int 1))) ai)) (gN 5)) (aA (cJ (d9 (iS (cl gu (ae (vr 5) ai))) [ZB,ZA 1] (gN 0) (tb (cl gZ (ae (vr 1) (ae (vr 0) ai)))) (vr 0)) (gN 6)) (aA (cJ (cl Dd (ae (d9 (iS (vr 6)) [ZB] (gN 0) bT (cl cA (ae (vr 0) ai))) ai)) (gN 7)) (aA (fS (tb (o2 oB (cl aZ (ae (cn (.int 2)) (ae (vr 1) (ae (cn .non) ai)))) (cl wA (ae (d9 (iS (vr 6)) [ZB,ZA 7] (gN 0) (tb (o2 oj (cl cA (ae (vr 0) ai)) (vr 1))) (vr 0)) ai)))) (aL (cn (.bl ZD))) sN) (aA (cJ (d9 (iR (ae (vr 5) ai)) [ZB,ZA 5,ZA 6] (gN 0) (tb (o2 sr (d9 (iR (ae (vr 1) ai)) [ZB,ZA 0] (gN 0) (tb (o2 oB (vr 0) (vr 1))) (vr 0)) (vr 2))) (vr 0)) (gN 8)) (aA (fS (tb (o2 oB (cl aZ (ae (cn (.int 3)) (ae (vr 1) (ae (cn .non) ai)))) (DO (tb (o2 iI (vr 4) (cn .non))) (vr 8) (dB ai)))) (aL (cn (.bl ZD))) sN) (aA (cJ (o2 aW (dB (ae (o1 kW (cn (.int 1))) (ae (cl cA (ae (vr 3) ai)) (ae (cn (.bl ZC)) (ae (cn .non) (ae (cn (.str "0")) ai)))))) (cl aJ (ae (vr 0) (ae (cn (.int 80)) (ae (cn (.int 5)) ai))))) (gN 9)) (aA (fS (tb (o2 oB (cl aZ (ae (cn (.int 4)) (ae (vr 1) (ae (vr 9) ai)))) (aQ (ae (cn (.str "refused")) (ae (cn (.int 2)) ai))))) (aL (cn (.bl ZD))) sN) (aA (fS (tb (o2 oB (d9 (iR (ae (cn (.int 5)) ai)) [ZB,ZA 1,ZA 9] (gN 0) bT (cl aZ (ae (vr 0) (ae (sl (vr 1) pN (pS (cn (.int 1)))) (ae (vr 2) ai))))) (o2 cv (dB (ae (aQ (ae (cn (.str "refused")) (ae (cn (.int 0)) ai))) ai)) (cn (.int 5))))) (aL (cn (.bl ZD))) sN) (aA (fS (tb (o2 iI (vr 4) (cn .non))) (aA (cJ (o2 aY (d9 (iS (aQ (ae (cn (.int 0)) (ae (cn (.int 1)) ai)))) [ZB,ZA 1] (gN 0) bT (cl aZ (ae (vr 0) (ae (vr 1) (ae (cn (.int 0)) ai))))) (o2 cv (dB (ae (cl aZ (ae (cn (.int 4)) (ae (vr 1) (ae (cn (.int 0)) ai)))) ai)) (cl wO (ae (o2 oB (vr 3) (dB ai)) ai)))) (gN 10)) (aL (o2 oj (vr 10) (o2 cv (dB (ae (aQ (ae (cn (.str "refused")) (ae (cn (.int 3)) ai))) ai)) (cl cA (ae (vr 10) ai)))))) sN) (aA (eh (iR (ae (cl cA (ae (vr 3) ai)) ai)) (gN 11) (fS (tb (o2 oB (cl aZ (ae (cn (.int 4)) (ae (vr 1) (ae (vr 11) ai)))) (o2 Bf (cl bN (ae (vr 2) (ae (o2 aY (sl (vr 3) pN (pS (vr 11))) (sl (vr 3) (pS (o2 aY (vr 11) (cn (.int 1)))) pN)) ai))) (vr 4)))) (aL (cn (.bl ZD))) sN)) (aA (cJ (vr 1) (gN 12)) (aA (eh (iS (o1 Fu (lR (ae (vr 5) ai)))) (gN 11) (fS (tb (o2 sr (vr 11) (cl dh (ae (vr 12) ai)))) (cJ (aQ (ae (o2 aW (vr 12) (cn (.int 0))) (ae (o2 aY (sl (o2 aW (vr 12) (cn (.int 1))) pN (pS (vr 11))) (sl (o2 aW (vr 12) (cn (.int 1))) (pS (o2 aY (vr 11) (cn (.int 1)))) pN)) ai))) (gN 12)) sN)) (aL (cR (o2 oj (cl aZ (ae (cn (.int 0)) (ae (vr 1) (ae (cn .non) ai)))) (cl dh (ae (vr 1) ai))) (o2 oj (cl aZ (ae (cn (.int 1)) (ae (vr 1) (ae (cn .non) ai)))) (vr 12))))))))))))))))))))))
def gg:List T->Rs T:=val 1 13 iN
def MJ:Y1:=
 (aL (cR (c0 dz) (cl gg (ae (vr 0) ai))))
def m_law:List T->Rs T:=val 1 1 MJ
section
variable (P:OF)(w:Pv)(base:ZH)
abbrev xN:ZF:=top 17
theorem ye(F:fZ K mg "is_long" xN ["thing","least","most"])(B:Bl mg):Cl P w K mg base 1 "is_long" 3 aS:=
 aO ["thing","least","most"] F λd f c A o s H E hr x=>(aq (ax (dE (BM B.b_isinstance B.b_tuple bW (af 0)) (dN (vh vY vY (af 1) (dg cL B.b_len Qj (ah (af 0) ag)) (af 2))))))
abbrev vz:ZF:=top 15
theorem v5(F:fZ K mg "is_whole" vz ["thing"])(B:Bl mg):Cl P w K mg base 1 "is_whole" 1 jg:=
 aO ["thing"] F λd f c A o s H E hr x=>(aq (ax (dE (BM B.b_isinstance B.b_int iz (af 0)) (dN (xE (BM B.b_isinstance B.b_bool uW (af 0)))))))
abbrev tF:ZF:=top 16
theorem uf(F:fZ K mg "is_within" tF ["thing","least","most"])(aaK:Cl P w K mg base 1 "is_whole" 1 jg):Cl P w K mg base 2 "is_within" 3 bc:=
 aO ["thing","least","most"] F λd f c A o s H E hr x=>(aq (ax (dE (aK aaK hr (ah (af 0) ag)) (dN (vh vY vY (af 1) (af 0) (af 2))))))
abbrev xM:ZF:=top 20
theorem ya(F:fZ K mg "is_pace" xM ["slow","fast"])(aa1:Cl P w K mg base 2 "is_within" 3 bc)(C:Cs mg):Cl P w K mg base 3 "is_pace" 2 gK:=
 aO ["slow","fast"] F λd f c A o s H E hr x=>(aq (ax (dE (aK aa1 hr (ah (af 0) (ah aj (ah (vg C.SLOWEST) ag)))) (dN (aK aa1 hr (ah (af 1) (ah (af 0) (ah (vg C.SLOWEST) ag))))))))
abbrev vt:ZF:=top 18
abbrev wo:List Str:=["numbers"]
theorem C2(F:fZ K mg "rises" vt ["numbers"])(B:Bl mg):Cl P w K mg base 1 "rises" 1 kF:=
 aO wo F λd f c A o s H E hr x=>(aq (ax (dg (uT rfl) B.b_all boot_all (ah (cH ["k","numbers"] wo vt (cj B.b_range (ah (au fG (dg cL B.b_len Qj (ah (af 0) ag)) aj) ag)) (λd _ _ _ _ _=>⟨(ak 0 d),bY,(dD pL (aE (af 1) (af 0)) (aE (af 1) (au aM (af 0) aj)))⟩)) ag))))
abbrev jz:ZF:=top 19
abbrev jC:List Str:=["thing"]
theorem n5(F:fZ K mg "are_readings" jz ["thing"])(aa3:Cl P w K mg base 1 "is_long" 3 aS)(aaS:Cl P w K mg base 1 "rises" 1 kF)(aa1:Cl P w K mg base 2 "is_within" 3 bc)(B:Bl mg)(C:Cs mg):Cl P w K mg base 3 "are_readings" 1 cy:=
 aO jC F λd f c A o s H E hr x=>(ao (cf (fh (c9 (aK aa3 hr (ah (af 0) (ah aj (ah (vg C.MOST_READINGS) ag)))))) (aq (ax iU)) bx) (aq (ax (dE (dg (uT rfl) B.b_all boot_all (ah (cH ["part"] jC jz (bh (af 0)) (λd _ _ _ _ _=>⟨(ak 0 d),bY,(aK aa1 hr (ah (af 0) (ah aj (ah (vg C.LAST_READING) ag))))⟩)) ag)) (dN (aK aaS hr (ah (af 0) ag)))))))
abbrev vC:ZF:=top 21
theorem v9(F:fZ K mg "is_clock" vC ["thing"])(aa3:Cl P w K mg base 1 "is_long" 3 aS)(aaP:Cl P w K mg base 3 "is_pace" 2 gK)(aaq:Cl P w K mg base 3 "are_readings" 1 cy):Cl P w K mg base 4 "is_clock" 1 dY:=
 aO ["thing"] F λd f c A o s H E hr x=>(aq (ax (dE (aK aa3 hr (ah (af 0) (ah aj (ah aj ag)))) (dE (aK aaP hr (ah (aE (af 0) aj) (ah (aE (af 0) aj) ag))) (dN (aK aaq hr (ah (aE (af 0) aj) ag)))))))
abbrev k6:ZF:=top 22
abbrev k9:List Str:=["thing"]
theorem ro(F:fZ K mg "are_clocks" k6 ["thing"])(aa3:Cl P w K mg base 1 "is_long" 3 aS)(aaL:Cl P w K mg base 4 "is_clock" 1 dY)(B:Bl mg)(C:Cs mg):Cl P w K mg base 5 "are_clocks" 1 eE:=
 aO k9 F λd f c A o s H E hr x=>(aq (ax (dE (aK aa3 hr (ah (af 0) (ah aj (ah (vg C.MOST_CLOCKS) ag)))) (dN (dg (uT rfl) B.b_all boot_all (ah (cH ["part"] k9 k6 (bh (af 0)) (λd _ _ _ _ _=>⟨(ak 0 d),bY,(aK aaL hr (ah (af 0) ag))⟩)) ag))))))
abbrev vA:ZF:=top 23
theorem v7(F:fZ K mg "is_event" vA ["clocks","thing"])(aa1:Cl P w K mg base 2 "is_within" 3 bc)(aa3:Cl P w K mg base 1 "is_long" 3 aS)(B:Bl mg):Cl P w K mg base 3 "is_event" 2 dX:=
 aO ["clocks","thing"] F λd f c A o s H E hr x=>(ao (cf (ny (mE (fh (c9 (aK aa3 hr (ah (af 1) (ah aj (ah aj ag)))))) (kn (fh (c9 (aK aa1 hr (ah (aE (af 1) aj) (ah aj (ah (au fG (dg cL B.b_len Qj (ah (af 0) ag)) aj) ag))))))))) (aq (ax iU)) bx) (aq (ax (aK aa1 hr (ah (aE (af 1) aj) (ah aj (ah (au fG (dg cL B.b_len Qj (ah (aE (aE (af 0) (aE (af 1) aj)) aj) ag)) aj) ag)))))))
abbrev vB:ZF:=top 24
theorem v8(F:fZ K mg "is_delay" vB ["least","most"])(aa1:Cl P w K mg base 2 "is_within" 3 bc)(C:Cs mg):Cl P w K mg base 3 "is_delay" 2 fq:=
 aO ["least","most"] F λd f c A o s H E hr x=>(aq (ax (dE (aK aa1 hr (ah (af 0) (ah aj (ah (vg C.LONGEST) ag)))) (dN (Hb (dD nK (af 1) bP) (dN (aK aa1 hr (ah (af 1) (ah (af 0) (ah (vg C.LONGEST) ag))))))))))
abbrev tH:ZF:=top 25
theorem uh(F:fZ K mg "is_letter" tH ["clocks","thing"])(aax:Cl P w K mg base 3 "is_event" 2 dX)(aa3:Cl P w K mg base 1 "is_long" 3 aS)(aaM:Cl P w K mg base 3 "is_delay" 2 fq):Cl P w K mg base 4 "is_letter" 2 cO:=
 aO ["clocks","thing"] F λd f c A o s H E hr x=>(ao (cf (ny (mE (fh (c9 (aK aa3 hr (ah (af 1) (ah aj (ah aj ag)))))) (kn (fh (c9 (aK aaM hr (ah (aE (af 1) aj) (ah (aE (af 1) aj) ag)))))))) (aq (ax iU)) bx) (aq (ax (dE (aK aax hr (ah (af 0) (ah (aE (af 1) aj) ag))) (dE (aK aax hr (ah (af 0) (ah (aE (af 1) aj) ag))) (dN (dD (k7 (g8 hr)) (aE (af 1) aj) (aE (af 1) aj))))))))
abbrev jJ:ZF:=top 26
abbrev jO:List Str:=["clocks","thing"]
theorem pR(F:fZ K mg "are_letters" jJ ["clocks","thing"])(aa3:Cl P w K mg base 1 "is_long" 3 aS)(aaE:Cl P w K mg base 4 "is_letter" 2 cO)(B:Bl mg)(C:Cs mg):Cl P w K mg base 5 "are_letters" 2 dJ:=
 aO jO F λd f c A o s H E hr x=>(aq (ax (dE (aK aa3 hr (ah (af 1) (ah aj (ah (vg C.MOST_LETTERS) ag)))) (dN (dg (uT rfl) B.b_all boot_all (ah (cH ["part","clocks"] jO jJ (bh (af 1)) (λd _ _ _ _ _=>⟨(ak 0 d),bY,(aK aaE hr (ah (af 1) (ah (af 0) ag)))⟩)) ag))))))
abbrev tG:ZF:=top 27
theorem ug(F:fZ K mg "is_record" tG ["thing"])(aa3:Cl P w K mg base 1 "is_long" 3 aS)(aaz:Cl P w K mg base 5 "are_clocks" 1 eE)(aar:Cl P w K mg base 5 "are_letters" 2 dJ):Cl P w K mg base 6 "is_record" 1 dW:=
 aO ["thing"] F λd f c A o s H E hr x=>(aq (ax (dE (aK aa3 hr (ah (af 0) (ah aj (ah aj ag)))) (dE (aK aaz hr (ah (aE (af 0) aj) ag)) (dN (aK aar hr (ah (aE (af 0) aj) (ah (aE (af 0) aj) ag))))))))
abbrev pf:ZF:=top 28
theorem pO(F:fZ K mg "need_record" pf ["thing"])(aaF:Cl P w K mg base 6 "is_record" 1 dW)(S:Xs K mg ac bi bn bv ca ci cr):Cl P w K mg base 7 "need_record" 1 cp:=
 aO ["thing"] F λd f c A o s H E hr x=>(aq (cf (fh (c9 (aK aaF hr (ah (af 0) ag)))) (aq (mF S.o_NoRecord S.m_NoRecord)) bx))
abbrev lq:ZF:=top 32
theorem lz(F:fZ K mg "bounds_of_clock" lq ["number","clock"])(B:Bl mg):Cl P w K mg base 1 "bounds_of_clock" 2 dj:=
 aO ["number","clock","readings","told","k","first","second","steps"] F λd f c A o s H E hr x=>(by(apply ao;exact(az (aE (af 1) aj) (ak 2 d));apply ao;exact(iQ 3 d ag);apply ao;exact(bX rfl (cj B.b_range (ah (au fG (dg cL B.b_len Qj (ah (af 2) ag)) aj) ag)) (ak 4 d) (by(apply ao;exact(az (aP (ah (af 0) (ah (af 4) ag))) (ak 5 d));apply ao;exact(az (aP (ah (af 0) (ah (au aM (af 4) aj) ag))) (ak 6 d));apply ao;exact(az (au fG (aE (af 2) (au aM (af 4) aj)) (aE (af 2) (af 4))) (ak 7 d));apply ao;exact(ie 3 (aP (ah (af 5) (ah (af 6) (ah (au di (af 7) (aE (af 1) aj)) ag)))));exact aq (ie 3 (aP (ah (af 6) (ah (af 5) (ah (au di (mG (af 7)) (aE (af 1) aj)) ag))))))));exact aq (ja 3 (ax (af 3)))))
abbrev kQ:ZF:=top 33
theorem kU(F:fZ K mg "bounds_of_letter" kQ ["letter"]):Cl P w K mg base 1 "bounds_of_letter" 1 cZ:=
 aO ["letter","told"] F λd f c A o s H E hr x=>(by(apply ao;exact(iQ 1 d (ah (aP (ah (aE (af 0) aj) (ah (aE (af 0) aj) (ah (mG (aE (af 0) aj)) ag)))) ag));apply ao;exact(cf (bf gV (aE (af 0) aj) bP) (aq (ie 1 (aP (ah (aE (af 0) aj) (ah (aE (af 0) aj) (ah (aE (af 0) aj) ag)))))) bx);exact aq (ja 1 (ax (af 1)))))
abbrev AA:ZF:=top 34
theorem AO(F:fZ K mg "bounds" AA ["record"])(aab:Cl P w K mg base 7 "need_record" 1 cp)(aak:Cl P w K mg base 1 "bounds_of_clock" 2 dj)(aai:Cl P w K mg base 1 "bounds_of_letter" 1 cZ)(B:Bl mg):Cl P w K mg base 8 "bounds" 1 eV:=
 aO ["record","told","number","clock","letter"] F λd f c A o s H E hr x=>(by(apply ao;exact(gj (aK aab hr (ah (af 0) ag)));apply ao;exact(iQ 1 d ag);apply ao;exact(bX rfl (jH B.b_enumerate (ah (aE (af 0) aj) ag)) (ig rfl (bu (ak 2 d) (bu (ak 3 d) gm))) (aq (sX 1 (aK aak hr (ah (af 2) (ah (af 3) ag))))));apply ao;exact(bX rfl (bh (aE (af 0) aj)) (ak 4 d) (aq (sX 1 (aK aai hr (ah (af 4) ag)))));exact aq (ja 1 (ax (af 1)))))
abbrev ph:ZF:=top 29
theorem pP(F:fZ K mg "need_number" ph ["many","thing"])(aa1:Cl P w K mg base 2 "is_within" 3 bc)(S:Xs K mg ac bi bn bv ca ci cr):Cl P w K mg base 3 "need_number" 2 eR:=
 aO ["many","thing"] F λd f c A o s H E hr x=>(aq (cf (fh (c9 (aK aa1 hr (ah (af 1) (ah aj (ah (au fG (af 0) aj) ag)))))) (aq (mF S.o_NoNumber S.m_NoNumber)) bx))
abbrev rQ:ZF:=top 30
noncomputable abbrev r6:List Str:=["record","told","number","clock"]
theorem AN(F:fZ K mg "events" rQ ["record"])(aab:Cl P w K mg base 7 "need_record" 1 cp)(B:Bl mg):Cl P w K mg base 8 "events" 1 eU:=
 aO r6 F λd f c A o s H E hr x=>(by(apply ao;exact(gj (aK aab hr (ah (af 0) ag)));apply ao;exact(iQ 1 d ag);apply ao;exact(bX rfl (jH B.b_enumerate (ah (aE (af 0) aj) ag)) (ig rfl (bu (ak 2 d) (bu (ak 3 d) gm))) (aq (sX 1 (cH ["k","number"] r6 rQ (cj B.b_range (ah (dg cL B.b_len Qj (ah (aE (af 3) aj) ag)) ag)) (λd _ _ _ _ _=>⟨(ak 0 d),bY,(aP (ah (af 1) (ah (af 0) ag)))⟩)))));exact aq (ja 1 (ax (af 1)))))
abbrev tI:ZF:=top 37
theorem ui(F:fZ K mg "is_better" tI ["best","bound","ahead"]):Cl P w K mg base 1 "is_better" 3 dZ:=
 aO ["best","bound","ahead","known"] F λd f c A o s H E hr x=>(ao (az (yY (mj hr) (af 0) (aE (af 1) aj)) (ak 3 d)) (aq (ax (Hb (dD nK (af 3) bP) (dN (dD pL (au aM (aE (af 2) aj) (aE (af 1) aj)) (aE (af 3) aj)))))))
abbrev mL:ZF:=top 36
noncomputable abbrev mY:List Str:=["limits","starts","best","moved","number","bound","ahead","walk","passed"]
theorem AM(F:fZ K mg "settle" mL ["limits","starts"])(aaG:Cl P w K mg base 1 "is_better" 3 dZ)(B:Bl mg):Cl P w K mg base 2 "settle" 2 fI:=
 aO mY F λd f c A o s H E hr x=>(by(apply ao;exact(BK 2 (hu8 hr) rfl B.b_dict d (cH ["event"] mY mL (bh (af 1)) (λd _ _ _ _ _=>⟨(ak 0 d),bY,(aP (ah (af 0) (ah (aP (ah aj (ah (cG ag) ag))) ag)))⟩)));apply ao;exact(az iU (ak 3 d));apply ao;exact(rL FU (c9 (af 3)) (ao (az iU (ak 3 d)) (aq (bX rfl (jH B.b_enumerate (ah (af 0) ag)) (ig rfl (bu (ak 4 d) (bu (ak 5 d) gm))) (by(apply ao;exact(az (kY 2 (yY (mj hr) (af 2) (aE (af 5) aj))) (ak 6 d));apply ao;exact(cf (ny (mE (bf nK (af 6) bP) (kn (fh (HV 2 (c9 (aK aaG hr (ah (af 2) (ah (af 5) (ah (af 6) ag)))))))))) (aq HW) bx);apply ao;exact(az (au aM (aE (af 6) aj) (cG (ah (af 4) ag))) (ak 7 d));apply ao;exact(BL 8 (N':=["step","limits"]) (src:=[ZB,ZA 0]) rfl (LcScope.by (N:=mY) (names:=(ay mL).names) rfl rfl rfl (by decide+kernel)) (bh (af 7)) (λ_ _ _ _ _=>⟨(ak 0 (show RL (["step","limits"]:List Str)by decide+kernel)),bY,(aE (aE (af 1) (af 0)) aj)⟩) d);apply ao;exact(cf (bf (vZ (Bb hr)) (aE (af 5) aj) (af 8)) (aq (ax (aP (ah bP (ah (cV (af 7) (cT (Av (Bb hr) (af 8) (aE (af 5) aj))) cU) ag))))) bx);apply ao;exact(ER 2 (mj hr) (aE (af 5) aj) (aP (ah (au aM (aE (af 6) aj) (aE (af 5) aj)) (ah (af 7) ag))));exact aq (az iU (ak 3 d))))))));exact aq (ja 2 (ax (aP (ah (af 2) (ah bP ag)))))))
abbrev ik:ZF:=top 39
noncomputable abbrev il:List Str:=["record","limits","places","best"]
theorem lY(F:fZ K mg "greatest_world" ik ["record","limits"])(aae:Cl P w K mg base 8 "events" 1 eU)(aaf:Cl P w K mg base 2 "settle" 2 fI)(B:Bl mg):Cl P w K mg base 9 "greatest_world" 2 eC:=
 aO il F λd f c A o s H E hr x=>(by(apply ao;exact(az (aK aae hr (ah (af 0) ag)) (ak 2 d));apply ao;exact(az (aE (aK aaf hr (ah (af 1) (ah (af 2) ag))) aj) (ak 3 d));apply ao;exact(cf (bf nK (af 3) bP) (aq (ax bP)) bx);exact aq (ax (jx fO B.b_tuple bW (ah (cH ["event","best"] il ik (bh (af 2)) (λd _ _ _ _ _=>⟨(ak 0 d),bY,(aE (du (mj hr) (af 1) (af 0)) aj)⟩)) ag)))))
abbrev B3:ZF:=top 40
theorem C0(F:fZ K mg "world" B3 ["record"])(aal:Cl P w K mg base 9 "greatest_world" 2 eC)(aag:Cl P w K mg base 8 "bounds" 1 eV):Cl P w K mg base 10 "world" 1 kD:=
 aO ["record"] F λd f c A o s H E hr x=>(aq (ax (aK aal hr (ah (af 0) (ah (aK aag hr (ah (af 0) ag)) ag)))))
abbrev tJ:ZF:=top 41
theorem uj(F:fZ K mg "has_world" tJ ["record"])(aaT:Cl P w K mg base 10 "world" 1 kD):Cl P w K mg base 11 "has_world" 1 aN:=
 aO ["record"] F λd f c A o s H E hr x=>(aq (ax (dD gV (aK aaT hr (ah (af 0) ag)) bP)))
abbrev rf:ZF:=top 42
theorem rn(F:fZ K mg "need_world" rf ["record"])(aa4:Cl P w K mg base 11 "has_world" 1 aN)(S:Xs K mg ac bi bn bv ca ci cr):Cl P w K mg base 12 "need_world" 1 bD:=
 aO ["record"] F λd f c A o s H E hr x=>(aq (cf (fh (c9 (aK aa4 hr (ah (af 0) ag)))) (aq (mF S.o_NoWorld S.m_NoWorld)) bx))
abbrev pj:ZF:=top 48
theorem pQ(F:fZ K mg "is_needless" pj ["record","number"])(aag:Cl P w K mg base 8 "bounds" 1 eV)(aas:Cl P w K mg base 3 "need_number" 2 eR)(aa7:Cl P w K mg base 12 "need_world" 1 bD)(aaf:Cl P w K mg base 2 "settle" 2 fI)(B:Bl mg):Cl P w K mg base 13 "is_needless" 2 cq:=
 aO ["record","number","limits","bound","walks"] F λd f c A o s H E hr x=>(by(apply ao;exact(az (aK aag hr (ah (af 0) ag)) (ak 2 d));apply ao;exact(gj (aK aas hr (ah (dg cL B.b_len Qj (ah (af 2) ag)) (ah (af 1) ag))));apply ao;exact(gj (aK aa7 hr (ah (af 0) ag)));apply ao;exact(az (aE (af 2) (af 1)) (ak 3 d));apply ao;exact(az (aE (aK aaf hr (ah (au aM (cV (af 2) cU (cT (af 1))) (cV (af 2) (cT (au aM (af 1) aj)) cU)) (ah (cG (ah (aE (af 3) aj) ag)) ag))) aj) (ak 4 d));exact aq (ax (dE (dD (CW (mj hr)) (aE (af 3) aj) (af 4)) (dN (dD vY (aE (du (mj hr) (af 4) (aE (af 3) aj)) aj) (aE (af 3) aj)))))))
abbrev pq:ZF:=top 49
theorem pT(F:fZ K mg "all_letters" pq ["record"])(B:Bl mg):Cl P w K mg base 1 "all_letters" 1 bK:=
 aO ["record"] F λd f c A o s H E hr x=>(aq (ax (rM rfl B.b_list B.b_range (ah (dg cL B.b_len Qj (ah (aE (af 0) aj) ag)) ag))))
abbrev q0:ZF:=top 44
theorem rl(F:fZ K mg "walks_from" q0 ["record","one"])(aaf:Cl P w K mg base 2 "settle" 2 fI)(aag:Cl P w K mg base 8 "bounds" 1 eV):Cl P w K mg base 9 "walks_from" 2 fH:=
 aO ["record","one"] F λd f c A o s H E hr x=>(aq (ax (aE (aK aaf hr (ah (aK aag hr (ah (af 0) ag)) (ah (cG (ah (af 1) ag)) ag))) aj)))
abbrev xK:ZF:=top 45
theorem x9(F:fZ K mg "most_of" xK ["walks","other"]):Cl P w K mg base 1 "most_of" 2 gJ:=
 aO ["walks","other"] F λd f c A o s H E hr x=>(aq (ax (yX (bf (CW (mj hr)) (af 1) (af 0)) (aE (du (mj hr) (af 0) (af 1)) aj) bP)))
abbrev nE:ZF:=top 46
noncomputable abbrev nM:List Str:=["record","places","told","one","walks"]
theorem wc(F:fZ K mg "all_most" nE ["record"])(aa7:Cl P w K mg base 12 "need_world" 1 bD)(aae:Cl P w K mg base 8 "events" 1 eU)(aaA:Cl P w K mg base 9 "walks_from" 2 fH)(aaQ:Cl P w K mg base 1 "most_of" 2 gJ)(B:Bl mg):Cl P w K mg base 13 "all_most" 1 gY:=
 aO nM F λd f c A o s H E hr x=>(by(apply ao;exact(gj (aK aa7 hr (ah (af 0) ag)));apply ao;exact(az (aK aae hr (ah (af 0) ag)) (ak 1 d));apply ao;exact(iQ 2 d ag);apply ao;exact(bX rfl (bh (af 1)) (ak 3 d) (ao (az (aK aaA hr (ah (af 0) (ah (af 3) ag))) (ak 4 d)) (aq (ie 2 (jx fO B.b_tuple bW (ah (cH ["other","walks"] nM nE (bh (af 1)) (λd _ _ _ _ _=>⟨(ak 0 d),bY,(aK aaQ hr (ah (af 1) (ah (af 0) ag)))⟩)) ag))))));exact aq (ax (kY 2 (jx fO B.b_tuple bW (ah (af 2) ag))))))
abbrev pe:ZF:=top 54
theorem pM(F:fZ K mg "same_worlds" pe ["one","other"])(aae:Cl P w K mg base 8 "events" 1 eU)(aay:Cl P w K mg base 13 "all_most" 1 gY)(aa4:Cl P w K mg base 11 "has_world" 1 aN):Cl P w K mg base 14 "same_worlds" 2 cm:=
 aO ["one","other"] F λd f c A o s H E hr x=>(by(apply ao;exact(cf (bf (k7 (g8 hr)) (aK aae hr (ah (af 0) ag)) (aK aae hr (ah (af 1) ag))) (aq (ax iU)) bx);apply ao;exact(cf (ny (mE (fh (c9 (aK aa4 hr (ah (af 0) ag)))) (kn (fh (c9 (aK aa4 hr (ah (af 1) ag))))))) (aq (ax (dE (xE (aK aa4 hr (ah (af 0) ag))) (dN (xE (aK aa4 hr (ah (af 1) ag))))))) bx);exact aq (ax (dD (k8 (g8 hr)) (aK aay hr (ah (af 0) ag)) (aK aay hr (ah (af 1) ag))))))
abbrev lO:ZF:=top 50
abbrev l5:List Str:=["record","numbers"]
theorem ud(F:fZ K mg "with_only" lO ["record","numbers"])(B:Bl mg):Cl P w K mg base 1 "with_only" 2 bR:=
 aO l5 F λd f c A o s H E hr x=>(aq (ax (aP (ah (aE (af 0) aj) (ah (jx fO B.b_tuple bW (ah (cH ["number","record"] l5 lO (bh (af 1)) (λd _ _ _ _ _=>⟨(ak 0 d),bY,(aE (aE (af 1) aj) (af 0))⟩)) ag)) ag)))))
abbrev o9:ZF:=top 51
abbrev qg:List Str:=["numbers","number"]
theorem x6(F:fZ K mg "without" o9 ["numbers","number"]):Cl P w K mg base 1 "without" 2 ez:=
 aO qg F λd f c A o s H E hr x=>(aq (ax (cH ["other","number"] qg o9 (bh (af 0)) (λd _ _ _ _ _=>⟨(ak 0 d),(fD (bf (k7 (g8 hr)) (af 0) (af 1))),(af 0)⟩))))
abbrev gC:ZF:=top 52
abbrev gD:List Str:=["record","numbers"]
theorem kR(F:fZ K mg "needless_letters" gC ["record"])(aa7:Cl P w K mg base 12 "need_world" 1 bD)(aa6:Cl P w K mg base 1 "all_letters" 1 bK)(aac:Cl P w K mg base 14 "same_worlds" 2 cm)(aa9:Cl P w K mg base 1 "with_only" 2 bR)(aad:Cl P w K mg base 1 "without" 2 ez):Cl P w K mg base 15 "needless_letters" 1 bz:=
 aO gD F λd f c A o s H E hr x=>(by(apply ao;exact(gj (aK aa7 hr (ah (af 0) ag)));apply ao;exact(az (aK aa6 hr (ah (af 0) ag)) (ak 1 d));exact aq (ax (cH ["number","record","numbers"] gD gC (bh (af 1)) (λd _ _ _ _ _=>⟨(ak 0 d),(fD (c9 (aK aac hr (ah (aK aa9 hr (ah (af 1) (ah (aK aad hr (ah (af 2) (ah (af 0) ag))) ag))) (ah (af 1) ag))))),(af 0)⟩)))))
abbrev mM:ZF:=top 53
theorem mT(F:fZ K mg "least_letters" mM ["record"])(aa7:Cl P w K mg base 12 "need_world" 1 bD)(aa9:Cl P w K mg base 1 "with_only" 2 bR)(aac:Cl P w K mg base 14 "same_worlds" 2 cm)(aad:Cl P w K mg base 1 "without" 2 ez)(aa6:Cl P w K mg base 1 "all_letters" 1 bK)(B:Bl mg):Cl P w K mg base 15 "least_letters" 1 b9:=
 aO ["record","least","number","less"] F λd f c A o s H E hr x=>(by(apply ao;exact(gj (aK aa7 hr (ah (af 0) ag)));apply ao;exact(az (af 0) (ak 1 d));apply ao;exact(bX rfl (xA B.b_range (ah (au fG (dg cL B.b_len Qj (ah (aE (af 0) aj) ag)) aj) (ah (mG aj) (ah (mG aj) ag)))) (ak 2 d) (ao (az (aK aa9 hr (ah (af 1) (ah (aK aad hr (ah (aK aa6 hr (ah (af 1) ag)) (ah (af 2) ag))) ag))) (ak 3 d)) (aq (cf (c9 (aK aac hr (ah (af 3) (ah (af 0) ag)))) (aq (az (af 3) (ak 1 d))) bx))));exact aq (ax (af 1))))
abbrev pd:ZF:=top 55
noncomputable abbrev qh:List Str:=["numbers","told","number"]
theorem x8(F:fZ K mg "sets_of" pd ["numbers"]):Cl P w K mg base 1 "sets_of" 1 kE:=
 aO qh F λd f c A o s H E hr x=>(by(apply ao;exact(az (cG (ah (cG ag) ag)) (ak 1 d));apply ao;exact(bX rfl (bh (af 0)) (ak 2 d) (aq (az (au aM (af 1) (cH ["part","number"] qh pd (bh (af 1)) (λd _ _ _ _ _=>⟨(ak 0 d),bY,(au aM (af 0) (cG (ah (af 1) ag)))⟩))) (ak 1 d))));exact aq (ax (af 1))))
abbrev lP:ZF:=top 56
noncomputable abbrev uw:List Str:=["record","sets","place"]
theorem aan:dq uw ["record"] (ay lP):=fsc
theorem ue(F:fZ K mg "most_kept" lP ["record"])(aab:Cl P w K mg base 7 "need_record" 1 cp)(aaR:Cl P w K mg base 1 "sets_of" 1 kE)(aa4:Cl P w K mg base 11 "has_world" 1 aN)(aa6:Cl P w K mg base 1 "all_letters" 1 bK)(aa9:Cl P w K mg base 1 "with_only" 2 bR)(B:Bl mg)(LX:KA K mg base):Cl P w K mg base 12 "most_kept" 1 dU:=
 Kr F aan rfl λf c hx A o s H E hr x=>(by(apply ao;exact(gj (aK aab hr (ah (af 0) ag)));apply ao;exact(az (ET LX hx hr B.b_sorted B.b_len (ah (aK aaR hr (ah (aK aa6 hr (ah (af 0) ag)) ag)) ag)) (ak 1 aan.nd));apply ao;exact(az aj (ak 2 aan.nd));apply ao;exact(rL FU (fh (c9 (aK aa4 hr (ah (aK aa9 hr (ah (af 0) (ah (aE (af 1) (af 2)) ag))) ag)))) (aq (ES 2 aan.nd aj)));exact aq (ax (aE (af 1) (af 2)))))
abbrev nC:ZF:=top 57
abbrev nL:List Str:=["record","numbers"]
theorem wa(F:fZ K mg "culprits" nC ["record"])(aa4:Cl P w K mg base 11 "has_world" 1 aN)(aa6:Cl P w K mg base 1 "all_letters" 1 bK)(aa9:Cl P w K mg base 1 "with_only" 2 bR)(aad:Cl P w K mg base 1 "without" 2 ez):Cl P w K mg base 12 "culprits" 1 ft:=
 aO nL F λd f c A o s H E hr x=>(by(apply ao;exact(cf (c9 (aK aa4 hr (ah (af 0) ag))) (aq (ax (cG ag))) bx);apply ao;exact(az (aK aa6 hr (ah (af 0) ag)) (ak 1 d));exact aq (ax (cH ["number","record","numbers"] nL nC (bh (af 1)) (λd _ _ _ _ _=>⟨(ak 0 d),(fD (c9 (aK aa4 hr (ah (aK aa9 hr (ah (af 1) (ah (aK aad hr (ah (af 2) (ah (af 0) ag))) ag))) ag)))),(af 0)⟩)))))
abbrev tL:ZF:=top 69
theorem um(F:fZ K mg "_law_told" tL ["_law_ask","_law_record_here","_law_number"])(aat:Cl P w K mg base 13 "is_needless" 2 cq)(aaj:Cl P w K mg base 15 "needless_letters" 1 bz)(aao:Cl P w K mg base 15 "least_letters" 1 b9)(aaH:Cl P w K mg base 12 "most_kept" 1 dU)(aaN:Cl P w K mg base 12 "culprits" 1 ft)(B:Bl mg)(S:Xs K mg ac bi bn bv ca ci cr){f_r:ZE}{fd_r:PR}(aap:Fn K mg "_law_refused" cI ["_law_e"] f_r fd_r):Cl P w K mg base 16 "_law_told" 3 aZ:=
 aO ["_law_ask","_law_record_here","_law_number","_law_e"] F λd f c A o s H E hr x=>(aq (EO 3 d S.m_ClockError S.o_ClockError (λ_ _=>(ao (cf (bf pL (af 0) aj) (aq (ax (EU (Fp aaj hr (Fp aao hr (Fp aaH hr (Fp aaN hr selN)))) (af 0) (ah (af 1) ag)))) bx) (aq (ax (aK aat hr (ah (af 1) (ah (af 2) ag))))))) (B0 rfl (TL rfl) aap S B.b_isinstance B.b_ValueError (K6 hr)) (hcl:=λ_ _ z=>by cases z)))
theorem kX{j1 j2 j3 j4 j5 j6 j7 j8 j9 j10 j11 j12 j13 j14 j15 j16 j17 j18 j19 j20 j21 j22 j23 j24 j25 j26 j27 j28 j29 j30 j31 j32:Nat}{p2 p3 p4 p5 p6 p7 p8 p9 p10 p11 p12 p13 p14 p15 p16 p17 p18 p19 p20 p21 p22 p23 p24 p25 p26 p27 p28 p29 p30 p31 p32:Pos}:QE X (.Tuple [(.Tuple [(.Tuple [(.Constant (.int 1) j1 p1),(.Constant (.int 1) j2 p2),(.Tuple [(.Constant (.int 0) j3 p3),(.Constant (.int 1) j4 p4)] j5 p5)] j6 p6),(.Tuple [(.Constant (.int 1) j7 p7),(.Constant (.int 1) j8 p8),(.Tuple [(.Constant (.int 0) j9 p9)] j10 p10)] j11 p11)] j12 p12),(.Tuple [(.Tuple [(.Tuple [(.Constant (.int 1) j13 p13),(.Constant (.int 0) j14 p14)] j15 p15),(.Tuple [(.Constant (.int 0) j16 p16),(.Constant (.int 0) j17 p17)] j18 p18),(.Constant (.int 1) j19 p19),(.Constant .none j20 p20)] j21 p21),(.Tuple [(.Tuple [(.Constant (.int 1) j22 p22),(.Constant (.int 0) j23 p23)] j24 p24),(.Tuple [(.Constant (.int 0) j25 p25),(.Constant (.int 1) j26 p26)] j27 p27),(.Constant (.int 2) j28 p28),(.Constant .none j29 p29)] j30 p30)] j31 p31)] j32 p32) (aQ (ae (aQ (ae (aQ (ae (cn (.int 1)) (ae (cn (.int 1)) (ae (aQ (ae (cn (.int 0)) (ae (cn (.int 1)) ai))) ai)))) (ae (aQ (ae (cn (.int 1)) (ae (cn (.int 1)) (ae (aQ (ae (cn (.int 0)) ai)) ai)))) ai))) (ae (aQ (ae (aQ (ae (aQ (ae (cn (.int 1)) (ae (cn (.int 0)) ai))) (ae (aQ (ae (cn (.int 0)) (ae (cn (.int 0)) ai))) (ae (cn (.int 1)) (ae (cn .non) ai))))) (ae (aQ (ae (aQ (ae (cn (.int 1)) (ae (cn (.int 0)) ai))) (ae (aQ (ae (cn (.int 0)) (ae (cn (.int 1)) ai))) (ae (cn (.int 2)) (ae (cn .non) ai))))) ai))) ai))):=by
 refine @aP X _ _ _ _ ?_;refine @ah X _ _ _ _ ?_ ?_ rfl
 .refine @aP X _ _ _ _ ?_;refine @ah X _ _ _ _ ?_ ?_ rfl
  .refine @aP X _ _ _ _ ?_;refine @ah X _ _ _ _ ?_ ?_ rfl
   .exact aj
   refine @ah X _ _ _ _ ?_ ?_ rfl
   .exact aj
   refine @ah X _ _ _ _ ?_ ?_ rfl
   .refine @aP X _ _ _ _ ?_;refine @ah X _ _ _ _ ?_ ?_ rfl
    .exact aj
    refine @ah X _ _ _ _ ?_ ?_ rfl
    .exact aj
    exact ag
   exact ag
  refine @ah X _ _ _ _ ?_ ?_ rfl
  .refine @aP X _ _ _ _ ?_;refine @ah X _ _ _ _ ?_ ?_ rfl
   .exact aj
   refine @ah X _ _ _ _ ?_ ?_ rfl
   .exact aj
   refine @ah X _ _ _ _ ?_ ?_ rfl
   .refine @aP X _ _ _ _ ?_;refine @ah X _ _ _ _ ?_ ?_ rfl
    .exact aj
    exact ag
   exact ag
  exact ag
 refine @ah X _ _ _ _ ?_ ?_ rfl
 .refine @aP X _ _ _ _ ?_;refine @ah X _ _ _ _ ?_ ?_ rfl
  .refine @aP X _ _ _ _ ?_;refine @ah X _ _ _ _ ?_ ?_ rfl
   .refine @aP X _ _ _ _ ?_;refine @ah X _ _ _ _ ?_ ?_ rfl
    .exact aj
    refine @ah X _ _ _ _ ?_ ?_ rfl
    .exact aj
    exact ag
   refine @ah X _ _ _ _ ?_ ?_ rfl
   .refine @aP X _ _ _ _ ?_;refine @ah X _ _ _ _ ?_ ?_ rfl
    .exact aj
    refine @ah X _ _ _ _ ?_ ?_ rfl
    .exact aj
    exact ag
   refine @ah X _ _ _ _ ?_ ?_ rfl
   .exact aj
   refine @ah X _ _ _ _ ?_ ?_ rfl
   .exact bP
   exact ag
  refine @ah X _ _ _ _ ?_ ?_ rfl
  .refine @aP X _ _ _ _ ?_;refine @ah X _ _ _ _ ?_ ?_ rfl
   .refine @aP X _ _ _ _ ?_;refine @ah X _ _ _ _ ?_ ?_ rfl
    .exact aj
    refine @ah X _ _ _ _ ?_ ?_ rfl
    .exact aj
    exact ag
   refine @ah X _ _ _ _ ?_ ?_ rfl
   .refine @aP X _ _ _ _ ?_;refine @ah X _ _ _ _ ?_ ?_ rfl
    .exact aj
    refine @ah X _ _ _ _ ?_ ?_ rfl
    .exact aj
    exact ag
   refine @ah X _ _ _ _ ?_ ?_ rfl
   .exact aj
   refine @ah X _ _ _ _ ?_ ?_ rfl
   .exact bP
   exact ag
  exact ag
 exact ag
abbrev lS:ZF:=top 73
theorem lZ(F:fZ K mg "_law_known_one" lS [])(aa5:Cl P w K mg base 16 "_law_told" 3 aZ):Cl P w K mg base 17 "_law_known_one" 0 dz:=
 aO ["_law_known"] F λd f c A o s H E hr x=>(ao (az kX (ak 0 d)) (aq (ax (dE (dD (k8 (g8 hr)) (aK aa5 hr (ah aj (ah (af 0) (ah bP ag)))) (cG (ah aj (ah aj ag)))) (dN (dD (k8 (g8 hr)) (aK aa5 hr (ah aj (ah (af 0) (ah bP ag)))) (aP (ah (aE (af 0) aj) (ah (cV (aE (af 0) aj) cU (cT aj)) ag)))))))))
abbrev jL:ZF:=top 63
noncomputable abbrev jQ:List Str:=["_law_clocks","_law_found","_law_number","_law_clock_here"]
theorem pX(F:fZ K mg "_law_events" jL ["_law_clocks"])(B:Bl mg):Cl P w K mg base 1 "_law_events" 1 bj:=
 aO jQ F λd f c A o s H E hr x=>(by(apply ao;exact(az (cG ag) (ak 1 d));apply ao;exact(bX rfl (jH B.b_enumerate (ah (af 0) ag)) (ig rfl (bu (ak 2 d) (bu (ak 3 d) gm))) (aq (az (au aM (af 1) (cH ["_law_place","_law_number"] jQ jL (cj B.b_range (ah (dg cL B.b_len Qj (ah (aE (af 3) aj) ag)) ag)) (λd _ _ _ _ _=>⟨(ak 0 d),bY,(aP (ah (af 1) (ah (af 0) ag)))⟩))) (ak 1 d))));exact aq (ax (af 1))))
abbrev iC:ZF:=top 65
noncomputable abbrev iG:List Str:=["_law_record_here","_law_clocks","_law_row"]
theorem rz(F:fZ K mg "_law_small" iC ["_law_record_here"])(aa2:Cl P w K mg base 1 "_law_events" 1 bj)(B:Bl mg):Cl P w K mg base 2 "_law_small" 1 gH:=
 aO iG F λd f c A o s H E hr x=>(by(apply ao;exact(az (jx fO B.b_tuple bW (ah (cH ["_law_clock_here"] iG iC (bh (cV (aE (af 0) aj) cU (cT aj))) (λd _ _ _ _ _=>⟨(ak 0 d),bY,(au aM (cV (af 0) cU (cT aj)) (aP (ah (cV (aE (af 0) aj) cU (cT aj)) ag)))⟩)) ag)) (ak 1 d));apply ao;exact(az (aK aa2 hr (ah (af 1) ag)) (ak 2 d));exact aq (ax (aP (ah (af 1) (ah (jx fO B.b_tuple bW (ah (cH ["_law_letter_here","_law_row"] iG iC (bh (aE (af 0) aj)) (λd _ _ _ _ _=>⟨(ak 0 d),(fD (ny (yW (bf (vZ (Bb hr)) (aE (af 0) aj) (af 1)) (vf (bf (vZ (Bb hr)) (aE (af 0) aj) (af 1)))))),(af 0)⟩)) ag)) ag))))))
abbrev pz:ZF:=top 66
theorem pY(F:fZ K mg "_law_bounds" pz ["_law_record_here"])(B:Bl mg):Cl P w K mg base 1 "_law_bounds" 1 bV:=
 aO ["_law_record_here","_law_found","_law_number","_law_slow","_law_fast","_law_readings","_law_k","_law_steps","_law_one","_law_other","_law_least","_law_most"] F λd f c A o s H E hr x=>(by(apply ao;exact(iQ 1 d ag);apply ao;exact(bX rfl (jH B.b_enumerate (ah (aE (af 0) aj) ag)) (ig rfl (bu (ak 2 d) (bu (ig rfl (bu (ak 3 d) (bu (ak 4 d) (bu (ak 5 d) gm)))) gm))) (aq (bX rfl (xC B.b_range (ah aj (ah (dg cL B.b_len Qj (ah (af 5) ag)) ag))) (ak 6 d) (by(apply ao;exact(az (au fG (aE (af 5) (af 6)) (aE (af 5) (au fG (af 6) aj))) (ak 7 d));apply ao;exact(ie 1 (aP (ah (aP (ah (af 2) (ah (au fG (af 6) aj) ag))) (ah (aP (ah (af 2) (ah (af 6) ag))) (ah (au di (af 4) (af 7)) ag)))));exact aq (ie 1 (aP (ah (aP (ah (af 2) (ah (af 6) ag))) (ah (aP (ah (af 2) (ah (au fG (af 6) aj) ag))) (ah (au fG aj (au di (af 3) (af 7))) ag))))))))));apply ao;exact(bX rfl (bh (aE (af 0) aj)) (ig rfl (bu (ak 8 d) (bu (ak 9 d) (bu (ak 10 d) (bu (ak 11 d) gm))))) (ao (ie 1 (aP (ah (af 9) (ah (af 8) (ah (au fG aj (af 10)) ag))))) (aq (cf (bf gV (af 11) bP) (aq (ie 1 (aP (ah (af 8) (ah (af 9) (ah (af 11) ag)))))) bx))));exact aq (ja 1 (ax (af 1)))))
abbrev iB:ZF:=top 67
noncomputable abbrev iF:List Str:=["_law_places","_law_row","_law_far","_law_one","_law_other","_law_most","_law_middle","_law_whole"]
theorem rq(F:fZ K mg "_law_table" iB ["_law_places","_law_row"])(B:Bl mg):Cl P w K mg base 1 "_law_table" 2 bN:=
 aO iF F λd f c A o s H E hr x=>(by(apply ao;exact(Au 2 0 (N':=["_law_one","_law_places"]) (src:=[ZB]) (hu8 hr) rfl B.b_dict d (LcScope.by (N:=iF) (names:=(ay iB).names) rfl rfl rfl (by decide+kernel)) (bh (af 0)) (by decide) (λ_ _ _ _ _=>⟨(ak 0 (show RL (["_law_one","_law_places"]:List Str)by decide+kernel)),pv 0,Jj (hu8 hr) rfl B.b_dict rfl (LcScope.byN (N:=["_law_one","_law_places"]) (N':=["_law_other"]) rfl rfl (by decide+kernel) rfl) (bh (af 1)).h (λ_ _ _ _ _=>⟨(ak 0 (show RL (["_law_other"]:List Str)by decide+kernel)).h,pv 0,rfl⟩) (λ_=>rfl)⟩));apply ao;exact(bX rfl (bh (af 0)) (ak 3 d) (aq (oU 2 (mj hr) (af 3) (af 3) aj)));apply ao;exact(bX rfl (bh (af 1)) (ig rfl (bu (ak 3 d) (bu (ak 4 d) (bu (ak 5 d) gm)))) (aq (cf (ny (mE (bf nK (kY 2 (du (mj hr) (du (mj hr) (af 2) (af 3)) (af 4))) bP) (kn (bf pL (af 5) (kY 2 (du (mj hr) (du (mj hr) (af 2) (af 3)) (af 4))))))) (aq (oU 2 (mj hr) (af 3) (af 4) (af 5))) bx)));apply ao;exact(bX rfl (bh (af 0)) (ak 6 d) (aq (bX rfl (bh (af 0)) (ak 3 d) (aq (bX rfl (bh (af 0)) (ak 4 d) (aq (cf (ny (yW (bf gV (kY 2 (du (mj hr) (du (mj hr) (af 2) (af 3)) (af 6))) bP) (vf (bf gV (kY 2 (du (mj hr) (du (mj hr) (af 2) (af 6)) (af 4))) bP)))) (ao (az (au aM (kY 2 (du (mj hr) (du (mj hr) (af 2) (af 3)) (af 6))) (kY 2 (du (mj hr) (du (mj hr) (af 2) (af 6)) (af 4)))) (ak 7 d)) (aq (cf (ny (mE (bf nK (kY 2 (du (mj hr) (du (mj hr) (af 2) (af 3)) (af 4))) bP) (kn (bf pL (af 7) (kY 2 (du (mj hr) (du (mj hr) (af 2) (af 3)) (af 4))))))) (aq (oU 2 (mj hr) (af 3) (af 4) (af 7))) bx))) bx)))))));exact aq (ja 2 (ax (yX (bf (k8 (g8 hr)) (cH ["_law_one","_law_far"] iF iB (bh (af 0)) (λd _ _ _ _ _=>⟨(ak 0 d),(fD (bf pL (du (mj hr) (du (mj hr) (af 1) (af 0)) (af 0)) aj)),(af 0)⟩)) (cG ag)) (af 2) bP)))))
abbrev tM:ZF:=top 59
theorem uq(F:fZ K mg "_law_cell" tM ["_law_script","_law_k"])(B:Bl mg):Cl P w K mg base 1 "_law_cell" 2 gv:=
 aO ["_law_script","_law_k"] F λd f c A o s H E hr x=>(ao (cf (bf (k8 (g8 hr)) (af 0) (cG ag)) (aq (ax (au di aj (af 1)))) bx) (aq (ax (au aM (aE (af 0) (au ly (af 1) (dg cL B.b_len Qj (ah (af 0) ag)))) (au di aj (au oA (af 1) (dg cL B.b_len Qj (ah (af 0) ag))))))))
abbrev rg:ZF:=top 60
theorem rA(F:fZ K mg "_law_drawn" rg ["_law_script","_law_k","_law_many"])(aaI:Cl P w K mg base 1 "_law_cell" 2 gv):Cl P w K mg base 2 "_law_drawn" 3 aJ:=
 aO ["_law_script","_law_k","_law_many","_law_cell_here"] F λd f c A o s H E hr x=>(by(apply ao;exact(az (au ly (au aM (au di (au ly (aK aaI hr (ah (af 0) (ah (af 1) ag))) aj) aj) (au di aj (au aM (af 1) aj))) aj) (ak 3 d));apply ao;exact(az (au ly (au aM (au di (af 3) (af 3)) (au oA (af 3) aj)) aj) (ak 3 d));exact aq (ax (au ly (au oA (au ly (au aM (au di (af 3) (af 3)) (au oA (af 3) aj)) aj) aj) (af 2)))))
abbrev pw:ZF:=top 62
theorem pW(F:fZ K mg "_law_letter" pw ["_law_script","_law_at","_law_clocks"])(aa2:Cl P w K mg base 1 "_law_events" 1 bj)(aa0:Cl P w K mg base 2 "_law_drawn" 3 aJ)(B:Bl mg):Cl P w K mg base 3 "_law_letter" 3 dM:=
 aO ["_law_script","_law_at","_law_clocks","_law_row","_law_place","_law_other","_law_least","_law_most"] F λd f c A o s H E hr x=>(by(apply ao;exact(az (aK aa2 hr (ah (af 2) ag)) (ak 3 d));apply ao;exact(cf (bf pL (dg cL B.b_len Qj (ah (af 3) ag)) aj) (aq (ax bP)) bx);apply ao;exact(az (aK aa0 hr (ah (af 0) (ah (af 1) (ah (dg cL B.b_len Qj (ah (af 3) ag)) ag)))) (ak 4 d));apply ao;exact(az (au ly (au aM (au aM (af 4) aj) (aK aa0 hr (ah (af 0) (ah (au aM (af 1) aj) (ah (au fG (dg cL B.b_len Qj (ah (af 3) ag)) aj) ag))))) (dg cL B.b_len Qj (ah (af 3) ag))) (ak 5 d));apply ao;exact(az (aK aa0 hr (ah (af 0) (ah (au aM (af 1) aj) (ah aj ag)))) (ak 6 d));apply ao;exact(az (yX (bf (k8 (g8 hr)) (aK aa0 hr (ah (af 0) (ah (au aM (af 1) aj) (ah aj ag)))) aj) bP (au aM (af 6) (aK aa0 hr (ah (af 0) (ah (au aM (af 1) aj) (ah aj ag)))))) (ak 7 d));exact aq (ax (aP (ah (aE (af 3) (af 4)) (ah (aE (af 3) (af 5)) (ah (af 6) (ah (af 7) ag))))))))
abbrev rh:ZF:=top 61
theorem rB(F:fZ K mg "_law_clock" rh ["_law_script","_law_at"])(aa0:Cl P w K mg base 2 "_law_drawn" 3 aJ)(B:Bl mg):Cl P w K mg base 3 "_law_clock" 2 dk:=
 aO ["_law_script","_law_at","_law_slow","_law_readings","_law_k"] F λd f c A o s H E hr x=>(by(apply ao;exact(az (au aM aj (aK aa0 hr (ah (af 0) (ah (af 1) (ah aj ag))))) (ak 2 d));apply ao;exact(az (aP (ah (aK aa0 hr (ah (af 0) (ah (au aM (af 1) aj) (ah aj ag)))) ag)) (ak 3 d));apply ao;exact(bX rfl (cj B.b_range (ah (aK aa0 hr (ah (af 0) (ah (au aM (af 1) aj) (ah aj ag)))) ag)) (ak 4 d) (aq (az (au aM (af 3) (aP (ah (au aM (au aM (aE (af 3) (mG aj)) aj) (aK aa0 hr (ah (af 0) (ah (au aM (au aM (af 1) aj) (af 4)) (ah aj ag))))) ag))) (ak 3 d))));exact aq (ax (aP (ah (af 2) (ah (au aM (af 2) (aK aa0 hr (ah (af 0) (ah (au aM (af 1) aj) (ah aj ag))))) (ah (af 3) ag)))))))
abbrev jK:ZF:=top 64
noncomputable abbrev jP:List Str:=["_law_script","_law_at","_law_most","_law_clocks","_law_letters","_law_k","_law_letter_here"]
theorem pV(F:fZ K mg "_law_record" jK ["_law_script","_law_at","_law_most"])(aa0:Cl P w K mg base 2 "_law_drawn" 3 aJ)(aau:Cl P w K mg base 3 "_law_letter" 3 dM)(aaB:Cl P w K mg base 3 "_law_clock" 2 dk)(B:Bl mg):Cl P w K mg base 4 "_law_record" 3 gh:=
 aO jP F λd f c A o s H E hr x=>(by(apply ao;exact(az (jx fO B.b_tuple bW (ah (cH ["_law_k","_law_script","_law_at"] jP jK (cj B.b_range (ah (au aM aj (aK aa0 hr (ah (af 0) (ah (af 1) (ah aj ag))))) ag)) (λd _ _ _ _ _=>⟨(ak 0 d),bY,(aK aaB hr (ah (af 1) (ah (au aM (au aM (af 2) aj) (au di aj (af 0))) ag)))⟩)) ag)) (ak 3 d));apply ao;exact(az (cG ag) (ak 4 d));apply ao;exact(bX rfl (cj B.b_range (ah (aK aa0 hr (ah (af 0) (ah (au aM (af 1) aj) (ah (au aM (af 2) aj) ag)))) ag)) (ak 5 d) (ao (az (aK aau hr (ah (af 0) (ah (au aM (au aM (af 1) aj) (au di aj (af 5))) (ah (af 3) ag)))) (ak 6 d)) (aq (az (au aM (af 4) (au di (cG (ah (af 6) ag)) (jx yN B.b_int iz (ah (dD gV (af 6) bP) ag)))) (ak 4 d)))));exact aq (ax (aP (ah (af 3) (ah (jx fO B.b_tuple bW (ah (af 4) ag)) ag))))))
abbrev lQ:ZF:=top 72
noncomputable abbrev l6:List Str:=["_law_many","_law_found","_law_number"]
theorem uo(F:fZ K mg "_law_sets" lQ ["_law_many"])(B:Bl mg):Cl P w K mg base 1 "_law_sets" 1 gu:=
 aO l6 F λd f c A o s H E hr x=>(by(apply ao;exact(az (cG (ah (cG ag) ag)) (ak 1 d));apply ao;exact(bX rfl (cj B.b_range (ah (af 0) ag)) (ak 2 d) (aq (az (au aM (af 1) (cH ["_law_row","_law_number"] l6 lQ (bh (af 1)) (λd _ _ _ _ _=>⟨(ak 0 d),bY,(au aM (af 0) (cG (ah (af 1) ag)))⟩))) (ak 1 d))));exact aq (ax (af 1))))
abbrev nG:ZF:=top 71
noncomputable abbrev nN:List Str:=["_law_record_here","_law_numbers","_law_some"]
theorem we(F:fZ K mg "_law_has" nG ["_law_record_here","_law_numbers"])(aa8:Cl P w K mg base 1 "_law_table" 2 bN)(aa2:Cl P w K mg base 1 "_law_events" 1 bj)(aaa:Cl P w K mg base 1 "_law_bounds" 1 bV)(B:Bl mg):Cl P w K mg base 2 "_law_has" 2 gZ:=
 aO nN F λd f c A o s H E hr x=>(ao (az (aP (ah (aE (af 0) aj) (ah (jx fO B.b_tuple bW (ah (cH ["_law_number","_law_record_here"] nN nG (bh (af 1)) (λd _ _ _ _ _=>⟨(ak 0 d),bY,(aE (aE (af 1) aj) (af 0))⟩)) ag)) ag))) (ak 2 d)) (aq (ax (dD gV (aK aa8 hr (ah (aK aa2 hr (ah (aE (af 0) aj) ag)) (ah (aK aaa hr (ah (af 2) ag)) ag))) bP))))
abbrev mO:ZF:=top 70
theorem mU(F:fZ K mg "_law_needless" mO ["_law_record_here"])(aa2:Cl P w K mg base 1 "_law_events" 1 bj)(aa8:Cl P w K mg base 1 "_law_table" 2 bN)(aaa:Cl P w K mg base 1 "_law_bounds" 1 bV)(B:Bl mg):Cl P w K mg base 2 "_law_needless" 1 dh:=
 aO ["_law_record_here","_law_places","_law_whole","_law_found","_law_number","_law_rest"] F λd f c A o s H E hr x=>(by(apply ao;exact(az (aK aa2 hr (ah (aE (af 0) aj) ag)) (ak 1 d));apply ao;exact(az (aK aa8 hr (ah (af 1) (ah (aK aaa hr (ah (af 0) ag)) ag))) (ak 2 d));apply ao;exact(az (cG ag) (ak 3 d));apply ao;exact(bX rfl (cj B.b_range (ah (dg cL B.b_len Qj (ah (aE (af 0) aj) ag)) ag)) (ak 4 d) (ao (az (aP (ah (aE (af 0) aj) (ah (au aM (cV (aE (af 0) aj) cU (cT (af 4))) (cV (aE (af 0) aj) (cT (au aM (af 4) aj)) cU)) ag))) (ak 5 d)) (aq (az (au aM (af 3) (au di (cG (ah (af 4) ag)) (jx yN B.b_int iz (ah (dD (CV (g8 hr)) (aK aa8 hr (ah (af 1) (ah (aK aaa hr (ah (af 5) ag)) ag))) (af 2)) ag)))) (ak 3 d)))));exact aq (ax (af 3))))
abbrev cW:ZF:=top 74
noncomputable abbrev cX:List Str:=["_law_script","_law_record_here","_law_places","_law_row","_law_table_here","_law_many","_law_good","_law_most","_law_alone","_law_odd","_law_told_here","_law_number","_law_left"]
theorem pU(F:fZ K mg "_law_stands" cW ["_law_script"])(aaC:Cl P w K mg base 2 "_law_small" 1 gH)(aa2:Cl P w K mg base 1 "_law_events" 1 bj)(aaa:Cl P w K mg base 1 "_law_bounds" 1 bV)(aa8:Cl P w K mg base 1 "_law_table" 2 bN)(aav:Cl P w K mg base 4 "_law_record" 3 gh)(aa5:Cl P w K mg base 16 "_law_told" 3 aZ)(aa0:Cl P w K mg base 2 "_law_drawn" 3 aJ)(aaJ:Cl P w K mg base 1 "_law_sets" 1 gu)(aaO:Cl P w K mg base 2 "_law_has" 2 gZ)(aah:Cl P w K mg base 2 "_law_needless" 1 dh)(B:Bl mg):Cl P w K mg base 17 "_law_stands" 1 gg:=
 aO cX F λd f c A o s H E hr x=>(by(apply ao;exact(az (aK aaC hr (ah (aK aav hr (ah (af 0) (ah aj (ah aj ag)))) ag)) (ak 1 d));apply ao;exact(az (aP (ah (aE (af 1) aj) (ah (cV (aE (af 1) aj) cU (cT aj)) ag))) (ak 1 d));apply ao;exact(az (aK aa2 hr (ah (aE (af 1) aj) ag)) (ak 2 d));apply ao;exact(az (aK aaa hr (ah (af 1) ag)) (ak 3 d));apply ao;exact(az (aK aa8 hr (ah (af 2) (ah (af 3) ag))) (ak 4 d));apply ao;exact(az (dg cL B.b_len Qj (ah (aE (af 1) aj) ag)) (ak 5 d));apply ao;exact(az (cH ["_law_numbers","_law_record_here"] cX cW (bh (aK aaJ hr (ah (af 5) ag))) (λd _ _ _ _ _=>⟨(ak 0 d),(fD (c9 (aK aaO hr (ah (af 1) (ah (af 0) ag))))),(af 0)⟩)) (ak 6 d));apply ao;exact(az (dg (Kp rfl) B.b_max boot_max (ah (cH ["_law_numbers"] cX cW (bh (af 6)) (λd _ _ _ _ _=>⟨(ak 0 d),bY,(dg cL B.b_len Qj (ah (af 0) ag))⟩)) ag)) (ak 7 d));apply ao;exact(cf (bf (k7 (g8 hr)) (aK aa5 hr (ah aj (ah (af 1) (ah bP ag)))) (dg (GV rfl (g8 hr)) B.b_min boot_min (ah (cH ["_law_numbers","_law_most"] cX cW (bh (af 6)) (λd _ _ _ _ _=>⟨(ak 0 d),(fD (bf (k8 (g8 hr)) (dg cL B.b_len Qj (ah (af 0) ag)) (af 1))),(af 0)⟩)) ag))) (aq (ax iU)) bx);apply ao;exact(BL 8 (N':=["_law_number","_law_many","_law_good"]) (src:=[ZB,ZA 5,ZA 6]) rfl (LcScope.by (N:=cX) (names:=(ay cW).names) rfl rfl rfl (by decide+kernel)) (cj B.b_range (ah (af 5) ag)) (λ_ _ _ _ _=>⟨(ak 0 (show RL (["_law_number","_law_many","_law_good"]:List Str)by decide+kernel)),(fD (bf (vZ (Bb hr)) (Hd (N':=["_law_one","_law_number"]) (src:=[ZB,ZA 0]) rfl (LcScope.byN (N:=["_law_number","_law_many","_law_good"]) rfl rfl (by decide+kernel) rfl) (cj B.b_range (ah (af 1) ag)) (λ_ _ _ _ _=>⟨(ak 0 (show RL (["_law_one","_law_number"]:List Str)by decide+kernel)),(fD (bf (k7 (g8 hr)) (af 0) (af 1))),(af 0)⟩)) (af 2))),(af 0)⟩) d);apply ao;exact(cf (bf (k7 (g8 hr)) (aK aa5 hr (ah aj (ah (af 1) (ah bP ag)))) (yX (bf nK (af 4) bP) (af 8) (cG ag))) (aq (ax iU)) bx);apply ao;exact(az (aE (cG (ah (mG aj) (ah (dg cL B.b_len Qj (ah (af 3) ag)) (ah iU (ah bP (ah sY ag)))))) (aK aa0 hr (ah (af 0) (ah aj (ah aj ag))))) (ak 9 d));apply ao;exact(cf (bf (k7 (g8 hr)) (aK aa5 hr (ah aj (ah (af 1) (ah (af 9) ag)))) (aP (ah sY (ah aj ag)))) (aq (ax iU)) bx);apply ao;exact(cf (bf (k7 (g8 hr)) (cH ["_law_ask","_law_record_here","_law_odd"] cX cW (cj B.b_range (ah aj ag)) (λd _ _ _ _ _=>⟨(ak 0 d),bY,(aK aa5 hr (ah (af 0) (ah (cV (af 1) cU (cT aj)) (ah (af 2) ag))))⟩)) (au di (cG (ah (aP (ah sY (ah aj ag))) ag)) aj)) (aq (ax iU)) bx);apply ao;exact(cf (bf nK (af 4) bP) (ao (az (au aM (cH ["_law_ask","_law_record_here"] cX cW (bh (aP (ah aj (ah aj ag)))) (λd _ _ _ _ _=>⟨(ak 0 d),bY,(aK aa5 hr (ah (af 0) (ah (af 1) (ah aj ag))))⟩)) (au di (cG (ah (aK aa5 hr (ah aj (ah (af 1) (ah aj ag)))) ag)) (jx yN B.b_int iz (ah (dD (k7 (g8 hr)) (af 3) (cG ag)) ag)))) (ak 10 d)) (aq (ax (dD (k8 (g8 hr)) (af 10) (au di (cG (ah (aP (ah sY (ah aj ag))) ag)) (dg cL B.b_len Qj (ah (af 10) ag))))))) bx);apply ao;exact(bX rfl (cj B.b_range (ah (dg cL B.b_len Qj (ah (af 3) ag)) ag)) (ak 11 d) (aq (cf (bf (k7 (g8 hr)) (aK aa5 hr (ah aj (ah (af 1) (ah (af 11) ag)))) (dD (CV (g8 hr)) (aK aa8 hr (ah (af 2) (ah (au aM (cV (af 3) cU (cT (af 11))) (cV (af 3) (cT (au aM (af 11) aj)) cU)) ag))) (af 4))) (aq (ax iU)) bx)));apply ao;exact(az (af 1) (ak 12 d));apply ao;exact(bX rfl (bh (HY (rM rfl B.b_list B.b_range (ah (af 5) ag)))) (ak 11 d) (aq (cf (bf (vZ (Bb hr)) (af 11) (aK aah hr (ah (af 12) ag))) (aq (az (aP (ah (aE (af 12) aj) (ah (au aM (cV (aE (af 12) aj) cU (cT (af 11))) (cV (aE (af 12) aj) (cT (au aM (af 11) aj)) cU)) ag))) (ak 12 d))) bx)));exact aq (ax (dE (dD (k8 (g8 hr)) (aK aa5 hr (ah aj (ah (af 1) (ah bP ag)))) (aK aah hr (ah (af 1) ag))) (dN (dD (k8 (g8 hr)) (aK aa5 hr (ah aj (ah (af 1) (ah bP ag)))) (af 12)))))))
abbrev B4:ZF:=top 75
abbrev JA:List Str:=["_law_script"]
theorem Iv:dq JA ["_law_script"] (ay B4):=fsc
theorem Jv(aaU:Fn K mg "law" B4 ["_law_script"] f fd)(aam:Cl P w K mg base 17 "_law_known_one" 0 dz)(aaw:Cl P w K mg base 17 "_law_stands" 1 gg):BI P w K mg base 18 f fd ["_law_script"] 1 m_law:=
 sZ aaU.fn Iv rfl λc _ A o s H E hr x=>(aq (ax (dE (KN aam hr) (dN (aK aaw hr (ah (af 0) ag))))))
end
def all_ok{l:PySem.W.OpenLaw}{h:ZH}{fa:ZE}(X:K.In h)(e:pZ asks K=nV asks top)(Lm:∃f c P,LmK K f c P)(bm:Kv K=ZC)(G:h.Ns OJ mg)(hfa:mg "law" =ZA (.ref fa)):
  ∃fd:PR,(∀(s:Oc)(v:N8),Vo s fd ⟨[v],[]⟩ [("_law_script",v)])/\∀base:ZH,K.In base->base.Ns OJ mg->rH l.prog w K mg base CX0 18 fa fd ["_law_script"] (spP K 1 m_law):=by
 have B:Bl mg:=⟨fK 0 X G e rfl,fK 1 X G e rfl,fK 2 X G e rfl,fK 3 X G e rfl,fK 4 X G e rfl,fK 5 X G e rfl,fK 6 X G e rfl,fK 7 X G e rfl,fK 8 X G e rfl,fK 9 X G e rfl,fK 10 X G e rfl,fK 11 X G e rfl,fK 12 X G e rfl,fK 13 X G e rfl⟩;have C:Cs mg:=⟨si 0 X G e rfl,si 1 X G e rfl,si 2 X G e rfl,si 3 X G e rfl,si 4 X G e rfl,si 5 X G e rfl⟩;obtain⟨cr,ls,xD,xl,nd⟩:=Jw (L7 e);obtain⟨ac,ls0,x_NoRecord,rfl,xl0⟩:=gM xl;obtain⟨bi,ls1,x_NoEvent,rfl,xl1⟩:=gM xl0;obtain⟨bn,ls2,x_NoNumber,rfl,xl2⟩:=gM xl1;obtain⟨bv,ls3,x_NoWorld,rfl,xl3⟩:=gM xl2;obtain⟨ca,ls4,x_Barred,rfl,xl4⟩:=gM xl3;obtain⟨ci,ls5,x_Nothing,rfl,xl5⟩:=gM xl4;cases ED xl5;have S:Xs K mg ac bi bn bv ca ci cr:=⟨RG X G (iD x_NoRecord).1,RG X G (iD x_NoEvent).1,RG X G (iD x_NoNumber).1,RG X G (iD x_NoWorld).1,RG X G (iD x_Barred).1,RG X G (iD x_Nothing).1,RG X G (iD xD).1,KH x_NoRecord xD,KH x_NoEvent xD,KH x_NoNumber xD,KH x_NoWorld xD,KH x_Barred xD,KH x_Nothing xD,ox0 xD,nd⟩;obtain⟨fd53,aaU,bnd⟩:=L4 (n:="law") (i:=75) (x:="_law_script") 53 X G e rfl hfa λ_ _ _ _ _ _ _=>rfl;obtain⟨f54,fd54,aap⟩:=L6 (n:="_law_refused") (i:=68) (ps:=["_law_e"]) 54 X G e rfl λ_ _ _ _ _ _=>HC λ_=>rfl;refine⟨fd53,bnd,λbase Xb _=>?_⟩;have LX:=Gk Lm bm X G Xb;have aa3:=ye l.prog w base (cz 0 X G e) B;have aaK:=v5 l.prog w base (cz 1 X G e) B;have aa1:=uf l.prog w base (cz 2 X G e) aaK;have aaP:=ya l.prog w base (cz 3 X G e) aa1 C;have aaS:=C2 l.prog w base (cz 4 X G e) B;have aaq:=n5 l.prog w base (cz 5 X G e) aa3 aaS aa1 B C;have aaL:=v9 l.prog w base (cz 6 X G e) aa3 aaP aaq;have aaz:=ro l.prog w base (cz 7 X G e) aa3 aaL B C;have aax:=v7 l.prog w base (cz 8 X G e) aa1 aa3 B;have aaM:=v8 l.prog w base (cz 9 X G e) aa1 C;have aaE:=uh l.prog w base (cz 10 X G e) aax aa3 aaM;have aar:=pR l.prog w base (cz 11 X G e) aa3 aaE B C;have aaF:=ug l.prog w base (cz 12 X G e) aa3 aaz aar;have aab:=pO l.prog w base (cz 13 X G e) aaF S;have aak:=lz l.prog w base (cz 14 X G e) B;have aai:=kU l.prog w base (cz 15 X G e);have aag:=AO l.prog w base (cz 16 X G e) aab aak aai B;have aas:=pP l.prog w base (cz 17 X G e) aa1 S;have aae:=AN l.prog w base (cz 18 X G e) aab B;have aaG:=ui l.prog w base (cz 19 X G e);have aaf:=AM l.prog w base (cz 20 X G e) aaG B;have aal:=lY l.prog w base (cz 21 X G e) aae aaf B;have aaT:=C0 l.prog w base (cz 22 X G e) aal aag;have aa4:=uj l.prog w base (cz 23 X G e) aaT;have aa7:=rn l.prog w base (cz 24 X G e) aa4 S;have aat:=pQ l.prog w base (cz 25 X G e) aag aas aa7 aaf B;have aa6:=pT l.prog w base (cz 26 X G e) B;have aaA:=rl l.prog w base (cz 27 X G e) aaf aag;have aaQ:=x9 l.prog w base (cz 28 X G e);have aay:=wc l.prog w base (cz 29 X G e) aa7 aae aaA aaQ B;have aac:=pM l.prog w base (cz 30 X G e) aae aay aa4;have aa9:=ud l.prog w base (cz 31 X G e) B;have aad:=x6 l.prog w base (cz 32 X G e);have aaj:=kR l.prog w base (cz 33 X G e) aa7 aa6 aac aa9 aad;have aao:=mT l.prog w base (cz 34 X G e) aa7 aa9 aac aad aa6 B;have aaR:=x8 l.prog w base (cz 35 X G e);have aaH:=ue l.prog w base (cz 36 X G e) aab aaR aa4 aa6 aa9 B LX;have aaN:=wa l.prog w base (cz 37 X G e) aa4 aa6 aa9 aad;have aa5:=um l.prog w base (cz 38 X G e) aat aaj aao aaH aaN B S aap;have aam:=lZ l.prog w base (cz 39 X G e) aa5;have aa2:=pX l.prog w base (cz 40 X G e) B;have aaC:=rz l.prog w base (cz 41 X G e) aa2 B;have aaa:=pY l.prog w base (cz 42 X G e) B;have aa8:=rq l.prog w base (cz 43 X G e) B;have aaI:=uq l.prog w base (cz 44 X G e) B;have aa0:=rA l.prog w base (cz 45 X G e) aaI;have aau:=pW l.prog w base (cz 46 X G e) aa2 aa0 B;have aaB:=rB l.prog w base (cz 47 X G e) aa0 B;have aav:=pV l.prog w base (cz 48 X G e) aa0 aau aaB B;have aaJ:=uo l.prog w base (cz 49 X G e) B;have aaO:=we l.prog w base (cz 50 X G e) aa8 aa2 aaa B;have aah:=mU l.prog w base (cz 51 X G e) aa2 aa8 aaa B;have aaw:=pU l.prog w base (cz 52 X G e) aaC aa2 aaa aa8 aav aa5 aa0 aaJ aaO aah B;exact(Jv l.prog w base aaU aam aaw).h
end G
namespace Tr
open PySem
abbrev RR(cs ls:List T):T:=.tup [.tup cs,.tup ls]
mutual
def T.pl:T->Bool
 |.scr _=>ZD
 |.dct _ _=>ZD
 |.tup l=>plS l
 |.lst l=>plS l
 |_=>ZC
def plS:List T->Bool
 |[] =>ZC
 |t::l=>t.pl&&plS l
end
theorem lW:∀{l:List T}{t:T},plS l=ZC->t∈l->t.pl=ZC
 |[],_,_,h=>by cases h
 |u::l,t,h,m=>by
  unfold plS at h;rw[N7]at h;rcases Oe.mp m with rfl|m
  .exact h.1
  .exact lW h.2 m
mutual
theorem T.KF:∀(t:T),t.pl=ZC->t.nd=ZC
 |.non,_=>rfl
 |.bl _,_=>rfl
 |.int _,_=>rfl
 |.str _,_=>rfl
 |.scr _,h=>by cases h
 |.dct _ _,h=>by cases h
 |.tup l,h=>by unfold T.pl at h;unfold T.nd;exact plS_nds l h
 |.lst l,h=>by unfold T.pl at h;unfold T.nd;exact plS_nds l h
theorem plS_nds:∀(l:List T),plS l=ZC->nds l=ZC
 |[],_=>rfl
 |t::l,h=>by unfold plS at h;rw[N7]at h;unfold nds;rw[T.KF t h.1,plS_nds l h.2];rfl
end
variable{fe:Y2}{h:T->T}
theorem yw:∀(ts:List T)(Z:En),0<Z.length->(∀t∈ts,fe (Z.set 0 (.va t))=.ok (h t))->eO (gN 0) bT fe ts Z=.ok (ts.map h)
 |[],_,_,_=>rfl
 |t::r,Z,hl,hf=>by
  unfold eO;have e1:gN 0 t Z=.ok (Z.set 0 (.va t)):=by unfold gN;rw[if_pos hl]
  have ih:=yw r (Z.set 0 (.va t)) (by rw[P3];exact hl) (λu hu=>by rw[Ww];exact hf u (N6 _ hu));simp only[e1,aG,bT,if_true,hf t Ob,ih,Oa]
variable{p:T->Bool}
theorem sf{fc:Y3}:∀(ts:List T)(Z:En),0<Z.length->(∀t∈ts,fc (Z.set 0 (.va t))=.ok (p t)/\(p t=ZC->fe (Z.set 0 (.va t))=.ok (h t)))->eO (gN 0) fc fe ts Z=.ok ((ts.filter p).map h)
 |[],_,_,_=>rfl
 |t::r,Z,hl,hf=>by
  unfold eO;have e1:gN 0 t Z=.ok (Z.set 0 (.va t)):=by unfold gN;rw[if_pos hl]
  have ih:=sf r (Z.set 0 (.va t)) (by rw[P3];exact hl) (λu hu=>by rw[Ww];exact hf u (N6 _ hu));obtain⟨h1,h2⟩:=hf t Ob;simp only[e1,aG,h1];cases q:p t with
  |true=>simp only[if_true,h2 q,aG,ih,SU,q,Oa]
  |false=>simp only[Qc,if_false,ih,SU,q]
theorem sO(p:T->Bool):∀l:List T,qP (l.map λt=>T.bl (p t))=ZA (l.map p)
 |[] =>rfl
 |t::l=>by rw[Oa,qP,sO p l];rfl
def all_map(p:T->Bool)(l:List T):rG [.lst (l.map λt=>T.bl (p t))]=.ok (.bl (l.all p)):=by simp only[rG,sO,Wr];rfl
theorem ke{l:List α}{k:Nat}{t:α}(h:l[k]?=ZA t):L2.atI l (k:Int)=ZA t:=by have hk:k<l.length:=(Og.mp h).1;unfold L2.atI L2.ixN;rw[if_pos (by omega),if_pos (by omega),Pz];exact h
theorem aB{k:Nat}(h:n<=k)(hk:autoParam (k<=1000) s_):n<=ZI:=by unfold ZI;omega
variable{fi:Y0}{g:T->En->Rs En}{ks:List T}{x:Rs T}
section
variable {f fa fb fc:Y2}{fs:Y0}{b c:Y3}{F G:Y1}{Z Z' Z1 Z2:En}{t u r:T}{ts l m:List T}
variable{g:T->T->Rs T}
def aD(ha:fa Z=.ok t)(hb:fb Z=.ok u)(hg:g t u=x):o2 g fa fb Z=x:=by unfold o2;rw[ha,hb];exact hg
def L1{c:Str}(ha:fa Z=.err c):o2 g fa fb Z=.err c:=by unfold o2;rw[ha];rfl
def Gp{g:T->Rs T}(ha:fa Z=.ok t)(hg:g t=x):o1 g fa Z=x:=by unfold o1;rw[ha];exact hg
def L0{vs:List T}(ha:fa Z=.ok (.dct ks vs))(hb:fb Z=.ok u)(hg:g (.dct ks vs) u=x):oD g fa fb Z=x:=by unfold oD;rw[ha];show(fb Z >>= g (.dct ks vs))=_;rw[hb];exact hg
def k_oL(ha:fa Z=.ok (.lst ks))(hb:fb Z=.ok u)(hg:g (.lst ks) u=x):oL g fa fb Z=x:=by unfold oL;rw[ha];show(fb Z >>= g (.lst ks))=_;rw[hb];exact hg
def ar(h:f Z=.ok t)(hs:fs Z=.ok ts):ae f fs Z=.ok (t::ts):=by unfold ae;rw[h,hs];rfl
def Gu{c:Str}(h:f Z=.err c):ae f fs Z=.err c:=by unfold ae;rw[h];rfl
variable{g:List T->Rs T}
def aI(h:fs Z=.ok ts)(hg:g ts=x):cl g fs Z=x:=by unfold cl;rw[h];exact hg
def L9{c:Str}(h:fs Z=.err c):cl g fs Z=.err c:=by unfold cl;rw[h];rfl
def bQ(h:f Z=.ok (.bl k)):tb f Z=.ok k:=by unfold tb;rw[h];rfl
def HF{c:Str}(h:f Z=.err c):tb f Z=.err c:=by unfold tb;rw[h];rfl
def iu(h:b Z=.ok k):dQ b Z=.ok (!k):=by unfold dQ;rw[h];rfl
def JY{c:Str}(h:b Z=.err c):dQ b Z=.err c:=by unfold dQ;rw[h];rfl
def DA(h:b Z=.ok ZC):nZ b c Z=.ok ZC:=by unfold nZ;rw[h];rfl
def wL{x:Rs Bool}(h:b Z=.ok ZD)(h2:c Z=x):nZ b c Z=x:=by unfold nZ;rw[h];exact h2
def DI(h:b Z=.ok ZD):qT b c Z=.ok ZD:=by unfold qT;rw[h];rfl
def yB{x:Rs Bool}(h:b Z=.ok ZC)(h2:c Z=x):qT b c Z=x:=by unfold qT;rw[h];exact h2
def qD(h:fa Z=.ok (.bl ZC)):cR fa fb Z=fb Z:=by unfold cR;rw[h];rfl
def zW(h:fa Z=.ok (.bl ZD)):cR fa fb Z=.ok (.bl ZD):=by unfold cR;rw[h];rfl
def JW(h:fa Z=.ok (.bl ZC)):EL fa fb Z=.ok (.bl ZC):=by unfold EL;rw[h];rfl
def JX(h:fa Z=.ok (.bl ZD)):EL fa fb Z=fb Z:=by unfold EL;rw[h];rfl
def DB(h:fa Z=.ok (.bl k)):o1 uu fa Z=.ok (.bl (!k)):=Gp h rfl
def wM{p:Bool}(h:b Z=.ok p):DO b fa fb Z=if p then fa Z else fb Z:=by unfold DO;rw[h];rfl
variable{g:T->En->Rs En}
def bL(h:f Z=.ok t)(hg:g t Z=.ok Z'):cJ f g Z=.ok (.nx Z'):=by unfold cJ;rw[h];show(match g t Z with|.ok Z'=>Rs.ok (Fl.nx Z')|_=>.bad)=_;rw[hg]
def Ma{c:Str}(h:f Z=.err c):cJ f g Z=.err c:=by unfold cJ;rw[h];rfl
def aw(h:F Z=.ok (.nx Z')):aA F G Z=G Z':=by unfold aA;rw[h];rfl
def iH(h:F Z=.ok (.rt t)):aA F G Z=.ok (.rt t):=by unfold aA;rw[h];rfl
def Dy(h:F Z=.ok (.ct Z')):aA F G Z=.ok (.ct Z'):=by unfold aA;rw[h];rfl
def jk{c:Str}(h:F Z=.err c):aA F G Z=.err c:=by unfold aA;rw[h];rfl
def eJ(h:b Z=.ok ZC):fS b F G Z=F Z:=by unfold fS;rw[h];rfl
def dC(h:b Z=.ok ZD):fS b F G Z=G Z:=by unfold fS;rw[h];rfl
def DE{c:Str}(h:b Z=.err c):fS b F G Z=.err c:=by unfold fS;rw[h];rfl
def b8(h:f Z=.ok t):aL f Z=.ok (.rt t):=by unfold aL;rw[h];rfl
def uG{c:Str}(h:f Z=.err c):aL f Z=.err c:=by unfold aL;rw[h];rfl
def uJ(h:f Z=.ok t):xS f Z=.ok (.nx Z):=by unfold xS;rw[h];rfl
def sj{c:Str}(h:f Z=.err c):xS f Z=.err c:=by unfold xS;rw[h];rfl
def fX{x:Fl}(h:fi Z=.ok ts)(h2:bA g F ts Z=.ok x):eh fi g F Z=.ok x:=by unfold eh;rw[h];show(match bA g F ts Z with|.ok f=>Rs.ok f|_=>.bad)=_;rw[h2]
def dO(h:g t Z=.ok Z1)(h2:F Z1=.ok (.nx Z2)):bA g F (t::ts) Z=bA g F ts Z2:=by rw[bA,h];show(F Z1 >>= _)=_;rw[h2];rfl
def Gs(h:g t Z=.ok Z1)(h2:F Z1=.ok (.ct Z2)):bA g F (t::ts) Z=bA g F ts Z2:=by rw[bA,h];show(F Z1 >>= _)=_;rw[h2];rfl
def Gq(h:g t Z=.ok Z1)(h2:F Z1=.ok (.rt r)):bA g F (t::ts) Z=.ok (.rt r):=by rw[bA,h];show(F Z1 >>= _)=_;rw[h2];rfl
def wI(h:c Z=.ok ZD):cg c F (n+1) Z=.ok (.nx Z):=by unfold cg;rw[h]
def qz(h:c Z=.ok ZC)(h2:F Z=.ok (.nx Z')):cg c F (n+1) Z=cg c F n Z':=by rw[cg,h];simp only[h2]
def Dw(h:c Z=.ok ZC)(h2:F Z=.ok (.rt t)):cg c F (n+1) Z=.ok (.rt t):=by rw[cg,h];simp only[h2]
def bJ{m:Nat}(hl:ts.length=n)(h:F (aV m ts)=.ok (.rt t)):val n m F ts=.ok t:=by unfold val;rw[if_pos hl];unfold cb;rw[h];rfl
def fJ{m:Nat}{c:Str}(hl:ts.length=n)(h:F (aV m ts)=.err c):val n m F ts=.err c:=by unfold val;rw[if_pos hl];unfold cb;rw[h];rfl
def yz{m:Nat}(hl:ts.length=n)(h:F (aV m ts)=.ok (.nx Z)):val n m F ts=.ok .non:=by unfold val;rw[if_pos hl];unfold cb;rw[h];rfl
def HE{h:Str->Rs T}{k:Fl}(e:F Z=.ok k):vJ F h Z=.ok k:=by unfold vJ;rw[e]
def Dx{h:Str->Rs T}{c:Str}(e:F Z=.err c)(e2:h c=.ok t):vJ F h Z=.ok (.rt t):=by unfold vJ;rw[e];simp only[e2]
def m7{src:List (Option Nat)}(hi:fi Z=.ok ts)(hs:ts.length<=ZI)(hn:0<src.length)(hf:∀t∈ts,fe ((bU src Z).set 0 (.va t))=.ok (h t)):
  d9 fi src (gN 0) bT fe Z=.ok (.lst (ts.map h)):=by
 have e:=yw (fe:=fe) (h:=h) ts (bU src Z) (by unfold bU;rw[N9];exact hn) hf;unfold d9;rw[hi,aG,if_pos hs,e]
def mf{src:List (Option Nat)}{fc:Y3}(hi:fi Z=.ok ts)(hs:ts.length<=ZI)(hn:0<src.length)
  (hf:∀t∈ts,fc ((bU src Z).set 0 (.va t))=.ok (p t)/\(p t=ZC->fe ((bU src Z).set 0 (.va t))=.ok (h t))):d9 fi src (gN 0) fc fe Z=.ok (.lst ((ts.filter p).map h)):=by
 have e:=sf (fc:=fc) (fe:=fe) (p:=p) (h:=h) ts (bU src Z) (by unfold bU;rw[N9];exact hn) hf;unfold d9;rw[hi,aG,if_pos hs,e]
def dA(h:fs Z=.ok ts)(hl:ts.length<=ZI):aQ fs Z=.ok (.tup ts):=by unfold aQ;rw[h];show la ts=_;unfold la;rw[if_pos hl]
def jV(h:fs Z=.ok ts)(hl:ts.length<=ZI):dB fs Z=.ok (.lst ts):=by unfold dB;rw[h];show lb ts=_;unfold lb;rw[if_pos hl]
def DD{f:Y0}(h:f Z=.ok l)(hi:i<Z.length)(hl:l.length<=1000):jB i f Z=.ok (.nx (Z.set i (.ow (.lst l)))):=by unfold jB;rw[h,aG,if_pos ⟨hi,aB hl (by omega)⟩]
def uH(hi:i<Z.length):jB i ai Z=.ok (.nx (Z.set i (.ow (.lst [])))):=DD rfl hi (Pg _)
theorem nR(h:f Z=.ok t)(hi:Z[i]?=ZA (.ow (.lst l)))(hl:l.length<=1000):iY i f Z=.ok (.nx (Z.set i (.ow (.lst (l++[t]))))):=by unfold iY;rw[hi];simp only[h,aG];rw[if_pos (by unfold ZI;omega)]
theorem DF(h:f Z=.ok (.lst m))(hi:Z[i]?=ZA (.ow (.lst l)))(hl:l.length+m.length<=1000):pG i f Z=.ok (.nx (Z.set i (.ow (.lst (l++m))))):=by unfold pG;rw[hi];simp only[h,aG,Kd];rw[if_pos (by unfold ZI;omega)]
def J0(h:f Z=.ok (.tup l)):iS f Z=.ok l:=by unfold iS;rw[h];rfl
def iw(h:f Z=.ok (.lst l)):iS f Z=.ok l:=by unfold iS;rw[h];rfl
def L5(h:fs Z=.ok [.lst l]):iE fs Z=.ok (dP 0 l):=by unfold iE;rw[h];rfl
def gw(e:l[n]?=ZA t):aW (.tup l) (.int (n:Int))=.ok t:=by show(match L2.atI l _ with|some t=>Rs.ok t|none=>.bad)=_;rw[ke e]
def yA(e:l[n]?=ZA t):aW (.lst l) (.int (n:Int))=.ok t:=by show(match L2.atI l _ with|some t=>Rs.ok t|none=>.bad)=_;rw[ke e]
def rE(h:fa Z=.ok (.tup l))(h2:fb Z=.ok (.int (n:Int)))(e:l[n]?=ZA t):o2 aW fa fb Z=.ok t:=aD h h2 (gw e)
def HG(h:fa Z=.ok (.lst l))(h2:fb Z=.ok (.int (n:Int)))(e:l[n]?=ZA t):o2 aW fa fb Z=.ok t:=aD h h2 (yA e)
def wK{fl fu:En->Rs (Option Int)}(h:fe Z=.ok (.tup l))(h1:fl Z=.ok lo)(h2:fu Z=.ok hi):sl fe fl fu Z=.ok (.tup (om l lo hi)):=by unfold sl;rw[h,h1,h2];rfl
def wJ{fl fu:En->Rs (Option Int)}(h:fe Z=.ok (.lst l))(h1:fl Z=.ok lo)(h2:fu Z=.ok hi):sl fe fl fu Z=.ok (.lst (om l lo hi)):=by unfold sl;rw[h,h1,h2];rfl
def qC{i:Int}(h:f Z=.ok (.int i)):pS f Z=.ok (ZA i):=by unfold pS;rw[h];rfl
theorem fN(l:List T)(n:Nat):om l ZB (ZA (n:Int))=l.take n:=by unfold om;rw[HT.sIx_none,HT.sIx_nat,List.drop_zero,SI,List.take_eq_take_iff];omega
theorem mx(l:List T)(n:Nat):om l (ZA (n:Int)) ZB=l.drop n:=by
 unfold om;rw[HT.sIx_none,HT.sIx_nat];by_cases h:n<=l.length
 .rw[Nat.min_eq_left h];exact Sr (by rw[QH];omega)
 .rw[Nat.min_eq_right (by omega),QZ (Oq _),QZ (by omega),List.take_nil]
def Dz{ms:List (List T->Rs T)}{g:List T->Rs T}(h0:f Z=.ok (.int (i:Nat)))(hm:ms[i]?=ZA g)(hf:fs Z=.ok ts)(hx:g ts=x):AD ms f fs Z=x:=by unfold AD;rw[h0,aG];simp only[ke hm];rw[hf];exact hx
def JZ{o:OT}(hi:Z[i]?=ZA (.ow o))(h:f (disown i Z)=.ok t)(hk:t.nk o.isD=ZC):ln i f Z=.ok t:=by unfold ln;rw[hi];simp only[h,aG,hk,if_true]
def L3(h:b (disown i Z)=.ok k):JK i b Z=.ok k:=h
def DG{x:Rs Fl}(h:F (disown i Z)=x):nX i F Z=x:=h
end
def mk2(a b:T):la [a,b]=.ok (.tup [a,b]):=by unfold la;rw[if_pos (aB (k:=1000) (by simp only[Oh,UH];omega))]
theorem lT(n:Nat):(rng 0 n).length=n:=by unfold rng;rw[N9,OR];omega
end Tr
variable{M k:Nat}{m s:Int}{w:List Nat}
namespace Gr
variable {ν:Type}[DecidableEq ν]
abbrev bS(ν:Type):=List (ν×ν×Int)
inductive Wk (L:bS ν):ν->ν->Int->Prop
 |nil (a:ν):Wk L a a 0
 |step {a b c:ν} {m s:Int}:(a,b,m)∈L->Wk L b c s->Wk L a c (m+s)
def Wk.one{L:bS ν}{a b:ν}(h:(a,b,m)∈L):Wk L a b m:=by have:=Wk.step h (Wk.nil b);rwa [Int.add_zero]at this
def Wk.app{L:bS ν}{a b c:ν}{t:Int}(h:Wk L a b s)(k:Wk L b c t):Wk L a c (s+t):=by
 induction h with
 |nil a=>rwa [Int.zero_add]
 |step e _ ih=>rw[Int.add_assoc];exact .step e (ih k)
def Wk.mono{L M:bS ν}(h:∀x∈L,x∈M){a b:ν}(w:Wk L a b s):Wk M a b s:=by
 induction w with
 |nil a=>exact .nil a
 |step e _ ih=>exact .step (h _ e) ih
def Holds(L:bS ν)(t:ν->Int):Prop:=∀a b m,(a,b,m)∈L->t b - t a<=m
theorem Holds.walk{L:bS ν}{t:ν->Int}(h:Holds L t){a b:ν}(w:Wk L a b s):t b - t a<=s:=by
 induction w with
 |nil a=>omega
 |step e _ ih=>have:=h _ _ _ e;omega
def NoNeg(L:bS ν):Prop:=∀a s,Wk L a a s->0<=s
theorem Holds.Nn{L:bS ν}{t:ν->Int}(h:Holds L t):NoNeg L:=λa s w=>by have:=h.walk w;omega
theorem NoNeg.mono{L M:bS ν}(h:∀x∈L,x∈M)(n:NoNeg M):NoNeg L:=λa s w=>n a s (w.mono h)
def Ch(L:bS ν):ν->List Nat->ν->Prop
 |a,[],b=>a=b
 |a,k::r,b=>∃c m,L[k]?=ZA (a,c,m)/\Ch L c r b
noncomputable def most(L:bS ν)(k:Nat):Int:=match L[k]? with
 |some x=>x.2.2
 |none=>0
noncomputable def fU(L:bS ν):List Nat->Int
 |[] =>0
 |k::r=>most L k+fU L r
theorem my(L:bS ν):∀(p q:List Nat),fU L (p++q)=fU L p+fU L q
 |[],q=>by simp[fU]
 |k::p,q=>by rw[WL,fU,fU,my L p q];omega
theorem Ch.wk{L:bS ν}:∀{ks:List Nat}{a b:ν},Ch L a ks b->Wk L a b (fU L ks)
 |[],a,b,h=>by cases h;exact .nil a
 |k::r,a,b,⟨c,m,e,h⟩=>by
  have:fU L (k::r)=m+fU L r:=by rw[fU,most,e]
  rw[this];exact .step (Pw e) h.wk
theorem Ch.app{L:bS ν}:∀{p q:List Nat}{a b c:ν},Ch L a p b->Ch L b q c->Ch L a (p++q) c
 |[],q,a,b,c,h,k=>by cases h;exact k
 |x::p,q,a,b,c,⟨d,m,e,h⟩,k=>⟨d,m,e,Ch.app h k⟩
theorem Ch.lt{L:bS ν}:∀{ks:List Nat}{a b:ν},Ch L a ks b->∀k∈ks,k<L.length
 |[],_,_,_,k,hk=>by simp at hk
 |x::r,a,b,⟨c,m,e,h⟩,k,hk=>by
  rcases Oe.mp hk with rfl|hk
  .exact(Og.mp e).1
  .exact h.lt k hk
def Ch.snoc{L:bS ν}{p:List Nat}{a b c:ν}(h:Ch L a p b)(e:L[k]?=ZA (b,c,m)):Ch L a (p++[k]) c:=h.app ⟨c,m,e,rfl⟩
noncomputable def src(L:bS ν)(k:Nat):Option ν:=(L[k]?).map (·.1)
abbrev cS(ν:Type):=ν->Option (Int×List Nat)
noncomputable def put(b:cS ν)(v:ν)(x:Int×List Nat):cS ν:=λu=>if u=v then ZA x else b u
variable{x:Int×List Nat}
def fE{b:cS ν}{v:ν}:put b v x v=ZA x:=by unfold put;rw[if_pos rfl]
def lr{b:cS ν}{u v:ν}(h:u≠v):put b v x u=b u:=by unfold put;rw[if_neg h]
noncomputable def gp(L:bS ν)(ks:List Nat):List ν:=ks.filterMap (src L)
noncomputable def fP(b:cS ν)(v:ν)(d:Int):Bool:=match b v with
 |none=>ZC
 |some x=>decide (d<x.1)
noncomputable def iZ(L:bS ν)(b:cS ν)(k:Nat)(x:ν×ν×Int):Sum (Option (cS ν)) (List Nat):=match b x.1 with
 |none=>.inl ZB
 |some (d,w)=>if fP b x.2.1 (d+x.2.2)=ZC then
   if x.2.1∈gp L (w++[k])then .inr ((w++[k]).drop ((gp L (w++[k])).idxOf x.2.1))else .inl (ZA (put b x.2.1 (d+x.2.2,w++[k])))
  else .inl ZB
noncomputable def jy(L:bS ν):Nat->bS ν->cS ν->Bool->Sum (cS ν×Bool) (List Nat)
 |_,[],b,mv=>.inl (b,mv)
 |k,x::r,b,mv=>match iZ L b k x with
  |.inr q=>.inr q
  |.inl ZB=>jy L (k+1) r b mv
  |.inl (ZA b')=>jy L (k+1) r b' ZC
noncomputable def settle(L:bS ν):Nat->cS ν->Option (Sum (cS ν) (List Nat))
 |0,_=>ZB
 |n+1,b=>match jy L 0 L b ZD with
  |.inr q=>ZA (.inr q)
  |.inl (b',ZC)=>settle L n b'
  |.inl (b',ZD)=>ZA (.inl b')
def ub(L:bS ν)(p q:List Nat):gp L (p++q)=gp L p++gp L q:=by unfold gp;rw[List.filterMap_append]
def ua{L:bS ν}{x:ν×ν×Int}(e:L[k]?=ZA x):gp L [k]=[x.1]:=by unfold gp src;simp[e]
def Ch.MY{L:bS ν}{r:List Nat}{a b:ν}(h:Ch L a (k::r) b):gp L (k::r)=a::gp L r:=by obtain⟨c,m,e,_⟩:=h;rw[show k::r=[k] ++r from rfl,ub,ua e];rfl
theorem Ch.cut{L:bS ν}{v:ν}:∀{ks:List Nat}{a b:ν},Ch L a ks b->v∈gp L ks->Ch L a (ks.take ((gp L ks).idxOf v)) v/\Ch L v (ks.drop ((gp L ks).idxOf v)) b/\(gp L ks).idxOf v<ks.length
 |[],a,b,_,hv=>by simp[gp]at hv
 |k::r,a,b,h,hv=>by
  rw[h.MY]at hv ⊢;have h0:=h;obtain⟨c,m,e,h⟩:=h;by_cases z:a=v
  .subst z;rw[List.idxOf_cons_self];exact⟨rfl,h0,by simp⟩
  .have hv':v∈gp L r:=by
    rcases Oe.mp hv with q|q
    .exact absurd q.symm z
    .exact q
   obtain⟨h1,h2,h3⟩:=h.cut hv';have ei:(a::gp L r).idxOf v=(gp L r).idxOf v+1:=by
    rw[Xe];have:(a == v)=ZD:=by rw[beq_eq_false_iff_ne];exact z
    rw[this];rfl
   rw[ei];exact⟨⟨c,m,e,h1⟩,h2,by simpa using h3⟩
structure Kept (L:bS ν)(S:List ν)(b:cS ν):Prop where
 walk:∀v d w,b v=ZA (d,w)->∃s∈S,Ch L s w v/\fU L w=d/\v∉gp L w/\(gp L w).Nodup/\∀p q u,w=p++q->Ch L s p u->∃d' w',b u=ZA (d',w')/\d'<=fU L p
 start:∀s∈S,∃d w,b s=ZA (d,w)/\d<=0
theorem Kept.put{L:bS ν}{S:List ν}{b:cS ν}(K:Kept L S b){a c:ν}(e:L[k]?=ZA (a,c,m))(ha:b a=ZA (d,w))(hb:fP b c (d+m)=ZC)(hn:c∉gp L (w++[k])):
  Kept L S (put b c (d+m,w++[k])):=by
 have low:∀u d' w',b u=ZA (d',w')->∃d'' w'',Gr.put b c (d+m,w++[k]) u=ZA (d'',w'')/\d''<=d':=λu d' w' h=>by
  by_cases z:u=c
  .subst z;refine⟨_,_,fE,?_⟩;unfold fP at hb;rw[h]at hb;have:=of_decide_eq_true hb;omega
  .exact⟨d',w',by rw[lr z];exact h,P8 _⟩
 obtain⟨s,hs,h1,h2,h3,h4,h5⟩:=K.walk a d w ha;have hch:Ch L s (w++[k]) c:=h1.snoc e;have hcost:fU L (w++[k])=d+m:=by rw[my,h2,fU,fU,most,e];simp
 refine⟨λv d' w' h=>?_,λs' hs'=>?_⟩
 .by_cases z:v=c
  .subst z;rw[fE]at h;cases h;refine⟨s,hs,hch,hcost,hn,?_,λp q u hpq hp=>?_⟩
   .rw[ub,ua e];exact PQ.mpr ⟨h4,by simp,λx hx y hy=>by simp at hy;subst hy;exact λz=>h3 (z▸hx)⟩
   .by_cases hq:q=[]
    .subst hq;rw[Px]at hpq;subst hpq;have:u=v:=by
      clear low hb hn h5;have aux:∀{ks:List Nat}{x y z:ν},Ch L x ks y->Ch L x ks z->y=z:=by
       intro ks;induction ks with
       |nil=>intro x y z h1 h2;cases h1;cases h2;rfl
       |cons k r ih=>
        rintro x y z ⟨c1,m1,e1,r1⟩ ⟨c2,m2,e2,r2⟩;rw[e1]at e2;cases e2;exact ih r1 r2
      exact aux hp hch
     subst this;exact⟨_,_,fE,by rw[hcost];exact P8 _⟩
    .have hw:∃q',w=p++q':=by refine⟨q.dropLast,?_⟩;have:=congrArg List.dropLast hpq;rw[List.dropLast_concat,List.dropLast_append_of_ne_nil hq]at this;exact this
     obtain⟨q',hw⟩:=hw;obtain⟨d1,w1,e1,l1⟩:=h5 p q' u hw hp;obtain⟨d2,w2,e2,l2⟩:=low u d1 w1 e1;exact⟨d2,w2,e2,by omega⟩
  .rw[lr z]at h;obtain⟨s',hs',g1,g2,g3,g4,g5⟩:=K.walk v d' w' h;refine⟨s',hs',g1,g2,g3,g4,λp q u hpq hp=>?_⟩;obtain⟨d1,w1,e1,l1⟩:=g5 p q u hpq hp;obtain⟨d2,w2,e2,l2⟩:=low u d1 w1 e1;exact⟨d2,w2,e2,by omega⟩
 .obtain⟨d1,w1,e1,l1⟩:=K.start s' hs';obtain⟨d2,w2,e2,l2⟩:=low s' d1 w1 e1;exact⟨d2,w2,e2,by omega⟩
def Bar(L:bS ν)(q:List Nat):Prop:=q≠ []/\(∃a,Ch L a q a)/\fU L q<0/\(gp L q).Nodup
theorem Ch.Nb{L:bS ν}:∀{ks:List Nat}{a b:ν}(i:Nat),Ch L a ks b->gp L (ks.drop i)=(gp L ks).drop i
 |[],_,_,i,_=>by simp[gp]
 |k::r,a,b,0,_=>rfl
 |k::r,a,b,i+1,h=>by have:=h;obtain⟨c,m,e,h'⟩:=this;rw[h.MY,Vl,Vl,h'.Nb i]
theorem Kept.round{L:bS ν}{S:List ν}{b:cS ν}(K:Kept L S b){a c:ν}(e:L[k]?=ZA (a,c,m))(ha:b a=ZA (d,w))(hb:fP b c (d+m)=ZC)(hn:c∈gp L (w++[k])):
  Bar L ((w++[k]).drop ((gp L (w++[k])).idxOf c)):=by
 obtain⟨s,hs,h1,h2,h3,h4,h5⟩:=K.walk a d w ha;have hch:Ch L s (w++[k]) c:=h1.snoc e;have hcost:fU L (w++[k])=d+m:=by rw[my,h2,fU,fU,most,e];simp
 obtain⟨c1,c2,c3⟩:=hch.cut hn;generalize hi:(gp L (w++[k])).idxOf c=i at c1 c2 c3;refine⟨λz=>?_,⟨c,c2⟩,?_,?_⟩
 .have:=congrArg Py z;rw[QH]at this;simp at this c3;omega
 .have hsum:fU L ((w++[k]).take i)+fU L ((w++[k]).drop i)=d+m:=by rw[<-my,SL,hcost]
  have hiw:i<=w.length:=by simp at c3;omega
  have ht:(w++[k]).take i=w.take i:=by rw[List.take_append_of_le_length hiw]
  rw[ht]at c1 hsum;obtain⟨d1,w1,e1,l1⟩:=h5 (w.take i) (w.drop i) c (SL i w).symm c1;unfold fP at hb;rw[e1]at hb;have:=of_decide_eq_true hb;simp only at this;omega
 .rw[hch.Nb,ub,ua e];refine(List.drop_sublist _ _).nodup (PQ.mpr ⟨h4,by simp,λx hx y hy=>?_⟩);rw[Ox.mp hy];exact λz=>h3 (by have z:x=a:=z;rw[<-z];exact hx)
def size(L:bS ν):Nat:=(L.map λx=>x.2.2.natAbs).sum
theorem k4{f:Nat->Nat}:∀{ks rs:List Nat},ks.Nodup->(∀k∈ks,k∈rs)->(ks.map f).sum<=(rs.map f).sum
 |[],rs,_,_=>by simp
 |k::ks,rs,hn,hs=>by
  have hk:k∈rs:=hs k Ob;rw[OV]at hn;have hp:=List.perm_cons_erase hk;have e:(rs.map f).sum=f k+((rs.erase k).map f).sum:=by have:=(hp.map f).sum_nat;rwa [Oa,QL]at this
  rw[e,Oa,QL];have:=k4 (f:=f) hn.2 λj hj=>by have h1:=hs j (N6 _ hj);exact(U6 (λ(z:j=k)=>hn.1 (z▸hj))).mpr h1
  omega
def xP(L:bS ν):size L=((Oj L.length).map λk=>(most L k).natAbs).sum:=by
 unfold size;congr 1;apply RZ
 .simp
 .intro i h1 h2;simp only[Rr,Tx];unfold most;rw[Od (by simpa using h1)]
theorem Ak(L:bS ν):∀(ks:List Nat),(fU L ks).natAbs<=(ks.map λk=>(most L k).natAbs).sum
 |[] =>by simp[fU]
 |k::r=>by have:=Ak L r;rw[fU,Oa,QL];omega
theorem Ch.nodup{L:bS ν}:∀{ks:List Nat}{a b:ν},Ch L a ks b->(gp L ks).Nodup->ks.Nodup
 |[],_,_,_,_=>Ra
 |k::r,a,b,h,hn=>by have h0:=h;rw[h.MY,OV]at hn;obtain⟨c,m,e,h⟩:=h;rw[OV];refine⟨λhk=>hn.1 ?_,h.nodup hn.2⟩;unfold gp src;exact Tu.mpr ⟨k,hk,by rw[e];rfl⟩
def Ch.small{L:bS ν}{a b:ν}(h:Ch L a ks b)(hn:(gp L ks).Nodup):(fU L ks).natAbs<=size L:=by rw[xP];exact OG (Ak L ks) (k4 (h.nodup hn) λk hk=>OZ.mpr (h.lt k hk))
noncomputable def val(M:Nat)(b:cS ν)(v:ν):Nat:=match b v with
 |none=>2*M+1
 |some x=>(x.1+M).toNat
def left(M:Nat)(b:cS ν)(L:bS ν):Nat:=(L.map λx=>val M b x.2.1).sum
theorem zP{b b':cS ν}:∀{L:bS ν},(∀x∈L,val M b' x.2.1<=val M b x.2.1)->left M b' L<=left M b L
 |[],_=>by simp[left]
 |x::L,h=>by have h1:=h x Ob;have h2:=zP λy hy=>h y (N6 _ hy);unfold left at h2 ⊢;rw[Oa,QL,Oa,QL];omega
theorem zO{b b':cS ν}{x:ν×ν×Int}:∀{L:bS ν},x∈L->(∀x∈L,val M b' x.2.1<=val M b x.2.1)->val M b' x.2.1<val M b x.2.1->left M b' L<left M b L
 |[],hx,_,_=>by simp at hx
 |y::L,hx,h,hl=>by
  have h1:=h y Ob;have h2:=zP λy hy=>h y (N6 _ hy);unfold left at h2 ⊢;rw[Oa,QL,Oa,QL];rcases Oe.mp hx with rfl|hx
  .omega
  .have h3:=zO hx (λy hy=>h y (N6 _ hy)) hl;unfold left at h3;omega
theorem Dj{L:bS ν}{S:List ν}{b:cS ν}(K:Kept L S b){a c:ν}(e:L[k]?=ZA (a,c,m))(ha:b a=ZA (d,w))(hb:fP b c (d+m)=ZC)(hn:c∉gp L (w++[k])):
  left (size L) (put b c (d+m,w++[k])) L<left (size L) b L:=by
 have K':=K.put e ha hb hn;obtain⟨s,hs,h1,h2,h3,h4,h5⟩:=K'.walk c (d+m) (w++[k]) fE;have sm:=h1.small h4;rw[h2]at sm;have lt:val (size L) (put b c (d+m,w++[k])) c<val (size L) b c:=by
  unfold val fP at*;rw[fE];cases z:b c with
  |none=>simp only;omega
  |some y=>
   rw[z]at hb;have hb:=of_decide_eq_true hb;simp only;omega
 refine zO (Pw e) (λy _=>?_) lt;by_cases z:y.2.1=c
 .rw[z];exact P9 lt
 .unfold val;rw[lr z];exact Oq _
def EG(b:cS ν)(x:ν×ν×Int):Prop:=∀d w,b x.1=ZA (d,w)->∃d' w',b x.2.1=ZA (d',w')/\d'<=d+x.2.2
theorem B2{b:cS ν}{x:ν×ν×Int}(h:∀d w,b x.1=ZA (d,w)->fP b x.2.1 (d+x.2.2)=ZD):EG b x:=λd w e=>by
 have:=h d w e;unfold fP at this;cases z:b x.2.1 with
 |none=>rw[z]at this;cases this
 |some y=>
  rw[z]at this;have:=of_decide_eq_false this;exact⟨y.1,y.2,rfl,by omega⟩
theorem jI{L:bS ν}{S:List ν}:∀(r:bS ν)(k:Nat)(b:cS ν)(mv:Bool),L.drop k=r->Kept L S b->match jy L k r b mv with
  |.inr q=>Bar L q
  |.inl (b',mv')=>Kept L S b'/\(mv'=ZD->mv=ZD/\b'=b/\∀x∈r,EG b x)/\left (size L) b' L<=left (size L) b L/\(mv'=ZC->mv=ZC\/left (size L) b' L<left (size L) b L)
 |[],k,b,mv,_,K=>⟨K,λh=>⟨h,rfl,λx hx=>by simp at hx⟩,Oq _,λh=>.inl h⟩
 |x::r,k,b,mv,hr,K=>by
  have e:L[k]?=ZA x:=by have:=congrArg (·[0]?) hr;simpa using this
  have hr':L.drop (k+1)=r:=by have:=congrArg (List.drop 1) hr;simpa [List.drop_drop,Wo]using this
  rw[jy];obtain⟨a,c,m⟩:=x;unfold iZ;cases z:b a with
  |none=>
   simp only[z];have ih:=jI r (k+1) b mv hr' K;revert ih;generalize jy L (k+1) r b mv=R;cases R with
   |inr q=>exact id
   |inl p=>
    obtain⟨b',mv'⟩:=p;rintro ⟨i1,i2,i3,i4⟩;refine⟨i1,λh=>?_,i3,i4⟩;obtain⟨j1,j2,j3⟩:=i2 h;refine⟨j1,j2,λx hx=>?_⟩;rcases Oe.mp hx with rfl|hx
    .intro d w q;rw[z]at q;cases q
    .exact j3 x hx
  |some y=>
   obtain⟨d,w⟩:=y;simp only[z];by_cases hb:fP b c (d+m)=ZC
   .rw[if_pos hb];by_cases hn:c∈gp L (w++[k])
    .rw[if_pos hn];exact K.round e z hb hn
    .rw[if_neg hn];have K':=K.put e z hb hn;have lt:=Dj K e z hb hn;have ih:=jI r (k+1) (put b c (d+m,w++[k])) ZC hr' K';revert ih;simp only;generalize jy L (k+1) r (put b c (d+m,w++[k])) ZC=R;cases R with
     |inr q=>exact id
     |inl p=>
      obtain⟨b',mv'⟩:=p;rintro ⟨i1,i2,i3,i4⟩;refine⟨i1,λh=>?_,by omega,λ_=>.inr (by omega)⟩;obtain⟨j1,_⟩:=i2 h;cases j1
   .rw[if_neg hb];have ih:=jI r (k+1) b mv hr' K;revert ih;simp only;generalize jy L (k+1) r b mv=R;cases R with
    |inr q=>exact id
    |inl p=>
     obtain⟨b',mv'⟩:=p;rintro ⟨i1,i2,i3,i4⟩;refine⟨i1,λh=>?_,i3,i4⟩;obtain⟨j1,j2,j3⟩:=i2 h;refine⟨j1,j2,λx hx=>?_⟩;rcases Oe.mp hx with rfl|hx
     .refine B2 λd' w' q=>?_;simp only at q;rw[z]at q;cases q;simpa using hb
     .exact j3 x hx
structure Settled (L:bS ν)(S:List ν)(b:cS ν):Prop where
 walk:∀v d w,b v=ZA (d,w)->∃s∈S,Ch L s w v/\fU L w=d/\v∉gp L w/\(gp L w).Nodup
 least:∀s∈S,∀v t,Wk L s v t->∃d w,b v=ZA (d,w)/\d<=t
theorem xQ{L:bS ν}{S:List ν}{b:cS ν}(K:Kept L S b)(h:∀x∈L,EG b x):Settled L S b where
 walk:=λv d w e=>by obtain⟨s,h1,h2,h3,h4,h5,_⟩:=K.walk v d w e;exact⟨s,h1,h2,h3,h4,h5⟩
 least:=by
  have go:∀{u v:ν}{t:Int},Wk L u v t->∀d w,b u=ZA (d,w)->∃d' w',b v=ZA (d',w')/\d'<=d+t:=by
   intro u v t hw;induction hw with
   |nil a=>exact λd w e=>⟨d,w,e,by omega⟩
   |step e _ ih=>
    intro d w q;obtain⟨d1,w1,e1,l1⟩:=h _ e d w q;obtain⟨d2,w2,e2,l2⟩:=ih d1 w1 e1;exact⟨d2,w2,e2,by simp only at l1;omega⟩
  intro s hs v t hw;obtain⟨d,w,e,l⟩:=K.start s hs;obtain⟨d2,w2,e2,l2⟩:=go hw d w e;exact⟨d2,w2,e2,by omega⟩
theorem rR{L:bS ν}{S:List ν}:∀(n:Nat)(b:cS ν),Kept L S b->left (size L) b L<n->∃r,settle L n b=ZA r/\match r with
  |.inr q=>Bar L q
  |.inl b'=>Settled L S b'
 |0,b,K,h=>by omega
 |n+1,b,K,h=>by
  have s:=jI L 0 b ZD rfl K;rw[settle];revert s;generalize jy L 0 L b ZD=R;cases R with
  |inr q=>exact λs=>⟨_,rfl,s⟩
  |inl p=>
   obtain⟨b',mv'⟩:=p;rintro ⟨i1,i2,i3,i4⟩;cases mv' with
   |false=>
    obtain⟨_,j2,j3⟩:=i2 rfl;subst j2;exact⟨_,rfl,xQ i1 j3⟩
   |true=>
    rcases i4 rfl with z|z
    .cases z
    .exact rR n b' i1 (by omega)
noncomputable def start(S:List ν):cS ν:=λv=>if v∈S then ZA (0,[])else ZB
def qy(L:bS ν)(S:List ν):Kept L S (start S) where
 walk:=λv d w e=>by
  unfold start at e;split at e
  .rename_i h;cases e;refine⟨v,h,rfl,rfl,by simp[gp],by simp[gp],λp q u hpq hp=>?_⟩;obtain⟨rfl,rfl⟩:=List.append_eq_nil_iff.mp hpq.symm;cases hp;exact⟨0,[],by unfold start;rw[if_pos h],by simp[fU]⟩
  .cases e
 start:=λs hs=>⟨0,[],by unfold start;rw[if_pos hs],P8 _⟩
theorem Dk(L:bS ν)(S:List ν):left (size L) (start S) L<=L.length*(2*size L+1):=by
 unfold left;have:∀M:bS ν,(M.map λx=>val (size L) (start S) x.2.1).sum<=M.length*(2*size L+1):=by
  intro M;induction M with
  |nil=>simp
  |cons x M ih=>
   rw[Oa,QL,Oh,Nat.succ_mul];have:val (size L) (start S) x.2.1<=2*size L+1:=by
    unfold val start;split
    .exact Oq _
    .rename_i h;split at h
     .cases h;simp;omega
     .cases h
   omega
 exact this L
theorem xR(L:bS ν)(S:List ν)(h:L.length*(2*size L+1)<n):∃r,settle L n (start S)=ZA r/\match r with
  |.inr q=>Bar L q
  |.inl b'=>Settled L S b':=rR n (start S) (qy L S) (Ry (Dk L S) h)
def Bar.neg{L:bS ν}{q:List Nat}(h:Bar L q):¬ NoNeg L:=λn=>by obtain⟨_,⟨a,ha⟩,hc,_⟩:=h;have:=n a _ ha.wk;omega
theorem Settled.holds{L:bS ν}{S:List ν}{b:cS ν}(h:Settled L S b)(hS:∀x∈L,x.1∈S/\x.2.1∈S){t:ν->Int}(ht:∀v∈S,∃w,b v=ZA (t v,w)):Holds L t:=λa c m hx=>by obtain⟨ha,hc⟩:=hS _ hx;obtain⟨w,e⟩:=ht a ha;obtain⟨s,hs,h1,h2,_⟩:=h.walk a _ _ e;obtain⟨d,w',e',l⟩:=h.least s hs c _ (h1.wk.app (.one hx));obtain⟨w2,e2⟩:=ht c hc;rw[e2]at e';cases e';omega
inductive Pth (L:bS ν):ν->List ν->ν->Int->Prop
 |one {a b:ν} {m:Int}:(a,b,m)∈L->Pth L a [] b m
 |cons {a x b:ν} {ms:List ν} {m s:Int}:(a,x,m)∈L->Pth L x ms b s->Pth L a (x::ms) b (m+s)
theorem Pth.cut{L:bS ν}{x:ν}{q:List ν}:∀{p:List ν}{a b:ν}{s:Int},Pth L a (p++x::q) b s->∃s1 s2,Pth L a p x s1/\Pth L x q b s2/\s=s1+s2
 |[],a,b,s,h=>by
  cases h with
  |cons e h=>exact⟨_,_,.one e,h,rfl⟩
 |y::p,a,b,s,h=>by
  cases h with
  |cons e h=>
   obtain⟨s1,s2,h1,h2,h3⟩:=Pth.cut h;exact⟨_,s2,.cons e h1,h2,by omega⟩
def Ky(L:bS ν)(u v:ν)(s:Int):Prop:=(u=v/\s=0)\/(u≠v/\∃ms,Pth L u ms v s/\ms.Nodup/\u∉ms/\v∉ms)
def EJ(L:bS ν):Prop:=∃x ms s,Pth L x ms x s/\ms.Nodup/\x∉ms/\s<0
theorem Wk.simple{L:bS ν}{u v:ν}(w:Wk L u v s):EJ L\/∃s',s'<=s/\Ky L u v s':=by
 induction w with
 |nil a=>exact .inr ⟨0,P8 _,.inl ⟨rfl,rfl⟩⟩
 |@step a b c m s e w ih=>
  rcases ih with ih|⟨s',hs,ih⟩
  .exact .inl ih
  by_cases hab:a=b
  .subst hab;by_cases hm:m<0
   .exact .inl ⟨a,[],m,.one e,Ra,by simp,hm⟩
   .exact .inr ⟨s',by omega,ih⟩
  rcases ih with⟨rfl,rfl⟩|⟨hbc,ms,hp,hn,hb,hc⟩
  .exact .inr ⟨m,by omega,.inr ⟨hab,[],.one e,Ra,by simp,by simp⟩⟩
  by_cases hac:a=c
  .subst hac;by_cases hm:m+s'<0
   .exact .inl ⟨a,b::ms,m+s',.cons e hp,OV.mpr ⟨hb,hn⟩,by simp[hab,hc],hm⟩
   .exact .inr ⟨0,by omega,.inl ⟨rfl,rfl⟩⟩
  by_cases ham:a∈ms
  .obtain⟨p,q,rfl⟩:=VG ham;obtain⟨s1,s2,h1,h2,h3⟩:=hp.cut;rw[PQ]at hn;obtain⟨n1,n2,n3⟩:=hn;rw[OV]at n2;have hap:a∉p:=λz=>n3 a z a Ob rfl;by_cases hm:m+s1<0
   .refine .inl ⟨a,b::p,m+s1,.cons e h1,OV.mpr ⟨λz=>hb (O6 _ z),n1⟩,by simp[hab,hap],hm⟩
   .exact .inr ⟨s2,by omega,.inr ⟨hac,q,h2,n2.2,n2.1,λz=>hc (OI _ (N6 _ z))⟩⟩
  .refine .inr ⟨m+s',by omega,.inr ⟨hac,b::ms,.cons e hp,OV.mpr ⟨hb,hn⟩,by simp[hab,ham],?_⟩⟩;simp only[Oe,not_or];exact⟨λz=>hbc z.symm,hc⟩
abbrev dG(ν:Type):=ν->ν->Option Int
noncomputable def jZ(f:dG ν)(a b:ν)(x:Int):dG ν:=λu v=>if u=a/\v=b then ZA x else f u v
noncomputable def og(f:dG ν)(a b:ν)(x:Int):dG ν:=match f a b with
 |none=>jZ f a b x
 |some y=>if x<y then jZ f a b x else f
noncomputable def ml(mid one other:ν)(f:dG ν):dG ν:=match f one mid,f mid other with
 |some x,ZA y=>og f one other (x+y)
 |_,_=>f
noncomputable def vo(P:List ν):dG ν:=λu v=>if u∈P/\u=v then ZA 0 else ZB
noncomputable def BW(P:List ν)(L:bS ν):dG ν:=L.foldl (λf x=>og f x.1 x.2.1 x.2.2) (vo P)
noncomputable def mm(mid one:ν)(P:List ν)(f:dG ν):dG ν:=P.foldl (λf other=>ml mid one other f) f
noncomputable def qG(mid:ν)(Q P:List ν)(f:dG ν):dG ν:=Q.foldl (λf one=>mm mid one P f) f
noncomputable def wU(M P:List ν)(f:dG ν):dG ν:=M.foldl (λf mid=>qG mid P P f) f
noncomputable def table(P:List ν)(L:bS ν):dG ν:=wU P P (BW P L)
def Le(f g:dG ν):Prop:=∀u v x,g u v=ZA x->∃y,f u v=ZA y/\y<=x
def Le.refl(f:dG ν):Le f f:=λu v x h=>⟨x,h,P8 _⟩
theorem Le.trans{f g h:dG ν}(a:Le f g)(b:Le g h):Le f h:=λu v x e=>by obtain⟨y,e1,l1⟩:=b u v x e;obtain⟨z,e2,l2⟩:=a u v y e1;exact⟨z,e2,by omega⟩
variable{x:Int}
def nh{f:dG ν}{a b:ν}:jZ f a b x a b=ZA x:=by unfold jZ;rw[if_pos ⟨rfl,rfl⟩]
theorem uM(f:dG ν)(a b:ν)(x:Int):Le (og f a b x) f:=λu v y e=>by
 unfold og;cases q:f a b with
 |none=>
  by_cases z:u=a/\v=b
  .obtain⟨rfl,rfl⟩:=z;rw[q]at e;cases e
  .exact⟨y,by simp only;unfold jZ;rw[if_neg z];exact e,P8 _⟩
 |some y0=>
  simp only;split
  .by_cases z:u=a/\v=b
   .obtain⟨rfl,rfl⟩:=z;rw[q]at e;cases e;exact⟨x,nh,by omega⟩
   .exact⟨y,by unfold jZ;rw[if_neg z];exact e,P8 _⟩
  .exact⟨y,e,P8 _⟩
theorem Ad(f:dG ν)(a b:ν)(x:Int):∃y,og f a b x a b=ZA y/\y<=x:=by
 unfold og;cases q:f a b with
 |none=>exact⟨x,nh,P8 _⟩
 |some y0=>
  simp only;split
  .exact⟨x,nh,P8 _⟩
  .exact⟨y0,q,by omega⟩
def qI{L:bS ν}{f:dG ν}{a b:ν}(h:∀u v y,f u v=ZA y->Wk L u v y)(hx:Wk L a b x):∀u v y,og f a b x u v=ZA y->Wk L u v y:=λu v y e=>by
 have key:jZ f a b x u v=ZA y->Wk L u v y:=λe'=>by
  unfold jZ at e';by_cases z:u=a/\v=b
  .rw[if_pos z]at e';injection e' with e';rw[z.1,z.2,<-e'];exact hx
  .rw[if_neg z]at e';exact h u v y e'
 unfold og at e;cases q:f a b with
 |none=>rw[q]at e;exact key e
 |some y0=>
  rw[q]at e;simp only at e;split at e
  .exact key e
  .exact h u v y e
def wQ(mid one other:ν)(f:dG ν):Le (ml mid one other f) f:=by
 unfold ml;split
 .exact uM _ _ _ _
 .exact Le.refl f
def DW{mid one other:ν}{f:dG ν}(h1:f one mid=ZA x)(h2:f mid other=ZA y):∃z,ml mid one other f one other=ZA z/\z<=x+y:=by unfold ml;rw[h1,h2];exact Ad _ _ _ _
theorem kK(step:dG ν->α->dG ν)(hs:∀f a,Le (step f a) f):∀(l:List α)(f:dG ν),Le (l.foldl step f) f
 |[],f=>Le.refl f
 |a::l,f=>(kK step hs l (step f a)).trans (hs f a)
def qF(mid one:ν)(P:List ν)(f:dG ν):Le (mm mid one P f) f:=kK _ (λf o=>wQ mid one o f) P f
def wR(mid:ν)(Q P:List ν)(f:dG ν):Le (qG mid Q P f) f:=kK _ (λf o=>qF mid o P f) Q f
def D5(M P:List ν)(f:dG ν):Le (wU M P f) f:=kK _ (λf o=>wR o P P f) M f
theorem oN(step:dG ν->α->dG ν)(hs:∀f a,Le (step f a) f):∀(l:List α)(f:dG ν)(a:α),a∈l->∃g,Le g f/\Le (l.foldl step f) (step g a)
 |[],f,a,h=>by simp at h
 |b::l,f,a,h=>by
  rcases Oe.mp h with rfl|h
  .exact⟨f,Le.refl f,kK step hs l (step f a)⟩
  .obtain⟨g,h1,h2⟩:=oN step hs l (step f b) a h;exact⟨g,h1.trans (hs f b),h2⟩
theorem D2{mid u v:ν}{P:List ν}{f:dG ν}(hu:u∈P)(hv:v∈P)(h1:f u mid=ZA x)(h2:f mid v=ZA y):∃z,qG mid P P f u v=ZA z/\z<=x+y:=by obtain⟨g,g1,g2⟩:=oN (λf one=>mm mid one P f) (λf o=>qF mid o P f) P f u hu;obtain⟨g',g3,g4⟩:=oN (λf other=>ml mid u other f) (λf o=>wQ mid u o f) P g v hv;have l:Le g' f:=g3.trans g1;obtain⟨x',e1,l1⟩:=l _ _ _ h1;obtain⟨y',e2,l2⟩:=l _ _ _ h2;obtain⟨z,e3,l3⟩:=DW e1 e2;obtain⟨z',e4,l4⟩:=(g2.trans g4) _ _ _ e3;exact⟨z',e4,by omega⟩
def Up(L:bS ν)(M:List ν)(f:dG ν):Prop:=∀u v ms s,Pth L u ms v s->ms.Nodup->(∀x∈ms,x∈M)->∃y,f u v=ZA y/\y<=s
def Pth.ends{L:bS ν}{P:List ν}(hL:∀x∈L,x.1∈P/\x.2.1∈P){u v:ν}{ms:List ν}(h:Pth L u ms v s):u∈P/\v∈P/\∀x∈ms,x∈P:=by
 induction h with
 |one e=>exact⟨(hL _ e).1,(hL _ e).2,by simp⟩
 |cons e _ ih=>exact⟨(hL _ e).1,ih.2.1,λx hx=>by
   rcases Oe.mp hx with rfl|hx
   .exact ih.1
   .exact ih.2.2 x hx⟩
theorem Up.mid{L:bS ν}{P M:List ν}{f:dG ν}(hL:∀x∈L,x.1∈P/\x.2.1∈P)(h:Up L M f)(k:ν):Up L (k::M) (qG k P P f):=λu v ms s hp hn hm=>by
 by_cases hk:k∈ms
 .obtain⟨p,q,rfl⟩:=VG hk;obtain⟨s1,s2,h1,h2,h3⟩:=hp.cut;rw[PQ]at hn;obtain⟨n1,n2,n3⟩:=hn;rw[OV]at n2;have hp':∀x∈p,x∈M:=λx hx=>by
   rcases Oe.mp (hm x (O6 _ hx))with rfl|z
   .exact absurd rfl (n3 x hx x Ob)
   .exact z
  have hq':∀x∈q,x∈M:=λx hx=>by
   rcases Oe.mp (hm x (OI _ (N6 _ hx)))with rfl|z
   .exact absurd hx n2.1
   .exact z
  obtain⟨y1,e1,l1⟩:=h u k p s1 h1 n1 hp';obtain⟨y2,e2,l2⟩:=h k v q s2 h2 n2.2 hq';obtain⟨z,e3,l3⟩:=D2 (h1.ends hL).1 (h2.ends hL).2.1 e1 e2;exact⟨z,e3,by omega⟩
 .obtain⟨y,e,l⟩:=h u v ms s hp hn λx hx=>by
   rcases Oe.mp (hm x hx)with rfl|z
   .exact absurd hx hk
   .exact z
  obtain⟨z,e2,l2⟩:=wR k P P f u v y e;exact⟨z,e2,by omega⟩
theorem Up.NT{L:bS ν}{P:List ν}(hL:∀x∈L,x.1∈P/\x.2.1∈P):∀(Q M:List ν)(f:dG ν),Up L M f->∃M',(∀x,x∈Q\/x∈M->x∈M')/\Up L M' (wU Q P f)
 |[],M,f,h=>⟨M,λx hx=>hx.elim (λz=>by simp at z) id,h⟩
 |k::Q,M,f,h=>by
  obtain⟨M',h1,h2⟩:=Up.NT hL Q (k::M) (qG k P P f) (h.mid hL k);refine⟨M',λx hx=>h1 x ?_,h2⟩;rcases hx with hx|hx
  .rcases Oe.mp hx with rfl|hx
   .exact .inr Ob
   .exact .inl hx
  .exact .inr (N6 _ hx)
def E8{P:List ν}{L:bS ν}:Up L [] (BW P L):=λu v ms s hp hn hm=>by
 have:ms=[]:=by
  cases ms with
  |nil=>rfl
  |cons x r=>exact absurd (hm x Ob) (by simp)
 subst this;cases hp with
 |one e=>
  obtain⟨g,h1,h2⟩:=oN (λ(f:dG ν)(x:ν×ν×Int)=>og f x.1 x.2.1 x.2.2) (λf x=>uM f _ _ _) L (vo P) _ e;obtain⟨y,e1,l1⟩:=Ad g u v s;obtain⟨z,e2,l2⟩:=h2 u v y e1;exact⟨z,e2,by omega⟩
theorem g9{L:bS ν}(step:dG ν->α->dG ν):∀(l:List α)(f:dG ν),(∀f,∀a∈l,(∀u v y,f u v=ZA y->Wk L u v y)->∀u v y,step f a u v=ZA y->Wk L u v y)->(∀u v y,f u v=ZA y->Wk L u v y)->∀u v y,l.foldl step f u v=ZA y->Wk L u v y
 |[],f,_,h=>h
 |a::l,f,hs,h=>g9 step l (step f a) (λf b hb=>hs f b (N6 _ hb)) (hs f a Ob h)
def nA(P:List ν)(L:bS ν):∀u v y,table P L u v=ZA y->Wk L u v y:=by
 unfold table wU;refine g9 _ P _ (λf m _ h=>?_) ?_
 .unfold qG;refine g9 _ P _ (λf o _ h=>?_) h;unfold mm;refine g9 _ P _ (λf v _ h=>?_) h;unfold ml;cases e1:f o m with
  |none=>exact h
  |some x=>
   cases e2:f m v with
   |none=>exact h
   |some y=>exact qI h ((h _ _ _ e1).app (h _ _ _ e2))
 .unfold BW;refine g9 _ L _ (λf x hx h=>qI h (.one hx)) λu v y e=>?_;unfold vo at e;split at e
  .rename_i z;obtain⟨_,rfl⟩:=z;cases e;exact .nil u
  .cases e
def vn{P:List ν}{L:bS ν}(hL:∀x∈L,x.1∈P/\x.2.1∈P):∀u v ms s,Pth L u ms v s->ms.Nodup->∃y,table P L u v=ZA y/\y<=s:=λu v ms s hp hn=>by obtain⟨M',h1,h2⟩:=Up.NT hL P [] (BW P L) E8;exact h2 u v ms s hp hn λx hx=>h1 x (.inl ((hp.ends hL).2.2 x hx))
def o7{P:List ν}{L:bS ν}{u:ν}(hu:u∈P):∃y,table P L u u=ZA y/\y<=0:=by
 have h0:vo P u u=ZA 0:=by unfold vo;rw[if_pos ⟨hu,rfl⟩]
 have h1:Le (table P L) (vo P):=(D5 P P _).trans (kK _ (λf x=>uM f _ _ _) L _);exact h1 u u 0 h0
structure Least (L:bS ν)(P:List ν)(f:dG ν):Prop where
 is:∀u v d,f u v=ZA d->Wk L u v d
 le:∀u∈P,∀v t,Wk L u v t->∃d,f u v=ZA d/\d<=t
def rN{P:List ν}{L:bS ν}{u:ν}(h:table P L u u=ZA y)(hy:y<0):¬ NoNeg L:=λn=>by have:=n u y (nA P L u u y h);omega
theorem nB{P:List ν}{L:bS ν}(hL:∀x∈L,x.1∈P/\x.2.1∈P)(h:∀u∈P,∀y,table P L u u=ZA y->0<=y):NoNeg L/\Least L P (table P L):=by
 have nc:¬ EJ L:=λ⟨x,ms,s,hp,hn,_,hs⟩=>by obtain⟨y,e,l⟩:=vn hL x x ms s hp hn;have:=h x (hp.ends hL).1 y e;omega
 have le:∀u∈P,∀v t,Wk L u v t->∃d,table P L u v=ZA d/\d<=t:=λu hu v t w=>by
  rcases w.simple with z|⟨s',hs,z⟩
  .exact absurd z nc
  .rcases z with⟨rfl,rfl⟩|⟨_,ms,hp,hn,_⟩
   .obtain⟨y,e,l⟩:=o7 hu;exact⟨y,e,by omega⟩
   .obtain⟨y,e,l⟩:=vn hL u v ms s' hp hn;exact⟨y,e,by omega⟩
 refine⟨λa s w=>?_,λu v d e=>nA P L u v d e,le⟩;by_cases ha:a∈P
 .obtain⟨d,e,l⟩:=le a ha a s w;have:=h a ha d e;omega
 .cases w with
  |nil=>exact P8 _
  |step e _=>exact absurd (hL _ e).1 ha
def Least.uniq{L:bS ν}{P:List ν}{f g:dG ν}(hf:Least L P f)(hg:Least L P g){u v:ν}(hu:u∈P):f u v=g u v:=by
 cases e:f u v with
 |none=>
  cases e2:g u v with
  |none=>rfl
  |some d=>
   obtain⟨d',q,_⟩:=hf.le u hu v d (hg.is u v d e2);rw[e]at q;cases q
 |some d=>
  obtain⟨d',q,l⟩:=hg.le u hu v d (hf.is u v d e);obtain⟨d2,q2,l2⟩:=hf.le u hu v d' (hg.is u v d' q);rw[e]at q2;cases q2;rw[q];congr 1;omega
end Gr
variable{j:Int}
namespace G
open PySem Tr
def isI:T->Bool
 |.int _=>ZC
 |_=>ZD
def GF(t:T)(h:t.pl=ZC):jg [t]=.ok (.bl (isI t)):=by cases t <;> first|rfl| (simp[T.pl]at h;done)
def aX(t:T)(a b:Int):Bool:=match t with
 |.int i=>decide (a<=i)&&decide (i<=b)
 |_=>ZD
def fM(t:T)(a b:Int)(h:t.pl=ZC):bc [t,.int a,.int b]=.ok (.bl (aX t a b)):=by
 have w:=GF t h;cases t with
 |int i=>
  simp[bc,val,cb,kh,aV,aL,cR,vr,ch,cl,ae,ai,yO,aX,w,isI];cases decide (a<=i) <;> rfl
 |scr _=>simp[T.pl]at h
 |dct _ _=>simp[T.pl]at h
 |_=>simp[bc,val,cb,kh,aV,aL,cR,vr,ch,cl,ae,ai,aX,w,isI]
def eX(t:T)(a b:Nat):Bool:=match t with
 |.tup l=>decide (a<=l.length)&&decide (l.length<=b)
 |_=>ZD
def lF(t:T)(a b:Nat)(h:t.pl=ZC):aS [t,.int a,.int b]=.ok (.bl (eX t a b)):=by
 cases t with
 |tup l=>
  simp[aS,val,cb,sV,aV,aL,cR,o1,vr,Gx,T.ty,zX,ch,cl,ae,ai,cA,T.items,yO,eX];cases decide (a<=l.length) <;> rfl
 |scr _=>simp[T.pl]at h
 |dct _ _=>simp[T.pl]at h
 |_=>rfl
def lX(x y:T):Bool:=aX x 1 9&&(match x with
 |.int i=>aX y i 9
 |_=>ZD)
def Kh(x y:T)(hx:x.pl=ZC)(hy:y.pl=ZC):gK [x,y]=.ok (.bl (lX x y)):=by
 have w:=fM x 1 9 hx;unfold lX;cases q:aX x 1 9 with
 |false=>rw[q]at w;simp[gK,val,cb,nv,aV,aL,cR,vr,cn,cl,ae,ai,w]
 |true=>
  rw[q]at w;cases x with
  |int i=>simp[gK,val,cb,nv,aV,aL,cR,vr,cn,cl,ae,ai,w,fM y i 9 hy]
  |_=>cases q
def mC:List Int->Bool
 |a::b::r=>decide (a<b)&&mC (b::r)
 |_=>ZC
def AG(a b:Int)(r:List Int):mC (a::b::r)=(decide (a<b)&&mC (b::r)):=rfl
variable{Z:En}{l:List T}
def u4{fe:Y2}{p:T->Bool}{fi:Y0}{src:List (Option Nat)}(hi:fi Z=.ok l)(hs:l.length<=ZI)(hn:0<src.length)(hf:∀t∈l,fe ((bU src Z).set 0 (.va t))=.ok (.bl (p t))):
  cl rG (ae (d9 fi src (gN 0) bT fe) ai) Z=.ok (.bl (l.all p)):=by
 have e:=yw l (bU src Z) (by unfold bU;rw[N9];exact hn) hf;simp only[cl,ae,ai,d9,hi,aG,if_pos hs,e,all_map]
noncomputable def m5(l:List T):T->Bool
 |.int k=>match L2.atI l k,L2.atI l (k+1)with
  |some (.int a),ZA (.int b)=>decide (a<b)
  |_,_=>ZD
 |_=>ZD
theorem tS{t:T}(h:t∈rng 0 j):∃k:Nat,t=.int k/\(k:Int)<j:=by unfold rng at h;obtain⟨k,hk,e⟩:=On.mp h;rw[OZ]at hk;exact⟨k,by rw[<-e];simp,by omega⟩
theorem Iy:(l:List Int)->l.length<=4->(rng 0 ((l.length:Int) - 1)).all (m5 (l.map .int))=mC l
 |[],_=>rfl
 |[a],_=>rfl
 |[a,b],_=>by simp[rng,Td,m5,L2.atI,L2.ixN,mC]
 |[a,b,c],_=>by simp[rng,Td,m5,L2.atI,L2.ixN,mC]
 |[a,b,c,d],_=>by simp[rng,Td,m5,L2.atI,L2.ixN,mC,Bool.and_assoc]
 |a::b::c::d::e::r,h=>absurd h (by simp only[Oh];omega)
theorem GI(l:List Int)(h:l.length<=4):kF [.tup (l.map .int)]=.ok (.bl (mC l)):=by
 have hr:iR (ae (o2 fB (cl cA (ae (vr 0) ai)) (cn (.int 1))) ai) [.va (.tup (l.map .int))]=.ok (rng 0 ((l.length:Int) - 1)):=by
  have:mi ((l.length:Int) - 1)=ZC:=by unfold mi;rw[N7];exact⟨decide_eq_true (by omega),decide_eq_true (by omega)⟩
  simp[iR,ae,ai,o2,cl,vr,cn,cA,T.items,fB,this]
 have hs:(rng 0 ((l.length:Int) - 1)).length<=ZI:=by unfold rng ZI;rw[N9,OR];omega
 have e:=u4 (fe:=o2 wB (o2 aW (vr 1) (vr 0)) (o2 aW (vr 1) (o2 aY (vr 0) (cn (.int 1))))) (p:=m5 (l.map .int)) (src:=[ZB,ZA 0]) hr hs (by decide) (λt ht=>by
  obtain⟨k,rfl,hk⟩:=tS ht;have h1:(l.map T.int)[k]?=ZA (.int (l[k]'(by omega))):=by simp
  have h2:(l.map T.int)[k+1]?=ZA (.int (l[k+1]'(by omega))):=by rw[Ot,Od (by omega)];rfl
  have g1:=ke h1;have g2:L2.atI (l.map T.int) ((k:Int)+1)=ZA (.int (l[k+1]'(by omega))):=ke h2;simp[o2,vr,bU,cn,aY,aW,T.items,g1,g2,yO,m5])
 rw[Iy l h]at e;simp only[kF,val,QD,if_true,As,cb,aL,aV];show(do let f <-(do let t <-cl rG _ [.va (.tup (l.map .int))];Rs.ok (Fl.rt t));_)=_;rw[e];rfl
noncomputable def nums:List T->Option (List Int)
 |[] =>ZA []
 |.int i::l=>match nums l with
  |some m=>ZA (i::m)
  |none=>ZB
 |_::_=>ZB
noncomputable def cE(t:T):Bool:=eX t 1 4&&(match t with
 |.tup l=>l.all (λu=>aX u 0 99)&&(match nums l with|some m=>mC m|none=>ZD)
 |_=>ZD)
theorem qc:∀{l:List T}{m:List Int},nums l=ZA m->l=m.map .int
 |[],m,h=>by cases h;rfl
 |t::l,m,h=>by
  cases t with
  |int i=>
   unfold nums at h;cases q:nums l with
   |none=>rw[q]at h;cases h
   |some m'=>rw[q]at h;cases h;rw[Oa,<-qc q]
  |_=>cases h
theorem ur:∀{l:List T}{a b:Int},(l.all λu=>aX u a b)=ZC->∃m,nums l=ZA m
 |[],_,_,_=>⟨[],rfl⟩
 |t::l,a,b,h=>by
  rw[List.all_cons,N7]at h;cases t with
  |int i=>
   obtain⟨m,e⟩:=ur h.2;exact⟨i::m,by unfold nums;rw[e]⟩
  |_=>exact absurd h.1 (by simp[aX])
def d6{t:T}{b:Nat}(h:eX t a b=ZC):∃l,t=.tup l/\a<=l.length/\l.length<=b:=by
 cases t with
 |tup l=>unfold eX at h;rw[N7]at h;exact⟨l,rfl,of_decide_eq_true h.1,of_decide_eq_true h.2⟩
 |_=>cases h
def small(h:n<=k)(hk:autoParam (k<=1000) s_):n<=ZI:=by unfold ZI;omega
def yH(t:T)(h:t.pl=ZC):cy [t]=.ok (.bl (cE t)):=by
 have w:aS [t,.int 1,.int 4]=.ok (.bl (eX t 1 4)):=lF t 1 4 h;unfold cE;cases q:eX t 1 4 with
 |false=>rw[q]at w;simp[cy,val,cb,fR,aV,aA,fS,dQ,tb,sN,aL,cl,vr,cn,ae,ai,w]
 |true=>
  rw[q]at w;obtain⟨l,rfl,h1,h2⟩:=d6 q;have hp:∀u∈l,u.pl=ZC:=λu hu=>lW (by unfold T.pl at h;exact h) hu;have e:=u4 (fe:=cl bc (ae (vr 0) (ae (cn (.int 0)) (ae (cn (.int 99)) ai)))) (p:=λu=>aX u 0 99) (src:=[ZB]) (fi:=iS (vr 0)) (Z:=[.va (.tup l)]) rfl (small h2) (by decide) (λu hu=>by simp[cl,ae,ai,vr,cn,bU,fM u 0 99 (hp u hu)])
  have w':cl aS (ae (vr 0) (ae (cn (.int 1)) (ae (cn (.int 4)) ai))) [.va (.tup l)]=.ok (.bl ZC):=w;show cy _=.ok (.bl (ZC&&(l.all (λu=>aX u 0 99)&&(match nums l with|some m=>mC m|none=>ZD))));cases qa:l.all λu=>aX u 0 99 with
  |false=>
   rw[qa]at e;simp[cy,val,cb,fR,aV,aA,fS,dQ,tb,sN,aL,cR,e,w']
  |true=>
   rw[qa]at e;obtain⟨m,em⟩:=ur qa;have el:=qc em;have er:=GI m (by rw[el,N9]at h2;exact h2);rw[<-el]at er;have er':cl kF (ae (vr 0) ai) [.va (.tup l)]=.ok (.bl (mC m)):=er;simp[cy,val,cb,fR,aV,aA,fS,dQ,tb,sN,aL,cR,e,w',er',em]
def at_(t:T)(k:Nat):T:=match t.items with
 |some l=>l.getD k .non
 |none=>.non
noncomputable def bF(t:T):Bool:=eX t 3 3&&(match t with
 |.tup [x,y,r] =>lX x y&&cE r
 |_=>ZD)
def GN(t:T)(h:t.pl=ZC):dY [t]=.ok (.bl (bF t)):=by
 have w:aS [t,.int 3,.int 3]=.ok (.bl (eX t 3 3)):=lF t 3 3 h;unfold bF;cases q:eX t 3 3 with
 |false=>rw[q]at w;simp[dY,val,cb,jq,aV,aL,cR,cl,vr,cn,ae,ai,w]
 |true=>
  rw[q]at w;obtain⟨l,rfl,h1,h2⟩:=d6 q
  match l,h1,h2 with
  |[x,y,r],_,_=>
   simp[T.pl,plS]at h;obtain⟨px,py,pr⟩:=h;have g0:aW (.tup [x,y,r]) (.int 0)=.ok x:=rfl;have g1:aW (.tup [x,y,r]) (.int 1)=.ok y:=rfl;have g2:aW (.tup [x,y,r]) (.int 2)=.ok r:=rfl;have ep:=Kh x y px py;have er:=yH r pr;cases qp:lX x y with
   |false=>rw[qp]at ep;simp[dY,val,cb,jq,aV,aL,cR,cl,vr,cn,ae,ai,o2,w,g0,g1,ep,qp]
   |true=>rw[qp]at ep;simp[dY,val,cb,jq,aV,aL,cR,cl,vr,cn,ae,ai,o2,w,g0,g1,g2,ep,er,qp]
def bq(t:T):Bool:=eX t 1 4&&(match t with
 |.tup l=>l.all bF
 |_=>ZD)
def Ei(t:T)(h:t.pl=ZC):eE [t]=.ok (.bl (bq t)):=by
 have w:aS [t,.int 1,.int 4]=.ok (.bl (eX t 1 4)):=lF t 1 4 h;unfold bq;cases q:eX t 1 4 with
 |false=>rw[q]at w;simp[eE,val,cb,jr,aV,aL,cR,cl,vr,cn,ae,ai,w]
 |true=>
  rw[q]at w;obtain⟨l,rfl,h1,h2⟩:=d6 q;have hp:∀u∈l,u.pl=ZC:=λu hu=>lW (by unfold T.pl at h;exact h) hu;have e:=u4 (fe:=cl dY (ae (vr 0) ai)) (p:=bF) (src:=[ZB]) (fi:=iS (vr 0)) (Z:=[.va (.tup l)]) rfl (small h2) (by decide) (λu hu=>by simp[cl,ae,ai,vr,cn,bU,GN u (hp u hu)])
  have w':cl aS (ae (vr 0) (ae (cn (.int 1)) (ae (cn (.int 4)) ai))) [.va (.tup l)]=.ok (.bl ZC):=w;simp[eE,val,cb,jr,aV,aL,cR,e,w']
def eG(x y:T):Bool:=aX x 0 999&&(match x,y with
 |_,.non=>ZC
 |.int i,_=>aX y i 999
 |_,_=>ZD)
def GL(x y:T)(hx:x.pl=ZC)(hy:y.pl=ZC):fq [x,y]=.ok (.bl (eG x y)):=by
 have w:=fM x 0 999 hx;unfold eG;cases q:aX x 0 999 with
 |false=>rw[q]at w;simp[fq,val,cb,jo,aV,aL,cR,vr,cn,cl,ae,ai,w]
 |true=>
  rw[q]at w;cases x with
  |int i=>
   have e:=fM y i 999 hy;cases y with
   |non=>simp[fq,val,cb,jo,aV,aL,cR,EL,vr,cn,cl,ae,ai,o2,iI,T.isN,w]
   |_=>simp[fq,val,cb,jo,aV,aL,cR,EL,vr,cn,cl,ae,ai,o2,iI,T.isN,w,e]
  |_=>cases q
noncomputable def reads(cs:List T)(c:Int):Nat:=if 0<=c then(match cs[c.toNat]? with
 |some (.tup [_,_,.tup r])=>r.length
 |_=>0)else 0
noncomputable def ba(cs:List T)(t:T):Bool:=match t with
 |.tup [.int c,.int k] =>decide (0<=c)&&decide (c<cs.length)&&(decide (0<=k)&&decide (k<reads cs c))
 |_=>ZD
def nU{t:T}(h:bF t=ZC):∃x y r,t=.tup [x,y,.tup r]:=by
 unfold bF at h;rw[N7]at h;obtain⟨h1,h2⟩:=h;obtain⟨l,rfl,h3,h4⟩:=d6 h1
 match l,h3,h4,h2 with
 |[x,y,r],_,_,h2=>
  simp only[N7]at h2;obtain⟨_,h5⟩:=h2;unfold cE at h5;rw[N7]at h5;obtain⟨m,rfl,_⟩:=d6 h5.1;exact⟨x,y,m,rfl⟩
def dv{t:T}{a:Int}(h:aX t a b=ZC):∃i,t=.int i/\a<=i/\i<=b:=by
 cases t with
 |int i=>unfold aX at h;rw[N7]at h;exact⟨i,rfl,of_decide_eq_true h.1,of_decide_eq_true h.2⟩
 |_=>cases h
theorem Ag(cs:List T)(t:T)(hc:bq (.tup cs)=ZC)(h:t.pl=ZC):dX [.tup cs,t]=.ok (.bl (ba cs t)):=by
 have w:aS [t,.int 2,.int 2]=.ok (.bl (eX t 2 2)):=lF t 2 2 h;cases q:eX t 2 2 with
 |false=>
  rw[q]at w;have:ba cs t=ZD:=by
   unfold ba;split
   .cases q
   .rfl
  simp[dX,val,cb,jn,aV,aA,fS,nZ,dQ,tb,sN,aL,cl,vr,cn,ae,ai,w,this]
 |true=>
  rw[q]at w;obtain⟨l,rfl,h1,h2⟩:=d6 q
  match l,h1,h2 with
  |[x,y],_,_=>
   simp[T.pl,plS]at h;obtain⟨px,py⟩:=h;have g0:aW (.tup [x,y]) (.int 0)=.ok x:=rfl;have g1:aW (.tup [x,y]) (.int 1)=.ok y:=rfl;have gl:cA [.tup cs]=.ok (.int cs.length):=rfl;have e1:=fM x 0 ((cs.length:Int) - 1) px;cases q1:aX x 0 ((cs.length:Int) - 1)with
   |false=>
    rw[q1]at e1;have:ba cs (.tup [x,y])=ZD:=by
     cases x with
     |int c=>
      cases y with
      |int k=>
       simp only[aX,UK,decide_eq_false_iff_not]at q1;simp only[ba,UK,decide_eq_false_iff_not];omega
      |_=>rfl
     |_=>rfl
    simp[dX,val,cb,jn,aV,aA,fS,nZ,dQ,tb,sN,aL,cl,vr,cn,ae,ai,o2,fB,w,g0,gl,e1,this]
   |true=>
    rw[q1]at e1;obtain⟨c,rfl,c1,c2⟩:=dv q1;obtain⟨n,rfl⟩:=Pt c1;have hn:n<cs.length:=by omega
    have hcl:bF cs[n]=ZC:=by unfold bq at hc;rw[N7]at hc;exact OB.mp hc.2 _ (PN hn)
    obtain⟨a,b,r,er⟩:=nU hcl;have g2:aW (.tup cs) (.int (n:Int))=.ok (.tup [a,b,.tup r]):=by simp only[aW,T.items];rw[ke (Od hn),er]
    have g3:aW (.tup [a,b,.tup r]) (.int 2)=.ok (.tup r):=rfl;have gr:cA [.tup r]=.ok (.int r.length):=rfl;have e2:=fM y 0 ((r.length:Int) - 1) py;have:ba cs (.tup [.int n,y])=aX y 0 ((r.length:Int) - 1):=by
     have er2:reads cs (n:Int)=r.length:=by unfold reads;rw[if_pos c1,Pz,Od hn,er]
     cases y with
     |int k=>
      simp only[ba,aX,er2];rw[decide_eq_true c1,decide_eq_true (show(n:Int)<cs.length by omega)];simp only[RM];congr 1;exact decide_eq_decide.mpr (by omega)
     |_=>rfl
    simp[dX,val,cb,jn,aV,aA,fS,nZ,dQ,tb,sN,aL,cl,vr,cn,ae,ai,o2,fB,w,g0,g1,g2,g3,gl,gr,e1,e2,this]
noncomputable def bM(cs:List T)(t:T):Bool:=match t with
 |.tup [a,b,x,y] =>eG x y&&(ba cs a&&(ba cs b&& !aU a b))
 |_=>ZD
variable{cs:List T}
def cP{t:T}(h:ba cs t=ZC):∃c k:Int,t=.tup [.int c,.int k]:=by
 unfold ba at h;split at h
 .exact⟨_,_,rfl⟩
 .cases h
def Ee(cs:List T)(t:T)(hc:bq (.tup cs)=ZC)(h:t.pl=ZC):cO [.tup cs,t]=.ok (.bl (bM cs t)):=by
 have w:aS [t,.int 4,.int 4]=.ok (.bl (eX t 4 4)):=lF t 4 4 h;cases q:eX t 4 4 with
 |false=>
  rw[q]at w;have:bM cs t=ZD:=by
   unfold bM;split
   .cases q
   .rfl
  simp[cO,val,cb,fA,aV,aA,fS,nZ,dQ,tb,sN,aL,cl,vr,cn,ae,ai,w,this]
 |true=>
  rw[q]at w;obtain⟨l,rfl,h1,h2⟩:=d6 q
  match l,h1,h2 with
  |[a,b,x,y],_,_=>
   simp[T.pl,plS]at h;obtain⟨pa,pb,px,py⟩:=h;have g0:aW (.tup [a,b,x,y]) (.int 0)=.ok a:=rfl;have g1:aW (.tup [a,b,x,y]) (.int 1)=.ok b:=rfl;have g2:aW (.tup [a,b,x,y]) (.int 2)=.ok x:=rfl;have g3:aW (.tup [a,b,x,y]) (.int 3)=.ok y:=rfl;have e1:=GL x y px py;have e2:=Ag cs a hc pa;have e3:=Ag cs b hc pb;show _=Rs.ok (T.bl (eG x y&&(ba cs a&&(ba cs b&& !aU a b))));cases q1:eG x y with
   |false=>
    rw[q1]at e1;simp[cO,val,cb,fA,aV,aA,fS,nZ,dQ,tb,sN,aL,cl,vr,cn,ae,ai,o2,w,g2,g3,e1]
   |true=>
    rw[q1]at e1;cases q2:ba cs a with
    |false=>
     rw[q2]at e2;simp[cO,val,cb,fA,aV,aA,fS,nZ,dQ,tb,sN,aL,cR,cl,vr,cn,ae,ai,o2,w,g0,g2,g3,e1,e2]
    |true=>
     rw[q2]at e2;cases q3:ba cs b with
     |false=>
      rw[q3]at e3;simp[cO,val,cb,fA,aV,aA,fS,nZ,dQ,tb,sN,aL,cR,cl,vr,cn,ae,ai,o2,w,g0,g1,g2,g3,e1,e2,e3]
     |true=>
      rw[q3]at e3;obtain⟨c,k,rfl⟩:=cP q2;have f:hW (.tup [.int c,.int k]) b=ZC:=hV (by simp[T.dep,deps]) rfl (T.KF _ pb);have g4:oB (.tup [.int c,.int k]) b=.ok (.bl (!aU (.tup [.int c,.int k]) b)):=by unfold oB;rw[if_pos f]
      simp[cO,val,cb,fA,aV,aA,fS,nZ,dQ,tb,sN,aL,cR,cl,vr,cn,ae,ai,o2,w,g0,g1,g2,g3,g4,e1,e2,e3]
def kH(cs:List T)(t:T):Bool:=eX t 0 8&&(match t with
 |.tup l=>l.all (bM cs)
 |_=>ZD)
def Bg(cs:List T)(t:T)(hc:bq (.tup cs)=ZC)(h:t.pl=ZC):dJ [.tup cs,t]=.ok (.bl (kH cs t)):=by
 have w:aS [t,.int 0,.int 8]=.ok (.bl (eX t 0 8)):=lF t 0 8 h;unfold kH;cases q:eX t 0 8 with
 |false=>rw[q]at w;simp[dJ,val,cb,iM,aV,aL,cR,cl,vr,cn,ae,ai,w]
 |true=>
  rw[q]at w;obtain⟨l,rfl,h1,h2⟩:=d6 q;have hp:∀u∈l,u.pl=ZC:=λu hu=>lW (by unfold T.pl at h;exact h) hu;have e:=u4 (fe:=cl cO (ae (vr 1) (ae (vr 0) ai))) (p:=bM cs) (src:=[ZB,ZA 0]) (fi:=iS (vr 1)) (Z:=[.va (.tup cs),.va (.tup l)]) rfl (small h2) (by decide) (λu hu=>by simp[cl,ae,ai,vr,cn,bU,Ee cs u hc (hp u hu)])
  have w':cl aS (ae (vr 1) (ae (cn (.int 0)) (ae (cn (.int 8)) ai))) [.va (.tup cs),.va (.tup l)]=.ok (.bl ZC):=w;simp[dJ,val,cb,iM,aV,aL,cR,e,w']
noncomputable def gx(t:T):Bool:=match t with
 |.tup [.tup cs,ls] =>bq (.tup cs)&&kH cs ls
 |_=>ZD
def wZ(t:T)(h:t.pl=ZC):dW [t]=.ok (.bl (gx t)):=by
 have w:aS [t,.int 2,.int 2]=.ok (.bl (eX t 2 2)):=lF t 2 2 h;cases q:eX t 2 2 with
 |false=>
  rw[q]at w;have:gx t=ZD:=by
   unfold gx;split
   .cases q
   .rfl
  simp[dW,val,cb,iA,aV,aL,cR,cl,vr,cn,ae,ai,w,this]
 |true=>
  rw[q]at w;obtain⟨l,rfl,h1,h2⟩:=d6 q
  match l,h1,h2 with
  |[x,y],_,_=>
   simp[T.pl,plS]at h;obtain⟨px,py⟩:=h;have g0:aW (.tup [x,y]) (.int 0)=.ok x:=rfl;have g1:aW (.tup [x,y]) (.int 1)=.ok y:=rfl;have e1:=Ei x px;cases q1:bq x with
   |false=>
    rw[q1]at e1;have:gx (.tup [x,y])=ZD:=by
     cases x with
     |tup cs=>show(bq (.tup cs)&&_)=ZD;rw[q1];rfl
     |_=>rfl
    simp[dW,val,cb,iA,aV,aL,cR,cl,vr,cn,ae,ai,o2,w,g0,e1,this]
   |true=>
    rw[q1]at e1;cases x with
    |tup cs=>
     have e2:=Bg cs y q1 py;have:gx (.tup [.tup cs,y])=kH cs y:=by show(bq (.tup cs)&&_)=_;rw[q1];rfl
     simp[dW,val,cb,iA,aV,aL,cR,cl,vr,cn,ae,ai,o2,w,g0,g1,e1,e2,this]
    |_=>cases q1
theorem gL:∀m:List Int,deps (m.map .int)=0
 |[] =>rfl
 |a::m=>by rw[Oa,deps,gL m];rfl
def oh(i n:Nat):List T:=(rng 0 n).map λt=>T.tup [.int i,t]
noncomputable def IA:T->Nat
 |.tup [_,_,.tup r] =>r.length
 |_=>0
def fT:Nat->List T->List T
 |_,[] =>[]
 |i,c::r=>oh i (IA c)++fT (i+1) r
def iy{t:T}(h:bF t=ZC):∃x y r,t=.tup [x,y,.tup r]/\1<=r.length/\r.length<=4:=by
 obtain⟨x,y,r,rfl⟩:=nU h;have:cE (.tup r)=ZC:=by have h':(lX x y&&cE (.tup r))=ZC:=h;rw[N7]at h';exact h'.2
 unfold cE at this;rw[N7]at this;obtain⟨l,e,h1,h2⟩:=d6 this.1;cases e;exact⟨x,y,r,rfl,h1,h2⟩
def j0(i n:Nat):(oh i n).length=n:=by unfold oh;rw[N9,lT]
noncomputable abbrev evG:T->En->Rs En:=gT 2 (i7 (gN 2) (i7 (gN 3) ve))
theorem HJ{f:Y0}(h:f Z=.ok [.int j])(h0:0<=j)(h1:j<=100000):iR f Z=.ok (rng 0 j):=by
 have e:mi j=ZC:=by unfold mi;rw[N7];exact⟨decide_eq_true (by omega),decide_eq_true (by omega)⟩
 unfold iR;rw[h];show(if mi j=ZC then _ else _)=_;rw[e];rfl
def oS(l m:List T)(h:(l++m).length<=1000):aY (.lst l) (.lst m)=.ok (.lst (l++m)):=by show lb (l++m)=_;unfold lb;rw[if_pos (aB h)]
def u5(l m:List T)(h:(l++m).length<=1000):aY (.tup l) (.tup m)=.ok (.tup (l++m)):=by show la (l++m)=_;unfold la;rw[if_pos (aB h)]
theorem Ml(c0 acc x y:T)(r:List T)(i:Nat)(h:r.length<=4):
  d9 (iR (ae (cl cA (ae (o2 aW (vr 3) (cn (.int 2))) ai)) ai)) [ZB,ZA 2] (gN 0) bT (aQ (ae (vr 1) (ae (vr 0) ai))) [.va c0,.va acc,.va (.int i),.va (.tup [x,y,.tup r])]=.ok (.lst (oh i r.length)):=
 m7 (HJ rfl (by omega) (by omega)) (aB (by rw[lT];exact h)) (by simp) λt _=>mk2 _ _
theorem GC(c0 x y:T)(acc r:List T)(i:Nat)(h:r.length<=4)(ha:acc.length<=100):evF [.va c0,.va (.lst acc),.va (.int i),.va (.tup [x,y,.tup r])]=.ok (.nx [.va c0,.va (.lst (acc++oh i r.length)),.va (.int i),.va (.tup [x,y,.tup r])]):=
 bL (aD rfl (Ml c0 (.lst acc) x y r i h) (oS _ _ (by rw[Ol,j0];omega))) rfl
theorem Ae:∀(cs:List T)(c0:T)(acc:List T)(i:Nat)(s2 s3:Sl),(∀c∈cs,bF c=ZC)->acc.length+4*cs.length<=100 ->
  ∃y2 y3,bA evG evF (dP i cs) [.va c0,.va (.lst acc),s2,s3]=.ok (.nx [.va c0,.va (.lst (acc++fT i cs)),y2,y3])
 |[],c0,acc,i,s2,s3,_,_=>⟨s2,s3,by simp[dP,bA,fT]⟩
 |c::cs,c0,acc,i,s2,s3,hc,hl=>by obtain⟨x,y,r,rfl,r1,r2⟩:=iy (hc c Ob);rw[Oh]at hl;obtain⟨z2,z3,ih⟩:=Ae cs c0 (acc++oh i r.length) (i+1) (.va (.int i)) (.va (.tup [x,y,.tup r])) (λc h=>hc c (N6 _ h)) (by rw[Ol,j0];omega);refine⟨z2,z3,?_⟩;rw[dP,dO rfl (GC c0 x y acc r i r2 (by omega)),ih,fT,OQ];rfl
def ck(hc:bq (.tup cs)=ZC):(∀c∈cs,bF c=ZC)/\1<=cs.length/\cs.length<=4:=by unfold bq at hc;rw[N7]at hc;obtain⟨l,e,h1,h2⟩:=d6 hc.1;cases e;exact⟨λc h=>OB.mp hc.2 c h,h1,h2⟩
theorem qK(cs:List T)(hc:bq (.tup cs)=ZC):bj [.tup cs]=.ok (.lst (fT 0 cs)):=by obtain⟨ha,h1,h2⟩:=ck hc;obtain⟨y2,y3,e⟩:=Ae cs (.tup cs) [] 0 .em .em ha (by simp;omega);rw[P2]at e;refine bJ rfl ?_;unfold lj;rw[aw (Z':=[.va (.tup cs),.va (.lst []),.em,.em]) rfl,aw ((fX rfl e))];rfl
theorem Ge(h:k<n):T.int (k:Int)∈rng 0 (n:Int):=by unfold rng;exact On.mpr ⟨k,OZ.mpr (by omega),by simp⟩
def rV(cs:List T)(c:Nat):reads cs (c:Int)=IA (cs.getD c .non):=by
 unfold reads;rw[if_pos (by omega),Pz,O0];cases cs[c]? with
 |none=>rfl
 |some t=>
  cases t with
  |tup l=>
   match l with
   |[] =>rfl
   |[_] =>rfl
   |[_,_] =>rfl
   |[_,_,z] =>cases z <;> rfl
   |_::_::z::_::_=>cases z <;> rfl
  |_=>rfl
mutual
def sm(n:Nat):T->Bool
 |.dct _ _=>ZD
 |.scr _=>ZD
 |.tup l=>decide (l.length<=n)&&sms n l
 |.lst l=>decide (l.length<=n)&&sms n l
 |_=>ZC
def sms(n:Nat):List T->Bool
 |[] =>ZC
 |t::l=>sm n t&&sms n l
end
mutual
theorem Hm{n:Nat}:∀(t:T),sm n t=ZC->t.pl=ZC
 |.scr _,h=>by simp[sm]at h
 |.dct _ _,h=>by simp[sm]at h
 |.tup l,h=>by rw[sm,N7]at h;rw[T.pl];exact sms_pl l h.2
 |.lst l,h=>by rw[sm,N7]at h;rw[T.pl];exact sms_pl l h.2
 |.non,_=>by simp[T.pl]
 |.bl _,_=>by simp[T.pl]
 |.int _,_=>by simp[T.pl]
 |.str _,_=>by simp[T.pl]
theorem sms_pl{n:Nat}:∀(l:List T),sms n l=ZC->plS l=ZC
 |[],_=>by simp[plS]
 |t::l,h=>by rw[sms,N7]at h;rw[plS,Hm t h.1,sms_pl l h.2];rfl
end
theorem zh:∀{l:List T},sms n l=ZC↔ ∀t∈l,sm n t=ZC
 |[] =>by simp[sms]
 |t::l=>by rw[sms,N7,zh];simp
def sm_tup:sm n (.tup l)=ZC↔l.length<=n/\∀t∈l,sm n t=ZC:=by rw[sm,N7,zh,decide_eq_true_iff]
def lE{i:Int}(h:0<j):l9 (.int i) (.int j)=.ok (.int (i % j)):=by show(if _ then _ else _)=_;rw[if_pos h]
def oO{i:Int}(h:0<j)(h2:j<1073741824):mn (.int i) (.int j)=.ok (.int (i / j)):=by show(if _ then _ else _)=_;rw[if_pos ⟨h,h2⟩]
theorem l8{i:Int}(h : -18446744073709551616<i)(h2:i<18446744073709551616):cv (.int i) (.int j)=.ok (.int (i*j)):=by show yj (.int i) (.int j)=_;show(if _ then _ else _)=_;rw[if_pos (.inl ⟨by omega,by omega⟩)]
def C7{i:Int}(h : -18446744073709551616<j)(h2:j<18446744073709551616):cv (.int i) (.int j)=.ok (.int (i*j)):=by show yj (.int i) (.int j)=_;show(if _ then _ else _)=_;rw[if_pos (.inr ⟨by omega,by omega⟩)]
theorem Kj(ns:List Int)(k:Nat)(hn:ns.length<=63):∃c,gv [.scr ns,.int k]=.ok (.int c):=by
 have e0:o2 oj (vr 0) (dB ai) [.va (.scr ns),.va (.int k)]=.ok (.bl (lh ns [])):=by refine aD rfl (jV rfl (aB (Oq _))) ?_;unfold oj;rw[if_pos (hV (by simp[T.dep]) rfl rfl)];rfl
 cases ns with
 |nil=>
  refine⟨7*k,bJ rfl ?_⟩;unfold km;refine iH ((eJ (bQ e0)).trans (b8 (aD rfl rfl (l8 (by omega) (by omega)))))
 |cons a r=>
  have hl:(0:Int)<((a::r).length:Nat):=by simp only[Oh];omega
  have hl2:(((a::r).length:Nat):Int)<1073741824:=by simp only[Oh]at hn ⊢;omega
  have hi:k % (a::r).length<(a::r).length:=Nat.mod_lt _ (by simp);have g0:o2 l9 (vr 1) (cl cA (ae (vr 0) ai)) [.va (.scr (a::r)),.va (.int k)]=.ok (.int ((k % (a::r).length:Nat):Int)):=by refine aD rfl ?_ (by rw[lE hl];rfl);refine aI rfl ?_;show Rs.ok (T.int (((a::r).map T.int).length:Nat))=_;rw[N9]
  have g1:aW (.scr (a::r)) (.int ((k % (a::r).length:Nat):Int))=.ok (.int (a::r)[k % (a::r).length]):=by
   have e:((a::r).map T.int)[k % (a::r).length]?=ZA (.int (a::r)[k % (a::r).length]):=by rw[Ot,Od hi];rfl
   show(match L2.atI ((a::r).map T.int) ((k % (a::r).length:Nat):Int)with|some t=>Rs.ok t|none=>.bad)=_;rw[ke e]
  have g2:o2 mn (vr 1) (cl cA (ae (vr 0) ai)) [.va (.scr (a::r)),.va (.int k)]=.ok (.int ((k:Int) / ((a::r).length:Nat))):=by refine aD rfl ?_ (oO hl hl2);refine aI rfl ?_;show Rs.ok (T.int (((a::r).map T.int).length:Nat))=_;rw[N9]
  refine⟨(a::r)[k % (a::r).length] +6553*((k:Int) / ((a::r).length:Nat)),bJ rfl ?_⟩;unfold km;show aA _ _ [.va (.scr (a::r)),.va (.int k)]=_;refine(aw ((dC (bQ e0)).trans rfl)).trans ?_;exact b8 (aD (aD rfl g0 g1) (aD rfl g2 (l8 (by omega) (by omega))) rfl)
theorem eI(ns:List Int)(k:Nat)(m:Int)(hn:ns.length<=63)(hm:0<m):∃r,aJ [.scr ns,.int k,.int m]=.ok (.int r)/\0<=r/\r<m:=by
 obtain⟨c,hc⟩:=Kj ns k hn;have b1:∀x:Int,0<=x % 2147483563/\x % 2147483563<2147483563:=λx=>⟨UL _ (by omega),Tz _ (by omega)⟩;have b2:∀x:Int,0<=x % 2147483399/\x % 2147483399<2147483399:=λx=>⟨UL _ (by omega),Tz _ (by omega)⟩;generalize hx:(c % 2147483563*69069+104723*((k:Int)+1)) % 2147483563=x;have hx':=b1 (c % 2147483563*69069+104723*((k:Int)+1));rw[hx]at hx';generalize hy:(x*x+x / 3) % 2147483399=y;have hy':=b2 (x*x+x / 3);rw[hy]at hy';refine⟨(y*y+y / 7) % 2147483647 / 11 % m,bJ rfl ?_,UL _ (by omega),Tz _ hm⟩;show jv [.va (.scr ns),.va (.int k),.va (.int m),.em]=_;unfold jv;have s1:cJ (o2 l9 (o2 aY (o2 cv (o2 l9 (cl gv (ae (vr 0) (ae (vr 1) ai))) (cn (.int 2147483563))) (cn (.int 69069))) (o2 cv (cn (.int 104723)) (o2 aY (vr 1) (cn (.int 1))))) (cn (.int 2147483563))) (gN 3) [.va (.scr ns),.va (.int k),.va (.int m),.em]=.ok (.nx [.va (.scr ns),.va (.int k),.va (.int m),.va (.int x)]):=by refine bL (aD (aD (aD (aD (aI rfl hc) rfl (lE (by omega))) rfl (C7 (by omega) (by omega))) (aD rfl rfl (l8 (by omega) (by omega))) rfl) rfl ?_) rfl;rw[lE (by omega),hx]
 have s2:cJ (o2 l9 (o2 aY (o2 cv (vr 3) (vr 3)) (o2 mn (vr 3) (cn (.int 3)))) (cn (.int 2147483399))) (gN 3) [.va (.scr ns),.va (.int k),.va (.int m),.va (.int x)]=.ok (.nx [.va (.scr ns),.va (.int k),.va (.int m),.va (.int y)]):=by refine bL (aD (aD (aD rfl rfl (l8 (by omega) (by omega))) (aD rfl rfl (oO (by omega) (by omega))) rfl) rfl ?_) rfl;rw[lE (by omega),hy]
 rw[aw s1,aw s2];exact b8 (aD (aD (aD (aD (aD rfl rfl (l8 (by omega) (by omega))) (aD rfl rfl (oO (by omega) (by omega))) rfl) rfl (lE (by omega))) rfl (oO (by omega) (by omega))) rfl (lE hm))
def fm{r:Int}{f g h:Y2}(e:aJ [.scr ns,.int k,.int m]=.ok (.int r))(h1:f Z=.ok (.scr ns))(h2:g Z=.ok (.int k))(h3:h Z=.ok (.int m)):
  cl aJ (ae f (ae g (ae h ai))) Z=.ok (.int r):=aI (ar h1 (ar h2 (ar h3 rfl))) e
theorem vO:∀(l:List Int)(z y:Int),mC (l++[z])=ZC->z<y->mC (l++[z] ++[y])=ZC
 |[],z,y,_,h=>by simp[mC,h]
 |[a],z,y,h,hy=>by simp[mC]at h ⊢;omega
 |a::b::l,z,y,h,hy=>by have h':mC (a::b::(l++[z]))=ZC:=h;rw[AG,N7]at h';have ih:=vO (b::l) z y h'.2 hy;show mC (a::b::(l++[z] ++[y]))=ZC;rw[AG,h'.1];exact ih
theorem gW:∀l:List Int,nums (l.map .int)=ZA l
 |[] =>rfl
 |a::l=>by rw[Oa,nums,gW l]
def RdOk(l:List Int):Prop:=∃(l':List Int)(z:Int),l=l'++[z]/\mC l=ZC/\(∀x∈l,0<=x/\x<=5*l.length)/\z<=5*l.length
theorem Gv(l:List T)(z:T):aW (.tup (l++[z])) (.int (-1))=.ok z:=by
 have e:L2.atI (l++[z]) (-1)=ZA z:=by
  unfold L2.atI L2.ixN;simp;rw[if_pos (by omega)];have q:(-1+((l.length:Int)+1)).toNat=l.length:=by omega
  show(l++[z])[(-1+((l.length:Int)+1)).toNat]?=ZA z;rw[q];simp
 show(match L2.atI (l++[z]) (-1)with|some t=>Rs.ok t|none=>.bad)=_;rw[e]
theorem GX(ns:List Int)(hn:ns.length<=63)(a j:Nat)(s:T)(l:List Int)(h:RdOk l)(hl:l.length<=3):∃l2,clF [.va (.scr ns),.va (.int a),.va s,.va (.tup (l.map .int)),.va (.int j)]=.ok (.nx [.va (.scr ns),.va (.int a),.va s,.va (.tup (l2.map .int)),.va (.int j)])/\RdOk l2/\l2.length=l.length+1:=by
 obtain⟨l',z,rfl,h1,h2,h3⟩:=h;obtain⟨d,ed,d0,d1⟩:=eI ns (a+3+j) 5 hn (by omega);refine⟨l'++[z] ++[z+1+d],?_,⟨l'++[z],z+1+d,rfl,vO l' z _ h1 (by omega),?_,?_⟩,by simp⟩
 .refine bL (aD rfl (dA (ar (aD (aD (t:=.int z) (aD rfl rfl ?_) rfl rfl) (fm ed rfl ?_ rfl) rfl) rfl) (aB (k:=1) (by simp))) ?_) rfl
  .rw[PC];exact Gv _ _
  .refine aD (aD rfl rfl rfl) rfl ?_;show Rs.ok (T.int ((a:Int)+3+j))=_;congr 2
  .rw[PC (l₁:=l'++[z])];exact u5 _ _ (by rw[Ol,N9];simp at hl ⊢;omega)
 .intro x hx;rcases OP.mp hx with hx|hx
  .have:=h2 x hx;simp only[Ol,QD]at this ⊢;omega
  .rw[Ox]at hx;subst hx;have hz:=h2 z (by simp);simp only[Ol,QD]at h3 ⊢;omega
 .simp only[Ol,QD]at h3 ⊢;omega
theorem Am(ns:List Int)(hn:ns.length<=63)(a:Nat)(s:T):∀(js:List Nat)(l:List Int)(s4:Sl),RdOk l->l.length+js.length<=4->∃l2 s5,bA (gN 4) clF (js.map λ(j:Nat)=>T.int j) [.va (.scr ns),.va (.int a),.va s,.va (.tup (l.map .int)),s4]=.ok (.nx [.va (.scr ns),.va (.int a),.va s,.va (.tup (l2.map .int)),s5])/\RdOk l2/\l2.length=l.length+js.length
 |[],l,s4,h,_=>⟨l,s4,rfl,h,rfl⟩
 |j::js,l,s4,h,hl=>by rw[Oh]at hl;obtain⟨l2,e2,h2,n2⟩:=GX ns hn a j s l h (by omega);obtain⟨l3,s5,e3,h3,n3⟩:=Am ns hn a s js l2 (.va (.int j)) h2 (by omega);refine⟨l3,s5,?_,h3,by rw[n3,n2,Oh];omega⟩;rw[Oa,dO rfl e2];exact e3
def jc(n:Nat):rng 0 (n:Int)=(Oj n).map λ(j:Nat)=>T.int j:=by unfold rng;simp
theorem RdOk.reads{l:List Int}(h:RdOk l)(hl:l.length<=4):cE (.tup (l.map .int))=ZC:=by
 obtain⟨l',z,rfl,h1,h2,h3⟩:=h;unfold cE;rw[N7];refine⟨?_,?_⟩
 .simp[eX];simp at hl;omega
 .show(((l'++[z]).map T.int).all (λu=>aX u 0 99)&&(match nums ((l'++[z]).map T.int)with|some m=>mC m|none=>ZD))=ZC;rw[gW];show(_&&mC (l'++[z]))=ZC;rw[h1,VH,OB];intro t ht;obtain⟨x,hx,rfl⟩:=On.mp ht;have:=h2 x hx;simp only[aX,N7,decide_eq_true_eq];omega
def Fj(n:Nat)(l:List Int)(h:l.length<=n):sm n (.tup (l.map .int))=ZC:=sm_tup.mpr ⟨by rw[N9];exact h,λt ht=>by obtain⟨x,_,rfl⟩:=On.mp ht;simp[sm]⟩
theorem Eh(ns:List Int)(hn:ns.length<=63)(a:Nat):∃c,dk [.scr ns,.int a]=.ok c/\bF c=ZC/\sm 8 c=ZC:=by
 obtain⟨d1,e1,p1,q1⟩:=eI ns a 3 hn (by omega);obtain⟨d2,e2,p2,q2⟩:=eI ns (a+2) 6 hn (by omega);obtain⟨d3,e3,p3,q3⟩:=eI ns (a+1) 3 hn (by omega);obtain⟨d4,e4,p4,q4⟩:=eI ns (a+6) 3 hn (by omega);obtain⟨n3,rfl⟩:=Pt p3;obtain⟨l,s5,el,hl,nl⟩:=Am ns hn a (.int (1+d1)) (Oj n3) [d2] .em ⟨[],d2,rfl,rfl,λx hx=>by rw[Ox]at hx;subst hx;simp;omega,by simp;omega⟩ (by simp;omega);have nl':l.length<=4:=by rw[nl];simp;omega
 have hr:=hl.reads nl';refine⟨.tup [.int (1+d1),.int (1+d1+d4),.tup (l.map .int)],bJ rfl ?_,?_,?_⟩
 .show jw [.va (.scr ns),.va (.int a),.em,.em,.em]=_;unfold jw;rw[aw (bL (aD rfl (fm e1 rfl rfl rfl) rfl) rfl)];rw[aw (bL (dA (ar (fm e2 rfl rfl rfl) rfl) (aB (k:=1) (by simp))) rfl)];rw[aw ((fX (HJ (ar (fm e3 rfl rfl rfl) rfl) (by omega) (by omega)) (by rw[jc];exact el)))];exact b8 (dA (ar rfl (ar (aD rfl (fm e4 rfl rfl rfl) rfl) (ar rfl rfl))) (aB (k:=3) (by simp)))
 .show(ZC&&(lX (.int (1+d1)) (.int (1+d1+d4))&&cE _))=ZC;rw[hr];simp only[lX,aX,RM,VH,N7,decide_eq_true_eq];omega
 .refine sm_tup.mpr ⟨by simp,λt ht=>?_⟩;rcases Oe.mp ht with rfl|ht
  .simp[sm]
  .rcases Oe.mp ht with rfl|ht
   .simp[sm]
   .rw[Ox]at ht;subst ht;exact Fj 8 l (by omega)
variable{y:T}
theorem oC:∀(cs:List T)(i:Nat),y∈fT i cs->∃c k:Nat,y=.tup [.int c,.int k]/\i<=c/\c<i+cs.length/\k<IA (cs.getD (c - i) .non)
 |[],i,h=>by cases h
 |x::cs,i,h=>by
  rw[fT]at h;rcases OP.mp h with h|h
  .unfold oh at h;obtain⟨t,ht,rfl⟩:=On.mp h;obtain⟨j,rfl,hj⟩:=tS ht;refine⟨i,j,rfl,Oq _,by rw[Oh];omega,?_⟩;rw[SH];show j<IA x;omega
  .obtain⟨c,k,e,h1,h2,h3⟩:=oC cs (i+1) h;refine⟨c,k,e,by omega,by rw[Oh];omega,?_⟩;have:c - i=(c - (i+1))+1:=by omega
   rw[this];exact h3
theorem nS(h:y∈fT 0 cs):ba cs y=ZC:=by obtain⟨c,k,rfl,_,h2,h3⟩:=oC cs 0 h;show(decide ((0:Int)<=(c:Int))&&decide ((c:Int)<(cs.length:Int))&&(decide ((0:Int)<=(k:Int))&&decide ((k:Int)<(reads cs (c:Int):Int))))=ZC;rw[SI]at h3;rw[rV];simp only[N7,decide_eq_true_eq];omega
theorem mW:∀(cs:List T)(i:Nat),(fT i cs).Nodup
 |[],i=>Ra
 |x::cs,i=>by
  rw[fT,PQ];refine⟨?_,mW cs (i+1),?_⟩
  .unfold oh rng;rw[OK];rw[To,Wb];refine List.nodup_range.imp ?_;intro a b hab e;simp at e;exact hab (by omega)
  .intro a ha b hb e;subst e;unfold oh at ha;obtain⟨t,ht,rfl⟩:=On.mp ha;obtain⟨c,k,e,h1,_,_⟩:=oC cs (i+1) hb;simp at e;omega
theorem C4(h:l.Nodup){j:Nat}(hi:i<l.length)(hj:j<l.length)(hij:i≠j):l[i] ≠l[j]:=by
 rw[To,RT]at h;rcases Rj i j with q|q
 .exact h i j hi hj q
 .exact λe=>h j i hj hi (by omega) e.symm
theorem uN:∀(cs:List T)(i:Nat),(∀c∈cs,bF c=ZC)->(fT i cs).length<=4*cs.length
 |[],i,_=>Oq _
 |x::cs,i,h=>by obtain⟨a,b,r,rfl,_,h2⟩:=iy (h x Ob);have:=uN cs (i+1) λc hc=>h c (N6 _ hc);rw[fT,Ol,j0,Oh];show r.length+_<=_;omega
def D7{a b:T}(ha:ba cs a=ZC)(hb:ba cs b=ZC)(h:a≠b):aU a b=ZD:=by obtain⟨c,k,rfl⟩:=cP ha;obtain⟨c',k',rfl⟩:=cP hb;rw[Bool.eq_false_iff];intro e;simp[aU,beqTs]at e;exact h (by rw[e.1,e.2])
def vG{a:T}(ha:ba cs a=ZC):sm 8 a=ZC:=by obtain⟨c,k,rfl⟩:=cP ha;simp[sm,sms]
def yC(h:i<l.length):aW (.lst l) (.int (i:Int))=.ok l[i]:=by show(match L2.atI l (i:Int)with|some t=>Rs.ok t|none=>.bad)=_;rw[ke (Od h)]
def D9(a b:Int):oj (.int a) (.int b)=.ok (.bl (a == b)):=by unfold oj;rw[if_pos (hV (by simp[T.dep]) rfl rfl)];rfl
theorem Bi(ns:List Int)(hn:ns.length<=63)(a:Nat)(cs:List T)(hc:bq (.tup cs)=ZC):∃r,dM [.scr ns,.int a,.tup cs]=.ok r/\(r=.non\/(bM cs r=ZC/\sm 8 r=ZC)):=by
 obtain⟨ha,h1,h4⟩:=ck hc;have hlen:=uN cs 0 ha;have er:=qK cs hc;have gl:∀s4 s5 s6 s7:Sl,cl cA (ae (vr 3) ai) [.va (.scr ns),.va (.int a),.va (.tup cs),.va (.lst (fT 0 cs)),s4,s5,s6,s7]=.ok (.int ((fT 0 cs).length:Nat)):=λ_ _ _ _=>rfl;have s1:cJ (cl bj (ae (vr 2) ai)) (gN 3) [.va (.scr ns),.va (.int a),.va (.tup cs),.em,.em,.em,.em,.em]=.ok (.nx [.va (.scr ns),.va (.int a),.va (.tup cs),.va (.lst (fT 0 cs)),.em,.em,.em,.em]):=bL (aI rfl er) rfl;have lt:o2 wB (cl cA (ae (vr 3) ai)) (cn (.int 2)) [.va (.scr ns),.va (.int a),.va (.tup cs),.va (.lst (fT 0 cs)),.em,.em,.em,.em]=.ok (.bl (decide (((fT 0 cs).length:Int)<2))):=aD (gl _ _ _ _) rfl rfl;by_cases hs:(fT 0 cs).length<2
 .refine⟨.non,bJ rfl ?_,.inl rfl⟩;show fg [.va (.scr ns),.va (.int a),.va (.tup cs),.em,.em,.em,.em,.em]=_;unfold fg;rw[aw s1];rw[decide_eq_true (by omega)]at lt;exact iH ((eJ (bQ lt)).trans rfl)
 .rw[decide_eq_false (by omega)]at lt;generalize hN:(fT 0 cs).length=n at*;obtain⟨d1,e1,p1,q1⟩:=eI ns a (n:Int) hn (by omega);obtain⟨d2,e2,p2,q2⟩:=eI ns (a+1) ((n:Int) - 1) hn (by omega);obtain⟨d3,e3,p3,q3⟩:=eI ns (a+2) 8 hn (by omega);obtain⟨d4,e4,p4,q4⟩:=eI ns (a+3) 3 hn (by omega);obtain⟨d5,e5,p5,q5⟩:=eI ns (a+4) 9 hn (by omega);obtain⟨i,rfl⟩:=Pt p1;obtain⟨d2,rfl⟩:=Pt p2;have hi:i<(fT 0 cs).length:=by omega
  have hj:(i+1+d2) % n<(fT 0 cs).length:=by rw[hN];exact Nat.mod_lt _ (by omega)
  have hij:i≠(i+1+d2) % n:=by
   rcases Rj (i+1+d2) n with q|q
   .rw[WO q];omega
   .have:(i+1+d2) % n=i+1+d2 - n:=by rw[Nat.mod_eq_sub_mod q,WO (by omega)]
    rw[this];omega
  have eA:=nS (PN hi);have eB:=nS (PN hj);have eN:(fT 0 cs)[i] ≠(fT 0 cs)[(i+1+d2) % n]:=C4 (mW cs 0) hi hj hij;generalize hA:(fT 0 cs)[i]=A at*;generalize hB:(fT 0 cs)[(i+1+d2) % n]=B at*;let y:T:=if d4 == 0 then .non else .int (d3+d5);refine⟨.tup [A,B,.int d3,y],bJ rfl ?_,.inr ⟨?_,?_⟩⟩
  .show fg [.va (.scr ns),.va (.int a),.va (.tup cs),.em,.em,.em,.em,.em]=_;unfold fg;rw[aw s1];rw[aw ((dC (bQ lt)).trans rfl)];rw[aw (Z':=[.va (.scr ns),.va (.int a),.va (.tup cs),.va (.lst (fT 0 cs)),.va (.int (i:Nat)),.em,.em,.em]) (bL (fm e1 rfl rfl (gl _ _ _ _)) rfl)];rw[aw (bL (aD (aD rfl (fm e2 rfl rfl (aD (gl _ _ _ _) rfl rfl)) rfl) (gl _ _ _ _) (lE (by omega))) rfl)];rw[aw (Z':=[.va (.scr ns),.va (.int a),.va (.tup cs),.va (.lst (fT 0 cs)),.va (.int (i:Nat)),.va (.int ((i+1+d2) % n:Nat)),.va (.int d3),.em]) (bL (fm e3 rfl rfl rfl) rfl)];have ey:DO (tb (o2 oj (cl aJ (ae (vr 0) (ae (o2 aY (vr 1) (cn (.int 3))) (ae (cn (.int 3)) ai)))) (cn (.int 0)))) (cn .non) (o2 aY (vr 6) (cl aJ (ae (vr 0) (ae (o2 aY (vr 1) (cn (.int 4))) (ae (cn (.int 9)) ai))))) [.va (.scr ns),.va (.int a),.va (.tup cs),.va (.lst (fT 0 cs)),.va (.int (i:Nat)),.va (.int ((i+1+d2) % n:Nat)),.va (.int d3),.em]=.ok y:=by
    rw[wM (bQ (aD (fm e4 rfl rfl rfl) rfl (D9 _ _)))];show _=Rs.ok (if d4 == 0 then T.non else .int (d3+d5));cases d4 == 0 with
    |true=>rfl
    |false=>exact aD rfl (fm e5 rfl rfl rfl) rfl
   rw[aw (bL ey rfl)];refine b8 (dA (ar (aD rfl rfl ?_) (ar (aD rfl rfl ?_) (ar rfl (ar rfl rfl)))) (aB (k:=4) (by simp)))
   .rw[<-hA];exact yC hi
   .rw[<-hB];exact yC hj
  .show(eG (.int d3) y&&(ba cs A&&(ba cs B&& !aU A B)))=ZC;rw[eA,eB,D7 eA eB eN];have:eG (.int d3) y=ZC:=by
    show(aX (.int d3) 0 999&&(match(T.int d3),(if d4 == 0 then T.non else .int (d3+d5))with|_,.non=>ZC|.int i,_=>aX (if d4 == 0 then T.non else .int (d3+d5)) i 999|_,_=>ZD))=ZC;cases d4 == 0 with
    |true=>simp[aX];omega
    |false=>simp[aX];omega
   rw[this];rfl
  .refine sm_tup.mpr ⟨by simp,λt ht=>?_⟩;have hy:sm 8 y=ZC:=by show sm 8 (if d4 == 0 then T.non else .int (d3+d5))=ZC;cases d4 == 0 <;> simp[sm]
   simp only[Oe,Pb,or_false]at ht;rcases ht with rfl|rfl|rfl|rfl
   .exact vG eA
   .exact vG eB
   .simp[sm]
   .exact hy
def okv:Rs T->T
 |.ok t=>t
 |_=>.non
def uA(l:List T)(k:Int)(h : -(2 ^ 63)<=k/\k<2 ^ 63/\l.length*k.toNat<=ZI):cv (.lst l) (.int k)=.ok (.lst (OH k.toNat l).flatten):=by show yj (.lst l) (.int k)=_;unfold yj;exact if_pos h
def mul_one(x:T)(b:Bool):cv (.lst [x]) (.int (if b then 1 else 0))=.ok (.lst (if b then [x]else [])):=by
 cases b with
 |true=>exact uA [x] 1 ⟨by decide,by decide,aB (k:=1) (by simp)⟩
 |false=>exact uA [x] 0 ⟨by decide,by decide,aB (k:=1) (by simp)⟩
def BC(cs ls:List T):Prop:=∀t∈ls,bM cs t=ZC/\sm 8 t=ZC
theorem Gh(ns:List Int)(hn:ns.length<=63)(a j:Nat)(m:T)(cs ls:List T)(hc:bq (.tup cs)=ZC)(h:BC cs ls)(hl:ls.length<=100)(s6:Sl):
  ∃ls2 s7,leF [.va (.scr ns),.va (.int a),.va m,.va (.tup cs),.va (.lst ls),.va (.int j),s6]=.ok (.nx [.va (.scr ns),.va (.int a),.va m,.va (.tup cs),.va (.lst ls2),.va (.int j),s7])/\BC cs ls2/\ls2.length<=ls.length+1:=by
 obtain⟨r,er,hr⟩:=Bi ns hn (a+31+6*j) cs hc;have e1:∀G,aA (cJ (cl dM (ae (vr 0) (ae (o2 aY (o2 aY (vr 1) (cn (.int 31))) (o2 cv (cn (.int 6)) (vr 5))) (ae (vr 3) ai)))) (gN 6)) G [.va (.scr ns),.va (.int a),.va m,.va (.tup cs),.va (.lst ls),.va (.int j),s6]=G [.va (.scr ns),.va (.int a),.va m,.va (.tup cs),.va (.lst ls),.va (.int j),.va r]:=λG=>by refine aw (bL (aI (ar rfl (ar (aD rfl (aD rfl rfl (l8 (by omega) (by omega))) rfl) (ar rfl rfl))) er) rfl)
 have e2:cl wO (ae (o2 fW (vr 6) (cn .non)) ai) [.va (.scr ns),.va (.int a),.va m,.va (.tup cs),.va (.lst ls),.va (.int j),.va r]=.ok (.int (if !r.isN then 1 else 0)):=aI rfl rfl;refine⟨ls++(if !r.isN then [r]else []),.va r,?_,?_,?_⟩
 .refine(e1 _).trans (bL (aD rfl (aD (jV rfl (aB (k:=1) (by simp))) e2 (mul_one _ _)) (oS _ _ ?_)) rfl);rw[Ol];cases r.isN <;> simp <;> omega
 .intro t ht;rcases OP.mp ht with ht|ht
  .exact h t ht
  .rcases hr with rfl|hr
   .cases ht
   .cases q:r.isN with
    |true=>rw[q]at ht;cases ht
    |false=>
     rw[q]at ht;rw[show t=r by simpa using ht];exact hr
 .rw[Ol];cases r.isN <;> simp
theorem zQ(ns:List Int)(hn:ns.length<=63)(a:Nat)(m:T)(cs:List T)(hc:bq (.tup cs)=ZC):∀(js:List Nat)(ls:List T)(s5 s6:Sl),BC cs ls->ls.length+js.length<=100 ->
  ∃ls2 t5 t6,bA (gN 5) leF (js.map λ(j:Nat)=>T.int j) [.va (.scr ns),.va (.int a),.va m,.va (.tup cs),.va (.lst ls),s5,s6]=.ok (.nx [.va (.scr ns),.va (.int a),.va m,.va (.tup cs),.va (.lst ls2),t5,t6])/\BC cs ls2/\ls2.length<=ls.length+js.length
 |[],ls,s5,s6,h,_=>⟨ls,s5,s6,rfl,h,Oq _⟩
 |j::js,ls,s5,s6,h,hl=>by rw[Oh]at hl;obtain⟨l2,s7,e2,h2,n2⟩:=Gh ns hn a j m cs ls hc h (by omega) s6;obtain⟨l3,t5,t6,e3,h3,n3⟩:=zQ ns hn a m cs hc js l2 (.va (.int j)) s7 h2 (by omega);refine⟨l3,t5,t6,?_,h3,by rw[Oh];omega⟩;rw[Oa,dO rfl e2];exact e3
theorem Ki(ns:List Int)(hn:ns.length<=63)(a m:Nat)(hm:m<=8):∃cs ls,gh [.scr ns,.int a,.int m]=.ok (RR cs ls)/\bq (.tup cs)=ZC/\cs.length<=3/\(∀c∈cs,sm 8 c=ZC)/\BC cs ls/\ls.length<=m:=by
 obtain⟨d1,e1,p1,q1⟩:=eI ns a 3 hn (by omega);obtain⟨d2,e2,p2,q2⟩:=eI ns (a+30) ((m:Int)+1) hn (by omega);obtain⟨d1,rfl⟩:=Pt p1;obtain⟨d2,rfl⟩:=Pt p2;let hcl:T->T:=λt=>match t with
  |.int k=>okv (dk [.scr ns,.int ((a:Int)+1+8*k)])
  |_=>.non
 have hh:∀t∈rng 0 ((1+d1:Nat):Int),∃k:Nat,t=.int k/\dk [.scr ns,.int ((a+1+8*k:Nat):Int)]=.ok (hcl t)/\bF (hcl t)=ZC/\sm 8 (hcl t)=ZC:=λt ht=>by
  obtain⟨k,rfl,_⟩:=tS ht;obtain⟨c,ec,h1,h2⟩:=Eh ns hn (a+1+8*k);have e:hcl (.int k)=c:=by show okv (dk [.scr ns,.int ((a+1+8*k:Nat):Int)])=c;rw[ec];rfl
  exact⟨k,rfl,by rw[e];exact ec,by rw[e];exact h1,by rw[e];exact h2⟩
 generalize hcs:(rng 0 ((1+d1:Nat):Int)).map hcl=cs;have lc:cs.length=1+d1:=by rw[<-hcs,N9,lT]
 have hc:bq (.tup cs)=ZC:=by show(eX (.tup cs) 1 4&&cs.all bF)=ZC;rw[N7,OB];refine⟨by simp[eX];omega,λc h=>?_⟩;rw[<-hcs]at h;obtain⟨t,ht,rfl⟩:=On.mp h;obtain⟨_,_,_,h1,_⟩:=hh t ht;exact h1
 have hsm:∀c∈cs,sm 8 c=ZC:=λc h=>by rw[<-hcs]at h;obtain⟨t,ht,rfl⟩:=On.mp h;obtain⟨_,_,_,_,h1⟩:=hh t ht;exact h1
 obtain⟨ls,t5,t6,el,hl,nl⟩:=zQ ns hn a (.int m) cs hc (Oj d2) [] .em .em (λt h=>by cases h) (by simp;omega);refine⟨cs,ls,bJ rfl ?_,hc,by omega,hsm,hl,by simp at nl;omega⟩;show iO [.va (.scr ns),.va (.int a),.va (.int m),.em,.em,.em,.em]=_;unfold iO;have s1:cJ (cl fo (ae (d9 (iR (ae (o2 aY (cn (.int 1)) (cl aJ (ae (vr 0) (ae (vr 1) (ae (cn (.int 3)) ai))))) ai)) [ZB,ZA 0,ZA 1] (gN 0) bT (cl dk (ae (vr 1) (ae (o2 aY (o2 aY (vr 2) (cn (.int 1))) (o2 cv (cn (.int 8)) (vr 0))) ai)))) ai)) (gN 3) [.va (.scr ns),.va (.int a),.va (.int m),.em,.em,.em,.em]=.ok (.nx [.va (.scr ns),.va (.int a),.va (.int m),.va (.tup cs),.em,.em,.em]):=by refine bL (aI (ar (t:=.lst cs) ?_ rfl) rfl) rfl;rw[<-hcs];refine m7 (HJ (ar (aD rfl (fm e1 rfl rfl rfl) rfl) rfl) (by omega) (by omega)) (aB (k:=3) (by rw[lT];omega)) (by simp) λt ht=>?_;obtain⟨k,rfl,ek,_,_⟩:=hh t ht;refine aI (ar rfl (ar (aD rfl (aD rfl rfl (l8 (by omega) (by omega))) rfl) rfl)) ek
 rw[aw s1];rw[aw (bL (jV rfl (aB (k:=0) (by simp))) rfl)];rw[aw ((fX (HJ (ar (fm e2 rfl rfl (aD rfl rfl rfl)) rfl) (by omega) (by omega)) (by rw[jc];exact el)))];exact b8 (dA (ar rfl (ar rfl rfl)) (aB (k:=2) (by simp)))
def eF{t:T}(h:bM cs t=ZC):∃a b x y,t=.tup [a,b,x,y]/\eG x y=ZC/\ba cs a=ZC/\ba cs b=ZC/\aU a b=ZD:=by
 unfold bM at h;split at h
 .simp only[N7,TU]at h;exact⟨_,_,_,_,rfl,h.1,h.2.1,h.2.2.1,h.2.2.2⟩
 .cases h
def Iz{ls:List T}(hc:bq (.tup cs)=ZC)(hs:∀c∈cs,sm 8 c=ZC)(hl:BC cs ls)(hn:ls.length<=8):gx (RR cs ls)=ZC/\sm 8 (RR cs ls)=ZC:=by
 refine⟨?_,?_⟩
 .show(bq (.tup cs)&&(eX (.tup ls) 0 8&&ls.all (bM cs)))=ZC;rw[hc,RM,N7,OB];exact⟨by simp[eX];exact hn,λt ht=>(hl t ht).1⟩
 .refine sm_tup.mpr ⟨by simp,λt ht=>?_⟩;simp only[Oe,Pb,or_false]at ht;rcases ht with rfl|rfl
  .exact sm_tup.mpr ⟨by have:=(ck hc).2.2;omega,hs⟩
  .exact sm_tup.mpr ⟨hn,λt ht=>(hl t ht).2⟩
end G
namespace Tr
open PySem
section
variable {f fa fb:Y2}{fs:Y0}{b c:Y3}{F G:Y1}{Z Z' Z1 Z2:En}{t u r:T}{ts l m:List T}
mutual
theorem nr:∀(t:T),t.pl=ZC->aU t t=ZC
 |.non,_=>rfl
 |.bl a,_=>by simp[aU]
 |.int a,_=>by simp[aU]
 |.str a,_=>by simp[aU]
 |.tup l,h=>by rw[aU];exact beqTs_refl l (by unfold T.pl at h;exact h)
 |.lst l,h=>by rw[aU];exact beqTs_refl l (by unfold T.pl at h;exact h)
 |.scr _,h=>by simp[T.pl]at h
theorem beqTs_refl:∀(l:List T),plS l=ZC->beqTs l l=ZC
 |[],_=>rfl
 |t::l,h=>by unfold plS at h;rw[N7]at h;rw[beqTs,nr t h.1,beqTs_refl l h.2];rfl
end
def kB(hp:t.pl=ZC)(hd:t.dep<=60):oB t t=.ok (.bl ZD):=by unfold oB;rw[if_pos (hV hd (T.KF _ hp) (T.KF _ hp)),nr t hp];rfl
def mq(hp:t.pl=ZC)(hd:t.dep<=60):oj t t=.ok (.bl ZC):=by unfold oj;rw[if_pos (hV hd (T.KF _ hp) (T.KF _ hp)),nr t hp]
theorem gi:∀{l:List T},(∀t∈l,t.dep<=n)->deps l<=n
 |[],_=>by unfold deps;omega
 |t::l,h=>by unfold deps;have:=gi λu hu=>h u (N6 _ hu);have:=h t Ob;omega
theorem gz:∀{l:List T},(∀t∈l,t.pl=ZC)->plS l=ZC
 |[],_=>rfl
 |t::l,h=>by unfold plS;rw[h t Ob,gz λu hu=>h u (N6 _ hu)];rfl
end
end Tr
variable{j:Nat}
namespace G
open PySem Tr
def dr(r:List Int)(k:Nat):Int:=r.getD (k+1) 0 - r.getD k 0
noncomputable def pr(n:Nat)(x y:Int)(r:List Int)(k:Nat):List T:=
 [.tup [.tup [.int n,.int k],.tup [.int n,.int ((k+1:Nat):Int)],.int (dr r k*y)],.tup [.tup [.int n,.int ((k+1:Nat):Int)],.tup [.int n,.int k],.int (-dr r k*x)]]
def cB(n:Nat)(x y:Int)(r:List Int):List T:=(Oj (r.length - 1)).flatMap (pr n x y r)
noncomputable abbrev KL(n:Nat)(x y:Int)(r:List Int)(acc:List T)(s4 s5 s6 s7:Sl):En:=[.va (.int n),.va (.tup [.int x,.int y,.tup (r.map .int)]),.va (.tup (r.map .int)),.ow (.lst acc),s4,s5,s6,s7]
def oM(h:k<r.length):(r.map T.int)[k]?=ZA (.int (r.getD k 0)):=by rw[Ot,Od h];simp[h]
theorem G1(n:Nat)(x y:Int)(r:List Int)(acc:List T)(k:Nat)(s5 s6 s7:Sl)(hk:k+1<r.length)(hx:0<=x/\x<=9)(hy:0<=y/\y<=9)(ha:acc.length<=100):
  bcF (KL n x y r acc (.va (.int k)) s5 s6 s7)=.ok (.nx (KL n x y r (acc++pr n x y r k) (.va (.int k)) (.va (.tup [.int n,.int k])) (.va (.tup [.int n,.int ((k+1:Nat):Int)])) (.va (.int (dr r k))))):=by
 have h2:([T.int n,T.int k]:List T).length<=ZI:=aB (k:=2) (by simp);have ek:((k:Int)+1)=((k+1:Nat):Int):=by omega
 refine(aw (bL (dA rfl (aB (k:=2) (by simp))) rfl)).trans ?_;refine(aw (bL (dA (ar rfl (ar (aD rfl rfl (congrArg (λz=>Rs.ok (T.int z)) ek)) rfl)) (aB (k:=2) (by simp))) rfl)).trans ?_;refine(aw (bL (aD (rE rfl (aD rfl rfl (congrArg (λz=>Rs.ok (T.int z)) ek)) (oM hk)) (rE rfl rfl (oM (by omega))) rfl) rfl)).trans ?_;refine(aw (nR (dA (ar rfl (ar rfl (ar (aD rfl rfl (C7 (by omega) (by omega))) rfl))) (aB (k:=3) (by simp))) rfl (by omega))).trans ?_;refine(nR (dA (ar rfl (ar rfl (ar (aD rfl rfl (C7 (by omega) (by omega))) rfl))) (aB (k:=3) (by simp))) rfl (by rw[Ol];simp;omega)).trans ?_;rw[OQ];rfl
theorem Aq(n:Nat)(x y:Int)(r:List Int)(hx:0<=x/\x<=9)(hy:0<=y/\y<=9):∀(js:List Nat)(acc:List T)(s4 s5 s6 s7:Sl),(∀k∈js,k+1<r.length)->acc.length+2*js.length<=100 ->
  ∃t4 t5 t6 t7,bA (gN 4) bcF (js.map λ(k:Nat)=>T.int k) (KL n x y r acc s4 s5 s6 s7)=.ok (.nx (KL n x y r (acc++js.flatMap (pr n x y r)) t4 t5 t6 t7))
 |[],acc,s4,s5,s6,s7,_,_=>⟨s4,s5,s6,s7,by simp[bA]⟩
 |k::js,acc,s4,s5,s6,s7,hk,hl=>by rw[Oh]at hl;have e:=G1 n x y r acc k s5 s6 s7 (hk k Ob) hx hy (by omega);obtain⟨t4,t5,t6,t7,ih⟩:=Aq n x y r hx hy js (acc++pr n x y r k) (.va (.int k)) (.va (.tup [.int n,.int k])) (.va (.tup [.int n,.int ((k+1:Nat):Int)])) (.va (.int (dr r k))) (λj hj=>hk j (N6 _ hj)) (by rw[Ol];simp[pr];omega);refine⟨t4,t5,t6,t7,?_⟩;rw[Oa,dO rfl e,ih,QP,OQ]
theorem El(n:Nat)(x y:Int)(r:List Int)(hx:0<=x/\x<=9)(hy:0<=y/\y<=9)(h1:1<=r.length)(h4:r.length<=4):dj [.int n,.tup [.int x,.int y,.tup (r.map .int)]]=.ok (.lst (cB n x y r)):=by
 refine bJ rfl ?_;show fQ [.va (.int n),.va (.tup [.int x,.int y,.tup (r.map .int)]),.em,.em,.em,.em,.em,.em]=_;unfold fQ;rw[aw (bL rfl rfl)];rw[aw (Z':=KL n x y r [] .em .em .em .em) rfl];obtain⟨t4,t5,t6,t7,e⟩:=Aq n x y r hx hy (Oj (r.length - 1)) [] .em .em .em .em (λk hk=>by have:=OZ.mp hk;omega) (by simp;omega);have e1:iR (ae (o2 fB (cl cA (ae (vr 2) ai)) (cn (.int 1))) ai) (KL n x y r [] .em .em .em .em)=.ok (rng 0 ((r.length - 1:Nat):Int)):=by refine HJ (ar (aD (t:=.int (r.length:Nat)) (aI rfl (by show Rs.ok (T.int ((r.map T.int).length:Nat))=_;rw[N9])) rfl (congrArg (λz=>Rs.ok (T.int z)) (by omega))) rfl) (by omega) (by omega)
 rw[aw ((fX (by rw[e1,jc]) e))];rfl
theorem d8{t:T}(h:bF t=ZC):∃(x y:Int)(r:List Int),t=.tup [.int x,.int y,.tup (r.map .int)]/\(0<=x/\x<=9)/\(0<=y/\y<=9)/\1<=r.length/\r.length<=4:=by obtain⟨x,y,r,rfl,h1,h4⟩:=iy h;have h':(lX x y&&cE (.tup r))=ZC:=h;rw[N7]at h';obtain⟨hp,hr⟩:=h';unfold lX at hp;rw[N7]at hp;obtain⟨i,rfl,i1,i2⟩:=dv hp.1;obtain⟨j,rfl,j1,j2⟩:=dv hp.2;unfold cE at hr;rw[N7]at hr;have hr2:((r.all λu=>aX u 0 99)&&(match nums r with|some m=>mC m|none=>ZD))=ZC:=hr.2;rw[N7]at hr2;obtain⟨m,em⟩:=ur hr2.1;have e:=qc em;subst e;rw[N9]at h1 h4;exact⟨i,j,m,rfl,⟨by omega,by omega⟩,⟨by omega,by omega⟩,h1,h4⟩
noncomputable def xB(n:Nat)(t:T):List T:=match t with
 |.tup [.int x,.int y,.tup r] =>match nums r with
  |some m=>cB n x y m
  |none=>[]
 |_=>[]
def bC:Nat->List T->List T
 |_,[] =>[]
 |i,c::r=>xB i c++bC (i+1) r
noncomputable def lB(t:T):List T:=match t with
 |.tup [a,b,.int le,mo] =>.tup [b,a,.int (-le)] ::(if mo.isN then []else [.tup [a,b,mo]])
 |_=>[]
def Bx(cs ls:List T):List T:=bC 0 cs++ls.flatMap lB
def oV(n:Nat)(x y:Int)(r:List Int):xB n (.tup [.int x,.int y,.tup (r.map .int)])=cB n x y r:=by unfold xB;simp only[gW]
theorem Ks(n:Nat)(x y:Int)(r:List Int):(cB n x y r).length=2*(r.length - 1):=by
 unfold cB;rw[List.length_flatMap];have:∀l:List Nat,(l.map λk=>(pr n x y r k).length).sum=2*l.length:=by
  intro l;induction l with
  |nil=>rfl
  |cons a l ih=>rw[Oa,QL,ih,Oh];simp[pr];omega
 rw[this,OR]
theorem xF{t:T}(h:bF t=ZC):(xB n t).length<=6:=by obtain⟨x,y,r,rfl,_,_,h1,h4⟩:=d8 h;rw[oV,Ks];omega
theorem uY:∀{cs:List T}{i:Nat},(∀c∈cs,bF c=ZC)->(bC i cs).length<=6*cs.length
 |[],i,_=>by simp[bC]
 |c::cs,i,h=>by rw[bC,Ol,Oh];have:=xF (n:=i) (h c Ob);have:=uY (i:=i+1) λc hc=>h c (N6 _ hc);omega
def yy(t:T):(lB t).length<=2:=by
 unfold lB;split
 .rename_i a b le mo;cases mo.isN <;> simp
 .simp
theorem zU:∀(ls:List T),(ls.flatMap lB).length<=2*ls.length
 |[] =>by simp
 |t::ls=>by rw[QP,Ol,Oh];have:=yy t;have:=zU ls;omega
variable{cs:List T}
def jU{t:T}(h:bM cs t=ZC):∃(a b mo:T)(le:Int),t=.tup [a,b,.int le,mo]/\ba cs a=ZC/\ba cs b=ZC:=by obtain⟨a,b,x,y,rfl,hd,ha,hb,_⟩:=eF h;unfold eG at hd;rw[N7]at hd;obtain⟨i,rfl,_⟩:=dv hd.1;exact⟨a,b,y,i,rfl,ha,hb⟩
def Bj{t:T}(h:bM cs t=ZC):cZ [t]=.ok (.lst (lB t)):=by
 obtain⟨a,b,mo,le,rfl,_,_⟩:=jU h;refine bJ rfl ?_;show fy [.va (.tup [a,b,.int le,mo]),.em]=_;unfold fy;rw[aw (Z':=[.va (.tup [a,b,.int le,mo]),.ow (.lst [.tup [b,a,.int (-le)]])]) (DD (ar (dA (ar rfl (ar rfl (ar rfl rfl))) (aB (k:=3) (by simp))) rfl) (by simp) (by simp))];have e:∀(Z:En) l,Z=[.va (.tup [a,b,.int le,mo]),.ow (.lst l)]->o2 fW (o2 aW (vr 0) (cn (.int 3))) (cn .non) Z=.ok (.bl (!mo.isN)):=λZ l z=>by subst z;rfl
 have e2:lB (.tup [a,b,.int le,mo])=.tup [b,a,.int (-le)] ::(if mo.isN then []else [.tup [a,b,mo]]):=rfl;rw[e2];cases q:mo.isN with
 |true=>
  rw[aw ((dC (bQ (by rw[e _ _ rfl,q];rfl))).trans rfl)];rfl
 |false=>
  rw[aw ((eJ (bQ (by rw[e _ _ rfl,q];rfl))).trans (nR (dA (ar rfl (ar rfl (ar rfl rfl))) (aB (k:=3) (by simp))) rfl (by simp)))];rfl
abbrev bdG:T->En->Rs En:=gT 2 (i7 (gN 2) (i7 (gN 3) ve))
theorem Ap(R:T)(s4:Sl):∀(cs:List T)(acc:List T)(i:Nat)(s2 s3:Sl),(∀c∈cs,bF c=ZC)->acc.length+6*cs.length<=100 ->
  ∃y2 y3,bA bdG bdF (dP i cs) [.va R,.ow (.lst acc),s2,s3,s4]=.ok (.nx [.va R,.ow (.lst (acc++bC i cs)),y2,y3,s4])
 |[],acc,i,s2,s3,_,_=>⟨s2,s3,by simp[dP,bA,bC]⟩
 |c::cs,acc,i,s2,s3,hc,hl=>by
  have h0:=hc c Ob;have hx:=xF (n:=i) h0;obtain⟨x,y,r,rfl,a1,a2,a3,a4⟩:=d8 h0;rw[Oh]at hl;rw[oV]at hx;have st:bdF [.va R,.ow (.lst acc),.va (.int i),.va (.tup [.int x,.int y,.tup (r.map .int)]),s4]=.ok (.nx [.va R,.ow (.lst (acc++cB i x y r)),.va (.int i),.va (.tup [.int x,.int y,.tup (r.map .int)]),s4]):=
   DF (aI rfl (El i x y r a1 a2 a3 a4)) rfl (by omega)
  obtain⟨z2,z3,ih⟩:=Ap R s4 cs (acc++cB i x y r) (i+1) (.va (.int i)) (.va (.tup [.int x,.int y,.tup (r.map .int)])) (λc h=>hc c (N6 _ h)) (by rw[Ol];omega);refine⟨z2,z3,?_⟩;rw[dP,dO rfl st,ih,bC,oV,OQ]
abbrev blF:Y1:=pG 1 (cl cZ (ae (vr 4) ai))
theorem An(R:T)(cs:List T)(s2 s3:Sl):∀(ls:List T)(acc:List T)(s4:Sl),(∀t∈ls,bM cs t=ZC)->acc.length+2*ls.length<=100 ->
  ∃y4,bA (gN 4) blF ls [.va R,.ow (.lst acc),s2,s3,s4]=.ok (.nx [.va R,.ow (.lst (acc++ls.flatMap lB)),s2,s3,y4])
 |[],acc,s4,_,_=>⟨s4,by simp[bA]⟩
 |t::ls,acc,s4,hl,hn=>by rw[Oh]at hn;have:=yy t;have st:blF [.va R,.ow (.lst acc),s2,s3,.va t]=.ok (.nx [.va R,.ow (.lst (acc++lB t)),s2,s3,.va t]):=DF (aI rfl (Bj (hl t Ob))) rfl (by omega);obtain⟨y4,ih⟩:=An R cs s2 s3 ls (acc++lB t) (.va t) (λu h=>hl u (N6 _ h)) (by rw[Ol];omega);refine⟨y4,?_⟩;rw[dO rfl st,ih,QP,OQ]
variable{R:T}
def qi(hp:R.pl=ZC)(h:gx R=ZC):cp [R]=.ok .non:=by refine yz (Z:=[.va R]) rfl ?_;show e9 [.va R]=_;unfold e9;exact(dC ((iu (k:=ZC) (bQ (aI rfl (by rw[wZ R hp,h])))))).trans rfl
def r8(hp:R.pl=ZC)(h:gx R=ZD):cp [R]=.err "NoRecord":=by refine fJ rfl ?_;show e9 [.va R]=_;unfold e9;exact(eJ ((iu (k:=ZD) (bQ (aI rfl (by rw[wZ R hp,h])))))).trans rfl
structure Good (cs ls:List T):Prop where
 c:bq (.tup cs)=ZC
 l:∀t∈ls,bM cs t=ZC
 n:ls.length<=8
 p:(RR cs ls).pl=ZC
variable{ls:List T}
def Good.ok(g:Good cs ls):gx (RR cs ls)=ZC:=by show(bq (.tup cs)&&(eX (.tup ls) 0 8&&ls.all (bM cs)))=ZC;rw[g.c,RM,N7,OB];exact⟨by simp[eX];exact g.n,g.l⟩
theorem Ej(g:Good cs ls):eV [RR cs ls]=.ok (.lst (Bx cs ls)):=by obtain⟨hc,c1,c4⟩:=ck g.c;have hn:=g.n;refine bJ rfl ?_;show kl [.va (RR cs ls),.em,.em,.em,.em]=_;unfold kl;rw[aw (uJ (aI rfl (qi g.p g.ok)))];rw[aw (Z':=[.va (RR cs ls),.ow (.lst []),.em,.em,.em]) (uH (by simp))];obtain⟨y2,y3,e⟩:=Ap (RR cs ls) .em cs [] 0 .em .em hc (by simp;omega);rw[aw ((fX rfl e))];have:=uY (i:=0) hc;obtain⟨y4,e2⟩:=An (RR cs ls) cs y2 y3 ls ([] ++bC 0 cs) .em g.l (by rw[P2];omega);rw[aw ((fX rfl e2))];rfl
noncomputable abbrev HB(R:T)(acc:List T)(n:Nat)(x y:Int)(r:List Int)(s6 s7 s8 s9 s10 s11:Sl):En:=[.va R,.ow (.lst acc),.va (.int n),.va (.int x),.va (.int y),.va (.tup (r.map .int)),s6,s7,s8,s9,s10,s11]
theorem Gg(R:T)(n:Nat)(x y:Int)(r:List Int)(acc:List T)(k:Nat)(s7 s8 s9 s10 s11:Sl)(hk:k+1<r.length)(hx:0<=x/\x<=9)(hy:0<=y/\y<=9)(ha:acc.length<=100):
  lkF (HB R acc n x y r (.va (.int ((k+1:Nat):Int))) s7 s8 s9 s10 s11)=.ok (.nx (HB R (acc++pr n x y r k) n x y r (.va (.int ((k+1:Nat):Int))) (.va (.int (dr r k))) s8 s9 s10 s11)):=by
 have sb:∀acc s7,o2 fB (vr 6) (cn (.int 1)) (HB R acc n x y r (.va (.int ((k+1:Nat):Int))) s7 s8 s9 s10 s11)=.ok (.int k):=λacc s7=>aD rfl rfl (congrArg (λz=>Rs.ok (T.int z)) (by omega));refine(aw (bL (aD (rE rfl rfl (oM hk)) (rE rfl (sb acc s7) (oM (by omega))) rfl) rfl)).trans ?_;refine(aw (nR (dA (ar (dA (ar rfl (ar (sb _ _) rfl)) (aB (k:=2) (by simp))) (ar (dA rfl (aB (k:=2) (by simp))) (ar (aD rfl rfl ((l8 (by omega) (by omega)).trans (by rw[UD]))) rfl))) (aB (k:=3) (by simp))) rfl (by omega))).trans ?_;refine(nR (t:=.tup [.tup [.int n,.int ((k+1:Nat):Int)],.tup [.int n,.int k],.int (-dr r k*x)]) (dA (ar (dA rfl (aB (k:=2) (by simp))) (ar (dA (ar rfl (ar (sb _ _) rfl)) (aB (k:=2) (by simp))) (ar (aD rfl (aD (u:=.int (dr r k)) rfl rfl (l8 (by omega) (by omega))) (congrArg (λz=>Rs.ok (T.int z)) (by rw[Int.neg_mul,UD x,Int.zero_sub]))) rfl))) (aB (k:=3) (by simp))) rfl (by rw[Ol];simp;omega)).trans ?_;rw[OQ];rfl
theorem zK(R:T)(n:Nat)(x y:Int)(r:List Int)(s8 s9 s10 s11:Sl)(hx:0<=x/\x<=9)(hy:0<=y/\y<=9):∀(js:List Nat)(acc:List T)(s6 s7:Sl),(∀k∈js,k+1<r.length)->acc.length+2*js.length<=100 ->
  ∃t6 t7,bA (gN 6) lkF (js.map λ(k:Nat)=>T.int ((k+1:Nat):Int)) (HB R acc n x y r s6 s7 s8 s9 s10 s11)=.ok (.nx (HB R (acc++js.flatMap (pr n x y r)) n x y r t6 t7 s8 s9 s10 s11))
 |[],acc,s6,s7,_,_=>⟨s6,s7,by simp[bA]⟩
 |k::js,acc,s6,s7,hk,hl=>by rw[Oh]at hl;have e:=Gg R n x y r acc k s7 s8 s9 s10 s11 (hk k Ob) hx hy (by omega);obtain⟨t6,t7,ih⟩:=zK R n x y r s8 s9 s10 s11 hx hy js (acc++pr n x y r k) (.va (.int ((k+1:Nat):Int))) (.va (.int (dr r k))) (λj hj=>hk j (N6 _ hj)) (by rw[Ol];simp[pr];omega);refine⟨t6,t7,?_⟩;rw[Oa,dO rfl e,ih,QP,OQ]
theorem Ft(n:Nat)(h:1<=n):rng 1 (n:Int)=(Oj (n - 1)).map λ(k:Nat)=>T.int ((k+1:Nat):Int):=by
 unfold rng;have:((n:Int) - 1).toNat=n - 1:=by omega
 rw[this];exact OL λk _=>congrArg T.int (by omega)
variable{Z:En}
theorem iR2{f:Y0}{i j:Int}(h:f Z=.ok [.int i,.int j])(h0:0<=i)(h1:i<=100000)(h2:0<=j)(h3:j<=100000):iR f Z=.ok (rng i j):=by
 unfold iR;rw[h];have e:(mi i&&mi j)=ZC:=by unfold mi;simp;omega
 show(if (mi i&&mi j)=ZC then _ else _)=_;rw[e];rfl
abbrev LW:Y1:=(eh (iR (ae (cn (.int 1)) (ae (cl cA (ae (vr 5) ai)) ai))) (gN 6) lkF)
noncomputable abbrev lcG:T->En->Rs En:=gT 2 (i7 (gN 2) (i7 (gT 3 (i7 (gN 3) (i7 (gN 4) (i7 (gN 5) ve)))) ve))
theorem zS(R:T)(s8 s9 s10 s11:Sl):∀(cs:List T)(acc:List T)(i:Nat)(s2 s3 s4 s5 s6 s7:Sl),(∀c∈cs,bF c=ZC)->acc.length+6*cs.length<=90 ->
  ∃y2 y3 y4 y5 y6 y7,bA lcG LW (dP i cs) [.va R,.ow (.lst acc),s2,s3,s4,s5,s6,s7,s8,s9,s10,s11]=.ok (.nx [.va R,.ow (.lst (acc++bC i cs)),y2,y3,y4,y5,y6,y7,s8,s9,s10,s11])
 |[],acc,i,s2,s3,s4,s5,s6,s7,_,_=>⟨s2,s3,s4,s5,s6,s7,by simp[dP,bA,bC]⟩
 |c::cs,acc,i,s2,s3,s4,s5,s6,s7,hc,hl=>by
  have h0:=hc c Ob;have hx:=xF (n:=i) h0;obtain⟨x,y,r,rfl,a1,a2,a3,a4⟩:=d8 h0;rw[Oh]at hl;rw[oV]at hx;obtain⟨t6,t7,e⟩:=zK R i x y r s8 s9 s10 s11 a1 a2 (Oj (r.length - 1)) acc s6 s7 (λk hk=>by have:=OZ.mp hk;omega) (by rw[OR];omega);have e1:iR (ae (cn (.int 1)) (ae (cl cA (ae (vr 5) ai)) ai)) (HB R acc i x y r s6 s7 s8 s9 s10 s11)=.ok (rng 1 (r.length:Nat)):=
   iR2 (ar rfl (ar (aI rfl (by show Rs.ok (T.int ((r.map T.int).length:Nat))=_;rw[N9])) rfl)) (by omega) (by omega) (by omega) (by omega)
  have st:LW (HB R acc i x y r s6 s7 s8 s9 s10 s11)=.ok (.nx (HB R (acc++cB i x y r) i x y r t6 t7 s8 s9 s10 s11)):=(fX (by rw[e1,Ft _ a3]) e);obtain⟨z2,z3,z4,z5,z6,z7,ih⟩:=zS R s8 s9 s10 s11 cs (acc++cB i x y r) (i+1) (.va (.int i)) (.va (.int x)) (.va (.int y)) (.va (.tup (r.map .int))) t6 t7 (λc h=>hc c (N6 _ h)) (by rw[Ol];omega);refine⟨z2,z3,z4,z5,z6,z7,?_⟩;rw[dP,dO rfl st,ih,bC,oV,OQ]
noncomputable abbrev llG:T->En->Rs En:=gT 4 (i7 (gN 8) (i7 (gN 9) (i7 (gN 10) (i7 (gN 11) ve))))
theorem zJ(R:T)(cs:List T)(s2 s3 s4 s5 s6 s7:Sl):∀(ls:List T)(acc:List T)(s8 s9 s10 s11:Sl),(∀t∈ls,bM cs t=ZC)->acc.length+2*ls.length<=100 ->
  ∃y8 y9 y10 y11,bA llG llF ls [.va R,.ow (.lst acc),s2,s3,s4,s5,s6,s7,s8,s9,s10,s11]=.ok (.nx [.va R,.ow (.lst (acc++ls.flatMap lB)),s2,s3,s4,s5,s6,s7,y8,y9,y10,y11])
 |[],acc,s8,s9,s10,s11,_,_=>⟨s8,s9,s10,s11,by simp[bA]⟩
 |t::ls,acc,s8,s9,s10,s11,hl,hn=>by
  rw[Oh]at hn;have hlb:=yy t;obtain⟨a,b,mo,le,rfl,_,_⟩:=jU (hl t Ob);have e2:lB (.tup [a,b,.int le,mo])=.tup [b,a,.int (-le)] ::(if mo.isN then []else [.tup [a,b,mo]]):=rfl;have e:∀l,o2 fW (vr 11) (cn .non) [.va R,.ow (.lst l),s2,s3,s4,s5,s6,s7,.va a,.va b,.va (.int le),.va mo]=.ok (.bl (!mo.isN)):=λl=>rfl;have st:llF [.va R,.ow (.lst acc),s2,s3,s4,s5,s6,s7,.va a,.va b,.va (.int le),.va mo]=.ok (.nx [.va R,.ow (.lst (acc++lB (.tup [a,b,.int le,mo]))),s2,s3,s4,s5,s6,s7,.va a,.va b,.va (.int le),.va mo]):=by
   refine(aw (Z':=[.va R,.ow (.lst (acc++[.tup [b,a,.int (-le)]])),s2,s3,s4,s5,s6,s7,.va a,.va b,.va (.int le),.va mo]) (nR (dA (ar rfl (ar rfl (ar (aD rfl rfl (congrArg (λz=>Rs.ok (T.int z)) (Int.zero_sub le))) rfl))) (aB (k:=3) (by simp))) rfl (by omega))).trans ?_;rw[e2];cases q:mo.isN with
   |true=>exact(dC (bQ (by rw[e,q];rfl))).trans rfl
   |false=>
    refine(eJ (bQ (by rw[e,q];rfl))).trans ((nR (dA (ar rfl (ar rfl (ar rfl rfl))) (aB (k:=3) (by simp))) rfl (by rw[Ol];simp;omega)).trans ?_);rw[OQ];rfl
  obtain⟨y8,y9,y10,y11,ih⟩:=zJ R cs s2 s3 s4 s5 s6 s7 ls (acc++lB (.tup [a,b,.int le,mo])) (.va a) (.va b) (.va (.int le)) (.va mo) (λu h=>hl u (N6 _ h)) (by rw[Ol];omega);refine⟨y8,y9,y10,y11,?_⟩;rw[dO rfl st,ih,QP,OQ]
theorem Bh(hcs:bq (.tup cs)=ZC)(hls:∀t∈ls,bM cs t=ZC)(hn:ls.length<=8):bV [RR cs ls]=.ok (.lst (Bx cs ls)):=by obtain⟨hc,c1,c4⟩:=ck hcs;refine bJ rfl ?_;show iP [.va (RR cs ls),.em,.em,.em,.em,.em,.em,.em,.em,.em,.em,.em]=_;unfold iP;rw[aw (Z':=[.va (RR cs ls),.ow (.lst []),.em,.em,.em,.em,.em,.em,.em,.em,.em,.em]) (uH (by simp))];obtain⟨y2,y3,y4,y5,y6,y7,e⟩:=zS (RR cs ls) .em .em .em .em cs [] 0 .em .em .em .em .em .em hc (by simp;omega);rw[aw ((fX rfl e))];have:=uY (i:=0) hc;obtain⟨y8,y9,y10,y11,e2⟩:=zJ (RR cs ls) cs y2 y3 y4 y5 y6 y7 ls ([] ++bC 0 cs) .em .em .em .em hls (by rw[P2];omega);rw[aw ((fX rfl e2))];rfl
variable{l:List T}
def gU:(T.tup l).pl=plS l:=by unfold T.pl;rfl
def Good.parts(g:Good cs ls):(T.tup cs).pl=ZC/\∀t∈ls,t.pl=ZC:=by have:=g.p;rw[gU]at this;unfold plS at this;rw[N7]at this;have h2:=this.2;unfold plS at h2;rw[N7,gU]at h2;exact⟨this.1,λt ht=>lW h2.1 ht⟩
variable{ms:List T}
def Good.sub(g:Good cs ls)(hm:∀t∈ms,t∈ls)(hn:ms.length<=8):Good cs ms:=⟨g.c,λt ht=>g.l t (hm t ht),hn,by
 obtain⟨h1,h2⟩:=g.parts;rw[gU];refine gz λt ht=>?_;simp only[Oe,Pb,or_false]at ht;rcases ht with rfl|rfl
 .exact h1
 .rw[gU];exact gz λt ht=>h2 t (hm t ht)⟩
theorem Good.take(g:Good cs ls)(n:Nat):Good cs (ls.take n):=g.sub (λt ht=>Ql ht) (by rw[Po];have:=g.n;omega)
def z8(h:a<=100):mi (a:Int)=ZC:=by unfold mi;simp;omega
def r0:ng "NoRecord" =.ok (cN 0):=by unfold ng;rw[if_pos rfl]
def r1:ng "NoEvent" =.ok (cN 1):=by unfold ng;rw[if_neg (by decide),if_pos rfl]
def r2:ng "NoNumber" =.ok (cN 2):=by unfold ng;rw[if_neg (by decide),if_neg (by decide),if_pos rfl]
def fl2(t:T):Prop:=t.pl=ZC/\t.dep<=5
def Cj(j:Nat):fl2 (cN j):=⟨rfl,by simp[cN,T.dep,deps]⟩
def HL{y:T}(h:ba cs y=ZC):y.pl=ZC/\y.dep<=1:=by obtain⟨c,k,rfl⟩:=cP h;exact⟨rfl,by simp[T.dep,deps]⟩
def LQ{a b x y:T}(h:bM cs (.tup [a,b,x,y])=ZC):y.pl=ZC/\y.dep=0:=by
 obtain⟨a',b',x',y',e,hd,_⟩:=eF h;cases e;unfold eG at hd;rw[N7]at hd;obtain⟨i,rfl,_⟩:=dv hd.1;cases y with
 |non=>exact⟨rfl,rfl⟩
 |int j=>exact⟨rfl,rfl⟩
 |bl j=>exact⟨rfl,rfl⟩
 |str j=>exact⟨rfl,rfl⟩
 |tup j=>cases hd.2
 |lst j=>cases hd.2
 |scr j=>cases hd.2
 |dct _ _=>cases hd.2
def FZ{r:Int}(h0:0<=r)(h1:r<l.length):∃t∈l,aW (.lst l) (.int r)=.ok t:=by
 obtain⟨n,rfl⟩:=Pt h0;have hn:n<l.length:=by omega
 exact⟨l[n],PN hn,yC hn⟩
theorem Gb(j:Nat):oB (cN j) (cN j)=.ok (.bl ZD):=kB (Cj j).1 (by have:=(Cj j).2;omega)
def Iu{t:T}(h:sm 8 t=ZC):t.pl=ZC:=Hm t h
def vW(c0 s1:Sl)(x y:T)(r:List T)(i:Nat)(h:r.length<=4):
  d9 (iR (ae (cl cA (ae (o2 aW (vr 3) (cn (.int 2))) ai)) ai)) [ZB,ZA 2] (gN 0) bT (aQ (ae (vr 1) (ae (vr 0) ai))) [c0,s1,.va (.int i),.va (.tup [x,y,.tup r])]=.ok (.lst (oh i r.length)):=
 m7 (HJ rfl (by omega) (by omega)) (aB (by rw[lT];exact h)) (by simp) λt _=>mk2 _ _
theorem zu:∀(cs:List T)(c0:T)(acc:List T)(i:Nat)(s2 s3:Sl),(∀c∈cs,bF c=ZC)->acc.length+4*cs.length<=100 ->
  ∃y2 y3,bA evG peF (dP i cs) [.va c0,.ow (.lst acc),s2,s3]=.ok (.nx [.va c0,.ow (.lst (acc++fT i cs)),y2,y3])
 |[],c0,acc,i,s2,s3,_,_=>⟨s2,s3,by simp[dP,bA,fT]⟩
 |c::cs,c0,acc,i,s2,s3,hc,hl=>by obtain⟨x,y,r,rfl,r1,r2⟩:=iy (hc c Ob);rw[Oh]at hl;have st:peF [.va c0,.ow (.lst acc),.va (.int i),.va (.tup [x,y,.tup r])]=.ok (.nx [.va c0,.ow (.lst (acc++oh i r.length)),.va (.int i),.va (.tup [x,y,.tup r])]):=DF (vW _ _ x y r i r2) rfl (by rw[j0];omega);obtain⟨z2,z3,ih⟩:=zu cs c0 (acc++oh i r.length) (i+1) (.va (.int i)) (.va (.tup [x,y,.tup r])) (λc h=>hc c (N6 _ h)) (by rw[Ol,j0];omega);refine⟨z2,z3,?_⟩;rw[dP,dO rfl st,ih,fT,OQ];rfl
def CS(g:Good cs ls):eU [RR cs ls]=.ok (.lst (fT 0 cs)):=by obtain⟨hc,c1,c4⟩:=ck g.c;refine bJ rfl ?_;show qW [.va (RR cs ls),.em,.em,.em]=_;unfold qW;rw[aw (uJ (aI rfl (qi g.p g.ok)))];rw[aw (Z':=[.va (RR cs ls),.ow (.lst []),.em,.em]) (uH (by simp))];obtain⟨y2,y3,e⟩:=zu cs (RR cs ls) [] 0 .em .em hc (by simp;omega);rw[aw ((fX rfl e))];rfl
variable{a:Y2}
def p2{b:Y2}{t u:T}(ha:a Z=.ok t)(hb:b Z=.ok u):aQ (ae a (ae b ai)) Z=.ok (.tup [t,u]):=dA (ar ha (ar hb rfl)) (aB (k:=2) (by simp))
def mI:fo [.lst l]=.ok (.tup l):=rfl
theorem G0(g:Good cs ls):(Bx cs ls).length<=60:=by unfold Bx;rw[Ol];obtain⟨hc,c1,c4⟩:=ck g.c;have:=uY (i:=0) hc;have:=zU ls;have:=g.n;omega
open Gr
structure N2 where
 c:Int
 k:Int
deriving DecidableEq
theorem N2.ext':∀{u v:N2},u.c=v.c->u.k=v.k->u=v
 |⟨_,_⟩,⟨_,_⟩,rfl,rfl=>rfl
def en(v:N2):T:=.tup [.int v.c,.int v.k]
noncomputable def eB(x:N2×N2×Int):T:=.tup [en x.1,en x.2.1,.int x.2.2]
def eN(ks:List Nat):List T:=ks.map λk=>.int (k:Nat)
def eW(x:Int×List Nat):T:=.tup [.int x.1,.lst (eN x.2)]
noncomputable def ky(v:N2):List L2.Key:=[.inl v.c,.inl v.k]
def bH(v:N2):keyOf (en v)=ZA (ky v):=rfl
variable{v:N2}
def ji{u:N2}(h:ZA (ky u)=ZA (ky v)):u=v:=by injection h with h;injection h with h1 h2;injection h2 with h2 _;injection h1 with h1;injection h2 with h2;exact N2.ext' h1 h2
def uP{u:N2}(h:en u=en v):u=v:=ji (by rw[<-bH u,<-bH v,h])
def Ey(u v:N2):aU (en u) (en v)=decide (u=v):=by
 unfold en aU beqTs aU beqTs beqTs;by_cases h:u=v
 .subst h;simp[aU]
 .have:¬ (u.c=v.c/\u.k=v.k):=λz=>h (N2.ext' z.1 z.2);simp[h,aU];exact λz=>λy=>this ⟨z,y⟩
theorem oQ(g:N2->T)(v:N2):∀(ns:List N2),lG (ns.map en) (ns.map g) (ky v)=if v∈ns then ZA (g v)else ZB
 |[] =>rfl
 |u::ns=>by
  rw[Oa,Oa,lG,bH];by_cases h:u=v
  .subst h;rw[if_pos rfl,if_pos Ob]
  .rw[if_neg (λz=>h (ji z)),oQ g v ns];have:(v∈u::ns)↔v∈ns:=by rw[Oe];exact⟨λz=>z.elim (λy=>absurd y.symm h) id,.inr⟩
   simp only[this]
theorem qL(x:T)(v:N2)(g:N2->T):∀(ns:List N2),v∉ns->hZ (en v) x (ns.map en) (ns.map g)=(ns.map en++[en v],ns.map g++[x])
 |[],_=>rfl
 |u::ns,h=>by rw[Oe,not_or]at h;rw[Oa,Oa,hZ,bH,bH,if_neg (λz=>h.1 (ji z).symm),qL x v g ns h.2];rfl
theorem uQ(x:T)(v:N2)(g:N2->T):∀(ns:List N2),ns.Nodup->v∈ns->hZ (en v) x (ns.map en) (ns.map g)=(ns.map en,ns.map λu=>if u=v then x else g u)
 |[],_,h=>by simp at h
 |u::ns,hn,h=>by
  rw[OV]at hn;rw[Oa,Oa,Oa,hZ,bH,bH];by_cases z:u=v
  .subst z;rw[if_pos rfl,if_pos rfl];congr 2;exact OL λw hw=>by rw[if_neg (λ(y:w=u)=>hn.1 (y▸hw))]
  .rw[if_neg (λy=>z (ji y)),if_neg z];have h':v∈ns:=(Oe.mp h).elim (λy=>absurd y.symm z) id;rw[uQ x v g ns hn.2 h']
theorem kx [DecidableEq α]:∀{l m:List α},l.Nodup->(∀x∈l,x∈m)->l.length<=m.length
 |[],_,_,_=>Pg _
 |x::l,m,hn,h=>by rw[OV]at hn;have hx:=h x Ob;have:=kx hn.2 λy hy=>(U6 (λ(z:y=x)=>hn.1 (z▸hy))).mpr (h y (N6 _ hy));rw[List.length_erase_of_mem hx]at this;have:0<m.length:=List.length_pos_of_mem hx;rw[Oh];omega
def oW(o:Option (Int×List Nat)):T:=match o with
 |some x=>eW x
 |none=>.non
structure DR (P ns:List N2)(b:cS N2):Prop where
 nd:ns.Nodup
 mem:∀v,v∈ns↔(b v).isSome=ZC
 sub:∀v∈ns,v∈P
def dV(ns:List N2)(b:cS N2):List T:=ns.map λv=>oW (b v)
variable{P ns:List N2}{b:cS N2}
def DR.get(D:DR P ns b)(v:N2):lG (ns.map en) (dV ns b) (ky v)=(b v).map eW:=by
 unfold dV;rw[oQ (λv=>oW (b v))];have:=D.mem v;cases q:b v with
 |none=>rw[q]at this;rw[if_neg (λz=>by simpa using this.mp z)];rfl
 |some x=>rw[q]at this;rw[if_pos (this.mpr rfl)];rfl
def DR.put(D:DR P ns b)(hv:v∈P)(y:Int×List Nat):∃ns',DR P ns' (Gr.put b v y)/\hZ (en v) (eW y) (ns.map en) (dV ns b)=(ns'.map en,dV ns' (Gr.put b v y)):=by
 by_cases h:v∈ns
 .refine⟨ns,⟨D.nd,λu=>?_,D.sub⟩,?_⟩
  .by_cases z:u=v
   .subst z;rw[fE];exact⟨λ_=>rfl,λ_=>h⟩
   .rw[lr z];exact D.mem u
  .unfold dV;rw[uQ _ _ _ _ D.nd h];congr 1;refine OL λu _=>?_;by_cases z:u=v
   .subst z;rw[if_pos rfl,fE];rfl
   .rw[if_neg z,lr z]
 .refine⟨ns++[v],⟨?_,λu=>?_,λu hu=>?_⟩,?_⟩
  .exact PQ.mpr ⟨D.nd,by simp,λx hx y hy=>by simp at hy;subst hy;exact λz=>h (z▸hx)⟩
  .rw[OP,Ox];by_cases z:u=v
   .subst z;rw[fE];exact⟨λ_=>rfl,λ_=>.inr rfl⟩
   .rw[lr z,<-D.mem u];exact⟨λw=>w.elim id λy=>absurd y z,.inl⟩
  .rcases OP.mp hu with w|w
   .exact D.sub u w
   .rw[Ox.mp w];exact hv
  .unfold dV;rw[qL _ _ _ _ h,PC,PC];congr 1;congr 1
   .refine OL λu hu=>?_;rw[lr (λ(z:u=v)=>h (z▸hu))]
   .simp[fE,oW]
def Ek(D:DR P ns b)(x:N2×N2×Int)(d:Int)(w:List Nat):
  dZ [.dct (ns.map en) (dV ns b),eB x,eW (d,w)]=.ok (.bl (fP b x.2.1 (d+x.2.2))):=by
 refine bJ rfl ?_;show kj [.va (.dct (ns.map en) (dV ns b)),.va (eB x),.va (eW (d,w)),.em]=_;unfold kj;have g:oD jE (vr 0) (o2 aW (vr 1) (cn (.int 1))) [.va (.dct (ns.map en) (dV ns b)),.va (eB x),.va (eW (d,w)),.em]=.ok (oW (b x.2.1)):=by refine L0 rfl rfl ?_;unfold jE;rw[bH];simp only[D.get];cases b x.2.1 <;> rfl
 rw[aw (bL g rfl)];refine b8 ?_;unfold fP;cases q:b x.2.1 with
 |none=>exact JW (aD rfl rfl rfl)
 |some y=>exact(JX (aD rfl rfl rfl)).trans (aD rfl rfl rfl)
abbrev MN:T->En->Rs En:=gT 2 (i7 (gN 4) (i7 (gN 5) ve))
def eL(L:bS N2):T:=.lst (L.map eB)
noncomputable def B5(L:bS N2)(t:T):T:=match t with
 |.int j=>match L[j.toNat]? with
  |some x=>en x.1
  |none=>.non
 |_=>.non
variable{L:bS N2}
theorem zC:∀{ks:List Nat}{a b:N2},Ch L a ks b->(eN ks).map (B5 L)=(gp L ks).map en
 |[],_,_,_=>rfl
 |k::r,a,b,h=>by rw[h.MY];obtain⟨c,m,e,h⟩:=h;show B5 L (.int k)::(eN r).map (B5 L)=en a::(gp L r).map en;rw[zC h];congr 1;unfold B5;simp only[Pz,e]
theorem EC(v:N2):∀(l:List N2),fY (en v) (l.map en)=decide (v∈l)
 |[] =>rfl
 |u::l=>by
  have ih:=EC v l;unfold fY at ih ⊢;rw[Oa,Q4,ih,Ey];by_cases h:u=v
  .subst h;simp
  .have h':¬ v=u:=λz=>h z.symm;simp[h,h']
theorem wX(v:N2):∀(l:List N2)(n:Nat),v∈l->kM (en v) (l.map en) n=ZA (n+l.idxOf v)
 |[],n,h=>by simp at h
 |u::l,n,h=>by
  rw[Oa,kM,Ey,Xe];by_cases z:u=v
  .subst z;simp
  .have h':v∈l:=(Oe.mp h).elim (λy=>absurd y.symm z) id;have zb:(u == v)=ZD:=by rw[beq_eq_false_iff_ne];exact z
   rw[zb,decide_eq_false z,if_neg OA,wX v l (n+1) h'];simp only[cond_false];congr 1;omega
def Hw(v:N2):(en v).nd=ZC:=rfl
theorem uz(f:α->T)(h:∀a,(f a).nd=ZC):∀l:List α,nds (l.map f)=ZC
 |[] =>rfl
 |a::l=>by rw[Oa,nds,h a,uz f h l];rfl
def Es(v:N2):(en v).dep<=60:=by show(T.tup [.int v.c,.int v.k]).dep<=60;simp[T.dep,deps]
def Me(v:N2)(l:List N2):sr (en v) (.lst (l.map en))=.ok (.bl (decide (v∈l))):=by show(if (_\/_)/\_/\(T.lst (l.map en)).nd=ZC then _ else _)=_;rw[if_pos ⟨.inl (Es v),rfl,uz en Hw l⟩,EC]
def DM(v:N2)(l:List N2)(h:v∈l):ip (.lst (l.map en)) (en v)=.ok (.int ((l.idxOf v:Nat):Int)):=by unfold ip;simp only;rw[if_pos ⟨.inl (Es v),rfl,uz en Hw l⟩,wX v l 0 h,R7]
def Kk(p q:List Nat):eN (p++q)=eN p++eN q:=by unfold eN;rw[PC]
theorem C5(D:Bool):∀ks:List Nat,nks D (eN ks)=ZC
 |[] =>rfl
 |k::r=>by show nks D (.int k::eN r)=ZC;unfold nks;rw[C5 D r];rfl
def Ch.len{a b:N2}(h:Ch L a ks b)(hn:(gp L ks).Nodup):ks.length<=L.length:=by have:=kx (h.nodup hn) λk hk=>OZ.mpr (h.lt k hk);rwa [OR]at this
noncomputable abbrev sE(L:bS N2)(st:T)(o:OT)(b:Bool)(k:Nat)(x:N2×N2×Int)(s6 s7 s8:Sl):En:=[.va (eL L),.va st,.ow o,.va (.bl b),.va (.int k),.va (eB x),s6,s7,s8]
def HR(L:bS N2)(P ns:List N2)(b:cS N2)(k:Nat)(x:N2×N2×Int)(st:T)(mv:Bool)(s6 s7 s8:Sl):Sum (Option (cS N2)) (List Nat)->Prop
 |.inl ZB=>∃s6' s7' s8',EK (sE L st (.dct (ns.map en) (dV ns b)) mv k x s6 s7 s8)=.ok (.ct (sE L st (.dct (ns.map en) (dV ns b)) mv k x s6' s7' s8'))
 |.inl (ZA b')=>∃ns' s6' s7' s8',DR P ns' b'/\EK (sE L st (.dct (ns.map en) (dV ns b)) mv k x s6 s7 s8)=.ok (.nx (sE L st (.dct (ns'.map en) (dV ns' b')) ZC k x s6' s7' s8'))
 |.inr q=>EK (sE L st (.dct (ns.map en) (dV ns b)) mv k x s6 s7 s8)=.ok (.rt (.tup [.non,.lst (eN q)]))
variable{S:List N2}{x:N2×N2×Int}
theorem Fq(K:Kept L S b)(D:DR P ns b)(hL:L.length<=500)(hP:P.length<1000)(e:L[k]?=ZA x)(hx:x.2.1∈P)(st:T)(mv:Bool)(s6 s7 s8:Sl):
  HR L P ns b k x st mv s6 s7 s8 (iZ L b k x):=by
 obtain⟨a,c,m⟩:=x;unfold HR;generalize hks:ns.map en=ks;generalize hvs:dV ns b=vs;have get:∀s7 s8,ln 2 (oD jE (vr 2) (o2 aW (vr 5) (cn (.int 0)))) (sE L st (.dct ks vs) mv k (a,c,m) s6 s7 s8)=.ok (oW (b a)):=λs7 s8=>by
  refine JZ rfl (L0 rfl rfl ?_) ?_
  .unfold jE;rw[bH,<-hks,<-hvs];simp only[D.get];cases b a <;> rfl
  .cases b a with
   |none=>rfl
   |some y=>show nks ZC [.int y.1,.lst (eN y.2)]=ZC;simp[nks,T.nk,C5]
 have s1:∀G,aA (cJ (ln 2 (oD jE (vr 2) (o2 aW (vr 5) (cn (.int 0))))) (gN 6)) G (sE L st (.dct ks vs) mv k (a,c,m) s6 s7 s8)=G (sE L st (.dct ks vs) mv k (a,c,m) (.va (oW (b a))) s7 s8):=λG=>
  aw (bL (get s7 s8) rfl)
 cases qa:b a with
 |none=>
  rw[show iZ L b k (a,c,m)=.inl ZB from by unfold iZ;simp only[qa]];simp only;refine⟨.va .non,s7,s8,?_⟩;unfold EK;rw[s1,qa];exact Dy (eJ (DA (bQ (aD rfl rfl rfl))))
 |some y=>
  obtain⟨d,w⟩:=y;have bt:∀s7 s8,JK 2 (tb (cl dZ (ae (vr 2) (ae (vr 5) (ae (vr 6) ai))))) (sE L st (.dct ks vs) mv k (a,c,m) (.va (eW (d,w))) s7 s8)=.ok (fP b c (d+m)):=λs7 s8=>by refine L3 (bQ (aI rfl ?_));rw[<-hks,<-hvs];exact Ek D (a,c,m) d w
  have nn:tb (o2 iI (vr 6) (cn .non)) (sE L st (.dct ks vs) mv k (a,c,m) (.va (eW (d,w))) s7 s8)=.ok ZD:=bQ (aD rfl rfl rfl);have cond:=wL nn (iu (bt s7 s8));have s1':∀G,aA (cJ (ln 2 (oD jE (vr 2) (o2 aW (vr 5) (cn (.int 0))))) (gN 6)) G (sE L st (.dct ks vs) mv k (a,c,m) s6 s7 s8)=G (sE L st (.dct ks vs) mv k (a,c,m) (.va (eW (d,w))) s7 s8):=λG=>by rw[s1 G,qa];rfl
  cases hb:fP b c (d+m)with
  |false=>
   rw[show iZ L b k (a,c,m)=.inl ZB from by unfold iZ;simp only[qa,hb];rfl];simp only;rw[hb]at cond;refine⟨.va (eW (d,w)),s7,s8,?_⟩;unfold EK;rw[s1'];exact Dy (eJ cond)
  |true=>
   rw[hb]at cond;obtain⟨s,hs,h1,h2,h3,h4,h5⟩:=K.walk a d w qa;have hch:Ch L s (w++[k]) c:=h1.snoc e;have hwl:w.length<=500:=OG (Ch.len h1 h4) hL;have s2:∀G,aA (fS (nZ (tb (o2 iI (vr 6) (cn .non))) (dQ (JK 2 (tb (cl dZ (ae (vr 2) (ae (vr 5) (ae (vr 6) ai)))))))) K4 sN) G (sE L st (.dct ks vs) mv k (a,c,m) (.va (eW (d,w))) s7 s8)=G (sE L st (.dct ks vs) mv k (a,c,m) (.va (eW (d,w))) s7 s8):=λG=>
    aw ((dC cond).trans rfl)
   have wk:o2 aY (o2 aW (vr 6) (cn (.int 1))) (dB (ae (vr 4) ai)) (sE L st (.dct ks vs) mv k (a,c,m) (.va (eW (d,w))) s7 s8)=.ok (.lst (eN (w++[k]))):=by refine aD rfl (jV rfl (aB (k:=1) (by simp))) ?_;show lb (eN w++eN [k])=_;rw[<-Kk];unfold lb;rw[if_pos (aB (k:=1000) (by unfold eN;rw[N9,Ol];simp;omega))]
   have s3:∀G,aA (cJ (o2 aY (o2 aW (vr 6) (cn (.int 1))) (dB (ae (vr 4) ai))) (gN 7)) G (sE L st (.dct ks vs) mv k (a,c,m) (.va (eW (d,w))) s7 s8)=G (sE L st (.dct ks vs) mv k (a,c,m) (.va (eW (d,w))) (.va (.lst (eN (w++[k])))) s8):=λG=>aw (bL wk rfl);have ps:d9 (iS (vr 7)) [ZB,ZA 0] (gN 0) bT (o2 aW (o2 aW (vr 1) (vr 0)) (cn (.int 0))) (sE L st (.dct ks vs) mv k (a,c,m) (.va (eW (d,w))) (.va (.lst (eN (w++[k])))) s8)=.ok (.lst ((gp L (w++[k])).map en)):=by rw[<-zC hch];refine m7 (iw rfl) (aB (k:=1000) (by unfold eN;rw[N9,Ol];simp;omega)) (by simp) λt ht=>?_;unfold eN at ht;obtain⟨j,hj,rfl⟩:=On.mp ht;have hjl:=hch.lt j hj;refine aD (HG rfl rfl (by rw[Ot,Od hjl];rfl)) rfl ?_;unfold B5;simp only[Pz,Od hjl];rfl
   have s4:∀G,aA (cJ (d9 (iS (vr 7)) [ZB,ZA 0] (gN 0) bT (o2 aW (o2 aW (vr 1) (vr 0)) (cn (.int 0)))) (gN 8)) G (sE L st (.dct ks vs) mv k (a,c,m) (.va (eW (d,w))) (.va (.lst (eN (w++[k])))) s8)=G (sE L st (.dct ks vs) mv k (a,c,m) (.va (eW (d,w))) (.va (.lst (eN (w++[k])))) (.va (.lst ((gp L (w++[k])).map en)))):=λG=>aw (bL ps rfl);have inn:tb (o2 sr (o2 aW (vr 5) (cn (.int 1))) (vr 8)) (sE L st (.dct ks vs) mv k (a,c,m) (.va (eW (d,w))) (.va (.lst (eN (w++[k])))) (.va (.lst ((gp L (w++[k])).map en))))=.ok (decide (c∈gp L (w++[k]))):=
    bQ (aD rfl rfl (Me c _))
   by_cases hn:c∈gp L (w++[k])
   .rw[show iZ L b k (a,c,m)=.inr ((w++[k]).drop ((gp L (w++[k])).idxOf c))from by unfold iZ;simp only[qa,hb,if_pos hn,if_true]];simp only;unfold EK;rw[s1',s2,s3,s4];rw[decide_eq_true hn]at inn;refine iH ((eJ inn).trans (b8 ?_));have sle:sl (vr 7) (pS (oL ip (vr 8) (o2 aW (vr 5) (cn (.int 1))))) pN (sE L st (.dct ks vs) mv k (a,c,m) (.va (eW (d,w))) (.va (.lst (eN (w++[k])))) (.va (.lst ((gp L (w++[k])).map en))))=.ok (.lst (eN ((w++[k]).drop ((gp L (w++[k])).idxOf c)))):=by rw[wJ rfl (qC (k_oL rfl rfl (DM c _ hn))) rfl,mx];unfold eN;rw[VI]
    exact(dA (ar rfl (ar sle rfl)) (aB (k:=2) (by simp)))
   .rw[show iZ L b k (a,c,m)=.inl (ZA (Gr.put b c (d+m,w++[k])))from by unfold iZ;simp only[qa,hb,if_neg hn,if_true]];simp only;rw[decide_eq_false hn]at inn;obtain⟨ns',D',hd⟩:=D.put hx (d+m,w++[k]);refine⟨ns',.va (eW (d,w)),.va (.lst (eN (w++[k]))),.va (.lst ((gp L (w++[k])).map en)),D',?_⟩;unfold EK;rw[s1',s2,s3,s4];rw[aw ((dC inn).trans rfl)];have pt:AF 2 (o2 aW (vr 5) (cn (.int 1))) (aQ (ae (o2 aY (o2 aW (vr 6) (cn (.int 0))) (o2 aW (vr 5) (cn (.int 2)))) (ae (vr 7) ai))) (sE L st (.dct ks vs) mv k (a,c,m) (.va (eW (d,w))) (.va (.lst (eN (w++[k])))) (.va (.lst ((gp L (w++[k])).map en))))
      = .ok (.nx (sE L st (.dct (ns'.map en) (dV ns' (Gr.put b c (d+m,w++[k])))) mv k (a,c,m) (.va (eW (d,w))) (.va (.lst (eN (w++[k])))) (.va (.lst ((gp L (w++[k])).map en))))):=by
     have ev:aQ (ae (o2 aY (o2 aW (vr 6) (cn (.int 0))) (o2 aW (vr 5) (cn (.int 2)))) (ae (vr 7) ai)) (sE L st (.dct ks vs) mv k (a,c,m) (.va (eW (d,w))) (.va (.lst (eN (w++[k])))) (.va (.lst ((gp L (w++[k])).map en))))=.ok (eW (d+m,w++[k])):=
      dA rfl (aB (k:=2) (by simp))
     have ek:o2 aW (vr 5) (cn (.int 1)) (sE L st (.dct ks vs) mv k (a,c,m) (.va (eW (d,w))) (.va (.lst (eN (w++[k])))) (.va (.lst ((gp L (w++[k])).map en))))=.ok (en c):=rfl;show(aQ _ _ >>= λv=>o2 aW (vr 5) (cn (.int 1)) _ >>= λkk=>match keyOf kk with|some _=>if ks.length<1000 then Rs.ok (Fl.nx _)else .bad|none=>.bad)=_;rw[ev,aG,ek,aG,bH];have hlen:ks.length<1000:=by rw[<-hks,N9];exact Ry (kx D.nd D.sub) hP
     simp only[if_pos hlen];have hd1:hZ (en c) (eW (d+m,w++[k])) ks vs=(ns'.map en,dV ns' (Gr.put b c (d+m,w++[k]))):=by rw[<-hks,<-hvs];exact hd
     rw[hd1];rfl
    rw[aw pt];exact bL rfl rfl
noncomputable def Cf(L:bS N2)(st:T)(ns:List N2)(b:cS N2)(mv:Bool)(s4 s5 s6 s7 s8:Sl):En:=[.va (eL L),.va st,.ow (.dct (ns.map en) (dV ns b)),.va (.bl mv),s4,s5,s6,s7,s8]
def EF(L:bS N2)(P:List N2)(st:T)(X:Rs Fl):Sum (cS N2×Bool) (List Nat)->Prop
 |.inr q=>X=.ok (.rt (.tup [.non,.lst (eN q)]))
 |.inl (b',mv')=>∃ns' s4 s5 s6 s7 s8,DR P ns' b'/\X=.ok (.nx (Cf L st ns' b' mv' s4 s5 s6 s7 s8))
theorem tQ{S:List N2}(hL:L.length<=500)(hP:P.length<1000)(hx:∀x∈L,x.2.1∈P)(st:T):∀(r:bS N2)(k:Nat)(b:cS N2)(mv:Bool)(ns:List N2)(s4 s5 s6 s7 s8:Sl),L.drop k=r->Kept L S b->DR P ns b ->
  EF L P st (bA MN EK (dP k (r.map eB)) (Cf L st ns b mv s4 s5 s6 s7 s8)) (jy L k r b mv)
 |[],k,b,mv,ns,s4,s5,s6,s7,s8,_,K,D=>⟨ns,s4,s5,s6,s7,s8,D,rfl⟩
 |x::r,k,b,mv,ns,s4,s5,s6,s7,s8,hr,K,D=>by
  have e:L[k]?=ZA x:=by have:=congrArg (·[0]?) hr;simpa using this
  have hr':L.drop (k+1)=r:=by have:=congrArg (List.drop 1) hr;simpa [List.drop_drop,Wo]using this
  have tg:MN (.tup [.int k,eB x]) (Cf L st ns b mv s4 s5 s6 s7 s8)=.ok [.va (eL L),.va st,.ow (.dct (ns.map en) (dV ns b)),.va (.bl mv),.va (.int k),.va (eB x),s6,s7,s8]:=rfl;have tn:=Fq K D hL hP e (hx x (Pw e)) st mv s6 s7 s8;rw[jy,Oa,dP];cases q:iZ L b k x with
  |inr w=>
   rw[q]at tn;simp only;unfold EF;exact Gq tg tn
  |inl o=>
   rw[q]at tn;cases o with
   |none=>
    obtain⟨s6',s7',s8',tn⟩:=tn;simp only;rw[Gs tg tn];exact tQ hL hP hx st r (k+1) b mv ns _ _ _ _ _ hr' K D
   |some b'=>
    obtain⟨ns',s6',s7',s8',D',tn⟩:=tn;simp only;rw[dO tg tn];refine tQ (S:=S) hL hP hx st r (k+1) b' ZC ns' _ _ _ _ _ hr' ?_ D';obtain⟨a,c,m⟩:=x;unfold iZ at q;cases qa:b a with
    |none=>simp only[qa]at q;cases q
    |some y=>
     obtain⟨d,w⟩:=y;simp only[qa]at q;split at q
     .rename_i hb;split at q
      .cases q
      .rename_i hn;cases q;exact K.put e qa hb hn
     .cases q
abbrev wF:Y1:=aA (cJ (cn (.bl ZD)) (gN 3)) (eh (iE (ae (vr 0) ai)) MN EK)
def SetP(L:bS N2)(P:List N2)(st:T)(X:Rs Fl):Sum (cS N2) (List Nat)->Prop
 |.inr q=>X=.ok (.rt (.tup [.non,.lst (eN q)]))
 |.inl b'=>∃ns' s4 s5 s6 s7 s8,DR P ns' b'/\X=.ok (.nx (Cf L st ns' b' ZD s4 s5 s6 s7 s8))
theorem vI(hL:L.length<=500)(hP:P.length<1000)(hx:∀x∈L,x.2.1∈P)(st:T):∀(n:Nat)(b:cS N2)(ns:List N2)(s4 s5 s6 s7 s8:Sl)(r:Sum (cS N2) (List Nat)),Kept L S b->DR P ns b->Gr.settle L n b=ZA r ->
  SetP L P st (cg (tb (vr 3)) wF (n+1) (Cf L st ns b ZC s4 s5 s6 s7 s8)) r
 |0,_,_,_,_,_,_,_,_,_,_,h=>by cases h
 |n+1,b,ns,s4,s5,s6,s7,s8,r,K,D,h=>by
  have sw:=tQ hL hP hx st L 0 b ZD ns s4 s5 s6 s7 s8 rfl K D;have ok:=jI L 0 b ZD rfl K;have body:∀X,bA MN EK (dP 0 (L.map eB)) (Cf L st ns b ZD s4 s5 s6 s7 s8)=.ok X->wF (Cf L st ns b ZC s4 s5 s6 s7 s8)=.ok X:=λX hX=>by show aA _ _ _=_;rw[aw (bL rfl rfl)];exact fX (L5 rfl) hX
  have tt:tb (vr 3) (Cf L st ns b ZC s4 s5 s6 s7 s8)=.ok ZC:=rfl;rw[Gr.settle]at h;revert sw ok h;generalize jy L 0 L b ZD=R;intro h sw ok;cases R with
  |inr q=>
   simp only at h;cases h;exact Dw tt (body _ sw)
  |inl p=>
   obtain⟨b',mv'⟩:=p;obtain⟨ns',t4,t5,t6,t7,t8,D',sw⟩:=sw;obtain⟨K',_⟩:=ok;cases mv' with
   |true=>
    simp only at h;have ih:=vI hL hP hx st n b' ns' t4 t5 t6 t7 t8 r K' D' h;rw[qz tt (body _ sw)];exact ih
   |false=>
    simp only at h;cases h;refine⟨ns',t4,t5,t6,t7,t8,D',?_⟩;rw[qz tt (body _ sw)];exact wI rfl
theorem jb{c:Y3}{F:Y1}{x:Fl}:∀{n m:Nat}{Z:En},n<=m->cg c F n Z=.ok x->cg c F m Z=.ok x
 |0,_,_,_,h=>by cases h
 |n+1,0,_,hl,_=>absurd hl (by omega)
 |n+1,m+1,Z,hl,h=>by
  unfold cg at h ⊢;cases q:c Z with
  |bad=>rw[q]at h;cases h
  |err _=>rw[q]at h;cases h
  |ok k=>
   rw[q]at h;cases k with
   |false=>exact h
   |true=>
    simp only at h ⊢;cases q2:F Z with
    |bad=>rw[q2]at h;cases h
    |err _=>rw[q2]at h;cases h
    |ok f=>
     rw[q2]at h;cases f with
     |nx Z'=>exact jb (by omega) h
     |ct Z'=>exact jb (by omega) h
     |bk Z'=>exact h
     |rt t=>exact h
theorem CD(w:T):∀S:List N2,KG (S.map λv=>.tup [en v,w])=ZA (S.map λv=>(en v,w))
 |[] =>rfl
 |v::S=>by rw[Oa,KG,bH,CD w S];rfl
theorem w4(w:T):∀(S ns:List N2)(g:N2->T),(ns++S).Nodup->(∀v∈S,g v=w)->kc (S.map λv=>(en v,w)) (ns.map en,ns.map g)=((ns++S).map en,(ns++S).map g)
 |[],ns,g,_,_=>by rw[Px];rfl
 |v::S,ns,g,hn,hg=>by
  have hv:v∉ns:=λz=>by rw[PQ]at hn;exact hn.2.2 v z v Ob rfl
  rw[Oa,kc,qL _ _ _ _ hv];have e1:ns.map en++[en v]=(ns++[v]).map en:=by rw[PC];rfl
  have e2:ns.map g++[w]=(ns++[v]).map g:=by rw[PC,<-hg v Ob];rfl
  rw[e1,e2,w4 w S (ns++[v]) g (by rw[OQ];exact hn) λu hu=>hg u (N6 _ hu),OQ];rfl
def GO(w:T)(S:List N2)(hn:S.Nodup)(hl:S.length<=1000):Aj [.lst (S.map λv=>.tup [en v,w])]=.ok (.dct (S.map en) (S.map λ_=>w)):=by unfold Aj;simp only[CD];rw[if_pos (by rw[N9];exact hl)];have:=w4 w S [] (λ_=>w) (by simpa using hn) (λ_ _=>rfl);rw[P2]at this;rw[show(([]:List T),([]:List T))=(([]:List N2).map en,([]:List N2).map λ_=>w)from rfl,this]
def eS(S:List N2):T:=.lst (S.map en)
def G5(L:bS N2)(P:List N2)(X:Rs T):Sum (cS N2) (List Nat)->Prop
 |.inr q=>X=.ok (.tup [.non,.lst (eN q)])
 |.inl b'=>∃ns',DR P ns' b'/\X=.ok (.tup [.dct (ns'.map en) (dV ns' b'),.non])
structure KD (L:bS N2)(P:List N2):Prop where
 len:L.length<=500
 size:size L<=100000000
 ends:∀x∈L,x.1∈P/\x.2.1∈P
 pl:P.length<1000
def SOk(L:bS N2)(S:List N2):Sum (cS N2) (List Nat)->Prop
 |.inr q=>Bar L q
 |.inl b'=>Settled L S b'
theorem qJ(F:KD L P)(hS:S.Nodup)(hSP:∀v∈S,v∈P):∃r,G5 L P (fI [eL L,eS S]) r/\SOk L S r:=by
 have bound:L.length*(2*size L+1)<1000000000000 - 1:=by have h1:=F.len;have h2:=F.size;have:L.length*(2*size L+1)<=500*(2*100000000+1):=Nat.mul_le_mul h1 (by omega);omega
 obtain⟨r,hr,ok⟩:=xR L S bound;have ok':SOk L S r:=by cases r <;> exact ok
 refine⟨r,?_,ok'⟩;have hSl:S.length<=1000:=OG (kx hS hSP) (by have:=F.pl;omega);have D0:DR P S (Gr.start S):=⟨hS,λv=>by unfold Gr.start;by_cases h:v∈S <;> simp[h],hSP⟩;have dv0:dV S (Gr.start S)=S.map λ_=>eW (0,[]):=OL λv hv=>by unfold Gr.start;rw[if_pos hv];rfl
 have w:=vI F.len F.pl (λx hx=>(F.ends x hx).2) (eS S) _ (Gr.start S) S .em .em .em .em .em r (qy L S) D0 hr;have lc:d9 (iS (vr 1)) [ZB] (gN 0) bT (aQ (ae (vr 0) (ae (aQ (ae (cn (.int 0)) (ae (dB ai) ai))) ai))) [.va (eL L),.va (eS S),.em,.em,.em,.em,.em,.em,.em]=.ok (.lst (S.map λv=>.tup [en v,eW (0,[])])):=by
  have:=m7 (fi:=iS (vr 1)) (src:=[ZB]) (fe:=aQ (ae (vr 0) (ae (aQ (ae (cn (.int 0)) (ae (dB ai) ai))) ai))) (Z:=[.va (eL L),.va (eS S),.em,.em,.em,.em,.em,.em,.em]) (iw rfl) (aB (by rw[N9];exact hSl)) (by simp) λt _=>
   dA (ar rfl (ar (dA (ar rfl (ar (jV rfl (Pg _)) rfl)) (aB (k:=2) (by simp))) rfl)) (aB (k:=2) (by simp))
  rw[this,OK];rfl
 have n0:rS 2 (d9 (iS (vr 1)) [ZB] (gN 0) bT (aQ (ae (vr 0) (ae (aQ (ae (cn (.int 0)) (ae (dB ai) ai))) ai)))) [.va (eL L),.va (eS S),.em,.em,.em,.em,.em,.em,.em]=.ok (.nx [.va (eL L),.va (eS S),.ow (.dct (S.map en) (dV S (Gr.start S))),.em,.em,.em,.em,.em,.em]):=by unfold rS;rw[lc,aG,GO _ S hS hSl,aG,dv0];rfl
 have main:∀G X,cg (tb (vr 3)) wF FU (Cf L (eS S) S (Gr.start S) ZC .em .em .em .em .em)=.ok X->kg [.va (eL L),.va (eS S),.em,.em,.em,.em,.em,.em,.em]=G->(aA (cg (tb (vr 3)) wF FU) (nX 2 (aL (aQ (ae (vr 2) (ae (cn .non) ai)))))) (Cf L (eS S) S (Gr.start S) ZC .em .em .em .em .em)=G:=λG X _ h=>by rw[<-h];unfold kg;rw[aw n0,aw (Z':=Cf L (eS S) S (Gr.start S) ZC .em .em .em .em .em) (bL rfl rfl)]
 cases r with
 |inr q=>
  have w':=jb (m:=FU) (by unfold FU;omega) w;refine bJ rfl ?_;show kg [.va (eL L),.va (eS S),.em,.em,.em,.em,.em,.em,.em]=_;rw[<-main _ _ w' rfl];exact iH w'
 |inl b'=>
  obtain⟨ns',s4,s5,s6,s7,s8,D',w⟩:=w;have w':=jb (m:=FU) (by unfold FU;omega) w;refine⟨ns',D',bJ rfl ?_⟩;show kg [.va (eL L),.va (eS S),.em,.em,.em,.em,.em,.em,.em]=_;rw[<-main _ _ w' rfl,aw w'];exact DG (b8 (dA rfl (aB (k:=2) (by simp))))
theorem ql{f:α->T}{p:α->Prop}:∀{l:List T},(∀t∈l,∃x,t=f x/\p x)->∃L:List α,l=L.map f/\∀x∈L,p x
 |[],_=>⟨[],rfl,λ_ h=>nomatch h⟩
 |t::l,h=>by obtain⟨x,e,hx⟩:=h t Ob;obtain⟨L,e2,h2⟩:=ql λu hu=>h u (N6 _ hu);exact⟨x::L,by rw[e,e2];rfl,λy hy=>(Oe.mp hy).elim (λz=>z▸hx) (h2 y)⟩
def qM{t:T}(h:bF t=ZC):∃(x y:Int)(r:List Int),t=.tup [.int x,.int y,.tup (r.map .int)]/\(0<=x/\x<=9)/\(0<=y/\y<=9)/\∀k,0<=r.getD k 0/\r.getD k 0<=99:=by
 obtain⟨x,y,r,rfl,h1,h2,h3,h4⟩:=d8 h;refine⟨x,y,r,rfl,h1,h2,λk=>?_⟩;have h':(lX (.int x) (.int y)&&cE (.tup (r.map .int)))=ZC:=h;rw[N7]at h';have hr:=h'.2;unfold cE at hr;rw[N7]at hr;have hr2:(((r.map T.int).all λu=>aX u 0 99)&&(match nums (r.map .int)with|some m=>mC m|none=>ZD))=ZC:=hr.2;rw[N7]at hr2;by_cases hk:k<r.length
 .have:=OB.mp hr2.1 (.int r[k]) (On.mpr ⟨_,PN hk,rfl⟩);obtain⟨i,e,a,b⟩:=dv this;cases e;simp[hk];exact⟨a,b⟩
 .simp[hk]
theorem zG{cs:List T}:∀{cs0:List T}{c k:Nat},i<=c->c<i+cs0.length->k<IA (cs0.getD (c - i) .non)->T.tup [.int c,.int k] ∈fT i cs0:=by
 intro cs0;induction cs0 generalizing i with
 |nil=>intro c k h1 h2;simp at h2;omega
 |cons a r ih=>
  intro c k h1 h2 h3;rw[fT,OP];by_cases e:c=i
  .subst e;rw[SH]at h3;have h3':k<IA a:=h3;exact .inl (On.mpr ⟨.int k,Ge h3',rfl⟩)
  .refine .inr (ih (by omega) (by rw[Oh]at h2;omega) ?_);rw[show c - i=(c - (i+1))+1 by omega]at h3;exact h3
theorem sC{t:T}(h:ba cs t=ZC):t∈fT 0 cs:=by obtain⟨c,k,rfl⟩:=cP h;unfold ba at h;simp only[N7,decide_eq_true_eq]at h;obtain⟨⟨h1,h2⟩,h3,h4⟩:=h;obtain⟨c,rfl⟩:=Pt h1;obtain⟨k,rfl⟩:=Pt h3;rw[rV]at h4;exact zG (cs:=cs) (Pg _) (by omega) (by rw[SI];omega)
def D8{t:T}(h:t∈fT 0 cs):∃v:N2,t=en v/\True:=by obtain⟨c,k,rfl,_⟩:=oC cs 0 h;exact⟨⟨c,k⟩,rfl,trivial⟩
def big(x:N2×N2×Int):Prop:=x.2.2.natAbs<=999
theorem r9{a b:Int}(ha : -99<=a/\a<=99)(hb:0<=b/\b<=9):(a*b).natAbs<=999:=by
 rw[Int.natAbs_mul];have h1:a.natAbs<=99:=by omega
 have h2:b.natAbs<=9:=by omega
 exact OG (Nat.mul_le_mul h1 h2) (by decide)
theorem HN{cs0:List T}:∀{cs:List T}{i:Nat},(∀c∈cs,bF c=ZC)->(∀c k:Nat,i<=c->c<i+cs.length->k<IA (cs.getD (c - i) .non)->T.tup [.int c,.int k] ∈fT 0 cs0) ->
  ∀t∈bC i cs,∃x,t=eB x/\(en x.1∈fT 0 cs0/\en x.2.1∈fT 0 cs0/\big x)
 |[],_,_,_,t,h=>by simp[bC]at h
 |c::cs,i,hc,hm,t,h=>by
  rw[bC,OP]at h;rcases h with h|h
  .obtain⟨x,y,r,rfl,hx,hy,hr⟩:=qM (hc c Ob);have hm0:∀k,k<r.length->T.tup [.int i,.int k] ∈fT 0 cs0:=λk hk=>hm i k (Oq _) (by simp) (by rw[SH];show k<(r.map T.int).length;rw[N9];exact hk);rw[oV]at h;unfold cB at h;obtain⟨k,hk,hp⟩:=R0.mp h;have hk:=OZ.mp hk;have d : -99<=dr r k/\dr r k<=99:=by have:=hr k;have:=hr (k+1);unfold dr;omega
   unfold pr at hp;simp only[Oe,Pb,or_false]at hp;rcases hp with rfl|rfl
   .exact⟨(⟨i,k⟩,⟨i,((k+1:Nat):Int)⟩,dr r k*y),rfl,hm0 k (by omega),hm0 (k+1) (by omega),r9 d hy⟩
   .exact⟨(⟨i,((k+1:Nat):Int)⟩,⟨i,k⟩,-dr r k*x),rfl,hm0 (k+1) (by omega),hm0 k (by omega),r9 (by omega) hx⟩
  .exact HN (λc h=>hc c (N6 _ h)) (λc k h1 h2 h3=>hm c k (by omega) (by rw[Oh];omega) (by rw[show c - i=(c - (i+1))+1 by omega];exact h3)) t h
theorem LY{u:T}(hu:bM cs u=ZC):∀t∈lB u,∃x,t=eB x/\(en x.1∈fT 0 cs/\en x.2.1∈fT 0 cs/\big x):=by
 intro t ht;obtain⟨a,b,x,y,rfl,hd,ha,hb,_⟩:=eF hu;have ma:=sC ha;have mb:=sC hb;obtain⟨va,rfl,_⟩:=D8 ma;obtain⟨vb,rfl,_⟩:=D8 mb;unfold eG at hd;rw[N7]at hd;obtain⟨i,rfl,i1,i2⟩:=dv hd.1;have e2:lB (.tup [en va,en vb,.int i,y])=.tup [en vb,en va,.int (-i)] ::(if y.isN then []else [.tup [en va,en vb,y]]):=rfl;rw[e2]at ht;rcases Oe.mp ht with rfl|ht
 .exact⟨(vb,va,-i),rfl,mb,ma,by unfold big;simp only;omega⟩
 .cases q:y.isN with
  |true=>rw[q]at ht;simp at ht
  |false=>
   rw[q]at ht;have ht:t=.tup [en va,en vb,y]:=by simpa using ht
   have hw:aX y i 999=ZC:=by
    cases y with
    |non=>cases q
    |_=>exact hd.2
   obtain⟨j,rfl,j1,j2⟩:=dv hw;exact⟨(va,vb,j),ht,ma,mb,by unfold big;simp only;omega⟩
structure Rd (cs ls:List T)(L:bS N2)(P:List N2):Prop where
 g:Good cs ls
 b:Bx cs ls=L.map eB
 e:fT 0 cs=P.map en
 f:KD L P
 nd:P.Nodup
 pl:P.length<=16
 ll:L.length<=60
 bg:∀x∈L,big x
theorem zi(h:∀x∈L,big x):size L<=999*L.length:=by
 unfold size;induction L with
 |nil=>simp
 |cons x L ih=>
  rw[Oa,QL,Oh];have:=ih λy hy=>h y (N6 _ hy);have:=h x Ob;unfold big at this;omega
def C3(h:(P.map en).Nodup):P.Nodup:=by
 induction P with
 |nil=>exact Ra
 |cons a r ih=>
  rw[Oa,OV]at h;exact OV.mpr ⟨λz=>h.1 (On.mpr ⟨a,z,rfl⟩),ih h.2⟩
theorem rW(g:Good cs ls):∃L P,Rd cs ls L P:=by
 obtain⟨hc,c1,c4⟩:=ck g.c;obtain⟨P,eP,_⟩:=ql λt ht=>D8 ht;have key:∀t∈Bx cs ls,∃x,t=eB x/\(en x.1∈fT 0 cs/\en x.2.1∈fT 0 cs/\big x):=λt ht=>by
  unfold Bx at ht;rw[OP]at ht;rcases ht with h|h
  .exact HN hc (λc k h1 h2 h3=>zG (cs:=cs) h1 h2 h3) t h
  .obtain⟨u,hu,h⟩:=R0.mp h;exact LY (g.l u hu) t h
 obtain⟨L,eL,hL⟩:=ql key;have mem:∀v:N2,en v∈fT 0 cs->v∈P:=λv hv=>by rw[eP]at hv;obtain⟨u,hu,e⟩:=On.mp hv;rw[<-uP e];exact hu
 have hl:=G0 g;rw[eL,N9]at hl;have hp:=uN cs 0 hc;rw[eP,N9]at hp;have hs:=zi λx hx=>(hL x hx).2.2;exact⟨L,P,g,eL,eP,⟨by omega,by omega,λx hx=>⟨mem _ (hL x hx).1,mem _ (hL x hx).2.1⟩,by omega⟩,C3 (eP▸mW cs 0),by omega,hl,λx hx=>(hL x hx).2.2⟩
def Jg:(T.lst l).pl=plS l:=by unfold T.pl;rfl
noncomputable def run(L:bS N2):N2->List Nat->Option N2
 |a,[] =>ZA a
 |a,k::r=>match L[k]? with
  |some x=>if x.1=a then run L x.2.1 r else ZB
  |none=>ZB
variable{f:Y2}
def MA{g:Y2}(hf:f Z=.ok (eL L))(hg:g Z=.ok (.int (k:Nat)))(e:L[k]?=ZA x):o2 aW f g Z=.ok (eB x):=
 HG hf hg (by rw[Ot,e];rfl)
theorem kr(f:Nat->Int):∀ks:List Nat,gq (ks.map λk=>T.int (f k))=ZA (ks.map f)
 |[] =>rfl
 |k::ks=>by rw[Oa,gq,kr f ks];rfl
def Rd.bounds(R:Rd cs ls L P):eV [RR cs ls]=.ok (eL L):=by rw[Ej R.g,R.b];rfl
def qt(L:bS N2)(h:f Z=.ok (eL L)):cl cA (ae f ai) Z=.ok (.int (L.length:Nat)):=aI (ar h rfl) (by show Rs.ok (T.int ((L.map eB).length:Nat))=_;rw[N9])
def Rd.events(R:Rd cs ls L P):eU [RR cs ls]=.ok (eS P):=by rw[CS R.g,R.e];rfl
def yJ(D:DR P ns b){x:Int×List Nat}(e:b v=ZA x):bO (.dct (ns.map en) (dV ns b)) (en v)=.ok (eW x):=by unfold bO;simp only[bH];rw[D.get,e];rfl
def yL(D:DR P ns b)(v:N2):Bk (en v) (.dct (ns.map en) (dV ns b))=.ok (.bl (b v).isSome):=by unfold Bk;simp only[bH];rw[D.get];cases b v <;> rfl
def tmT(P:List N2)(t:N2->Int):T:=.tup (P.map λv=>.int (t v))
def MK(b:cS N2)(v:N2):Int:=match b v with
 |some x=>x.1
 |none=>0
noncomputable def atT(t:N2->Int)(u:T):T:=match u with
 |.tup [.int c,.int k] =>.int (t ⟨c,k⟩)
 |_=>.non
def Rd.NN(R:Rd cs ls L P):(¬NoNeg L/\kD [(RR cs ls)]=.ok .non)\/(NoNeg L/\∃t b,Settled L P b/\(∀v∈P,∃w,b v=ZA (t v,w))/\kD [(RR cs ls)]=.ok (tmT P t)):=by
 obtain⟨r,hr,ok⟩:=qJ R.f R.nd (λv h=>h);have wrap:∀{w:T},eC [(RR cs ls),eL L]=.ok w->kD [(RR cs ls)]=.ok w:=λ{w} e=>bJ rfl (b8 (aI (ar rfl (ar (aI rfl R.bounds) rfl)) e));have begin_:∀{x z:T}{y:Rs Fl},fI [eL L,eS P]=.ok (.tup [x,z])->((aA (fS (tb (o2 iI (vr 3) (cn .non))) (aL (cn .non)) sN) (aL (cl fo (ae (d9 (iS (vr 2)) [ZB,ZA 3] (gN 0) bT (o2 aW (o2 bO (vr 1) (vr 0)) (cn (.int 0)))) ai)))) [.va (RR cs ls),.va (eL L),.va (eS P),.va x]=y)->gd [.va (RR cs ls),.va (eL L),.em,.em]=y:=λ{x z y} hs hy=>by unfold gd;rw[aw (bL (aI rfl R.events) rfl)];rw[aw (bL (aD (aI rfl hs) rfl rfl) rfl)];exact hy
 cases r with
 |inr q=>exact .inl ⟨λn=>absurd n (Bar.neg ok),wrap (bJ rfl (begin_ hr (iH ((eJ (bQ (aD rfl rfl rfl))).trans rfl))))⟩
 |inl b=>
  obtain⟨ns,D,hr⟩:=hr;have ok:Settled L P b:=ok;have htm:∀v∈P,∃w,b v=ZA (MK b v,w):=λv hv=>by obtain⟨d,w,e,_⟩:=ok.least v hv v 0 (.nil v);exact⟨w,by unfold MK;rw[e]⟩
  refine .inr ⟨(ok.holds R.f.ends htm).Nn,MK b,b,ok,htm,wrap (bJ rfl (begin_ hr ?_))⟩;generalize MK b=tm at htm;have lc:d9 (iS (vr 2)) [ZB,ZA 3] (gN 0) bT (o2 aW (o2 bO (vr 1) (vr 0)) (cn (.int 0))) [.va (RR cs ls),.va (eL L),.va (eS P),.va (.dct (ns.map en) (dV ns b))]=.ok (.lst ((P.map en).map (atT tm))):=
   m7 (iw rfl) (aB (by rw[N9];exact R.pl)) (by simp) λt ht=>by obtain⟨v,hv,rfl⟩:=On.mp ht;obtain⟨w,e⟩:=htm v hv;exact aD (aD rfl rfl (yJ D e)) rfl rfl
  rw[OK]at lc;rw[aw ((dC (bQ (aD rfl rfl rfl))).trans rfl)];exact b8 (aI (ar lc rfl) rfl)
def Rd.Nr(R:Rd cs ls L P):∃hw:Bool,aN [(RR cs ls)]=.ok (.bl hw)/\(hw=ZC↔NoNeg L):=by
 rcases R.NN with⟨n,e⟩|⟨n,t,b,_,_,e⟩
 .exact⟨ZD,bJ rfl (b8 (aD (aI rfl e) rfl rfl)),λz=>(by cases z),λz=>absurd z n⟩
 .exact⟨ZC,bJ rfl (b8 (aD (aI rfl e) rfl rfl)),λ_=>n,λ_=>rfl⟩
def Rd.Nl(R:Rd cs ls L P)(n:NoNeg L):bD [RR cs ls]=.ok .non:=by obtain⟨hw,e,i⟩:=R.Nr;rw[i.mpr n]at e;refine yz (Z:=[.va (RR cs ls)]) rfl ?_;show dH [.va (RR cs ls)]=_;unfold dH;exact(dC (iu (bQ (aI rfl e)))).trans rfl
def Rd.from_(R:Rd cs ls L P)(n:NoNeg L){a:N2}(ha:a∈P):∃b ns,Settled L [a] b/\DR P ns b/\fH [RR cs ls,en a]=.ok (.dct (ns.map en) (dV ns b)):=by
 obtain⟨r,hr,ok⟩:=qJ (S:=[a]) R.f (by simp) (λv h=>by rw[Ox.mp h];exact ha);cases r with
 |inr q=>exact absurd n (Bar.neg ok)
 |inl b=>
  obtain⟨ns,D,hr⟩:=hr;refine⟨b,ns,ok,D,bJ rfl (b8 (aD (aI (ar (aI rfl R.bounds) (ar (jV rfl (aB (k:=1) (by simp))) rfl)) hr) rfl rfl))⟩
def Hy(o:Option (Int×List Nat)):T:=match o with
 |some x=>.int x.1
 |none=>.non
def oI(o:Option Int):T:=match o with
 |some x=>.int x
 |none=>.non
def gQ(P:List N2)(f:dG N2):List (List T×List T):=P.map λu=>(P.map en,P.map λv=>oI (f u v))
def nW(P:List N2)(f:dG N2):T:=.dct (P.map en) (P.map λu=>.dct (P.map en) (P.map λv=>oI (f u v)))
noncomputable abbrev kP(P:List N2)(L:bS N2)(f:dG N2)(s3 s4 s5 s6 s7:Sl):En:=[.va (eS P),.va (eL L),.ow (.dd (P.map en) (gQ P f)),s3,s4,s5,s6,s7]
noncomputable abbrev Ig(P:List N2)(L:bS N2)(f:dG N2)(s3 s4 s5 s6 s7:Sl):En:=[.va (eS P),.va (eL L),.va (nW P f),s3,s4,s5,s6,s7]
variable{f:dG N2}{s3 s4 s5 s6 s7:Sl}
section
def yK(s3 s4 s5 s6 s7:Sl):disown 2 (kP P L f s3 s4 s5 s6 s7)=Ig P L f s3 s4 s5 s6 s7:=by
 show [Sl.va (eS P),.va (eL L),.va (OT.view (.dd (P.map en) (gQ P f))),s3,s4,s5,s6,s7]=_;have e:OT.view (.dd (P.map en) (gQ P f))=nW P f:=by show T.dct (P.map en) ((gQ P f).map λr=>T.dct r.1 r.2)=_;unfold gQ nW;rw[OK];rfl
 rw[e]
variable{b c:Y2}
def BV{u:N2}(hc:c Z=.ok (nW P f))(ha:a Z=.ok (en u))(hb:b Z=.ok (en v))(hu:u∈P)(hv:v∈P):o2 bO (o2 bO c a) b Z=.ok (oI (f u v)):=by
 refine aD (t:=.dct (P.map en) (P.map λw=>oI (f u w))) (aD hc ha ?_) hb ?_
 .show(match lG (P.map en) (P.map λu=>T.dct (P.map en) (P.map λv=>oI (f u v))) (ky u)with|some t=>Rs.ok t|none=>.bad)=_;rw[oQ (λu=>T.dct (P.map en) (P.map λv=>oI (f u v))),if_pos hu]
 .show(match lG (P.map en) (P.map λw=>oI (f u w)) (ky v)with|some t=>Rs.ok t|none=>.bad)=_;rw[oQ (λw=>oI (f u w)),if_pos hv]
def Dh{u:N2}(ha:a (Ig P L f s3 s4 s5 s6 s7)=.ok (en u))(hb:b (Ig P L f s3 s4 s5 s6 s7)=.ok (en v))(hu:u∈P)(hv:v∈P):ln 2 (o2 bO (o2 bO (vr 2) a) b) (kP P L f s3 s4 s5 s6 s7)=.ok (oI (f u v)):=
 JZ rfl (by rw[yK];exact BV rfl ha hb hu hv) (by cases f u v <;> rfl)
theorem Cg(g:N2->List T×List T)(u:N2):∀(Q:List N2),u∈Q->rk (Q.map en) (Q.map g) (ky u)=ZA (g u)
 |w::Q,h=>by
  rw[Oa,Oa,rk,bH];by_cases e:w=u
  .subst e;rw[if_pos rfl]
  .rw[if_neg (λz=>e (ji z)),Cg g u Q ((Oe.mp h).elim (λz=>absurd z.symm e) id)]
theorem B9(g:N2->List T×List T)(u:N2)(x:List T×List T):∀(Q:List N2),Q.Nodup->rj (ky u) x (Q.map en) (Q.map g)=Q.map λw=>if w=u then x else g w
 |[],_=>rfl
 |w::Q,h=>by
  rw[OV]at h;rw[Oa,Oa,rj,bH,Oa];by_cases e:w=u
  .subst e;rw[if_pos rfl,if_pos rfl];congr 1;exact OL λz hz=>by rw[if_neg (λ(y:z=w)=>h.1 (y▸hz))]
  .rw[if_neg (λz=>e (ji z)),if_neg e,B9 g u x Q h.2]
variable{x:Int}
def Cy(nd:P.Nodup)(pl:P.length<1000){u:N2}(ha:a (kP P L f s3 s4 s5 s6 s7)=.ok (en u))(hb:b (kP P L f s3 s4 s5 s6 s7)=.ok (en v))(hc:c (kP P L f s3 s4 s5 s6 s7)=.ok (.int x))(hu:u∈P)(hv:v∈P):
  jA 2 a b c (kP P L f s3 s4 s5 s6 s7)=.ok (.nx (kP P L (jZ f u v x) s3 s4 s5 s6 s7)):=by
 unfold jA;show(c (kP P L f s3 s4 s5 s6 s7) >>= λw=>a (kP P L f s3 s4 s5 s6 s7) >>= λz=>match(keyOf z).bind λka=>(rk (P.map en) (gQ P f) ka).map λr=>(ka,r)with
  |some (ka,r)=>b (kP P L f s3 s4 s5 s6 s7) >>= λy=>if (keyOf y).isSome=ZC/\r.1.length<1000 then Rs.ok (Fl.nx ((kP P L f s3 s4 s5 s6 s7).set 2 (.ow (.dd (P.map en) (rj ka (hZ y w r.1 r.2) (P.map en) (gQ P f))))))else .bad
  |none=>.bad)=_
 rw[hc,aG,ha,aG,bH];have e1:rk (P.map en) (gQ P f) (ky u)=ZA (P.map en,P.map λv=>oI (f u v)):=Cg (λu=>(P.map en,P.map λv=>oI (f u v))) u P hu;simp only[Option.bind_some,e1,Xa];rw[hb,aG,bH,if_pos ⟨rfl,by rw[N9];exact pl⟩,uQ (.int x) v (λv=>oI (f u v)) P nd hv];have e2:=B9 (λu=>(P.map en,P.map λv=>oI (f u v))) u (P.map en,P.map λw=>if w=v then T.int x else oI (f u w)) P nd;have e3:(P.map λw=>if w=u then(P.map en,P.map λw=>if w=v then T.int x else oI (f u w))else(P.map en,P.map λv=>oI (f w v)))=gQ P (jZ f u v x):=by
  unfold gQ jZ;refine OL λw _=>?_;by_cases e:w=u
  .subst e;rw[if_pos rfl];congr 1;refine OL λz _=>?_;by_cases h:z=v
   .rw[if_pos h,if_pos ⟨rfl,h⟩];rfl
   .rw[if_neg h,if_neg (λq=>h q.2)]
  .rw[if_neg e];congr 1;exact OL λz _=>by rw[if_neg (λq=>e q.1)]
 show Rs.ok (Fl.nx [.va (eS P),.va (eL L),.ow (.dd (P.map en) (rj (ky u) (P.map en,P.map λw=>if w=v then T.int x else oI (f u w)) (P.map en) (gQ P f))),s3,s4,s5,s6,s7])=_;rw[show rj (ky u) (P.map en,P.map λw=>if w=v then T.int x else oI (f u w)) (P.map en) (gQ P f)=gQ P (jZ f u v x)from e2.trans e3]
def DN(nd:P.Nodup)(pl:P.length<1000){u:N2}(ha:a (kP P L f s3 s4 s5 s6 s7)=.ok (en u))(hb:b (kP P L f s3 s4 s5 s6 s7)=.ok (en v))(ha':a (Ig P L f s3 s4 s5 s6 s7)=.ok (en u))(hb':b (Ig P L f s3 s4 s5 s6 s7)=.ok (en v))(hc:c (kP P L f s3 s4 s5 s6 s7)=.ok (.int x))(hu:u∈P)(hv:v∈P):
  fS (nZ (tb (o2 iI (ln 2 (o2 bO (o2 bO (vr 2) a) b)) (cn .non))) (tb (o2 wB c (ln 2 (o2 bO (o2 bO (vr 2) a) b))))) (jA 2 a b c) sN (kP P L f s3 s4 s5 s6 s7)=.ok (.nx (kP P L (og f u v x) s3 s4 s5 s6 s7)):=by
 have g:=Dh ha' hb' hu hv;have p:=Cy nd pl ha hb hc hu hv;unfold og;cases q:f u v with
 |none=>
  rw[q]at g;exact(eJ (DA (bQ (aD g rfl rfl)))).trans p
 |some y=>
  rw[q]at g;have c2:tb (o2 wB c (ln 2 (o2 bO (o2 bO (vr 2) a) b))) (kP P L f s3 s4 s5 s6 s7)=.ok (decide (x<y)):=bQ (aD hc g rfl);by_cases h:x<y
  .rw[decide_eq_true h]at c2;simp only[if_pos h];exact(eJ (wL (bQ (aD g rfl rfl)) c2)).trans p
  .rw[decide_eq_false h]at c2;simp only[if_neg h];exact(dC (wL (bQ (aD g rfl rfl)) c2)).trans rfl
end
theorem wH:∀(P:List N2),nQ (P.map en)=ZC
 |[] =>rfl
 |u::P=>by have:=wH P;simp[nQ,bH,this]
def JT(nd:P.Nodup):((P.map en).map keyOf).Nodup:=by rw[OK];exact nd.map _ λa b h e=>h (ji e)
def Ic(nd:P.Nodup)(pl:P.length<=1000):pF 2 0 [.va (eS P),.va (eL L),.em,.em,.em,.em,.em,.em]=.ok (.nx (kP P L (λ_ _=>ZB) .em .em .em .em .em)):=by show(if (2:Nat)<8/\nQ (P.map en)=ZC/\((P.map en).map keyOf).Nodup/\(P.map en).length<=1000 then Rs.ok (Fl.nx [.va (eS P),.va (eL L),.ow (.dd (P.map en) ((P.map en).map λ_=>(P.map en,(P.map en).map λ_=>T.non))),.em,.em,.em,.em,.em])else .bad)=_;rw[if_pos ⟨by omega,wH P,JT nd,by rw[N9];exact pl⟩,OK,OK];rfl
theorem Hi(nd:P.Nodup)(pl:P.length<1000):∀(Q:List N2)(f:dG N2)(s3 s4 s5 s6 s7:Sl),(∀u∈Q,u∈P)->∃s3',
  bA (gN 3) (jA 2 (vr 3) (vr 3) (cn (.int 0))) (Q.map en) (kP P L f s3 s4 s5 s6 s7)=.ok (.nx (kP P L (Q.foldl (λf u=>jZ f u u 0) f) s3' s4 s5 s6 s7))
 |[],f,s3,s4,s5,s6,s7,_=>⟨s3,rfl⟩
 |u::Q,f,s3,s4,s5,s6,s7,h=>by have hu:=h u Ob;rw[Oa,dO rfl (Cy nd pl rfl rfl rfl hu hu)];exact Hi nd pl Q _ _ _ _ _ _ λw hw=>h w (N6 _ hw)
theorem sy:∀(Q:List N2)(f:dG N2)(u v:N2),Q.foldl (λf u=>jZ f u u 0) f u v=if u∈Q/\u=v then ZA 0 else f u v
 |[],f,u,v=>by rw[if_neg (λh=>nomatch h.1)];rfl
 |w::Q,f,u,v=>by
  rw[W2,sy Q];by_cases e:u=v
  .subst e;by_cases m:u∈Q
   .rw[if_pos ⟨m,rfl⟩,if_pos ⟨N6 _ m,rfl⟩]
   .rw[if_neg (λz=>m z.1)];unfold jZ;by_cases q:u=w
    .subst q;rw[if_pos ⟨rfl,rfl⟩,if_pos ⟨Ob,rfl⟩]
    .rw[if_neg (λz=>q z.1),if_neg (λz=>(Oe.mp z.1).elim q m)]
  .rw[if_neg (λz=>e z.2),if_neg (λz=>e z.2)];unfold jZ;rw[if_neg (λz=>e (z.1.trans z.2.symm))]
def Bd(P:List N2):P.foldl (λf u=>jZ f u u 0) (λ_ _=>ZB)=vo P:=by
 funext u v
 rw[sy];rfl
theorem Hh(nd:P.Nodup)(pl:P.length<1000):∀(M:bS N2)(f:dG N2)(s3 s4 s5 s6 s7:Sl),(∀x∈M,x.1∈P/\x.2.1∈P)->∃s3' s4' s5',
  bA (gT 3 (i7 (gN 3) (i7 (gN 4) (i7 (gN 5) ve)))) (fS (nZ (tb (o2 iI (ln 2 (o2 bO (o2 bO (vr 2) (vr 3)) (vr 4))) (cn .non))) (tb (o2 wB (vr 5) (ln 2 (o2 bO (o2 bO (vr 2) (vr 3)) (vr 4)))))) (jA 2 (vr 3) (vr 4) (vr 5)) sN) (M.map eB) (kP P L f s3 s4 s5 s6 s7)=.ok (.nx (kP P L (M.foldl (λf x=>og f x.1 x.2.1 x.2.2) f) s3' s4' s5' s6 s7))
 |[],f,s3,s4,s5,s6,s7,_=>⟨s3,s4,s5,rfl⟩
 |x::M,f,s3,s4,s5,s6,s7,h=>by have hx:=h x Ob;rw[Oa,dO rfl (DN nd pl rfl rfl rfl rfl rfl hx.1 hx.2)];exact Hh nd pl M _ _ _ _ _ _ λw hw=>h w (N6 _ hw)
def E5(nd:P.Nodup)(pl:P.length<1000){mid one other:N2}(hm:mid∈P)(h1:one∈P)(h2:other∈P)(f:dG N2)(s5 s7:Sl):∃s7',
  KP (kP P L f (.va (en one)) (.va (en other)) s5 (.va (en mid)) s7)=.ok (.nx (kP P L (ml mid one other f) (.va (en one)) (.va (en other)) s5 (.va (en mid)) s7')):=by
 have ga:∀s7,ln 2 (o2 bO (o2 bO (vr 2) (vr 3)) (vr 6)) (kP P L f (.va (en one)) (.va (en other)) s5 (.va (en mid)) s7)=.ok (oI (f one mid)):=λs7=>Dh rfl rfl h1 hm;have gb:∀s7,ln 2 (o2 bO (o2 bO (vr 2) (vr 6)) (vr 4)) (kP P L f (.va (en one)) (.va (en other)) s5 (.va (en mid)) s7)=.ok (oI (f mid other)):=λs7=>Dh rfl rfl hm h2;unfold ml KP;cases qa:f one mid with
 |none=>
  have ga:=ga s7;rw[qa]at ga;exact⟨s7,(dC (DI (bQ (aD ga rfl rfl)))).trans rfl⟩
 |some x=>
  have ga:=ga s7;rw[qa]at ga;have c1:=bQ (aD (g:=fW) (fb:=cn .non) ga rfl rfl);cases qb:f mid other with
  |none=>
   have gb:=gb s7;rw[qb]at gb;exact⟨s7,(dC (yB c1 (bQ (aD gb rfl rfl)))).trans rfl⟩
  |some y=>
   have gb:=gb s7;rw[qb]at gb;refine⟨.va (.int (x+y)),(eJ (yB c1 (bQ (aD gb rfl rfl)))).trans ?_⟩;rw[aw (bL (aD ga gb rfl) rfl)];exact DN nd pl rfl rfl rfl rfl rfl h1 h2
theorem Hg(nd:P.Nodup)(pl:P.length<1000){mid one:N2}(hm:mid∈P)(h1:one∈P):∀(Q:List N2)(f:dG N2)(s4 s5 s7:Sl),(∀u∈Q,u∈P)->∃s4' s7',
  bA (gN 4) KP (Q.map en) (kP P L f (.va (en one)) s4 s5 (.va (en mid)) s7)=.ok (.nx (kP P L (mm mid one Q f) (.va (en one)) s4' s5 (.va (en mid)) s7'))
 |[],f,s4,s5,s7,_=>⟨s4,s7,rfl⟩
 |u::Q,f,s4,s5,s7,h=>by have hu:=h u Ob;obtain⟨s7',e⟩:=E5 nd pl hm h1 hu f s5 s7;rw[Oa,dO rfl e];exact Hg nd pl hm h1 Q _ _ _ _ λw hw=>h w (N6 _ hw)
theorem Hf(nd:P.Nodup)(pl:P.length<1000){mid:N2}(hm:mid∈P):∀(Q:List N2)(f:dG N2)(s3 s4 s5 s7:Sl),(∀u∈Q,u∈P)->∃s3' s4' s7',
  bA (gN 3) (eh (iS (vr 0)) (gN 4) KP) (Q.map en) (kP P L f s3 s4 s5 (.va (en mid)) s7)=.ok (.nx (kP P L (qG mid Q P f) s3' s4' s5 (.va (en mid)) s7'))
 |[],f,s3,s4,s5,s7,_=>⟨s3,s4,s7,rfl⟩
 |u::Q,f,s3,s4,s5,s7,h=>by have hu:=h u Ob;obtain⟨s4',s7',e⟩:=Hg nd pl hm hu P f s4 s5 s7 λ_ z=>z;rw[Oa,dO rfl (fX rfl e)];exact Hf nd pl hm Q _ _ _ _ _ λw hw=>h w (N6 _ hw)
theorem He(nd:P.Nodup)(pl:P.length<1000):∀(Q:List N2)(f:dG N2)(s3 s4 s5 s6 s7:Sl),(∀u∈Q,u∈P)->∃s3' s4' s6' s7',
  bA (gN 6) (eh (iS (vr 0)) (gN 3) (eh (iS (vr 0)) (gN 4) KP)) (Q.map en) (kP P L f s3 s4 s5 s6 s7)=.ok (.nx (kP P L (wU Q P f) s3' s4' s5 s6' s7'))
 |[],f,s3,s4,s5,s6,s7,_=>⟨s3,s4,s6,s7,rfl⟩
 |u::Q,f,s3,s4,s5,s6,s7,h=>by have hu:=h u Ob;obtain⟨s3',s4',s7',e⟩:=Hf nd pl hu P f s3 s4 s5 s7 λ_ z=>z;rw[Oa,dO rfl (fX rfl e)];exact He nd pl Q _ _ _ _ _ _ λw hw=>h w (N6 _ hw)
def Ha(P:List N2)(f:dG N2):Prop:=∀u∈P,∀y,f u u=ZA y->0<=y
def Ie(hd:∀u∈P,∃y,table P L u u=ZA y)(pl:P.length<1000)(s3 s4 s5 s6 s7:Sl):
  ∃t,((Ha P (table P L)/\t=nW P (table P L))\/(¬Ha P (table P L)/\t=.non))/\nX 2 (aL (DO (tb (o2 oj (d9 (iS (vr 0)) [ZB,ZA 2] (gN 0) (tb (o2 wB (o2 bO (o2 bO (vr 1) (vr 0)) (vr 0)) (cn (.int 0)))) (vr 0)) (dB ai))) (vr 2) (cn .non))) (kP P L (table P L) s3 s4 s5 s6 s7)=.ok (.rt t):=by
 generalize hf:table P L=f;rw[hf]at hd;have lc:d9 (iS (vr 0)) [ZB,ZA 2] (gN 0) (tb (o2 wB (o2 bO (o2 bO (vr 1) (vr 0)) (vr 0)) (cn (.int 0)))) (vr 0) (Ig P L f s3 s4 s5 s6 s7)=.ok (.lst (((P.map en).filter λt=>P.any λu=>decide (keyOf t=ZA (ky u))&&(match f u u with|some y=>decide (y<0)|none=>ZD)).map id)):=by
  refine mf rfl (aB (k:=1000) (by rw[N9];omega)) (by simp) λt ht=>?_;obtain⟨u,hu,rfl⟩:=On.mp ht;obtain⟨y,hy⟩:=hd u hu;refine⟨?_,λ_=>rfl⟩;have e:(P.any λw=>decide (keyOf (en u)=ZA (ky w))&&(match f w w with|some y=>decide (y<0)|none=>ZD))=decide (y<0):=by
   by_cases h:y<0
   .rw[decide_eq_true h];exact Rt.mpr ⟨u,hu,by rw[hy];simp[h,bH]⟩
   .rw[decide_eq_false h,TM];intro w hw;by_cases q:w=u
    .subst q;rw[hy];simp[h]
    .rw[decide_eq_false (λz=>q (ji ((bH u).symm.trans z)).symm)];simp
  rw[e];have g:=BV (Z:=[.va (en u),.va (nW P f)]) (c:=vr 1) (a:=vr 0) (b:=vr 0) rfl rfl rfl hu hu;rw[hy]at g;exact bQ (aD g rfl rfl)
 rw[RD]at lc;generalize hp:(λt=>P.any λu=>decide (keyOf t=ZA (ky u))&&(match f u u with|some y=>decide (y<0)|none=>ZD))=p at lc;have pu:∀u∈P,∀y,f u u=ZA y->p (en u)=decide (y<0):=by
  intro u hu y hy;rw[<-hp];show(P.any λw=>decide (keyOf (en u)=ZA (ky w))&&(match f w w with|some y=>decide (y<0)|none=>ZD))=decide (y<0);by_cases h:y<0
  .rw[decide_eq_true h];exact Rt.mpr ⟨u,hu,by rw[hy];simp[h,bH]⟩
  .rw[decide_eq_false h,TM];intro w hw;by_cases q:w=u
   .subst q;rw[hy];simp[h]
   .rw[decide_eq_false (λz=>q (ji ((bH u).symm.trans z)).symm)];simp
 have iff:(P.map en).filter p=[] ↔Ha P f:=by
  rw[List.filter_eq_nil_iff];constructor
  .intro h u hu y hy;have:=h (en u) (On.mpr ⟨u,hu,rfl⟩);rw[pu u hu y hy]at this;simpa using this
  .intro h t ht;obtain⟨u,hu,rfl⟩:=On.mp ht;obtain⟨y,hy⟩:=hd u hu;rw[pu u hu y hy];have:=h u hu y hy;simpa using this
 have nd:nds ((P.map en).filter p)=ZC:=lC λt ht=>by obtain⟨u,_,rfl⟩:=On.mp (PH.mp ht).1;rfl
 have eq:o2 oj (d9 (iS (vr 0)) [ZB,ZA 2] (gN 0) (tb (o2 wB (o2 bO (o2 bO (vr 1) (vr 0)) (vr 0)) (cn (.int 0)))) (vr 0)) (dB ai) (Ig P L f s3 s4 s5 s6 s7)=.ok (.bl (aU (.lst ((P.map en).filter p)) (.lst []))):=
  aD lc (jV rfl (aB (k:=1) (by simp))) (by unfold oj;rw[if_pos (wV (by simp[T.dep,deps]) (by simpa [T.nd]using nd) rfl)])
 by_cases D:Ha P f
 .refine⟨nW P f,.inl ⟨D,rfl⟩,?_⟩;rw[iff.mpr D]at eq;refine DG ?_;rw[yK];exact b8 ((wM (bQ eq)).trans rfl)
 .refine⟨.non,.inr ⟨D,rfl⟩,?_⟩;have:(P.map en).filter p≠ []:=λz=>D (iff.mp z);cases q:(P.map en).filter p with
  |nil=>exact absurd q this
  |cons a l=>
   rw[q]at eq;refine DG ?_;rw[yK];exact b8 ((wM (p:=ZD) (bQ (eq.trans (by simp[aU,beqTs])))).trans rfl)
def GG(nd:P.Nodup)(pl:P.length<1000)(hL:∀x∈L,x.1∈P/\x.2.1∈P):
  ∃t,((NoNeg L/\Least L P (table P L)/\t=nW P (table P L))\/(¬NoNeg L/\t=.non))/\bN [eS P,eL L]=.ok t:=by
 obtain⟨a3,e1⟩:=Hi nd pl P (λ_ _=>ZB) .em .em .em .em .em λ_ z=>z;rw[Bd]at e1;obtain⟨b3,b4,b5,e2⟩:=Hh nd pl L (vo P) a3 .em .em .em .em hL;obtain⟨c3,c4,c6,c7,e3⟩:=He nd pl P (BW P L) b3 b4 b5 .em .em λ_ z=>z;obtain⟨t,ht,e4⟩:=Ie (λu hu=>let ⟨y,h,_⟩:=o7 (L:=L) hu;⟨y,h⟩) pl c3 c4 b5 c6 c7;refine⟨t,ht.elim (λh=>.inl ?_) (λh=>.inr ⟨λn=>h.1 λu hu y hy=>?_,h.2⟩),bJ rfl ?_⟩
 .have:=nB hL h.1;exact⟨this.1,this.2,h.2⟩
 .exact Int.not_lt.mp λz=>rN hy z n
 .show jt [.va (eS P),.va (eL L),.em,.em,.em,.em,.em,.em]=_;unfold jt;rw[aw (Ic nd (by omega)),aw (fX rfl e1),aw (fX rfl e2)];exact(aw (fX rfl e3)).trans e4
variable{ns:List Int}
theorem Gd{a:N2}(S:Settled L [a] b)(F:Least L P f)(ha:a∈P)(c:N2):Hy (b c)=oI (f a c):=by
 cases q:b c with
 |none=>
  cases e:f a c with
  |none=>rfl
  |some y=>
   obtain⟨d,w,z,_⟩:=S.least a (by simp) c y (F.is a c y e);rw[q]at z;cases z
 |some x=>
  obtain⟨d,w⟩:=x;obtain⟨s,hs,h1,h2,_⟩:=S.walk c d w q;rw[Ox.mp hs]at h1;have wk:Wk L a c d:=h2▸h1.wk;obtain⟨y,e,hy⟩:=F.le a ha c d wk;obtain⟨d',w',z,hd⟩:=S.least a (by simp) c y (F.is a c y e);rw[q]at z;cases z;rw[e];show T.int d=.int y;congr 1;omega
def Ly(o:Option Int):(oI o).pl=ZC:=by cases o <;> rfl
theorem yg{D:Bool}:∀{l:List T},(∀t∈l,t.nk D=ZC)->nks D l=ZC
 |[],_=>rfl
 |t::l,h=>by unfold nks;rw[h t Ob,yg λu hu=>h u (N6 _ hu)];rfl
theorem gi:∀{l:List T},(∀t∈l,t.dep<=k)->deps l<=k
 |[],_=>by unfold deps;omega
 |t::l,h=>by unfold deps;exact Nat.max_le.mpr ⟨h t Ob,gi λu hu=>h u (N6 _ hu)⟩
def nY(P:List N2)(f:dG N2)(u:N2):T:=.tup (P.map λv=>oI (f u v))
def jF(P:List N2)(f:dG N2):T:=.tup (P.map (nY P f))
def Jf(P:List N2)(f:dG N2)(u:N2):(nY P f u).pl=ZC:=by unfold nY;rw[gU];exact gz λt ht=>by obtain⟨v,_,rfl⟩:=On.mp ht;exact Ly _
def CF(P:List N2)(f:dG N2):(jF P f).pl=ZC:=by unfold jF;rw[gU];exact gz λt ht=>by obtain⟨v,_,rfl⟩:=On.mp ht;exact Jf _ _ _
def JB(D:Bool)(P:List N2)(f:dG N2):(jF P f).nk D=ZC:=by show nks D (P.map (nY P f))=ZC;refine yg λt ht=>?_;obtain⟨u,_,rfl⟩:=On.mp ht;show nks D (P.map λv=>oI (f u v))=ZC;refine yg λt ht=>?_;obtain⟨v,_,rfl⟩:=On.mp ht;cases f u v <;> rfl
theorem GP(P:List N2)(f:dG N2):(jF P f).dep<=60:=by
 have h0:∀o:Option Int,(oI o).dep<=1:=λo=>by cases o <;> simp[oI,T.dep]
 have h1:∀u,(nY P f u).dep<=2:=λu=>by
  unfold nY T.dep;have:deps (P.map λv=>oI (f u v))<=1:=gi λt ht=>by obtain⟨v,_,rfl⟩:=On.mp ht;exact h0 _
  omega
 unfold jF T.dep;have:deps (P.map (nY P f))<=2:=gi λt ht=>by obtain⟨v,_,rfl⟩:=On.mp ht;exact h1 _
 omega
def Ed{ms:List N2}(D:DR P ms b)(c:N2):gJ [.dct (ms.map en) (dV ms b),en c]=.ok (Hy (b c)):=by
 refine bJ rfl ?_;refine b8 ((wM (bQ (aD rfl rfl (yL D c)))).trans ?_);cases q:b c with
 |none=>rfl
 |some x=>exact aD (aD rfl rfl (yJ D q)) rfl rfl
noncomputable def deO(f:dG N2)(u:N2)(t:T):T:=match t with
 |.tup [.int c,.int k] =>oI (f u ⟨c,k⟩)
 |_=>.non
def GU(P:List N2)(f:dG N2)(u:N2):(P.map en).map (deO f u)=P.map λv=>oI (f u v):=by rw[OK];rfl
theorem Rd.Nj(R:Rd cs ls L P)(n:NoNeg L)(F:Least L P f):∀(Q:List N2)(acc:List T)(s3 s4:Sl),(∀u∈Q,u∈P)->acc.length+Q.length<=1000->∃s3' s4',
  bA (gN 3) amF (Q.map en) [.va (RR cs ls),.va (eS P),.ow (.lst acc),s3,s4]=.ok (.nx [.va (RR cs ls),.va (eS P),.ow (.lst (acc++Q.map (nY P f))),s3',s4'])
 |[],acc,s3,s4,_,_=>⟨s3,s4,by simp only[Tw,Px];rfl⟩
 |u::Q,acc,s3,s4,h,hl=>by
  have hu:=h u Ob;rw[Oh]at hl;obtain⟨b,ms,S,D,e⟩:=R.from_ n hu;have lc:d9 (iS (vr 1)) [ZB,ZA 4] (gN 0) bT (cl gJ (ae (vr 1) (ae (vr 0) ai))) [.va (RR cs ls),.va (eS P),.ow (.lst acc),.va (en u),.va (.dct (ms.map en) (dV ms b))]=.ok (.lst ((P.map en).map (deO f u))):=
   m7 (iw rfl) (aB (by rw[N9];exact R.pl)) (by simp) λt ht=>by obtain⟨v,hv,rfl⟩:=On.mp ht;refine(aI rfl (Ed D v)).trans ?_;rw[Gd S F hu];rfl
  rw[GU]at lc;have st:amF [.va (RR cs ls),.va (eS P),.ow (.lst acc),.va (en u),s4]=.ok (.nx [.va (RR cs ls),.va (eS P),.ow (.lst (acc++[nY P f u])),.va (en u),.va (.dct (ms.map en) (dV ms b))]):=by refine(aw (bL (aI rfl e) rfl)).trans ?_;exact nR (aI (ar lc rfl) mI) rfl (by omega)
  obtain⟨a,c,ih⟩:=R.Nj n F Q (acc++[nY P f u]) (.va (en u)) (.va (.dct (ms.map en) (dV ms b))) (λw hw=>h w (N6 _ hw)) (by rw[Ol];simp only[Oh,UH];omega);refine⟨a,c,?_⟩;rw[Oa,dO rfl st,ih,OQ];rfl
def Rd.NV(R:Rd cs ls L P)(n:NoNeg L)(F:Least L P f):gY [(RR cs ls)]=.ok (jF P f):=by refine bJ rfl ?_;show lI [.va (RR cs ls),.em,.em,.em,.em]=_;unfold lI;rw[aw (uJ (aI rfl (R.Nl n)))];rw[aw (bL (aI rfl R.events) rfl)];rw[aw (Z':=[.va (RR cs ls),.va (eS P),.ow (.lst []),.em,.em]) (uH (by simp))];obtain⟨a,c,e⟩:=R.Nj n F P [] .em .em (λ_ z=>z) (by have:=R.pl;simp;omega);rw[aw (fX (iw rfl) e),P2];exact b8 (JZ rfl (aI rfl mI) (JB _ P f))
def wt{n:Int}{t:T}(ht:t.pl=ZC)(h:aX t 0 (n - 1)=ZC):eR [.int n,t]=.ok .non:=by refine yz (Z:=[.va (.int n),.va t]) rfl ?_;show ff [.va (.int n),.va t]=_;unfold ff;exact(dC (iu (k:=ZC) (bQ (aI rfl (by rw[fM _ _ _ ht,h]))))).trans rfl
def Em{y:N2×N2×Int}(h:eB x=eB y):x=y:=by obtain⟨a,b,m⟩:=x;obtain⟨a',b',m'⟩:=y;unfold eB at h;have h':=T.tup.inj h;simp only[WZ,T.int.injEq,and_true]at h';rw[uP h'.1,uP h'.2.1,h'.2.2]
def zr{a b:T}(ha:a.pl=ZC)(hb:b.pl=ZC):(T.tup [a,b]).pl=ZC:=by simp[T.pl,plS,ha,hb]
variable{M:bS N2}
section
variable {t:N2->Int}
def Rd.same{Q:List N2}(R:Rd cs ls L P)(S:Rd cs ms M Q):Q=P:=by
 have:P.map en=Q.map en:=by rw[<-R.e,<-S.e]
 clear R S;induction P generalizing Q with
 |nil=>cases Q with
  |nil=>rfl
  |cons a Q=>simp at this
 |cons v P ih=>cases Q with
  |nil=>simp at this
  |cons a Q=>
   rw[Oa,Oa,WZ]at this;rw[uP this.1,ih this.2]
theorem BN(F:Least L P f)(h1:∀x∈M,x.1∈P/\∃d,f x.1 x.2.1=ZA d/\d<=x.2.2){u:N2}(w:Wk M u v s):u∈P->∃d,f u v=ZA d/\d<=s:=by
 induction w with
 |nil a=>intro ha;exact F.le a ha a 0 (.nil a)
 |@step a b c m s hx w ih=>
  intro ha;obtain⟨_,d1,e1,l1⟩:=h1 _ hx;dsimp only at l1;have w1:=F.is a b d1 e1;by_cases hb:b∈P
  .obtain⟨d2,e2,l2⟩:=ih hb;obtain⟨d,e,l⟩:=F.le a ha c _ (w1.app (F.is b c d2 e2));exact⟨d,e,by omega⟩
  .cases w with
   |nil _=>exact⟨d1,e1,by omega⟩
   |step hy _=>exact absurd (h1 _ hy).1 hb
theorem HZ(h2:∀x∈L,∃m,m<=x.2.2/\(x.1,x.2.1,m)∈M){u:N2}(w:Wk L u v s):∃s',s'<=s/\Wk M u v s':=by
 induction w with
 |nil a=>exact⟨0,P8 _,.nil a⟩
 |@step a b c m s hx w ih=>
  obtain⟨s',l,w'⟩:=ih;obtain⟨m',l',hx'⟩:=h2 _ hx;exact⟨m'+s',by dsimp only at l';omega,.step hx' w'⟩
def A1(F:Least L P f)(hL:∀x∈L,x.1∈P)(h1:∀x∈M,x.1∈P/\∃d,f x.1 x.2.1=ZA d/\d<=x.2.2)(h2:∀x∈L,∃m,m<=x.2.2/\(x.1,x.2.1,m)∈M):Least M P f where
 is:=λu v d e=>by
  have w:=F.is u v d e;by_cases hu:u∈P
  .obtain⟨s',l,w'⟩:=HZ h2 w;obtain⟨d',e',l'⟩:=BN F h1 w' hu;rw[e]at e';cases e';have:s'=d:=by omega
   rw[<-this];exact w'
  .cases w with
   |nil _=>exact .nil _
   |step hy _=>exact absurd (hL _ hy) hu
 le:=λu hu v s w=>BN F h1 w hu
def Mm(P:List N2):(eS P).pl=ZC:=by show(T.lst (P.map en)).pl=ZC;unfold T.pl;exact gz λu hu=>by obtain⟨v,_,rfl⟩:=On.mp hu;rfl
theorem Ke(P:List N2):(eS P).dep<=60:=by
 show(T.lst (P.map en)).dep<=60;have:deps (P.map en)<=5:=gi λu hu=>by obtain⟨v,_,rfl⟩:=On.mp hu;simp[en,T.dep,deps]
 unfold T.dep;omega
end
open Classical in
def Ay(P:List N2)(L:bS N2):Option (List (Option Int)):=if NoNeg L then ZA (P.flatMap λu=>P.map (table P L u))else ZB
def AB(P:List N2)(L M:bS N2):Bool:=by classical exact decide (Ay P L=Ay P M)
theorem uL{f g:α->α->β}{Q:List α}:∀{P:List α},(P.flatMap λu=>Q.map (f u))=(P.flatMap λu=>Q.map (g u))↔ ∀u∈P,∀v∈Q,f u v=g u v
 |[] =>by simp
 |u::P=>by
  rw[QP,QP];constructor
  .intro e w hw v hv;obtain⟨h1,h2⟩:=List.append_inj e (by rw[N9,N9]);rcases Oe.mp hw with rfl|hw
   .exact Wf.mp h1 v hv
   .exact(uL).mp h2 w hw v hv
  .intro h;rw[Wf.mpr λv hv=>h u Ob v hv,(uL).mpr λw hw v hv=>h w (N6 _ hw) v hv]
section
variable {N:bS N2}{g:dG N2}
def eY(he:∀x∈L,x.1∈P/\x.2.1∈P)(n:NoNeg L):Least L P (table P L):=(nB he λu _ y h=>Int.not_lt.mp λz=>rN h z n).2
def oY(n:NoNeg L):Ay P L=ZA (P.flatMap λu=>P.map (table P L u)):=by unfold Ay;rw[if_pos n]
def tw(n:¬ NoNeg L):Ay P L=ZB:=by unfold Ay;rw[if_neg n]
def zc(he:∀x∈L,x.1∈P/\x.2.1∈P)(he2:∀x∈M,x.1∈P/\x.2.1∈P)(n:NoNeg L)(m:NoNeg M)(F:Least L P f)(G:Least M P g):Ay P L=Ay P M↔ ∀u∈P,∀v∈P,f u v=g u v:=by
 rw[oY n,oY m,Su,uL];constructor
 .intro h u hu v hv;rw[F.uniq (eY he n) hu,G.uniq (eY he2 m) hu];exact h u hu v hv
 .intro h u hu v hv;rw[(eY he n).uniq F hu,(eY he2 m).uniq G hu];exact h u hu v hv
def smB_iff:AB P L M=ZC↔Ay P L=Ay P M:=by unfold AB;exact decide_eq_true_iff
end
def Kw(a b:Option Int):aU (oI a) (oI b)=decide (a=b):=by
 cases a with
 |none=>cases b <;> simp[oI,aU]
 |some x=>
  cases b with
  |none=>simp[oI,aU]
  |some y=>simp only[oI,aU,Su];rfl
theorem nj{f g:α->T}:∀(l:List α),beqTs (l.map f) (l.map g)=ZC↔ ∀x∈l,aU (f x) (g x)=ZC
 |[] =>by simp[beqTs]
 |x::l=>by rw[Oa,Oa,beqTs,N7,nj l];simp
def Ao(P:List N2)(f g:dG N2):aU (jF P f) (jF P g)=ZC↔ ∀u∈P,∀v∈P,f u v=g u v:=by show beqTs (P.map (nY P f)) (P.map (nY P g))=ZC↔_;rw[nj];refine forall_congr' λu=>imp_congr_right λ_=>?_;show beqTs (P.map λv=>oI (f u v)) (P.map λv=>oI (g u v))=ZC↔_;rw[nj];refine forall_congr' λv=>imp_congr_right λ_=>?_;rw[Kw];exact decide_eq_true_iff
def Kf(P:List N2)(f g:dG N2):oj (jF P f) (jF P g)=.ok (.bl (aU (jF P f) (jF P g))):=by unfold oj;rw[if_pos (hV (GP P f) (T.KF _ (CF P f)) (T.KF _ (CF P g)))]
def Rd.NW{ds:List T}(R:Rd cs ls L P)(S:Rd ds ms M P):cm [RR cs ls,RR ds ms]=.ok (.bl (AB P L M)):=by
 obtain⟨h1,e1,i1⟩:=R.Nr;obtain⟨h2,e2,i2⟩:=S.Nr;refine bJ rfl ?_;show iK [.va (RR cs ls),.va (RR ds ms)]=_;unfold iK;rw[aw ((dC (bQ (aD (aI rfl R.events) (aI rfl S.events) (kB (Mm P) (Ke P))))).trans rfl)];have a1:tb (cl aN (ae (vr 0) ai)) [.va (RR cs ls),.va (RR ds ms)]=.ok h1:=bQ (aI rfl e1);have a2:tb (cl aN (ae (vr 1) ai)) [.va (RR cs ls),.va (RR ds ms)]=.ok h2:=bQ (aI rfl e2);have r1:o1 uu (cl aN (ae (vr 0) ai)) [.va (RR cs ls),.va (RR ds ms)]=.ok (.bl (!h1)):=DB (aI rfl e1);have r2:o1 uu (cl aN (ae (vr 1) ai)) [.va (RR cs ls),.va (RR ds ms)]=.ok (.bl (!h2)):=DB (aI rfl e2);have no:∀{b:Bool}{X:Prop},(b=ZC↔X)->b=ZD->¬ X:=λi q x=>by rw[i.mpr x]at q;cases q
 cases h1 with
 |false=>
  have n1:=no i1 rfl;refine iH ((eJ (DA (iu a1))).trans (b8 ((qD r1).trans (r2.trans ?_))));cases h2 with
  |false=>have n2:=no i2 rfl;rw[smB_iff.mpr (by rw[tw n1,tw n2])];rfl
  |true=>
   have n2:=i2.mp rfl;cases q:AB P L M with
   |false=>rfl
   |true=>have:=smB_iff.mp q;rw[tw n1,oY n2]at this;cases this
 |true=>
  have n1:=i1.mp rfl;cases h2 with
  |false=>
   have n2:=no i2 rfl;refine iH ((eJ (wL (iu a1) (iu a2))).trans (b8 ((zW r1).trans ?_)));cases q:AB P L M with
   |false=>rfl
   |true=>have:=smB_iff.mp q;rw[tw n2,oY n1]at this;cases this
  |true=>
   have n2:=i2.mp rfl;rw[aw ((dC (wL (iu a1) (iu a2))).trans rfl)];have F:=eY R.f.ends n1;have G:=eY S.f.ends n2;refine b8 ((aD (aI rfl (R.NV n1 F)) (aI rfl (S.NV n2 G)) (Kf _ _ _)).trans ?_);have key:aU (jF P (table P L)) (jF P (table P M))=ZC↔AB P L M=ZC:=by rw[Ao,smB_iff,zc R.f.ends S.f.ends n1 n2 F G]
   cases q:AB P L M with
   |true=>rw[key.mpr q]
   |false=>
    cases q2:aU (jF P (table P L)) (jF P (table P M))with
    |false=>rfl
    |true=>have:=key.mp q2;rw[q]at this;cases this
noncomputable def deB(t:T):N2×N2×Int:=match t with
 |.tup [.tup [.int a,.int b],.tup [.int c,.int d],.int m] =>(⟨a,b⟩,⟨c,d⟩,m)
 |_=>(⟨0,0⟩,⟨0,0⟩,0)
def lim(cs ls:List T):bS N2:=(Bx cs ls).map deB
def Rd.M6(R:Rd cs ls L P):lim cs ls=L:=by unfold lim;rw[R.b,OK];exact(OL λx _=>show deB (eB x)=x by obtain⟨a,b,m⟩:=x;rfl).trans (RD L)
theorem Rd.sub(R:Rd cs ls L P)(h:∀u∈ms,u∈ls)(hn:ms.length<=8):Rd cs ms (lim cs ms) P:=by obtain⟨M,Q,S⟩:=rW (R.g.sub h hn);obtain rfl:=R.same S;rw[S.M6];exact S
def Rd.to(R:Rd cs ls L P)(g:Good cs ms):Rd cs ms (lim cs ms) P:=by obtain⟨M,Q,S⟩:=rW g;obtain rfl:=R.same S;rw[S.M6];exact S
def GZ(h:∀u∈ms,u∈ls):∀x∈Bx cs ms,x∈Bx cs ls:=λx hx=>by
 unfold Bx at hx ⊢;rcases OP.mp hx with z|z
 .exact O6 _ z
 .obtain⟨u,hu,z⟩:=R0.mp z;exact OI _ (R0.mpr ⟨u,h u hu,z⟩)
def zL(h:∀u∈ms,u∈ls):∀x∈lim cs ms,x∈lim cs ls:=λx hx=>by unfold lim at hx ⊢;obtain⟨y,hy,rfl⟩:=On.mp hx;exact On.mpr ⟨y,GZ h y hy,rfl⟩
def key(P:List N2)(cs ms:List T):=Ay P (lim cs ms)
def Rd.NG(R:Rd cs ls L P){as bs:List T}(ga:Good cs as)(gb:Good cs bs):∃b,cm [RR cs as,RR cs bs]=.ok (.bl b)/\(b=ZC↔key P cs as=key P cs bs):=⟨_,(R.to ga).NW (R.to gb),smB_iff⟩
def nI(k:Nat):T:=.int (k:Nat)
theorem sG(d:α):∀(l:List α)(j:Nat),((Oj l.length).filter λk=>k != j).map (λk=>l.getD k d)=l.eraseIdx j
 |[],j=>by simp
 |x::l,0=>by
  rw[Oh,Rw,SU,Sh];have e:(Oj l.length).filter ((λk=>k != 0)∘Nat.succ)=Oj l.length:=List.filter_eq_self.mpr λk _=>by simp
  rw[e,if_neg (by simp),OK,List.eraseIdx_cons_zero];apply V4;intro k;rw[Ot];by_cases h:k<l.length
  .rw[Qq h,Od h];simp[h]
  .rw[PM (by simpa using h),PM (by simpa using h)];rfl
 |x::l,j+1=>by
  rw[Oh,Rw,SU,Sh,if_pos (by simp),Oa,OK,List.eraseIdx_cons_succ];have e:(λk=>k != j+1)∘Nat.succ=λk=>k != j:=by funext k;simp
  rw[e,<-sG d l j];simp
variable{f:Y2}
def oE(h:f Z=.ok (.tup l)):cl cA (ae f ai) Z=.ok (.int (l.length:Nat)):=aI (ar h rfl) rfl
theorem Ah(h:ls.length<=8):bK [RR cs ls]=.ok (.lst ((Oj ls.length).map nI)):=by refine bJ rfl ?_;refine b8 ?_;have hl:=oE (f:=o2 aW (vr 0) (cn (.int 1))) (Z:=[.va (RR cs ls)]) (aD rfl rfl (gw rfl));show lR (ae (cl cA (ae (o2 aW (vr 0) (cn (.int 1))) ai)) ai) [.va (RR cs ls)]=_;unfold lR;rw[ar hl rfl,aG];show(if (mi (ls.length:Nat)&&decide (((ls.length:Nat):Int).toNat<=1000))=ZC then Rs.ok (T.lst (rng 0 (ls.length:Nat)))else .bad)=_;rw[if_pos (by rw[N7];exact⟨z8 (by omega),decide_eq_true (by omega)⟩),jc];rfl
def jY(t:T):Nat:=match t with
 |.int k=>k.toNat
 |_=>0
def eZ(k:Nat):jY (nI k)=k:=by unfold jY nI;exact Pz k
def Hv(a b:Nat):oB (nI a) (nI b)=.ok (.bl (a != b)):=by
 unfold oB nI;rw[if_pos (hV (by simp[T.dep]) rfl rfl)];show Rs.ok (T.bl (!((a:Int) == (b:Int))))=_;congr 2;by_cases h:a=b
 .subst h;simp
 .have:((a:Int) == (b:Int))=ZD:=beq_eq_false_iff_ne.mpr (by omega);rw[this];simp[h]
def i8{q:Nat->Bool}(l:List Nat):((l.map nI).filter λt=>q (jY t)).map id=(l.filter q).map nI:=by rw[RD,Sh];refine congrArg _ ?_;exact TV λk _=>by show q (jY (nI k))=q k;rw[eZ]
variable{l:List Nat}
def sJ(h:l.length<=1000):ez [.lst (l.map nI),nI j]=.ok (.lst ((l.filter λk=>k != j).map nI)):=by
 refine bJ rfl ?_;refine b8 ?_;rw[<-i8];exact mf (iw rfl) (aB (by rw[N9];exact h) (by omega)) (by simp) λt ht=>by obtain⟨k,_,rfl⟩:=On.mp ht;exact⟨bQ (aD rfl rfl (by rw[Hv,eZ])),λ_=>rfl⟩
def yI(h:l.length<=1000)(hl:∀k∈l,k<ls.length):bR [RR cs ls,.lst (l.map nI)]=.ok (RR cs (l.map λk=>ls.getD k .non)):=by
 refine bJ rfl ?_;refine b8 ?_;have lc:d9 (iS (vr 1)) [ZB,ZA 0] (gN 0) bT (o2 aW (o2 aW (vr 1) (cn (.int 1))) (vr 0)) [.va (RR cs ls),.va (.lst (l.map nI))]=.ok (.lst ((l.map nI).map λt=>ls.getD (jY t) .non)):=
  m7 (iw rfl) (aB (by rw[N9];exact h) (by omega)) (by simp) λt ht=>by obtain⟨k,hk,rfl⟩:=On.mp ht;have:=hl k hk;rw[eZ];exact rE (aD rfl rfl (gw rfl)) rfl (by rw[Od this,O0,Od this];rfl)
 rw[OK]at lc;have e:((λt=>ls.getD (jY t) T.non)∘nI)=λk=>ls.getD k .non:=by funext k;show ls.getD (jY (nI k)) _=_;rw[eZ]
 rw[e]at lc;exact p2 (aD rfl rfl (gw rfl)) (aI (ar lc rfl) mI)
theorem Ef(h:ls.length<=8)(j:Nat){g:Y2}(hf:f Z=.ok (RR cs ls))(hg:g Z=.ok (nI j))(a:Y2)(ha:a Z=.ok (.lst ((Oj ls.length).map nI))):
  cl bR (ae f (ae (cl ez (ae a (ae g ai))) ai)) Z=.ok (RR cs (ls.eraseIdx j)):=by
 have e1:=sJ (l:=Oj ls.length) (j:=j) (by rw[OR];omega);have hlen:((Oj ls.length).filter λk=>k != j).length<=1000:=OG (Q6 _ _) (by rw[OR];omega);have e2:=yI (cs:=cs) hlen λk hk=>OZ.mp (PH.mp hk).1;rw[sG]at e2;exact aI (ar hf (ar (aI (ar ha (ar hg rfl)) e1) rfl)) e2
section
variable{l:List T}
def uO:∀u∈l.eraseIdx j,u∈l:=λu hu=>List.mem_of_mem_eraseIdx hu
def yG(j:Nat):(l.eraseIdx j).length<=l.length:=List.length_eraseIdx_le _ _
open Classical in
def lD(P:List N2)(cs ls:List T)(j:Nat):Bool:=decide (key P cs (ls.eraseIdx j)=key P cs ls)
def ndl_iff:lD P cs ls j=ZC↔key P cs (ls.eraseIdx j)=key P cs ls:=by unfold lD;exact decide_eq_true_iff
def Rd.ger(R:Rd cs ls L P)(j:Nat):Good cs (ls.eraseIdx j):=R.g.sub uO (OG (yG j) R.g.n)
def Rd.Ny(R:Rd cs ls L P)(j:Nat):cm [RR cs (ls.eraseIdx j),RR cs ls]=.ok (.bl (lD P cs ls j)):=by
 obtain⟨b,e,i⟩:=R.NG (R.ger j) R.g;rw[e];congr 2;cases q:lD P cs ls j with
 |true=>exact i.mpr (ndl_iff.mp q)
 |false=>
  cases b with
  |false=>rfl
  |true=>have:=ndl_iff.mpr (i.mp rfl);rw[q]at this;cases this
def Rd.Nf(R:Rd cs ls L P)(n:NoNeg L):bz [RR cs ls]=.ok (.lst (((Oj ls.length).filter (lD P cs ls)).map nI)):=by
 refine bJ rfl ?_;show c8 [.va (RR cs ls),.em]=_;unfold c8;rw[aw (uJ (aI rfl (R.Nl n)))];rw[aw (bL (aI rfl (Ah R.g.n)) rfl)];refine b8 ?_;rw[<-i8];exact mf (iw rfl) (aB (by rw[N9,OR];exact R.g.n)) (by simp) λt ht=>by obtain⟨k,hk,rfl⟩:=On.mp ht;rw[eZ];exact⟨bQ (aI (ar (Ef R.g.n k rfl rfl (vr 2) rfl) rfl) (R.Ny k)),λ_=>rfl⟩
end
section
variable {f:dG N2}
theorem Rd.NQ(R:Rd cs ls L P)(k:Nat):KD (L.take k++L.drop (k+1)) P:=by
 have sub:∀x∈L.take k++L.drop (k+1),x∈L:=λx hx=>(OP.mp hx).elim Ql U7;have ll:=R.ll;have hlen:(L.take k++L.drop (k+1)).length<=60:=by rw[Ol,Po,QH];omega
 refine⟨by omega,?_,λx hx=>R.f.ends x (sub x hx),R.f.pl⟩;have:=zi λx hx=>R.bg x (sub x hx);omega
end
theorem Ce:∀{r:List Int}{k:Nat},mC r=ZC->k+1<r.length->0<=dr r k
 |[],k,_,h=>by simp at h
 |[a],k,_,h=>by simp at h
 |a::b::r,0,h,_=>by rw[AG,N7]at h;have:=of_decide_eq_true h.1;show 0<=b - a;omega
 |a::b::r,k+1,h,hk=>by rw[AG,N7]at h;exact Ce (k:=k) h.2 (by simpa using hk)
def yQ{t:T}(h:bF t=ZC):∃(x y:Int)(r:List Int),t=.tup [.int x,.int y,.tup (r.map .int)]/\(0<=x/\x<=9)/\x<=y/\(∀k,0<=r.getD k 0/\r.getD k 0<=99)/\∀k,k+1<r.length->0<=dr r k:=by
 obtain⟨x,y,r,rfl,h1,h2,h3⟩:=qM h;refine⟨x,y,r,rfl,h1,?_,h3,?_⟩
 .have h':(lX (.int x) (.int y)&&cE (.tup (r.map .int)))=ZC:=h;rw[N7]at h';have hp:(aX (.int x) 1 9&&aX (.int y) x 9)=ZC:=h'.1;rw[N7]at hp;obtain⟨i,e,a,b⟩:=dv hp.2;cases e;exact a
 .have h':(lX (.int x) (.int y)&&cE (.tup (r.map .int)))=ZC:=h;rw[N7]at h';have hr:=h'.2;unfold cE at hr;rw[N7]at hr;have hr2:(((r.map T.int).all λu=>aX u 0 99)&&(match nums (r.map .int)with|some m=>mC m|none=>ZD))=ZC:=hr.2;rw[N7,gW]at hr2;exact λk hk=>Ce hr2.2 hk
theorem EA{u:T}:∀{cs:List T}{i:Nat},u∈bC i cs->∃j c,cs[j]?=ZA c/\u∈xB (i+j) c
 |[],i,h=>by simp[bC]at h
 |c::cs,i,h=>by
  rw[bC,OP]at h;rcases h with h|h
  .exact⟨0,c,rfl,h⟩
  .obtain⟨j,d,e,hd⟩:=EA h;exact⟨j+1,d,e,by rw[show i+(j+1)=i+1+j by omega];exact hd⟩
section
variable {x:Int}
noncomputable def cw(b:Bool)(cs:List T)(v:N2):Int:=match cs[v.c.toNat]? with
 |some (.tup [.int x,.int y,.tup r])=>(if b then y else x)*((nums r).getD []).getD v.k.toNat 0
 |_=>0
def HM(b:Bool)(e:cs[i]?=ZA (.tup [.int x,.int y,.tup (r.map .int)]))(k:Nat):cw b cs ⟨i,(k:Nat)⟩=(if b then y else x)*r.getD k 0:=by unfold cw;simp only[Pz,e,gW,Option.getD_some]
theorem Rd.cw0(R:Rd cs [] L P)(b:Bool):Holds L (cw b cs):=λu v m hx=>by
 have hb:eB (u,v,m)∈Bx cs []:=by rw[R.b];exact On.mpr ⟨_,hx,rfl⟩
 unfold Bx at hb;rw[List.flatMap_nil,Px]at hb;obtain⟨j,c,hj,hu⟩:=EA hb;rw[R7]at hu;obtain⟨x,y,r,rfl,_,xy,_,dd⟩:=yQ ((ck R.g.c).1 _ (Pw hj));rw[oV]at hu;obtain⟨k,hk,hu⟩:=R0.mp hu;have hk':=OZ.mp hk;have d0:=dd k (by omega);have c1:=HM b hj k;have c2:=HM b hj (k+1);have fx:x<=(if b then y else x)/\(if b then y else x)<=y:=by cases b <;> simp[xy]
 revert fx c1 c2;generalize (if b then y else x)=z;intro c1 c2 fx;have m1:=SV fx.1 d0;have m2:=SV fx.2 d0;have ed:z*r.getD (k+1) 0 - z*r.getD k 0=dr r k*z:=by unfold dr;rw[<-Int.mul_sub,UD]
 unfold pr at hu;simp only[Oe,Pb,or_false]at hu;rcases hu with hu|hu
 .have:=Em (y:=(⟨j,k⟩,⟨j,((k+1:Nat):Int)⟩,dr r k*y)) hu;cases this;rw[c1,c2];omega
 .have:=Em (y:=(⟨j,((k+1:Nat):Int)⟩,⟨j,k⟩,-dr r k*x)) hu;cases this;rw[c1,c2,Int.neg_mul];omega
def nn0(R:Rd cs ls L P):NoNeg (lim cs []):=by have g0:Good cs []:=⟨R.g.c,λt ht=>(by cases ht),by simp,zr R.g.parts.1 rfl⟩;have S:=R.to g0;exact(S.cw0 ZC).Nn
end
noncomputable def eK:Nat->List (List Nat)
 |0=>[[]]
 |1=>[[0],[]]
 |2=>[[0,1],[0],[1],[]]
 |3=>[[0,1,2],[0,1],[0,2],[1,2],[0],[1],[2],[]]
 |_=>[[0,1,2,3],[0,1,2],[0,1,3],[0,2,3],[1,2,3],[0,1],[0,2],[0,3],[1,2],[1,3],[2,3],[0],[1],[2],[3],[]]
def lN(l:List Nat):T:=.lst (l.map nI)
def gF:Nat->List (List Nat)
 |0=>[[]]
 |n+1=>gF n++(gF n).map λl=>l++[n]
def Kg:∀n≤4,kE [lN (Oj n)]=.ok (.lst ((gF n).map lN)):=by
 intro n hn
 match n,hn with
 |0,_=>rfl
 |1,_=>rfl
 |2,_=>rfl
 |3,_=>rfl
 |4,_=>rfl
def HI(l:List Nat):List Int:=BG (l.map λk:Nat=>(k:Int))
def Io:∀n≤4,((gF n).map HI).mergeSort nP=(eK n).map HI:=by
 intro n hn
 match n,hn with
 |0,_=>exact(iW (by decide) (by decide)).symm
 |1,_=>exact(iW (by decide) (by decide)).symm
 |2,_=>exact(iW (by decide) (by decide)).symm
 |3,_=>exact(iW (by decide) (by decide)).symm
 |4,_=>exact(iW (by decide) (by decide)).symm
theorem zE:∀l:List Nat,gq (l.map nI)=ZA (l.map λk:Nat=>(k:Int))
 |[] =>rfl
 |k::l=>by show(gq (l.map nI)).map ((k:Int):: ·)=_;rw[zE l];rfl
theorem uC:∀l:List (List Nat),jR (l.map lN)=ZA (l.map λm=>m.map λk:Nat=>(k:Int))
 |[] =>rfl
 |m::l=>by show(match gq (m.map nI),jR (l.map lN)with|some ns,ZA k=>ZA (ns::k)|_,_=>ZB)=_;rw[zE,uC l];rfl
def Du(l:List Nat):T.lst ((l.map λk:Nat=>(k:Int)).map T.int)=lN l:=by unfold lN;rw[OK];rfl
def pE:∀n≤4,(gF n).length<64:=by decide
def Mq(hn:n<=4):vE [.lst ((gF n).map lN)]=.ok (.lst ((eK n).map lN)):=by show(match jR ((gF n).map lN)with|some k=>if k.length<64 then Rs.ok (T.lst (((k.map BG).mergeSort nP).map λr:List Int=>T.lst (r.tail.map .int)))else .bad|none=>.bad)=_;rw[uC];simp only[N9];rw[if_pos (pE n hn),OK,show(BG∘λm:List Nat=>m.map λk:Nat=>(k:Int))=HI from rfl,Io n hn,OK];congr 2;exact OL λl _=>Du l
def ze:∀n≤4,∀l∈eK n,l.Pairwise (· < ·)/\(∀k∈l,k<n)/\l.length<=n:=by decide
def Fe:∀n≤4,[] ∈eK n:=by decide
def Ff:∀n≤4,(eK n).length<=16:=by decide
def pk(ls:List T)(l:List Nat):List T:=l.map λk=>ls.getD k .non
def nn(cs ls:List T)(l:List Nat):Bool:=@decide (NoNeg (lim cs (pk ls l))) (Uc _)
def nn_iff:nn cs ls l=ZC↔NoNeg (lim cs (pk ls l)):=by unfold nn;exact @decide_eq_true_iff _ (Uc _)
def CG(hl:∀k∈l,k<ls.length):∀u∈pk ls l,u∈ls:=λu hu=>by obtain⟨k,hk,rfl⟩:=On.mp hu;have:=hl k hk;rw[O0,Od this];exact PN _
def Rd.pkw(R:Rd cs ls L P)(hl:∀k∈l,k<ls.length)(h8:l.length<=8):aN [RR cs (pk ls l)]=.ok (.bl (nn cs ls l)):=by have S:=R.sub (CG hl) (by unfold pk;rw[N9];exact h8);obtain⟨hw,e,i⟩:=S.Nr;rw[e];congr 2;exact Pc.mpr (i.trans nn_iff.symm)
def Rd.NX(R:Rd cs ls L P):nn cs ls []=ZC:=nn_iff.mpr (nn0 R)
theorem Rd.kept(R:Rd cs ls L P)(h4:ls.length<=4):∃(j:Nat)(l:List Nat),(eK ls.length)[j]?=ZA l/\nn cs ls l=ZC/\(∀i<j,∀m,(eK ls.length)[i]?=ZA m->nn cs ls m=ZD)/\dU [RR cs ls]=.ok (lN l):=by
 have go:∀(k j:Nat),j+k=(eK ls.length).length->(∀i<j,∀m,(eK ls.length)[i]?=ZA m->nn cs ls m=ZD)->∀f,k<f ->
   ∃(j':Nat)(l:List Nat),(eK ls.length)[j']?=ZA l/\nn cs ls l=ZC/\(∀i<j',∀m,(eK ls.length)[i]?=ZA m->nn cs ls m=ZD) ∧
    cg (dQ (tb (cl aN (ae (cl bR (ae (vr 0) (ae (o2 aW (vr 1) (vr 2)) ai))) ai)))) (B7 2 (cn (.int 1))) f [.va (RR cs ls),.va (.lst ((eK ls.length).map lN)),.va (.int (j:Nat))]=.ok (.nx [.va (RR cs ls),.va (.lst ((eK ls.length).map lN)),.va (.int (j':Nat))]):=by
  intro k;induction k with
  |zero=>
   intro j hj hf f _;obtain⟨i,hi⟩:=SZ (Fe ls.length h4);have:=hf i (by have:=(Og.mp hi).1;omega) _ hi;rw[R.NX]at this;cases this
  |succ k ih=>
   intro j hj hf f hfk;have hlt:j<(eK ls.length).length:=by omega
   obtain⟨l,hl⟩:∃l,(eK ls.length)[j]?=ZA l:=⟨_,Od hlt⟩;obtain⟨_,h2,h3⟩:=ze ls.length h4 l (Pw hl);have c:tb (cl aN (ae (cl bR (ae (vr 0) (ae (o2 aW (vr 1) (vr 2)) ai))) ai)) [.va (RR cs ls),.va (.lst ((eK ls.length).map lN)),.va (.int (j:Nat))]=.ok (nn cs ls l):=
    bQ (aI (ar (aI (ar rfl (ar (aD rfl rfl (yA (by rw[Ot,hl];rfl))) rfl)) (yI (by omega) h2)) rfl) (R.pkw h2 (by omega)))
   cases f with
   |zero=>omega
   |succ f=>
    cases q:nn cs ls l with
    |true=>
     rw[q]at c;exact⟨j,l,hl,q,hf,wI (iu c)⟩
    |false=>
     rw[q]at c;obtain⟨j',l',a1,a2,a3,a4⟩:=ih (j+1) (by omega) (λi hi m hm=>by
      by_cases z:i=j
      .subst z;rw[hl]at hm;cases hm;exact q
      .exact hf i (by omega) m hm) f (by omega)
     exact⟨j',l',a1,a2,a3,(qz (iu c) rfl).trans a4⟩
 obtain⟨j,l,a1,a2,a3,a4⟩:=go (eK ls.length).length 0 (by omega) (λi hi=>absurd hi (by omega)) FU (by have:=Ff ls.length h4;show _<1000000000000;omega);refine⟨j,l,a1,a2,a3,?_⟩;refine bJ rfl ?_;show gy [.va (RR cs ls),.em,.em]=_;unfold gy;have ea:=Ah (cs:=cs) (ls:=ls) (by omega);refine(aw (uJ (aI rfl (qi R.g.p R.g.ok)))).trans ?_;refine(aw (bL (aI (ar (aI (ar (aI rfl ea) rfl) (Kg _ h4)) rfl) (Mq h4)) rfl)).trans ?_;refine(aw (bL rfl rfl)).trans ?_;refine(aw a4).trans ?_;exact b8 (aD rfl rfl (yA (by rw[Ot,a1];rfl)))
def Lz:∀l:List Nat,plS (l.map nI)=ZC:=λl=>gz λt ht=>by obtain⟨k,_,rfl⟩:=On.mp ht;rfl
theorem uR(l:List Nat):(lN l).dep<=60:=by
 unfold lN T.dep;have:deps (l.map nI)<=0:=gi λt ht=>by obtain⟨k,_,rfl⟩:=On.mp ht;simp[nI,T.dep]
 omega
def rX(l:List Nat):(lN l).pl=ZC:=by unfold lN;rw[Jg];exact Lz l
def yR(a b:Nat):aU (nI a) (nI b)=decide (a=b):=by
 show((a:Int) == (b:Int))=_;by_cases h:a=b
 .subst h;simp
 .rw[decide_eq_false h];exact beq_eq_false_iff_ne.mpr (by omega)
theorem uX:∀a b:List Nat,beqTs (a.map nI) (b.map nI)=decide (a=b)
 |[],[] =>rfl
 |[],_::_=>by simp[beqTs]
 |_::_,[] =>by simp[beqTs]
 |x::a,y::b=>by show(aU (nI x) (nI y)&&beqTs (a.map nI) (b.map nI))=_;rw[yR,uX a b];by_cases h:x=y <;> by_cases g:a=b <;> simp[h,g]
def rm(n i:Nat):List Nat:=(Oj n).filter λk=>k != i
def Hn:∀k∈rm n i,k<n:=λk hk=>OZ.mp (PH.mp hk).1
def Cc(n i:Nat):(rm n i).length<=n:=OG (Q6 _ _) (by rw[OR];omega)
def vU(ls:List T):pk ls (Oj ls.length)=ls:=by unfold pk;refine RZ (by simp) λi h1 h2=>?_;simp[O0,Od h2]
def told(cs ls:List T):List Nat:=if nn cs ls (Oj ls.length)=ZC then []else(Oj ls.length).filter λi=>nn cs ls (rm ls.length i)
def Rd.hw(R:Rd cs ls L P)(h4:ls.length<=4):aN [RR cs ls]=.ok (.bl (nn cs ls (Oj ls.length))):=by have:=R.pkw (λk hk=>OZ.mp hk) (by rw[OR];omega);rwa [vU]at this
theorem Rd.NY(R:Rd cs ls L P)(h4:ls.length<=4):ft [RR cs ls]=.ok (lN (told cs ls)):=by
 refine bJ rfl ?_;show hY [.va (RR cs ls),.em]=_;unfold hY told;have hw:=R.hw h4;cases q:nn cs ls (Oj ls.length)with
 |true=>
  rw[q]at hw;exact iH ((eJ (bQ (aI rfl hw))).trans (b8 rfl))
 |false=>
  rw[q]at hw;refine(aw ((dC (bQ (aI rfl hw))).trans rfl)).trans ?_;refine(aw (bL (aI rfl (Ah (by omega))) rfl)).trans ?_;refine b8 ?_;rw[if_neg (by decide)];show _=Rs.ok (T.lst (((Oj ls.length).filter λi=>nn cs ls (rm ls.length i)).map nI));rw[<-i8];refine mf (iw rfl) (aB (by simp;omega) (by omega)) (by simp) λt ht=>by obtain⟨k,hk,rfl⟩:=On.mp ht;rw[eZ];exact⟨bQ (aI (ar (aI (ts:=[RR cs ls,lN (rm ls.length k)]) (ar rfl (ar (aI rfl (sJ (by simp;omega))) rfl)) (yI (by have:=Cc ls.length k;omega) Hn)) rfl) (R.pkw Hn (by have:=Cc ls.length k;omega))),λ_=>rfl⟩
def D6:∀n≤4,∀p:Nat->Bool,(Oj n).filter p∈eK n:=by
 intro n hn p
 match n,hn with
 |0,_=>exact Ox.mpr rfl
 |1,_=>cases h0:p 0 <;> simp[Oj,S6,h0,eK]
 |2,_=>cases h0:p 0 <;> cases h1:p 1 <;> simp[Oj,S6,h0,h1,eK]
 |3,_=>cases h0:p 0 <;> cases h1:p 1 <;> cases h2:p 2 <;> simp[Oj,S6,h0,h1,h2,eK]
 |4,_=>cases h0:p 0 <;> cases h1:p 1 <;> cases h2:p 2 <;> cases h3:p 3 <;> simp[Oj,S6,h0,h1,h2,h3,eK]
noncomputable def Ms:T->T
 |.tup [x,y,.tup r] =>.tup [x,y,.tup (r.take 2)]
 |t=>t
theorem Br{c:T}(h:bF c=ZC):bF (Ms c)=ZC:=by
 obtain⟨x,y,r,rfl,_⟩:=d8 h;have h':(lX (.int x) (.int y)&&cE (.tup (r.map .int)))=ZC:=h;rw[N7]at h';show(lX (.int x) (.int y)&&cE (.tup ((r.map .int).take 2)))=ZC;rw[h'.1,RM];have hr:=h'.2;unfold cE at hr ⊢;rw[N7]at hr;obtain⟨h1,h2⟩:=hr;have h2':(((r.map T.int).all λu=>aX u 0 99)&&(match nums (r.map .int)with|some m=>mC m|none=>ZD))=ZC:=h2;rw[N7,gW,OB]at h2';show(eX (.tup ((r.map T.int).take 2)) 1 4&&((((r.map T.int).take 2).all λu=>aX u 0 99)&&(match nums ((r.map .int).take 2)with|some m=>mC m|none=>ZD)))=ZC;have h1':(decide (1<=(r.map T.int).length)&&decide ((r.map T.int).length<=4))=ZC:=h1;rw[N7]at h1';have e1:=of_decide_eq_true h1'.1;have e2:=of_decide_eq_true h1'.2;have hl:eX (.tup ((r.map T.int).take 2)) 1 4=ZC:=by show(decide (1<=((r.map T.int).take 2).length)&&decide (((r.map T.int).take 2).length<=4))=ZC;rw[Po,N7];exact⟨decide_eq_true (by omega),decide_eq_true (by omega)⟩
 rw[hl,RM,N7,OB,<-S3,gW];refine⟨λu hu=>h2'.1 u (by rw[S3]at hu;exact Ql hu),?_⟩
 match r,h2'.2 with
 |[],_=>rfl
 |[a],_=>rfl
 |a::b::r,q=>
  show mC [a,b]=ZC;have q:mC (a::b::r)=ZC:=q;rw[AG,N7]at q;rw[AG,q.1];rfl
variable{x:T}
theorem yF{cs':List T}(hx:ba cs x=ZC):∀{l:List T},(∀t∈l,ba cs' t=ZC)->fY x l=ZC->x∈l
 |[],_,h=>by cases h
 |t::l,hl,h=>by
  unfold fY at h;rw[Q4,Ta]at h;rcases h with h|h
  .obtain⟨c,k,rfl⟩:=cP hx;obtain⟨d,m,rfl⟩:=cP (hl t (.head _));have h':((d == c)&&((m == k)&&ZC))=ZC:=h;rw[VH,N7]at h';rw[eq_of_beq h'.1,eq_of_beq h'.2];exact .head _
  .exact .tail _ (yF hx (λu hu=>hl u (.tail _ hu)) h)
def HH{cs':List T}{l:List T}(hx:ba cs x=ZC)(hl:∀t∈l,ba cs' t=ZC):sr x (.lst l)=.ok (.bl (fY x l)):=by
 obtain⟨c,k,rfl⟩:=cP hx;show(if _ then _ else _)=_;have:(T.lst l).nd=ZC:=by unfold T.nd;exact lC λt ht=>by obtain⟨d,m,rfl⟩:=cP (hl t ht);rfl
 rw[if_pos ⟨.inl (by simp[T.dep,deps]),rfl,this⟩]
noncomputable abbrev smK(l:List T)(t:T):Bool:=match t with
 |.tup [a,b,_,_] =>fY a l&&fY b l
 |_=>ZD
abbrev oq(cs:List T):List T:=(cs.take 2).map Ms
abbrev ls2(cs ls:List T):List T:=ls.filter (smK (fT 0 (oq cs)))
theorem Et(h:bq (.tup cs)=ZC):bq (.tup (oq cs))=ZC:=by
 obtain⟨ha,h1,h4⟩:=ck h;show(eX (.tup (oq cs)) 1 4&&(oq cs).all bF)=ZC;rw[N7,OB];refine⟨?_,λc hc=>?_⟩
 .show(decide (1<=(oq cs).length)&&decide ((oq cs).length<=4))=ZC;rw[N9,Po,N7];exact⟨decide_eq_true (by omega),decide_eq_true (by omega)⟩
 .obtain⟨d,hd,rfl⟩:=On.mp hc;exact Br (ha d (Ql hd))
def JJ(g:Good cs ls):∀t∈ls2 cs ls,bM (oq cs) t=ZC:=λt ht=>by obtain⟨h1,h2⟩:=PH.mp ht;obtain⟨a,b,x,y,rfl,hd,ha,hb,hn⟩:=eF (g.l t h1);have h2':(fY a (fT 0 (oq cs))&&fY b (fT 0 (oq cs)))=ZC:=h2;rw[N7]at h2';have e1:=nS (yF ha (λu hu=>nS hu) h2'.1);have e2:=nS (yF hb (λu hu=>nS hu) h2'.2);show(eG x y&&(ba (oq cs) a&&(ba (oq cs) b&& !aU a b)))=ZC;rw[hd,e1,e2,hn];rfl
def xO(g:Good cs ls):Good (oq cs) (ls2 cs ls):=by
 have hp:(RR (oq cs) (ls2 cs ls)).pl=ZC:=by
  refine zr ?_ (by rw[gU];exact gz λt ht=>g.parts.2 t (PH.mp ht).1);rw[gU];refine gz λt ht=>?_;obtain⟨d,hd,rfl⟩:=On.mp ht;obtain⟨x,y,r,rfl,_⟩:=d8 ((ck g.c).1 d (Ql hd));show(T.tup [.int x,.int y,.tup ((r.map .int).take 2)]).pl=ZC;rw[<-S3,gU];have:(T.tup ((r.take 2).map .int)).pl=ZC:=by rw[gU];exact gz λt ht=>by obtain⟨k,_,rfl⟩:=On.mp ht;rfl
  exact gz λu hu=>by
   simp only[Oe,Pb,or_false]at hu;rcases hu with rfl|rfl|rfl
   .rfl
   .rfl
   .exact this
 exact⟨Et g.c,JJ g,OG (Q6 _ _) g.n,hp⟩
theorem GH(g:Good cs ls):gH [RR cs ls]=.ok (RR (oq cs) (ls2 cs ls)):=by
 obtain⟨ha,h1,h4⟩:=ck g.c;refine bJ rfl ?_;show ju [.va (RR cs ls),.em,.em]=_;unfold ju;have hc:d9 (iS (sl (o2 aW (vr 0) (cn (.int 0))) pN (pS (cn (.int 2))))) [ZB] (gN 0) bT (o2 aY (sl (vr 0) pN (pS (cn (.int 2)))) (aQ (ae (sl (o2 aW (vr 0) (cn (.int 2))) pN (pS (cn (.int 2)))) ai))) [.va (RR cs ls),.em,.em]=.ok (.lst (oq cs)):=by
  refine m7 (J0 ?_) (by unfold ZI;rw[Po];omega) (by simp) λc hc=>?_
  .rw[wK (hi:=ZA ((2:Nat):Int)) (rE rfl rfl rfl) rfl (qC rfl),fN]
  .obtain⟨x,y,r,rfl,_,_,_,hr4⟩:=d8 (ha c (Ql hc));refine aD (t:=.tup [.int x,.int y]) ?_ (dA (ar ?_ rfl) (aB (k:=1) (by simp))) (u5 _ _ (by simp))
   .exact(wK (hi:=ZA ((2:Nat):Int)) rfl rfl (qC rfl)).trans (by rw[fN];rfl)
   .rw[wK (hi:=ZA ((2:Nat):Int)) (rE rfl rfl rfl) rfl (qC rfl),fN]
 rw[aw (bL (aI (ar hc rfl) rfl) rfl)];rw[aw (bL (aI rfl (qK _ (Et g.c))) rfl)];have hl:d9 (iS (o2 aW (vr 0) (cn (.int 1)))) [ZB,ZA 2] (gN 0) (qT (tb (o2 sr (o2 aW (vr 0) (cn (.int 0))) (vr 1))) (tb (o2 sr (o2 aW (vr 0) (cn (.int 1))) (vr 1)))) (vr 0) [.va (RR cs ls),.va (.tup (oq cs)),.va (.lst (fT 0 (oq cs)))]=.ok (.lst (ls2 cs ls)):=by
  refine(mf (J0 (rE rfl rfl rfl)) (by have:=g.n;unfold ZI;omega) (by simp) λt ht=>?_).trans (by rw[RD]);obtain⟨a,b,x,y,rfl,hd,h1,h2,hn⟩:=eF (g.l t ht);refine⟨?_,λ_=>rfl⟩;have c1:tb (o2 sr (o2 aW (vr 0) (cn (.int 0))) (vr 1)) [.va (.tup [a,b,x,y]),.va (.lst (fT 0 (oq cs)))]=.ok (fY a (fT 0 (oq cs))):=bQ (aD (rE rfl rfl rfl) rfl (HH h1 λu hu=>nS hu));have c2:tb (o2 sr (o2 aW (vr 0) (cn (.int 1))) (vr 1)) [.va (.tup [a,b,x,y]),.va (.lst (fT 0 (oq cs)))]=.ok (fY b (fT 0 (oq cs))):=bQ (aD (rE rfl rfl rfl) rfl (HH h2 λu hu=>nS hu));show(qT _ _ _)=.ok (fY a (fT 0 (oq cs))&&fY b (fT 0 (oq cs)));cases hq:fY a (fT 0 (oq cs))with
  |true=>rw[hq]at c1;exact yB c1 c2
  |false=>rw[hq]at c1;exact DI c1
 exact b8 (dA (ar rfl (ar (aI (ar hl rfl) rfl) rfl)) (aB (k:=2) (by simp)))
variable{g:T->En->Rs En}
theorem Df{F:Y1}(J:Nat->En->Prop):∀(ts:List T)(n:Nat)(Z:En),(∀i t,ts[i]?=ZA t->∀Z,J (n+i) Z->∃Z1 Z2,g t Z=.ok Z1/\F Z1=.ok (.nx Z2)/\J (n+i+1) Z2)->J n Z->∃Z',bA g F ts Z=.ok (.nx Z')/\J (n+ts.length) Z'
 |[],n,Z,_,hj=>⟨Z,rfl,hj⟩
 |t::ts,n,Z,h,hj=>by
  obtain⟨Z1,Z2,a,b,c⟩:=h 0 t rfl Z hj;obtain⟨Z',e,j⟩:=Df J ts (n+1) Z2 (λi u hu Z hr=>by have:=h (i+1) u (by simpa using hu) Z (by rw[show n+(i+1)=n+1+i by omega];exact hr);rwa [show n+(i+1)+1=n+1+i+1 by omega]at this) c
  refine⟨Z',by rw[dO a b];exact e,?_⟩;rw[Oh,show n+(ts.length+1)=n+1+ts.length by omega];exact j
def uI{fi:Y0}{F H:Y1}{ts:List T}{x:Rs Fl}(J:Nat->En->Prop)(hi:fi Z=.ok ts)(h:∀i t,ts[i]?=ZA t->∀Z,J i Z->∃Z1 Z2,g t Z=.ok Z1/\F Z1=.ok (.nx Z2)/\J (i+1) Z2)(hj:J 0 Z)(k:∀Z',J ts.length Z'->H Z'=x):aA (eh fi g F) H Z=x:=by
 obtain⟨Z',e,j⟩:=Df J ts 0 Z (λi t ht Z hr=>by rw[R7]at hr ⊢;exact h i t ht Z hr) hj
 rw[R7]at j;exact(aw (fX hi e)).trans (k Z' j)
def Jy(o:Option Int):(oI o).dep<=0:=by cases o <;> simp[oI,T.dep]
def Hu(o:Option Int):(oI o).nd=ZC:=by cases o <;> rfl
def xV(P:List N2)(f:dG N2)(u:N2):T:=.dct (P.map en) (P.map λv=>oI (f u v))
def xU(P:List N2)(f g:dG N2)(u:N2):zk (xV P f u) (xV P g u)=ZA (beqTs (P.map λv=>oI (f u v)) (P.map λv=>oI (g u v))):=by unfold zk xV;dsimp only;rw[if_pos ⟨rfl,by simp,OG (gi λt ht=>by obtain⟨v,_,rfl⟩:=On.mp ht;exact Jy _) (by decide),lC λt ht=>by obtain⟨v,_,rfl⟩:=On.mp ht;exact Hu _,lC λt ht=>by obtain⟨v,_,rfl⟩:=On.mp ht;exact Hu _⟩]
theorem zj(P:List N2)(f g:dG N2):∀Q:List N2,jM (Q.map (xV P f)) (Q.map (xV P g))=ZA (beqTs (Q.map λu=>.tup (P.map λv=>oI (f u v))) (Q.map λu=>.tup (P.map λv=>oI (g u v))))
 |[] =>rfl
 |u::Q=>by rw[Oa,Oa,jM,xU,zj P f g Q];rfl
def GD(P:List N2)(f g:dG N2):Bf (nW P f) (nW P g)=.ok (.bl (aU (jF P f) (jF P g))):=by show(if (P.map en).map keyOf=(P.map en).map keyOf then match jM (P.map (xV P f)) (P.map (xV P g))with|some b=>Rs.ok (T.bl b)|none=>.bad else .bad)=_;rw[if_pos rfl,zj];rfl
def qZ(P:List N2)(L:bS N2):T:=by classical exact if NoNeg L then nW P (table P L)else .non
section
variable {f g:dG N2}
def EZ(n:NoNeg L):qZ P L=nW P (table P L):=by unfold qZ;rw[if_pos n]
def KO(n:¬ NoNeg L):qZ P L=.non:=by unfold qZ;rw[if_neg n]
theorem ltab(nd:P.Nodup)(pl:P.length<=16)(he:∀x∈L,x.1∈P/\x.2.1∈P):bN [eS P,eL L]=.ok (qZ P L):=by
 obtain⟨t,h,e⟩:=GG nd (by omega) he;rw[e];rcases h with⟨n,_,rfl⟩|⟨n,rfl⟩
 .rw[EZ n]
 .rw[KO n]
def Af(he:∀x∈L,x.1∈P/\x.2.1∈P)(he2:∀x∈M,x.1∈P/\x.2.1∈P)(n:NoNeg L)(m:NoNeg M):Bf (qZ P L) (qZ P M)=.ok (.bl (AB P L M)):=by rw[EZ n,EZ m,GD];congr 2;exact Pc.mpr ((Ao P _ _).trans ((zc he he2 n m (eY he n) (eY he2 m)).symm.trans smB_iff.symm))
def wg(P:List N2)(L:bS N2):∃b,fW (qZ P L) .non=.ok (.bl b)/\iI (qZ P L) .non=.ok (.bl (!b))/\(b=ZC↔NoNeg L):=by
 by_cases n:NoNeg L
 .rw[EZ n];exact⟨ZC,rfl,rfl,λ_=>n,λ_=>rfl⟩
 .rw[KO n];exact⟨ZD,rfl,rfl,(λh=>by cases h),λh=>absurd h n⟩
def Rd.M9(R:Rd cs ls L P):bj [.tup cs]=.ok (eS P):=by rw[qK cs R.g.c,R.e];rfl
def Rd.M7(R:Rd cs ls L P):bV [RR cs ls]=.ok (eL L):=by rw[Bh R.g.c R.g.l R.g.n,R.b];rfl
theorem Rd.ltab(R:Rd cs ls L P):bN [eS P,eL L]=.ok (qZ P L):=G.ltab R.nd R.pl R.f.ends
def Mp(l:List T)(k:Nat):l.take k++l.drop (k+1)=l.eraseIdx k:=(List.eraseIdx_eq_take_drop_succ l k).symm
theorem L8{f g:Y2}(h8:ls.length<=8)(hf:f Z=.ok (RR cs ls))(hg:g Z=.ok (.int (k:Nat))):aQ (ae (o2 aW f (cn (.int 0))) (ae (o2 aY (sl (o2 aW f (cn (.int 1))) pN (pS g)) (sl (o2 aW f (cn (.int 1))) (pS (o2 aY g (cn (.int 1)))) pN)) ai)) Z=.ok (RR cs (ls.eraseIdx k)):=by
 have i1:o2 aW f (cn (.int 1)) Z=.ok (.tup ls):=aD hf rfl (gw rfl);refine p2 (aD hf rfl (gw rfl)) (aD (t:=.tup (ls.take k)) (u:=.tup (ls.drop (k+1))) ?_ ?_ ?_)
 .rw[wK i1 rfl (qC hg),fN]
 .rw[wK (lo:=ZA ((k+1:Nat):Int)) i1 (qC (aD hg rfl rfl)) rfl,mx]
 .rw[u5 _ _ (by rw[Ol,Po,QH];omega),Mp]
def JD(R:Rd cs ls L P)(k:Nat):AB P (lim cs (ls.eraseIdx k)) L=lD P cs ls k:=by refine Pc.mpr (smB_iff.trans (Iff.trans ?_ ndl_iff.symm));unfold key;rw[R.M6]
def Be(p:Nat->Bool)(i:Nat):((Oj (i+1)).filter p).map nI=((Oj i).filter p).map nI++(if p i then [nI i]else []):=by rw[Td,List.filter_append,PC];congr 1;cases q:p i <;> simp[q]
def J6(b:Bool):wO [.bl b]=.ok (.int (if b then 1 else 0)):=by cases b <;> rfl
theorem Rd.ND(R:Rd cs ls L P)(n:NoNeg L):dh [RR cs ls]=.ok (lN ((Oj ls.length).filter (lD P cs ls))):=by
 have h8:=R.g.n;refine bJ rfl ?_;show gB [.va (RR cs ls),.em,.em,.em,.em,.em]=_;unfold gB;refine(aw (bL (aI (ar (aD rfl rfl (gw rfl)) rfl) R.M9) rfl)).trans ?_;refine(aw (bL (aI (ar rfl (ar (aI rfl R.M7) rfl)) R.ltab) rfl)).trans ?_;refine(aw (bL rfl rfl)).trans ?_;refine uI (λi Z=>∃s4 s5,Z=[.va (RR cs ls),.va (eS P),.va (qZ P L),.va (lN ((Oj i).filter (lD P cs ls))),s4,s5]) (ts:=(Oj ls.length).map nI) ((HJ (ar (oE (aD rfl rfl (gw rfl))) rfl) (by omega) (by omega)).trans (by rw[jc];rfl)) ?_ ⟨_,_,rfl⟩ ?_
 .intro i t ht Z hr;obtain⟨s4,s5,rfl⟩:=hr;have hi:i<ls.length:=by have:=(Og.mp ht).1;simpa using this
  obtain rfl:t=nI i:=by rw[Ot,Qq hi]at ht;exact(OM ht).symm
  have S:=R.sub uO (OG (yG i) h8);have m:NoNeg (lim cs (ls.eraseIdx i)):=n.mono λx hx=>by have:=zL uO x hx;rwa [R.M6]at this
  have eqd:=Af S.f.ends R.f.ends m n;rw[JD R i]at eqd;refine⟨_,[.va (RR cs ls),.va (eS P),.va (qZ P L),.va (lN ((Oj (i+1)).filter (lD P cs ls))),.va (nI i),.va (RR cs (ls.eraseIdx i))],rfl,?_,_,_,rfl⟩;refine(aw (bL (L8 h8 rfl rfl) rfl)).trans ?_;refine bL (aD rfl (aD (jV rfl (aB (k:=1) (by simp))) (aI (ar (aD (aI (ar rfl (ar (aI rfl S.M7) rfl)) S.ltab) rfl eqd) rfl) (J6 _)) (mul_one _ _)) ?_) rfl;unfold lN;rw[Be];refine oS _ _ ?_;rw[Ol,N9];have h1:=Q6 (lD P cs ls) (Oj i);rw[OR]at h1;split <;> simp <;> omega
 .intro Z hr;obtain⟨s4,s5,rfl⟩:=hr;rw[N9,OR];exact b8 rfl
def Rd.N3(R:Rd cs ls L P)(hl:∀k∈l,k<ls.length)(h8:l.length<=8):gZ [RR cs ls,lN l]=.ok (.bl (nn cs ls l)):=by
 have S:=R.sub (CG hl) (by unfold pk;rw[N9];exact h8);refine bJ rfl ?_;show lJ [.va (RR cs ls),.va (lN l),.em]=_;unfold lJ;have hc:d9 (iS (vr 1)) [ZB,ZA 0] (gN 0) bT (o2 aW (o2 aW (vr 1) (cn (.int 1))) (vr 0)) [.va (RR cs ls),.va (lN l),.em]=.ok (.lst (pk ls l)):=by
  refine(m7 (h:=λt=>ls.getD (jY t) .non) (iw rfl) (aB (by rw[N9];exact h8)) (by simp) λt ht=>?_).trans ?_
  .obtain⟨k,hk,rfl⟩:=On.mp ht;rw[eZ];exact aD (aD rfl rfl (gw rfl)) rfl (gw (by rw[O0,Od (hl k hk)];rfl))
  .rw[OK];congr 2
 refine(aw (bL (p2 (aD rfl rfl (gw rfl)) (aI (ar hc rfl) rfl)) rfl)).trans ?_;obtain⟨b,e1,_,i⟩:=wg P (lim cs (pk ls l));refine(b8 (aD (aI (ar (aI (ar (aD rfl rfl (gw rfl)) rfl) R.M9) (ar (aI rfl S.M7) rfl)) S.ltab) rfl e1)).trans ?_;congr 3;exact Pc.mpr (i.trans nn_iff.symm)
def GJ:∀n≤4,gu [.int (n:Nat)]=.ok (.lst ((gF n).map lN)):=by
 intro n hn
 match n,hn with
 |0,_=>rfl
 |1,_=>rfl
 |2,_=>rfl
 |3,_=>rfl
 |4,_=>rfl
end
def AU{n:Int}{t:T}(ht:t.pl=ZC)(h:aX t 0 (n - 1)=ZD):eR [.int n,t]=.err "NoNumber":=by refine fJ rfl ?_;show ff [.va (.int n),.va t]=_;unfold ff;exact(eJ (iu (k:=ZD) (bQ (aI rfl (by rw[fM _ _ _ ht,h]))))).trans rfl
variable{c:Str}
def DH{fs:Y0}{t:T}(h:f Z=.ok t)(hs:fs Z=.err c):ae f fs Z=.err c:=by unfold ae;rw[h,hs];rfl
variable{g:List T->Rs T}
section
variable {t u:T}
def qS(hp:t.pl=ZC)(h:gx t=ZD):eV [t]=.err "NoRecord":=by refine fJ rfl ?_;show kl [.va t,.em,.em,.em,.em]=_;unfold kl;exact jk (sj (aI rfl (r8 hp h)))
def xj(hp:t.pl=ZC)(h:gx t=ZD):aN [t]=.err "NoRecord" :=
 fJ rfl (uG (L1 (aI rfl (fJ rfl (uG (L9 (DH rfl (Gu (aI rfl (qS hp h))))))))))
def sU(hp:t.pl=ZC)(h:gx t=ZD):bD [t]=.err "NoRecord":=by refine fJ rfl ?_;show dH [.va t]=_;unfold dH;exact DE (JY (HF (aI rfl (xj hp h))))
def Ez(h:bD [t]=.err c):bz [t]=.err c/\b9 [t]=.err c:=by
 constructor
 .refine fJ rfl ?_;show c8 [.va t,.em]=_;unfold c8;exact jk (sj (aI rfl h))
 .refine fJ rfl ?_;show dI [.va t,.em,.em,.em]=_;unfold dI;exact jk (sj (aI rfl h))
def My(hp:t.pl=ZC)(h:gx t=ZD):dU [t]=.err "NoRecord":=by refine fJ rfl ?_;show gy [.va t,.em,.em]=_;unfold gy;exact jk (sj (aI rfl (r8 hp h)))
def Mx(hp:t.pl=ZC)(h:gx t=ZD):ft [t]=.err "NoRecord":=by refine fJ rfl ?_;show hY [.va t,.em]=_;unfold hY;exact jk (DE (HF (aI rfl (xj hp h))))
def Mw(hp:t.pl=ZC)(h:gx t=ZD):cq [t,u]=.err "NoRecord":=by refine fJ rfl ?_;show cu [.va t,.va u,.em,.em,.em]=_;unfold cu;exact jk (Ma (aI rfl (qS hp h)))
theorem mJ(hi:i<4)(hm:[bz,b9,dU,ft][i]?=ZA g)(e:g [t]=.ok x):aZ [.int (i:Nat),t,u]=.ok x:=by refine bJ rfl ?_;show dt [.va (.int (i:Nat)),.va t,.va u,.em]=_;unfold dt;exact HE (iH ((eJ (bQ (aD rfl rfl (show Rs.ok (T.bl (decide ((i:Int)<4)))=_ by rw[decide_eq_true (by omega)])))).trans (b8 (Dz rfl hm rfl e))))
def mK(hi:i<4)(hm:[bz,b9,dU,ft][i]?=ZA g)(e:g [t]=.err c)(hr:ng c=.ok x):aZ [.int (i:Nat),t,u]=.ok x:=by refine bJ rfl ?_;show dt [.va (.int (i:Nat)),.va t,.va u,.em]=_;unfold dt;exact Dx (jk ((eJ (bQ (aD rfl rfl (show Rs.ok (T.bl (decide ((i:Int)<4)))=_ by rw[decide_eq_true (by omega)])))).trans (uG (Dz rfl hm rfl e)))) hr
def Ia(e:cq [t,u]=.ok x):aZ [.int 4,t,u]=.ok x:=by refine bJ rfl ?_;show dt [.va (.int 4),.va t,.va u,.em]=_;unfold dt;exact HE ((aw ((dC (bQ (aD rfl rfl rfl))).trans rfl)).trans (b8 (aI rfl e)))
def tu(e:cq [t,u]=.err c)(hr:ng c=.ok x):aZ [.int 4,t,u]=.ok x:=by refine bJ rfl ?_;show dt [.va (.int 4),.va t,.va u,.em]=_;unfold dt;exact Dx ((aw ((dC (bQ (aD rfl rfl rfl))).trans rfl)).trans (uG (aI rfl e))) hr
def r3:ng "NoWorld" =.ok (cN 3):=by unfold ng;rw[if_neg (by decide),if_neg (by decide),if_neg (by decide),if_pos rfl]
end
section
variable {f g:dG N2}
def Rd.Np(R:Rd cs ls L P)(n:¬ NoNeg L):bD [RR cs ls]=.err "NoWorld":=by
 obtain⟨hw,e,i⟩:=R.Nr;cases hw with
 |true=>exact absurd (i.mp rfl) n
 |false=>
  refine fJ rfl ?_;show dH [.va (RR cs ls)]=_;unfold dH;exact(eJ (iu (bQ (aI rfl e)))).trans rfl
def Rd.odd(R:Rd cs ls L P){t:T}(ht:t.pl=ZC)(h:aX t 0 ((L.length:Int) - 1)=ZD):cq [RR cs ls,t]=.err "NoNumber":=by refine fJ rfl ?_;show cu [.va (RR cs ls),.va t,.em,.em,.em]=_;unfold cu;rw[aw (bL (aI rfl R.bounds) rfl)];exact jk (sj (aI (ar (qt L rfl) rfl) (AU ht h)))
theorem Rd.NO(R:Rd cs ls L P)(n:¬ NoNeg L)(hk:k<L.length):cq [RR cs ls,.int (k:Nat)]=.err "NoWorld":=by
 refine fJ rfl ?_;show cu [.va (RR cs ls),.va (.int (k:Nat)),.em,.em,.em]=_;unfold cu;rw[aw (bL (aI rfl R.bounds) rfl)];have w1:aX (.int (k:Nat)) 0 ((L.length:Int) - 1)=ZC:=by unfold aX;simp;omega
 rw[aw (uJ (aI (ar (qt L rfl) rfl) (wt rfl w1)))];exact jk (sj (aI rfl (R.Np n)))
abbrev jG(L:bS N2)(k:Nat):bS N2:=L.take k++L.drop (k+1)
def kq:∀x∈jG L k,x∈L:=λx hx=>(OP.mp hx).elim Ql U7
def CU{y:N2×N2×Int}(e:L[k]?=ZA y):∀x∈L,x=y\/x∈jG L k:=λx hx=>by
 obtain⟨hk,e⟩:=Og.mp e;have:L=L.take k++(y::L.drop (k+1)):=by rw[<-e,List.getElem_cons_drop,SL]
 rw[this]at hx;rcases OP.mp hx with h|h
 .exact .inr (O6 _ h)
 .rcases Oe.mp h with h|h
  .exact .inl h
  .exact .inr (OI _ h)
theorem EE(ll:L.length<=60)(k:Nat):aY (.lst ((L.take k).map eB)) (.lst ((L.drop (k+1)).map eB))=.ok (eL (jG L k)):=by rw[oS _ _ (by rw[Ol,N9,N9,Po,QH];omega),<-PC];rfl
def Ib(he:∀x∈L,x.1∈P/\x.2.1∈P)(n:NoNeg L){a b:N2}(e:L[k]?=ZA (a,b,m)):Ay P (jG L k)=Ay P L↔ ∃d,Wk (jG L k) a b d/\d<=m:=by
 have he':∀x∈jG L k,x.1∈P/\x.2.1∈P:=λx hx=>he x (kq x hx);have n':NoNeg (jG L k):=n.mono kq;have F:=eY he n;have F':=eY he' n';have mem:(a,b,m)∈L:=Pw e;have hab:=he _ mem;constructor
 .intro z;have q:=(zc he' he n' n F' F).mp z a hab.1 b hab.2;obtain⟨d,e1,e2⟩:=F.le a hab.1 b m (Wk.one mem);rw[<-q]at e1;exact⟨d,F'.is a b d e1,e2⟩
 .rintro ⟨d,w,hd⟩;have G':Least L P (table P (jG L k)):=A1 F' (λx hx=>(he' x hx).1) (λx hx=>⟨(he x hx).1,by
   rcases CU e x hx with rfl|hx'
   .obtain⟨d',e1,e2⟩:=F'.le a hab.1 b d w;exact⟨d',e1,by show d'<=m;omega⟩
   .exact F'.le x.1 (he x hx).1 x.2.1 x.2.2 (Wk.one hx')⟩) λx hx=>⟨x.2.2,P8 _,kq x hx⟩
  exact(zc he' he n' n F' G').mpr λu _ v _=>rfl
theorem Rd.NC(R:Rd cs ls L P)(n:NoNeg L)(hk:k<L.length):cq [RR cs ls,.int (k:Nat)]=.ok (.bl (AB P (jG L k) L)):=by
 obtain⟨⟨a,b,m⟩,e⟩:∃y,L[k]?=ZA y:=⟨_,Od hk⟩;have ll:=R.ll;have ha:a∈P:=(R.f.ends _ (Pw e)).1;have to:=Ib R.f.ends n e;obtain⟨r,hr,ok⟩:=qJ (S:=[a]) (R.NQ k) (by simp) (λv h=>by rw[Ox.mp h];exact ha);cases r with
 |inr q=>exact absurd (n.mono kq) (Bar.neg ok)
 |inl bb=>
  obtain⟨ms,D,hr⟩:=hr;have ok:Settled (jG L k) [a] bb:=ok;refine bJ rfl ?_;show cu [.va (RR cs ls),.va (.int (k:Nat)),.em,.em,.em]=_;unfold cu;rw[aw (bL (aI rfl R.bounds) rfl)];have w1:aX (.int (k:Nat)) 0 ((L.length:Int) - 1)=ZC:=by unfold aX;simp;omega
  rw[aw (uJ (aI (ar (qt L rfl) rfl) (wt rfl w1)))];rw[aw (uJ (aI rfl (R.Nl n)))];rw[aw (Z':=[.va (RR cs ls),.va (.int (k:Nat)),.va (eL L),.va (eB (a,b,m)),.em]) (bL (MA rfl rfl e) rfl)];have c1:sl (vr 2) pN (pS (vr 1)) [.va (RR cs ls),.va (.int (k:Nat)),.va (eL L),.va (eB (a,b,m)),.em]=.ok (.lst ((L.take k).map eB)):=by rw[wJ rfl rfl (qC rfl),fN,S3]
  have c2:sl (vr 2) (pS (o2 aY (vr 1) (cn (.int 1)))) pN [.va (RR cs ls),.va (.int (k:Nat)),.va (eL L),.va (eB (a,b,m)),.em]=.ok (.lst ((L.drop (k+1)).map eB)):=by rw[wJ (lo:=ZA ((k+1:Nat):Int)) rfl (qC (aD rfl rfl rfl)) rfl,mx,VI]
  rw[aw (bL (aD (aI (ar (aD c1 c2 (EE ll k)) (ar (jV (ar (aD rfl rfl rfl) rfl) (aB (k:=1) (by simp))) rfl)) hr) rfl rfl) rfl)];have i1:o2 aW (vr 3) (cn (.int 1)) [.va (RR cs ls),.va (.int (k:Nat)),.va (eL L),.va (eB (a,b,m)),.va (.dct (ms.map en) (dV ms bb))]=.ok (en b):=aD rfl rfl rfl;have fin:∀c:Bool,(c=ZC↔ ∃d,Wk (jG L k) a b d/\d<=m)->c=AB P (jG L k) L:=λc h=>Pc.mpr (h.trans (to.symm.trans smB_iff.symm));refine b8 ?_;cases eb:bb b with
  |none=>
   rw[<-fin ZD ⟨λz=>(by cases z),λ⟨d,w,_⟩=>by obtain⟨d',w',e',_⟩:=ok.least a (by simp) b d w;rw[eb]at e';cases e'⟩]
   exact zW (aD i1 rfl (by rw[yL D b,eb];rfl))
  |some y=>
   obtain⟨d',w⟩:=y;rw[<-fin (decide (d'<=m)) ⟨λz=>?_,λ⟨d,w2,hd⟩=>decide_eq_true ?_⟩]
   .exact(qD (aD i1 rfl (by rw[yL D b,eb];rfl))).trans (aD (aD (aD rfl i1 (yJ D eb)) rfl rfl) (aD rfl rfl rfl) rfl)
   .obtain⟨s,hs,hc,hcost,_⟩:=ok.walk b d' w eb;rw[Ox.mp hs]at hc;exact⟨d',by rw[<-hcost];exact hc.wk,of_decide_eq_true z⟩
   .obtain⟨d2,w',e',h2⟩:=ok.least a (by simp) b d w2;rw[eb]at e';cases e';omega
end
def vR(P:List N2)(cs:List T):Nat->List T->List T
 |0,cur=>cur
 |m+1,cur=>vR P cs m (if lD P cs cur m=ZC then cur.eraseIdx m else cur)
structure Ri (P:List N2)(cs ls:List T)(m:Nat)(cur:List T):Prop where
 sub:∀u∈cur,u∈ls
 len:cur.length<=ls.length
 ge:m<=cur.length
 same:key P cs cur=key P cs ls
 fin:vR P cs m cur=vR P cs ls.length ls
variable{cur:List T}{m:Nat}
section
variable {f g:dG N2}
def Ri.start:Ri P cs ls ls.length ls:=⟨λ_ h=>h,Oq _,Oq _,rfl,rfl⟩
theorem Ri.next(I:Ri P cs ls (m+1) cur):Ri P cs ls m (if lD P cs cur m=ZC then cur.eraseIdx m else cur):=by
 have hf:vR P cs m (if lD P cs cur m=ZC then cur.eraseIdx m else cur)=vR P cs ls.length ls:=I.fin;have hg:=I.ge;cases q:lD P cs cur m with
 |true=>
  rw[q]at hf;rw[if_pos rfl]at hf ⊢;exact⟨λu hu=>I.sub u (uO u hu),OG (yG m) I.len,by rw[List.length_eraseIdx];split <;> omega,(ndl_iff.mp q).trans I.same,hf⟩
 |false=>
  rw[q]at hf;rw[if_neg (by decide)]at hf ⊢;exact⟨I.sub,I.len,by omega,I.same,hf⟩
theorem Rd.Nv(R:Rd cs ls L P)(I:Ri P cs ls (m+1) cur):cm [RR cs (cur.eraseIdx m),RR cs ls]=.ok (.bl (lD P cs cur m)):=by have h8:=R.g.n;have hl:=I.len;have S:=R.sub I.sub (by omega);obtain⟨b,e,i⟩:=R.NG (S.ger m) R.g;rw[e];congr 2;exact Pc.mpr (i.trans (Iff.trans (by rw[I.same]) ndl_iff.symm))
theorem Ai{t:T}(ht:((Oj n).map λ(k:Nat)=>T.int ((n:Int) - 1 - (k:Int)))[i]?=ZA t):∃m,n - i=m+1/\n - (i+1)=m/\t=nI m:=by
 have hi:i<n:=by have:=(Og.mp ht).1;simpa using this
 rw[Ot,Qq hi]at ht;refine⟨n - i - 1,by omega,by omega,?_⟩;rw[<-OM ht];show T.int _=T.int _;congr 1;omega
theorem Rd.Nt(R:Rd cs ls L P)(n:NoNeg L):b9 [RR cs ls]=.ok (RR cs (vR P cs ls.length ls)):=by
 refine bJ rfl ?_;show dI [.va (RR cs ls),.em,.em,.em]=_;unfold dI;rw[aw (uJ (aI rfl (R.Nl n)))];rw[aw (bL rfl rfl)];have h8:=R.g.n;have hr:Mf (ae (o2 fB (cl cA (ae (o2 aW (vr 0) (cn (.int 1))) ai)) (cn (.int 1))) (ae (o1 kW (cn (.int 1))) (ae (o1 kW (cn (.int 1))) ai))) [.va (RR cs ls),.va (RR cs ls),.em,.em]=.ok ((Oj ls.length).map λ(k:Nat)=>T.int ((ls.length:Int) - 1 - (k:Int))):=by
  unfold Mf;rw[ar (aD (oE (aD rfl rfl (gw rfl))) rfl rfl) (ar (t:=.int (-1)) (Gp (t:=.int 1) rfl rfl) (ar (t:=.int (-1)) (Gp (t:=.int 1) rfl rfl) rfl)),aG];show(if (mi ((ls.length:Int) - 1)&&mi (-1))=ZC then Rs.ok ((Oj ((ls.length:Int) - 1 - -1).toNat).map λ(k:Nat)=>T.int ((ls.length:Int) - 1 - (k:Int)))else .bad)=_;have e62:mi ((ls.length:Int) - 1)=ZC:=by unfold mi;rw[N7];exact⟨decide_eq_true (by omega),decide_eq_true (by omega)⟩
  rw[if_pos (by rw[e62];rfl),show((ls.length:Int) - 1 - -1).toNat=ls.length by omega]
 refine uI (λi Z=>∃cur s2 s3,Ri P cs ls (ls.length - i) cur/\Z=[.va (RR cs ls),.va (RR cs cur),s2,s3]) hr ?_ ⟨ls,_,_,Ri.start,rfl⟩ ?_
 .intro i t ht Z hh;obtain⟨cur,s2,s3,I,rfl⟩:=hh;obtain⟨m,e1,e2,rfl⟩:=Ai ht;rw[e1]at I;rw[e2];have hc:cur.length<=8:=by have:=I.len;omega
  have st:=Ef hc m (f:=vr 1) (g:=vr 2) (Z:=[.va (RR cs ls),.va (RR cs cur),.va (nI m),s3]) rfl rfl (cl bK (ae (vr 1) ai)) (aI rfl (Ah hc));have es:=R.Nv I;have nx:=I.next;refine⟨_,[.va (RR cs ls),.va (RR cs (if lD P cs cur m=ZC then cur.eraseIdx m else cur)),.va (nI m),.va (RR cs (cur.eraseIdx m))],rfl,?_,_,_,_,nx,rfl⟩
  refine(aw (bL st rfl)).trans ?_;cases q:lD P cs cur m with
  |true=>
   rw[q]at es;exact(eJ (bQ (aI rfl es))).trans rfl
  |false=>
   rw[q]at es;exact(dC (bQ (aI rfl es))).trans rfl
 .intro Z hh;obtain⟨cur,s2,s3,I,rfl⟩:=hh;rw[N9,OR,SH]at I;rw[<-I.fin];exact b8 rfl
end
theorem Hz:∀(l:List (List Int))(b:List Int),gE b l∈b::l/\∀x∈b::l,cQ x (gE b l)=ZD
 |[],b=>⟨Ob,λx h=>by rw[Ox.mp h];exact i5 b⟩
 |k::l,b=>by
  unfold gE;obtain⟨h1,h2⟩:=Hz l (if cQ k b=ZC then k else b);have h3:=h2 _ Ob;cases q:cQ k b with
  |true=>
   rw[q,if_pos rfl]at h1 h2 h3;rw[if_pos rfl];refine⟨N6 _ h1,λx hx=>?_⟩;obtain rfl|hx:=Oe.mp hx
   .cases z:cQ x (gE k l)with
    |false=>rfl
    |true=>rw[md _ _ _ q z]at h3;cases h3
   .exact h2 x hx
  |false=>
   rw[q,if_neg (by decide)]at h1 h2 h3;rw[if_neg (by decide)];refine⟨(Oe.mp h1).elim (λh=>by rw[h];exact Ob) λh=>N6 _ (N6 _ h),λx hx=>?_⟩;obtain rfl|hx:=Oe.mp hx
   .exact h3
   .obtain rfl|hx:=Oe.mp hx
    .cases z:cQ x (gE b l)with
     |false=>rfl
     |true=>
      rcases qr x b _ z with y|y
      .rw[y]at q;cases q
      .rw[y]at h3;cases h3
    .exact h2 x (N6 _ hx)
def JG{l:List T}{rs:List (List Int)}{x:List Int}(e:jR l=ZA rs)(hx:x∈rs)(h:∀a∈rs,cQ a x=ZD):wA [.lst l]=.ok (.lst (x.map .int)):=by
 show(match jR l with|some (k::ks)=>Rs.ok (T.lst ((gE k ks).map .int))|_=>.bad)=_;rw[e];cases rs with
 |nil=>cases hx
 |cons k ks=>
  obtain⟨h1,h2⟩:=Hz ks k;show Rs.ok (T.lst ((gE k ks).map .int))=_;rw[jT _ _ (h _ h1) (h2 _ hx)]
theorem HA:∀(l:List Int)(i:Int),mZ i l∈i::l/\∀a∈i::l,a<=mZ i l
 |[],i=>⟨Ob,λa h=>by cases Ox.mp h;exact P8 _⟩
 |j::l,i=>by
  unfold mZ;obtain⟨h1,h2⟩:=HA l (if i<j then j else i);have h3:=h2 _ Ob;by_cases h:i<j
  .rw[if_pos h]at h1 h2 h3 ⊢;refine⟨N6 _ h1,λa ha=>?_⟩;obtain rfl|ha:=Oe.mp ha
   .omega
   .exact h2 a ha
  .rw[if_neg h]at h1 h2 h3 ⊢;refine⟨(Oe.mp h1).elim (λh=>by rw[h];exact Ob) λh=>N6 _ (N6 _ h),λa ha=>?_⟩;obtain rfl|ha:=Oe.mp ha
   .exact h3
   .obtain rfl|ha:=Oe.mp ha
    .omega
    .exact h2 a (N6 _ ha)
theorem JI{l:List T}{x:Int}(e:gq l=ZA ns)(hx:x∈ns)(h:∀a∈ns,a<=x):Dd [.lst l]=.ok (.int x):=by
 show(match gq l with|some (i::ns)=>Rs.ok (T.int (mZ i ns))|_=>.bad)=_;rw[e];cases ns with
 |nil=>cases hx
 |cons i ns=>
  obtain⟨h1,h2⟩:=HA ns i;show Rs.ok (T.int (mZ i ns))=_;have a1:=h _ h1;have a2:=h2 _ hx;rw[show mZ i ns=x by omega]
def ox:∀n≤4,∀l,l∈gF n↔l∈eK n:=by
 intro n hn l;have k1:∀n≤4,((gF n).all λl=>decide (l∈eK n))=ZC:=by decide
 have k2:∀n≤4,((eK n).all λl=>decide (l∈gF n))=ZC:=by decide
 exact⟨λh=>of_decide_eq_true (OB.mp (k1 n hn) l h),λh=>of_decide_eq_true (OB.mp (k2 n hn) l h)⟩
def Im:∀n≤4,(eK n).Pairwise λa b=>nP (HI a) (HI b)=ZC:=by decide
theorem JN{a b:List Nat}(h:nP (HI a) (HI b)=ZC):b.length<=a.length/\(b.length=a.length->cQ (b.map λk:Nat=>(k:Int)) (a.map λk:Nat=>(k:Int))=ZD):=by
 unfold nP HI BG at h;rw[TU,cQ]at h;rw[N9,N9]at h;by_cases e:(-(b.length:Int))= -(a.length:Int)
 .rw[if_pos e]at h;exact⟨by omega,λ_=>h⟩
 .rw[if_neg e]at h;have:=of_decide_eq_false h;exact⟨by omega,λz=>by omega⟩
def lenV:T->T
 |.lst l=>.int (l.length:Nat)
 |t=>t
def Mh(k:Nat):T->Bool
 |.lst l=>(l.length:Int) == (k:Int)
 |_=>ZD
section
variable {p:List Nat->Bool}
theorem z9(hn:n<=4)(hj:(eK n)[j]?=ZA l)(hf:∀i<j,∀m,(eK n)[i]?=ZA m->p m=ZD){m:List Nat}(hm:m∈(gF n).filter p):m.length<=l.length/\(m.length=l.length->cQ (m.map λk:Nat=>(k:Int)) (l.map λk:Nat=>(k:Int))=ZD):=by
 obtain⟨h1,h2⟩:=PH.mp hm;obtain⟨i,hi⟩:=SZ ((ox n hn m).mp h1);by_cases q:i<j
 .rw[hf i q m hi]at h2;cases h2
 .by_cases e:i=j
  .subst e;rw[hj]at hi;cases hi;exact⟨Oq _,λ_=>i5 _⟩
  .refine JN ?_;obtain⟨a1,a2⟩:=Og.mp hj;obtain⟨b1,b2⟩:=Og.mp hi;have:=RT.mp (Im n hn) j i a1 b1 (by omega);rwa [a2,b2]at this
def Aa(hn:n<=4)(hj:(eK n)[j]?=ZA l)(ht:p l=ZC):l∈(gF n).filter p:=PH.mpr ⟨(ox n hn l).mpr (Pw hj),ht⟩
theorem DT(hn:n<=4)(hj:(eK n)[j]?=ZA l)(ht:p l=ZC)(hf:∀i<j,∀m,(eK n)[i]?=ZA m->p m=ZD):Dd [.lst (((gF n).filter p).map λm=>T.int (m.length:Nat))]=.ok (nI l.length):=by
 refine JI (ns:=((gF n).filter p).map λm=>(m.length:Int)) ?_ (On.mpr ⟨l,Aa hn hj ht,rfl⟩) λa ha=>?_
 .have:=kr (λk=>(k:Int)) (((gF n).filter p).map Py);rwa [OK,OK]at this
 .obtain⟨m,hm,rfl⟩:=On.mp ha;have:=(z9 hn hj hf hm).1;omega
theorem DS(hn:n<=4)(hj:(eK n)[j]?=ZA l)(ht:p l=ZC)(hf:∀i<j,∀m,(eK n)[i]?=ZA m->p m=ZD):wA [.lst ((((gF n).filter p).map lN).filter (Mh l.length))]=.ok (lN l):=by
 rw[Sh];rw[<-Du l];refine JG (uC _) (On.mpr ⟨l,PH.mpr ⟨Aa hn hj ht,?_⟩,rfl⟩) λa ha=>?_
 .show(((l.map nI).length:Int) == (l.length:Int))=ZC;rw[N9];exact beq_self_eq_true _
 .obtain⟨m,hm,rfl⟩:=On.mp ha;obtain⟨h1,h2⟩:=PH.mp hm;have h2:(((m.map nI).length:Int) == (l.length:Int))=ZC:=h2;rw[N9]at h2;exact(z9 hn hj hf h1).2 (by have:=eq_of_beq h2;omega)
end
def Md(a:List Nat)(gs:List (List Nat)):sr (lN a) (.lst (gs.map lN))=.ok (.bl (decide (a∈gs))):=by
 show(if _ then _ else _)=_;have h1:(T.lst (gs.map lN)).nd=ZC:=by unfold T.nd;exact lC λt ht=>by obtain⟨m,_,rfl⟩:=On.mp ht;exact T.KF _ (rX m)
 rw[if_pos ⟨.inl (uR a),T.KF _ (rX a),h1⟩];congr 2;show((gs.map lN).any λy=>aU y (lN a))=_;rw[List.any_map];refine Pc.mpr ?_;rw[Rt,decide_eq_true_iff];constructor
 .rintro ⟨m,hm,e⟩;have e:beqTs (m.map nI) (a.map nI)=ZC:=e;rw[uX]at e;rw[<-of_decide_eq_true e];exact hm
 .intro h;refine⟨a,h,?_⟩;show beqTs (a.map nI) (a.map nI)=ZC;rw[uX];exact decide_eq_true rfl
def Mc(k:Nat)(l:List Nat):sr (nI k) (lN l)=.ok (.bl (decide (k∈l))):=by
 show(if _ then _ else _)=_;rw[if_pos ⟨.inl (by simp[nI,T.dep]),rfl,T.KF _ (rX l)⟩];congr 2;show((l.map nI).any λy=>aU y (nI k))=_;rw[List.any_map];refine Pc.mpr ?_;rw[Rt,decide_eq_true_iff];constructor
 .rintro ⟨m,hm,e⟩;have e:aU (nI m) (nI k)=ZC:=e;rw[yR]at e;rw[<-of_decide_eq_true e];exact hm
 .intro h;refine⟨k,h,?_⟩;show aU (nI k) (nI k)=ZC;rw[yR];exact decide_eq_true rfl
noncomputable def cK:List T:=[.tup [.int 1,.int 1,.tup [.int 0,.int 1]],.tup [.int 1,.int 1,.tup [.int 0]]]
noncomputable def yx:T:=.tup [en ⟨1,0⟩,en ⟨0,0⟩,.int 1,.non]
noncomputable def Gm:T:=.tup [en ⟨1,0⟩,en ⟨0,1⟩,.int 2,.non]
noncomputable def PK:List N2:=[⟨0,0⟩,⟨0,1⟩,⟨1,0⟩]
noncomputable def LK:bS N2:=[(⟨0,0⟩,⟨0,1⟩,1),(⟨0,1⟩,⟨0,0⟩,-1),(⟨0,0⟩,⟨1,0⟩,-1),(⟨0,1⟩,⟨1,0⟩,-2)]
def rdK:Rd cK [yx,Gm] LK PK:=⟨⟨rfl,λt ht=>by simp only[Oe,Pb,or_false]at ht;rcases ht with rfl|rfl <;> rfl,by decide,rfl⟩,rfl,rfl,⟨by decide,by decide,by decide,by decide⟩,by decide,by decide,by decide,by unfold big;decide⟩
def noK:NoNeg LK:=Holds.Nn (t:=λv=>v.k - v.c) λa b k hx=>by unfold LK at hx;simp only[Oe,Pb,or_false,Vs]at hx;rcases hx with⟨rfl,rfl,rfl⟩|⟨rfl,rfl,rfl⟩|⟨rfl,rfl,rfl⟩|⟨rfl,rfl,rfl⟩ <;> simp
def tK(ms:List T):List (Option Int):=PK.flatMap λu=>PK.map (table PK (lim cK ms) u)
def LZ(h:∀x∈lim cK ms,x∈LK):key PK cK ms=ZA (tK ms):=oY (noK.mono h)
def ndK(h:∀x∈lim cK ms,x∈LK)(h2:∀x∈lim cK (ms.eraseIdx j),x∈LK):lD PK cK ms j=decide (tK (ms.eraseIdx j)=tK ms):=by refine Pc.mpr (ndl_iff.trans ?_);rw[LZ h,LZ h2,Su,decide_eq_true_iff]
def nd0:lD PK cK [yx,Gm] 0=ZC:=(ndK (by decide) (by decide)).trans (by decide)
def nd1:lD PK cK [yx,Gm] 1=ZC:=(ndK (by decide) (by decide)).trans (by decide)
def nd2:lD PK cK [yx] 0=ZD:=(ndK (by decide) (by decide)).trans (by decide)
def LN:bz [RR cK [yx,Gm]]=.ok (.lst [.int 0,.int 1]):=by
 rw[rdK.Nf noK];have:(Oj [yx,Gm].length).filter (lD PK cK [yx,Gm])=[0,1]:=by show([0,1]:List Nat).filter _=_;rw[Sg nd0,Sg nd1];rfl
 rw[this];rfl
def JM:b9 [RR cK [yx,Gm]]=.ok (RR cK [yx]):=by rw[rdK.Nt noK];show Rs.ok (RR cK (vR PK cK 1 (if lD PK cK [yx,Gm] 1=ZC then [yx]else [yx,Gm])))=_;rw[nd1,if_pos rfl];show Rs.ok (RR cK (if lD PK cK [yx] 0=ZC then []else [yx]))=_;rw[nd2];rfl
def GK:dz []=.ok (.bl ZC):=by refine bJ rfl ?_;show gf [.em]=_;unfold gf;refine(aw (bL rfl rfl)).trans (b8 ((qD (aD (aI rfl (mJ (i:=0) (by omega) rfl LN)) rfl (mq rfl (by simp[T.dep,deps])))).trans (aD (aI rfl (mJ (i:=1) (by omega) rfl JM)) ?_ (mq rfl (by simp[T.dep,deps,cK,yx,en])))));exact p2 rfl ((wK (hi:=ZA ((1:Nat):Int)) rfl rfl rfl).trans (by rw[fN];rfl))
theorem oR{l:List T}(h:∀t∈l,t.dep<=n):(T.tup l).dep<=n+1:=by unfold T.dep;have:=gi h;omega
def Bt{c:T}(h:bF c=ZC):c.dep<=2:=by
 obtain⟨x,y,r,rfl,_⟩:=d8 h;refine oR λt ht=>?_;simp only[Oe,Pb,or_false]at ht;rcases ht with rfl|rfl|rfl
 .simp[T.dep]
 .simp[T.dep]
 .exact oR λt ht=>by obtain⟨i,_,rfl⟩:=On.mp ht;simp[T.dep]
theorem yv{t:T}(h:bM cs t=ZC):t.dep<=2:=by
 obtain⟨a,b,x,y,rfl,hd,ha,hb,_⟩:=eF h;obtain⟨m1,m2⟩:=LQ h;have:=(HL ha).2;have:=(HL hb).2;have hx:x.dep<=2:=by unfold eG at hd;rw[N7]at hd;obtain⟨i,rfl,_⟩:=dv hd.1;simp[T.dep]
 unfold T.dep deps deps deps deps deps;obtain⟨a',b',mo,le,e,_⟩:=jU h;cases e;simp only[T.dep];omega
def Fv(g:Good cs ls):(T.tup cs).dep<=3/\(T.tup ls).dep<=3:=⟨oR λt ht=>Bt ((ck g.c).1 t ht),oR λt ht=>yv (g.l t ht)⟩
def unL:T->List Nat
 |.lst l=>l.map jY
 |_=>[]
def BS(l:List Nat):unL (lN l)=l:=by show(l.map nI).map jY=l;rw[OK,show(jY∘nI)=id from funext eZ,RD]
noncomputable abbrev Ew(ns:List Int)(a1 a2 a3 a4 a5 a6 a7 a8 a9 a10 a11 a12:Sl):En:=[.va (.scr ns),a1,a2,a3,a4,a5,a6,a7,a8,a9,a10,a11,a12]
def Fo(hn:n<=4)(h:l∈gF n):(∀k∈l,k<n)/\l.length<=n:=(ze n hn l ((ox n hn l).mp h)).2
def K7(hn:n<=4)(i:Nat):rm n i∈gF n:=(ox n hn _).mpr (D6 n hn _)
theorem Ci(n:Nat):((Oj n).map nI).reverse=(Oj n).map λ(k:Nat)=>T.int ((n:Int) - 1 - (k:Int)):=by
 refine RZ (by simp) λi h1 h2=>?_;have hi:i<n:=by simpa using h2
 simp only[U3,Rr,Tx,N9,OR,nI];congr 1;omega
theorem GA(h:f Z=.ok (nI n))(hn:n<=1000):iR (ae f ai) Z=.ok ((Oj n).map nI):=(HJ (ar h rfl) (by omega) (by omega)).trans (by rw[jc];rfl)
def Mz{t:T}(ht:((Oj n).map nI)[i]?=ZA t):i<n/\t=nI i:=by
 have hi:i<n:=by have:=(Og.mp ht).1;simpa using this
 rw[Ot,Qq hi]at ht;exact⟨hi,(OM ht).symm⟩
def GB(p:List Nat->Bool):∀gs:List (List Nat),((gs.map lN).filter λt=>p (unL t)).map id=(gs.filter p).map lN:=λgs=>by rw[RD,Sh];congr 1;exact TV λl _=>by show p (unL (lN l))=p l;rw[BS]
theorem Rd.good(R:Rd cs ls L P)(h4:ls.length<=4)(h5:vr 5 Z=.ok (nI ls.length))(hE:∀s,(bU [ZB,ZA 1] Z).set 0 s=[s,.va (RR cs ls)]):d9 (iS (cl gu (ae (vr 5) ai))) [ZB,ZA 1] (gN 0) (tb (cl gZ (ae (vr 1) (ae (vr 0) ai)))) (vr 0) Z=.ok (.lst (((gF ls.length).filter (nn cs ls)).map lN)):=by rw[<-GB];refine mf (iw (aI (ar h5 rfl) (GJ _ h4))) (aB (k:=63) (by rw[N9];have:=pE ls.length h4;omega)) (by simp) λt ht=>?_;obtain⟨l,hl,rfl⟩:=On.mp ht;obtain⟨h1,h2⟩:=Fo h4 hl;rw[hE,BS];exact⟨bQ (aI rfl (R.N3 h1 (by omega))),λ_=>rfl⟩
def lens(hg:gs.length<=63)(h6:vr 6 Z=.ok (.lst (gs.map lN)))(hE:∀s,(bU [ZB] Z).set 0 s=[s]):d9 (iS (vr 6)) [ZB] (gN 0) bT (cl cA (ae (vr 0) ai)) Z=.ok (.lst (gs.map λm=>T.int (m.length:Nat))):=by
 refine(m7 (h:=lenV) (iw h6) (aB (by rw[N9];exact hg)) (by simp) λt ht=>?_).trans ?_
 .obtain⟨l,hl,rfl⟩:=On.mp ht;rw[hE];exact aI rfl rfl
 .rw[OK];congr 2;exact OL λl _=>by show T.int ((l.map nI).length:Nat)=_;rw[N9]
def LR(hg:gs.length<=63)(h6:vr 6 Z=.ok (.lst (gs.map lN)))(hE:∀s,(bU [ZB,ZA 7] Z).set 0 s=[s,.va (nI k)]):d9 (iS (vr 6)) [ZB,ZA 7] (gN 0) (tb (o2 oj (cl cA (ae (vr 0) ai)) (vr 1))) (vr 0) Z=.ok (.lst ((gs.map lN).filter (Mh k))):=by refine(mf (iw h6) (aB (by rw[N9];exact hg)) (by simp) λt ht=>?_).trans (by rw[RD]);obtain⟨l,hl,rfl⟩:=On.mp ht;rw[hE];exact⟨bQ (aD (aI rfl rfl) rfl (D9 _ _)),λ_=>rfl⟩
def MB(hn:n<=4)(h5:vr 5 Z=.ok (nI n))(hE:∀s,(bU [ZB,ZA 5,ZA 6] Z).set 0 s=[s,.va (nI n),.va (.lst (gs.map lN))]):d9 (iR (ae (vr 5) ai)) [ZB,ZA 5,ZA 6] (gN 0) (tb (o2 sr (d9 (iR (ae (vr 1) ai)) [ZB,ZA 0] (gN 0) (tb (o2 oB (vr 0) (vr 1))) (vr 0)) (vr 2))) (vr 0) Z=.ok (lN ((Oj n).filter λi=>decide (rm n i∈gs))):=by show _=Rs.ok (T.lst (((Oj n).filter λi=>decide (rm n i∈gs)).map nI));rw[<-i8];refine mf (GA h5 (by omega)) (aB (by simpa using hn)) (by simp) λt ht=>?_;obtain⟨k,hk,rfl⟩:=On.mp ht;rw[hE,eZ];refine⟨bQ (aD ?_ rfl (Md _ _)),λ_=>rfl⟩;show _=Rs.ok (T.lst (((Oj n).filter λi=>i != k).map nI));rw[<-i8];refine mf (GA rfl (by omega)) (aB (by simpa using hn)) (by simp) λt ht=>?_;obtain⟨i,hi,rfl⟩:=On.mp ht;rw[eZ];exact⟨bQ (aD rfl rfl (Hv _ _)),λ_=>rfl⟩
def LO(h:L≠ []):oB (eL L) (.lst [])=.ok (.bl ZC):=by obtain⟨x,l,rfl⟩:=List.exists_cons_of_ne_nil h;unfold oB;rw[if_pos (wV (by simp[T.dep,deps]) (by unfold eL T.nd;exact lC λt ht=>by obtain⟨y,_,rfl⟩:=On.mp ht;rfl) rfl)];rfl
def rec1(cs ls:List T):gx (.tup [.tup cs])=ZD:=rfl
theorem ref5(hc:(T.tup cs).pl=ZC){o:T}(hE:∀s,(bU [ZB,ZA 1,ZA 9] Z).set 0 s=[s,.va (RR cs ls),.va o]):d9 (iR (ae (cn (.int 5)) ai)) [ZB,ZA 1,ZA 9] (gN 0) bT (cl aZ (ae (vr 0) (ae (sl (vr 1) pN (pS (cn (.int 1)))) (ae (vr 2) ai)))) Z=.ok (.lst [cN 0,cN 0,cN 0,cN 0,cN 0]):=by
 refine(m7 (ts:=(Oj 5).map nI) (h:=λ_=>cN 0) (GA rfl (by omega)) (aB (k:=5) (by simp)) (by simp) λt ht=>?_).trans rfl;obtain⟨k,hk,rfl⟩:=On.mp ht;have hk:=OZ.mp hk;rw[hE];have hp:(T.tup [.tup cs]).pl=ZC:=by rw[gU];exact gz λt ht=>by rw[Ox.mp ht];exact hc
 have hr:gx (.tup [.tup cs])=ZD:=rec1 cs [];refine aI (ts:=[nI k,.tup [.tup cs],o]) (ar rfl (ar ((wK (hi:=ZA ((1:Nat):Int)) rfl rfl rfl).trans (by rw[fN];rfl)) rfl)) ?_
 match k,hk with
 |0,_=>exact mK (by omega) rfl (Ez (sU hp hr)).1 r0
 |1,_=>exact mK (by omega) rfl (Ez (sU hp hr)).2 r0
 |2,_=>exact mK (by omega) rfl (My hp hr) r0
 |3,_=>exact mK (by omega) rfl (Mx hp hr) r0
 |4,_=>exact tu (Mw hp hr) r0
theorem JE(k:Nat)(hk:k<=5)(j:Nat):cv (.lst [cN j]) (.int (k:Nat))=.ok (.lst (OH k (cN j))):=by
 rw[uA _ _ ⟨by omega,by omega,by rw[Pz];exact aB (by simpa using hk)⟩,Pz];congr 2;induction k with
 |zero=>rfl
 |succ k ih=>rw[P7,QN,ih (by omega)];rfl
theorem Il(hn:ns.length<=63):gg [.scr ns]=.ok (.bl ZC):=by
 obtain⟨ds,ms,er,hc,c3,hs,hl,h6⟩:=Ki ns hn 0 6 (by omega);obtain⟨hR,mR⟩:=Iz hc hs hl (by omega);have g0:Good ds ms:=⟨hc,λt ht=>(hl t ht).1,by omega,Iu mR⟩;have g1:=xO g0;have esm:=GH g0;generalize oq ds=cs at g1 esm;generalize hk:ls2 ds ms=ks at g1 esm;obtain⟨ls,hls⟩:∃ls,ls=ks.take 4:=⟨_,rfl⟩;have g:Good cs ls:=by rw[hls];exact g1.take 4
 have h4:ls.length<=4:=by rw[hls,Po];omega
 obtain⟨L,P,R⟩:=rW g;have ll:=R.ll;obtain⟨j,l,a1,a2,a3,a4⟩:=R.kept h4;have n63:((gF ls.length).filter (nn cs ls)).length<=63:=by have:=Q6 (nn cs ls) (gF ls.length);have:=pE ls.length h4;omega
 have nnw:nn cs ls (Oj ls.length)=ZC↔NoNeg L:=by rw[nn_iff,vU,R.M6]
 have al:((Oj ls.length).filter λi=>decide (rm ls.length i∈(gF ls.length).filter (nn cs ls)))=(Oj ls.length).filter λi=>nn cs ls (rm ls.length i):=TV λi hi=>by refine Pc.mpr ?_;rw[decide_eq_true_iff,PH];exact⟨λh=>h.2,λh=>⟨K7 h4 i,h⟩⟩
 obtain⟨r,ed,d0,d1⟩:=eI ns 80 5 hn (by omega);obtain⟨o,ho,eo⟩:=FZ (l:=[.int (-1),.int (L.length:Nat),.bl ZC,.non,.str "0"]) d0 (by simpa using d1);have oo:o.pl=ZC/\aX o 0 ((L.length:Int) - 1)=ZD:=by
  simp only[Oe,Pb,or_false]at ho;rcases ho with rfl|rfl|rfl|rfl|rfl
  .exact⟨rfl,by unfold aX;simp⟩
  .exact⟨rfl,by unfold aX;simp;omega⟩
  .exact⟨rfl,rfl⟩
  .exact⟨rfl,rfl⟩
  .exact⟨rfl,rfl⟩
 obtain⟨b,_,en0,ib⟩:=wg P L;refine bJ rfl ?_;show iN (Ew ns .em .em .em .em .em .em .em .em .em .em .em .em)=_;unfold iN;refine(aw (bL (aI (ts:=[RR ds ms]) (ar (aI (ts:=[.scr ns,.int 0,.int 6]) rfl er) rfl) esm) rfl)).trans ?_;refine(aw (bL (p2 (aD (t:=RR cs ks) (u:=.int 0) rfl rfl (gw (n:=0) rfl)) ((wK (l:=ks) (lo:=ZB) (hi:=ZA ((4:Nat):Int)) (aD (t:=RR cs ks) (u:=.int 1) rfl rfl (gw (n:=1) rfl)) rfl (qC rfl)).trans (by rw[fN,<-hls]))) rfl)).trans ?_;refine(aw (bL (aI (ts:=[.tup cs]) (ar (aD (t:=RR cs ls) (u:=.int 0) rfl rfl (gw (n:=0) rfl)) rfl) R.M9) rfl)).trans ?_;refine(aw (bL (aI (ts:=[RR cs ls]) rfl R.M7) rfl)).trans ?_;refine(aw (bL (aI (ts:=[eS P,eL L]) rfl R.ltab) rfl)).trans ?_;refine(aw (bL (oE (l:=ls) (aD (t:=RR cs ls) (u:=.int 1) rfl rfl (gw (n:=1) rfl))) rfl)).trans ?_;refine(aw (bL (R.good h4 rfl λs=>rfl) rfl)).trans ?_;have gmax:=DT h4 a1 a2 a3;have gmin:=DS h4 a1 a2 a3;generalize hgs:(gF ls.length).filter (nn cs ls)=gs at gmax gmin n63 al ⊢;refine(aw (bL (aI (ar (lens n63 rfl λs=>rfl) rfl) gmax) rfl)).trans ?_;refine(aw ((dC (bQ (aD (t:=lN l) (u:=lN l) (aI (ts:=[.int 2,RR cs ls,.non]) rfl (mJ (i:=2) (by omega) rfl a4)) (aI (ar (LR (k:=l.length) n63 rfl λs=>rfl) rfl) gmin) (kB (rX l) (uR l))))).trans rfl)).trans ?_;refine(aw (bL ((MB h4 rfl λs=>rfl).trans (by rw[al])) rfl)).trans ?_;have e10:∀{Z:En},vr 4 Z=.ok (qZ P L)->vr 8 Z=.ok (lN ((Oj ls.length).filter λi=>nn cs ls (rm ls.length i)))->DO (tb (o2 iI (vr 4) (cn .non))) (vr 8) (dB ai) Z=.ok (lN (told cs ls)):=λ{Z} q4 q8=>by
  refine(wM (p:=!b) (bQ (aD (t:=qZ P L) (u:=.non) q4 rfl en0))).trans ?_;unfold told;cases b with
  |true=>rw[if_neg (by decide),if_pos (nnw.mpr (ib.mp rfl))];rfl
  |false=>rw[if_pos (by decide),q8,if_neg λz=>by have:=ib.mpr (nnw.mp z);cases this]
 refine(aw ((dC (bQ (aD (t:=lN (told cs ls)) (u:=lN (told cs ls)) (aI (ts:=[.int 3,RR cs ls,.non]) rfl (mJ (i:=3) (by omega) rfl (R.NY h4))) (e10 rfl rfl) (kB (rX _) (uR _))))).trans rfl)).trans ?_;clear e10 al gmax gmin;generalize lN ((Oj ls.length).filter λi=>nn cs ls (rm ls.length i))=A8;refine(aw (bL (aD (t:=.lst [.int (-1),.int (L.length:Nat),.bl ZC,.non,.str "0"]) (u:=.int r) (jV (ar rfl (ar (qt L rfl) rfl)) (aB (k:=5) (by simp))) (aI (ts:=[.scr ns,.int 80,.int 5]) rfl ed) eo) rfl)).trans ?_;refine(aw ((dC (bQ (aD (t:=cN 2) (u:=cN 2) (aI (ts:=[.int 4,RR cs ls,o]) rfl (tu (R.odd oo.1 oo.2) r2)) rfl (Gb 2)))).trans rfl)).trans ?_;refine(aw ((dC (bQ (aD (t:=.lst [cN 0,cN 0,cN 0,cN 0,cN 0]) (u:=.lst [cN 0,cN 0,cN 0,cN 0,cN 0]) (ref5 g.parts.1 λs=>rfl) (aD (t:=.lst [cN 0]) (u:=.int ((5:Nat):Int)) rfl rfl (JE 5 (by omega) 0)) (kB rfl (by simp[T.dep,deps,cN]))))).trans rfl)).trans ?_;clear hgs n63;generalize T.lst (gs.map lN)=A6;generalize nI l.length=A7;by_cases n:NoNeg L
 .have hb:b=ZC:=ib.mpr n;subst hb;refine(aw ((dC (bQ (aD (t:=qZ P L) (u:=.non) rfl rfl en0))).trans rfl)).trans ?_;refine uI (λ_ Z=>∃s,Z=Ew ns (.va (RR cs ls)) (.va (eS P)) (.va (eL L)) (.va (qZ P L)) (.va (nI ls.length)) (.va A6) (.va A7) (.va A8) (.va o) .em s .em) (ts:=(Oj L.length).map nI) (GA (qt L rfl) (by omega)) ?_ ⟨_,rfl⟩ ?_
  .intro k t ht Z hr;obtain⟨s,rfl⟩:=hr;obtain⟨hk,rfl⟩:=Mz ht;have n':NoNeg (jG L k):=n.mono kq;have he':∀x∈jG L k,x.1∈P/\x.2.1∈P:=λx hx=>R.f.ends x (kq x hx);refine⟨_,_,rfl,?_,.va (nI k),rfl⟩;refine(dC (bQ (aD (t:=.bl (AB P (jG L k) L)) (u:=.bl (AB P (jG L k) L)) (aI (ts:=[.int 4,RR cs ls,.int (k:Nat)]) rfl (Ia (R.NC n hk))) (aD (t:=qZ P (jG L k)) (u:=qZ P L) (aI (ts:=[eS P,eL (jG L k)]) (ar rfl (ar (aD (t:=.lst ((L.take k).map eB)) (u:=.lst ((L.drop (k+1)).map eB)) ?_ ?_ (EE ll k)) rfl)) (ltab R.nd R.pl he')) rfl (Af he' R.f.ends n' n)) (kB rfl (by simp[T.dep]))))).trans rfl
   .rw[wJ (l:=L.map eB) (lo:=ZB) (hi:=ZA ((k:Nat):Int)) rfl rfl (qC rfl),fN,S3]
   .rw[wJ (l:=L.map eB) (lo:=ZA ((k+1:Nat):Int)) (hi:=ZB) rfl (qC (aD (t:=.int (k:Nat)) (u:=.int 1) rfl rfl rfl)) rfl,mx,VI]
  .intro Z hr;obtain⟨s,rfl⟩:=hr;refine(aw (bL rfl rfl)).trans ?_;refine uI (λi Z=>∃cur s,Ri P cs ls (ls.length - i) cur/\Z=Ew ns (.va (RR cs ls)) (.va (eS P)) (.va (eL L)) (.va (qZ P L)) (.va (nI ls.length)) (.va A6) (.va A7) (.va A8) (.va o) .em s (.va (RR cs cur))) (iw (l:=(Oj ls.length).map λ(k:Nat)=>T.int ((ls.length:Int) - 1 - (k:Int))) (Gp (t:=.lst ((Oj ls.length).map nI)) ?_ (by rw[<-Ci];rfl))) ?_ ⟨ls,_,Ri.start,rfl⟩ ?_
   .show lR _ _=_;unfold lR;rw[ar (t:=nI ls.length) rfl rfl,aG];show(if _ then _ else _)=_;rw[if_pos (by rw[z8 (by omega),RM];exact decide_eq_true (by omega)),jc];rfl
   .intro i t ht Z hr;obtain⟨cur,s,I,rfl⟩:=hr;obtain⟨m,e1,e2,rfl⟩:=Ai ht;rw[e1]at I;rw[e2];have hc8:cur.length<=8:=by have:=I.len;omega
    have S:=R.sub I.sub hc8;have nc:NoNeg (lim cs cur):=n.mono λx hx=>by have:=zL I.sub x hx;rwa [R.M6]at this
    have hin:sr (nI m) (lN ((Oj cur.length).filter (lD P cs cur)))=.ok (.bl (lD P cs cur m)):=by rw[Mc];congr 2;refine Pc.mpr ?_;rw[decide_eq_true_iff,PH,OZ];exact⟨λh=>h.2,λh=>⟨I.ge,h⟩⟩
    refine⟨_,Ew ns (.va (RR cs ls)) (.va (eS P)) (.va (eL L)) (.va (qZ P L)) (.va (nI ls.length)) (.va A6) (.va A7) (.va A8) (.va o) .em (.va (nI m)) (.va (RR cs (if lD P cs cur m=ZC then cur.eraseIdx m else cur))),rfl,?_,_,_,I.next,rfl⟩;have tst:∀{Z:En},vr 11 Z=.ok (nI m)->vr 12 Z=.ok (RR cs cur)->tb (o2 sr (vr 11) (cl dh (ae (vr 12) ai))) Z=.ok (lD P cs cur m):=λq1 q2=>bQ (aD (t:=nI m) q1 (aI (ts:=[RR cs cur]) (ar q2 rfl) (S.ND nc)) hin);cases q:lD P cs cur m with
    |true=>
     rw[q]at tst;exact(eJ (tst rfl rfl)).trans (bL (L8 (k:=m) hc8 rfl rfl) rfl)
    |false=>
     rw[q]at tst;exact(dC (tst rfl rfl)).trans rfl
   .intro Z hr;obtain⟨cur,s,I,rfl⟩:=hr;rw[N9,OR,SH]at I;have ec:cur=vR P cs ls.length ls:=I.fin;have gc:Good cs cur:=R.g.sub I.sub (by have:=I.len;omega);have dc:(RR cs cur).dep<=60:=by
     have:=Fv gc;unfold T.dep;have:deps [.tup cs,.tup cur]<=3:=gi λt ht=>by
      simp only[Oe,Pb,or_false]at ht;rcases ht with rfl|rfl
      .exact this.1
      .exact this.2
     omega
    refine b8 ((qD (aD (t:=lN ((Oj ls.length).filter (lD P cs ls))) (u:=lN ((Oj ls.length).filter (lD P cs ls))) (aI (ts:=[.int 0,RR cs ls,.non]) rfl (mJ (i:=0) (by omega) rfl (R.Nf n))) (aI (ts:=[RR cs ls]) rfl (R.ND n)) (mq (rX _) (uR _)))).trans (aD (t:=RR cs cur) (u:=RR cs cur) (aI (ts:=[.int 1,RR cs ls,.non]) rfl (mJ (i:=1) (by omega) rfl (by rw[ec];exact R.Nt n))) rfl (mq gc.p dc)))
 .have hb:b=ZD:=by
   cases b with
   |true=>exact absurd (ib.mp rfl) n
   |false=>rfl
  subst hb;have hne:L≠ []:=λz=>n (λa s w=>by rw[z]at w;cases w with|nil=>exact P8 _|step h _=>cases h);have hpos:0<L.length:=List.length_pos_iff.mpr hne;have bw:=Ez (R.Np n);refine iH ((eJ (bQ (aD (t:=qZ P L) (u:=.non) rfl rfl en0))).trans ?_);refine(aw (bL (aD (t:=.lst [cN 3,cN 3]) (u:=.lst [cN 3]) ?_ (aD (t:=.lst [cN 3]) (u:=.int ((1:Nat):Int)) (jV (ar (aI (ts:=[.int 4,RR cs ls,.int 0]) rfl (tu (R.NO n (k:=0) hpos) r3)) rfl) (aB (k:=1) (by simp))) (aI (ts:=[.bl ZC]) (ar (aD (t:=eL L) (u:=.lst []) rfl rfl (LO hne)) rfl) rfl) (JE 1 (by omega) 3)) rfl) rfl)).trans ?_
  .refine(m7 (ts:=[.int 0,.int 1]) (h:=λ_=>cN 3) (J0 rfl) (aB (k:=2) (by simp)) (by simp) λt ht=>?_).trans rfl;simp only[Oe,Pb,or_false]at ht;rcases ht with rfl|rfl
   .exact aI (ts:=[.int 0,RR cs ls,.int 0]) rfl (mK (i:=0) (by omega) rfl bw.1 r3)
   .exact aI (ts:=[.int 1,RR cs ls,.int 0]) rfl (mK (i:=1) (by omega) rfl bw.2 r3)
  .exact b8 (aD (t:=.lst [cN 3,cN 3,cN 3]) (u:=.lst [cN 3,cN 3,cN 3]) rfl (aD (t:=.lst [cN 3]) (u:=.int ((3:Nat):Int)) rfl rfl (JE 3 (by omega) 3)) (mq rfl (by simp[T.dep,deps,cN])))
def pure_law(ns:List Int)(hn:ns.length<=63):m_law [.scr ns]=.ok (.bl ZC):=bJ rfl (b8 ((qD (by show(match dz []with|.ok t=>Rs.ok t|_=>.bad)=_;rw[GK])).trans (aI (ts:=[.scr ns]) rfl (Il hn))))
end G
end
open PySem PySem.W PyProof.Rows
set_option maxRecDepth 100000 in
set_option maxHeartbeats 0 in
theorem PySem.Challenge.cw_farclocks_k50_needs_holds : PySem.Challenge.rw_farclocks_k50_needs.Holds := by
  w_on; o_law
  refine holds_open (q :=G.vw) (loose :=G.lse) (Xt :=λ_ =>true) (XP :=λ_ _ =>True) (Yf :=(Tr.hookX G.asks G.top).obs) (Ya :=(Tr.hookX G.asks G.top).val) (YP :=(Tr.hookX G.asks G.top).says) (N :=9000) (Tr.left_of (by rfl) (by rfl) (λ_ =>rfl) λw os =>?hl) (Tr.hookX G.asks G.top).of (Tr.hookX G.asks G.top).keeps (λ_ _ =>trivial) (λ_ _ _ _ _ =>trivial) (by rfl) (by rfl) (by rfl) (λs _ =>recFacts_of (s :=s) rfl) (by rfl) (by assumption) (by decide +kernel) ⟨rfl, rfl, rfl, rfl, rfl, by decide +kernel⟩ ?hw ?hc
  case hl =>exact ((congrFun (congrFun (congrFun (congrFun (congrFun PySem.W.Fast.lhsz_eq w) _) _) _) os).trans (G.NU w os)).trans (congrFun PySem.W.Fast.rhsz_eq w).symm
  case hw =>w_witness2
  case hc =>exact Tr.walk_x (n :=63) (k :=18) (x := "_law_script") (CX :=L2.CX0) (sp :=λK =>Tr.spP K 1 G.m_law) rfl (by decide) rfl ⟨rfl, by decide, by decide⟩ (λw K mg fa h X e L b g hf =>G.all_ok X e L b g hf) (λK H a ns hl _ hS =>Tr.sp_script hS (G.pure_law ns hl)) λ_ _ _ _ z =>z
