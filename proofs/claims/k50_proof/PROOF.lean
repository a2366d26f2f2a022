import PyProof.Rows.All
import Wide.All
import OpenK.AllK
import Wide.FinOn
import Lean
import PyProof.EqAt
import PyProof.EqKinds
import PyProof.TupleCall
import PyProof.ExcClass3
import PyProof.StationsW
import PyProof.ExcBaseAll.ValueError
import PyProof.ExcArgsOwn
import PyProof.IsiBase
import PyProof.IsiH_tuple
import PyProof.ExcAttrAll.ValueError
import PyProof.Rows.RuleN_isinstance
import PyProof.MeetsSeq
import PyProof.RulesAs
import PyProof.IsiH_list
import PyProof.AttrMiss
import KE.KDictOf
import PyProof.Rows.SumAny
import PyProof.Rows.MinMaxN
import PyProof.Rows.SortShellK
import PyProof.Rows.SortWalk
import PyProof.ZipIter
import PyProof.WalksMore
import PyProof.DictWalks
import PyProof.AutoSeq1
import PyProof.Rows.Range3
import PyProof.CollectWalk
import KE.KSortTup
import PyProof.EnumMake
import PyProof.ListRange
import PyProof.SetScanFacts
import PyProof.SetKind
import PyProof.DictKinds
import PyProof.FactsAll.set_0
import PyProof.FactsAll.set_1
import PyProof.FactsAll.set_2
import PyProof.FactsAll.set_3
import PyProof.FactsLen
import PyProof.TupleIter
import PyProof.Rows.SetFrom
import PyProof.Rows.SortShell
import KE.KLam
import PyProof.P3Eq
import PyProof.DictRoadsH
import KE.KEqDict
import PyProof.WalkInts
import PySem.Challenge.RW_farclocks_k50_needs
noncomputable section
open PySem.Challenge renaming pw_farclocks_k50_needs→PR,rw_farclocks_k50_needs→UV
open Std.Legacy.Range renaming forIn_eq_forIn_range'→UU
open PySem.AutoListH renaming list___mul___list_int_3→Vx
open PyProof.Rows renaming slot_tuple_getitem→OQ,callWith_builtin1→QC,callWith_type1→Pa,subscriptTail_builtinR→Uv,entry_tuple_getitem→Tg,args_tuple_getitem→TC,call_isinstance_of→VY,KK_mirror_equal→QZ,get?_update_seq→US,slicePart_none→TJ,tupleItemsOf_→Ue,listUpdate_at→Ug,subscriptTail→VV,wpS_forRange→SS,listItems_at→WC,Subscript_→UY,wpS_modify→Wn,setPending→Wo,SortedToK→Qr,pendingOf→RZ,wpS_bind→PJ,wpS_pure→QB,failedOf→S6,SortKind→U1,IntsAre→Qp,AllBare→Rk,NonIncK→Vr,wpS_get→Xn,SortSt→SO,Keyed→Xu,IsTup→Xv
open Array renaming eq_empty_of_size_eq_zero→SM,getD_eq_getD_getElem?→Qj,getElem?_eq_some_iff→PX,perm_iff_toList_perm→To,length_toList→PN,find?_toList→Vv,forIn_toList→VG,toList→UA
open Int renaming mul_le_mul_of_nonneg_left→SX,eq_ofNat_of_zero_le→Pv,emod_lt_of_pos→TB,toNat_natCast→PC,emod_nonneg→UM,ediv_one→UB,mul_comm→UE,le_refl→Qa,neg_neg→W6
open PySem.F renaming args_tuple_iterator_next_1→S3,entry_tuple_iterator_next→Ta,slot_tuple_iterator_next→Q3,excBase_ValueError→Ti,slot_list_getattribute→Rj,args_tuple_add_2→R6,plainAttrs_list→QM,entry_tuple_add→Sg,args_dict_get_2→T5,slot_list_index→T6,type_list_index→T7,plain_min_loop→PZ,slot_tuple_add→Sq,entry_min_loop→Sr,entry_dict_get→Um,args_list_eq_2→Uo,slot_dict_get→SG,typeOf_object_class→SI,entry_list_eq→Uz,slot_enumerate_next→UG,slot_list_eq→U2,args_list_index_2→Vj,entry_list_index→VA,args_int_rmul_2→V4,slot_tuple_rmul→V6,slot_list_index→V7,slot_tuple_mul→Ui,slot_int_index→WG,entry_int_rmul→WH,slot_int_rmul→S8,fills_int_mul→W4,slot_gs_get→Vz
open PySem.Builtin.Slice renaming slicePartIndex→WW,sliceApplied→Q2,slicePlaces→Pw,sliceAdjust→P3,sliceFields→TF
open PySem.Builtin.Builtins renaming bindParams→S7
open List renaming getD_eq_getElem?_getD→O5,getElem?_append_right→RT,nodup_iff_pairwise_ne→Tq,getElem?_eq_some_iff→Oi,drop_eq_getElem_cons→Qx,getElem?_append_left→Rb,pairwise_iff_getElem→RV,getElem?_eq_getElem→Of,getElem?_replicate→Ro,getElem?_cons_succ→Rq,filter_cons_of_pos→Si,getElem?_set_self→OW,drop_eq_nil_of_le→Q1,range_succ_eq_map→RA,take_of_length_le→Su,mem_append_right→OK,getElem?_eq_none→PP,length_singleton→QH,length_filter_le→Q8,take_append_drop→SN,set_getElem_self→UH,mem_cons_of_mem→N8,getElem?_set_ne→O4,mem_append_left→O8,mem_of_getElem?→Py,mem_of_mem_take→Qn,getElem?_of_mem→S1,getElem_reverse→U4,mem_erase_of_ne→U7,mem_of_mem_drop→U8,map_congr_left→ON,filterMap_cons→P8,replicate_succ→P9,getElem?_range→Qs,getElem_of_mem→Rp,length_reverse→Vi,drop_succ_cons→Vm,mem_cons_self→Oe,length_append→Om,mem_singleton→OB,contains_cons→Qh,mem_filterMap→Tv,filterMap_map→Tw,getElem_range→Tz,append_of_mem→VH,getElem?_map→Ov,size_toArray→Ox,append_assoc→OS,length_range→OU,nodup_append→PU,flatten_cons→QQ,flatMap_cons→QR,reverse_cons→Sx,any_eq_false→TN,filter_congr→TX,ext_getElem?→V5,mapM_toArray→Wb,pairwise_map→Wc,getElem?_inj→We,map_inj_left→Wg,length_cons→Oj,all_eq_true→OG,not_mem_nil→Pd,length_take→Pq,lookup_cons→Pr,getElem_mem→PQ,length_drop→QK,getElem_map→Rv,any_eq_true→Rw,ext_getElem→R1,mem_flatMap→R3,filter_cons→SW,drop_length→WJ,cons_append→WM,range'_succ→WO,length_map→Ob,mem_append→OR,nodup_cons→OZ,append_nil→Pz,map_append→PF,mem_filter→PL,nil_append→P4,length_set→P5,of_mem_zip→Rh,find?_cons→RF,filter_map→Sj,range_succ→Te,length_nil→UI,foldl_cons→W3,forIn_cons→W5,length_zip→Xe,idxOf_cons→Xf,replicate→OJ,mem_range→OY,nodup_nil→Rc,map_cons→Oc,mem_cons→Og,sum_cons→QN,any_cons→Q6,map_take→S5,map_drop→VJ,mem_map→Oq,map_map→OM,map_nil→Tx,toArray→Wr,all_map→Ws,set_set→Wx,length→PB,map_id→RG,lookup→R4,range→On,Nodup→RO,foldl→TQ,getD→UD,cons→Xa,map→VD
open PySem renaming wpAny_newFunctionEnv_cells→Q4,wpAny_binaryOp_repeat_ref→TK,wpAny_getItem_list_slice→T2,wpAny_callSpecial?_slot→Qk,richCompare_meets_room→Sv,wpAny_pyNext_list_item→Us,wpAny_pyNext_range_end→Ut,wpAny_pyIter_rangeiter→Uu,wpAny_Call_method_late→Uw,builtinLookup_eq_fast→Q9,codeAny_call_function→SR,wpAny_pyNext_list_end→UN,wpAny_isTrue_Compare1→UO,wpAny_notOrdered_dict→UR,codeAny_call_builtin→S2,wpAny_loadName_local→U9,mem_of_lookup→QU,wpAny_isSubtype_exc→QX,wpAny_loadName_cell→Vn,wpAny_Call_Name_kw→Pc,tupleKind_room_in1→QJ,wpAny_pyIter_tuple→Sn,wpAny_pyIter_range→VO,wpAny_List_spliced→VP,wpAny_truthy_bool→Pg,foldedSetIterable→Ph,wpAny_newObj_type→Pt,wpAny_loadPart_at→Pu,wpAny_pyIter_list→Sz,wpAny_dictEntries→SD,wpAny_sequenceKey→T1,wpAny_assign_Name→Wj,wpAny_pyIter_enum→Wm,wpAny_call_entry→Q5,noFill_tuple_add→Ul,seqSlot_of→WL,wpAny_eqBool_int→WR,wpAny_execs_cons→WS,wpAny_isInstance→WT,lookupAlong_cons→WU,checkBuiltinCall→WV,wpAny_loadPart'→O0,codeAny_builtin→QY,wpAny_execs_nil→Sk,letOwnedTupleGo→Sm,typeLookup_type→So,pushCells_keeps→UQ,wpAny_updateSeq→UT,importedModules→Xg,wpAny_passesOwn→Xi,wpAny_ite_split→Xo,size_of_entries→Xp,wpAny_dictEpoch→Xq,recursionLimit→RX,wpAny_seqItems→RY,wpAny_tryCatch→SE,wpAny_setField→Vc,wpAny_holding→P7,attributeBase→Qz,plainId_quiet→Ru,behindInMarks→RQ,swapsWithSole→VM,swappedStores→VN,seq_tuple_add→VS,evalPart_none→VU,wpAny_attempt→VX,bootBuiltins→Pb,codeAny_mono→Sb,wpAny_typeOf→Sd,codeAny_func→Wy,concat_meets→Wz,call_range_1→WA,call_range_2→WB,mainGlobals→OL,sizeLine_eq→PH,excClassObj→PY,wpAny_field→Qv,sliceBounds→SB,keywordEach→Tf,wpAny_letGo→Uh,IsRangeIter→Vo,subscripted→Vq,lookupAlong→Xm,wpAny_bind→N7,wpAny_pure→Ol,wpAny_mono→Qo,sysModules→Qt,assignEach→Qu,builtinsNs→Sa,call_meets→Se,typeLookup→SA,wpAny_rule→SC,wpAny_call→UX,typeIs_int→UZ,closureFor→U0,entryOfKey→Wi,compareOp→Po,swapsWith→P6,cellsFrom→QV,Arguments→SQ,tupleKind→TY,codeAmong→TZ,pushCells→UP,seqItems?→VW,slicePick→Xk,noteFrame→Xl,starEach→Oy,FuncData→PV,boot_len→Ql,binaryOp→Qy,NameKind→RP,GenState→VL,bindArgs→VQ,backToKw→VR,Operator→WZ,Program→OH,BindsTo→Vp,OsState→Wh,Keyword→Wl,Shared→Od,Around→OV,Paired→Uk,IsPart→VT,Result→Xj,Value→Oa,World→Px,Scope→RI,Model→Xh,CmpOp→Xw
open PySem.Builtin.Tuple renaming tupleItemsOf→RS,tupleIsExact→Th,tupleExact→Pm
open PySem.Calls renaming Name_function_global→Tj,callWith_builtin→Ss,evalArgs_plain→RU,spliced_cons→RB,Constant_str→Vu,spliced_nil→Rg
open PySem.Builtin.SmallTypes renaming nextOf→Ra
open PySem.Builtin.Dict renaming dictSlotArgs→TH,updateFrom→T8,samePairs→Uq
open PySem.Builtin.List renaming listTooLong→Rf
open Option renaming isSome_iff_exists→R7,map_eq_some_iff→Qq,isSome_some→Vy,isSome_map→V8,getD_none→WE,map_some→Xc,some→Pf
open PySem.Builtin.Range renaming rangeSize→Rn,small→Ve
open Classical renaming propDecidable→Ud
open PySem.Heap renaming get?_push_of_some→Oh,get?_update_other→Pk,get?_update_self→RE,get?_push_size→Oz,get?_update_ne→Rr,get?_push_ne→Wd,size_update→WN,NewAttrErr→W7,size_push→Ry,IsSliceOf→Xr,lt_size→Ou,SameBut→SH
open PySem.W renaming cellsFrom_some→Q0,hideAll_none→SY,hideAll_get→Rm,callWith_K→Sf,of_hideAll→Ts,codeRec_of→Tt,methodObj→TL,kitx_list→VZ,kitx_dict→V0,plainGet→WD,kia_one→P2,instObj→Ux,hideAll→Uy,keepIn→Qw,lookIn→Va,codeIn→Vb,mg_of→RJ,Frag→N6,fnOf→R5,nsIn→SF
open PyProof renaming noPylong_small→Ur
open PySem.Obj renaming isFreed_of_fields→UF,data_mapFields→Sh,mapFields→VB,mapSeq→PD
open Bool renaming and_eq_false_iff→UL,and_eq_true_iff→QL,false_ne_true→OF,false_eq_true→Qe,not_eq_true'→TV,and_eq_true→N9,eq_iff_iff→Pe,or_eq_true→Tc,true_and→Rt,false_or→Ua,and_true→VI,or_true→Wu,true_or→Wv
open PySem.Around renaming under_plainId→Qm,frames_deeper→U3,units→SL
open Nat renaming le_sub_one_of_lt→SZ,sub_one_lt_of_lt→S0,not_succ_lt_self→U6,lt_of_lt_of_le→Os,lt_of_le_of_lt→RC,add_sub_cancel→VC,lt_succ_of_lt→RM,le_of_succ_le→Sy,le_of_lt_succ→TU,lt_trichotomy→Wa,max_eq_right→SV,succ_le_succ→Uj,lt_succ_self→WI,succ_ne_self→WK,mod_eq_of_lt→WQ,le_antisymm→UJ,not_lt_zero→W8,lt_irrefl→O9,le_trans→OI,ne_of_lt→O7,le_of_lt→Qb,ne_of_gt→QF,lt_or_ge→Rl,le_of_eq→R8,zero_add→R9,sub_self→SJ,sub_zero→SK,lt_trans→UC,add_comm→Wp,mul_comm→Wq,min_self→Wt,le_refl→Ot,zero_le→Pj,le_succ→Xd,sub_le→V9
open PySem.Value renaming notImplemented→U5,builtin→RN,none→Pn,bool→Pp,type→Rx,ref→OA,int→Qd,str→QD
open PySem.Heap.SameBut renaming update→Vd
open PyProof.Rows.KeyOrd renaming kle_antisymm→Vk,kle_of_klt→TR,kle_trans→SU,kle_refl→RH
open PySem.Heap.IsSliceOf renaming new→Tu
open PySem.SeqAt.EqAt renaming int_int→Vs
open Option.some renaming injEq→Sw,inj→OP
open List.Pairwise renaming nil→V3
open Function renaming comp_def→Wf
open ForInStep renaming yield→RD
open List.cons renaming injEq→W0
open PySem.Expr renaming Subscript→Qc,Attribute→RW,Constant→S4,ListComp→Uc,UnaryOp→UK,Compare→Ww,BoolOp→Re,Name→O6,Call→Qi,List→W9
open PySem.NameKind renaming free→Pl,cell→Qg
open PySem.Value.ref renaming inj→T4
open PySem.Paired renaming length→T9
open Prod.mk renaming injEq→Vt,inj→T3
open PySem.Str renaming ofString→Oo
open PySem.Stmt renaming Assign→Td
open PySem.Scope renaming names→Ub
open PySem.Pos renaming endLine→Vl,line→R0
open PySem.Data renaming fields→W1
open PySem.IsRange renaming new→W2
open False renaming elim→QP
open True renaming intro→RL
open PySem.BoolOp renaming And→UW,Or→VE
open PySem.Env renaming scope→Q7
open PyProof.Rows.IsTup renaming new→Vw
open Prod renaming snd→WX,fst→WY,mk→Vh
open Ne renaming symm→PM
open Iff renaming rfl→S9
open Sum renaming inl→Vf,inr→Vg
open Or renaming inl→TM
set_option Elab.async false
set_option linter.all false
set_option maxRecDepth 100000
set_option maxHeartbeats 8000000
noncomputable section
abbrev nDb (x:PySem.Str):Prop:=(x == PySem.Str.ofString "__debug__")=false
theorem qr_ (h:True:=by first | exact .inl rfl | exact .inr rfl | assumption):True:=trivial
def r_:=qr_._auto_1
theorem qs_ (h:True:=by decide):True:=trivial
def s_:=qs_._auto_1
theorem qt_ (h:True:=by intro _;rfl):True:=trivial
def t_:=qt_._auto_1
theorem qu_ (h:True:=by first | exact TM rfl | exact Or.inr (TM rfl) | exact Or.inr (Or.inr rfl)):True:=trivial
def u_:=qu_._auto_1
theorem qv_ (h:True:=by with_unfolding_all rfl):True:=trivial
def v_:=qv_._auto_1
theorem qw_ (h:True:=by intro _ _;rfl):True:=trivial
def w_:=qw_._auto_1
theorem qx_ (h:True:=by first | exact TM rfl | exact Or.inr rfl):True:=trivial
def x_:=qx_._auto_1
theorem qy_ (h:True:=by decide+kernel):True:=trivial
def y_:=qy_._auto_1
theorem qz_ (h:True:=by exact fsc):True:=trivial
def z_:=qz_._auto_1
namespace L2
open PySem PySem.Spec PyProof.Rows
inductive V where
 | non | bl (b:Bool) | int (i:Int) | str (x:Str) | byt (b:Array UInt8) | flt (b:UInt64) | ref (a:Addr) | ty (n:String)
 deriving DecidableEq
end L2
namespace HT
open PySem PyProof.Rows
section
variable {prog:OH}{w:Px}{A:OV}{E:Oa->Od->Prop}{s:Od}
def sIx (n d:Nat):Option Int->Nat
 | none=>d
 | some v=>if v<0 then(v+(n:Int)).toNat else min v.toNat n
end
end HT
namespace L2
open PySem PySem.Spec PyProof.Rows
def ir (s:Stmt):SQ:=match s with
 | .FunctionDef _ a _ _ _ _ _ _ _ _=>a
 | _=> { posonlyargs:=[],args:=[],vararg:=none,kwonlyargs:=[],kw_defaults:=[],kwarg:=none,defaults:=[] }
def cZ (s:Stmt):List Stmt:=match s with
 | .FunctionDef _ _ b _ _ _ _ _ _ _=>b
 | _=> []
def az (s:Stmt):RI:=match s with
 | .FunctionDef _ _ _ _ _ _ sc _ _ _=>sc
 | _=> { kind:=.function,names:=[],isGenerator:=false,isCoroutine:=false }
end L2
namespace Tr
open PySem PySem.Spec PyProof.Rows L2
inductive T where
 | non | bl (b:Bool) | int (i:Int) | str (x:Str) | tup (l:List T) | lst (l:List T)
 /-- the law's script: a list of ints that is only read -/
 | scr (l:List Int)
 /-- a dict: its keys,its values -/
 | dct (ks vs:List T)
inductive Rs (α:Type) where
 | ok (a:α) | err (c:Str) | bad
def Rs.bind {α β:Type}(x:Rs α)(f:α->Rs β):Rs β:=match x with
 | .ok a=>f a
 | .err c=> .err c
 | .bad=> .bad
instance:Monad Rs where
 pure:=Rs.ok
 bind:=Rs.bind
abbrev Ow:=Addr->Prop
inductive OT where
 | lst (l:List T) | dct (ks ts:List T) | dd (ks:List T) (rows:List (List T×List T))
def OT.view:OT->T
 | .lst l=> .lst l
 | .dct ks ts=> .dct ks ts
 | .dd ks rows=> .dct ks (rows.map λr=> .dct r.1 r.2)
inductive Sl where
 | em | va (t:T) | ow (o:OT)
abbrev En:=List Sl
abbrev Mn:=Nat->Ow
def Mn.u (M:Mn):Ow:=λa=> ∃i,M i a
section
variable {X:Cx}{a b c:Expr}{fa fb fc:En->Rs T}{pos:Pos}
def og (l:List T)(lo hi:Option Int):List T:=(l.drop (HT.sIx l.length 0 lo)).take (HT.sIx l.length l.length hi - HT.sIx l.length 0 lo)
def slT (x:T)(lo hi:Option Int):Rs T:=match x with
 | .tup l=> .ok (.tup (og l lo hi))
 | .lst l=> .ok (.lst (og l lo hi))
 | _=> .bad
def sl (fe:En->Rs T)(fl fu:En->Rs (Option Int))(Z:En):Rs T:=do
 let x <-fe Z
 let l <-fl Z
 let u <-fu Z
 slT x l u
variable {e:Expr}{es:List Expr}{fs:En->Rs (List T)}{x:Str}{p:Pos}{id:String}{g:List T->Rs T}
end
def calmNames:List Str:=["__init__","__getattribute__","__getattr__","__class__"]
def B3:Oa->Bool
 | .str _ _=>true
 | _=>false
end Tr
namespace Tr
def cO:List Int->List Int->Bool
 | [],[] =>false
 | [],_::_=>true
 | _::_,[] =>false
 | a::l,b::m=>if a=b then cO l m else decide (a<b)
end Tr
namespace Tr
open PySem PySem.Spec PyProof.Rows L2
structure RK where
 V:Heap->Oa->List Int->Prop
 inj:∀{h v a b},V h v a->V h v b->a=b
 on:∀{h h':Heap} {v a},V h v a->(∀b o,h.get? b=some o->h'.get? b=some o)->V h' v a
 fst:∀{h v a},V h v a->∃ad xs n o m t,v= .ref ad/\h.get? ad=some o/\o.cls= .type "tuple"/\o.data= .seq xs n/\xs[0]? =some (.int m t)
 lt:∀{prog w A s E x y a b} {Q:Bool->Od->Prop},A.units+60<cLine->V s.heap x a->V s.heap y b->Q (cO a b) s->wpAny (model prog w) A (keyLt' (tuples' true) x y) Q E s
variable (R:RK)
open Classical in
def RK.key (h:Heap)(v:Oa):Option (List Int):=if e:∃ns,R.V h v ns then some e.choose else none
variable {R:RK}
end Tr
namespace Tr
open PySem PySem.Spec PyProof.Rows L2 PySem.W
def D6 (h:Heap):Frag:=(On h.objs.size).filterMap λa=>(h.get? a).map λo=>(a,o)
def obF (K:Frag)(n:Str):Option (Str×Str×SQ×FuncBody×RI×Addr×List (Str×Addr)×Oa×Addr×Bool×Bool):=match nsIn K OL n with
 | some (some (.ref f))=>match K.lookup f with
  | some ⟨_,_,.func d,_⟩=>some (d.name,d.qualname,d.params,d.body,d.scope,d.globals,d.closure,d.defaults,d.builtins,codeIn K d.code n,keepIn K (.ref f))
  | _=>none
 | _=>none
def exF (n:Str)(st:Stmt):Option (Str×Str×SQ×FuncBody×RI×Addr×List (Str×Addr)×Oa×Addr×Bool×Bool):=
 some (n,n,ir st,.stmts (cZ st),az st,OL,[],.none,Sa,true,true)
def LM (K:Frag)(N:Addr)(n:Str):Bool:=match nsIn K N n with | some none=>true | _=>false
def MS (K:Frag)(n:Str):Option Int:=match nsIn K OL n with | some (some (.int i _))=>some i | _=>none
def ze:List Oa->Bool
 | [.type a,.type b,.type c,.type d] =>a == "ValueError" &&b == "Exception" &&c == "BaseException" &&d == "object"
 | _=>false
def BS (D:Option Addr)(m:List Oa):Bool:=match D with
 | none=>ze m
 | some D=>match m with
  | .ref E::m=>E == D&&ze m
  | _=>false
def Gd (K:Frag)(D:Option Addr)(n:Str):Option Addr:=match nsIn K OL n with
 | some (some (.ref C))=>match K.lookup C with
  | some ⟨.type t,_,.cls c,⟨[_,_,_,_,some (.builtin b),_]⟩⟩=>match c.mro,K.lookup c.ns with
   | .ref E::m,some ⟨_,_,.dict es _,_⟩=>
    if (t == "type" &&b == "ValueError.__new__" && !c.hasDel&&(es.toList.all λe=>B3 e.key)&&calmNames.all (LM K c.ns)&&E == C&&BS D m)=true then some C else none
   | _,_=>none
  | _=>none
 | _=>none
def yS {α:Type}:List (Option α)->Option (List α)
 | [] =>some []
 | none::_=>none
 | some a::r=>match yS r with | some l=>some (a::l) | none=>none
def uo:List Addr->Bool
 | [] =>true
 | a::r=>(r.all λb=> !(a == b))&&uo r
def MR (K:Frag):List Str->Bool
 | [] =>true
 | m::es=>match Gd K none m with
  | some D=>match yS (es.map (Gd K (some D)))with | some l=>uo (l++ [D]) | none=>false
  | none=>false
structure rE where
 tab:List (Str×Nat)
 zs:List Str
 cs:List (Str×Int)
 es:List Str
def pU (S:rE)(K:Frag):=(S.tab.map (λp=>obF K p.1),S.zs.all (LM K OL),S.cs.map (λc=>MS K c.1),MR K S.es)
def nT (S:rE)(top:Nat->Stmt):=(S.tab.map (λp=>exF p.1 (top p.2)),true,S.cs.map (λc=>some c.2),true)
end Tr
set_option maxHeartbeats 4000000
namespace Tr
open PySem PySem.Spec PyProof.Rows L2 PySem.W
def E8 (K:Frag):Option (Addr×Addr):=match nsIn K OL "most_kept" with
 | some (some (.ref f))=>match K.lookup f with
  | some ⟨_,_,.func d,_⟩=>match d.code with
   | .ref c=>match K.lookup c with
    | some ⟨.type n,_,.fields vs,_⟩=>match(vs[11]?:Option Oa),(vs[18]?:Option Oa),(vs[7]?:Option Oa),(vs[9]?:Option Oa),(vs[10]?:Option Oa)with
     | some (.ref P),some (.str _ _),some (.int _ _),some (.bool _),some (.int _ _)=>if n == "code" &&c != P then some (c,P)else none
     | _,_,_,_,_=>none
    | _=>none
   | _=>none
  | _=>none
 | _=>none
def Kx (K:Frag):Bool:=match nsIn K OL "__builtins__" with
 | some (some (.ref bm))=>bm != Sa&&bm != OL&&(match K.lookup bm with
  | some ⟨.type n,some d,.plain,_⟩=>n == "module" &&d == Sa
  | _=>false)
 | _=>false
def qx (h:Heap)(P:Addr):Frag:=(D6 h).filter λp=> !(p.1 == P)
def zJ (S:rE)(h:Heap):=match E8 (D6 h)with
 | some (_,P)=>(pU S (qx h P),match E8 (qx h P)with
  | some (_,P')=>P' == P&&Kx (qx h P)&&(match h.get? P with
   | some ⟨.none,none,.fields ps,sl⟩=>ps.size == 0&&sl.size == 0
   | _=>false)
  | none=>false)
 | none=>(pU S [],false)
end Tr
namespace G
open PySem PySem.Spec PyProof.Rows L2 Tr
def top (i:Nat):Stmt:=PR.main.body.getD i (.Pass ⟨0,0,0,0⟩)
def asks:rE:=⟨([("is_long",17),("is_whole",15),("is_within",16),("is_pace",20),("rises",18),("are_readings",19),("is_clock",21),("are_clocks",22),("is_event",23),("is_delay",24),("is_letter",25),("are_letters",26),("is_record",27),("need_record",28),("bounds_of_clock",32)]:List (Str×Nat))++([("bounds_of_letter",33),("bounds",34),("need_number",29),("events",30),("is_better",37),("settle",36),("greatest_world",39),("world",40),("has_world",41),("need_world",42),("is_needless",48),("all_letters",49),("walks_from",44),("most_of",45),("all_most",46)]:List (Str×Nat))++([("same_worlds",54),("with_only",50),("without",51),("needless_letters",52),("least_letters",53),("sets_of",55),("most_kept",56),("culprits",57),("_law_told",69),("_law_known_one",73),("_law_events",63),("_law_small",65),("_law_bounds",66),("_law_table",67),("_law_cell",59)]:List (Str×Nat))++([("_law_drawn",60),("_law_letter",62),("_law_clock",61),("_law_record",64),("_law_sets",72),("_law_has",71),("_law_needless",70),("_law_stands",74),("law",75),("_law_refused",68)]:List (Str×Nat)),(["ValueError","all","bool","dict","enumerate","int","isinstance","len","list","max","min","range","sorted","tuple"]:List Str),[("MOST_CLOCKS",4),("MOST_LETTERS",8),("MOST_READINGS",4),("LAST_READING",99),("SLOWEST",9),("LONGEST",999)],["ClockError","NoRecord","NoEvent","NoNumber","NoWorld","Barred","Nothing"]⟩
def vw:OH:=PySem.W.view PR [75]
def lse:List Str:=(["ClockError","NoRecord","NoEvent","NoNumber","NoWorld","Barred","Nothing","MOST_CLOCKS","MOST_LETTERS","MOST_READINGS","LAST_READING","SLOWEST","LONGEST","is_whole","is_within","is_long","rises","are_readings","is_pace","is_clock"]:List Str)++(["are_clocks","is_event","is_delay","is_letter","are_letters","is_record","need_record","need_number","events","bounds_of_clock","bounds_of_letter","bounds","settle","is_better","greatest_world","world","has_world","need_world","walks_from","most_of"]:List Str)++(["all_most","is_needless","all_letters","with_only","without","needless_letters","least_letters","same_worlds","sets_of","most_kept","culprits","_law_cell","_law_drawn","_law_clock","_law_letter","_law_events","_law_record","_law_small","_law_bounds","_law_table"]:List Str)++(["_law_refused","_law_told","_law_needless","_law_has","_law_sets","_law_known_one","_law_stands"]:List Str)
def lhs (w:Px)(h:Heap)(d:Drawn)(t:Nat)(os:Wh):=(PySem.W.topFrom treeTable PR w 9000 ⟨h,⟨[]⟩,d,t,os⟩).map (λs=>(PySem.W.openSeen vw lse (Xg PR.main.body) (λ_=>true) true s,zJ asks s.heap))
def rhs (w:Px):=some (PySem.W.openGood vw lse,(nT asks top,true))
theorem lhs_r:lhs=lhs:=rfl
theorem rhs_r:rhs=rhs:=rfl
end G
set_option maxHeartbeats 1000000
section
lay_quick G.lhs G.rhs
name_quick lhsz for G.lhs by G.lhs_r
name_quick rhsz for G.rhs by G.rhs_r
open PySem PySem.W PyProof.Rows
set_option maxRecDepth 100000 in
theorem G.NT (w:Px)(os:Wh):PySem.W.Fast.lhsz w (boot_heap w.params) boot_drawn boot_toks os=PySem.W.Fast.rhsz w:=by kernel_rfl
end
namespace L2
open PySem PySem.Spec PyProof.Rows
abbrev Key:=Sum Int Str
def r9:Key->Oa->Bool
 | .inl k,v=>Value.isInt k v
 | .inr x,v=>Value.isStrOf x v
def keyH (w:Px):Key->Int
 | .inl k=>hashInt k
 | .inr x=>hashStr w x
theorem di:∀{k:Key} {v:Oa},r9 k v=true->(∃i t,k=Vf i/\v=Qd i t)\/(∃x t,k=Vg x/\v=QD x t)
 | .inl i,v,h=>by
  obtain⟨t,e⟩:=Value.isInt_shape (k:=i) (v:=v) h
  exact .inl ⟨i,t,rfl,e⟩
 | .inr x,v,h=>by
  obtain⟨t,e⟩:=Value.isStrOf_shape (x:=x) (v:=v) h;exact .inr ⟨x,t,rfl,e⟩
theorem A4 (i:Int)(t:Tok):r9 (.inl i) (.int i t)=true:=by simp[r9,Value.isInt]
theorem A3 (x:Str)(t:Tok):r9 (.inr x) (.str x t)=true:=by simp[r9,Value.isStrOf]
theorem JY (a b:Int):decide ((Vf a:Key)=Vf b)=(a == b):=by
 by_cases e:a=b
 ·subst e;simp
 ·have h:¬ (Vf a:Key)=Vf b:=λq=>e (Vf.inj q)
  rw[decide_eq_false h];exact(beq_eq_false_iff_ne.mpr e).symm
theorem JU (a b:Str):decide ((Vg a:Key)=Vg b)=decide (a=b):=by
 by_cases e:a=b
 ·subst e;simp
 ·have h:¬ (Vg a:Key)=Vg b:=λq=>e (Vg.inj q)
  rw[decide_eq_false h,decide_eq_false e]
theorem JX (a:Int)(b:Str):decide ((Vf a:Key)=Vg b)=false:=decide_eq_false (λq=>nomatch q)
theorem JV (a:Str)(b:Int):decide ((Vg a:Key)=Vf b)=false:=decide_eq_false (λq=>nomatch q)
def du (prog:OH)(w:Px):PySem.KeyKind prog w Key where
 is:=r9
 hash:=keyH w
 inj:=λv a b ha hb=>by
  rcases di ha with⟨i,t,rfl,rfl⟩ | ⟨x,t,rfl,rfl⟩
  ·rcases di hb with⟨j,u,rfl,e⟩ | ⟨y,u,rfl,e⟩
   ·injection e with e1 _;rw[e1]
   ·exact nomatch e
  ·rcases di hb with⟨j,u,rfl,e⟩ | ⟨y,u,rfl,e⟩
   ·exact nomatch e
   ·injection e with e1 _;rw[e1]
 byValue:=λk v h=>by
  rcases di h with⟨i,t,rfl,rfl⟩ | ⟨x,t,rfl,rfl⟩ <;> rfl
 pyHash:=λhv h=>by
  rcases di hv with⟨i,t,rfl,rfl⟩ | ⟨x,t,rfl,rfl⟩
  ·exact wpAny_pyHash_int h
  ·exact wpAny_pyHash_str h
 eqBool:=λhu hv h=>by
  rcases di hu with⟨i,t,rfl,rfl⟩ | ⟨x,t,rfl,rfl⟩
  ·rcases di hv with⟨j,u,rfl,rfl⟩ | ⟨y,u,rfl,rfl⟩
   ·rw[JY]at h;exact WR h
   ·rw[JX]at h;exact SeqAt.EqAt.int_str i t y u _ _ _ _ h
  ·rcases di hv with⟨j,u,rfl,rfl⟩ | ⟨y,u,rfl,rfl⟩
   ·rw[JV]at h;exact SeqAt.EqAt.str_int x t j u _ _ _ _ h
   ·rw[JU]at h;exact wpAny_eqBool_str h
 «strs»:=λk x t v h=>by
  rcases di h with⟨i,u,rfl,e⟩ | ⟨y,u,rfl,e⟩
  ·exact nomatch e
  ·injection e with e1 _
   subst e1;cases v <;> rfl
theorem wt (prog:OH)(w:Px)(i:Int)(t:Tok):(du prog w).is (.inl i) (.int i t)=true:=A4 i t
theorem wq (prog:OH)(w:Px)(x:Str)(t:Tok):(du prog w).is (.inr x) (.str x t)=true:=A3 x t
def RelV:V->Oa->Prop
 | .non,u=>u=Pn
 | .bl b,u=>u=Pp b
 | .int i,u=> ∃t,u=Qd i t
 | .str x,u=> ∃t,u=QD x t
 | .byt b,u=> ∃t,u=Value.bytes b t
 | .flt b,u=> ∃t,u=Value.float b t
 | .ref a,u=>u=OA a
 | .ty n,u=>u=Rx n
abbrev Vals:List V->List Oa->Prop:=Uk RelV
theorem Vals.length {xs:List V}{us:List Oa}(r:Vals xs us):xs.length=us.length:=T9 r
theorem Vals.get:∀{xs:List V} {us:List Oa} {i:Nat} {x:V},Vals xs us->xs[i]? =some x->∃u,us[i]? =some u/\RelV x u
 | _,_,_,_,.nil,e=>by simp at e
 | _,_,0,_,.cons r _,e=>by simp at e;subst e;exact⟨_,rfl,r⟩
 | _,_,i+1,x,.cons _ t,e=>by
  obtain⟨u,h1,h2⟩:=Vals.get (i:=i) (x:=x) t (by simpa using e)
  exact⟨u,by simpa using h1,h2⟩
theorem Vals.append:∀{xs ys:List V} {us ws:List Oa},Vals xs us->Vals ys ws->Vals (xs++ys) (us++ws)
 | _,_,_,_,.nil,s=>s
 | _,_,_,_,.cons r t,s=> .cons r (Vals.append t s)
theorem Vals.take:∀{xs:List V} {us:List Oa} (n:Nat),Vals xs us->Vals (xs.take n) (us.take n)
 | _,_,0,_=> .nil
 | _,_,_+1,.nil=> .nil
 | _,_,n+1,.cons r t=> .cons r (Vals.take n t)
theorem Vals.drop:∀{xs:List V} {us:List Oa} (n:Nat),Vals xs us->Vals (xs.drop n) (us.drop n)
 | _,_,0,r=>r
 | _,_,_+1,.nil=> .nil
 | _,_,n+1,.cons _ t=>Vals.drop n t
def RelO:Option V->Option Oa->Prop
 | some v,some u=>RelV v u
 | none,none=>True
 | _,_=>False
def KV {κ:Type}:List (κ×V)->List (κ×Oa)->Prop:=Uk λ(p:κ×V) (q:κ×Oa)=>p.1=q.1/\RelV p.2 q.2
def kV:Key->V
 | .inl i=> .int i
 | .inr x=> .str x
inductive HO where
 /-- a list -/
 | lst (xs:List V)
 /-- a tuple (never changes) -/
 | tup (xs:List V)
 /-- a dict whose keys are ints and texts;one whose keys are tuples of ints and texts (the empty one is both) -/
 | dK (kvs:List (Key×V)) | dT (kvs:List (List Key×V))
 /-- a set of ints: its members,its size -/
 | set (S:Int->Bool) (n:Nat)
 /-- an instance of the class at C,its dict at dx,its attributes -/
 | ins (C dx:Addr) (fs:List (Str×V))
 /-- the dict of the instance at x -/
 | own (x:Addr)
 /-- the dict of an exception -/
 | xd (fs:List (Str×V))
 /-- a bound method,f of x -/
 | met (f x:Addr)
 /-- a range object lo,lo+1,.. below hi -/
 | rng (lo hi:Int)
 /-- a thing that is known to the object (the script;a dict while a loop walks it): read,never written while it is so -/
 | frz (o:Obj) (u:HO)
 /-- a code object's table -/
 | tbl (q:Str)
 /-- any other thing,by what is true of its one object (a def of one's own: SetO a S n:=HO.ext λh=> ..) -/
 | ext (φ:Heap->Prop)
abbrev Hp:=Addr->Option HO
def upd (H:Hp)(a:Addr)(o:HO):Hp:=λb=>if b=a then some o else H b
theorem aI {H:Hp}{a:Addr}{o:HO}:upd H a o a=some o:=by unfold upd;rw[if_pos rfl]
theorem aG {H:Hp}{a b:Addr}{o:HO}(h:b≠a):upd H a o b=H b:=by unfold upd;rw[if_neg h]
theorem sW {H:Hp}{a:Addr}{o u:HO}:upd (upd H a o) a u=upd H a u:=by
 funext b;unfold upd;split <;> rfl
theorem lY {H:Hp}{a b:Addr}{o u:HO}(h:H a=some o)(h':H b=some u)(d:o≠u):a≠b:=by
 intro e;subst e;rw[h]at h';exact d (OP h')
theorem cV {H:Hp}{a b:Addr}{o:HO}(h:H a=some o)(h':H b=none):a≠b:=by
 intro e;subst e;rw[h]at h';cases h'
section
variable (P:OH)(w:Px)
def ObjOk (H:Hp)(h:Heap)(a:Addr):HO->Prop
 | .lst xs=>xs.length<=sizeLine/\∃(its:List Oa) (n:Nat),Vals xs its/\h.get? a=some { cls:=.type "list",data:=.seq its.toArray n }
 | .tup xs=>xs.length<=sizeLine/\∃its:List Oa,Vals xs its/\Xv h a its.toArray
 | .dK kvs=>kvs.length<=sizeLine/\(a == Qt)=false/\∃vs,KV kvs vs/\h.DictOf (du P w) a vs
 | .dT kvs=>kvs.length<=sizeLine/\(a == Qt)=false/\∃xs:List (List Key×Addr×Oa),
   Uk (λ(p:List Key×V) (q:List Key×Addr×Oa)=>p.1=q.1/\H q.2.1=some (.tup (p.1.map kV))/\RelV p.2 q.2.2) kvs xs ∧
   ∃o es ep,h.get? a=some o/\o.ExactDict/\o.data= .dict es ep/\es.toList=xs.map (Wi (TY (du P w)))/\(xs.map (·.1)).Nodup
 | .set S n=>h.SetOf (intKind P w) a S n
 | .ins C dx fs=>H dx=some (.own a)/\fs.length<=1000/\dx≠a/\h.get? a=some (Ux C dx) ∧
   ∃mA,h.Ns1 dx mA/\(∀f,RelO (fs.lookup f) (mA f))/\PySem.Within mA (fs.map (·.1))
 | .own _=> ∃o,h.get? a=some o
 | .xd fs=> ∃mA,h.Ns1 a mA/\∀f,RelO (fs.lookup f) (mA f)
 | .rng lo hi=> ∃t u v,h.get? a=some { cls:=.type "range",data:=.fields #[.int lo t,.int hi u,.int 1 v] }
 | .frz o u=>h.get? a=some o/\ObjOk H h a u
 | .tbl q=> ∃ps:Array Oa,h.get? a=some { cls:=.none,data:=.fields ps }/\TriplesOk ps.toList/\∀pos v,TZ pos ps.toList=some v->∃c oc vs t,v= .ref c/\H c=some (.own a)/\h.get? c=some oc/\oc.data= .fields vs/\vs[1]? =some (.str q t)
 | .met f x=>h.get? a=some (TL (.ref f) (.ref x))
 | .ext φ=>φ h/\(∃o,h.get? a=some o)/\∀h1 h2:Heap,φ h1->(∀o,h1.get? a=some o->h2.get? a=some o)->φ h2
def HOk (H:Hp)(h:Heap):Prop:=∀a o,H a=some o->ObjOk P w H h a o
end
section
variable {P:OH}{w:Px}{H H':Hp}{h h':Heap}{a:Addr}{o:HO}
theorem ObjOk.lt (x:ObjOk P w H h a o):a<h.objs.size:=by
 cases o with
 | lst xs=>obtain⟨_,_,_,_,e⟩:=x;exact Ou e
 | tup xs=>obtain⟨_,_,_,p⟩:=x;exact p.lt
 | dK kvs=>obtain⟨_,_,_,_,o,_,_,e,_⟩:=x;exact Ou e
 | dT kvs=>obtain⟨_,_,_,_,o,_,_,e,_⟩:=x;exact Ou e
 | set S n=>obtain⟨o,_,_,_,e,_⟩:=x;exact Ou e
 | ins C dx fs=>obtain⟨_,_,_,e,_⟩:=x;exact Ou e
 | own y=>obtain⟨_,e⟩:=x;exact Ou e
 | xd fs=>obtain⟨_,⟨_,_,_,e,_⟩,_⟩:=x;exact Ou e
 | rng lo hi=>obtain⟨_,_,_,e⟩:=x;exact Ou e
 | frz ob u=>obtain⟨e,_⟩:=x;exact Ou e
 | tbl q=>obtain⟨_,e,_⟩:=x;exact Ou e
 | met f y=>exact Ou (show h.get? a=some _ from x)
 | ext φ=>obtain⟨_,⟨_,e⟩,_⟩:=x;exact Ou e
theorem Paired.NF {α β:Type}{F G:α->β->Prop}:∀{l₁:List α} {l₂:List β},Uk F l₁ l₂->(∀a b,F a b->G a b)->Uk G l₁ l₂
 | _,_,.nil,_=> .nil
 | _,_,.cons r t,f=> .cons (f _ _ r) (Paired.NF t f)
theorem ObjOk.M5 (x:ObjOk P w H h a o)(k:∀b u,(b=a\/H b=some (.own a))->h.get? b=some u->h'.get? b=some u)
  (ho:∀b,H b=some (.own a)->H' b=some (.own a)) (ht:∀b xs,H b=some (.tup xs)->H' b=some (.tup xs)):ObjOk P w H' h' a o:=by
 induction o with
 | lst xs=>obtain⟨z,its,n,r,e⟩:=x;exact⟨z,its,n,r,k _ _ (.inl rfl) e⟩
 | tup xs=>obtain⟨z,its,r,ob,e,c⟩:=x;exact⟨z,its,r,ob,k _ _ (.inl rfl) e,c⟩
 | dK kvs=>obtain⟨z,y,vs,r,ob,es,ep,e,c⟩:=x;exact⟨z,y,vs,r,ob,es,ep,k _ _ (.inl rfl) e,c⟩
 | dT kvs=>
  obtain⟨z,y,xs,r,ob,es,ep,e,c⟩:=x
  exact⟨z,y,xs,Paired.NF r λp q z=>⟨z.1,ht _ _ z.2.1,z.2.2⟩,ob,es,ep,k _ _ (.inl rfl) e,c⟩
 | set S n=>obtain⟨ob,es,ep,t,e,c⟩:=x;exact⟨ob,es,ep,t,k _ _ (.inl rfl) e,c⟩
 | ins C dx fs=>
  obtain⟨d,z,ne,e,mA,⟨od,es,ep,e2,c⟩,r⟩:=x
  exact⟨ho _ d,z,ne,k _ _ (.inl rfl) e,mA,⟨od,es,ep,k _ _ (.inr d) e2,c⟩,r⟩
 | own y=>obtain⟨ob,e⟩:=x;exact⟨ob,k _ _ (.inl rfl) e⟩
 | xd fs=>obtain⟨mA,⟨od,es,ep,e,c⟩,r⟩:=x;exact⟨mA,⟨od,es,ep,k _ _ (.inl rfl) e,c⟩,r⟩
 | rng lo hi=>obtain⟨t,u,v,e⟩:=x;exact⟨t,u,v,k _ _ (.inl rfl) e⟩
 | frz ob u ih=>obtain⟨e,q⟩:=x;exact⟨k _ _ (.inl rfl) e,ih q⟩
 | tbl q=>
  obtain⟨ps,e,z,r⟩:=x
  exact⟨ps,k _ _ (.inl rfl) e,z,λpos v ev=>let ⟨c,oc,vs,t,a1,a2,a3,a4⟩:=r pos v ev;⟨c,oc,vs,t,a1,ho _ a2,k _ _ (.inr a2) a3,a4⟩⟩
 | met f y=>
  have e:h.get? a=some (TL (.ref f) (.ref y)):=x
  show h'.get? a=some (TL (.ref f) (.ref y))
  exact k a _ (.inl rfl) e
 | ext φ=>obtain⟨p,⟨o,e⟩,st⟩:=x;exact⟨st _ _ p λo q=>k _ _ (.inl rfl) q,⟨o,k _ _ (.inl rfl) e⟩,st⟩
theorem HOk.lt (x:HOk P w H h)(e:H a=some o):a<h.objs.size:=(x a o e).lt
theorem HOk.fresh (x:HOk P w H h)(e:h.objs.size<=a):H a=none:=by
 cases q:H a with
 | none=>rfl
 | some u=>exact absurd (Os (x.lt q) e) (O9 _)
theorem HOk.kept (x:HOk P w H h)(k:∀b u,h.get? b=some u->h'.get? b=some u):HOk P w H h':=λa o e=>
 (x a o e).M5 (λb u _ q=>k b u q) (λ_ q=>q) λ_ _ q=>q
theorem HOk.laid (x:HOk P w H h)(k:∀b u,h.get? b=some u->h'.get? b=some u)(hp:h.objs.size<=a)(new:ObjOk P w (upd H a o) h' a o):HOk P w (upd H a o) h':=λb u e=>by
 have hn:=x.fresh hp
 by_cases hb:b=a
 ·subst hb;rw[aI]at e;cases e;exact new
 ·rw[aG hb]at e
  exact(x b u e).M5 (λc v _ q=>k c v q) (λc q=>by rw[aG (cV q hn)];exact q) λc xs q=>by rw[aG (cV q hn)];exact q
end
def Rd (H:Hp)(a:Addr)(u:HO):Prop:=H a=some u\/∃o,H a=some (.frz o u)
theorem Rd.ok {P:OH}{w:Px}{H:Hp}{h:Heap}{a:Addr}{u:HO}(r:Rd H a u)(x:HOk P w H h):ObjOk P w H h a u:=by
 rcases r with r | ⟨o,r⟩
 ·exact x a u r
 ·obtain⟨_,q⟩:=x a _ r
  exact q
def MG:Option HO->Prop
 | some (.lst _)=>True
 | some (.dK _)=>True
 | some (.dT _)=>True
 | some (.set _ _)=>True
 | some (.ins _ _ _)=>True
 | some (.ext _)=>True
 | _=>False
section
variable {P:OH}{w:Px}{H:Hp}{h h':Heap}{x e:Addr}{o':HO}
theorem HOk.write (ok:HOk P w H h)(mu:MG (H x))(he:e=x\/H e=some (.own x))(k:∀b u,b≠e->h.get? b=some u->h'.get? b=some u)(heo:∃u,h'.get? e=some u)
  (new:ObjOk P w (upd H x o') h' x o'):HOk P w (upd H x o') h':=λb u q=>by
 have nown:∀c y,H c=some (.own y)->c≠x:=λc y r z=>by subst z;rw[r]at mu;exact mu
 have ntup:∀c xs,H c=some (.tup xs)->c≠x:=λc xs r z=>by subst z;rw[r]at mu;exact mu
 by_cases hb:b=x
 ·subst hb;rw[aI]at q;cases q;exact new
 ·rw[aG hb]at q
  by_cases hbe:b=e
  ·have q':H b=some (.own x):=by
    rcases he with z | z
    ·exact absurd (hbe.trans z) hb
    ·rw[hbe];exact z
   rw[q]at q';cases q';obtain⟨v,hv⟩:=heo;exact⟨v,by rw[hbe];exact hv⟩
  ·refine(ok b u q).M5 (λc v hc r=>k c v ?_ r) (λc r=>by rw[aG (nown c b r)];exact r) λc xs r=>by rw[aG (ntup c xs r)];exact r
   rcases hc with rfl | hc
   ·exact hbe
   ·rintro rfl
    rcases he with z | z
    ·exact nown c b hc z
    ·rw[hc]at z;cases z;exact hb rfl
end
structure Un (fs ex:List Addr)(H H':Hp)(h h':Heap):Prop where
 keep:∀b o,h.get? b=some o->H b=none->b∉fs->b∉ex->h'.get? b=some o
 slot:∀b o,h.get? b=some o->H b=none->b∈fs->b∉ex->∃sl,h'.get? b=some { o with slots:=sl }
 free:∀b o,h.get? b=some o->H b=none->b∉ex->H' b=none
 there:∀b o,h.get? b=some o->b∉ex->∃o',h'.get? b=some o'
 tups:∀b xs,H b=some (.tup xs)->H' b=some (.tup xs)
 frzs:∀b o u,H b=some (.frz o u)->H' b=some (.frz o u)
 tbls:∀b ps,H b=some (.tbl ps)->H' b=some (.tbl ps)
section
variable {fs fs' ex ex':List Addr}{H H1 H2:Hp}{h h1 h2 h':Heap}{a x e:Addr}{o:HO}
theorem Un.any (u:Un fs ex H H1 h h1){b:Addr}{ob:Obj}(q:h.get? b=some ob)(n:H b=none)(hx:b∉ex):∃sl,h1.get? b=some { ob with slots:=sl }:=by
 by_cases hb:b∈fs
 ·exact u.slot b ob q n hb hx
 ·exact⟨ob.slots,u.keep b ob q n hb hx⟩
theorem Un.kept (k:∀b u,h.get? b=some u->h'.get? b=some u):Un fs ex H H h h':=
 ⟨λb ob q _ _ _=>k b ob q,λb ob q _ _ _=>⟨ob.slots,k b ob q⟩,λ_ _ _ n _=>n,λb ob q _=>⟨ob,k b ob q⟩,λ_ _ q=>q,λ_ _ _ q=>q,λ_ ps q=>(by rw[q])⟩
theorem Un.refl:Un fs ex H H h h:=Un.kept λ_ _ q=>q
theorem Un.laid (k:∀b u,h.get? b=some u->h'.get? b=some u)(hp:h.objs.size<=a)(hn:H a=none):Un fs ex H (upd H a o) h h' where
 keep:=λb u q _ _ _=>k b u q
 slot:=λb u q _ _ _=>⟨u.slots,k b u q⟩
 free:=λb u q n _=>by rw[aG (O7 (Os (Ou q) hp))];exact n
 there:=λb u q _=>⟨u,k b u q⟩
 tups:=λb xs q=>by rw[aG (cV q hn)];exact q
 frzs:=λb u xs q=>by rw[aG (cV q hn)];exact q
 tbls:=λb ps q=>(by rw[aG (cV q hn),q])
theorem Un.write (mu:MG (H x))(he:e=x\/H e=some (.own x))(k:∀b u,b≠e->h.get? b=some u->h'.get? b=some u)(heo:∃u,h'.get? e=some u):Un fs ex H (upd H x o) h h':=by
 have hx:∀b,H b=none->b≠x:=λb n z=>by subst z;rw[n]at mu;exact mu
 have hb:∀b,H b=none->b≠e:=λb n z=>by
  subst z;rcases he with r | r
  ·exact hx b n r
  ·rw[n]at r;cases r
 have hm:∀b u,H b=some u->¬ MG (some u)->b≠x:=λb u q nm z=>by subst z;rw[q]at mu;exact nm mu
 refine⟨λb u q n _ _=>k b u (hb b n) q,λb u q n _ _=>⟨u.slots,k b u (hb b n) q⟩,λb u q n _=>by rw[aG (hx b n)];exact n,λb u q _=> ?_,
  λb xs q=>by rw[aG (hm b _ q λz=>z)];exact q,λb u xs q=>by rw[aG (hm b _ q λz=>z)];exact q,λb ps q=>(by rw[aG (hm b _ q λz=>z),q])⟩
 by_cases hbe:b=e
 ·subst hbe;exact heo
 ·exact⟨u,k b u hbe q⟩
end
def trk (h:Heap)(H:Hp):List Addr:=(On h.objs.size).filter λa=>(H a).isSome
def uG (h:Heap)(H:Hp):Heap:=Uy h (trk h H)
theorem Bc (h:Heap)(H:Hp):(uG h H).objs.size=h.objs.size:=PySem.W.hideAll_size _ _
theorem DU {h:Heap}{H:Hp}{b:Addr}{o:Obj}(e:h.get? b=some o)(n:H b=none):(uG h H).get? b=some o:=
 Rm _ e λhm=>by
  have q:(H b).isSome=true:=(PL.mp hm).2;rw[n]at q;simp at q
theorem Gb {h:Heap}{H:Hp}{b:Addr}{o:Obj}(e:(uG h H).get? b=some o):h.get? b=some o/\H b=none:=by
 have e':h.get? b=some o:=Ts (trk h H) e;refine⟨e',?_⟩
 cases q:H b with
 | none=>rfl
 | some x=>
  have hm:b∈trk h H:=PL.mpr ⟨OY.mpr (Ou e'),by simp[q]⟩
  have z:(uG h H).get? b=none:=SY (trk h H) hm;rw[z]at e;cases e
def G5 (g h:Heap)(L:Addr):List (Addr×Obj):=(On h.objs.size).filterMap λa=>if a=L\/(g.get? a).isSome=true then none else(h.get? a).map λo=>(a,o)
def dv (g h:Heap)(L d:Addr):List (Addr×Obj):=(G5 g h L).filter λp=>decide (p.1≠d)
structure Mod (K:N6)(mg:Str->Option Oa)(base:Heap):Prop where
 kin:K.In base
 glob:base.Ns OL mg
 blt:∃mb,base.Ns Sa mb/\∀x:Str,x≠ "__name__"->mb x=Pb x
 nolimit:base.NoLimit
structure Cx where
 prog:OH
 w:Px
 K:N6
 mg:Str->Option Oa
 base:Heap
 A:OV
 N:List Str
 s₀:Od
 H₀:Hp
 env:Env
 outer:List Env
 stack:List Env
 ex:List Addr
 fn:Str->Bool
 calm:Bool
 pn:List (Addr×Obj)
 xe:Oa->Od->Prop
def kF (l:List Env):List Addr:=l.filterMap (·.frame)
abbrev Cx.fs (X:Cx):List Addr:=kF X.outer
def uY (sc:RI)(x:Str):Prop:=sc.names.lookup x=some .local\/sc.names.lookup x=some .cell\/sc.names.lookup x=some .free
def Loc (sc:RI)(x:Str):Prop:=sc.names.lookup x=some .local\/sc.names.lookup x=some .cell
def Look (env:Env)(h:Heap)(m:Str->Option Oa)(x:Str)(u:Oa):Prop:=
 (env.kindOf x=some .local/\m x=some u)\/((env.kindOf x=some .cell\/env.kindOf x=some .free)/\∃c,env.cells.lookup x=some c/\h.IsCell c (some u))
def nY:Str:="most_kept" ++ ".<locals>." ++ "<lambda>"
def Tb (K:N6)(mg:Str->Option Oa)(H:Hp):Prop:=∀f o fd c oc vs P,mg "most_kept" =some (.ref f)->K.lookup f=some o->o.data= .func fd->fd.code= .ref c->K.lookup c=some oc->oc.data= .fields vs->vs[11]? =some (.ref P)->H P=some (.tbl nY)
structure Cx.Ok (X:Cx):Prop where
 mod:Mod X.K X.mg X.base
 kind:X.env.scope.kind= .function
 glob:X.env.globals=OL
 blt:X.env.builtins=Sa
 above:X.s₀.heap.objs.size<=X.env.locals
 inj:∀x y c,X.env.cells.lookup x=some c->X.env.cells.lookup y=some c->x=y
 has:∀x,(X.env.kindOf x=some .cell\/X.env.kindOf x=some .free)->∃c,X.env.cells.lookup x=some c
 cab:∀x c,X.fn x=true->X.env.cells.lookup x=some c->X.s₀.heap.objs.size<=c
 hd:X.calm=true->X.A.handled=none
 frames:X.A.frames=some X.stack
 stk:X.stack=X.outer\/(X.stack=X.env::X.outer/\X.env.frame=some X.env.locals)
 exf:∀b∈X.ex,b≠X.env.locals/\∀x c,X.env.cells.lookup x=some c->c≠b
 bs:∀b o,X.base.get? b=some o->X.s₀.heap.get? b=some o/\X.H₀ b=none
 bsz:X.base.objs.size<=X.s₀.heap.objs.size
 noex:∀b o,X.base.get? b=some o->b∉X.ex
 exfs:∀b∈X.ex,b∉X.fs
 funs:X.s₀.heap.FunFrames X.base X.outer
 frf:∀b∈X.fs,X.H₀ b=none
 tb:Tb X.K X.mg X.H₀
structure Inv (X:Cx)(pins:List (Addr×Obj))(σ:List (Option V))(H:Hp)(s:Od):Prop where
 ok:X.Ok
 os:s.os=X.s₀.os
 bare:Rk s.gens
 base:Un X.fs X.ex X.H₀ H X.s₀.heap s.heap
 loc:∃m,s.heap.Ns X.env.locals m/\∀(i:Nat) (x:Str) (v:V),X.N[i]? =some x->σ[i]? =some (some v)->uY X.env.scope x->∃u,RelV v u/\Look X.env s.heap m x u
 cell:∀x c,X.env.cells.lookup x=some c->∃v,s.heap.IsCell c v
 free:H X.env.locals=none
 freeC:∀x c,X.env.cells.lookup x=some c->H c=none
 pin:∀p∈X.pn++pins,s.heap.get? p.1=some p.2/\H p.1=none/\p.1≠X.env.locals/\p.1∉X.fs/\∀v,p.2.data≠ .cell v
 hok:HOk X.prog X.w H s.heap
 len:σ.length=X.N.length
section
variable {X:Cx}{pins:List (Addr×Obj)}{σ:List (Option V)}{H H':Hp}{s:Od}{h':Heap}
theorem Cx.Ok.N4 (ok:X.Ok){b:Addr}{o:Obj}(e:X.base.get? b=some o):b∉X.fs:=λhb=>by
 have:=(ok.funs.mem hb).1;rw[e]at this;cases this
theorem Inv.bs (I:Inv X pins σ H s):∀b o,X.base.get? b=some o->s.heap.get? b=some o/\H b=none:=λb o e=>
 ⟨I.base.keep b o (I.ok.bs b o e).1 (I.ok.bs b o e).2 (I.ok.N4 e) (I.ok.noex b o e),I.base.free b o (I.ok.bs b o e).1 (I.ok.bs b o e).2 (I.ok.noex b o e)⟩
theorem Inv.bk (I:Inv X pins σ H s):∀b o,X.base.get? b=some o->s.heap.get? b=some o:=λb o e=>(I.bs b o e).1
theorem Inv.mod (I:Inv X pins σ H s):Mod X.K X.mg X.base:=I.ok.mod
theorem Inv.tb (I:Inv X pins σ H s):Tb X.K X.mg H:=λf o fd c oc vs P a1 a2 a3 a4 a5 a6 a7=>I.base.tbls P _ (I.ok.tb f o fd c oc vs P a1 a2 a3 a4 a5 a6 a7)
theorem Inv.kIn (I:Inv X pins σ H s):X.K.In s.heap:=I.ok.mod.kin.keeps I.bk
theorem Inv.lt (I:Inv X pins σ H s):X.env.locals<s.heap.objs.size:=let ⟨_,hn,_⟩:=I.loc;hn.lt
theorem Inv.sz (I:Inv X pins σ H s):X.s₀.heap.objs.size<=s.heap.objs.size:=OI I.ok.above (Qb I.lt)
theorem Inv.N3 (I:Inv X pins σ H s){a:Addr}(h:s.heap.objs.size<=a):a∉X.fs:=λhb=>by
 obtain⟨_,o,ho,_⟩:=I.ok.funs.mem hb;exact absurd (Os (Ou ho) (OI I.sz h)) (O9 _)
theorem Inv.cne (I:Inv X pins σ H s):∀x c,X.env.cells.lookup x=some c->c≠X.env.locals:=λx c e z=>by
 obtain⟨v,o,ho,hd⟩:=I.cell x c e;obtain⟨m,⟨o',es,ep,ho',hd',_⟩,_⟩:=I.loc;rw[z,ho']at ho;cases ho;rw[hd']at hd;cases hd
theorem Inv.funs (I:Inv X pins σ H s):s.heap.FunFrames X.base X.outer:=by
 have all:∀(l:List Env),(∀b∈kF l,b∈X.fs)->X.s₀.heap.FunFrames X.base l->s.heap.FunFrames X.base l:=by
  intro l
  induction l with
  | nil=>intro _ _;trivial
  | cons env r ih=>
   intro hs hl;obtain⟨hk,⟨L,o,hf,hn,ho,hd⟩,hr⟩:=hl
   have hL:L∈X.fs:=hs L (by unfold kF;rw[P8,hf];exact Oe)
   obtain⟨sl,e⟩:=I.base.slot L o ho (I.ok.frf L hL) hL λz=>I.ok.exfs L z hL
   exact⟨hk,⟨L,_,hf,hn,e,hd⟩,ih (λb hb=>hs b (by unfold kF;rw[P8,hf];exact N8 _ hb)) hr⟩
 exact all X.outer (λ_ hb=>hb) I.ok.funs
theorem Inv.stack (I:Inv X pins σ H s):s.heap.FunFrames X.base X.stack:=by
 rcases I.ok.stk with e | ⟨e,hf⟩
 ·rw[e];exact I.funs
 ·rw[e]
  obtain⟨m,hn,_⟩:=I.loc;refine .cons (by rw[I.ok.kind];decide) hf hn ?_ I.funs
  exact Heap.get?_none_of_le (OI I.ok.bsz I.ok.above)
theorem Inv.Nj (I:Inv X pins σ H s):∀b∈kF X.stack,b∈X.env.locals::X.fs:=λb hb=>by
 rcases I.ok.stk with e | ⟨e,hf⟩
 ·rw[e]at hb;exact N8 _ hb
 ·rw[e]at hb
  unfold kF at hb;rw[P8,hf]at hb;exact hb
theorem Inv.GT (I:Inv X pins σ H s):∀b∈kF X.stack,H b=none:=λb hb=>by
 rcases Og.mp (I.Nj b hb)with e | hb
 ·rw[e];exact I.free
 ·obtain⟨_,o,ho,_⟩:=I.ok.funs.mem hb
  exact I.base.free b o ho (I.ok.frf b hb) λz=>I.ok.exfs b z hb
theorem Inv.step {g':Array VL}{t':Nat}{d':Drawn}{ch:List Addr}(I:Inv X pins σ H s)
  (hch:∀b∈ch,(b∈X.ex\/X.s₀.heap.objs.size<=b)/\b≠X.env.locals/\(∀x c,X.env.cells.lookup x=some c->c≠b)/\∀p∈X.pn++pins,p.1≠b)
  (keep:∀b o,b≠X.env.locals->b∉X.fs->b∉ch->s.heap.get? b=some o->H b=none->h'.get? b=some o)
  (slot:∀b o,b≠X.env.locals->b∈X.fs->b∉ch->s.heap.get? b=some o->H b=none->∃sl,h'.get? b=some { o with slots:=sl }) (free:∀b o,b∉ch->s.heap.get? b=some o->H b=none->H' b=none)
  (there:∀b o,b∉ch->s.heap.get? b=some o->∃o',h'.get? b=some o')
  (tups:∀b xs,H b=some (.tup xs)->H' b=some (.tup xs)) (frzs:∀b o u,H b=some (.frz o u)->H' b=some (.frz o u)) (tbls:∀b ps,H b=some (.tbl ps)->H' b=some (.tbl ps))
  (ns:∀m,s.heap.Ns X.env.locals m->h'.Ns X.env.locals m) (hok:HOk X.prog X.w H' h') (hg:Rk g') :
  Inv X pins σ H' { s with heap:=h',gens:=g',drawn:=d',toks:=t' }:=by
 have neL:∀b o,X.s₀.heap.get? b=some o->b≠X.env.locals:=λb o e=>O7 (Os (Ou e) I.ok.above)
 have neC:∀b o,X.s₀.heap.get? b=some o->b∉X.ex->b∉ch:=λb o e hx hb=>by
  rcases(hch b hb).1 with z | z
  ·exact hx z
  ·exact absurd (Os (Ou e) z) (O9 _)
 have cellK:∀x c,X.env.cells.lookup x=some c->∀v,s.heap.IsCell c v->h'.IsCell c v:=λx c e v hh_=>by
  obtain⟨o,ho,hd⟩:=hh_
  have nch:c∉ch:=λz=>(hch c z).2.2.1 x c e rfl
  by_cases hc:c∈X.fs
  ·obtain⟨sl,q⟩:=slot c o (I.cne x c e) hc nch ho (I.freeC x c e)
   exact⟨_,q,hd⟩
  ·exact⟨o,keep c o (I.cne x c e) hc nch ho (I.freeC x c e),hd⟩
 refine⟨I.ok,I.os,hg,⟨λb o e n hb hx=> ?_,λb o e n hb hx=> ?_,λb o e n hx=> ?_,λb o e hx=> ?_,λb xs e=>tups b xs (I.base.tups b xs e),λb o xs e=>frzs b o xs (I.base.frzs b o xs e),λb ps e=> ?_⟩,?_,λx c e=> ?_,?_,λx c e=> ?_,λp hp=> ?_,hok,I.len⟩
 ·exact keep b o (neL b o e) hb (neC b o e hx) (I.base.keep b o e n hb hx) (I.base.free b o e n hx)
 ·obtain⟨sl,e1⟩:=I.base.slot b o e n hb hx
  obtain⟨sl',e2⟩:=slot b _ (neL b o e) hb (neC b o e hx) e1 (I.base.free b o e n hx);exact⟨sl',e2⟩
 ·obtain⟨o',e1⟩:=I.base.there b o e hx
  exact free b o' (neC b o e hx) e1 (I.base.free b o e n hx)
 ·obtain⟨o',e1⟩:=I.base.there b o e hx
  exact there b o' (neC b o e hx) e1
 ·exact tbls b _ (I.base.tbls b ps e)
 ·obtain⟨m,hn,hl⟩:=I.loc
  refine⟨m,ns m hn,λi x v e1 e2 e3=> ?_⟩
  obtain⟨u,r,l⟩:=hl i x v e1 e2 e3;refine⟨u,r,?_⟩
  rcases l with l | ⟨k,c,e,z⟩
  ·exact .inl l
  ·exact .inr ⟨k,c,e,cellK x c e _ z⟩
 ·obtain⟨v,z⟩:=I.cell x c e
  exact⟨v,cellK x c e v z⟩
 ·obtain⟨m,⟨o,_,_,ho,_⟩,_⟩:=I.loc
  exact free _ o (λz=>(hch _ z).2.1 rfl) ho I.free
 ·obtain⟨v,o,ho,hd⟩:=I.cell x c e
  exact free c o (λz=>(hch c z).2.2.1 x c e rfl) ho (I.freeC x c e)
 ·obtain⟨e,n,ne,nf,d⟩:=I.pin p hp
  have nch:p.1∉ch:=λz=>(hch p.1 z).2.2.2 p hp rfl
  exact⟨keep p.1 p.2 ne nf nch e n,free p.1 p.2 nch e n,ne,nf,d⟩
theorem Inv.un {t':Nat}(I:Inv X pins σ H s)(u:Un X.fs [] H H' s.heap h')(hok:HOk X.prog X.w H' h'):Inv X pins σ H' { s with heap:=h',toks:=t' }:=by
 obtain⟨m,⟨o,es,ep,ho,r⟩,_⟩:=id I.loc;obtain⟨sl,hL⟩:=u.any ho I.free (by simp)
 exact I.step (g':=s.gens) (d':=s.drawn) (ch:=[]) (λ_ z=>nomatch z) (λb o _ hb _ e n=>u.keep b o e n hb (by simp)) (λb o _ hb _ e n=>u.slot b o e n hb (by simp)) (λb o _ e n=>u.free b o e n (by simp)) (λb o _ e=>u.there b o e (by simp)) u.tups u.frzs u.tbls (λm' hm=>by
  obtain⟨o',es',ep',ho',r'⟩:=hm;rw[ho]at ho';cases ho';exact⟨_,es',ep',hL,r'⟩) hok I.bare
theorem Inv.call {g':Array VL}{t':Nat}{d':Drawn}{ch:List Addr}(I:Inv X pins σ H s)(u:Un (kF X.stack) ch H H' s.heap h')(hok:HOk X.prog X.w H' h')(hg:Rk g')
  (hch:∀b∈ch,(b∈X.ex\/X.s₀.heap.objs.size<=b)/\b≠X.env.locals/\(∀x c,X.env.cells.lookup x=some c->c≠b)/\∀p∈X.pn++pins,p.1≠b) :
  Inv X pins σ H' { s with heap:=h',gens:=g',drawn:=d',toks:=t' }:=by
 obtain⟨m,⟨o,es,ep,ho,r⟩,_⟩:=id I.loc;obtain⟨sl,hL⟩:=u.any ho I.free λz=>(hch _ z).2.1 rfl
 exact I.step (ch:=ch) hch (λb o hL hb hc e n=>u.keep b o e n (λz=>(Og.mp (I.Nj b z)).elim hL hb) hc) (λb o _ _ hc e n=>u.any e n hc) (λb o hc e n=>u.free b o e n hc) (λb o hc e=>u.there b o e hc) u.tups u.frzs u.tbls (λm' hm=>by
  obtain⟨o',es',ep',ho',r'⟩:=hm;rw[ho]at ho';cases ho';exact⟨_,es',ep',hL,r'⟩) hok hg
theorem Inv.turned {t':Nat}{it:Addr}(I:Inv X pins σ H s)(k:∀b o,b≠it->s.heap.get? b=some o->h'.get? b=some o)(hn:H it=none)(hL:it≠X.env.locals)
  (h1:it∈X.ex\/X.s₀.heap.objs.size<=it) (h2:∀x c,X.env.cells.lookup x=some c->c≠it) (h3:∀p∈X.pn++pins,p.1≠it):Inv X pins σ H { s with heap:=h',toks:=t' }:=by
 have nit:∀b u,H b=some u->b≠it:=λb u e z=>by rw[z,hn]at e;cases e
 refine I.step (g':=s.gens) (d':=s.drawn) (ch:=[it]) (λb hb=> ?_) (λb o _ _ hc e _=>k b o (λz=>hc (by simp[z])) e) (λb o _ _ hc e _=>⟨o.slots,k b o (λz=>hc (by simp[z])) e⟩) (λ_ _ _ _ n=>n)
  (λb o hc e=>⟨o,k b o (λz=>hc (by simp[z])) e⟩) (λ_ _ e=>e) (λ_ _ _ e=>e) (λb ps e=>(by rw[e])) (λm hm=> ?_) (λb u e=> ?_) I.bare
 ·have e:b=it:=by simpa using hb
  subst e;exact⟨h1,hL,h2,h3⟩
 ·obtain⟨o,es,ep,ho,r⟩:=hm
  exact⟨o,es,ep,k _ o (PM hL) ho,r⟩
 ·refine(I.hok b u e).M5 (λc v hc q=>k c v ?_ q) (λ_ q=>q) λ_ _ q=>q
  rcases hc with z | z
  ·rw[z];exact nit b u e
  ·exact nit c _ z
theorem Inv.tok (I:Inv X pins σ H s)(t:Nat):Inv X pins σ H { s with toks:=t }:=I.un (h':=s.heap) (t':=t) Un.refl I.hok
theorem Inv.kept {t':Nat}(I:Inv X pins σ H s)(k:∀b u,s.heap.get? b=some u->h'.get? b=some u):Inv X pins σ H { s with heap:=h',toks:=t' }:=I.un (Un.kept k) (I.hok.kept k)
theorem Inv.laid {a:Addr}{o:HO}{t':Nat}(I:Inv X pins σ H s)(k:∀b u,s.heap.get? b=some u->h'.get? b=some u)(hp:s.heap.objs.size<=a)(new:ObjOk X.prog X.w (upd H a o) h' a o) :
  Inv X pins σ (upd H a o) { s with heap:=h',toks:=t' }:=I.un (Un.laid k hp (I.hok.fresh hp)) (I.hok.laid k hp new)
theorem Inv.write {x e:Addr}{o:HO}{t':Nat}(I:Inv X pins σ H s)(mu:MG (H x))(he:e=x\/H e=some (.own x))(k:∀b u,b≠e->s.heap.get? b=some u->h'.get? b=some u)(heo:∃u,h'.get? e=some u)
  (new:ObjOk X.prog X.w (upd H x o) h' x o):Inv X pins σ (upd H x o) { s with heap:=h',toks:=t' }:=I.un (Un.write mu he k heo) (I.hok.write mu he k heo new)
theorem Inv.Nn {pins':List (Addr×Obj)}(I:Inv X pins σ H s)(h:∀p∈pins',s.heap.get? p.1=some p.2/\H p.1=none/\p.1≠X.env.locals/\p.1∉X.fs/\∀v,p.2.data≠ .cell v):Inv X pins' σ H s:=
 ⟨I.ok,I.os,I.bare,I.base,I.loc,I.cell,I.free,I.freeC,λp hp=>(OR.mp hp).elim (λz=>I.pin p (O8 _ z)) (h p),I.hok,I.len⟩
theorem we {N:List Str}(hN:N.Nodup){i j:Nat}{x:Str}(a:N[i]? =some x)(b:N[j]? =some x):i=j:=by
 obtain⟨h1,e1⟩:=Oi.mp a
 obtain⟨h2,e2⟩:=Oi.mp b
 exact(List.getElem_inj hN).mp (e1.trans e2.symm)
theorem rJ {M:Xh}{A:OV}{E:Oa->Od->Prop}{i:Nat}{x:Str}{v:V}{u:Oa}{Q:Unit->Od->Prop}(I:Inv X pins σ H s)(hN:X.N.Nodup)(hi:X.N[i]? =some x)(hx:Loc X.env.scope x)(r:RelV v u)
  (h:∀s',Inv X pins (σ.set i (some v)) H s'->(∃a,SH a s.heap s'.heap/\(a=X.env.locals\/X.env.cells.lookup x=some a))->Q () s') (hf:autoParam (X.fn x=true\/X.env.scope.names.lookup x=some .local) r_):wpAny M A (storeName X.env x u) Q E s:=by
 obtain⟨m,hn,hl⟩:=id I.loc
 have hcls:(X.env.scope.kind == .class||(X.env.scope.kind == .module&&X.env.locals != X.env.globals))=false:=by rw[I.ok.kind];rfl
 have hiσ:i<σ.length:=by rw[I.len];exact(Oi.mp hi).1
 have cne:=I.cne
 have tracked:∀{a:Addr} {h':Heap},(∃o,s.heap.get? a=some o/\H a=none)->SH a s.heap h'->HOk X.prog X.w H h':=λ{a h'} ha hs b ob e=>by
  obtain⟨_,_,hfree⟩:=ha;refine(I.hok b ob e).M5 (λc w' hc q=>(hs.2 c ?_).trans q) (λ_ q=>q) λ_ _ q=>q
  rintro rfl
  rcases hc with rfl | hc
  ·rw[hfree]at e;cases e
  ·rw[hfree]at hc;cases hc
 rcases hx with hk | hk
 ·refine wpAny_storeName_local hk hn (λh' hn' hs=> ?_) hcls
  obtain⟨oL,_,_,hoL,_⟩:=id hn;refine h _ ⟨I.ok,I.os,I.bare,⟨λb o e n hb hx=> ?_,λb o e n hb hx=> ?_,I.base.free,λb o e hx=> ?_,I.base.tups,I.base.frzs,I.base.tbls⟩,⟨_,hn',λj y v' e1 e2 e3=> ?_⟩,λy c e=> ?_,I.free,I.freeC,λp hp=> ?_,tracked ⟨oL,hoL,I.free⟩ hs,by simpa using I.len⟩ ⟨_,hs,.inl rfl⟩
  ·exact(hs.2 b (O7 (Os (Ou e) I.ok.above))).trans (I.base.keep b o e n hb hx)
  ·obtain⟨sl,e1⟩:=I.base.slot b o e n hb hx
   exact⟨sl,(hs.2 b (O7 (Os (Ou e) I.ok.above))).trans e1⟩
  ·obtain⟨o',e1⟩:=I.base.there b o e hx
   exact⟨o',(hs.2 b (O7 (Os (Ou e) I.ok.above))).trans e1⟩
  ·by_cases hj:j=i
   ·subst hj
    rw[hi]at e1;cases e1;rw[OW hiσ]at e2
    cases e2;exact⟨u,r,.inl ⟨hk,by simp⟩⟩
   ·rw[O4 (PM hj)]at e2
    obtain⟨u',r',q⟩:=hl j y v' e1 e2 e3;refine⟨u',r',?_⟩
    rcases q with⟨k,e⟩ | ⟨k,c,e,z⟩
    ·refine .inl ⟨k,?_⟩
     have:y≠x:=λe=>hj (we hN e1 (e▸hi))
     simp[this,e]
    ·exact .inr ⟨k,c,e,z.sameBut hs (cne y c e)⟩
  ·obtain⟨w',z⟩:=I.cell y c e
   exact⟨w',z.sameBut hs (cne y c e)⟩
  ·obtain⟨e,n,ne,nf,d⟩:=I.pin p hp
   exact⟨(hs.2 p.1 ne).trans e,n,ne,nf,d⟩
 ·have hfn:X.fn x=true:=by
   rcases hf with z | z
   ·exact z
   ·rw[z]at hk;cases hk
  obtain⟨c,hc⟩:=I.ok.has x (.inl hk);obtain⟨w',z⟩:=I.cell x c hc;refine wpAny_storeName_cell I.ok.kind hk hc z (λh' hc' hs=> ?_)
  obtain⟨oc,hoc,hocd⟩:=id z;refine h { s with heap:=h' } ⟨I.ok,I.os,I.bare,⟨λb o e n hb hx=> ?_,λb o e n hb hx=> ?_,I.base.free,λb o e hx=> ?_,I.base.tups,I.base.frzs,I.base.tbls⟩,⟨m,hn.sameBut hs (PM (cne x c hc)),λj y v' e1 e2 e3=> ?_⟩,λy c' e=> ?_,I.free,I.freeC,λp hp=> ?_,tracked ⟨oc,hoc,I.freeC x c hc⟩ hs,by simpa using I.len⟩ ⟨c,hs,.inr hc⟩
  ·exact(hs.2 b (O7 (Os (Ou e) (I.ok.cab x c hfn hc)))).trans (I.base.keep b o e n hb hx)
  ·obtain⟨sl,e1⟩:=I.base.slot b o e n hb hx
   exact⟨sl,(hs.2 b (O7 (Os (Ou e) (I.ok.cab x c hfn hc)))).trans e1⟩
  ·obtain⟨o',e1⟩:=I.base.there b o e hx
   exact⟨o',(hs.2 b (O7 (Os (Ou e) (I.ok.cab x c hfn hc)))).trans e1⟩
  ·by_cases hj:j=i
   ·subst hj
    rw[hi]at e1;cases e1;rw[OW hiσ]at e2
    cases e2;exact⟨u,r,.inr ⟨.inl hk,c,hc,hc'⟩⟩
   ·rw[O4 (PM hj)]at e2
    obtain⟨u',r',q⟩:=hl j y v' e1 e2 e3;refine⟨u',r',?_⟩
    rcases q with q | ⟨k,c',e,z'⟩
    ·exact .inl q
    ·refine .inr ⟨k,c',e,z'.sameBut hs ?_⟩
     rintro rfl
     exact hj (we hN e1 (I.ok.inj _ _ _ e hc▸hi))
  ·by_cases hcc:c'=c
   ·subst hcc;exact⟨_,hc'⟩
   ·obtain⟨w2,z2⟩:=I.cell y c' e
    exact⟨w2,z2.sameBut hs hcc⟩
  ·obtain⟨e,n,ne,nf,d⟩:=I.pin p hp
   refine⟨(hs.2 p.1 ?_).trans e,n,ne,nf,d⟩
   intro q;rw[q,hoc]at e
   have q':oc=p.2:=OP e;exact d w' (by rw[<-q'];exact hocd)
theorem lI {M:Xh}{A:OV}{E:Oa->Od->Prop}{i:Nat}{x:Str}{v:V}{u:Oa}{Q:Unit->Od->Prop}(I:Inv X pins σ H s)(hN:X.N.Nodup)(hi:X.N[i]? =some x)(hx:Loc X.env.scope x)(r:RelV v u)
  (h:∀s',Inv X pins (σ.set i (some v)) H s'->Q () s') (hf:autoParam (X.fn x=true\/X.env.scope.names.lookup x=some .local) r_):wpAny M A (storeName X.env x u) Q E s:=
 rJ I hN hi hx r (λs' I' _=>h s' I') hf
theorem Inv.Nu {s':Od}{ch:List Addr}(I:Inv X pins σ H s)(ho:s'.os=s.os)(u:Un (kF X.stack) ch H H' s.heap s'.heap)(hok:HOk X.prog X.w H' s'.heap)(hg:Rk s'.gens)
  (hch:∀b∈ch,(b∈X.ex\/X.s₀.heap.objs.size<=b)/\b≠X.env.locals/\(∀x c,X.env.cells.lookup x=some c->c≠b)/\∀p∈X.pn++pins,p.1≠b):Inv X pins σ H' s':=by
 obtain⟨h',g',d',t',o'⟩:=s'
 have e:o'=s.os:=ho;subst e;exact I.call (g':=g') (t':=t') (d':=d') u hok hg hch
end
abbrev XK:=Oa->Option Addr->Hp->Prop
abbrev St:=List (Option V)
abbrev VK:=V->Hp->Prop
abbrev TE:=St->Hp->VK->Prop
abbrev TT:=St->Hp->(Bool->Hp->Prop)->Prop
abbrev TA:=St->Hp->(List V->Hp->Prop)->Prop
structure u6 where
 nx:St->Hp->Prop
 rt:VK
 bk:St->Hp->Prop:=λ_ _=>False
 ct:St->Hp->Prop:=λ_ _=>False
abbrev TS:=u6->St->Hp->Prop
def EP (X:Cx)(pins:List (Addr×Obj))(σ:St)(Q:VK)(u:Oa)(s':Od):Prop:=∃v H',Inv X pins σ H' s'/\RelV v u/\Q v H'
def TP (X:Cx)(pins:List (Addr×Obj))(σ:St)(Q:Bool->Hp->Prop)(b:Bool)(s':Od):Prop:=∃H',Inv X pins σ H' s'/\Q b H'
def AP (X:Cx)(pins:List (Addr×Obj))(σ:St)(Q:List V->Hp->Prop)(us:List Oa)(s':Od):Prop:=∃vs H',Inv X pins σ H' s'/\Vals vs us/\Q vs H'
def SP (X:Cx)(pins:List (Addr×Obj))(D:u6)(f:Flow)(s':Od):Prop:=
 match f with
 | .next=> ∃σ' H',Inv X pins σ' H' s'/\D.nx σ' H'
 | .brk=> ∃σ' H',Inv X pins σ' H' s'/\D.bk σ' H'
 | .cont=> ∃σ' H',Inv X pins σ' H' s'/\D.ct σ' H'
 | .ret u=> ∃v σ' H',Inv X pins σ' H' s'/\RelV v u/\D.rt v H'
def PE (X:Cx)(e:Expr)(t:TE):Prop:=
 ∀(pins:List (Addr×Obj)) (s:Od) (σ:St) (H:Hp) (Q:VK),Inv X pins σ H s->t σ H Q->wpAny (model X.prog X.w) X.A (eval e X.env) (EP X pins σ Q) X.xe s
def PT (X:Cx)(e:Expr)(t:TT):Prop:=
 ∀(pins:List (Addr×Obj)) (s:Od) (σ:St) (H:Hp) (Q:Bool->Hp->Prop),Inv X pins σ H s->t σ H Q->wpAny (model X.prog X.w) X.A (isTrue e X.env (eval e X.env)) (TP X pins σ Q) X.xe s
def PW (X:Cx)(e:Expr)(t:TT):Prop:=
 ∀(whole:Sem Oa) (pins:List (Addr×Obj)) (s:Od) (σ:St) (H:Hp) (Q:Bool->Hp->Prop),Inv X pins σ H s->t σ H Q->wpAny (model X.prog X.w) X.A (isTrue e X.env whole) (TP X pins σ Q) X.xe s
theorem PW.pt {X:Cx}{e:Expr}{t:TT}(h:PW X e t):PT X e t:=h _
def PA (X:Cx)(es:List Expr)(t:TA):Prop:=
 ∀(pos:Pos) (pins:List (Addr×Obj)) (s:Od) (σ:St) (H:Hp) (Q:List V->Hp->Prop),Inv X pins σ H s->t σ H Q->wpAny (model X.prog X.w) X.A (spliced (backTo pos (Oy es X.env))) (AP X pins σ Q) X.xe s
def PS (X:Cx)(st:Stmt)(t:TS):Prop:=
 ∀(pins:List (Addr×Obj)) (s:Od) (σ:St) (H:Hp) (D:u6),Inv X pins σ H s->t D σ H->wpAny (model X.prog X.w) X.A (exec st X.env) (SP X pins D) X.xe s
def PSs (X:Cx)(st:List Stmt)(t:TS):Prop:=
 ∀(pins:List (Addr×Obj)) (s:Od) (σ:St) (H:Hp) (D:u6),Inv X pins σ H s->t D σ H->wpAny (model X.prog X.w) X.A (execs st X.env) (SP X pins D) X.xe s
theorem cL {α:Type}{t:Sem α}{Q Q':α->Od->Prop}{M:Xh}{A:OV}{E:Oa->Od->Prop}{s:Od}(h:wpAny M A t Q E s)(hQ:∀a s,Q a s->Q' a s):wpAny M A t Q' E s:=Qo h hQ λ_ _ x=>x
section
variable {X:Cx}
def oV (i:Nat):TE:=λσ H Q=> ∃v,σ[i]? =some (some v)/\Q v H
def tC (v:V):TE:=λ_ H Q=>Q v H
theorem i8 {i:Nat}{x:Str}{pos:Pos}(hN:X.N[i]? =some x)(hv:uY X.env.scope x)(hd:autoParam ((x == ("__debug__" : Str))=false) s_)(hcd:autoParam ((x == ("__classdict__" : Str))=false) s_):PE X (.Name x pos) (oV i):=by
 intro pins s σ H Q I h;obtain⟨v,e,h⟩:=h;obtain⟨m,hn,hl⟩:=I.loc;obtain⟨u,r,l⟩:=hl i x v hN e hv
 have fin:EP X pins σ Q u s:=⟨v,H,I,r,h⟩;rcases l with⟨hk,hm⟩ | ⟨hk,c,hc,hcell⟩
 ·exact wpAny_Name (U9 I.ok.kind hk hn hm fin) hd
 ·rcases hk with hk | hk
  ·exact wpAny_Name (Vn I.ok.kind hk hc hcell fin) hd
  ·exact wpAny_Name (wpAny_loadName_free I.ok.kind hk hc hcell fin hcd) hd
theorem xZ {i j pos}:PE X (.Constant (.int i) j pos) (tC (.int i)):=λ_ _ _ H _ I h=>wpAny_Constant_int ⟨.int i,H,I.tok _,⟨_,rfl⟩,h⟩
theorem CT {b j pos}:PE X (.Constant (.bool b) j pos) (tC (.bl b)):=λ_ _ _ H _ I h=>Constant_bool ⟨.bl b,H,I,rfl,h⟩
theorem CN {j pos}:PE X (.Constant .none j pos) (tC .non):=λ_ _ _ H _ I h=>Constant_none ⟨.non,H,I,rfl,h⟩
theorem CL {x j pos}:PE X (.Constant (.str x) j pos) (tC (.str x)):=λ_ _ _ H _ I h=>Vu ⟨.str x,H,I.tok _,⟨_,rfl⟩,h⟩
def Gl (X:Cx)(x:Str):Prop:=X.env.kindOf x=some .globalImplicit
theorem jd {E:Oa->Od->Prop}{pins:List (Addr×Obj)}{s:Od}{σ:St}{H:Hp}{x:Str}{u:Oa}{pos:Pos}{Q:Oa->Od->Prop}(I:Inv X pins σ H s)(hg:Gl X x)(hm:X.mg x=some u)(h:Q u s)
  (hd:autoParam ((x == ("__debug__" : Str))=false) s_):wpAny (model X.prog X.w) X.A (eval (.Name x pos) X.env) Q E s:=
 Tj I.ok.kind hg (Calls.loadGlobal_global (by rw[I.ok.glob];exact I.mod.glob.keeps I.bk) hm h) hd
theorem fg {E:Oa->Od->Prop}{pins:List (Addr×Obj)}{s:Od}{σ:St}{H:Hp}{x:Str}{u:Oa}{pos:Pos}{Q:Oa->Od->Prop}(I:Inv X pins σ H s)(hg:Gl X x)(hm:X.mg x=none)(hv:Pb x=some u)(h:Q u s)
  (hn:autoParam (x≠ "__name__") s_) (hd:autoParam ((x == ("__debug__" : Str))=false) s_):wpAny (model X.prog X.w) X.A (eval (.Name x pos) X.env) Q E s:=by
 obtain⟨mb,h1,h2⟩:=I.mod.blt;exact Tj I.ok.kind hg (Calls.loadGlobal_builtin (by rw[I.ok.glob];exact I.mod.glob.keeps I.bk) hm (by rw[I.ok.blt];exact h1.keeps I.bk) ((h2 x hn).trans hv) h) hd
theorem tW {x:Str}{v:V}{u:Oa}{pos:Pos}(hg:Gl X x)(hm:X.mg x=some u)(r:RelV v u)(hd:autoParam ((x == ("__debug__" : Str))=false) s_):PE X (.Name x pos) (tC v):=
 λ_ _ _ H _ I h=>jd I hg hm ⟨v,H,I,r,h⟩ hd
theorem zB {x:Str}{v:V}{u:Oa}{pos:Pos}(hg:Gl X x)(hm:X.mg x=none)(hv:Pb x=some u)(r:RelV v u)(hn:autoParam (x≠ "__name__") s_)(hd:autoParam ((x == ("__debug__" : Str))=false) s_):PE X (.Name x pos) (tC v):=
 λ_ _ _ H _ I h=>fg I hg hm hv ⟨v,H,I,r,h⟩ hn hd
variable {a b:Expr}{ta tb:TE}{pos:Pos}
def tB (t:TE):TT:=λσ H Q=>t σ H λx H1=> ∃c,x= .bl c/\Q c H1
theorem CB {e:Expr}{t:TE}(h:PE X e t)(he:autoParam (∀whole,isTrue e X.env whole=(do let v <-whole;standAt e.pos;holding [v] (truthy v))) t_):PT X e (tB t):=by
 intro pins s σ H Q I hw;refine isTrue_plain (cL (h pins s σ H _ I hw) λv s1 ⟨x,H1,I1,r1,q1⟩=> ?_) (he _)
 obtain⟨d,rfl,q⟩:=q1;cases r1;exact Pg ⟨H1,I1,q⟩
variable {tA tB':TT}{dv:List Expr}
def tAnd (t u:TT):TT:=λσ H Q=>t σ H λc H1=>if c=true then u σ H1 Q else Q false H1
def tOr (t u:TT):TT:=λσ H Q=>t σ H λc H1=>if c=true then Q true H1 else u σ H1 Q
def tNot (t:TT):TT:=λσ H Q=>t σ H λc H1=>Q (!c) H1
theorem FT (ha:PT X a tA):PW X (.BoolOp .And [a] pos) tA:=by
 intro wh pins s σ H Q I h;refine isTrue_and (cL (ha pins s σ H Q I h) λc s1 e=> ?_)
 cases c with
 | true=>exact isTrue_and_nil e
 | false=>exact e
theorem Cz (ha:PT X a tA):PW X (.BoolOp .Or [a] pos) tA:=by
 intro wh pins s σ H Q I h;refine isTrue_or (cL (ha pins s σ H Q I h) λc s1 e=> ?_)
 cases c with
 | false=>exact isTrue_or_nil e
 | true=>exact e
theorem Je (ha:PT X a tA)(hb:PW X (.BoolOp .And (b::dv) pos) tB'):PW X (.BoolOp .And (a::b::dv) pos) (tAnd tA tB'):=by
 intro wh pins s σ H Q I h;refine isTrue_and (cL (ha pins s σ H _ I h) λc s1 hh_=> ?_)
 obtain⟨H1,I1,q1⟩:=hh_
 cases c with
 | true=>exact hb wh pins s1 σ H1 Q I1 q1
 | false=>exact⟨H1,I1,q1⟩
theorem Ht (ha:PT X a tA)(hb:PW X (.BoolOp .Or (b::dv) pos) tB'):PW X (.BoolOp .Or (a::b::dv) pos) (tOr tA tB'):=by
 intro wh pins s σ H Q I h;refine isTrue_or (cL (ha pins s σ H _ I h) λc s1 hh_=> ?_)
 obtain⟨H1,I1,q1⟩:=hh_
 cases c with
 | true=>exact⟨H1,I1,q1⟩
 | false=>exact hb wh pins s1 σ H1 Q I1 q1
theorem CC (ha:PT X a tA):PT X (.UnaryOp .Not a pos) (tNot tA):=by
 intro pins s σ H Q I h;exact isTrue_not (ha pins s σ H (λc H1=>Q (!c) H1) I h)
def K3 (ta tb:TE):TE:=λσ H Q=>ta σ H λx H1=> ∃c,x= .bl c/\if c=true then tb σ H1 Q else Q (.bl false) H1
def tOrV (ta tb:TE):TE:=λσ H Q=>ta σ H λx H1=> ∃c,x= .bl c/\if c=true then Q (.bl true) H1 else tb σ H1 Q
def KW (ta:TE):TE:=λσ H Q=>ta σ H λx H1=> ∃c,x= .bl c/\Q (.bl (!c)) H1
theorem Jm {op}{t:TE}(h:PE X a t):PE X (.BoolOp op [a] pos) t:=λpins s σ H Q I hw=>BoolOp_one (h pins s σ H Q I hw)
theorem Jp (ha:PE X a ta)(hb:PE X (.BoolOp .And (b::dv) pos) tb):PE X (.BoolOp .And (a::b::dv) pos) (K3 ta tb):=by
 intro pins s σ H Q I h;refine BoolOp_and (cL (ha pins s σ H _ I h) λv s1 hh_=> ?_)
 obtain⟨x,H1,I1,r1,q1⟩:=hh_;obtain⟨c,rfl,q1⟩:=q1;cases r1;refine Pg ?_
 cases c with
 | true=>exact hb pins s1 σ H1 Q I1 q1
 | false=>exact⟨.bl false,H1,I1,rfl,q1⟩
theorem LC (ha:PE X a ta)(hb:PE X (.BoolOp .Or (b::dv) pos) tb):PE X (.BoolOp .Or (a::b::dv) pos) (tOrV ta tb):=by
 intro pins s σ H Q I h;refine BoolOp_or (cL (ha pins s σ H _ I h) λv s1 hh_=> ?_)
 obtain⟨x,H1,I1,r1,q1⟩:=hh_;obtain⟨c,rfl,q1⟩:=q1;cases r1;refine Pg ?_
 cases c with
 | false=>exact hb pins s1 σ H1 Q I1 q1
 | true=>exact⟨.bl true,H1,I1,rfl,q1⟩
theorem Jn (ha:PE X a ta):PE X (.UnaryOp .Not a pos) (KW ta):=by
 intro pins s σ H Q I h;refine UnaryOp_ (cL (ha pins s σ H _ I h) λv s1 hh_=> ?_)
 obtain⟨x,H1,I1,r1,q1⟩:=hh_;obtain⟨c,rfl,q1⟩:=q1;cases r1;exact not_of (Pg ⟨.bl (!c),H1,I1,rfl,q1⟩)
def tIf (t:TT)(ta tb:TE):TE:=λσ H Q=>t σ H λc H1=>if c=true then ta σ H1 Q else tb σ H1 Q
theorem CO {c:Expr}(hc:PT X c tA)(ha:PE X a ta)(hb:PE X b tb):PE X (.IfExp c a b pos) (tIf tA ta tb):=by
 intro pins s σ H Q I h;refine wpAny_IfExp (cL (hc pins s σ H _ I h) λd s1 hh_=> ?_)
 obtain⟨H1,I1,q1⟩:=hh_
 cases d with
 | true=>exact ha pins s1 σ H1 Q I1 q1
 | false=>exact hb pins s1 σ H1 Q I1 q1
end
def SqL (K:N6)(H:Hp)(a:Addr)(xs:List V):Prop:=
 Rd H a (.lst xs) ∨
  ∃(o:Obj) (its:Array Oa) (n:Nat),K.lookup a=some o/\o.cls= .type "list"/\o.dict=none/\o.data= .seq its n/\its.size<=sizeLine/\Vals xs its.toList
def SqT (K:N6)(H:Hp)(a:Addr)(xs:List V):Prop:=
 Rd H a (.tup xs) ∨
  ∃(o:Obj) (its:Array Oa) (n:Nat),K.lookup a=some o/\o.cls= .type "tuple"/\o.data= .seq its n/\its.size<=sizeLine/\Vals xs its.toList
def absV:Oa->Option V
 | .none=>some .non
 | .bool b=>some (.bl b)
 | .int i _=>some (.int i)
 | .str x _=>some (.str x)
 | .bytes b _=>some (.byt b)
 | .float b _=>some (.flt b)
 | .ref a=>some (.ref a)
 | .type n=>some (.ty n)
 | _=>none
theorem RelV.abs {x:V}{u:Oa}(r:RelV x u):absV u=some x:=by
 cases x with
 | non=>cases r;rfl
 | bl _=>cases r;rfl
 | int _=>obtain⟨t,rfl⟩:=r;rfl
 | str _=>obtain⟨t,rfl⟩:=r;rfl
 | byt _=>obtain⟨t,rfl⟩:=r;rfl
 | flt _=>obtain⟨t,rfl⟩:=r;rfl
 | ref _=>cases r;rfl
 | ty _=>cases r;rfl
theorem RelV.inj {x y:V}{u:Oa}(r:RelV x u)(q:RelV y u):x=y:=OP (r.abs.symm.trans q.abs)
theorem Vals.inj:∀{xs ys:List V} {us:List Oa},Vals xs us->Vals ys us->xs=ys
 | _,_,_,.nil,.nil=>rfl
 | _,_,_,.cons r t,.cons r' t'=>by rw[r.inj r',Vals.inj t t']
section
variable {X:Cx}{pins:List (Addr×Obj)}{σ:St}{H:Hp}{s:Od}{a:Addr}{xs ys:List V}
theorem SqL.of {K:N6}(h:H a=some (.lst xs)):SqL K H a xs:=.inl (.inl h)
theorem SqT.of {K:N6}(h:H a=some (.tup xs)):SqT K H a xs:=.inl (.inl h)
theorem Inv.list (I:Inv X pins σ H s)(h:SqL X.K H a xs):∃its:List Oa,Vals xs its/\PlainL s.heap a its.toArray/\xs.length<=sizeLine:=by
 rcases h with h | ⟨o,its,n,hk,hc,hd,hs,hz,r⟩
 ·obtain⟨z,its,n,r,e⟩:=h.ok I.hok
  exact⟨its,r,⟨_,n,e,rfl,rfl,rfl⟩,z⟩
 ·refine⟨its.toList,r,⟨o,n,I.kIn a o hk,hc,hd,by simpa using hs⟩,?_⟩
  have e:=r.length;simp only[PN]at e;omega
theorem Inv.tuple (I:Inv X pins σ H s)(h:SqT X.K H a xs):∃its:List Oa,Vals xs its/\Xv s.heap a its.toArray/\xs.length<=sizeLine:=by
 rcases h with h | ⟨o,its,n,hk,hc,hs,hz,r⟩
 ·obtain⟨z,its,r,p⟩:=h.ok I.hok
  exact⟨its,r,p,z⟩
 ·refine⟨its.toList,r,⟨o,I.kIn a o hk,hc,n,by simpa using hs⟩,?_⟩
  have e:=r.length;simp only[PN]at e;omega
theorem Inv.Nh (I:Inv X pins σ H s)(h:SqL X.K H a xs)(h':SqL X.K H a ys):xs=ys:=by
 obtain⟨its,r,⟨o,n,e,_,_,d⟩,_⟩:=I.list h;obtain⟨its',r',⟨o',n',e',_,_,d'⟩,_⟩:=I.list h';rw[e]at e';cases e';rw[d]at d';injection d' with d1 _
 have:its=its':=by simpa using congrArg UA d1
 subst this;exact r.inj r'
theorem Inv.Na (I:Inv X pins σ H s)(h:SqT X.K H a xs)(h':SqT X.K H a ys):xs=ys:=by
 obtain⟨its,r,⟨o,e,_,n,d⟩,_⟩:=I.tuple h;obtain⟨its',r',⟨o',e',_,n',d'⟩,_⟩:=I.tuple h';rw[e]at e';cases e';rw[d]at d';injection d' with d1 _
 have:its=its':=by simpa using congrArg UA d1
 subst this;exact r.inj r'
end
abbrev Cx.FB (X:Cx)(E:Oa->Od->Prop):Cx:={ X with xe:=E }
abbrev Cx.nox (X:Cx):Cx:=X.FB λ_ _=>False
theorem Cx.Ok.FB {X:Cx}(ok:X.Ok)(E:Oa->Od->Prop):(X.FB E).Ok:=
 ⟨ok.mod,ok.kind,ok.glob,ok.blt,ok.above,ok.inj,ok.has,ok.cab,ok.hd,ok.frames,ok.stk,ok.exf,ok.bs,ok.bsz,ok.noex,ok.exfs,ok.funs,ok.frf,ok.tb⟩
theorem Cx.Ok.KF {X:Cx}{E:Oa->Od->Prop}(ok:(X.FB E).Ok):X.Ok:=
 ⟨ok.mod,ok.kind,ok.glob,ok.blt,ok.above,ok.inj,ok.has,ok.cab,ok.hd,ok.frames,ok.stk,ok.exf,ok.bs,ok.bsz,ok.noex,ok.exfs,ok.funs,ok.frf,ok.tb⟩
section
variable {X:Cx}{pins:List (Addr×Obj)}{σ:St}{H:Hp}{s:Od}{E:Oa->Od->Prop}
theorem Inv.FB (I:Inv X pins σ H s)(E:Oa->Od->Prop):Inv (X.FB E) pins σ H s:=⟨I.ok.FB E,I.os,I.bare,I.base,I.loc,I.cell,I.free,I.freeC,I.pin,I.hok,I.len⟩
theorem Inv.KF (I:Inv (X.FB E) pins σ H s):Inv X pins σ H s:=⟨I.ok.KF,I.os,I.bare,I.base,I.loc,I.cell,I.free,I.freeC,I.pin,I.hok,I.len⟩
theorem SP.KF {D:u6}{f:Flow}{s':Od}(h:SP (X.FB E) pins D f s'):SP X pins D f s':=by
 cases f with
 | next=>obtain⟨σ',H',I,q⟩:=h;exact⟨σ',H',I.KF,q⟩
 | brk=>obtain⟨σ',H',I,q⟩:=h;exact⟨σ',H',I.KF,q⟩
 | cont=>obtain⟨σ',H',I,q⟩:=h;exact⟨σ',H',I.KF,q⟩
 | ret u=>obtain⟨v,σ',H',I,r,q⟩:=h;exact⟨v,σ',H',I.KF,r,q⟩
theorem PSs.nox {st:List Stmt}{t:TS}(h:PSs X.nox st t):PSs X st t:=λpins s σ H D I hw=>
 Qo (h pins s σ H D (I.FB _) hw) (λ_ _ q=>q.KF) λ_ _ z=>QP z
end
section
variable {X:Cx}{st:Stmt}{dv:List Stmt}{t u:TS}{e:Expr}{te:TE}{pos:Pos}
def KY:TS:=λD σ H=>D.nx σ H
def tSeq (t u:TS):TS:=λD σ H=>t { D with nx:=u D } σ H
theorem zp:PSs X [] KY:=λ_ _ σ H _ I h=>Sk ⟨σ,H,I,h⟩
theorem lQ (h1:PS X st t)(h2:PSs X dv u):PSs X (st::dv) (tSeq t u):=by
 intro pins s σ H D I h;refine WS (cL (h1 pins s σ H { D with nx:=u D } I h) λf s1 q=> ?_)
 cases f with
 | next=>
  obtain⟨σ',H',I',q⟩:=q
  exact h2 pins s1 σ' H' D I' q
 | ret v=>exact q
 | brk=>exact q
 | cont=>exact q
theorem gE (h1:PS X st t):PSs X [st] t:=by
 intro pins s σ H D I h;refine WS (cL (h1 pins s σ H D I h) λf s1 q=> ?_)
 cases f with
 | next=>exact Sk q
 | ret v=>exact q
 | brk=>exact q
 | cont=>exact q
def K2:TS:=λD σ H=>D.ct σ H
theorem vO:PS X (.Continue pos) K2:=λ_ _ σ H _ I h=>wpAny_Continue ⟨σ,H,I,h⟩
theorem Inv.quiet {pins:List (Addr×Obj)}{σ:St}{H:Hp}{s:Od}(I:Inv X pins σ H s):interactive X.env=false:=by simp[interactive,I.ok.kind]
def K0 (te:TE):TS:=λD σ H=>te σ H λ_ H1=>D.nx σ H1
theorem tS (he:PE X e te)(hs:P6 e none pos.line X.env=pure false:=by rfl):PS X (.Expr e pos) (K0 te):=by
 intro pins s σ H D I h;exact wpAny_Expr_any (cL (he pins s σ H _ I h) λv s1 ⟨x,H1,I1,r1,q1⟩=>⟨σ,H1,I1,q1⟩) I.quiet hs
def tRet (te:TE):TS:=λD σ H=>te σ H D.rt
theorem jJ (he:PE X e te):PS X (.Return (some e) pos) (tRet te):=by
 intro pins s σ H D I h;exact wpAny_Return_some (cL (he pins s σ H _ I h) λv s1 ⟨x,H1,I1,r1,q1⟩=>⟨x,σ,H1,I1,r1,q1⟩)
def tIfS (c:TT)(t u:TS):TS:=λD σ H=>c σ H λb H1=>if b=true then t D σ H1 else u D σ H1
theorem Hu {c:Expr}{a b:List Stmt}{tc:TT}(hc:PT X c tc)(ha:PSs X a t)(hb:PSs X b u):PS X (.If c a b pos) (tIfS tc t u):=by
 intro pins s σ H D I h;refine wpAny_If (cL (hc pins s σ H _ I h) λd s1 hh_=> ?_)
 obtain⟨H1,I1,q1⟩:=hh_
 cases d with
 | true=>exact ha pins s1 σ H1 D I1 q1
 | false=>exact hb pins s1 σ H1 D I1 q1
def Ij:TS:=λ_ _ _=>False
theorem CF:PS X st Ij:=λ_ _ _ _ _ _ h=>h.elim
end
abbrev TG:=V->St->Hp->(St->Hp->Prop)->Prop
abbrev G6:=List V->St->Hp->(St->Hp->Prop)->Prop
def PG (X:Cx)(target:Expr)(t:TG):Prop:=
 ∀(pins:List (Addr×Obj)) (s:Od) (σ:St) (H:Hp) (v:V) (u:Oa) (Q:St->Hp->Prop),Inv X pins σ H s->RelV v u->t v σ H Q →
  wpAny (model X.prog X.w) X.A (assign target X.env u) (λ_ s'=> ∃σ' H',Inv X pins σ' H' s'/\Q σ' H') X.xe s
def PGs (X:Cx)(ts:List Expr)(t:G6):Prop:=
 ∀(pins:List (Addr×Obj)) (s:Od) (σ:St) (H:Hp) (vs:List V) (us:List Oa) (Q:St->Hp->Prop),Inv X pins σ H s->Vals vs us->t vs σ H Q →
  wpAny (model X.prog X.w) X.A (assignInOrder ((Qu ts X.env).map (·.2)) us) (λ_ s'=> ∃σ' H',Inv X pins σ' H' s'/\Q σ' H') X.xe s
abbrev MU:=V->V->Hp->VK->Prop
def PIp (X:Cx)(op:WZ)(t:MU):Prop:=
 ∀(pins:List (Addr×Obj)) (s:Od) (σ:St) (H:Hp) (x y:V) (v u:Oa) (Q:VK),Inv X pins σ H s->RelV x v->RelV y u->t x y H Q →
  wpAny (model X.prog X.w) X.A (inplaceOp op v u) (EP X pins σ Q) X.xe s
section
variable {X:Cx}{pos:Pos}
def DY (i:Nat):TG:=λv σ H Q=>Q (σ.set i (some v)) H
theorem F4 {i:Nat}{x:Str}(hN:X.N.Nodup)(hi:X.N[i]? =some x)(hx:Loc X.env.scope x)(hf:autoParam (X.fn x=true\/X.env.scope.names.lookup x=some .local) r_):PG X (.Name x pos) (DY i):=by
 intro pins s σ H v u Q I r h;exact Wj (lI I hN hi hx r (λs' I'=>⟨_,H,I',h⟩) hf)
def gNil:G6:=λvs σ H Q=>vs= []/\Q σ H
def Mk (t:TG)(u:G6):G6:=λvs σ H Q=> ∃v r,vs=v::r/\t v σ H λσ' H'=>u r σ' H' Q
theorem F3:PGs X [] gNil:=by
 intro pins s σ H vs us Q I r h;obtain⟨e,h⟩:=h;subst e;cases r;exact assignInOrder_nil ⟨σ,H,I,h⟩
theorem CK {e:Expr}{es:List Expr}{t:TG}{u:G6}(h1:PG X e t)(h2:PGs X es u)
  (hs:(Qu (e::es) X.env).map (·.2)=assign e X.env::(Qu es X.env).map (·.2):=by rfl):PGs X (e::es) (Mk t u):=by
 intro pins s σ H vs us Q I r h;obtain⟨v,vr,e1,h⟩:=h;subst e1
 cases r with
 | cons r rr=>
  rw[hs];refine assignInOrder_cons (cL (h1 pins s σ H _ _ _ I r h) λ_ s1 hh_=> ?_)
  obtain⟨σ1,H1,I1,q1⟩:=hh_;exact h2 pins s1 σ1 H1 _ _ Q I1 rr q1
def gTup (K:N6)(n:Nat)(t:G6):TG:=λv σ H Q=> ∃a xs,v= .ref a/\SqT K H a xs/\xs.length=n/\t xs σ H Q
theorem Jk {es:List Expr}{k:Nat}{t:G6}{n:Nat}(hc:X.calm=true)(h:PGs X es t)
  (hn:(Qu es X.env).length=n:=by rfl) (hst:(Qu es X.env).findIdx? (·.1)=none:=by rfl):PG X (.Tuple es k pos) (gTup X.K n t):=by
 intro pins s σ H v u Q I r hw;obtain⟨a,xs,e1,hq,hl,hw⟩:=hw;subst e1;cases r;obtain⟨its,rv,ht,hz⟩:=I.tuple hq;refine assign_Tuple_tuple (I.ok.hd hc) ht (by simp[hn,<-hl,rv.length]) hst λh' hx=> ?_
 have I1:Inv X pins σ H { s with heap:=h' }:=I.kept (t':=s.toks) λb o e=>hx b o (O7 (Ou e)) e
 exact h pins _ σ H xs _ Q I1 (by simpa using rv) hw
def B1 (te:TE)(g:TG):TS:=λD σ H=>te σ H λx H1=>g x σ H1 D.nx
theorem Jg {tg e:Expr}{te:TE}{g:TG}(he:PE X e te)(hg:PG X tg g)(hs:VM [tg] e pos.line X.env=pure false:=by rfl)(hw:VN [tg] e X.env=pure none:=by rfl)
  (h1:(Qu [tg] X.env).map (·.2)= [assign tg X.env]:=by rfl):PS X (.Assign [tg] e pos) (B1 te g):=by
 intro pins s σ H D I h;refine wpAny_Assign_stores (cL (he pins s σ H _ I h) λv s1 ⟨x,H1,I1,r1,q1⟩=> ?_) hs hw
 rw[h1];exact cL (hg pins s1 σ H1 x v _ I1 r1 q1) λ_ s2 q=>q
theorem pz {i:Nat}{x:Str}{e:Expr}{te:TE}{pos':Pos}(hN:X.N.Nodup)(hi:X.N[i]? =some x)(hx:Loc X.env.scope x)(he:PE X e te)(hs:P6 e (some (.Name x pos')) pos.line X.env=pure false:=by rfl)(hf:autoParam (X.fn x=true\/X.env.scope.names.lookup x=some .local) r_) :
  PS X (.Assign [.Name x pos'] e pos) (B1 te (DY i)):=by
 intro pins s σ H D I h;refine wpAny_Assign_Name (cL (he pins s σ H _ I h) λv s1 ⟨y,H1,I1,r1,q1⟩=> ?_) hs
 exact lI I1 hN hi hx r1 (λs2 I2=>⟨_,H1,I2,q1⟩) hf
def tAug (i:Nat)(te:TE)(ti:MU):TS:=λD σ H=> ∃x,σ[i]? =some (some x)/\te σ H λy H1=>ti x y H1 λz H2=>D.nx (σ.set i (some z)) H2
theorem Jf {i:Nat}{x:Str}{e:Expr}{te:TE}{op:WZ}{ti:MU}{pos':Pos}(hN:X.N.Nodup)(hi:X.N[i]? =some x)(hx:Loc X.env.scope x)(he:PE X e te)(ho:PIp X op ti)(hf:autoParam (X.fn x=true\/X.env.scope.names.lookup x=some .local) r_) :
  PS X (.AugAssign (.Name x pos') op e pos) (tAug i te ti):=by
 intro pins s σ H D I h;obtain⟨v,e1,h⟩:=h;obtain⟨m,hn,hl⟩:=I.loc
 have vis:uY X.env.scope x:=by rcases hx with k | k;exact .inl k;exact .inr (.inl k)
 obtain⟨u,r,l⟩:=hl i x v hi e1 vis;refine wpAny_AugAssign_Name ?_
 have go:wpAny (model X.prog X.w) X.A (eval e X.env) (λw s₂=>wpAny (model X.prog X.w) X.A (inplaceOp op u w) (λr s₃=>wpAny (model X.prog X.w) X.A (storeName X.env x r) (λ_=>SP X pins D .next) X.xe s₃) X.xe s₂) X.xe s:=by
  refine cL (he pins s σ H _ I h) λw s1 hh_=> ?_
  obtain⟨y,H1,I1,r1,q1⟩:=hh_;refine cL (ho pins s1 σ H1 v y u w _ I1 r r1 q1) λz s2 hh_=> ?_
  obtain⟨zv,H2,I2,r2,q2⟩:=hh_;exact lI I2 hN hi hx r2 (λs3 I3=>⟨_,H2,I3,q2⟩) hf
 rcases l with⟨hk,hm⟩ | ⟨hk,c,hc,hcell⟩
 ·exact U9 I.ok.kind hk hn hm go
 ·rcases hk with hk | hk
  ·exact Vn I.ok.kind hk hc hcell go
  ·rcases hx with k | k
   ·have:X.env.scope.names.lookup x=some .free:=hk
    rw[k]at this;cases this
   ·have:X.env.scope.names.lookup x=some .free:=hk
    rw[k]at this;cases this
def ipI (f:Int->Int->Int):MU:=λx y H Q=> ∃i j,x= .int i/\y= .int j/\Q (.int (f i j)) H
theorem J6:PIp X .Add (ipI λi j=>i+j):=by
 intro pins s σ H x y v u Q I r1 r2 h;obtain⟨i,j,e1,e2,q⟩:=h;subst e1;subst e2;obtain⟨t,rfl⟩:=r1;obtain⟨t',rfl⟩:=r2;exact iadd_int ⟨.int _,H,I.tok _,⟨_,rfl⟩,q⟩
end
section
variable {X:Cx}{pos:Pos}
def xI (c:TT)(tb:TS):TS:=λD σ H=> ∃W:Nat->St->Hp->Prop,(∃m,W m σ H)/\∀m σ H,W m σ H →
 c σ H λb H1=>if b=true then ∃N:St->Hp->Prop,(∀σ' H',N σ' H'->∃m',m'<m/\W m' σ' H')/\tb { D with nx:=N,ct:=N,bk:=D.nx } σ H1 else D.nx σ H1
theorem CD {c:Expr}{body:List Stmt}{tc:TT}{tb:TS}(hp:PassesOwn (model X.prog X.w) X.A X.env X.xe)(hc:PT X c tc)(hb:PSs X body tb):PS X (.While c body [] pos) (xI tc tb):=by
 intro pins s σ H D I h;obtain⟨W,⟨m0,w0⟩,turn⟩:=h;refine wpAny_While (codeAny_whileLoop (λn s'=> ∃σ' H',Inv X pins σ' H' s'/\W n σ' H') ?_ m0 ⟨σ,H,I,w0⟩)
 rintro n s1 ⟨σ1,H1,I1,w1⟩
 refine Xi hp (cL (hc pins s1 σ1 H1 _ I1 (turn n σ1 H1 w1)) λb s2 hh_=> ?_)
 obtain⟨H2,I2,q2⟩:=hh_
 cases b with
 | true=>
  obtain⟨N,hN,q2⟩:=q2;rw[if_pos rfl];refine Xi hp (cL (hb pins s2 σ1 H2 _ I2 q2) λf s3 q3=> ?_)
  cases f with
  | next=>
   obtain⟨σ3,H3,I3,n3⟩:=q3;obtain⟨m',hm,w3⟩:=hN σ3 H3 n3
   exact⟨m',hm,σ3,H3,I3,w3⟩
  | cont=>
   obtain⟨σ3,H3,I3,n3⟩:=q3;obtain⟨m',hm,w3⟩:=hN σ3 H3 n3
   exact⟨m',hm,σ3,H3,I3,w3⟩
  | brk=>exact q3
  | ret v=>exact q3
 | false=>
  rw[if_neg OF];exact Sk ⟨σ1,H2,I2,q2⟩
end
structure It where
 go:Nat->Hp->Prop
 yld:Nat->Hp->V->Hp->Prop
 stop:Nat->Hp->Prop
def qQ (X:Cx)(pins:List (Addr×Obj))(H:Hp)(b:Addr):Prop:=
 H b=none/\b≠X.env.locals/\b∉X.fs/\(b∈X.ex\/X.s₀.heap.objs.size<=b)/\(∀x c,X.env.cells.lookup x=some c->c≠b)/\∀p∈X.pn++pins,p.1≠b
theorem Inv.Ni {X:Cx}{pins:List (Addr×Obj)}{σ:St}{H H':Hp}{s:Od}{b:Addr}(I:Inv X pins σ H s)(hb:s.heap.objs.size<=b)(hn:H' b=none):qQ X pins H' b:=by
 refine⟨hn,QF (Os I.lt hb),I.N3 hb,.inr (OI I.sz hb),λx c e z=> ?_,λp hp z=> ?_⟩
 ·obtain⟨v,q⟩:=I.cell x c e
  exact absurd (Os q.lt (by rw[z];exact hb)) (O9 _)
 ·exact absurd (Os (Ou (I.pin p hp).1) (by rw[z];exact hb)) (O9 _)
structure Bz (P:OH)(w:Px)(K:N6)(tg:Expr)(J:It)(fp:List Addr)(it:Addr)(tn:Nat->Heap->Prop):Prop where
 mem:it∈fp
 obj:∀i h,tn i h->∀b∈fp,∃o,h.get? b=some o/\∀v,o.data≠ .cell v
 keep:∀i h h',tn i h->(∀b∈fp,∀o,h.get? b=some o->h'.get? b=some o)->tn i h'
 item:∀(X:Cx),X.prog=P->X.w=w->X.K=K->X.calm=true->∀(i:Nat) (pins:List (Addr×Obj)) (s:Od) (σ:St) (H:Hp) (E:Oa->Od->Prop),Inv X pins σ H s->(∀b∈fp,qQ X pins H b)->tn i s.heap->J.go i H →
  wpAny (model P w) X.A (pyNext (.ref it)) (λr s1=> ∃u,r=some u ∧
   wpAny (model P w) X.A (Sm tg (.ref it) u) (λ_ s2=> ∃x H',Inv X pins σ H' s2/\RelV x u/\J.yld i H x H'/\tn (i+1) s2.heap/\∀b∈fp,H' b=none) E s1) E s
 done:∀(X:Cx),X.prog=P->X.w=w->X.K=K->X.calm=true->∀(i:Nat) (pins:List (Addr×Obj)) (s:Od) (σ:St) (H:Hp) (E:Oa->Od->Prop),Inv X pins σ H s->(∀b∈fp,qQ X pins H b)->tn i s.heap->J.stop i H →
  wpAny (model P w) X.A (pyNext (.ref it)) (λr s1=>r=none/\Inv X pins σ H s1) E s
 self:∀(A:OV) (i:Nat) (s:Od) (Q:Oa->Od->Prop) (E:Oa->Od->Prop),tn i s.heap->Q (.ref it) s->wpAny (model P w) A (pyIter (.ref it)) Q E s
abbrev TI:=St->Hp->(It->Hp->Prop)->Prop
def MX (X:Cx)(pins:List (Addr×Obj))(σ:St)(tg:Expr)(R:It->Hp->Prop)(itv:Oa)(s2:Od):Prop:=
 ∃(it:Addr) (fp:List Addr) (tn:Nat->Heap->Prop) (J:It) (H':Hp),itv= .ref it/\Inv X pins σ H' s2/\Bz X.prog X.w X.K tg J fp it tn/\tn 0 s2.heap/\(∀b∈fp,qQ X pins H' b)/\R J H'
def PI (X:Cx)(tg iter:Expr)(wi:TI):Prop:=
 ∀(pins:List (Addr×Obj)) (s:Od) (σ:St) (H:Hp) (R:It->Hp->Prop),Inv X pins σ H s->wi σ H R →
  wpAny (model X.prog X.w) X.A (eval iter X.env) (λv s1=>wpAny (model X.prog X.w) X.A (pyIter v) (MX X pins σ tg R) X.xe s1) X.xe s
theorem Ab {M:Xh}{A:OV}{E:Oa->Od->Prop}{s:Od}{tg:Expr}{it:Addr}{u:Oa}{o:Obj}{n:String}{vs:Array Oa}{Q:Unit->Od->Prop}(ho:s.heap.get? it=some o)(hc:o.cls= .type n)(hd:o.data= .fields vs)
  (hn:["enumerate","zip","dict_itemiterator","dict_reverseitemiterator","odict_iterator","itertools.zip_longest","itertools.pairwise"].contains n=false) (hQ:Q () s):wpAny M A (Sm tg (.ref it) u) Q E s:=by
 unfold Sm
 cases tg <;> first
  | exact Ol hQ
  | (cases u <;> first
    | exact Ol hQ
    | (refine N7 (wpAny_load ho ?_)
       rw[hc,hd]
       show wpAny M A (if (["enumerate","zip","dict_itemiterator","dict_reverseitemiterator","odict_iterator","itertools.zip_longest","itertools.pairwise"].contains n&&vs[0]? == some (rawInt _))=true then _ else _) Q E s
       rw[if_neg (by intro h;rw[hn,Bool.false_and]at h;cases h)]
       exact Ol hQ))
def Itl (K:N6)(a:Addr):It:=
 ⟨λi H=> ∃xs x,SqL K H a xs/\xs[i]? =some x,λi H x H'=>H'=H/\∀xs,SqL K H a xs->xs[i]? =some x,λi H=> ∃xs,SqL K H a xs/\xs.length<=i⟩
def Itt (K:N6)(a:Addr):It:=
 ⟨λi H=> ∃xs x,SqT K H a xs/\xs[i]? =some x,λi H x H'=>H'=H/\∀xs,SqT K H a xs->xs[i]? =some x,λi H=> ∃xs,SqT K H a xs/\xs.length<=i⟩
def Itr (lo:Int)(n:Nat):It:=⟨λi _=>i<n,λi H x H'=>H'=H/\x= .int (lo+i),λi _=>n<=i⟩
theorem Aw {P:OH}{w:Px}{K:N6}{tg:Expr}(a it:Addr):Bz P w K tg (Itl K a) [it] it (λi h=>h.IsListIter it a i) where
 mem:=by simp
 obj:=λi h st b hb=>by
  have e:b=it:=by simpa using hb
  subst e;obtain⟨o,e,c,d⟩:=st;exact⟨o,e,λv z=>by rw[d]at z;cases z⟩
 keep:=λi h h' st k=>st.at λo e=>k it (by simp) o e
 item:=by
  intro X hP hw hK hc i pins s σ H E I hf st hg;subst hP hw hK;obtain⟨xs,x,hq,hx⟩:=hg;obtain⟨its,rv,p,hz⟩:=I.list hq;obtain⟨u,hu,ru⟩:=rv.get hx;obtain⟨f0,f1,f2,f3,f4,f5⟩:=hf it (by simp)
  refine Us st p.isList (x:=u) (by simpa using hu) λh' st' sb=> ?_
  have I1:Inv X pins σ H { s with heap:=h' }:=I.turned (t':=s.toks) (λb o hb e=>(sb.2 b hb).trans e) f0 f1 f3 f4 f5
  obtain⟨o,e,c,d⟩:=id st';exact⟨u,rfl,Ab (s:={ s with heap:=h' }) e c d (by decide) ⟨x,H,I1,ru,⟨rfl,λys hy=>by rw[I.Nh hy hq];exact hx⟩,st',λb hb=>(hf b hb).1⟩⟩
 done:=by
  intro X hP hw hK hc i pins s σ H E I hf st hg;subst hP hw hK;obtain⟨xs,hq,hx⟩:=hg;obtain⟨its,rv,p,hz⟩:=I.list hq;obtain⟨f0,f1,f2,f3,f4,f5⟩:=hf it (by simp)
  have hl:=rv.length;exact UN (I.ok.hd hc) st p.isList (by simp;omega) λh' eb=>⟨rfl,I.turned (t':=s.toks) (λb o hb e=>eb b o hb e) f0 f1 f3 f4 f5⟩
 self:=λ_ _ _ _ _ st h=>wpAny_pyIter_listiter st h
theorem xG {P:OH}{w:Px}{K:N6}{tg:Expr}(a it:Addr):Bz P w K tg (Itt K a) [it] it (λi h=>h.IsTupleIter it a i) where
 mem:=by simp
 obj:=λi h st b hb=>by
  have e:b=it:=by simpa using hb
  subst e;obtain⟨o,e,c,d⟩:=st;exact⟨o,e,λv z=>by rw[d]at z;cases z⟩
 keep:=λi h h' st k=>st.at λo e=>k it (by simp) o e
 item:=by
  intro X hP hw hK hc i pins s σ H E I hf st hg;subst hP hw hK;obtain⟨xs,x,hq,hx⟩:=hg;obtain⟨its,rv,p,hz⟩:=I.tuple hq;obtain⟨u,hu,ru⟩:=rv.get hx;obtain⟨f0,f1,f2,f3,f4,f5⟩:=hf it (by simp)
  refine wpAny_pyNext_tuple_item st (show s.heap.IsTuple a its.toArray from p) (x:=u) (by simpa using hu) λh' st' sb=> ?_
  have I1:Inv X pins σ H { s with heap:=h' }:=I.turned (t':=s.toks) (λb o hb e=>(sb.2 b hb).trans e) f0 f1 f3 f4 f5
  obtain⟨o,e,c,d⟩:=id st';exact⟨u,rfl,Ab (s:={ s with heap:=h' }) e c d (by decide) ⟨x,H,I1,ru,⟨rfl,λys hy=>by rw[I.Na hy hq];exact hx⟩,st',λb hb=>(hf b hb).1⟩⟩
 done:=by
  intro X hP hw hK hc i pins s σ H E I hf st hg;subst hP hw hK;obtain⟨xs,hq,hx⟩:=hg;obtain⟨its,rv,p,hz⟩:=I.tuple hq;obtain⟨f0,f1,f2,f3,f4,f5⟩:=hf it (by simp)
  have hl:=rv.length;exact wpAny_pyNext_tuple_end (I.ok.hd hc) st (show s.heap.IsTuple a its.toArray from p) (by simp;omega) λh' eb=>⟨rfl,I.turned (t':=s.toks) (λb o hb e=>eb b o hb e) f0 f1 f3 f4 f5⟩
 self:=λ_ _ _ _ _ st h=>wpAny_pyIter_tupleiter st h
theorem xH {P:OH}{w:Px}{K:N6}{tg:Expr}(it:Addr)(lo:Int)(n:Nat):Bz P w K tg (Itr lo n) [it] it (λi h=>Vo h it (lo+(i:Nat)*1) ((n:Int) - (i:Nat)) 1) where
 mem:=by simp
 obj:=λi h st b hb=>by
  have e:b=it:=by simpa using hb
  subst e
  exact⟨_,st,λv z=>by
   have z':W1 _=Data.cell v:=z;cases z'⟩
 keep:=λi h h' st k=>k it (by simp) _ st
 item:=by
  intro X hP hw hK hc i pins s σ H E I hf st hg;subst hP hw hK;obtain⟨f0,f1,f2,f3,f4,f5⟩:=hf it (by simp)
  have W:=Walks.range (prog:=X.prog) (w:=X.w) (I.ok.hd hc) it lo 1 n;refine W.item i s _ _ hg st λv h' tk hv st' kk=> ?_
  obtain⟨t,rfl⟩:=hv
  have I1:Inv X pins σ H { s with heap:=h',toks:=tk }:=I.turned (λb o hb e=>kk b o (by simpa using hb) e) f0 f1 f3 f4 f5
  refine⟨_,rfl,Ab (s:={ s with heap:=h',toks:=tk }) (n:="range_iterator") st' rfl rfl (by decide) ⟨.int (lo+i),H,I1,⟨t,?_⟩,⟨rfl,rfl⟩,st',λb hb=>(hf b hb).1⟩⟩
  rw[Int.mul_one]
 done:=by
  intro X hP hw hK hc i pins s σ H E I hf st hg;subst hP hw hK;obtain⟨f0,f1,f2,f3,f4,f5⟩:=hf it (by simp)
  exact Ut (I.ok.hd hc) st (by have:n<=i:=hg;omega) λh' eb=>⟨rfl,I.turned (t':=s.toks) (λb o hb e=>eb b o hb e) f0 f1 f3 f4 f5⟩
 self:=λ_ _ _ _ _ st h=>Uu st h
section
variable {X:Cx}{tg:Expr}
def Mi (K:N6)(tl:TE):TI:=λσ H R=>tl σ H λx H1=> ∃a,x= .ref a/\(∃xs,SqL K H1 a xs)/\R (Itl K a) H1
def iTup (K:N6)(tl:TE):TI:=λσ H R=>tl σ H λx H1=> ∃a,x= .ref a/\(∃xs,SqT K H1 a xs)/\R (Itt K a) H1
theorem F1 {l:Expr}{tl:TE}(hl:PE X l tl):PI X tg l (Mi X.K tl):=by
 intro pins s σ H R I h;refine cL (hl pins s σ H _ I h) λv s1 hh_=> ?_
 obtain⟨x,H1,I1,r1,q1⟩:=hh_;obtain⟨a,e,⟨xs,hq⟩,q⟩:=q1;subst e;cases r1;obtain⟨its,rv,p,hz⟩:=I1.list hq;refine Sz p.isList ?_
 refine⟨s1.heap.objs.size,[s1.heap.objs.size],_,_,H1,rfl,I1.kept (t':=s1.toks) λb o e=>Oh _ e,Aw a _,⟨_,Oz _ rfl,rfl,rfl⟩,λb hb=> ?_,q⟩
 have e:b=s1.heap.objs.size:=by simpa using hb
 subst e;exact I1.Ni (Ot _) (I1.hok.fresh (Ot _))
theorem Jj {l:Expr}{tl:TE}(hl:PE X l tl):PI X tg l (iTup X.K tl):=by
 intro pins s σ H R I h;refine cL (hl pins s σ H _ I h) λv s1 hh_=> ?_
 obtain⟨x,H1,I1,r1,q1⟩:=hh_;obtain⟨a,e,⟨xs,hq⟩,q⟩:=q1;subst e;cases r1;obtain⟨its,rv,p,hz⟩:=I1.tuple hq;refine Sn (show s1.heap.IsTuple a its.toArray from p) ?_
 refine⟨s1.heap.objs.size,[s1.heap.objs.size],_,_,H1,rfl,I1.kept (t':=s1.toks) λb o e=>Oh _ e,xG a _,⟨_,Oz _ rfl,rfl,rfl⟩,λb hb=> ?_,q⟩
 have e:b=s1.heap.objs.size:=by simpa using hb
 subst e;exact I1.Ni (Ot _) (I1.hok.fresh (Ot _))
theorem lP {pins:List (Addr×Obj)}{σ:St}{H:Hp}{s:Od}{R:It->Hp->Prop}{E:Oa->Od->Prop}{lo hi:Int}{t u v:Tok}{tk:Nat}(I:Inv X pins σ H s)(h1 : -(2 ^ 62)<=lo)(h2:lo<2 ^ 62)(h3 : -(2 ^ 62)<=hi)(h4:hi<2 ^ 62)
  (q:R (Itr lo (hi - lo).toNat) H):wpAny (model X.prog X.w) X.A (pyIter (.ref s.heap.objs.size)) (MX X pins σ tg R) E { s with heap:=s.heap.push { cls:=.type "range",data:=.fields #[.int lo t,.int hi u,.int 1 v] },toks:=tk }:=by
 refine VO (W2 ..) (small_one h1 h2 h3 h4) ?_
 have I1:Inv X pins σ H { s with heap:=s.heap.push { cls:=.type "range",data:=.fields #[.int lo t,.int hi u,.int 1 v] },toks:=tk }:=I.kept λb o e=>Oh _ e
 refine⟨(s.heap.push { cls:=.type "range",data:=.fields #[.int lo t,.int hi u,.int 1 v] }).objs.size,[(s.heap.push { cls:=.type "range",data:=.fields #[.int lo t,.int hi u,.int 1 v] }).objs.size],_,_,H,rfl,
  I1.kept (t':=tk) λb o e=>Oh _ e,xH _ lo (hi - lo).toNat,?_,λb hb=> ?_,q⟩
 ·have e1:lo+((0:Nat):Int)*1=lo:=by simp
  have e2:(((hi - lo).toNat:Nat):Int) - ((0:Nat):Int)=Rn lo hi 1:=by rw[rangeSize_one];split <;> omega
  show Vo _ _ (lo+((0:Nat):Int)*1) ((((hi - lo).toNat:Nat):Int) - ((0:Nat):Int)) 1
  rw[e1,e2];exact Oz _ rfl
 ·have e:b=(s.heap.push { cls:=.type "range",data:=.fields #[.int lo t,.int hi u,.int 1 v] }).objs.size:=by simpa using hb
  subst e;exact I1.Ni (Ot _) (I1.hok.fresh (Ot _))
def tFor (wi:TI)(g:TG)(tb:TS):TS:=λD σ H=>wi σ H λJ H1=> ∃W:Nat->Nat->St->Hp->Prop,(∃m,W 0 m σ H1)/\∀i m σ H,W i m σ H →
 (J.stop i H/\D.nx σ H)\/(J.go i H/\∃N:St->Hp->Prop,(∀σ' H',N σ' H'->∃m',m'<m/\W (i+1) m' σ' H')/\∀x H',J.yld i H x H'->g x σ H' λσ2 H2=>tb { D with nx:=N,ct:=N,bk:=D.nx } σ2 H2)
def pC (fp:List Addr)(h:Heap):List (Addr×Obj):=fp.filterMap λb=>(h.get? b).map λo=>(b,o)
theorem ja {fp:List Addr}{h:Heap}{b:Addr}{o:Obj}(hb:b∈fp)(e:h.get? b=some o):(b,o)∈pC fp h:=Tv.mpr ⟨b,hb,by rw[e];rfl⟩
theorem AQ {fp:List Addr}{h:Heap}{p:Addr×Obj}(hp:p∈pC fp h):p.1∈fp/\h.get? p.1=some p.2:=by
 obtain⟨b,hb,e⟩:=Tv.mp hp
 cases q:h.get? b with
 | none=>rw[q]at e;cases e
 | some o=>
  rw[q]at e
  have e':(b,o)=p:=OP e;subst e';exact⟨hb,q⟩
theorem Inv.pinned {pins:List (Addr×Obj)}{σ:St}{H:Hp}{s:Od}{fp:List Addr}(I:Inv X pins σ H s)(hf:∀b∈fp,qQ X pins H b)(ho:∀b∈fp,∃o,s.heap.get? b=some o/\∀v,o.data≠ .cell v):Inv X (pins++pC fp s.heap) σ H s:=
 I.Nn λp hp=>(OR.mp hp).elim (λz=>I.pin p (OK _ z)) λz=>by
  obtain⟨hb,e⟩:=AQ z;obtain⟨f0,f1,f2,_⟩:=hf p.1 hb;obtain⟨o,e',d⟩:=ho p.1 hb;rw[e]at e';cases e';exact⟨e,f0,f1,f2,d⟩
theorem Inv.M4 {pins pl:List (Addr×Obj)}{σ:St}{H:Hp}{s:Od}(I:Inv X (pins++pl) σ H s):Inv X pins σ H s:=I.Nn λp hp=>I.pin p (OK _ (O8 _ hp))
end
abbrev R2:=V->V->Hp->VK->Prop
def qT (X:Cx)(f:Oa->Oa->Sem Oa)(r:R2):Prop:=
 ∀(pins:List (Addr×Obj)) (s:Od) (σ:St) (H:Hp) (x y:V) (v u:Oa) (Q:VK),Inv X pins σ H s->RelV x v->RelV y u->r x y H Q →
  wpAny (model X.prog X.w) X.A (f v u) (EP X pins σ Q) X.xe s
def UnR (X:Cx)(f:Oa->Sem Oa)(r:V->Hp->VK->Prop):Prop:=
 ∀(pins:List (Addr×Obj)) (s:Od) (σ:St) (H:Hp) (x:V) (v:Oa) (Q:VK),Inv X pins σ H s->RelV x v->r x H Q →
  wpAny (model X.prog X.w) X.A (f v) (EP X pins σ Q) X.xe s
def CallR (X:Cx)(f:Oa)(r:List V->Hp->VK->Prop):Prop:=
 ∀(pins:List (Addr×Obj)) (s:Od) (σ:St) (H:Hp) (xs:List V) (us:List Oa) (Q:VK),Inv X pins σ H s->Vals xs us->r xs H Q →
  wpAny (model X.prog X.w) X.A (call f us) (EP X pins σ Q) X.xe s
def tOp (r:R2)(ta tb:TE):TE:=λσ H Q=>ta σ H λx H1=>tb σ H1 λy H2=>r x y H2 Q
def tUn (r:V->Hp->VK->Prop)(ta:TE):TE:=λσ H Q=>ta σ H λx H1=>r x H1 Q
def rI (C:Int->Int->Prop)(g:Int->Int->V):R2:=λx y H Q=> ∃i j,x= .int i/\y= .int j/\C i j/\Q (g i j) H
def ID (g:Int->Int->V):R2:=λx y H Q=> ∃i j,x= .int i/\y= .int j/\Q (g i j) H
def rU (g:Int->V):V->Hp->VK->Prop:=λx H Q=> ∃i,x= .int i/\Q (g i) H
section
variable {X:Cx}{a b c:Expr}{ta tb tc:TE}{pos:Pos}
theorem Mw (ha:PE X a ta)(hb:PE X b tb){pins:List (Addr×Obj)}{s:Od}{σ:St}{H:Hp}{R:V->V->Hp->Prop}(I:Inv X pins σ H s)
  (h:ta σ H λx H1=>tb σ H1 λy H2=>R x y H2) {Q:Oa->Od->Prop} {f:Oa->Oa->Sem Oa}
  (hf:∀v u s2 x y H2,Inv X pins σ H2 s2->RelV x v->RelV y u->R x y H2->wpAny (model X.prog X.w) X.A (f v u) Q X.xe s2) :
  wpAny (model X.prog X.w) X.A (eval a X.env) (λv s₁=>wpAny (model X.prog X.w) X.A (eval b X.env) (λu s₂=>wpAny (model X.prog X.w) X.A (f v u) Q X.xe s₂) X.xe s₁) X.xe s:=by
 refine cL (ha pins s σ H _ I h) λv s1 hh_=> ?_
 obtain⟨x,H1,I1,r1,q1⟩:=hh_;refine cL (hb pins s1 σ H1 _ I1 q1) λu s2 hh_=> ?_
 obtain⟨y,H2,I2,r2,q2⟩:=hh_;exact hf v u s2 x y H2 I2 r1 r2 q2
theorem LD {op:WZ}{r:R2}(ho:qT X (Qy op) r)(ha:PE X a ta)(hb:PE X b tb):PE X (.BinOp a op b pos) (tOp r ta tb):=by
 intro pins s σ H Q I h;exact wpAny_BinOp (Mw ha hb I h λv u s2 x y H2 I2 rx ry q=>ho pins s2 σ H2 x y v u Q I2 rx ry q)
theorem Hv {op:UnaryOp}{r:V->Hp->VK->Prop}(ho:UnR X (unaryOp op) r)(ha:PE X a ta):PE X (.UnaryOp op a pos) (tUn r ta):=by
 intro pins s σ H Q I h;exact UnaryOp_ (cL (ha pins s σ H _ I h) λv s1 ⟨x,H1,I1,r1,q1⟩=>ho pins s1 σ H1 x v Q I1 r1 q1)
theorem opI {f:Oa->Oa->Sem Oa}{C:Int->Int->Prop}{g:Int->Int->Int}
  (rule:∀(i j:Int) (t u:Tok) (s:Od) (Q:Oa->Od->Prop) (E:Oa->Od->Prop),C i j->Q (.int (g i j) s.toks) { s with toks:=s.toks+1 }->wpAny (model X.prog X.w) X.A (f (.int i t) (.int j u)) Q E s) :
  qT X f (rI C λi j=> .int (g i j)):=by
 intro pins s σ H x y v u Q I rx ry h;obtain⟨i,j,rfl,rfl,hc,q⟩:=h;obtain⟨t,rfl⟩:=rx;obtain⟨t',rfl⟩:=ry;exact rule i j t t' s _ _ hc ⟨.int (g i j),H,I.tok _,⟨_,rfl⟩,q⟩
theorem LJ {f:Oa->Oa->Sem Oa}{g:Int->Int->Int}
  (rule:∀(i j:Int) (t u:Tok) (s:Od) (Q:Oa->Od->Prop) (E:Oa->Od->Prop),Q (.int (g i j) s.toks) { s with toks:=s.toks+1 }->wpAny (model X.prog X.w) X.A (f (.int i t) (.int j u)) Q E s) :
  qT X f (ID λi j=> .int (g i j)):=by
 intro pins s σ H x y v u Q I rx ry h;obtain⟨i,j,rfl,rfl,q⟩:=h;obtain⟨t,rfl⟩:=rx;obtain⟨t',rfl⟩:=ry;exact rule i j t t' s _ _ ⟨.int (g i j),H,I.tok _,⟨_,rfl⟩,q⟩
theorem LL {f:Oa->Oa->Sem Oa}{g:Int->Int->Bool}
  (rule:∀(i j:Int) (t u:Tok) (s:Od) (Q:Oa->Od->Prop) (E:Oa->Od->Prop),Q (.bool (g i j)) s->wpAny (model X.prog X.w) X.A (f (.int i t) (.int j u)) Q E s) :
  qT X f (ID λi j=> .bl (g i j)):=by
 intro pins s σ H x y v u Q I rx ry h;obtain⟨i,j,rfl,rfl,q⟩:=h;obtain⟨t,rfl⟩:=rx;obtain⟨t',rfl⟩:=ry;exact rule i j t t' s _ _ ⟨.bl (g i j),H,I,rfl,q⟩
def CDiv (i j:Int):Prop:=0<j/\j<1073741824
def CMul (i j:Int):Prop:=(-(2 ^ 64)<i/\i<2 ^ 64)\/(-(2 ^ 64)<j/\j<2 ^ 64)
theorem CMul.ok {i j:Int}(h:CMul i j):IntMulOk i j:=by
 rcases h with⟨h1,h2⟩ | ⟨h1,h2⟩
 ·exact .of_left (intBits_le_64 h1 h2)
 ·exact .of_right (intBits_le_64 h1 h2)
theorem Jw:qT X (Qy .Add) (ID λi j=> .int (i+j)):=LJ λ_ _ _ _ _ _ _ q=>add_int q
theorem Jr:qT X (Qy .Sub) (ID λi j=> .int (i - j)):=LJ λ_ _ _ _ _ _ _ q=>sub_int q
theorem Jt:qT X (Qy .Mult) (rI CMul λi j=> .int (i*j)):=opI λ_ _ _ _ _ _ _ hc q=>mul_int q hc.ok
theorem F9:qT X (Qy .FloorDiv) (rI CDiv λi j=> .int (i / j)):=opI λi j _ _ _ _ _ hc q=>by
 have h1:(0:Int)<j:=hc.1
 have h2:j<1073741824:=hc.2;exact floordiv_int (by omega) (by rw[Int.fdiv_eq_ediv_of_nonneg i (by omega)];exact q) (.inl (Ur (by omega)))
theorem Ju:qT X (Qy .Mod) (rI (λ_ j=>0<j) λi j=> .int (i % j)):=opI λi j _ _ _ _ _ hc q=>by
 have h1:(0:Int)<j:=hc;exact mod_int' (by omega) (by rw[Int.fmod_eq_emod_of_nonneg i (by omega)];exact q)
theorem unI {f:Oa->Sem Oa}{g:Int->Int}
  (rule:∀(i:Int) (t:Tok) (s:Od) (Q:Oa->Od->Prop) (E:Oa->Od->Prop),Q (.int (g i) s.toks) { s with toks:=s.toks+1 }->wpAny (model X.prog X.w) X.A (f (.int i t)) Q E s) :
  UnR X f (rU λi=> .int (g i)):=by
 intro pins s σ H x v Q I rx h;obtain⟨i,rfl,q⟩:=h;obtain⟨t,rfl⟩:=rx;exact rule i t s _ _ ⟨.int (g i),H,I.tok _,⟨_,rfl⟩,q⟩
theorem BU:UnR X (unaryOp .USub) (rU λi=> .int (-i)):=unI λ_ _ _ _ _ q=>neg_int q
end
def scal:V->V->Bool
 | .non,.non=>true | .non,.int _=>true | .int _,.non=>true | .non,.bl _=>true | .bl _,.non=>true | .non,.str _=>true | .str _,.non=>true
 | .int _,.int _=>true | .bl _,.bl _=>true | .str _,.str _=>true | .byt _,.byt _=>true
 | .int _,.str _=>true | .str _,.int _=>true | .bl _,.str _=>true | .str _,.bl _=>true
 | _,_=>false
def rNe:R2:=λx y H Q=>scal x y=true/\Q (.bl (!decide (x=y))) H
theorem GU {i j:Int}:decide (V.int i=V.int j)=(i == j):=by
 rw[Pe];simp
theorem Kp {i j:Bool}:decide (V.bl i=V.bl j)=(i == j):=by
 rw[Pe];simp
theorem GS {i j:Str}:decide (V.str i=V.str j)=(i == j):=by
 rw[Pe];simp
theorem GV {i j:Array UInt8}:decide (V.byt i=V.byt j)=(i.toList == j.toList):=by
 rw[Pe];cases i;cases j;simp
section
variable {X:Cx}{a b c:Expr}{ta tb tc:TE}{pos:Pos}
theorem dY {pins:List (Addr×Obj)}{σ:St}{H:Hp}{s:Od}{Q:VK}{k k':Bool}(I:Inv X pins σ H s)(q:Q (.bl k) H)(e:k=k'):EP X pins σ Q (.bool k') s:=by
 subst e;exact⟨.bl k,H,I,rfl,q⟩
theorem LG:qT X (Po .NotEq) rNe:=by
 intro pins s σ H x y v u Q I rx ry h;obtain⟨hs,q⟩:=h
 cases x with
 | non=>
  cases rx
  cases y with
  | non=>cases ry;exact PySem.EqNone.ne_none_none (dY I q (by simp))
  | bl j=>cases ry;exact PySem.EqNone.ne_none_bool (dY I q (by simp))
  | int j=>obtain⟨t',rfl⟩:=ry;exact PySem.EqNone.ne_none_int (dY I q (by simp))
  | str j=>obtain⟨t',rfl⟩:=ry;exact PySem.EqNone.ne_none_str (dY I q (by simp))
  | _=>exact absurd (show false=true from hs) OF
 | bl i=>
  cases rx
  cases y with
  | non=>cases ry;exact PySem.EqNone.ne_bool_none (dY I q (by simp))
  | bl j=>cases ry;exact ne_bool (dY I q (congrArg not Kp))
  | str j=>obtain⟨t',rfl⟩:=ry;exact PySem.EqMixed.ne_bool_str (dY I q (by simp))
  | _=>exact absurd (show false=true from hs) OF
 | int i=>
  obtain⟨t,rfl⟩:=rx
  cases y with
  | non=>cases ry;exact PySem.EqNone.ne_int_none (dY I q (by simp))
  | int j=>obtain⟨t',rfl⟩:=ry;exact ne_int (dY I q (congrArg not GU))
  | str j=>obtain⟨t',rfl⟩:=ry;exact PySem.EqMixed.ne_int_str (dY I q (by simp))
  | _=>exact absurd (show false=true from hs) OF
 | str i=>
  obtain⟨t,rfl⟩:=rx
  cases y with
  | non=>cases ry;exact PySem.EqNone.ne_str_none (dY I q (by simp))
  | bl j=>cases ry;exact PySem.EqMixed.ne_str_bool (dY I q (by simp))
  | int j=>obtain⟨t',rfl⟩:=ry;exact PySem.EqMixed.ne_str_int (dY I q (by simp))
  | str j=>obtain⟨t',rfl⟩:=ry;exact ne_str (dY I q (congrArg not GS))
  | _=>exact absurd (show false=true from hs) OF
 | byt i=>
  obtain⟨t,rfl⟩:=rx
  cases y with
  | byt j=>obtain⟨t',rfl⟩:=ry;exact PySem.W.ne_bytes (dY I q (congrArg not GV))
  | _=>exact absurd (show false=true from hs) OF
 | _=>cases y <;> exact absurd (show false=true from hs) OF
theorem LH:qT X (Po .Lt) (ID λi j=> .bl (decide (i<j))):=LL λ_ _ _ _ _ _ _ q=>lt_int q
theorem LI:qT X (Po .LtE) (ID λi j=> .bl (decide (i<=j))):=LL λ_ _ _ _ _ _ _ q=>le_int q
theorem Jv:qT X (Po .Is) (λx y H Q=>y= .non/\Q (.bl (decide (x= .non))) H):=by
 intro pins s σ H x y v u Q I rx ry h;obtain⟨rfl,q⟩:=h;cases ry;refine is_none_gen (dY I q ?_)
 cases x <;> first
  | (cases rx;rfl)
  | (obtain⟨t,rfl⟩:=rx;rfl)
theorem F8:qT X (Po .IsNot) (λx y H Q=>y= .non/\Q (.bl (!decide (x= .non))) H):=by
 intro pins s σ H x y v u Q I rx ry h;obtain⟨rfl,q⟩:=h;cases ry;refine isnot_none_gen (dY I q ?_)
 cases x <;> first
  | (cases rx;rfl)
  | (obtain⟨t,rfl⟩:=rx;rfl)
theorem JB (b:Expr){op:Xw}(h:autoParam (op≠ .In) s_)(h2:autoParam (op≠ .NotIn) s_):RQ op b=false:=by
 have e1:(op == CmpOp.In)=false:=by cases op <;> first | rfl | exact absurd rfl h
 have e2:(op == CmpOp.NotIn)=false:=by cases op <;> first | rfl | exact absurd rfl h2
 cases b <;> simp[RQ,e1,e2]
def KS (t:TE):TT:=λσ H Q=>t σ H λx H'=> ∃k,x= .bl k/\Q k H'
theorem FV {op:Xw}{r:R2}(ho:qT X (Po op) r)(ha:PE X a ta)(hb:PE X b tb)(hm:RQ op b=false):PT X (.Compare a [op] [b] pos) (KS (tOp r ta tb)):=by
 intro pins s σ H Q I h
 refine UO (cL (ha pins s σ H _ I h) λv s1 ⟨x,H1,I1,r1,q1⟩=>cL (hb pins s1 σ H1 _ I1 q1) λu s2 ⟨y,H2,I2,r2,q2⟩=>
  cL (ho pins s2 σ H2 x y v u _ I2 r1 r2 q2) λc s3 ⟨z,H3,I3,r3,k,e,q3⟩=> ?_) hm
 subst e;cases r3;exact Pg ⟨H3,I3,q3⟩
theorem qf:(sizeLine:Nat)<2 ^ 63:=by rw[PH];decide
theorem x5:qT X (Qy .Add) (λx y H Q=> ∃i j,x= .str i/\y= .str j/\i.length+j.length<=sizeLine/\Q (.str (i++j)) H):=by
 intro pins s σ H x y v u Q I rx ry h;obtain⟨i,j,rfl,rfl,hz,q⟩:=h;obtain⟨t,rfl⟩:=rx;obtain⟨t',rfl⟩:=ry;exact add_str (λt' tk=>⟨.str (i++j),H,I.tok _,⟨_,rfl⟩,q⟩) hz
theorem lG {x:V}{us:List Oa}(r:Vals [x] us):∃u,us= [u]/\RelV x u:=by
 cases r with
 | cons r1 r2=>cases r2;exact⟨_,rfl,r1⟩
theorem zc {x y:V}{us:List Oa}(r:Vals [x,y] us):∃u w',us= [u,w']/\RelV x u/\RelV y w':=by
 cases r with
 | cons r1 r2=>
  cases r2 with
  | cons r3 r4=>cases r4;exact⟨_,_,rfl,r1,r3⟩
theorem Bv (hc:X.calm=true):CallR X (.builtin "max") (λxs H Q=> ∃i j,xs= [.int i,.int j]/\Q (.int (if j > i then j else i)) H):=by
 intro pins s σ H xs us Q I r h;obtain⟨i,j,rfl,q⟩:=h;obtain⟨u,w',rfl,⟨t,rfl⟩,⟨t',rfl⟩⟩:=zc r;refine max_two_ints (I.ok.hd hc) λh' tk k=>⟨_,H,I.kept k,?_,q⟩
 by_cases hj:j > i
 ·rw[if_pos hj,if_pos hj];exact⟨_,rfl⟩
 ·rw[if_neg hj,if_neg hj];exact⟨_,rfl⟩
theorem Bw:CallR X (.type "int") (λxs H Q=>(∃i,xs= [.int i]/\Q (.int i) H)\/∃k,xs= [.bl k]/\Q (.int (if k then 1 else 0)) H):=by
 intro pins s σ H xs us Q I r h;rcases h with⟨i,rfl,q⟩ | ⟨k,rfl,q⟩
 ·obtain⟨u,rfl,t,rfl⟩:=lG r
  exact call_int_int ⟨.int i,H,I,⟨_,rfl⟩,q⟩
 ·obtain⟨u,rfl,r1⟩:=lG r
  cases r1;exact call_int_bool ⟨.int (if k then 1 else 0),H,I.tok _,⟨_,rfl⟩,q⟩
end
structure ObjM (h:Heap)(x dx C:Addr)(mA:Str->Option Oa):Prop where
 obj:h.get? x=some (Ux C dx)
 ns:h.Ns1 dx mA
 ne:dx≠x
theorem AZ {h:Heap}{dx:Addr}{mA:Str->Option Oa}(n:h.Ns1 dx mA):∃od,h.get? dx=some od/\∀name,Va name od=some (mA name):=by
 obtain⟨o,es,ep,ho,hd,hk,_,hm⟩:=n;refine⟨o,ho,λname=> ?_⟩
 have e:=hm name;unfold nsFind findBy at e;rw[<-Vv]at e
 unfold Va;rw[hd]
 dsimp only
 split
 ·rename_i y q
  rw[q]at e;exact congrArg some e
 ·rename_i q
  rw[q]at e
  have a:es.toList.any (·.refKey)=false:=by
   rw[TN];intro y hy;obtain⟨z,t,hkey⟩:=hk y (Array.mem_toList_iff.mp hy);simp[DictEntry.refKey,hkey]
  have a':¬ es.toList.any (·.refKey)=true:=by rw[a];exact OF
  rw[if_neg a'];exact congrArg some e
theorem ObjM.look {h:Heap}{x dx C:Addr}{mA:Str->Option Oa}(I:ObjM h x dx C mA):∃od,PySem.W.InstAt h x (Ux C dx) C (some od)/\∀name,Va name od=some (mA name):=
 let ⟨od,ho,hl⟩:=AZ I.ns
 ⟨od,⟨I.obj,rfl,rfl,ho⟩,hl⟩
theorem RelO.some_of {v:V}{o:Option Oa}(r:RelO (some v) o):∃u,o=some u/\RelV v u:=by
 cases o with
 | none=>exact(show False from r).elim
 | some u=>exact⟨u,rfl,r⟩
section
variable {P:OH}{w:Px}{H H':Hp}{h h':Heap}{a C dx:Addr}{fs fs':List (Str×V)}
theorem GB (hok:HOk P w H h)(e:H a=some (.ins C dx fs)):∃mA,ObjM h a dx C mA/\(∀f,RelO (fs.lookup f) (mA f))/\PySem.Within mA (fs.map (·.1))/\fs.length<=1000/\H dx=some (.own a):=by
 obtain⟨d,z,ne,ob,mA,n,r,q⟩:=(show ObjOk P w H h a (.ins C dx fs)from hok a _ e)
 exact⟨mA,⟨ob,n,ne⟩,r,q,z,d⟩
end
structure Cls (K:N6)(C:Addr):Prop where
 pg:WD K C Str.empty=true
 hd:PySem.W.hasDictIn K C=true
 po:PySem.W.plainOver K C=true
 sa:PySem.W.findIn K (.ref C) "__setattr__" =some (some (.builtin "object.__setattr__"))
theorem Cls.get {K:N6}{C:Addr}(c:Cls K C)(f:Str):WD K C f=true:=c.pg
section
variable {X:Cx}{pins:List (Addr×Obj)}{σ:St}{H:Hp}{s:Od}{A:OV}{E:Oa->Od->Prop}{Q:Oa->Od->Prop}{c:Oa}{b:Bool}
inductive nr (K:N6) (H:Hp):V->Oa->Prop where
 | non:nr K H .non (.type "NoneType")
 | bl (x:Bool):nr K H (.bl x) (.type "bool")
 | int (i:Int):nr K H (.int i) (.type "int")
 | str (x:Str):nr K H (.str x) (.type "str")
 | flt (x:UInt64):nr K H (.flt x) (.type "float")
 | lst {a:Addr} {xs:List V} (e:H a=some (.lst xs)):nr K H (.ref a) (.type "list")
 | frz {a:Addr} {o:Obj} {xs:List V} (e:H a=some (.frz o (.lst xs))):nr K H (.ref a) (.type "list")
 | tup {a:Addr} {xs:List V} (e:H a=some (.tup xs)):nr K H (.ref a) (.type "tuple")
 | dK {a:Addr} {kvs:List (Key×V)} (e:H a=some (.dK kvs)):nr K H (.ref a) (.type "dict")
 | dT {a:Addr} {kvs:List (List Key×V)} (e:H a=some (.dT kvs)):nr K H (.ref a) (.type "dict")
 | ins {a C dx:Addr} {fs:List (Str×V)} (e:H a=some (.ins C dx fs)) (cl:Cls K C) (ha:PySem.W.findIn K (.ref C) "__class__" =some (some (.builtin "object.__class__")))
   (hn:PySem.W.specialIn K (.builtin "object.__class__") "__get__" =some (some (.builtin "getset_descriptor.__get__"))) (htk:PySem.W.takesIn K (.builtin "object.__class__")=some true)
   (hm:PySem.W.mroIn K C (.type "object")=some true):nr K H (.ref a) (.ref C)
theorem A9 {x:V}{u t:Oa}(I:Inv X pins σ H s)(rx:RelV x u)(ty:nr X.K H x t)(e:PySem.W.kitOne X.K t c=some b)(h:∀tk,Q (.bool b) { s with toks:=tk }) :
  wpAny (model X.prog X.w) A (call (.builtin "isinstance") [u,c]) Q E s:=by
 cases ty with
 | non=>cases (show u=Pn from rx);exact P2 PySem.W.kitx_none I.kIn RL e (λz=>nomatch z) h
 | bl y=>cases (show u=Pp y from rx);exact P2 PySem.W.kitx_bool I.kIn RL e (λz=>nomatch z) h
 | int i=>obtain⟨t,q⟩:=(show ∃t,u=Qd i t from rx);cases q;exact P2 PySem.W.kitx_int I.kIn RL e (λz=>nomatch z) h
 | str y=>obtain⟨t,q⟩:=(show ∃t,u=QD y t from rx);cases q;exact P2 PySem.W.kitx_str I.kIn RL e (λz=>nomatch z) h
 | flt y=>obtain⟨t,q⟩:=(show ∃t,u=Value.float y t from rx);cases q;exact P2 PySem.W.kitx_float I.kIn RL e (λz=>nomatch z) h
 | @lst a xs ea=>
  cases (show u=OA a from rx)
  obtain⟨_,_,n,_,h1⟩:=(show ObjOk X.prog X.w H s.heap a (.lst xs)from I.hok a _ ea)
  exact P2 VZ I.kIn ⟨_,h1,rfl⟩ e (λz=>nomatch z) h
 | @frz a ob xs ea=>
  cases (show u=OA a from rx)
  obtain⟨_,_,_,n,_,h1⟩:=(show ObjOk X.prog X.w H s.heap a (.frz ob (.lst xs))from I.hok a _ ea)
  exact P2 VZ I.kIn ⟨_,h1,rfl⟩ e (λz=>nomatch z) h
 | @tup a xs ea=>
  cases (show u=OA a from rx)
  obtain⟨_,_,_,p⟩:=(show ObjOk X.prog X.w H s.heap a (.tup xs)from I.hok a _ ea)
  obtain⟨o,h1,h2,_⟩:=p
  exact P2 PySem.W.kitx_tuple I.kIn ⟨o,h1,h2⟩ e (λz=>nomatch z) h
 | @dK a kvs ea=>
  cases (show u=OA a from rx)
  obtain⟨_,_,vs,_,p⟩:=(show ObjOk X.prog X.w H s.heap a (.dK kvs)from I.hok a _ ea)
  obtain⟨o,es,ep,h1,h2,_⟩:=p
  exact P2 V0 I.kIn ⟨o,h1,h2.1⟩ e (λz=>nomatch z) h
 | @dT a kvs ea=>
  cases (show u=OA a from rx)
  obtain⟨_,_,xs,_,o,es,ep,h1,h2,_⟩:=(show ObjOk X.prog X.w H s.heap a (.dT kvs)from I.hok a _ ea)
  exact P2 V0 I.kIn ⟨o,h1,h2.1⟩ e (λz=>nomatch z) h
 | @ins a C dx fs ea cl ha hn htk hm=>
  cases (show u=OA a from rx)
  obtain⟨mA,O,_⟩:=GB I.hok ea;obtain⟨od,J,_⟩:=O.look;exact P2 (PySem.W.kitx_own (cl.get _) cl.hd ha hn htk hm) I.kIn J e (λz=>nomatch z) h
end
structure Room (k:Nat)(A:OV):Prop where
 hd:A.handled=none
 dp:A.depth+3*k+5<RX
 un:A.units+16*k+200<cLine
theorem Room.mono {j k:Nat}{A:OV}(r:Room k A)(h:j<=k):Room j A:=⟨r.hd,by have:=r.dp;omega,by have:=r.un;omega⟩
theorem Room.deeper {k:Nat}{A:OV}(r:Room (k+1) A)(env:Env):Room k (A.deeper env):=
 ⟨r.hd,by have:=r.dp;show A.depth+1+3*k+5<_;omega,by have:=r.un;show A.units+3+16*k+200<_;omega⟩
theorem Room.in1 {k:Nat}{A:OV}(r:Room (k+1) A):Room k A.in1:=
 ⟨r.hd,by have:=r.dp;show A.depth+3*k+5<_;omega,by have:=r.un;show A.units+1+16*k+200<_;omega⟩
theorem Room.depth {k:Nat}{A:OV}(r:Room k A):A.depth<RX:=by have:=r.dp;omega
def sZ:TA:=λ_ H Q=>Q [] H
def hZ (ta:TE)(tr:TA):TA:=λσ H Q=>ta σ H λx H1=>tr σ H1 λxs H2=>Q (x::xs) H2
section
variable {X:Cx}{e:Expr}{es:List Expr}{te:TE}{t:TA}{pos:Pos}
theorem dQ:PA X [] sZ:=λ_ _ _ _ H Q I h=>Rg ⟨[],H,I,.nil,h⟩
theorem bF (ha:PE X e te)(hr:PA X es t)(hs:Oy (e::es) X.env=(false,eval e X.env)::Oy es X.env:=by rfl):PA X (e::es) (hZ te t):=by
 intro pos pins s σ H Q I h;rw[hs]
 show wpAny _ _ (spliced ((false,eval e X.env)::backTo pos (Oy es X.env))) _ _ s
 refine RB (cL (ha pins s σ H _ I h) λu s1 hh_=> ?_)
 obtain⟨x,H1,I1,r1,q1⟩:=hh_;exact cL (hr pos pins s1 σ H1 _ I1 q1) λus s2 ⟨xs,H2,I2,r2,q2⟩=>⟨x::xs,H2,I2,.cons r1 r2,q2⟩
def Fb (t:TA):TE:=λσ H Q=>t σ H λxs H1=>xs.length<=sizeLine/\∀p,H1 p=none->Q (.ref p) (upd H1 p (.tup xs))
def tLst (t:TA):TE:=λσ H Q=>t σ H λxs H1=>xs.length<=sizeLine/\∀p,H1 p=none->Q (.ref p) (upd H1 p (.lst xs))
theorem tU {x1}(h:PA X es t):PE X (.Tuple es x1 pos) (Fb t):=by
 intro pins s σ H Q I hq;refine wpAny_Tuple_spliced (cL (h pos pins s σ H _ I hq) λus s1 ⟨xs,H1,I1,r,z,q⟩=>⟨by rw[<-r.length];exact z,?_⟩)
 have hf:H1 s1.heap.objs.size=none:=I1.hok.fresh (Ot _);refine⟨.ref s1.heap.objs.size,upd H1 s1.heap.objs.size (.tup xs),I1.laid (t':=s1.toks) (λb u e=>Oh _ e) (Ot _) ?_,rfl,q _ hf⟩
 exact⟨z,us,r,⟨_,Oz _ rfl,rfl,_,rfl⟩⟩
theorem tV (h:PA X es t):PE X (.List es pos) (tLst t):=by
 intro pins s σ H Q I hq;refine VP (cL (h pos pins s σ H _ I hq) λus s1 ⟨xs,H1,I1,r,z,q⟩=>⟨by rw[<-r.length];exact z,?_⟩)
 have hf:H1 s1.heap.objs.size=none:=I1.hok.fresh (Ot _);refine⟨.ref s1.heap.objs.size,upd H1 s1.heap.objs.size (.lst xs),I1.laid (t':=s1.toks) (λb u e=>Oh _ e) (Ot _) ?_,rfl,q _ hf⟩
 exact⟨z,us,0,r,Oz _ rfl⟩
end
abbrev Sp:=List V->Hp->VK->XK->Prop
abbrev BL:=List Env->Hp->Od->XK->Oa->Od->Prop
structure Env0 (P:OH)(w:Px)(K:N6)(mg:Str->Option Oa)(base:Heap)(A:OV)(outer:List Env)(s:Od)(H:Hp):Prop where
 frames:A.frames=some outer
 mod:Mod K mg base
 bs:∀b o,base.get? b=some o->s.heap.get? b=some o/\H b=none
 bsz:base.objs.size<=s.heap.objs.size
 funs:s.heap.FunFrames base outer
 frf:∀b∈kF outer,H b=none
 hok:HOk P w H s.heap
 bare:Rk s.gens
 tb:Tb K mg H
def CE (outer:List Env)(P:OH)(w:Px)(H:Hp)(s:Od)(Q:VK)(u:Oa)(s':Od):Prop:=
 ∃v H',s'.os=s.os/\Rk s'.gens/\Un (kF outer) [] H H' s.heap s'.heap/\HOk P w H' s'.heap/\RelV v u/\Q v H'
def CR (CX:BL)(outer:List Env)(P:OH)(w:Px)(H:Hp)(s:Od)(Q:VK)(E:XK)(r:Xj)(s':Od):Prop:=
 match r with
 | .ok (.ret u)=>CE outer P w H s Q u s'
 | .ok _=>False
 | .error e=>CX outer H s E e s'
structure rB (P:OH)(w:Px)(K:N6)(mg:Str->Option Oa)(base:Heap)(CX:BL)(k:Nat)(f:Addr)(fd:PV)(ps:List Str)(sp:Sp):Prop where
 len:∀vs H Q E,sp vs H Q E->vs.length=ps.length
 run:∀(A:OV) (outer:List Env) (s:Od) (H:Hp) (args:Args) (us:List Oa) (vs:List V) (Q:VK) (E:XK),Room k A->Env0 P w K mg base A outer s H->Vp s fd args (ps.zip us)->Vals vs us->sp vs H Q E →
  codeAny (model P w) A (.call (.ref f) args) (CR CX outer P w H s Q E) s
theorem Env0.in1 {P:OH}{w:Px}{K:N6}{mg:Str->Option Oa}{base:Heap}{A:OV}{outer:List Env}{s:Od}{H:Hp}(e:Env0 P w K mg base A outer s H) :
  Env0 P w K mg base A.in1 outer s H:=⟨e.frames,e.mod,e.bs,e.bsz,e.funs,e.frf,e.hok,e.bare,e.tb⟩
section
variable {X:Cx}{pins:List (Addr×Obj)}{σ:St}{H:Hp}{s s':Od}
theorem Inv.Np (I:Inv X pins σ H s):Env0 X.prog X.w X.K X.mg X.base X.A X.stack s H:=
 ⟨I.ok.frames,I.ok.mod,I.bs,OI I.ok.bsz I.sz,I.stack,I.GT,I.hok,I.bare,I.tb⟩
theorem Inv.after {Q:VK}{u:Oa}(I:Inv X pins σ H s)(h:CE X.stack X.prog X.w H s Q u s'):EP X pins σ Q u s':=by
 obtain⟨v,H',os,bare,un,hok,r,q⟩:=h;obtain⟨hh,g,d,t,os'⟩:=s';obtain rfl:os'=s.os:=os;exact⟨v,H',I.call (h':=hh) (g':=g) (d':=d) (t':=t) (ch:=[]) un hok bare (λb z=>absurd z (by simp)),r,q⟩
end
def Hl (sp:Sp)(dvs:List V)(E:XK)(t:TA):TE:=λσ H Q=>t σ H λvs H1=>sp (vs++dvs) H1 Q E
def Binds (K:N6)(fd:PV)(ps:List Str)(ds:List Oa):Prop:=
 ∀(s:Od) (us:List Oa),K.In s.heap->(us++ds).length=ps.length->Vp s fd ⟨us,[]⟩ (ps.zip (us++ds))
theorem Binds.all {K:N6}{fd:PV}{ps:List Str}(h:∀us:List Oa,us.length=ps.length->VQ fd ⟨us,[]⟩=pure (ps.zip us)):Binds K fd ps []:=λs us _ hl=>by
 rw[Pz]at hl ⊢;exact .of_eq (h us hl)
def u4 (CX:BL)(X:Cx)(E:XK):Prop:=∀(pins:List (Addr×Obj)) (σ:St) (H:Hp) (s:Od) (e:Oa) (s':Od),Inv X pins σ H s->CX X.stack H s E e s'->X.xe e s'
section
variable {X:Cx}{CX:BL}{k:Nat}{f C:Addr}{fd:PV}{ps:List Str}{sp:Sp}{dvs:List V}{ds:List Oa}{E:XK}{x m:Str}{p pos apos:Pos}{e o:Expr}{es:List Expr}{ta:TE}{t:TA}
theorem xT {pins:List (Addr×Obj)}{σ:St}{H:Hp}{s:Od}{Q:VK}{us:List Oa}{vs:List V}(F:rB X.prog X.w X.K X.mg X.base CX k f fd ps sp)(hr:Room k X.A)(hb:Binds X.K fd ps ds)(hd:Vals dvs ds)(hx:u4 CX X E)
  (I:Inv X pins σ H s) (r:Vals vs us) (h:sp (vs++dvs) H Q E):wpAny (model X.prog X.w) X.A (call (.ref f) us) (EP X pins σ Q) X.xe s:=by
 have r2:Vals (vs++dvs) (us++ds):=r.append hd
 have hl:(us++ds).length=ps.length:=by rw[<-r2.length];exact F.len _ _ _ _ h
 refine UX (Sb (F.run X.A X.stack s H ⟨us,[]⟩ (us++ds) (vs++dvs) Q E hr I.Np (hb s us I.kIn hl) r2 h) λr s' hq=> ?_)
 cases r with
 | error e=>exact hx pins σ H s e s' I hq
 | ok fl=>
  cases fl with
  | ret u=>exact I.after hq
  | next=>exact QP hq
  | brk=>exact QP hq
  | cont=>exact QP hq
theorem zy (F:rB X.prog X.w X.K X.mg X.base CX k f fd ps sp)(hr:Room k X.A)(hg:Gl X x)(hm:X.mg x=some (.ref f))(hk:Qw X.K (.ref f)=true)(hb:Binds X.K fd ps ds)(hd:Vals dvs ds)(hx:u4 CX X E)
  (ha:PA X (e::es) t) (hdb:autoParam ((x == ("__debug__" : Str))=false) s_) (he:Oy (e::es) X.env=(false,eval e X.env)::Oy es X.env:=by rfl) (hpl:(backTo pos (Oy es X.env)).any (·.1)=false:=by rfl) :
  PE X (.Call (.Name x p) (e::es) [] pos) (Hl sp dvs E t):=by
 intro pins s σ H Q I h;refine Pc (jd I hg hm ?_ hdb)
 refine Sf (h₀:=X.base) I.ok.mod.kin hk (cL (ha pos pins s σ H _ I h) λus s1 ⟨vs,H1,I1,r,q⟩=>⟨I1.kIn,?_⟩) he hpl
 exact xT F hr hb hd hx I1 r q
theorem CS (F:rB X.prog X.w X.K X.mg X.base CX k f fd ps sp)(hr:Room k X.A)(hg:Gl X x)(hm:X.mg x=some (.ref f))(hk:Qw X.K (.ref f)=true)(hb:Binds X.K fd ps ds)(hd:Vals dvs ds)(hx:u4 CX X E)
  (hdb:autoParam ((x == ("__debug__" : Str))=false) s_):PE X (.Call (.Name x p) [] [] pos) (Hl sp dvs E sZ):=by
 intro pins s σ H Q I h;refine Pc (jd I hg hm ?_ hdb)
 exact PySem.W.callWith_K0 I.kIn hk (xT (us:=[]) F hr hb hd hx I .nil h)
end
def PK (X:Cx)(kws:List Wl)(t:TA):Prop:=
 ∀(pos:Pos) (pins:List (Addr×Obj)) (s:Od) (σ:St) (H:Hp) (Q:List V->Hp->Prop),Inv X pins σ H s->t σ H Q->wpAny (model X.prog X.w) X.A (evalAll ((VR pos (Tf kws X.env)).map (·.2))) (AP X pins σ Q) X.xe s
structure dj (N P:List Str)(sc:RI):Prop where
 kind:sc.kind= .function
 co:sc.isCoroutine=false
 gen:sc.isGenerator=false
 nd:N.Nodup
 pre:N.take P.length=P
 par:∀x∈P,sc.names.lookup x=some .local\/sc.names.lookup x=some .cell
 nofree:∀y∈sc.names,y.2≠ .free
theorem sI {kindOf:Str->Option RP}{x:Str}:∀{binds:List (Str×Oa)} {m:Str->Option Oa},(∀v,(x,v)∉binds)->bindL kindOf binds m x=m x
 | [],_,_=>rfl
 | (n,v)::r,m,h=>by
  unfold bindL;rw[sI λw hw=>h w (N8 _ hw)]
  split
  ·have:x≠n:=by rintro rfl;exact h v Oe
   simp[this]
  ·rfl
theorem sL {kindOf:Str->Option RP}{x:Str}:∀{binds:List (Str×Oa)} {m:Str->Option Oa},(∀v,(x,v)∉binds)->bindC kindOf binds m x=m x
 | [],_,_=>rfl
 | (n,v)::r,m,h=>by
  unfold bindC;rw[sL λw hw=>h w (N8 _ hw)]
  split
  ·rfl
  ·have:x≠n:=by rintro rfl;exact h v Oe
   simp[this]
theorem sJ {kindOf:Str->Option RP}{x:Str}{v:Oa}:∀{P:List Str} {vs:List Oa} {i:Nat} {m:Str->Option Oa},P.Nodup->P[i]? =some x->vs[i]? =some v->kindOf x=some .local →
  bindL kindOf (P.zip vs) m x=some v
 | [],_,_,_,_,h,_,_=>by simp at h
 | _::_,[],_,_,_,_,h,_=>by simp at h
 | p::P,w::vs,0,m,nd,h1,h2,hk=>by
  simp at h1 h2;subst h1;subst h2
  show bindL kindOf ((p,w)::P.zip vs) m p=_
  unfold bindL;rw[sI λv hv=>(OZ.mp nd).1 (Rh hv).1,if_pos hk]
  simp
 | p::P,w::vs,i+1,m,nd,h1,h2,hk=>by
  show bindL kindOf ((p,w)::P.zip vs) m x=_
  unfold bindL;exact sJ (i:=i) (OZ.mp nd).2 (by simpa using h1) (by simpa using h2) hk
theorem sM {kindOf:Str->Option RP}{x:Str}{v:Oa}:∀{P:List Str} {vs:List Oa} {i:Nat} {m:Str->Option Oa},P.Nodup->P[i]? =some x->vs[i]? =some v->kindOf x≠some .local →
  bindC kindOf (P.zip vs) m x=some v
 | [],_,_,_,_,h,_,_=>by simp at h
 | _::_,[],_,_,_,_,h,_=>by simp at h
 | p::P,w::vs,0,m,nd,h1,h2,hk=>by
  simp at h1 h2;subst h1;subst h2
  show bindC kindOf ((p,w)::P.zip vs) m p=_
  unfold bindC;rw[sL λv hv=>(OZ.mp nd).1 (Rh hv).1,if_neg hk]
  simp
 | p::P,w::vs,i+1,m,nd,h1,h2,hk=>by
  show bindC kindOf ((p,w)::P.zip vs) m x=_
  unfold bindC;exact sM (i:=i) (OZ.mp nd).2 (by simpa using h1) (by simpa using h2) hk
def start (N:List Str)(vs:List V):St:=vs.map some++OJ (N.length - vs.length) none
def jk (CX:BL)(P:OH)(w:Px)(K:N6)(mg:Str->Option Oa)(base:Heap)(N:List Str)(qual:Str)(scope:RI)(f:Addr)(cd:Oa)(A:OV)(outer:List Env)(s:Od)(H:Hp)(E:XK):Cx where
 prog:=P
 w:=w
 K:=K
 mg:=mg
 base:=base
 A:=A.deeper (envOfC qual scope s.heap.objs.size f cd)
 N:=N
 s₀:=s
 H₀:=H
 env:=envOfC qual scope s.heap.objs.size f cd
 outer:=outer
 stack:=envOfC qual scope s.heap.objs.size f cd::outer
 ex:=[]
 calm:=true
 fn:=λ_=>true
 pn:=[]
 xe:=λe s'=>wpAny (model P w) (A.deeper (envOfC qual scope s.heap.objs.size f cd)) (leaving (envOfC qual scope s.heap.objs.size f cd) e) (λ_ s''=>CX outer H s E e s'') (λe' s''=>CX outer H s E e' s'') s'
theorem w8 {sc:RI}{n:Nat}{x:Str}(h:sc.names.lookup x=some .cell):∃c,(QV n sc.names []).lookup x=some c:=by
 have q:=Q0 sc.names n [] (.inl h);exact R7.mp q
theorem kE {CX:BL}{P:OH}{w:Px}{K:N6}{mg:Str->Option Oa}{base:Heap}{N ps:List Str}{qual:Str}{scope:RI}{f:Addr}{cd:Oa}{A:OV}{outer:List Env}{s s1:Od}{H:Hp}{E:XK}{us:List Oa}{vs:List V}
  (S:dj N ps scope) (hd:A.handled=none) (e0:Env0 P w K mg base A outer s H) (hl:vs.length=ps.length) (r:Vals vs us)
  (x:InCallC s s.heap.objs.size (bindL (envOfC qual scope s.heap.objs.size f cd).kindOf (ps.zip us) λ_=>none) (QV (s.heap.objs.size+1) scope.names []) (bindC (envOfC qual scope s.heap.objs.size f cd).kindOf (ps.zip us) λ_=>none) s1) :
  Inv (jk CX P w K mg base N qual scope f cd A outer s H E) [] (start N vs) H s1:=by
 have hpl:ps.length<=N.length:=by have:=congrArg PB S.pre;rw[Pq]at this;omega
 obtain⟨h1,tk,rfl,hk⟩:=x.done
 have noA:∀b:Addr,b∉(jk CX P w K mg base N qual scope f cd A outer s H E).ex:=λb z=>absurd (show b∈([]:List Addr)from z) (by simp)
 refine⟨⟨e0.mod,S.kind,rfl,rfl,Ot _,λy z c h1 h2=> ?_,λy hy=> ?_,λy c _ h=> ?_,λ_=>hd,U3 e0.frames,.inr ⟨rfl,rfl⟩,λb z=>absurd z (noA b),e0.bs,e0.bsz,λb _ _=>noA b,λb z=>absurd z (noA b),e0.funs,e0.frf,e0.tb⟩,
  rfl,e0.bare,Un.kept hk,⟨_,x.toInCall.ns,λi y v h1 h2 h3=> ?_⟩,λy c h=>⟨_,x.cell y c h⟩,e0.hok.fresh (Ot _),λy c h=> ?_,λp hp=>absurd (show p∈([]:List (Addr×Obj))from hp) (by simp),e0.hok.kept hk,?_⟩
 ·exact name_of_addr x.apart (QU h1) (QU h2)
 ·have hy:scope.names.lookup y=some .cell\/scope.names.lookup y=some .free:=hy
  rcases hy with hy | hy
  ·exact w8 hy
  ·exact absurd rfl (S.nofree _ (QU hy))
 ·exact Qb (x.above y c (QU h))
 ·have hi:i<vs.length:=by
   unfold start at h2
   by_cases hi:i<vs.length
   ·exact hi
   ·rw[RT (by simpa using hi)]at h2
    rw[Ro]at h2
    split at h2 <;> cases h2
  have ha:vs[i]? =some v:=by
   unfold start at h2;rw[Rb (by simpa using hi),Ov]at h2
   cases e:vs[i]? with
   | none=>rw[e]at h2;cases h2
   | some a=>rw[e]at h2;cases h2;rfl
  obtain⟨u,hu,rv⟩:=r.get ha
  have hp:ps[i]? =some y:=by
   rw[<-S.pre,List.getElem?_take_of_lt (by omega)];exact h1
  have ndP:ps.Nodup:=by rw[<-S.pre];exact S.nd.sublist (List.take_sublist _ _)
  refine⟨u,rv,?_⟩
  rcases S.par y (Py hp)with k | k
  ·exact .inl ⟨k,sJ ndP hp hu k⟩
  ·obtain⟨c,e⟩:=w8 (n:=s.heap.objs.size+1) k
   refine .inr ⟨.inl k,c,e,?_⟩
   have q:=x.cell y c e;rw[sM ndP hp hu (by show scope.names.lookup y≠_;rw[k];decide)]at q
   exact q
 ·exact e0.hok.fresh (Qb (x.above y c (QU h)))
 ·unfold start
  show _=N.length
  rw[Om,Ob,List.length_replicate];omega
theorem Mm {CX:BL}{P:OH}{w:Px}{K:N6}{mg:Str->Option Oa}{base:Heap}{k:Nat}{f:Addr}{name qual:Str}{params:SQ}{body:List Stmt}{scope:RI}{dV kV doc pm cdv ct oc:Oa}{an od:Option Addr}
  {osl:Array (Option Oa)} {N ps:List Str} {sp:Sp} (lk:K.lookup f=some ⟨oc,od,.func (R5 name qual params body scope dV kV doc pm an cdv ct),osl⟩) (hcd:Vb K cdv qual=true) (S:dj N ps scope)
  (len:∀vs H Q E,sp vs H Q E->vs.length=ps.length)
  (hbody:∀(A:OV) (outer:List Env) (s:Od) (H:Hp) (vs:List V) (Q:VK) (E:XK),Room k (A.deeper (envOfC qual scope s.heap.objs.size f cdv))->sp vs H Q E →
   ∃t,PSs (jk CX P w K mg base N qual scope f cdv A outer s H E) body t/\t { nx:=λ_ H'=>Q .non H',rt:=Q } (start N vs) H) :
  rB P w K mg base CX (k+1) f (R5 name qual params body scope dV kV doc pm an cdv ct) ps sp:=by
 refine⟨len,λA outer s H args us vs Q E hr e0 hb r hsp=> ?_⟩
 have hl:=len _ _ _ _ hsp
 have KX:K.In s.heap:=e0.mod.kin.keeps λb o e=>(e0.bs b o e).1
 have lim:s.heap.NoLimit:=e0.mod.nolimit.keeps λb o e=>(e0.bs b o e).1
 have hkind:∀y∈ps.zip us,scope.names.lookup y.1=some .local\/(scope.names.lookup y.1=some .cell/\((QV (s.heap.objs.size+1) scope.names []).lookup y.1).isSome=true):=λ⟨n,v⟩ hy=>by
  rcases S.par n (Rh hy).1 with q | q
  ·exact .inl q
  ·exact .inr ⟨q,Q0 _ _ _ (.inl q)⟩
 refine SR hr.depth (KX _ _ lk) rfl S.co S.gen rfl (Tt KX hcd) (hb _ _ _ _ ?_)
 refine Q4 S.kind hkind λenv he s1 x=> ?_
 subst he;refine⟨lim.keeps x.toInCall.keep,Wy ?_⟩
 obtain⟨t,ht,hq⟩:=hbody A outer s H vs Q E (hr.deeper _) hsp
 have I:Inv (jk CX P w K mg base N qual scope f cdv A outer s H E) [] (start N vs) H s1:=kE S hr.hd e0 hl r x;refine Qo (ht [] s1 (start N vs) H _ I hq) (λfl s' hs=> ?_) λe s' hs=>hs
 have fin:∀{σ':St} {H':Hp} {v:V} {u:Oa},Inv (jk CX P w K mg base N qual scope f cdv A outer s H E) [] σ' H' s'->RelV v u->Q v H'->CE outer P w H s Q u s':=
  λ{σ' H' v u} J rv q=>⟨v,H',J.os,J.bare,J.base,J.hok,rv,q⟩
 cases fl with
 | ret u=>
  obtain⟨v,σ',H',J,rv,q⟩:=hs
  exact fin J rv q
 | next=>
  obtain⟨σ',H',J,q⟩:=hs
  exact fin (v:=V.non) (u:=Pn) J rfl q
 | brk=>
  obtain⟨_,_,_,q⟩:=hs
  exact QP q
 | cont=>
  obtain⟨_,_,_,q⟩:=hs;exact QP q
end L2
namespace HT
open PySem PyProof.Rows
def lexLt:List Int->List Int->Bool
 | [],[] =>false
 | [],_::_=>true
 | _::_,[] =>false
 | x::xs,y::ys=>if x=y then lexLt xs ys else decide (x<y)
theorem lexLt_cons (x y:Int)(xs ys:List Int):lexLt (x::xs) (y::ys)=if x=y then lexLt xs ys else decide (x<y):=rfl
theorem ro:lexLt [] [] =false:=rfl
theorem qh (y:Int)(ys:List Int):lexLt [] (y::ys)=true:=rfl
theorem qi (x:Int)(xs:List Int):lexLt (x::xs) [] =false:=rfl
theorem Ee (A:OV)(s:Od)(a:Int)(t:Tok)(c:Int)(u:Tok):∃e,SeqAt.EqAt A s (.int a t) (.int c u) e/\(e=true↔a=c):=
 ⟨(a == c),Vs a t c u,by simp⟩
theorem Co (A:OV)(s:Od)(a:Int)(t:Tok)(c:Int)(u:Tok)(prog:OH)(w:Px)(E:Oa->Od->Prop)(Q:Oa->Od->Prop)(h:Q (.bool (decide (a<c))) s) :
  wpAny (model prog w) A (richCompare .Lt (.int a t) (.int c u)) Q E s:=
 (PyProof.Rows.lt_int h:wpAny (model prog w) A (Po .Lt (.int a t) (.int c u)) Q E s)
section
variable {prog:OH}{w:Px}{A:OV}{E:Oa->Od->Prop}{s:Od}
theorem cat_tup {t b:Addr}{vs ws:List Oa}{Q:Oa->Od->Prop}(ht:Xv s.heap t vs.toArray)(hb:Xv s.heap b ws.toArray)(hv:vs≠ [])
  (h1:ws= []->Q (.ref t) s) (h2:ws≠ []->Q (.ref s.heap.objs.size) { s with heap:=s.heap.push { cls:=.type "tuple",data:=.seq (vs++ws).toArray } })
  (hsz:vs.length+ws.length<=sizeLine):wpAny (model prog w) A (Qy .Add (.ref t) (.ref b)) Q E s:=by
 obtain⟨⟨cls,dd,data,sl⟩,ho,hc,n,hd⟩:=id ht;obtain⟨⟨cls2,dd2,data2,sl2⟩,ho2,hc2,n2,hd2⟩:=id hb;simp only at hc hd hc2 hd2;subst hc hd hc2 hd2
 have e:vs.toArray++ws.toArray=(vs++ws).toArray:=by simp
 by_cases hw:ws= []
 ·exact Wz ⟨_,ho,rfl⟩ ⟨_,ho2,rfl⟩ Ul VS Sq Sg (R6 _ _)
   (tuple_addW1 t b vs.toArray ws.toArray n n2 dd dd2 sl sl2 (by simpa using hv) (by simp[hw])) ⟨ho,ho2,h1 hw⟩
 ·refine Wz ⟨_,ho,rfl⟩ ⟨_,ho2,rfl⟩ Ul VS Sq Sg (R6 _ _)
   (tuple_addW2 t b vs.toArray ws.toArray n n2 dd dd2 sl sl2 (by simpa using hv) (by simpa using hw) (by rw[Ox,Ox];exact hsz)) ⟨ho,ho2,?_⟩
  rw[e];exact h2 hw
theorem sIx_none (n d:Nat):sIx n d none=d:=rfl
theorem sIx_nat (n d k:Nat):sIx n d (some (k:Int))=min k n:=by
 show(if (k:Int)<0 then((k:Int)+(n:Int)).toNat else min (k:Int).toNat n)=min k n
 rw[if_neg (by omega),PC]
theorem Iz (n d:Nat)(hd:d<=n)(o:Option Int):sIx n d o<=n:=by
 cases o with
 | none=>exact hd
 | some v=>
  show(if v<0 then(v+(n:Int)).toNat else min v.toNat n)<=n
  by_cases hv:v<0
  ·rw[if_pos hv];omega
  ·rw[if_neg hv];exact Nat.min_le_right _ _
theorem Al (v:Int)(n d:Nat):(if v<0 then max (v+(n:Int)) 0 else min v (n:Int))=((sIx n d (some v):Nat):Int):=by
 show(if v<0 then max (v+(n:Int)) 0 else min v (n:Int))=(((if v<0 then(v+(n:Int)).toNat else min v.toNat n):Nat):Int)
 by_cases hv:v<0
 ·simp only[if_pos hv];omega
 ·simp only[if_neg hv];omega
theorem yT (lo hi:Option Int)(n:Nat):P3 lo hi 1 (n:Int)=(((sIx n 0 lo:Nat):Int),((sIx n n hi:Nat):Int)):=by
 have h1:¬ ((1:Int)<0):=by omega
 unfold P3;simp only[h1,if_false];refine Prod.ext ?_ ?_
 ·cases lo with
  | none=>rfl
  | some v=>exact Al v n 0
 ·cases hi with
  | none=>rfl
  | some v=>exact Al v n n
theorem xY (i j:Nat):Pw (i:Int) (j:Int) 1=j - i:=by
 unfold Pw
 have h1:(1:Int) > 0:=by omega
 simp only[h1,if_true,UB]
 split <;> omega
theorem ph {v:Oa}{o:Option Int}{Q:Option Int->Od->Prop}(p:VT v o)(h:Q o s):wpAny (model prog w) A (WW v) Q E s:=by
 cases p with
 | none=>exact TJ h
 | int i t=>exact slicePart_int h
theorem iP {sl:Addr}{vl vu:Oa}{lo hi:Option Int}{n:Nat}{Q:Int×Int×Nat->Od->Prop}(hs:s.heap.IsSliceOf sl vl vu .none)(pl:VT vl lo)(pu:VT vu hi)
  (h:Q (((sIx n 0 lo:Nat):Int),1,sIx n n hi - sIx n 0 lo) s):wpAny (model prog w) A (Q2 (.ref sl) (pure (n:Int))) Q E s:=by
 obtain⟨os,hos,hcs,hds⟩:=id hs;unfold Q2 TF;refine N7 (N7 (Qv hos hds (x:=vl) rfl (N7 (Qv hos hds (x:=vu) rfl (N7 (Qv hos hds (x:=.none) rfl (Ol ?_)))))))
 refine N7 (TJ ?_)
 show wpAny _ _ (if ((1:Int) == 0)=true then _ else _) _ _ s
 rw[if_neg (by decide)]
 refine N7 (ph pl (N7 (ph pu (N7 (Ol ?_)))))
 show wpAny _ _ (match P3 lo hi 1 (n:Int)with | (lo,hi)=>pure (lo,(1:Int),Pw lo hi 1)) _ _ s
 rw[yT lo hi n]
 show wpAny _ _ (pure (((sIx n 0 lo:Nat):Int),(1:Int),Pw ((sIx n 0 lo:Nat):Int) ((sIx n n hi:Nat):Int) 1)) _ _ s
 rw[xY];exact Ol h
theorem CJ (xs:Array Oa)(i k:Nat):((On k).filterMap λ(m:Nat)=>xs[((i:Int)+(m:Int)*1).toNat]?).toArray=((xs.toList.drop i).take k).toArray:=by
 have e:(λ(m:Nat)=>xs[((i:Int)+(m:Int)*1).toNat]?)=λm=>xs[i+m]?:=by
  funext m
  have:((i:Int)+(m:Int)*1).toNat=i+m:=by omega
  rw[this]
 rw[e]
 have:=pick_run xs i k;rw[Tw]at this
 have e2:((λx=>xs[x]?)∘λx=>i+x)=λm=>xs[i+m]?:=rfl
 rw[e2]at this;rw[this]
theorem getItem_tuple_cut {t sl:Addr}{items:Array Oa}{vl vu:Oa}{lo hi:Option Int}{Q:Oa->Od->Prop}(ht:Xv s.heap t items)(hs:s.heap.IsSliceOf sl vl vu .none)(pl:VT vl lo)(pu:VT vu hi)
  (hw:¬ (sIx items.size 0 lo=0/\sIx items.size items.size hi=items.size))
  (h:Q (.ref s.heap.objs.size) { s with heap:=s.heap.push { cls:=.type "tuple",data:=.seq ((items.toList.drop (sIx items.size 0 lo)).take (sIx items.size items.size hi - sIx items.size 0 lo)).toArray } })
  (hsz:items.size<=sizeLine):wpAny (model prog w) A (getItem (.ref t) (.ref sl)) Q E s:=by
 have htake:sizeOk (.seq ((items.toList.drop (sIx items.size 0 lo)).take (sIx items.size items.size hi - sIx items.size 0 lo)).toArray):=by
  show((items.toList.drop (sIx items.size 0 lo)).take (sIx items.size items.size hi - sIx items.size 0 lo)).toArray.size<=sizeLine
  rw[Ox,Pq,QK,PN];omega
 have hj:sIx items.size items.size hi<=items.size:=Iz _ _ (Ot _) hi;obtain⟨os,hos,hcs,hds⟩:=id hs
 have hTs:s.TypeIs (.ref sl) "slice":=⟨os,hos,hcs⟩;unfold getItem
 try with_reducible refine P7 ?_
 first | refine N7 (Ol ?_) | skip
 refine N7 (T1 ht.typeIs (by decide) ?_)
 refine N7 (Qk (name:=Oo "__getitem__") ht.typeIs OQ
  (Q5 OQ ht.typeIs Tg ?_ (TC _ _)))
 show wpAny _ _ (RS (.ref t) >>= _) _ _ s
 refine N7 (Ue ht ?_)
 refine N7 (Sd hTs ?_)
 rw[if_pos (by decide)]
 refine N7 (iP hs pl pu ?_)
 have hno:¬ ((((sIx items.size 0 lo:Nat):Int) == 0&&(1:Int) == 1&&(sIx items.size items.size hi - sIx items.size 0 lo) == items.size)=true):=by
  intro q;rw[N9,N9]at q
  have q1:((sIx items.size 0 lo:Nat):Int)=0:=eq_of_beq q.1.1
  have q2:sIx items.size items.size hi - sIx items.size 0 lo=items.size:=eq_of_beq q.2;exact hw ⟨by omega,by omega⟩
 show wpAny _ _ (if (((sIx items.size 0 lo:Nat):Int) == 0&&(1:Int) == 1&&(sIx items.size items.size hi - sIx items.size 0 lo) == items.size)=true then _ else _) _ _ s
 rw[if_neg hno,CJ]
 first
  | exact N7 (m:=Pm _) (Pt (Ol ⟨_,rfl,Ol h⟩) htake)
  | exact N7 (m:=Pm _) (Pt (N7 (Ol (Ol ⟨_,rfl,Ol h⟩))) htake)
  | exact N7 (N7 (m:=Pm _) (Pt (Ol (Ol ⟨_,rfl,Ol h⟩)) htake))
  | exact N7 (N7 (m:=Pm _) (Pt (Ol ⟨_,rfl,Ol h⟩) htake))
end
end HT
namespace L2
open PySem PySem.Spec PyProof.Rows
abbrev TO:=St->Hp->(Option Int->Hp->Prop)->Prop
def PO (X:Cx)(e:Option Expr)(t:TO):Prop:=
 ∀(pins:List (Addr×Obj)) (s:Od) (σ:St) (H:Hp) (Q:Option Int->Hp->Prop),Inv X pins σ H s->t σ H Q →
  wpAny (model X.prog X.w) X.A (evalPart e X.env) (λu s'=> ∃o H',Inv X pins σ H' s'/\VT u o/\Q o H') X.xe s
def Fd:TO:=λ_ H Q=>Q none H
def KU (t:TE):TO:=λσ H Q=>t σ H λx H1=> ∃i,x= .int i/\Q (some i) H1
theorem yE {ns:List Int}:∀{us:List Oa},Vals (ns.map V.int) us->Qp us ns:=by
 induction ns with
 | nil=>intro us r;rw[Tx]at r;cases r;exact .nil
 | cons n ns ih=>
  intro us r;rw[Oc]at r
  cases r with
  | cons r1 r2=>
   obtain⟨t,e⟩:=r1;subst e;exact .cons n t (ih r2)
section
variable {X:Cx}{e:Expr}{te:TE}{lo hi:Option Expr}{tl th:TO}{pos p2:Pos}
theorem FY:PO X none Fd:=by
 intro pins s σ H Q I h;rw[VU];exact Ol ⟨none,H,I,.none,h⟩
theorem FX (h:PE X e te):PO X (some e) (KU te):=by
 intro pins s σ H Q I hw;rw[evalPart_some];refine cL (h pins s σ H _ I hw) λu s1 hh_=> ?_
 obtain⟨x,H1,I1,r1,q1⟩:=hh_;obtain⟨i,rfl,q⟩:=q1;obtain⟨t,rfl⟩:=r1;exact⟨some i,H1,I1,.int i t,q⟩
def SlR (X:Cx)(r:V->Option Int->Option Int->Hp->VK->Prop):Prop:=
 ∀(pins:List (Addr×Obj)) (s:Od) (σ:St) (H:Hp) (x:V) (v vl vu:Oa) (lo hi:Option Int) (sl:Addr) (Q:VK),Inv X pins σ H s->RelV x v->s.heap.IsSliceOf sl vl vu .none->VT vl lo->VT vu hi->r x lo hi H Q →
  ∃T id,SA (.type T) "__getitem__" =pure (some (.builtin id))/\s.TypeIs v T/\wpAny (model X.prog X.w) X.A (getItem v (.ref sl)) (EP X pins σ Q) X.xe s
theorem SlR.or {r r':V->Option Int->Option Int->Hp->VK->Prop}(h:SlR X r)(h':SlR X r'):SlR X (λx lo hi H Q=>r x lo hi H Q\/r' x lo hi H Q):=by
 intro pins s σ H x v vl vu lo hi sl Q I rx hs pl pu q;rcases q with q | q
 ·exact h pins s σ H x v vl vu lo hi sl Q I rx hs pl pu q
 ·exact h' pins s σ H x v vl vu lo hi sl Q I rx hs pl pu q
def tSl (r:V->Option Int->Option Int->Hp->VK->Prop)(te:TE)(tl th:TO):TE:=λσ H Q=>te σ H λx H1=>tl σ H1 λl H2=>th σ H2 λu H3=>r x l u H3 Q
theorem CM {r:V->Option Int->Option Int->Hp->VK->Prop}(hr:SlR X r)(he:PE X e te)(hl:PO X lo tl)(hu:PO X hi th):PE X (.Subscript e (.Slice lo hi none p2) pos) (tSl r te tl th):=by
 intro pins s σ H Q I h;refine UY (cL (he pins s σ H _ I h) λv s1 hh_=> ?_)
 obtain⟨x,H1,I1,r1,q1⟩:=hh_;refine wpAny_Slice (cL (hl pins s1 σ H1 _ I1 q1) λvl s2 ⟨l,H2,I2,pl,q2⟩=>cL (hu pins s2 σ H2 _ I2 q2) λvu s3 hh_=> ?_)
 obtain⟨u,H3,I3,pu,q3⟩:=hh_;rw[VU];refine Ol ?_
 have I4:Inv X pins σ H3 { s3 with heap:=s3.heap.push { cls:=.type "slice",data:=.fields #[vl,vu,.none] } }:=I3.kept (t':=s3.toks) λb ob q=>Oh _ q
 obtain⟨T,id,hT,ht,hg⟩:=hr pins { s3 with heap:=s3.heap.push { cls:=.type "slice",data:=.fields #[vl,vu,.none] } } σ H3 x v vl vu l u s3.heap.objs.size Q I4 r1 (Tu ..) pl pu q3
 show wpAny (model X.prog X.w) X.A (VV e (.Slice lo hi none p2) v (.ref s3.heap.objs.size)) (EP X pins σ Q) X.xe { s3 with heap:=s3.heap.push { cls:=.type "slice",data:=.fields #[vl,vu,.none] } }
 exact tail_any (ops:=[.ref s3.heap.objs.size,v]) ht hT hg (by with_unfolding_all rfl)
def w6 (xs:List V)(lo hi:Option Int):List V:=(xs.drop (HT.sIx xs.length 0 lo)).take (HT.sIx xs.length xs.length hi - HT.sIx xs.length 0 lo)
theorem nR (xs:List V)(lo hi:Option Int):(w6 xs lo hi).length<=xs.length:=by
 unfold w6;rw[Pq,QK];omega
def rSlT (K:N6):V->Option Int->Option Int->Hp->VK->Prop:=λx lo hi H Q=> ∃a xs,x= .ref a/\SqT K H a xs ∧
 ¬(HT.sIx xs.length 0 lo=0/\HT.sIx xs.length xs.length hi=xs.length)/\∀p,H p=none->Q (.ref p) (upd H p (.tup (w6 xs lo hi)))
theorem sl_tup:SlR X (rSlT X.K):=by
 intro pins s σ H x v vl vu lo hi sl Q I rx hs pl pu h;obtain⟨a,xs,rfl,hx,hw,q⟩:=h;cases rx;obtain⟨its,r,ht,hz⟩:=I.tuple hx
 have hlen:its.toArray.size=xs.length:=by rw[Ox];exact r.length.symm
 refine⟨"tuple",_,OQ.lookup,ht.typeIs,?_⟩
 refine HT.getItem_tuple_cut ht hs pl pu (by rw[hlen];exact hw) ?_ (by rw[hlen];exact hz)
 rw[hlen];refine⟨.ref s.heap.objs.size,_,I.laid (t':=s.toks) (o:=.tup (w6 xs lo hi)) (λb ob q=>Oh _ q) (Ot _) ?_,rfl,q _ (I.hok.fresh (Ot _))⟩
 exact⟨OI (nR xs lo hi) hz,_,(r.drop (HT.sIx xs.length 0 lo)).take (HT.sIx xs.length xs.length hi - HT.sIx xs.length 0 lo),Vw _ _⟩
def Ld (K:N6):R2:=λx y H Q=> ∃a b xs ys,x= .ref a/\y= .ref b/\SqT K H a xs/\SqT K H b ys/\xs≠ []/\xs.length+ys.length<=sizeLine ∧
 (ys= []->Q (.ref a) H)/\(ys≠ []->∀p,H p=none->Q (.ref p) (upd H p (.tup (xs++ys))))
theorem Vals.Da {xs:List V}{us:List Oa}(r:Vals xs us):us= [] ↔xs= []:=by
 cases r with
 | nil=>simp
 | cons _ _=>simp
theorem Ga:qT X (Qy .Add) (Ld X.K):=by
 intro pins s σ H x y v u Q I rx ry h;obtain⟨a,b,xs,ys,rfl,rfl,ha,hb,hx,hz,q1,q2⟩:=h;cases rx;cases ry;obtain⟨its,r1,p1,_⟩:=I.tuple ha;obtain⟨its2,r2,p2,_⟩:=I.tuple hb;refine HT.cat_tup p1 p2 (λz=>hx (r1.Da.mp z)) (λz=>⟨.ref a,H,I,rfl,q1 (r2.Da.mp z)⟩) (λz=> ?_) (by rw[<-r1.length,<-r2.length];exact hz)
 refine⟨.ref s.heap.objs.size,_,I.laid (t':=s.toks) (o:=.tup (xs++ys)) (λb ob q=>Oh _ q) (Ot _) ?_,rfl,q2 (λw=>z (r2.Da.mpr w)) _ (I.hok.fresh (Ot _))⟩
 exact⟨by rw[Om];exact hz,_,r1.append r2,Vw _ _⟩
end
def ixN (n:Nat)(i:Int):Option Nat:=if 0<=i then(if i<n then some i.toNat else none)else if -(n:Int)<=i then some (i+n).toNat else none
def atI {α:Type}(xs:List α)(i:Int):Option α:=(ixN xs.length i).bind λj=>xs[j]?
theorem Gy {n:Nat}{i:Int}{j:Nat}(h:ixN n i=some j):seqIndex? i n=some j/\j<n/\-(n:Int)<=i/\i<n:=by
 unfold ixN at h
 by_cases h0:0<=i
 ·rw[if_pos h0]at h
  by_cases h1:i<n
  ·rw[if_pos h1]at h
   have e:i.toNat=j:=OP h;exact⟨by rw[seqIndex_of h0 h1,e],by omega,by omega,h1⟩
  ·rw[if_neg h1]at h;cases h
 ·rw[if_neg h0]at h
  by_cases h1 : -(n:Int)<=i
  ·rw[if_pos h1]at h
   have e:(i+n).toNat=j:=OP h;exact⟨by rw[seqIndex_neg (by omega) h1,e],by omega,h1,by omega⟩
  ·rw[if_neg h1]at h;cases h
theorem uV {α:Type}{xs:List α}{i:Int}{v:α}(h:atI xs i=some v):∃j,seqIndex? i xs.length=some j/\xs[j]? =some v/\j<xs.length/\-(xs.length:Int)<=i/\i<xs.length:=by
 unfold atI at h
 cases e:ixN xs.length i with
 | none=>rw[e]at h;cases h
 | some j=>
  rw[e]at h;obtain⟨h1,h2,h3,h4⟩:=Gy e;exact⟨j,h1,h,h2,h3,h4⟩
def kK (b:Expr):Prop:=∀o i,Vq b false o i=operate [o,i] (getItem o i)
def IxR (X:Cx)(r:R2):Prop:=
 ∀(value slice:Expr) (pins:List (Addr×Obj)) (s:Od) (σ:St) (H:Hp) (x y:V) (v u:Oa) (Q:VK),Inv X pins σ H s->RelV x v->RelV y u->r x y H Q →
  Vq slice false v u=operate [v,u] (getItem v u)->wpAny (model X.prog X.w) X.A (VV value slice v u) (EP X pins σ Q) X.xe s
def MtR (X:Cx)(id:String)(r:V->List V->Hp->VK->Prop):Prop:=
 ∀(pins:List (Addr×Obj)) (s:Od) (σ:St) (H:Hp) (x:V) (xs:List V) (v:Oa) (us:List Oa) (Q:VK),Inv X pins σ H s->RelV x v->Vals xs us->r x xs H Q →
  wpAny (model X.prog X.w) X.A (call (.builtin id) (v::us)) (EP X pins σ Q) X.xe s
section
variable {X:Cx}{a b:Expr}{ta tb:TE}{pos:Pos}
theorem IxR.or {r r':R2}(h:IxR X r)(h':IxR X r'):IxR X (λx y H Q=>r x y H Q\/r' x y H Q):=by
 intro value slice pins s σ H x y v u Q I rx ry q hs;rcases q with q | q
 ·exact h value slice pins s σ H x y v u Q I rx ry q hs
 ·exact h' value slice pins s σ H x y v u Q I rx ry q hs
theorem LF {r:R2}(hr:IxR X r)(ha:PE X a ta)(hb:PE X b tb)(hs:kK b):PE X (.Subscript a b pos) (tOp r ta tb):=by
 intro pins s σ H Q I h;exact UY (Mw ha hb I h λv u s2 x y H2 I2 rx ry q=>hr a b pins s2 σ H2 x y v u Q I2 rx ry q (hs _ _))
def Lc (K:N6):R2:=λx y H Q=> ∃p xs i v,x= .ref p/\y= .int i/\SqL K H p xs/\atI xs i=some v/\Q v H
def La (K:N6):R2:=λx y H Q=> ∃p xs i v,x= .ref p/\y= .int i/\SqT K H p xs/\atI xs i=some v/\Q v H
def Lb:R2:=λx y H Q=> ∃z i c,x= .str z/\y= .int i/\z.length<=sizeLine/\atI z.cps.toList i=some c/\Q (.str ⟨#[c]⟩) H
theorem ix_list:IxR X (Lc X.K):=by
 intro value slice pins s σ H x y v u Q I rx ry h hs;obtain⟨p,xs,i,z,rfl,rfl,hq,he,q⟩:=h;cases rx;obtain⟨t,rfl⟩:=ry;obtain⟨its,r,pl,hz⟩:=I.list hq;obtain⟨j,h1,h2,h3,h4,h5⟩:=uV he;obtain⟨w,ew,rw'⟩:=r.get h2
 have hl:=r.length
 have hn:=qf
 have fin:EP X pins σ Q w s:=⟨z,H,I,rw',q⟩
 by_cases h0:0<=i
 ·have hj:i.toNat=j:=by
   rw[seqIndex_of h0 h5]at h1;exact OP h1
  exact item_listR pl.isList h0 (by omega) (by rw[hj];simpa using ew) fin hs
 ·have hj:(i+(its.toArray.size:Int)).toNat=j:=by
   rw[seqIndex_neg (by omega) h4]at h1
   rw[Ox,<-hl];exact OP h1
  exact Uv (x:=w) pl.isList.typeIs slot_list_getitem.lookup
   (wpAny_getItem_list_neg (Q:=λr s'=>r=w/\EP X pins σ Q r s') pl.isList (by omega) (by rw[Ox] <;> omega) (by omega) (by rw[hj];simpa using ew) ⟨rfl,fin⟩) hs
theorem ix_tup:IxR X (La X.K):=by
 intro value slice pins s σ H x y v u Q I rx ry h hs;obtain⟨p,xs,i,z,rfl,rfl,hq,he,q⟩:=h;cases rx;obtain⟨t,rfl⟩:=ry;obtain⟨its,r,pl,hz⟩:=I.tuple hq;obtain⟨j,h1,h2,h3,h4,h5⟩:=uV he;obtain⟨w,ew,rw'⟩:=r.get h2
 have hl:=r.length
 have hn:=qf
 have fin:EP X pins σ Q w s:=⟨z,H,I,rw',q⟩
 exact Uv (x:=w) pl.typeIs slot_tuple_getitem.lookup
  (getItem_tuple (j:=j) (Q:=λr s'=>r=w/\EP X pins σ Q r s') pl (by omega) (by omega) (by rw[Ox,<-hl];exact h1) (by simpa using ew) ⟨rfl,fin⟩) hs
theorem J3:IxR X Lb:=by
 intro value slice pins s σ H x y v u Q I rx ry h hs;obtain⟨z,i,c,rfl,rfl,hz,he,q⟩:=h;obtain⟨t,rfl⟩:=rx;obtain⟨t',rfl⟩:=ry;obtain⟨j,h1,h2,h3,h4,h5⟩:=uV he
 have hl:z.cps.toList.length=z.length:=by simp[Str.length]
 rw[hl]at h1 h4 h5
 have hn:=qf
 exact tail_any (typeIs_str s z t) slot_str_getitem.lookup (getItem_str (c:=c) (by
  have e1:decide (i< -(2 ^ 63:Int))=false:=decide_eq_false (by omega)
  have e2:decide (i ≥ 2 ^ 63)=false:=decide_eq_false (by omega)
  rw[e1,e2,Bool.or_false]) (by rw[h1];simpa using h2) ⟨.str ⟨#[c]⟩,H,I.tok _,⟨_,rfl⟩,q⟩) hs
def rIx (K:N6):R2:=λx y H Q=>Lc K x y H Q\/La K x y H Q\/Lb x y H Q
theorem J4:IxR X (rIx X.K):=ix_list.or (ix_tup.or J3)
theorem tI (lo hi:Option Int)(n:Nat):(SB lo hi none n).1=((HT.sIx n 0 lo:Nat):Int)/\(SB lo hi none n).2.1=((HT.sIx n n hi:Nat):Int)/\(SB lo hi none n).2.2=1:=by
 refine⟨?_,?_,rfl⟩
 ·cases lo with
  | none=>simp[SB,HT.sIx]
  | some i=>
   simp only[SB,HT.sIx,WE,show(1:Int) > 0 by decide,if_true]
   by_cases h:i<0
   ·simp only[h,if_true] <;> omega
   ·simp only[h,if_false] <;> omega
 ·cases hi with
  | none=>simp[SB,HT.sIx]
  | some i=>
   simp only[SB,HT.sIx,WE,show(1:Int) > 0 by decide,if_true]
   by_cases h:i<0
   ·simp only[h,if_true] <;> omega
   ·simp only[h,if_false] <;> omega
theorem qZ (its:List Oa)(lo hi:Option Int):Xk its.toArray lo hi none=((its.drop (HT.sIx its.length 0 lo)).take (HT.sIx its.length its.length hi - HT.sIx its.length 0 lo)).toArray:=by
 obtain⟨h1,h2,h3⟩:=tI lo hi its.toArray.size;unfold Xk;rw[h1,h2,h3];simp only[sliceRange_one,pick_run,Ox] <;> rfl
def rSlL (K:N6):V->Option Int->Option Int->Hp->VK->Prop:=λx lo hi H Q=> ∃a xs,x= .ref a/\SqL K H a xs/\∀p,H p=none->Q (.ref p) (upd H p (.lst (w6 xs lo hi)))
theorem Fo:SlR X (rSlL X.K):=by
 intro pins s σ H x v vl vu lo hi sl Q I rx hs pl pu h;obtain⟨a,xs,rfl,hx,q⟩:=h;cases rx;obtain⟨its,r,ht,hz⟩:=I.list hx
 have hlen:=r.length;refine⟨"list",_,slot_list_getitem.lookup,ht.isList.typeIs,?_⟩
 refine T2 ht.isList hs pl pu .none (by simp) ?_ (by rw[Ox] <;> omega)
 rw[qZ,<-hlen];refine⟨.ref s.heap.objs.size,_,I.laid (t':=s.toks) (o:=.lst (w6 xs lo hi)) (λb ob q=>Oh _ q) (Ot _) ?_,rfl,q _ (I.hok.fresh (Ot _))⟩
 exact⟨OI (nR xs lo hi) hz,_,0,(r.drop (HT.sIx xs.length 0 lo)).take (HT.sIx xs.length xs.length hi - HT.sIx xs.length 0 lo),Oz _ rfl⟩
theorem call_len_seq:CallR X (.builtin "len") (λxs H Q=> ∃p ys,xs= [.ref p]/\(SqL X.K H p ys\/SqT X.K H p ys)/\Q (.int ys.length) H):=by
 intro pins s σ H xs us Q I r h;obtain⟨p,ys,rfl,hq,q⟩:=h;obtain⟨u,rfl,rx⟩:=lG r;cases rx
 have hn:=qf;rcases hq with hq | hq
 ·obtain⟨its,r',pl,hz⟩:=I.list hq
  have hlen:=r'.length;exact Calls.call_len_list pl.isList (by simp only[Ox] <;> omega) ⟨.int ys.length,H,I.tok _,⟨s.toks+1,by rw[Ox,hlen]⟩,q⟩
 ·obtain⟨its,r',pl,hz⟩:=I.tuple hq
  have hlen:=r'.length;exact len_tuple pl (by simp only[Ox] <;> omega) ⟨.int ys.length,H,I.tok _,⟨s.toks+1,by rw[Ox,hlen]⟩,q⟩
theorem uR:CallR X (.builtin "len") (λxs H Q=> ∃z,xs= [.str z]/\z.length<=sizeLine/\Q (.int z.length) H):=by
 intro pins s σ H xs us Q I r h;obtain⟨z,rfl,hz,q⟩:=h;obtain⟨u,rfl,t,rfl⟩:=lG r
 have hn:=qf;exact len_str (by omega) ⟨.int z.length,H,I.tok _,⟨_,rfl⟩,q⟩
theorem CallR.or {f:Oa}{r r':List V->Hp->VK->Prop}(h:CallR X f r)(h':CallR X f r'):CallR X f (λxs H Q=>r xs H Q\/r' xs H Q):=by
 intro pins s σ H xs us Q I rs q;rcases q with q | q
 ·exact h pins s σ H xs us Q I rs q
 ·exact h' pins s σ H xs us Q I rs q
theorem rz:CallR X (.type "tuple") (λxs H Q=> ∃p ys,xs= [.ref p]/\((SqL X.K H p ys/\∀l,H l=none->Q (.ref l) (upd H l (.tup ys)))\/(SqT X.K H p ys/\Q (.ref p) H))):=by
 intro pins s σ H xs us Q I r h;obtain⟨p,ys,rfl,h⟩:=h;obtain⟨u,rfl,rx⟩:=lG r;cases rx;rcases h with⟨hq,q⟩ | ⟨hq,q⟩
 ·obtain⟨its,r',pl,hz⟩:=I.list hq
  have hlen:=r'.length;refine call_tuple_list pl.isList (λh' kp=> ?_) (by simp only[Ox] <;> omega)
  have I1:Inv X pins σ H { s with heap:=h' }:=I.kept (t':=s.toks) kp
  have I2:Inv X pins σ (upd H h'.objs.size (.tup ys)) { s with heap:=h'.push { cls:=.type "tuple",data:=.seq its.toArray } }:=
   I1.laid (t':=s.toks) (λb o e=>Oh _ e) (Ot _) (show ObjOk X.prog X.w _ _ _ (.tup ys)from⟨hz,its,r',Vw _ _⟩)
  exact⟨.ref h'.objs.size,_,I2,rfl,q _ (I1.hok.fresh (Ot _))⟩
 ·obtain⟨its,r',pl,hz⟩:=I.tuple hq
  exact call_tuple_same pl ⟨.ref p,H,I,rfl,q⟩
def tyV (K:N6)(T:String)(x:V)(H:Hp):Prop:=match x with
 | .str _=>T= "str"
 | .int _=>T= "int"
 | .ref p=>(T= "list"/\∃xs,SqL K H p xs)\/(T= "tuple"/\∃o,K.lookup p=some o/\o.cls= .type "tuple"/\o.dict=none) ∨
   (T= "dict"/\((∃kvs,H p=some (.dK kvs))\/∃kvs,H p=some (.dT kvs)))\/(T= "set"/\∃S n,H p=some (.set S n))
 | _=>False
theorem BW {pins:List (Addr×Obj)}{σ:St}{H:Hp}{s:Od}{T:String}{x:V}{v:Oa}(I:Inv X pins σ H s)(r:RelV x v)(ty:tyV X.K T x H) :
  s.TypeIs v T/\∀a,v= .ref a->∃ob,s.heap.get? a=some ob/\ob.dict=none:=by
 cases x with
 | str z=>
  obtain⟨t,rfl⟩:=r;cases (show T= "str" from ty)
  exact⟨typeIs_str s z t,λ_ e=>nomatch e⟩
 | int i=>
  obtain⟨t,rfl⟩:=r;cases (show T= "int" from ty)
  exact⟨UZ s i t,λ_ e=>nomatch e⟩
 | ref p=>
  cases r;rcases ty with⟨rfl,xs,hq⟩ | ⟨rfl,o,hk,hc,hd⟩ | ⟨rfl,hk⟩ | ⟨rfl,S,n,hk⟩
  ·obtain⟨its,_,pl,_⟩:=I.list hq
   refine⟨pl.isList.typeIs,λa e=> ?_⟩
   cases e;obtain⟨o,n,e,c,hd,_⟩:=pl;exact⟨o,e,hd⟩
  ·refine⟨⟨o,I.kIn p o hk,hc⟩,λa e=> ?_⟩
   cases e;exact⟨o,I.kIn _ o hk,hd⟩
  ·have z:∃o,s.heap.get? p=some o/\o.ExactDict:=by
    rcases hk with⟨kvs,hk⟩ | ⟨kvs,hk⟩
    ·obtain⟨_,_,_,_,o,_,_,e,ex,_⟩:=I.hok p _ hk
     exact⟨o,e,ex⟩
    ·obtain⟨_,_,_,_,o,_,_,e,ex,_⟩:=I.hok p _ hk
     exact⟨o,e,ex⟩
   obtain⟨o,e,ex⟩:=z;refine⟨⟨o,e,ex.1⟩,λa e2=> ?_⟩
   cases e2;exact⟨o,e,ex.2.1⟩
  ·obtain⟨o,_,_,_,e,ex,_⟩:=I.hok p _ hk
   refine⟨⟨o,e,ex.1⟩,λa e2=> ?_⟩
   cases e2
   exact⟨o,e,ex.2.1⟩
 | _=>exact QP ty
def tBM (K:N6)(T:String)(r:V->List V->Hp->VK->Prop)(to:TE)(t:TA):TE:=λσ H Q=>to σ H λx H1=>tyV K T x H1/\t σ H1 λxs H2=>r x xs H2 Q
variable {o e:Expr}{es:List Expr}{to:TE}{t:TA}{name:Str}{apos cpos:Pos}{T id:String}{r:V->List V->Hp->VK->Prop}
theorem zA (pa:PlainAttrs T)(slot:Slot T name id)(hty:typeOf (.builtin id)=pure (.type "method_descriptor"))(hm:MtR X id r)(ho:PE X o to)(ha:PA X (e::es) t)
  (hbase:Qz o name X.env (eval o X.env)=eval o X.env:=by rfl)
  (hfew:((backTo cpos (Oy (e::es) X.env)).all (λx=> !x.1)&&(VR cpos (Tf [] X.env)).all (λx=>x.1.isSome)
   &&decide ((e::es).length+([]:List Wl).length+(if ([]:List Wl).isEmpty then 0 else 1)<30))=true:=by rfl)
  (hline:(apos.endLine == cpos.line)=true:=by rfl) (hs:Oy (e::es) X.env=(false,eval e X.env)::Oy es X.env:=by rfl) (hplain:(backTo cpos (Oy es X.env)).any (·.1)=false:=by rfl) :
  PE X (.Call (.Attribute o name apos) (e::es) [] cpos) (tBM X.K T r to t):=by
 intro pins s σ H Q I h;refine Uw hbase hfew hline rfl (cL (ho pins s σ H _ I h) λv s1 hh_=> ?_)
 obtain⟨x,H1,I1,r1,ty,q1⟩:=hh_;obtain⟨h1,h2⟩:=BW I1 r1 ty;refine⟨T,id,pa,slot,hty,h1,h2,?_⟩
 have hA:=ha cpos pins s1 σ H1 _ I1 q1;rw[hs]at hA ⊢;refine Ss (by show(false||(backTo cpos (Oy es X.env)).any (·.1))=false;rw[hplain] <;> rfl) (RU ?_)
 exact cL hA λus s2 ⟨vs,H2,I2,r2,q2⟩=>hm pins s2 σ H2 x vs v us Q I2 r1 r2 q2
end
def MtM (X:Cx)(id:String)(r:V->List V->Hp->VK->Prop):Prop:=
 ∀(pins:List (Addr×Obj)) (s:Od) (σ:St) (H:Hp) (x:V) (xs:List V) (v:Oa) (us:List Oa) (Q:VK),Inv X pins σ H s->RelV x v->Vals xs us->r x xs H Q →
  wpAny (model X.prog X.w) X.A (call (.builtin id) (v::us)) (EP X pins σ Q) X.xe s
theorem Vals.one:∀{x:V} {us:List Oa},Vals [x] us->∃u,us= [u]/\RelV x u
 | _,_,.cons r .nil=>⟨_,rfl,r⟩
theorem Vals.reverse {xs:List V}{us:List Oa}(h:Vals xs us):Vals xs.reverse us.reverse:=by
 induction h with
 | nil=>exact .nil
 | cons r t ih=>rw[Sx,Sx];exact Vals.append ih (.cons r .nil)
theorem Vals.rep {xs:List V}{us:List Oa}(h:Vals xs us):∀k:Nat,Vals (OJ k xs).flatten (OJ k us).flatten
 | 0=> .nil
 | k+1=>by
  rw[P9,P9,QQ,QQ];exact Vals.append h (Vals.rep h k)
theorem foldl_rep (its:List Oa):∀(k:Nat) (acc:List Oa),
  TQ (λx1 x2=>x1++x2) acc.toArray (OJ k its.toArray)=(acc++(OJ k its).flatten).toArray
 | 0,acc=>by simp
 | k+1,acc=>by
  have e:acc.toArray++its.toArray=(acc++its).toArray:=by simp
  have e2:(acc++its)++(OJ k its).flatten=acc++(OJ (k+1) its).flatten:=by
   rw[P9,QQ,OS]
  rw[<-e2,<-foldl_rep its k (acc++its),<-e,P9,W3]
section
variable {X:Cx}{pins:List (Addr×Obj)}{σ:St}{H:Hp}{s:Od}{l b:Addr}{xs ys zs:List V}
theorem Inv.NP {its its':List Oa}{n:Nat}{f:Array Oa->Array Oa}{t':Nat}(I:Inv X pins σ H s)(hH:H l=some (.lst xs))
  (e:s.heap.get? l=some { cls:=.type "list",data:=.seq its.toArray n }) (hf:f its.toArray=its'.toArray) (hv:Vals ys its') (hz:ys.length<=sizeLine) :
  Inv X pins σ (upd H l (.lst ys)) { s with heap:=s.heap.update l (PD f),toks:=t' }:=by
 have q:=PySem.IsL.update e f;rw[hf]at q;refine I.write (x:=l) (e:=l) (by rw[hH];exact trivial) (.inl rfl) (λb' u hb hu=>(Pk s.heap (PD f) (PM hb)).trans hu) ⟨_,q⟩ ?_
 exact⟨hz,its',_,hv,q⟩
theorem Inv.NL {its:List Oa}{t':Nat}(I:Inv X pins σ H s)(hv:Vals ys its)(hz:ys.length<=sizeLine) :
  Inv X pins σ (upd H s.heap.objs.size (.lst ys)) { s with heap:=s.heap.push { cls:=.type "list",data:=.seq its.toArray },toks:=t' }:=
 I.laid (λ_ _ q=>Oh _ q) (Ot _) ⟨hz,its,0,hv,Oz _ rfl⟩
theorem Inv.fresh (I:Inv X pins σ H s):H s.heap.objs.size=none:=I.hok.fresh (Ot _)
theorem Inv.KM (I:Inv X pins σ H s)(hH:H l=some (.lst xs)):xs.length<=sizeLine/\∃(its:List Oa) (n:Nat),Vals xs its/\xs.length=its.length/\s.heap.get? l=some { cls:=.type "list",data:=.seq its.toArray n }:=by
 obtain⟨z,its,n,r,e⟩:=I.hok l _ hH;exact⟨z,its,n,r,r.length,e⟩
theorem wc {n:Nat}(h:n<=sizeLine):Rf n=false:=by
 unfold Rf;exact decide_eq_false (by omega)
end
section
variable {X:Cx}
def FA:V->List V->Hp->VK->Prop:=λx vs H Q=> ∃l xs y,x= .ref l/\vs= [y]/\H l=some (.lst xs)/\xs.length<sizeLine/\Q .non (upd H l (.lst (xs++ [y])))
theorem rY:MtM X "list.append" FA:=by
 intro pins s σ H x vs v us Q I rx rv h;obtain⟨l,xs,y,rfl,rfl,hH,hz,q⟩:=h;cases rx;obtain⟨u,rfl,ru⟩:=rv.one;obtain⟨z,its,n,r,hl,e⟩:=I.KM hH;refine Se F.slot_list_append ⟨_,e,rfl⟩ F.entry_list_append (F.args_list_append_2 _ _) (PySem.list_append l its.toArray n u (by rw[Ox];omega)) ⟨e,?_⟩
 refine⟨.non,_,I.NP (its':=its++ [u]) hH e (by simp) (r.append (.cons ru .nil)) ?_,rfl,q⟩
 rw[Om,QH];omega
def Fy:V->List V->Hp->VK->Prop:=λx vs H Q=> ∃l b xs zs,x= .ref l/\vs= [.ref b]/\H l=some (.lst xs)/\H b=some (.lst zs)/\xs.length+zs.length<=sizeLine/\Q .non (upd H l (.lst (xs++zs)))
theorem AW:MtM X "list.extend" Fy:=by
 intro pins s σ H x vs v us Q I rx rv h;obtain⟨l,b,xs,zs,rfl,rfl,hH,hB,hz,q⟩:=h;cases rx;obtain⟨u,rfl,ru⟩:=rv.one;cases ru;obtain⟨z,its,n,r,hl,e⟩:=I.KM hH;obtain⟨z2,its2,n2,r2,hl2,e2⟩:=I.KM hB
 have hsz:its.toArray.size+its2.toArray.size<=sizeLine:=by rw[Ox,Ox];omega
 have hlong:¬ (!its.toArray.isEmpty&&Rf (its.toArray.size+its2.toArray.size))=true:=by
  rw[wc hsz,Bool.and_false];exact OF
 refine Se F.slot_list_extend ⟨_,e,rfl⟩ F.entry_list_extend (F.args_list_extend_2 _ _)
  (AutoSeq1.list_extend_list_list_0 l its.toArray n b its2.toArray n2 hlong (by rw[Ox];omega) (by omega)) ⟨e,e2,?_⟩
 refine⟨.non,_,I.NP (its':=its++its2) hH e (by simp) (r.append r2) ?_,rfl,q⟩
 rw[Om];omega
def rCat:R2:=λx y H Q=> ∃l b xs zs,x= .ref l/\y= .ref b/\H l=some (.lst xs)/\H b=some (.lst zs)/\xs.length+zs.length<=sizeLine/\∀p,H p=none->Q (.ref p) (upd H p (.lst (xs++zs)))
theorem C1:qT X (Qy .Add) rCat:=by
 intro pins s σ H x y v u Q I rx ry h;obtain⟨l,b,xs,zs,rfl,rfl,hH,hB,hz,q⟩:=h;cases rx;cases ry;obtain⟨z,its,n,r,hl,e⟩:=I.KM hH;obtain⟨z2,its2,n2,r2,hl2,e2⟩:=I.KM hB;refine PySem.P.add_list e e2 ?_ (by rw[Ox,Ox];omega)
 have ea:its.toArray++its2.toArray=(its++its2).toArray:=by simp
 rw[ea];exact⟨.ref _,_,I.NL (t':=s.toks) (r.append r2) (by rw[Om];omega),rfl,q _ I.fresh⟩
def rRep:R2:=λx y H Q=> ∃l k xs,x= .ref l/\y= .int k/\H l=some (.lst xs)/\-(2 ^ 63)<=k/\k<2 ^ 63/\xs.length*k.toNat<=sizeLine ∧
 ∀p,H p=none->Q (.ref p) (upd H p (.lst (OJ k.toNat xs).flatten))
theorem len_rep {α:Type}(xs:List α)(k:Nat):(OJ k xs).flatten.length=k*xs.length:=by
 induction k with
 | zero=>simp
 | succ k ih=>rw[P9,QQ,Om,ih,Nat.succ_mul,Wp]
theorem Js:qT X (Qy .Mult) rRep:=by
 intro pins s σ H x y v u Q I rx ry h;obtain⟨l,k,xs,rfl,rfl,hH,h1,h2,hz,q⟩:=h;cases rx;obtain⟨t,rfl⟩:=ry;obtain⟨z,its,n,r,hl,e⟩:=I.KM hH
 have hlen:its.toArray.size*k.toNat<=sizeLine:=by rw[Ox,<-hl];exact hz
 have hcap:¬ its.toArray.size*k.toNat > (2 ^ 63 - 1) / 8:=by
  have:(sizeLine:Nat)<=(2 ^ 63 - 1) / 8:=by decide
  omega
 have hfit:¬ (!Builtin.List.listFitsIndex k)=true:=by
  rw[fitsIndex_both h1 h2];exact OF
 have hlong:¬ Rf (its.toArray.size*k.toNat)=true:=by
  rw[wc hlen];exact OF
 have hnew:TQ (λx1 x2=>x1++x2) #[] (OJ (if its.toArray.isEmpty=true then 0 else k.toNat) its.toArray)=(OJ k.toNat its).flatten.toArray:=by
  have f0:∀m:Nat,TQ (λx1 x2=>x1++x2) #[] (OJ m its.toArray)=(OJ m its).flatten.toArray:=λm=>by
   have:=foldl_rep its m [];rw[P4]at this;exact this
  rw[f0]
  cases its with
  | nil=>simp
  | cons a r'=>rw[if_neg (by simp)]
 refine TK (T:="list") (U:="int") (by decide) ⟨_,e,rfl⟩ (λs'=>UZ s' k t) noFill_list_mul W4 S8 repeat_list WG.lookup
  (Se S8 (UZ s k t) WH (V4 _ _) (int___rmul___int_list k t l its.toArray n)
   ⟨e,rfl,⟨_,e,rfl⟩,Se F.slot_list_mul ⟨_,e,rfl⟩ F.entry_list_mul (F.args_list_mul_2 _ _) (Vx l its.toArray n k t hfit hcap hlong) ⟨e,?_⟩⟩)
 rw[hnew];exact⟨.ref _,_,I.NL (t':=s.toks) (r.rep k.toNat) (by rw[len_rep,Wq];exact hz),rfl,q _ I.fresh⟩
end
end L2
namespace Att
open PySem PySem.W PySem.Calls PyProof.Rows
theorem n5 {P:Params}{h:Heap}:∀(ns:List Int) (vs:List Oa),WellAll P h vs (ns.map WData.int)->Qp vs ns:=by
 intro ns
 induction ns with
 | nil=>
  intro vs w;rw[Tx]at w;cases w
  exact .nil
 | cons n ns ih=>
  intro vs w;rw[Oc]at w
  cases w with
  | cons a b=>
   cases a;exact .cons _ _ (ih _ b)
theorem AE {l:OpenLaw}{n:Nat}(hn:l.most=some n){P:Params}{h:Heap}{args:List WData}{vals:List Oa}
  (hpre:l.row.toRowW.claim.pre args=true) (hwl:WellAll P h vals args) :
  ∃a vs ns,vals= [OA a]/\args= [WData.list (ns.map WData.int)]/\h.get? a=some { cls:=.type "list",data:=.seq vs.toArray }/\Qp vs ns/\ns.length<=n:=by
 have hsh:WShape.hasAll [] args [.list .int] =true:=(pre_splitW hpre).1
 have hc:l.pre.holds [] { args:=args }=true:=(pre_splitW hpre).2;obtain⟨d,r,rfl,h1,h2⟩:=hasAllW_cons hsh;obtain rfl:=hasAllW_nil h2;obtain⟨xs,rfl,h3⟩:=hasW_list h1;obtain⟨ns,rfl⟩:=items_int h3
 have hlen:ns.length<=n:=by
  unfold OpenLaw.pre at hc
  have h4:(WTm.not (.lt (.lit (.int (n:Int))) (.len (.arg 0)))).holds [] { args:=[.list (ns.map .int)] }=true:=by
   have h4:=(holds_andW hc).1;rw[hn]at h4;exact h4
  have h5:=condW_of h4 (w_not (w_lt w_lit (w_len_list (w_arg rfl))));rw[Ob]at h5;refine Nat.le_of_not_lt λq=> ?_
  have q':(n:Int)<((ns.length:Nat):Int):=by omega
  first
   | (rw[decide_eq_true q']at h5;exact absurd h5 (by decide))
   | (simp at h5;omega)
 cases hwl with
 | cons w1 w2=>
  cases w2
  cases w1 with
  | list ho hall=>exact⟨_,_,ns,rfl,rfl,ho,n5 ns _ hall,hlen⟩
theorem AL (l:OpenLaw)(args:List WData):l.row.toRowW.claim.post args (.bool true) args=true:=
 postW_of (r:=l.row.toRowW) (X:=(true == true))
  (show WShape.has [] (.bool true) .bool=true by first | rfl | decide | simp[WShape.has,WShape.arms,WShape.armsAll])
  (show(WTm.eq .res (.lit (.bool true))).value [] { args:=args,res:=some (.bool true),after:=args }=some (.bool (true == true))from w_eq_bool (w_res rfl) w_lit) rfl
theorem attach_call {l:OpenLaw}{n:Nat}{q:OH}{loose:List Str}{XP:(Str->Option Oa)->Heap->Prop}{YP:Px->Heap->Prop}{d:DefRec}
  (hn:l.most=some n) (hdf:d.params.defaults= [])
  (call:∀(w:Px) (s₀ s₁:Od) (mg mb:Str->Option Oa) (fa:Addr) (o:Obj) (pm cd doc:Oa) (a:Addr) (vs:List Oa) (ns:List Int),
   Ground q loose [] XP w s₀ mg mb s₁.heap->YP w s₁.heap →
   s₁.heap.get? fa=some o->o.data= .func (docDef d.name d.params d.body d.scope pm cd doc)->s₁.heap.CodeRec cd d.name->mg d.name=some (.ref fa) →
   s₁.heap.get? a=some { cls:=.type "list",data:=.seq vs.toArray }->Qp vs ns->ns.length<=n->s₁.gens= #[] →
   codeAny (model l.prog w) callerA (.call (.ref fa) ⟨[.ref a],[]⟩) (λr s'=>r= .ok (.ret (.bool true))/\OldK s₁.heap s'.heap/\s'.os=s₁.os/\Rk s'.gens) s₁) :
  WalkO q loose XP YP l.row.toRowW d [] (λf vs=>PySem.call f vs):=by
 intro w s₀ s₁ mg mb G Y fa o pm cd doc dV kV ho hd hcd hD hmg hg args vals as hpre hlay hrd hwl hlo;obtain rfl:dV= .none:=Dflts.none hD hdf;obtain rfl:kV= .none:=Dflts.noKw hD;obtain⟨a,vs,ns,rfl,rfl,hobj,hints,hlen⟩:=AE hn hpre hwl;refine enter_call (Sb (call w s₀ s₁ mg mb fa o pm cd doc a vs ns G Y ho (fd_plain hd) hcd hmg hobj hints hlen hg) λr s' hq=> ?_)
 obtain⟨rfl,h2,h3,h4⟩:=hq;exact⟨.inl ⟨.bool true,.bool true,[],rfl,λ_=>rfl,.bool true,AL l _,λ_=>⟨V3,λ_ hm=>(nomatch hm)⟩⟩,h2,h3,h4⟩
end Att
namespace L2
open PySem PySem.Spec PyProof.Rows
theorem mF:∀{vs:List Oa} {ns:List Int},Qp vs ns->Vals (ns.map V.int) vs
 | _,_,.nil=> .nil
 | _,_,.cons n t h=> .cons ⟨t,rfl⟩ (mF h)
def KC (H:Hp):Prop:=∀b,H b=none\/(∃o xs,H b=some (.frz o (.lst xs)))\/H b=some (.tbl nY)
theorem Dr {P:OH}{w:Px}{K:N6}{mg mb:Str->Option Oa}{CX:BL}{k:Nat}{fa a:Addr}{fd:PV}{x:Str}{sp:Sp}{s₁:Od}{vs:List Oa}{ns:List Int}
  (KX:K.In s₁.heap) (hns:s₁.heap.Ns OL mg) (hb:s₁.heap.Ns Sa mb) (hbb:∀x:Str,x≠ "__name__"->mb x=Pb x) (hlim:s₁.heap.NoLimit) (hg:s₁.gens= #[])
  (ha:s₁.heap.get? a=some { cls:=.type "list",data:=.seq vs.toArray }) (hi:Qp vs ns) (hl:ns.length<=sizeLine) (hr:Room k callerA) {P0 c0:Addr} (hP:s₁.heap.TableAt c0 P0 #[]) (hPK:K.lookup P0=none) (hTb:∀H:Hp,H P0=some (.tbl nY)->Tb K mg H)
  (F:∀base:Heap,K.In base->base.Ns OL mg->rB P w K mg base CX k fa fd [x] sp) (hbind:∀(s:Od) (u:Oa),Vp s fd ⟨[u],[]⟩ [(x,u)])
  (hsp:∀H:Hp,KC H->SqL K H a (ns.map V.int)->sp [.ref a] H (λv _=>v= .bl true) λ_ _ _=>False)
  (hCX:∀H e s',CX [] H s₁ (λ_ _ _=>False) e s'->False) :
  codeAny (model P w) callerA (.call (.ref fa) ⟨[.ref a],[]⟩) (λr s'=>r= .ok (.ret (.bool true))/\OldK s₁.heap s'.heap/\s'.os=s₁.os/\Rk s'.gens) s₁:=by
 have rv:=mF hi
 have lenV:=hi.length
 have hPe:=hP.2
 have hPa:P0≠a:=λz=>by subst z;rw[ha]at hPe;cases hPe
 have hPo:∀H:Hp,ObjOk P w H s₁.heap P0 (.tbl nY):=λH=>⟨#[],hPe,trivial,λpos v e=>by cases e⟩
 -- from an abstract heap in which nothing but the script may be tracked
 have core:∀H:Hp,KC H->SqL K H a (ns.map V.int)->HOk P w H s₁.heap->(∀b,H b≠none->b=a\/b=P0)->(H a≠none->K.lookup a=none)->H P0=some (.tbl nY) →
   codeAny (model P w) callerA (.call (.ref fa) ⟨[.ref a],[]⟩) (λr s'=>r= .ok (.ret (.bool true))/\OldK s₁.heap s'.heap/\s'.os=s₁.os/\Rk s'.gens) s₁:=by
  intro H hO hS hok hA hK hHP
  have base_of:∀{b:Addr} {o:Obj},s₁.heap.get? b=some o->H b=none->(uG s₁.heap H).get? b=some o:=λe n=>DU e n
  have noA:∀{b:Addr} {o:Obj} {es:Array DictEntry} {ep:Nat},s₁.heap.get? b=some o->o.data= .dict es ep->H b=none:=λ{b o es ep} e d=>by
   cases q:H b with
   | none=>rfl
   | some u=>
    have e':b=a:=(hA b (by rw[q];simp)).resolve_right λz=>by subst z;rw[hPe]at e;cases e;cases d
    subst e';rw[ha]at e;cases e
    have d':Data.seq vs.toArray _=Data.dict es ep:=d;cases d'
  have nsK:∀{b:Addr} {m:Str->Option Oa},s₁.heap.Ns b m->(uG s₁.heap H).Ns b m:=λ{b m} ⟨o,es,ep,e,d,r⟩=>⟨o,es,ep,base_of e (noA e d),d,r⟩
  have hKb:K.In (uG s₁.heap H):=λb o e=>base_of (KX b o e) (by
   cases q:H b with
   | none=>rfl
   | some u=>
    have e':b=a:=(hA b (by rw[q];simp)).resolve_right λz=>by subst z;rw[hPK]at e;cases e
    subst e';rw[hK (by rw[q];simp)]at e;cases e)
  have hM:Mod K mg (uG s₁.heap H):=⟨hKb,nsK hns,⟨mb,nsK hb,hbb⟩,let ⟨mc,h1,h2⟩:=hlim;⟨mc,nsK h1,h2⟩⟩
  have e0:Env0 P w K mg (uG s₁.heap H) callerA [] s₁ H:=⟨rfl,hM,λb o e=>Gb e,R8 (Bc _ _),trivial,λb hb=>absurd (show b∈([]:List Addr)from hb) (by simp),hok,.of_eq hg,hTb H hHP⟩
  refine Sb ((F _ hKb (nsK hns)).run callerA [] s₁ H ⟨[.ref a],[]⟩ [.ref a] [.ref a] _ _ hr e0 (hbind s₁ (.ref a)) (.cons rfl .nil) (hsp H hO hS)) λr s' h=> ?_
  cases r with
  | error e=>exact(hCX H e s' h).elim
  | ok fl=>
   cases fl with
   | next=>exact QP h
   | brk=>exact QP h
   | cont=>exact QP h
   | ret u=>
    obtain⟨v,H',os,bare,un,hok',r',q⟩:=h
    have q':v= .bl true:=q;subst q';obtain rfl:u=Pp true:=r'
    have hP':=un.tbls P0 _ hHP;obtain⟨ps,eP,_⟩:=hok' P0 _ hP'
    have key:∀b o,b≠P0->s₁.heap.get? b=some o->s'.heap.get? b=some o:=?key
    ·refine⟨rfl,⟨λb o e=> ?_,λb o e=> ?_⟩,os,bare⟩
     ·by_cases hb:b=P0
      ·subst hb
       rw[hPe]at e;cases e;exact .inr (.inl ⟨hP.isCodeTable,rfl,#[],ps,rfl,by simpa using eP⟩)
      ·exact .inl (key b o hb e)
     ·by_cases hb:b=P0
      ·subst hb;exact⟨_,eP⟩
      ·exact⟨o,key b o hb e⟩
    intro b o hbP e
    cases q:H b with
    | none=>exact un.keep b o e q (by intro z;exact absurd (show b∈([]:List Addr)from z) (by simp)) (by simp)
    | some u=>
     rcases hO b with z | ⟨ob,xs,z⟩ | z
     ·rw[q]at z;cases z
     ·have z2:=un.frzs b ob _ z
      obtain⟨e1,_⟩:=hok b _ z;obtain⟨e2,_⟩:=hok' b _ z2;rw[e]at e1;cases e1;exact e2
     ·rcases hA b (by rw[z];simp)with y | y
      ·subst y;have:=hok b _ z;obtain⟨_,e3,_⟩:=this;rw[ha]at e3;cases e3
      ·exact absurd y hbP
 cases hk:K.lookup a with
 | some o=>
  -- the script is one of the module's own objects
  have e:=KX a o hk;rw[ha]at e;cases e;refine core (λb=>if b=P0 then some (.tbl nY)else none) (λb=> ?_) (.inr ⟨_,vs.toArray,_,hk,rfl,rfl,rfl,by rw[Ox,lenV];exact hl,by simpa using rv⟩) (λb u z=> ?_) (λb z=> ?_) (λz=>absurd (if_neg hPa.symm) z) (if_pos rfl)
  ·by_cases hb:b=P0
   ·exact .inr (.inr (if_pos hb))
   ·exact .inl (if_neg hb)
  ·by_cases hb:b=P0
   ·have z':=(if_pos hb).symm.trans z
    cases z';subst hb;exact hPo _
   ·have z':=(if_neg hb).symm.trans z
    cases z'
  ·by_cases hb:b=P0
   ·exact .inr hb
   ·exact absurd (if_neg hb) z
 | none=>
  have hF:∀b,b≠a->b≠P0->(if b=a then some (HO.frz { cls:=.type "list",data:=.seq vs.toArray } (.lst (ns.map V.int)))else if b=P0 then some (.tbl nY)else none)=none:=λb h1 h2=>by rw[if_neg h1,if_neg h2]
  have hG:∀b,b≠a->b=P0->(if b=a then some (HO.frz { cls:=.type "list",data:=.seq vs.toArray } (.lst (ns.map V.int)))else if b=P0 then some (.tbl nY)else none)=some (.tbl nY):=λb h1 h2=>by rw[if_neg h1,if_pos h2]
  refine core (λb=>if b=a then some (.frz { cls:=.type "list",data:=.seq vs.toArray } (.lst (ns.map V.int)))else if b=P0 then some (.tbl nY)else none) (λb=> ?_) (.inl (.inr ⟨{ cls:=.type "list",data:=.seq vs.toArray },if_pos rfl⟩)) (λb u z=> ?_) (λb z=> ?_) (λ_=>hk) (hG P0 hPa rfl)
  ·by_cases hb:b=a
   ·exact .inr (.inl ⟨_,_,if_pos hb⟩)
   ·by_cases hb2:b=P0
    ·exact .inr (.inr (hG b hb hb2))
    ·exact .inl (hF b hb hb2)
  ·by_cases hb:b=a
   ·have z':=(if_pos hb).symm.trans z
    cases z';subst hb;exact⟨ha,by rw[Ob];exact hl,vs,_,rv,ha⟩
   ·by_cases hb2:b=P0
    ·have z':=(hG b hb hb2).symm.trans z
     cases z';subst hb2;exact hPo _
    ·have z':=(hF b hb hb2).symm.trans z
     cases z'
  ·by_cases hb:b=a
   ·exact .inl hb
   ·by_cases hb2:b=P0
    ·exact .inr hb2
    ·exact absurd (hF b hb hb2) z
abbrev CX0:BL:=λ_ _ _ _ _ _=>False
abbrev E0:XK:=λ_ _ _=>False
theorem zC {X:Cx}:u4 CX0 X E0:=λ_ _ _ _ _ _ _ h=>h.elim
structure Fun (K:N6)(x qual:Str)(st:Stmt)(f:Addr)(fd:PV):Prop where
 ex:∃(oc:Oa) (od:Option Addr) (kV doc pm:Oa) (an:Option Addr) (cdv ct:Oa) (osl:Array (Option Oa)),
  fd=R5 x qual (ir st) (cZ st) (az st) .none kV doc pm an cdv ct/\K.lookup f=some ⟨oc,od,.func fd,osl⟩/\Vb K cdv qual=true
 kp:Qw K (.ref f)=true
section
variable {P:OH}{w:Px}{K:N6}{mg:Str->Option Oa}{base:Heap}
theorem Fun.ok {x qual:Str}{st:Stmt}{f:Addr}{fd:PV}{N ps:List Str}{k:Nat}{sp:Sp}(F:Fun K x qual st f fd)(S:dj N ps (az st))(len:∀vs H Q E,sp vs H Q E->vs.length=ps.length)
  (hbody:∀(cdv:Oa),fd.code=cdv->∀(A:OV) (outer:List Env) (s:Od) (H:Hp) (vs:List V) (Q:VK) (E:XK),Room k (A.deeper (envOfC qual (az st) s.heap.objs.size f cdv))->sp vs H Q E →
   ∃t,PSs (jk CX0 P w K mg base N qual (az st) f cdv A outer s H E).nox (cZ st) t/\t { nx:=λ_ H'=>Q .non H',rt:=Q } (start N vs) H):rB P w K mg base CX0 (k+1) f fd ps sp:=by
 obtain⟨oc,od,kV,doc,pm,an,cdv,ct,osl,rfl,lk,hcd⟩:=F.ex;refine Mm lk hcd S len λA outer s H vs Q E hr hsp=> ?_
 obtain⟨t,h,q⟩:=hbody cdv rfl A outer s H vs Q E hr hsp;exact⟨t,h.nox,q⟩
theorem Fun.binds {x qual:Str}{st:Stmt}{f:Addr}{fd:PV}{ps:List Str}(F:Fun K x qual st f fd)
  (h:∀(kV doc pm:Oa) (an:Option Addr) (cdv ct:Oa) (us:List Oa),us.length=ps.length->VQ (R5 x qual (ir st) (cZ st) (az st) .none kV doc pm an cdv ct) ⟨us,[]⟩=pure (ps.zip us)):Binds K fd ps []:=by
 obtain⟨oc,od,kV,doc,pm,an,cdv,ct,osl,rfl,lk,hcd⟩:=F.ex;exact .all (h kV doc pm an cdv ct)
theorem Ka {x qual:Str}{st:Stmt}{f:Addr}{oc:Oa}{od an:Option Addr}{osl:Array (Option Oa)}{kV doc pm cdv ct:Oa}(l:K.lookup f=some ⟨oc,od,.func (R5 x qual (ir st) (cZ st) (az st) .none kV doc pm an cdv ct),osl⟩)
  (c:Vb K cdv qual=true) (k:Qw K (.ref f)=true):Fun K x qual st f (R5 x qual (ir st) (cZ st) (az st) .none kV doc pm an cdv ct):=⟨⟨oc,od,kV,doc,pm,an,cdv,ct,osl,rfl,l,c⟩,k⟩
end
section
variable {X:Cx}
theorem pv (i:Nat){x:Str}{pos:Pos}(hN:X.N[i]? =some x:=by rfl)(hv:autoParam (uY X.env.scope x) u_)(hd:autoParam ((x == ("__debug__" : Str))=false) s_)
  (hcd:autoParam ((x == ("__classdict__" : Str))=false) s_):PE X (.Name x pos) (oV i):=i8 hN hv hd hcd
end
theorem iteF {A B:Prop}(h:B):if false=true then A else B:=by
 rw[if_neg OF];exact h
theorem iteT {A B:Prop}(h:A):if true=true then A else B:=by
 rw[if_pos rfl];exact h
def Same (H H':Hp):Prop:=∀b o,H b=some o->H' b=some o
theorem Same.refl (H:Hp):Same H H:=λ_ _ h=>h
theorem Same.trans {H H1 H2:Hp}(a:Same H H1)(b:Same H1 H2):Same H H2:=λc o h=>b c o (a c o h)
theorem lD {env:Env}:∀(names:List (Str×RP)) (acc:List (Str×Addr)),
  (∀x,(x,Pl)∈names->∃c,env.cells.lookup x=some c) →
  (∀x c,acc.lookup x=some c->env.cells.lookup x=some c) →
  ∃cl,(forIn (m:=Sem) names acc (λx cs=>(if (x.2 == Pl)=true then do let a <-cellOf env x.1;pure (RD ((x.1,a)::cs))else pure (RD cs))))=pure cl ∧
   (∀x c,cl.lookup x=some c->env.cells.lookup x=some c) ∧
   (∀x,(x,Pl)∈names->∃c,cl.lookup x=some c)/\(∀x c,acc.lookup x=some c->∃c',cl.lookup x=some c')
 | [],acc,_,h=>⟨acc,rfl,h,λx hx=>by simp at hx,λx c e=>⟨c,e⟩⟩
 | (n,k)::r,acc,hf,h=>by
  by_cases hk:k=Pl
  ·subst hk
   obtain⟨c,hc⟩:=hf n (by simp)
   have h':∀x c',((n,c)::acc).lookup x=some c'->env.cells.lookup x=some c':=λx c' e=>by
    rw[Pr]at e
    cases q:x == n with
    | true=>
     rw[q]at e
     have e2:c=c':=OP e
     have e3:x=n:=by simpa using q
     rw[<-e2,e3];exact hc
    | false=>rw[q]at e;exact h x c' e
   obtain⟨cl,e1,e2,e3,e4⟩:=lD r ((n,c)::acc) (λx hx=>hf x (N8 _ hx)) h'
   refine⟨cl,?_,e2,λx hx=> ?_,λx c' e=> ?_⟩
   ·rw[W5]
    simp only[beq_self_eq_true,if_true,cellOf,hc,pure_bind];exact e1
   ·rcases Og.mp hx with z | z
    ·have z1:x=n:=by injection z
     subst z1;exact e4 x c (by simp[Pr])
    ·exact e3 x z
   ·cases q:x == n with
    | true=>exact e4 x c (by simp[Pr,q])
    | false=>exact e4 x c' (by simp[Pr,q,e])
  ·have hb:(k == Pl)=false:=by simpa using hk
   obtain⟨cl,e1,e2,e3,e4⟩:=lD r acc (λx hx=>hf x (N8 _ hx)) h
   refine⟨cl,?_,e2,λx hx=> ?_,e4⟩
   ·rw[W5]
    simp only[hb,Qe,if_false,pure_bind];exact e1
   ·rcases Og.mp hx with z | z
    ·have z1:Pl=k:=by injection z
     exact absurd z1.symm hk
    ·exact e3 x z
theorem yO {env:Env}{scope:RI}(hf:∀x,(x,Pl)∈scope.names->∃c,env.cells.lookup x=some c) :
  ∃cl,U0 scope env=pure cl/\(∀x c,cl.lookup x=some c->env.cells.lookup x=some c)/\(∀x,(x,Pl)∈scope.names->∃c,cl.lookup x=some c):=by
 obtain⟨cl,e1,e2,e3,_⟩:=lD scope.names [] hf (λx c e=>by simp at e)
 refine⟨cl,?_,e2,e3⟩
 unfold U0;refine Eq.trans ?_ (congrArg (λz=>z >>= pure) e1|>.trans (by simp))
 rfl
theorem uQ {pr:OH}{wd:Px}{Ar:OV}{Rz:Xj->Od->Prop}{s0:Od}{el tg it0:Expr}{cs:List Expr}{sc:RI}{ps:Pos}{itv av:Oa}{ev:Env}(W:Nat->Od->Prop)
  (go:∀k st,W k st->wpAny (model pr wd) Ar (pyNext itv) (λr s1=>match r with
   | none=>Rz (.ok .next) s1
   | some v=>wpAny (model pr wd) Ar (Sm tg itv v) (λ_ s2=>wpAny (model pr wd) Ar (assign tg ev v) (λ_ s3=>
     wpAny (model pr wd) Ar (forIn cs true λc b=>if b=true then do let z <-isTrue c ev (eval c ev);pure (RD z)else pure (RD b)) (λz s4=>
      if z=true then wpAny (model pr wd) Ar (eval el ev) (λy s5=>
       wpAny (model pr wd) Ar (call (.builtin "list.append") [av,y]) (λ_ s6=> ∃m,m<k/\W m s6) (λ_ _=>False) s5) (λ_ _=>False) s4
      else ∃m,m<k/\W m s4) (λ_ _=>False) s3) (λ_ _=>False) s2) (λ_ _=>False) s1) (λ_ _=>False) st)
  (k:Nat) (hk:W k s0):codeAny (model pr wd) Ar (.compLoop (.ListComp el [⟨tg,it0,cs,0⟩] sc ps) 0 itv av ev) Rz s0:=by
 refine codeAny_loop rfl W (λk st hw=> ?_) k hk
 show wpAny (model pr wd) Ar ((compTurn (.ListComp el [⟨tg,it0,cs,0⟩] sc ps) 0 itv av ev).onRaise (λz=>do Xl z ev;theTreesLotGoes z)) _ _ st
 refine wpAny_noted ?_
 rw[compTurn_list]
 have no:∀{α:Type} {t:Sem α} {Q Q':α->Od->Prop} {E':Oa->Od->Prop} {x:Od},wpAny (model pr wd) Ar t Q (λ_ _=>False) x->(∀y z,Q y z->Q' y z)->wpAny (model pr wd) Ar t Q' E' x:=λh f=>Qo h f λ_ _ z=>z.elim
 refine N7 (wpAny_standAt (N7 (no (go k st hw) λr s1 g1=> ?_)))
 cases r with
 | none=>exact Ol g1
 | some v=>
  refine N7 (no g1 λ_ s2 g2=>N7 (no g2 λ_ s3 g3=>N7 (no g3 λz s4 g4=> ?_)))
  cases z with
  | false=>exact Ol (And.intro rfl g4)
  | true=>exact N7 (N7 (no g4 λy s5 g5=>N7 (no g5 λ_ s6 g6=>Ol (Ol (And.intro rfl g6)))))
def cA (X:Cx)(scope:RI)(cl:List (Str×Addr))(N':List Str)(C:Addr)(s₀:Od)(H₀:Hp)(fp:List Addr):Cx:=
 { X with N:=N',s₀:=s₀,H₀:=H₀,env:=compEnvC scope cl C X.env,outer:=X.stack,stack:=X.stack,ex:=fp,fn:=λx=>scope.names.lookup x == some .cell,xe:=λ_ _=>False }
def gG (src:List (Option Nat))(σ:St):St:=src.map λo=>match o with
 | some i=>(σ[i]?).join
 | none=>none
theorem jO {env:Env}:∀{names:List (Str×RP)} {x:Str} {k:RP},
  (names.map λ(n,k)=>if (k == Pl&&env.scope.kind == .function&&env.kindOf n == some .cell)then(n,Qg)else(n,k)).lookup x=some k →
  ∃k',names.lookup x=some k'/\(k=k'\/k'= .free)
 | [],_,_,h=>by simp at h
 | (n,k0)::r,x,k,h=>by
  have ih:=@jO env r x k
  have h':R4 x ((if (k0 == Pl&&env.scope.kind == .function&&env.kindOf n == some .cell)=true then(n,Qg)else(n,k0))::(r.map λ(n,k)=>if (k == Pl&&env.scope.kind == .function&&env.kindOf n == some .cell)then(n,Qg)else(n,k)))=some k:=h
  by_cases hc:(k0 == Pl&&env.scope.kind == .function&&env.kindOf n == some .cell)=true
  ·rw[if_pos hc]at h'
   rw[Pr]at h' ⊢
   cases hx:x == n with
   | true=>
    refine⟨k0,rfl,.inr ?_⟩
    have:=QL.mp hc|>.1
    have:=QL.mp this|>.1
    simpa using this
   | false=>rw[hx]at h';exact ih h'
  ·rw[if_neg hc]at h'
   rw[Pr]at h' ⊢
   cases hx:x == n with
   | true=>rw[hx]at h';exact⟨k0,rfl,.inl (OP h').symm⟩
   | false=>rw[hx]at h';exact ih h'
theorem kq {names:List (Str×RP)}{x:Str}{k:RP}(h:names.lookup x=some k):(x,k)∈names:=QU h
theorem jz {env:Env}:∀{names:List (Str×RP)} {x:Str},names.lookup x=some .free →
  (names.map λ(n,k)=>if (k == Pl&&env.scope.kind == .function&&env.kindOf n == some .cell)then(n,Qg)else(n,k)).lookup x=some .cell ∨
  (names.map λ(n,k)=>if (k == Pl&&env.scope.kind == .function&&env.kindOf n == some .cell)then(n,Qg)else(n,k)).lookup x=some .free
 | [],_,h=>by simp at h
 | (n,k0)::r,x,h=>by
  have ih:=@jz env r x
  show R4 x ((if (k0 == Pl&&env.scope.kind == .function&&env.kindOf n == some .cell)=true then(n,Qg)else(n,k0))::_)=_\/R4 x ((if (k0 == Pl&&env.scope.kind == .function&&env.kindOf n == some .cell)=true then(n,Qg)else(n,k0))::_)=_
  rw[Pr]at h
  by_cases hc:(k0 == Pl&&env.scope.kind == .function&&env.kindOf n == some .cell)=true
  ·rw[if_pos hc]
   rw[Pr]
   cases hx:x == n with
   | true=>exact .inl rfl
   | false=>rw[hx]at h;exact ih h
  ·rw[if_neg hc]
   rw[Pr]
   cases hx:x == n with
   | true=>rw[hx]at h;exact .inr h
   | false=>rw[hx]at h;exact ih h
section
variable {X:Cx}
structure LcScope (X:Cx)(scope:RI)(N':List Str)(src:List (Option Nat)):Prop where
 kind:scope.kind= .function
 cel:∀y∈scope.names,y.2= .cell->scope.names.lookup y.1=some .cell
 loc:∀y∈scope.names,y.2= .local->scope.names.lookup y.1=some .local
 len:src.length=N'.length
 from_:∀(j i:Nat) (x:Str),src[j]? =some (some i)->N'[j]? =some x->X.N[i]? =some x/\scope.names.lookup x=some .free
 free:∀x,(x,Pl)∈scope.names->X.env.kindOf x=some .cell\/X.env.kindOf x=some .free
def Ik (K:N6)(wi:TI)(src:List (Option Nat))(g:TG)(tc:TT)(te:TE):TE:=λσ H Q=>wi σ H λJ H1=> ∀D,H1 D=none->K.lookup D=none →
 ∃W:Nat->Nat->St->List V->Hp->Prop,(∃m,W 0 m (gG src σ) [] (upd H1 D (.lst [])))/\∀i m σ ys H,W i m σ ys H->H D=some (.lst ys) ∧
  ((J.stop i H/\Q (.ref D) H)\/(J.go i H/\ys.length<sizeLine/\∀x H',J.yld i H x H'->g x σ H' λσ2 H2=>tc σ2 H2 λb H3=>
   if b=true then te σ2 H3 λv H4=>H4 D=some (.lst ys)/\∃m',m'<m/\W (i+1) m' σ2 (ys++ [v]) (upd H4 D (.lst (ys++ [v])))else ∃m',m'<m/\W (i+1) m' σ2 ys H3))
def BJ (X:Cx)(ifs:List Expr)(t:TT):Prop:=
 ∀(pins:List (Addr×Obj)) (s:Od) (σ:St) (H:Hp) (Q:Bool->Hp->Prop),Inv X pins σ H s->t σ H Q →
  wpAny (model X.prog X.w) X.A (forIn ifs true λc r=>if r=true then do let ok <-isTrue c X.env (eval c X.env);pure (RD ok)else pure (RD r)) (TP X pins σ Q) X.xe s
def vj:TT:=λ_ H Q=>Q true H
theorem tT:BJ X [] vj:=λ_ _ _ H _ I h=>wpAny_tests_nil ⟨H,I,h⟩
theorem FZ {c:Expr}{t:TT}(h:PT X c t):BJ X [c] t:=λpins s σ H Q I q=>wpAny_tests_one (h pins s σ H Q I q)
theorem nh:∀(names:List (Str×RP)) (h:Heap) (acc:List (Str×Addr)),(∀x y c,acc.lookup x=some c->acc.lookup y=some c->x=y)->(∀x c,acc.lookup x=some c->c<h.objs.size) →
  (∀x c,(QV h.objs.size names acc).lookup x=some c->acc.lookup x=some c\/(h.objs.size<=c/\(UP h names).IsCell c none)) ∧
  (∀x y c,(QV h.objs.size names acc).lookup x=some c->(QV h.objs.size names acc).lookup y=some c->x=y) ∧
  (∀x,(x,Qg)∉names->(QV h.objs.size names acc).lookup x=acc.lookup x) ∧
  (∀x,((x,Qg)∈names\/∃c,acc.lookup x=some c)->∃c,(QV h.objs.size names acc).lookup x=some c) ∧
  (∀x c,(x,Qg)∈names->(QV h.objs.size names acc).lookup x=some c->h.objs.size<=c)
 | [],h,acc,hi,_=>⟨λ_ _ e=> .inl e,hi,λ_ _=>rfl,λx e=>e.elim (λz=>absurd z Pd) id,λ_ _ z=>absurd z Pd⟩
 | (n,k)::r,h,acc,hi,hl=>by
  unfold QV UP
  by_cases hk:k= .cell
  ·subst hk
   rw[if_pos (by rfl),if_pos (by rfl)]
   have hz:(h.push { cls:=.type "cell",data:=.cell none }).objs.size=h.objs.size+1:=Ry ..
   have lk:∀x,((n,h.objs.size)::acc).lookup x=if x=n then some h.objs.size else acc.lookup x:=λx=>by
    rw[Pr]
    by_cases e:x=n
    ·rw[if_pos e,beq_iff_eq.mpr e]
    ·rw[if_neg e,beq_eq_false_iff_ne.mpr e]
   obtain⟨c1,c2,c3,c4,c5⟩:=nh r (h.push { cls:=.type "cell",data:=.cell none }) ((n,h.objs.size)::acc) (λx y c e1 e2=>by
     rw[lk]at e1 e2
     by_cases q1:x=n
     ·by_cases q2:y=n
      ·rw[q1,q2]
      ·rw[if_pos q1]at e1;rw[if_neg q2]at e2
       cases e1;exact absurd (hl _ _ e2) (O9 _)
     ·rw[if_neg q1]at e1
      by_cases q2:y=n
      ·rw[if_pos q2]at e2
       cases e2;exact absurd (hl _ _ e1) (O9 _)
      ·rw[if_neg q2]at e2;exact hi x y c e1 e2) (λx c e=>by
     rw[lk]at e;rw[hz]
     by_cases q:x=n
     ·rw[if_pos q]at e;cases e;exact WI _
     ·rw[if_neg q]at e;exact RM (hl x c e))
   rw[hz]at c1 c2 c3 c4 c5;refine⟨λx c e=> ?_,c2,λx hx=> ?_,λx hx=> ?_,λx c hx e=> ?_⟩
   ·rcases c1 x c e with z | z
    ·rw[lk]at z
     by_cases q:x=n
     ·rw[if_pos q]at z;cases z
      exact .inr ⟨Ot _,_,UQ r _ _ _ (Oz _ rfl),rfl⟩
     ·rw[if_neg q]at z;exact .inl z
    ·exact .inr ⟨Sy z.1,z.2⟩
   ·rw[c3 x λz=>hx (N8 _ z),lk,if_neg λz=>hx (by rw[z];exact Oe)]
   ·refine c4 x ?_
    rcases hx with hx | hx
    ·rcases Og.mp hx with z | z
     ·cases z
      exact .inr ⟨_,by rw[lk,if_pos rfl]⟩
     ·exact .inl z
    ·by_cases q:x=n
     ·exact .inr ⟨_,by rw[lk,if_pos q]⟩
     ·exact .inr (by rw[lk,if_neg q];exact hx)
   ·rcases Og.mp hx with z | z
    ·have q:x=n:=(T3 z).1
     rcases c1 x c e with y | y
     ·rw[lk,if_pos q]at y;cases y;exact Ot _
     ·exact Sy y.1
    ·exact Sy (c5 x c z e)
  ·have hb:¬ (k == Qg)=true:=λz=>hk (by simpa using z)
   rw[if_neg hb,if_neg hb];obtain⟨c1,c2,c3,c4,c5⟩:=nh r h acc hi hl;exact⟨c1,c2,λx hx=>c3 x λz=>hx (N8 _ z),λx hx=>c4 x (hx.imp (λz=>(Og.mp z).resolve_left λz=>hk (T3 z).2.symm) id),λx c hx=>c5 x c ((Og.mp hx).resolve_left λz=>hk (T3 z).2.symm)⟩
theorem AR {M:Xh}{A:OV}{E:Oa->Od->Prop}{s:Od}{scope:RI}{globals:Addr}{cl:List (Str×Addr)}{qual:Str}{env:Env}{Q:Env->Od->Prop}
  (q:Q (newEnv scope s.heap.objs.size globals (QV (s.heap.objs.size+1) scope.names cl) qual none .none (some env) Sa) { s with heap:=UP (s.heap.push { cls:=.type "dict",data:=.dict #[] }) scope.names }) :
  wpAny M A (newFunctionEnv scope globals cl [] qual none .none (some env)) Q E s:=by
 simp only[newFunctionEnv,Vy,if_true];refine N7 (wpAny_alloc (N7 (wpAny_layCells _ (λname kind cells=>by cases hkc:kind == Qg <;> simp[hkc]) _ _ _ _ ?_)))
 rw[show({ s with heap:=s.heap.push { cls:=.type "dict",data:=.dict #[] } }:Od).heap.objs.size=s.heap.objs.size+1 from Ry ..]
 rw[List.forIn_nil];exact N7 (Ol (Ol q))
theorem zU {elt tg iter:Expr}{ifs:List Expr}{scope:RI}{pos fpos:Pos}{N':List Str}{src:List (Option Nat)}{wi:TI}{g:TG}{tc:TT}{te:TE}{use:Option (Oa->Sem Unit)}{Qf:Oa->Od->Prop}
  {pins:List (Addr×Obj)} {s:Od} {σ:St} {H:Hp} {Q:VK}
  (hc:X.calm=true) (S:LcScope X scope N' src) (hi:PI X tg iter wi)
  (block:∀cl C s₀ H₀ fp,PG (cA X scope cl N' C s₀ H₀ fp) tg g/\BJ (cA X scope cl N' C s₀ H₀ fp) ifs tc/\PE (cA X scope cl N' C s₀ H₀ fp) elt te)
  (hs:∀x,Ph iter X.env x=pure x) (I:Inv X pins σ H s) (h:Ik X.K wi src g tc te σ H Q)
  (hend:∀(D C:Addr) (H':Hp) (s':Od),(∃m,s'.heap.Ns C m)->(∀h',SH C s'.heap h'->Inv X pins σ H' { s' with heap:=h' })->(H' C=none/\C≠X.env.locals/\X.s₀.heap.objs.size<=C/\(∀x c,X.env.cells.lookup x=some c->c≠C)/\∀p∈X.pn++pins,p.1≠C)->Q (.ref D) H' →
   compPost (model X.prog X.w) X.A X.xe use Qf (.ref D) C (.ok .next) s') :
  wpAny (model X.prog X.w) X.A (comprehension (.ListComp elt [⟨tg,iter,ifs,0⟩] scope pos) scope X.env fpos (newList []) false (eval iter X.env) use) Qf X.xe s:=by
 have hcell:∀x,(x,Pl)∈scope.names->∃c,X.env.cells.lookup x=some c:=λx hx=>I.ok.has x (S.free x hx)
 obtain⟨cl0,hcl,cl01,cl02⟩:=yO (env:=X.env) (scope:=scope) hcell;refine wpAny_comprehension_free (use:=use) rfl hs hcl S.kind S.loc (cL (hi pins s σ H _ I h) λv s1 h1=>cL h1 λitv s2 h2=> ?_)
 obtain⟨it,fp,tn,J,H2,e,I2,T,st2,f2,hq⟩:=h2;subst e
 -- the new list
 refine Pt ?_
 have hD:H2 s2.heap.objs.size=none:=I2.hok.fresh (Ot _)
 have hDK:X.K.lookup s2.heap.objs.size=none:=by
  cases q:X.K.lookup s2.heap.objs.size with
  | none=>rfl
  | some o=>exact absurd (Ou (I2.kIn _ o q)) (O9 _)
 obtain⟨W,⟨m0,w0⟩,turn⟩:=hq s2.heap.objs.size hD hDK
 have I3:=I2.NL (its:=[]) (ys:=[]) (t':=s2.toks) .nil (Pj _)
 generalize hs3:({ s2 with heap:=s2.heap.push { cls:=.type "list",data:=.seq ([]:List Oa).toArray },toks:=s2.toks }:Od)=s3 at I3
 generalize hH3:upd H2 s2.heap.objs.size (.lst [])=H3 at I3 w0
 have hDsz:s2.heap.objs.size<s3.heap.objs.size:=by rw[<-hs3];simp[Ry]
 have fr3:∀b∈fp,H3 b=none:=λb hb=>by
  obtain⟨o,eo,_⟩:=T.obj _ _ st2 b hb;rw[<-hH3,aG (O7 (Ou eo))];exact(f2 b hb).1
 have st3:tn 0 s3.heap:=T.keep _ _ _ st2 λb hb o e=>by rw[<-hs3];exact Oh _ e
 have f3:∀b∈fp,qQ X pins H3 b:=λb hb=>⟨fr3 b hb,(f2 b hb).2⟩
 have D3:H3 s2.heap.objs.size=some (.lst []):=by rw[<-hH3];exact aI
 generalize s2.heap.objs.size=D at*
 clear hs3 hH3 hD hDK
 -- the block's frame
 refine AR ?_
 have old:∀b o,s3.heap.get? b=some o->(UP (s3.heap.push { cls:=.type "dict",data:=.dict #[] }) scope.names).get? b=some o:=λb o e=>UQ _ _ b o (Oh _ e)
 have hns₁:(UP (s3.heap.push { cls:=.type "dict",data:=.dict #[] }) scope.names).Ns s3.heap.objs.size (λ_=>none):=(Heap.Ns.new s3.heap (.type "dict")).keeps (UQ _ _)
 have hz3:(s3.heap.push { cls:=.type "dict",data:=.dict #[] }).objs.size=s3.heap.objs.size+1:=Ry ..
 have lt0:∀x c,cl0.lookup x=some c->c<s3.heap.objs.size:=λx c e=>let ⟨_,ic⟩:=I3.cell x c (cl01 x c e);ic.lt
 obtain⟨c1,c2,c3,c4,c5⟩:=nh scope.names (s3.heap.push { cls:=.type "dict",data:=.dict #[] }) cl0 (λx y c e1 e2=>I3.ok.inj x y c (cl01 x c e1) (cl01 y c e2)) λx c e=>by rw[hz3];exact RM (lt0 x c e)
 rw[hz3]at c1 c2 c3 c4 c5
 generalize hcl':QV (s3.heap.objs.size+1) scope.names cl0=cl at*
 generalize hh₁:UP (s3.heap.push { cls:=.type "dict",data:=.dict #[] }) scope.names=h₁ at*
 have below:∀b o,s3.heap.get? b=some o->b≠s3.heap.objs.size:=λb o e=>O7 (Ou e)
 -- a cell of the block's: one from around,or a new one
 have cl1:∀x c,cl.lookup x=some c->X.env.cells.lookup x=some c\/(s3.heap.objs.size<c/\h₁.IsCell c none):=λx c e=>(c1 x c e).imp (cl01 x c) id
 generalize hC:s3.heap.objs.size=C at*
 have stk:∀b,b≠X.env.locals->b∉X.fs->b∉kF X.stack:=λb h1 h2 z=>(Og.mp (I3.Nj b z)).elim h1 h2
 have apart:∀b∈fp,∀x c,cl.lookup x=some c->c≠b:=λb hb x c e=>by
  rcases cl1 x c e with z | z
  ·exact(f3 b hb).2.2.2.2.1 x c z
  ·obtain⟨o,eo,_⟩:=T.obj _ _ st3 b hb
   have h1:=Ou eo;rw[hC]at h1;exact QF (UC h1 z.1)
 have I4:Inv (cA X scope cl N' C s3 H3 fp) pins (gG src σ) H3 { s3 with heap:=h₁ }:=by
  refine⟨⟨I3.ok.mod,S.kind,I3.ok.glob,I3.ok.blt,R8 hC,c2,λx hx=> ?_,λx c hx e=>Qb (hC▸c5 x c (kq (beq_iff_eq.mp hx)) e),I3.ok.hd,I3.ok.frames,.inl rfl,
    λb hb=>⟨?_,λx c e=>apart b hb x c e⟩,I3.bs,OI I3.ok.bsz I3.sz,λb o e z=> ?_,λb hb=>stk b (f3 b hb).2.1 (f3 b hb).2.2.1,I3.stack,I3.GT,I3.tb⟩,
   rfl,I3.bare,Un.kept old,⟨_,hns₁,λj x v e1 e2 e3=> ?_⟩,λx c e=> ?_,I3.hok.fresh (R8 hC),λx c e=>(cl1 x c e).elim (I3.freeC x c) λz=>I3.hok.fresh (by rw[hC];exact Qb z.1),λp hp=> ?_,I3.hok.kept old,?_⟩
  ·have key:∀k,(relabel scope X.env).names.lookup x=some k->(k= .cell\/k= .free)->∃c,cl.lookup x=some c:=λk e hk=>by
    obtain⟨k',e',z⟩:=jO e
    have hk':k'= .cell\/k'= .free:=z.elim (λz=>z▸hk) .inr
    rcases hk' with q | q
    ·exact c4 x (.inl (q▸kq e'))
    ·exact c4 x (.inr (cl02 x (q▸kq e')))
   rcases hx with hx | hx
   ·exact key _ hx (.inl rfl)
   ·exact key _ hx (.inr rfl)
  ·obtain⟨o,eo,_⟩:=T.obj _ _ st3 b hb
   show b≠C
   exact below b o eo
  ·have z':b∈fp:=z
   obtain⟨_,_,_,z1,_⟩:=f3 b z';rcases z1 with z1 | z1
   ·exact I3.ok.noex b o e z1
   ·exact absurd (Os (Ou (I3.ok.bs b o e).1) z1) (O9 _)
  ·unfold gG at e2
   rw[Ov]at e2
   cases q:src[j]? with
   | none=>rw[q]at e2;simp at e2
   | some o=>
    rw[q]at e2
    cases o with
    | none=>simp at e2
    | some i=>
     have e2':(σ[i]?).join=some v:=by simpa using e2
     have e2'':σ[i]? =some (some v):=by
      cases q2:σ[i]? with
      | none=>rw[q2]at e2';simp at e2'
      | some z=>rw[q2]at e2';simp at e2';rw[e2']
     obtain⟨hN,hfree⟩:=S.from_ j i x q e1
     have hm:=kq hfree
     have hk:=S.free x hm;obtain⟨m,hn,hl⟩:=I3.loc
     have hv:uY X.env.scope x:=by
      rcases hk with z | z
      ·exact .inr (.inl z)
      ·exact .inr (.inr z)
     obtain⟨u,r,l⟩:=hl i x v hN e2'' hv;refine⟨u,r,.inr ⟨?_,?_⟩⟩
     ·exact jz hfree
     ·rcases l with⟨z,_⟩ | ⟨_,c,ec,ic⟩
      ·rcases hk with z' | z' <;> rw[z']at z <;> cases z
      ·obtain⟨c',ec0⟩:=cl02 x hm
       have ec':cl.lookup x=some c':=(c3 x λz=>by have:=S.cel _ z rfl;rw[hfree]at this;cases this).trans ec0
       have:=cl01 x c' ec0;rw[ec]at this;cases this;obtain⟨o,ho,hd⟩:=ic;exact⟨c,ec',o,old _ _ ho,hd⟩
  ·rcases cl1 x c e with z | z
   ·obtain⟨v,o,ho,hd⟩:=I3.cell x c z
    exact⟨v,o,old _ _ ho,hd⟩
   ·exact⟨none,z.2⟩
  ·obtain⟨e,n,ne,nf,d⟩:=I3.pin p hp
   exact⟨old _ _ e,n,below _ _ e,stk _ ne nf,d⟩
  ·show(gG src σ).length=N'.length
   unfold gG;rw[Ob];exact S.len
 obtain⟨bG,bI,bE⟩:=block cl C s3 H3 fp
 have stat:∀{H':Hp},(∀b∈fp,H' b=none)->∀b∈fp,qQ (cA X scope cl N' C s3 H3 fp) pins H' b:=λhn b hb=>by
  obtain⟨o,eo,_⟩:=T.obj _ _ st3 b hb;exact⟨hn b hb,below b o eo,stk b (f3 b hb).2.1 (f3 b hb).2.2.1,.inl hb,apart b hb,(f3 b hb).2.2.2.2.2⟩
 have st4:tn 0 h₁:=T.keep _ _ _ st3 λb hb o e=>old b o e
 -- behind the block
 have after:∀(H':Hp) (s':Od) (σ':St),Inv (cA X scope cl N' C s3 H3 fp) pins σ' H' s'->Q (.ref D) H' →
   compPost (model X.prog X.w) X.A X.xe use Qf (.ref D) C (.ok .next) s':=λH' s' σ' I' q=>by
  obtain⟨m,hn,_⟩:=id I'.loc
  have fC:X.s₀.heap.objs.size<=C:=by rw[<-hC];exact I3.sz
  have ltC:∀b o,s3.heap.get? b=some o->b<C:=λb o e=>by rw[<-hC];exact Ou e
  refine hend D C H' s' ⟨m,hn⟩ (λh' hsb=> ?_) ⟨I'.free,?_,fC,λx c e z=> ?_,λp hp z=> ?_⟩ q
  rotate_left
  ·have:=I3.lt;rw[hC]at this;exact QF this
  ·obtain⟨v,ic⟩:=I3.cell x c e
   have:=ic.lt;rw[hC,z]at this;exact O9 _ this
  ·have:=ltC _ _ (I3.pin p hp).1;rw[z]at this;exact O9 _ this
  have u:Un (kF X.stack) fp H3 H' s3.heap s'.heap:=I'.base
  have lift:∀b o,s3.heap.get? b=some o->∀o',s'.heap.get? b=some o'->h'.get? b=some o':=λb o e o' e'=>hsb.extBut b o' (below b o e) e'
  have u':Un (kF X.stack) fp H3 H' s3.heap h':=
   ⟨λb o e n hb hx=>lift b o e o (u.keep b o e n hb hx),λb o e n hb hx=>by
     obtain⟨sl,z⟩:=u.slot b o e n hb hx;exact⟨sl,lift b o e _ z⟩,u.free,λb o e hx=>by
     obtain⟨o',z⟩:=u.there b o e hx;exact⟨o',lift b o e _ z⟩,u.tups,u.frzs,u.tbls⟩
  have hCn:H' C=none:=I'.free
  have hok':HOk X.prog X.w H' h':=λb ob e=>by
   refine(I'.hok b ob e).M5 (λc w' hc' q'=>(hsb.2 c ?_).trans q') (λ_ q=>q) λ_ _ q=>q
   rintro rfl
   rcases hc' with rfl | hc'
   ·rw[hCn]at e;cases e
   ·rw[hCn]at hc';cases hc'
  have I5:Inv X pins σ H' { s' with heap:=h' }:=I3.Nu (s':={ s' with heap:=h' }) (ch:=fp) I'.os u' hok' I'.bare λb hb=>⟨(f3 b hb).2.2.2.1,(f3 b hb).2.1,(f3 b hb).2.2.2.2.1,(f3 b hb).2.2.2.2.2⟩
  exact I5
 have loop:codeAny (model X.prog X.w) X.A (.compLoop (.ListComp elt [⟨tg,iter,ifs,0⟩] scope pos) 0 (.ref it) (.ref D) (compEnvC scope cl C X.env))
   (compPost (model X.prog X.w) X.A X.xe use Qf (.ref D) C) { s3 with heap:=h₁ }:=by
  refine uQ (λn s'=> ∃i σ' ys H',Inv (cA X scope cl N' C s3 H3 fp) pins σ' H' s'/\tn i s'.heap/\(∀b∈fp,H' b=none)/\W i n σ' ys H') ?_ m0 ⟨0,_,[],H3,I4,st4,fr3,w0⟩
  rintro n s5 ⟨i,σ5,ys,H5,I5,st5,fr5,w5⟩
  obtain⟨hDl,alt⟩:=turn i n σ5 ys H5 w5;rcases alt with⟨stop,qn⟩ | ⟨go,hlen,step⟩
  ·refine cL (T.done (cA X scope cl N' C s3 H3 fp) rfl rfl rfl hc i pins s5 σ5 H5 _ I5 (stat fr5) st5 stop) λr s6 ⟨hr,I6⟩=> ?_
   subst hr;exact after H5 s6 σ5 I6 qn
  ·refine cL (T.item (cA X scope cl N' C s3 H3 fp) rfl rfl rfl hc i pins s5 σ5 H5 _ I5 (stat fr5) st5 go) λr s6 ⟨u,hr,h6⟩=> ?_
   subst hr;refine cL h6 λ_ s7 hh_=> ?_
   obtain⟨x,H7,I7,r7,y7,st7,fr7⟩:=hh_
   have I7':=I7.pinned (stat fr7) (T.obj _ _ st7);refine cL (bG _ s7 σ5 H7 x u _ I7' r7 (step x H7 y7)) λ_ s8 hh_=> ?_
   obtain⟨σ8,H8,I8,q8⟩:=hh_;refine cL (bI _ s8 σ8 H8 _ I8 q8) λok s9 hh_=> ?_
   obtain⟨H9,I9,q9⟩:=hh_
   have again:∀{σx:St} {Hx:Hp} {sx:Od} {ys':List V},Inv (cA X scope cl N' C s3 H3 fp) (pins++pC fp s7.heap) σx Hx sx->(∃m',m'<n/\W (i+1) m' σx ys' Hx) →
     ∃m,m<n/\∃i σ' ys H',Inv (cA X scope cl N' C s3 H3 fp) pins σ' H' sx/\tn i sx.heap/\(∀b∈fp,H' b=none)/\W i m σ' ys H':=λ{σx Hx sx ys'} Ix nx=>by
    obtain⟨m',hm,wx⟩:=nx;refine⟨m',hm,i+1,σx,ys',Hx,Ix.M4,T.keep _ _ _ st7 λb hb o e=>(Ix.pin (b,o) (OK _ (OK _ (ja hb e)))).1,λb hb=> ?_,wx⟩
    obtain⟨o,e,d⟩:=T.obj _ _ st7 b hb;exact(Ix.pin (b,o) (OK _ (OK _ (ja hb e)))).2.1
   cases ok with
   | false=>
    rw[if_neg OF]at q9 ⊢
    exact again I9 q9
   | true=>
    rw[if_pos rfl]at q9 ⊢;refine cL (bE _ s9 σ8 H9 _ I9 q9) λv s10 hh_=> ?_
    obtain⟨y,H10,I10,r10,hD10,q10⟩:=hh_;refine cL (rY _ s10 σ8 H10 (.ref D) [y] (.ref D) [v] (λ_ H'=>H'=upd H10 D (.lst (ys++ [y]))) I10 rfl (.cons r10 .nil) ⟨D,ys,y,rfl,rfl,hD10,hlen,rfl⟩) λ_ s11 hh_=> ?_
    obtain⟨_,H11,I11,_,e11⟩:=hh_;subst e11;exact again I11 q10
 exact codeAny_compStart_list loop (T.self _ 0 _ _ _ st4 loop)
theorem vR {elt tg iter:Expr}{ifs:List Expr}{scope:RI}{pos:Pos}{N':List Str}{src:List (Option Nat)}{wi:TI}{g:TG}{tc:TT}{te:TE}
  (hc:X.calm=true) (S:LcScope X scope N' src) (hi:PI X tg iter wi)
  (block:∀cl C s₀ H₀ fp,PG (cA X scope cl N' C s₀ H₀ fp) tg g/\BJ (cA X scope cl N' C s₀ H₀ fp) ifs tc/\PE (cA X scope cl N' C s₀ H₀ fp) elt te)
  (hs:autoParam (∀x,Ph iter X.env x=pure x) t_) :
  PE X (.ListComp elt [⟨tg,iter,ifs,0⟩] scope pos) (Ik X.K wi src g tc te):=by
 intro pins s σ H Q I h;rw[eval_ListComp];exact zU (use:=none) hc S hi block hs I h λD C H' s' ⟨m,hn⟩ inv _ q=>⟨m,hn,λh' hsb=>⟨.ref D,H',inv h' hsb,rfl,q⟩⟩
theorem Lz {elt tg iter:Expr}{ifs:List Expr}{scope:RI}{pos py spos:Pos}{N':List Str}{src:List (Option Nat)}{wi:TI}{g:TG}{tc:TT}{te:TE}{i:Nat}{y:Str}
  (hc:X.calm=true) (S:LcScope X scope N' src) (hi:PI X tg iter wi)
  (block:∀cl C s₀ H₀ fp,PG (cA X scope cl N' C s₀ H₀ fp) tg g/\BJ (cA X scope cl N' C s₀ H₀ fp) ifs tc/\PE (cA X scope cl N' C s₀ H₀ fp) elt te)
  (hN:X.N.Nodup) (hiy:X.N[i]? =some y) (hy:Loc X.env.scope y) (hsw:P6 (.ListComp elt [⟨tg,iter,ifs,0⟩] scope pos) (some (.Name y py)) spos.line X.env=pure true)
  (hf:X.fn y=true\/X.env.scope.names.lookup y=some .local) (hs:autoParam (∀x,Ph iter X.env x=pure x) t_) :
  PS X (.Assign [.Name y py] (.ListComp elt [⟨tg,iter,ifs,0⟩] scope pos) spos) (B1 (Ik X.K wi src g tc te) (DY i)):=by
 intro pins s σ H D I h;rw[exec_Assign_Name_used _ _ _ _ hsw];refine N7 (wpAny_standAt (N7 ?_))
 show wpAny (model X.prog X.w) X.A (do let _ <-comprehension (.ListComp elt [⟨tg,iter,ifs,0⟩] scope pos) scope X.env _ (newList []) false (eval iter X.env) (some (assign (.Name y py) X.env))) _ _ s
 refine N7 (cL (zU (use:=some (assign (.Name y py) X.env)) (Qf:=λ_ s'=>SP X pins D .next s') (Q:=λv H'=>D.nx (σ.set i (some v)) H') hc S hi block hs I h λL C H' s' ⟨m,hn⟩ inv ⟨c0,c1,c2,c3,c4⟩ q=> ?_) λ_ s' hq=>Ol (Ol hq))
 have I0:Inv X pins σ H' s':=inv s'.heap (Heap.SameBut.refl ..)
 show wpAny (model X.prog X.w) X.A (assign (.Name y py) X.env (.ref L)) _ _ s'
 refine Wj (rJ I0 hN hiy hy (v:=.ref L) rfl (λs2 I2 ⟨b,sb,hb⟩=> ?_) hf)
 have hbC:C≠b:=by
  rcases hb with z | z
  ·rw[z];exact c1
  ·exact λw=>c3 y b z w.symm
 refine⟨m,hn.sameBut sb hbC,λh' hsb=> ?_⟩
 exact⟨_,H',I2.turned (t':=s2.toks) (λb' o hb' e=>(hsb.2 b' hb').trans e) c0 c1 (.inr c2) c3 c4,q⟩
end
end L2
namespace Tr
open PySem PySem.Spec PyProof.Rows L2
def HF:T->Option Key
 | .int i=>some (.inl i)
 | .str x=>some (.inr x)
 | _=>none
def qt:List T->Option (List Key)
 | [] =>some []
 | t::l=>match HF t,qt l with
  | some k,some r=>some (k::r)
  | _,_=>none
def keyOf:T->Option (List Key)
 | .tup l=>qt l
 | _=>none
@[simp] theorem aH {α β:Type} (a:α) (f:α->Rs β):(Rs.ok a >>= f)=f a:=rfl
@[simp] theorem MQ {α:Type} (a:α):(pure a:Rs α)=Rs.ok a:=rfl
@[simp] theorem Mx {α β:Type} (f:α->Rs β):((Rs.bad:Rs α) >>= f)= .bad:=rfl
@[simp] theorem Mq {α β:Type} (c:Str) (f:α->Rs β):((Rs.err c:Rs α) >>= f)= .err c:=rfl
mutual
def Rep (K:N6)(O:Ow)(H:Hp):T->V->Prop
 | .non,v=>v= .non
 | .bl b,v=>v= .bl b
 | .int i,v=>v= .int i
 | .str x,v=>v= .str x
 | .tup l,v=> ∃a vs,v= .ref a/\¬ O a/\H a=some (.tup vs)/\Reps K O H l vs
 | .lst l,v=> ∃a vs,v= .ref a/\¬ O a/\H a=some (.lst vs)/\Reps K O H l vs
 | .scr l,v=> ∃a,v= .ref a/\¬ O a/\SqL K H a (l.map V.int)
 | .dct ks ts,v=> ∃a kvs,v= .ref a/\¬ O a/\Rd H a (.dT kvs)/\ks.map keyOf=kvs.map (λp=>some p.1)/\Reps K O H ts (kvs.map (·.2))
def Reps (K:N6)(O:Ow)(H:Hp):List T->List V->Prop
 | [],vs=>vs= []
 | t::r,vs=> ∃v ws,vs=v::ws/\Rep K O H t v/\Reps K O H r ws
end
def SameO (P:Ow)(H H':Hp):Prop:=∀b o,H b=some o->¬ P b->H' b=some o
theorem SameO.of {P:Ow}{H H':Hp}(h:Same H H'):SameO P H H':=λb o e _=>h b o e
theorem Rd.NH {P:Ow}{H H':Hp}{a:Addr}{u:HO}(h:SameO P H H')(n:¬ P a)(q:Rd H a u):Rd H' a u:=q.elim (λe=> .inl (h _ _ e n)) λ⟨o,e⟩=> .inr ⟨o,h _ _ e n⟩
theorem SqL.keep {K:N6}{P:Ow}{H H':Hp}{a:Addr}{vs:List V}(h:SameO P H H')(n:¬ P a)(q:SqL K H a vs):SqL K H' a vs:=by
 rcases q with(q | ⟨o,q⟩) | q
 ·exact .inl (.inl (h _ _ q n))
 ·exact .inl (.inr ⟨o,h _ _ q n⟩)
 ·exact .inr q
mutual
theorem Rep.keep {K:N6}{O P:Ow}{H H':Hp}(h:SameO P H H')(sub:∀a,P a->O a):∀{t:T} {v:V},Rep K O H t v->Rep K O H' t v
 | .non,_,r=>by unfold Rep at r ⊢;exact r
 | .bl _,_,r=>by unfold Rep at r ⊢;exact r
 | .int _,_,r=>by unfold Rep at r ⊢;exact r
 | .str _,_,r=>by unfold Rep at r ⊢;exact r
 | .tup l,_,r=>by
  unfold Rep at r ⊢;obtain⟨a,vs,e,n,q,z⟩:=r
  exact⟨a,vs,e,n,h _ _ q (λp=>n (sub a p)),Reps.keep h sub z⟩
 | .lst l,_,r=>by
  unfold Rep at r ⊢;obtain⟨a,vs,e,n,q,z⟩:=r
  exact⟨a,vs,e,n,h _ _ q (λp=>n (sub a p)),Reps.keep h sub z⟩
 | .scr l,_,r=>by
  unfold Rep at r ⊢;obtain⟨a,e,n,q⟩:=r
  exact⟨a,e,n,SqL.keep h (λp=>n (sub a p)) q⟩
 | .dct ks ts,_,r=>by
  unfold Rep at r ⊢;obtain⟨a,kvs,e,n,q,k,z⟩:=r;exact⟨a,kvs,e,n,Rd.NH h (λp=>n (sub a p)) q,k,Reps.keep h sub z⟩
theorem Reps.keep {K:N6}{O P:Ow}{H H':Hp}(h:SameO P H H')(sub:∀a,P a->O a):∀{l:List T} {vs:List V},Reps K O H l vs->Reps K O H' l vs
 | [],_,r=>by unfold Reps at r ⊢;exact r
 | t::l,_,r=>by
  unfold Reps at r ⊢;obtain⟨v,ws,e,p,q⟩:=r;exact⟨v,ws,e,Rep.keep h sub p,Reps.keep h sub q⟩
end
mutual
theorem Rep.less {K:N6}{O O':Ow}{H:Hp}(sub:∀a,O' a->O a):∀{t:T} {v:V},Rep K O H t v->Rep K O' H t v
 | .non,_,r=>by unfold Rep at r ⊢;exact r
 | .bl _,_,r=>by unfold Rep at r ⊢;exact r
 | .int _,_,r=>by unfold Rep at r ⊢;exact r
 | .str _,_,r=>by unfold Rep at r ⊢;exact r
 | .tup l,_,r=>by
  unfold Rep at r ⊢;obtain⟨a,vs,e,n,q,z⟩:=r
  exact⟨a,vs,e,λp=>n (sub a p),q,Reps.less sub z⟩
 | .lst l,_,r=>by
  unfold Rep at r ⊢;obtain⟨a,vs,e,n,q,z⟩:=r
  exact⟨a,vs,e,λp=>n (sub a p),q,Reps.less sub z⟩
 | .scr l,_,r=>by
  unfold Rep at r ⊢;obtain⟨a,e,n,z⟩:=r
  exact⟨a,e,λp=>n (sub a p),z⟩
 | .dct ks ts,_,r=>by
  unfold Rep at r ⊢;obtain⟨a,kvs,e,n,q,k,z⟩:=r;exact⟨a,kvs,e,λp=>n (sub a p),q,k,Reps.less sub z⟩
theorem Reps.less {K:N6}{O O':Ow}{H:Hp}(sub:∀a,O' a->O a):∀{l:List T} {vs:List V},Reps K O H l vs->Reps K O' H l vs
 | [],_,r=>by unfold Reps at r ⊢;exact r
 | t::l,_,r=>by
  unfold Reps at r ⊢;obtain⟨v,ws,e,p,q⟩:=r;exact⟨v,ws,e,Rep.less sub p,Reps.less sub q⟩
end
section
variable {K:N6}{O:Ow}{H H':Hp}{t:T}{v:V}{l:List T}{vs:List V}
theorem Rep.same (h:Same H H')(r:Rep K O H t v):Rep K O H' t v:=Rep.keep (P:=λ_=>False) (SameO.of h) (λ_ z=>z.elim) r
theorem Reps.same (h:Same H H')(r:Reps K O H l vs):Reps K O H' l vs:=Reps.keep (P:=λ_=>False) (SameO.of h) (λ_ z=>z.elim) r
theorem Rep.NA:Rep K O H .non .non:=by unfold Rep;rfl
theorem Rep.bl_ (b:Bool):Rep K O H (.bl b) (.bl b):=by unfold Rep;rfl
theorem Rep.GE (i:Int):Rep K O H (.int i) (.int i):=by unfold Rep;rfl
theorem Rep.NO (x:Str):Rep K O H (.str x) (.str x):=by unfold Rep;rfl
theorem Rep.Fk:Rep K O H (.tup l) v↔ ∃a vs,v= .ref a/\¬ O a/\H a=some (.tup vs)/\Reps K O H l vs:=by unfold Rep;exact S9
theorem Rep.Do:Rep K O H (.lst l) v↔ ∃a vs,v= .ref a/\¬ O a/\H a=some (.lst vs)/\Reps K O H l vs:=by unfold Rep;exact S9
theorem Rep.FS {ks ts:List T}:Rep K O H (.dct ks ts) v↔ ∃a kvs,v= .ref a/\¬ O a/\Rd H a (.dT kvs)/\ks.map keyOf=kvs.map (λp=>some p.1)/\Reps K O H ts (kvs.map (·.2)):=by unfold Rep;exact S9
theorem Rep.AC {i:Int}:Rep K O H (.int i) v↔v= .int i:=by unfold Rep;exact S9
theorem Rep.FM {b:Bool}:Rep K O H (.bl b) v↔v= .bl b:=by unfold Rep;exact S9
theorem Rep.IR {b:Str}:Rep K O H (.str b) v↔v= .str b:=by unfold Rep;exact S9
theorem Rep.M6:Rep K O H .non v↔v= .non:=by unfold Rep;exact S9
theorem Reps.GM:Reps K O H [] []:=by unfold Reps;rfl
theorem Reps.Gc (r:Rep K O H t v)(q:Reps K O H l vs):Reps K O H (t::l) (v::vs):=by unfold Reps;exact⟨v,vs,rfl,r,q⟩
theorem Reps.Da:Reps K O H [] vs↔vs= []:=by unfold Reps;exact S9
theorem Reps.me:Reps K O H (t::l) vs↔ ∃v ws,vs=v::ws/\Rep K O H t v/\Reps K O H l ws:=by
 constructor
 ·intro h;unfold Reps at h;exact h
 ·intro h;unfold Reps;exact h
end
section
variable {K:N6}{O:Ow}{H H':Hp}
theorem Reps.length:∀{l:List T} {vs:List V},Reps K O H l vs->l.length=vs.length
 | [],vs,r=>by rw[Reps.Da.mp r];rfl
 | t::l,vs,r=>by
  obtain⟨v,ws,rfl,_,q⟩:=Reps.me.mp r;simp[q.length]
theorem Reps.get:∀{l:List T} {vs:List V} {i:Nat} {t:T},Reps K O H l vs->l[i]? =some t->∃v,vs[i]? =some v/\Rep K O H t v
 | [],_,_,_,_,e=>by simp at e
 | t::l,vs,i,u,r,e=>by
  obtain⟨v,ws,rfl,p,q⟩:=Reps.me.mp r
  cases i with
  | zero=>simp at e;subst e;exact⟨v,rfl,p⟩
  | succ i=>
   obtain⟨z,e1,e2⟩:=q.get (i:=i) (t:=u) (by simpa using e)
   exact⟨z,by simpa using e1,e2⟩
theorem Reps.append:∀{l m:List T} {vs ws:List V},Reps K O H l vs->Reps K O H m ws->Reps K O H (l++m) (vs++ws)
 | [],_,vs,_,r,s=>by rw[Reps.Da.mp r];exact s
 | t::l,m,vs,ws,r,s=>by
  obtain⟨v,us,rfl,p,q⟩:=Reps.me.mp r;exact Reps.Gc p (q.append s)
theorem Reps.take:∀{l:List T} {vs:List V} (n:Nat),Reps K O H l vs->Reps K O H (l.take n) (vs.take n)
 | _,_,0,_=>Reps.GM
 | [],vs,n+1,r=>by rw[Reps.Da.mp r];exact Reps.GM
 | t::l,vs,n+1,r=>by
  obtain⟨v,us,rfl,p,q⟩:=Reps.me.mp r;exact Reps.Gc p (q.take n)
theorem Reps.drop:∀{l:List T} {vs:List V} (n:Nat),Reps K O H l vs->Reps K O H (l.drop n) (vs.drop n)
 | _,_,0,r=>r
 | [],vs,n+1,r=>by rw[Reps.Da.mp r];exact Reps.GM
 | t::l,vs,n+1,r=>by
  obtain⟨v,us,rfl,p,q⟩:=Reps.me.mp r;exact q.drop n
theorem Reps.ints:∀{ns:List Int},Reps K O H (ns.map T.int) (ns.map V.int)
 | [] =>Reps.GM
 | n::r=>Reps.Gc (Rep.GE n) Reps.ints
theorem Reps.Nt:∀{ns:List Int} {vs:List V},Reps K O H (ns.map T.int) vs->vs=ns.map V.int
 | [],vs,r=>Reps.Da.mp r
 | n::r,vs,q=>by
  obtain⟨v,us,rfl,p,q⟩:=Reps.me.mp q;rw[Rep.AC.mp p,Reps.Nt q];rfl
end
def RowsR (K:N6)(O:Ow)(H:Hp):List (List T×List T)->List Addr->Prop
 | [],as=>as= []
 | r::rs,as=> ∃b bs kvs,as=b::bs/\H b=some (.dT kvs)/\r.1.map keyOf=kvs.map (λp=>some p.1)/\Reps K O H r.2 (kvs.map (·.2))/\RowsR K O H rs bs
def ORep (K:N6)(O M:Ow)(H:Hp):OT->V->Prop
 | .lst l,v=> ∃a vs,v= .ref a/\(∀b,M b↔b=a)/\H a=some (.lst vs)/\Reps K O H l vs
 | .dct ks ts,v=> ∃a kvs,v= .ref a/\(∀b,M b↔b=a)/\H a=some (.dT kvs)/\ks.map keyOf=kvs.map (λp=>some p.1)/\Reps K O H ts (kvs.map (·.2))
 | .dd ks rows,v=> ∃a kvs as,v= .ref a/\(∀b,M b↔b=a\/b∈as)/\a∉as/\as.Nodup/\H a=some (.dT kvs)/\ks.map keyOf=kvs.map (λp=>some p.1)/\kvs.map (·.2)=as.map V.ref/\RowsR K O H rows as
def Mtb (H:Hp)(a:Addr):Prop:=(∃vs,H a=some (.lst vs))\/∃kvs,H a=some (.dT kvs)
theorem Mtb.some {H:Hp}{a:Addr}(h:Mtb H a):∃o,H a=some o:=h.elim (λ⟨_,e⟩=>⟨_,e⟩) λ⟨_,e⟩=>⟨_,e⟩
theorem Mtb.same {H H':Hp}(s:Same H H'){a:Addr}(h:Mtb H a):Mtb H' a:=h.elim (λ⟨vs,e⟩=> .inl ⟨vs,s _ _ e⟩) λ⟨k,e⟩=> .inr ⟨k,s _ _ e⟩
structure EnvM (K:N6)(O:Ow)(M:Mn)(H:Hp)(Z:En)(σ:L2.St):Prop where
 len:Z.length=σ.length
 val:∀(i:Nat) (t:T),Z[i]? =some (.va t)->∃v,σ[i]? =some (some v)/\Rep K O H t v
 own:∀(i:Nat) (o:OT),Z[i]? =some (.ow o)->∃v,σ[i]? =some (some v)/\ORep K O (M i) H o v
 sub:∀(i:Nat) (a:Addr),M i a->O a
 dis:∀(i j:Nat) (a:Addr),M i a->M j a->i=j
 trk:∀(a:Addr),O a->Mtb H a
theorem RowsR.same {K:N6}{O:Ow}{H H':Hp}(h:Same H H'):∀{rs:List (List T×List T)} {as:List Addr},RowsR K O H rs as->RowsR K O H' rs as
 | [],_,r=>r
 | _::_,_,⟨b,bs,kvs,e1,e2,e3,e4,e5⟩=>⟨b,bs,kvs,e1,h _ _ e2,e3,e4.same h,e5.same h⟩
theorem ORep.same {K:N6}{O M:Ow}{H H':Hp}(h:Same H H'){o:OT}{v:V}(r:ORep K O M H o v):ORep K O M H' o v:=by
 cases o with
 | lst l=>obtain⟨a,vs,e1,e2,e3,e4⟩:=r;exact⟨a,vs,e1,e2,h _ _ e3,e4.same h⟩
 | dct ks ts=>obtain⟨a,kvs,e1,e2,e3,e4,e5⟩:=r;exact⟨a,kvs,e1,e2,h _ _ e3,e4,e5.same h⟩
 | dd ks rows=>obtain⟨a,kvs,as,e1,e2,e3,e4,e5,e6,e7,e8⟩:=r;exact⟨a,kvs,as,e1,e2,e3,e4,h _ _ e5,e6,e7,e8.same h⟩
theorem EnvM.same {K:N6}{O:Ow}{M:Mn}{H H':Hp}{Z:En}{σ:L2.St}(h:Same H H')(e:EnvM K O M H Z σ):EnvM K O M H' Z σ where
 len:=e.len
 val:=λi t q=>let ⟨v,e1,e2⟩:=e.val i t q;⟨v,e1,e2.same h⟩
 own:=λi o q=>let ⟨v,e1,e2⟩:=e.own i o q;⟨v,e1,e2.same h⟩
 sub:=e.sub
 dis:=e.dis
 trk:=λa q=>(e.trk a q).same h
def EnvO (K:N6)(O:Ow)(H:Hp)(Z:En)(σ:L2.St):Prop:=∃M,EnvM K O M H Z σ
section
variable {K:N6}{O:Ow}{H H':Hp}{Z:En}{σ:L2.St}
theorem EnvO.val (e:EnvO K O H Z σ)(i:Nat)(t:T)(q:Z[i]? =some (.va t)):∃v,σ[i]? =some (some v)/\Rep K O H t v:=e.elim λ_ e=>e.val i t q
theorem EnvO.mtb (e:EnvO K O H Z σ):∀a,O a->Mtb H a:=e.elim λ_ e=>e.trk
theorem EnvO.trk (e:EnvO K O H Z σ)(a:Addr)(z:O a):∃o,H a=some o:=(e.mtb a z).some
theorem EnvO.same (h:Same H H')(e:EnvO K O H Z σ):EnvO K O H' Z σ:=e.elim λM e=>⟨M,e.same h⟩
theorem EnvO.fresh (e:EnvO K O H Z σ){p:Addr}(h:H p=none):¬ O p:=λz=>by
 obtain⟨o,q⟩:=e.trk p z;rw[h]at q;cases q
end
def MK (h:Heap)(C e:Addr):Option Addr->Prop
 | none=> ∃oe vs,h.get? e=some oe/\oe.cls= .ref C/\oe.data= .fields vs/\vs[1]? =some .none
 | some T=>T≠e/\∃oe vs,h.get? e=some oe/\oe.cls= .ref C/\oe.data= .fields vs/\vs[1]? =some (.ref T)/\∃oT ts,h.get? T=some oT/\oT.data= .fields ts/\ts[3]? =some .none
def RzP (X:Cx)(pins:List (Addr×Obj))(P:Ow)(H:Hp)(c:Str)(ev:Oa)(s':Od):Prop:=
 ∃e T C σ' H',ev= .ref e/\X.mg c=some (.ref C)/\Inv X pins σ' H' s'/\SameO P H H'/\H' e=none/\(X.ex= []->X.s₀.heap.get? e=none)/\MK s'.heap C e T/\(∀t,T=some t->H' t=none/\(X.ex= []->X.s₀.heap.get? t=none))/\∀p∈X.pn++pins,p.1≠e/\T≠some p.1
def Nw (K:N6)(H:Hp):Ow:=λa=>H a=none/\K.lookup a=none
theorem i9 {K:N6}{P:Ow}{H H1:Hp}(h:SameO P H H1){a:Addr}(n:Nw K H1 a):P a\/Nw K H a:=by
 by_cases hp:P a
 ·exact .inl hp
 ·refine .inr ⟨?_,n.2⟩
  cases q:H a with
  | none=>rfl
  | some o=>have:=h a o q hp;rw[n.1]at this;cases this
theorem SameO.trans {K:N6}{P P1:Ow}{H H1 H2:Hp}(h:SameO P H H1)(h1:SameO P1 H1 H2)(sub:∀a,P1 a->P a\/Nw K H a):SameO P H H2:=λb o e n=>
 h1 b o (h b o e n) λz=>(sub b z).elim n λw=>by rw[w.1]at e;cases e
def XA (X:Cx)(P:Ow)(H:Hp)(c:Str):Prop:=∀pins ev s',RzP X pins P H c ev s'->X.xe ev s'
theorem XA.later {X:Cx}{P P1:Ow}{H H1:Hp}{c:Str}(h:XA X P H c)(s:SameO P H H1)(sub:∀a,P1 a->P a\/Nw X.K H a):XA X P1 H1 c:=λpins ev s' ⟨e,T,C,σ',H',a1,a2,a3,a4,a5⟩=>
 h pins ev s' ⟨e,T,C,σ',H',a1,a2,a3,s.trans a4 sub,a5⟩
abbrev zG:Ow:=λ_=>False
def Post {α:Type}(X:Cx)(H:Hp)(r:Rs α)(k:α->Hp->Prop):Prop:=match r with
 | .ok t=> ∀H',Same H H'->k t H'
 | .err c=>XA X zG H c
 | .bad=>False
theorem Post.mono {α:Type}{X:Cx}{H:Hp}{r:Rs α}{k k':α->Hp->Prop}(h:Post X H r k)(f:∀t H',Same H H'->k t H'->k' t H'):Post X H r k':=by
 cases r with
 | ok t=>exact λH' s=>f t H' s (h H' s)
 | err c=>exact h
 | bad=>exact h
theorem Post.later {α:Type}{X:Cx}{H H1:Hp}{r:Rs α}{k:α->Hp->Prop}(h:Post X H r k)(s:Same H H1):Post X H1 r k:=by
 cases r with
 | ok t=>exact λH' s'=>h H' (s.trans s')
 | err c=>exact XA.later h (SameO.of s) λ_ z=>z.elim
 | bad=>exact h
theorem Post.bind {α β:Type}{X:Cx}{H:Hp}{r:Rs α}{f:α->Rs β}{k:β->Hp->Prop}(h:Post X H (r >>= f) k):Post X H r λt H'=>Post X H' (f t) k:=by
 cases r with
 | ok t=>exact λH' s=>Post.later h s
 | err c=>exact h
 | bad=>exact h
def tP (X:Cx)(f:En->Rs T):TE:=λσ H Q=> ∃Z O,EnvO X.K O H Z σ/\Post X H (f Z) λt H'=> ∀v,Rep X.K O H' t v->Q v H'
def tPA (X:Cx)(f:En->Rs (List T)):TA:=λσ H Q=> ∃Z O,EnvO X.K O H Z σ/\Post X H (f Z) λt H'=> ∀v,Reps X.K O H' t v->Q v H'
def BZ (X:Cx)(f:En->Rs Bool):TT:=λσ H Q=> ∃Z O,EnvO X.K O H Z σ/\Post X H (f Z) λb H'=>Q b H'
abbrev c8 (X:Cx)(e:Expr)(f:En->Rs T):Prop:=PE X e (tP X f)
abbrev qS (X:Cx)(e:List Expr)(f:En->Rs (List T)):Prop:=PA X e (tPA X f)
abbrev xw (X:Cx)(e:Expr)(f:En->Rs Bool):Prop:=PT X e (BZ X f)
theorem PE.imp {X:Cx}{e:Expr}{t t':TE}(h:PE X e t)(w:∀σ H Q,t' σ H Q->t σ H Q):PE X e t':=λpins s σ H Q I q=>h pins s σ H Q I (w σ H Q q)
theorem PA.imp {X:Cx}{e:List Expr}{t t':TA}(h:PA X e t)(w:∀σ H Q,t' σ H Q->t σ H Q):PA X e t':=λpos pins s σ H Q I q=>h pos pins s σ H Q I (w σ H Q q)
theorem PT.imp {X:Cx}{e:Expr}{t t':TT}(h:PT X e t)(w:∀σ H Q,t' σ H Q->t σ H Q):PT X e t':=λpins s σ H Q I q=>h pins s σ H Q I (w σ H Q q)
theorem PS.imp {X:Cx}{e:Stmt}{t t':TS}(h:PS X e t)(w:∀D σ H,t' D σ H->t D σ H):PS X e t':=λpins s σ H D I q=>h pins s σ H D I (w D σ H q)
theorem PSs.imp {X:Cx}{e:List Stmt}{t t':TS}(h:PSs X e t)(w:∀D σ H,t' D σ H->t D σ H):PSs X e t':=λpins s σ H D I q=>h pins s σ H D I (w D σ H q)
section
variable {X:Cx}
theorem br {σ:L2.St}{H:Hp}{Z:En}{O:Ow}{α:Type}{f:En->Rs T}{k:T->Rs α}{Q:α->Hp->Prop}(E:EnvO X.K O H Z σ)(h:Post X H (f Z >>= k) Q) :
  tP X f σ H λv H'=> ∃t,Rep X.K O H' t v/\Same H H'/\EnvO X.K O H' Z σ/\Post X H' (k t) Q:=
 ⟨Z,O,E,Post.mono h.bind λt H' s q v r=>⟨t,r,s,E.same s,q⟩⟩
theorem eF {σ:L2.St}{H:Hp}{Z:En}{O:Ow}{α:Type}{f:En->Rs (List T)}{k:List T->Rs α}{Q:α->Hp->Prop}(E:EnvO X.K O H Z σ)(h:Post X H (f Z >>= k) Q) :
  tPA X f σ H λv H'=> ∃t,Reps X.K O H' t v/\Same H H'/\EnvO X.K O H' Z σ/\Post X H' (k t) Q:=
 ⟨Z,O,E,Post.mono h.bind λt H' s q v r=>⟨t,r,s,E.same s,q⟩⟩
theorem lH {σ:L2.St}{H:Hp}{Z:En}{O:Ow}{α:Type}{f:En->Rs Bool}{k:Bool->Rs α}{Q:α->Hp->Prop}(E:EnvO X.K O H Z σ)(h:Post X H (f Z >>= k) Q) :
  BZ X f σ H λb H'=>Same H H'/\EnvO X.K O H' Z σ/\Post X H' (k b) Q:=
 ⟨Z,O,E,Post.mono h.bind λt H' s q=>⟨s,E.same s,q⟩⟩
noncomputable def vr (i:Nat)(Z:En):Rs T:=match Z[i]? with
 | some (.va t)=> .ok t
 | _=> .bad
def cn (t:T)(_:En):Rs T:=.ok t
theorem Cu (i:Nat){x:Str}{pos:Pos}(hN:X.N[i]? =some x:=by rfl)(hv:autoParam (uY X.env.scope x) u_)(hd:autoParam ((x == ("__debug__" : Str))=false) s_)
  (hcd:autoParam ((x == ("__classdict__" : Str))=false) s_):c8 X (.Name x pos) (vr i):=PE.imp (i8 hN hv hd hcd) λσ H Q hh_=>by
 obtain⟨Z,O,E,h⟩:=hh_;unfold vr at h
 split at h
 ·rename_i t e
  obtain⟨v,e1,e2⟩:=E.val i t e;exact⟨v,e1,h H (Same.refl H) v e2⟩
 ·exact h.elim
theorem Lu {i j pos}:c8 X (.Constant (.int i) j pos) (cn (.int i)):=PE.imp xZ λσ H Q ⟨Z,O,E,h⟩=>h H (Same.refl H) _ (Rep.GE i)
theorem q_bl {i j pos}:c8 X (.Constant (.bool i) j pos) (cn (.bl i)):=PE.imp CT λσ H Q ⟨Z,O,E,h⟩=>h H (Same.refl H) _ (Rep.bl_ i)
theorem Lq {j pos}:c8 X (.Constant .none j pos) (cn .non):=PE.imp CN λσ H Q ⟨Z,O,E,h⟩=>h H (Same.refl H) _ Rep.NA
theorem Lk {i j pos}:c8 X (.Constant (.str i) j pos) (cn (.str i)):=PE.imp CL λσ H Q ⟨Z,O,E,h⟩=>h H (Same.refl H) _ (Rep.NO i)
theorem Jb {x:Str}{i:Int}{u:Oa}{pos:Pos}(hm:X.mg x=some u)(r:RelV (.int i) u)(hg:Gl X x:=by rfl)(hd:autoParam ((x == ("__debug__" : Str))=false) s_):c8 X (.Name x pos) (cn (.int i)):=
 PE.imp (tW hg hm r hd) λσ H Q ⟨Z,O,E,h⟩=>h H (Same.refl H) _ (Rep.GE i)
def aj (_:En):Rs (List T):=.ok []
def ae (f:En->Rs T)(g:En->Rs (List T))(Z:En):Rs (List T):=do
 let t <-f Z
 let r <-g Z
 .ok (t::r)
theorem xX:qS X [] aj:=PA.imp dQ λσ H Q ⟨Z,O,E,h⟩=>h H (Same.refl H) _ Reps.GM
theorem om {e:Expr}{es:List Expr}{f:En->Rs T}{g:En->Rs (List T)}(he:c8 X e f)(hr:qS X es g)(hs:Oy (e::es) X.env=(false,eval e X.env)::Oy es X.env:=by rfl):qS X (e::es) (ae f g):=by
 intro pos pins s σ H Q I h;obtain⟨Z,O,E,h⟩:=h;refine bF he hr hs pos pins s σ H Q I ?_
 obtain⟨Z1,O1,E1,h1⟩:=br E h;refine⟨Z1,O1,E1,Post.mono h1 λt H' s q v r=> ?_⟩
 obtain⟨t',r',s',E',q'⟩:=q v r;refine⟨Z,O,E',Post.mono q'.bind λts H2 s2 q2 vs rs=> ?_⟩
 exact q2 H2 (Same.refl H2) _ (Reps.Gc (r'.same s2) rs)
end
section
variable {X:Cx}
def k6 (l:List T):Rs T:=if l.length<=sizeLine then .ok (.tup l)else .bad
def k7 (l:List T):Rs T:=if l.length<=sizeLine then .ok (.lst l)else .bad
def aP (f:En->Rs (List T))(Z:En):Rs T:=f Z >>= k6
def dz (f:En->Rs (List T))(Z:En):Rs T:=f Z >>= k7
theorem aQ {H:Hp}{p:Addr}(h:H p=none)(o:HO):Same H (upd H p o):=λb u q=>by rw[aG (cV q h)];exact q
theorem gO {K:N6}{O:Ow}{H:Hp}{p:Addr}{l:List T}{vs:List V}(h:H p=none)(n:¬ O p)(r:Reps K O H l vs):Rep K O (upd H p (.tup vs)) (.tup l) (.ref p):=
 Rep.Fk.mpr ⟨p,vs,rfl,n,aI,r.same (aQ h _)⟩
theorem gP {K:N6}{O:Ow}{H:Hp}{p:Addr}{l:List T}{vs:List V}(h:H p=none)(n:¬ O p)(r:Reps K O H l vs):Rep K O (upd H p (.lst vs)) (.lst l) (.ref p):=
 Rep.Do.mpr ⟨p,vs,rfl,n,aI,r.same (aQ h _)⟩
theorem Hr {es:List Expr}{x1:Nat}{pos:Pos}{f:En->Rs (List T)}(h:qS X es f):c8 X (.Tuple es x1 pos) (aP f):=by
 intro pins s σ H Q I ⟨Z,O,E,hq⟩;refine tU h pins s σ H Q I ?_
 obtain⟨Z1,O1,E1,h1⟩:=eF E hq;refine⟨Z1,O1,E1,Post.mono h1 λts H1 s1 q vs r=> ?_⟩
 obtain⟨t',r',s',E',q'⟩:=q vs r;unfold k6 at q'
 split at q'
 ·rename_i hz
  refine⟨by rw[<-r'.length];exact hz,λp hp=> ?_⟩
  exact q' _ (aQ hp _) _ (gO hp (E'.fresh hp) r')
 ·exact q'.elim
theorem Lr {es:List Expr}{pos:Pos}{f:En->Rs (List T)}(h:qS X es f):c8 X (.List es pos) (dz f):=by
 intro pins s σ H Q I ⟨Z,O,E,hq⟩;refine tV h pins s σ H Q I ?_
 obtain⟨Z1,O1,E1,h1⟩:=eF E hq;refine⟨Z1,O1,E1,Post.mono h1 λts H1 s1 q vs r=> ?_⟩
 obtain⟨t',r',s',E',q'⟩:=q vs r;unfold k7 at q'
 split at q'
 ·rename_i hz
  refine⟨by rw[<-r'.length];exact hz,λp hp=> ?_⟩
  exact q' _ (aQ hp _) _ (gP hp (E'.fresh hp) r')
 ·exact q'.elim
def OpT (X:Cx)(f:Oa->Oa->Sem Oa)(g:T->T->Rs T):Prop:=
 ∀(pins:List (Addr×Obj)) (s:Od) (σ:L2.St) (H:Hp) (O:Ow) (x y:T) (vx vy:V) (ux uy:Oa) (Q:VK),Inv X pins σ H s->(∀p,H p=none->¬ O p)->Rep X.K O H x vx->Rep X.K O H y vy->RelV vx ux->RelV vy uy →
  Post X H (g x y) (λt H'=> ∀v,Rep X.K O H' t v->Q v H')->wpAny (model X.prog X.w) X.A (f ux uy) (EP X pins σ Q) X.xe s
def o2 (g:T->T->Rs T)(fa fb:En->Rs T)(Z:En):Rs T:=do
 let x <-fa Z
 let y <-fb Z
 g x y
variable {a b c:Expr}{fa fb fc:En->Rs T}{pos:Pos}
theorem Lx {op:WZ}{g:T->T->Rs T}(ho:OpT X (Qy op) g)(ha:c8 X a fa)(hb:c8 X b fb):c8 X (.BinOp a op b pos) (o2 g fa fb):=by
 intro pins s σ H Q I ⟨Z,O,E,hq⟩
 have h1:=br E hq;refine wpAny_BinOp (cL (ha pins s σ H _ I h1) λv s1 hh_=> ?_)
 obtain⟨x,H1,I1,r1,t,rt,s',E',q1⟩:=hh_
 have h2:=br (f:=fb) E' q1;refine cL (hb pins s1 σ H1 _ I1 h2) λu s2 hh_=> ?_
 obtain⟨y,H2,I2,r2,t2,rt2,s'',E'',q2⟩:=hh_;exact ho pins s2 σ H2 O t t2 x y v u Q I2 (λp=>E''.fresh) (rt.same s'') rt2 r1 r2 q2
theorem Lw {op:Xw}{g:T->T->Rs T}(ho:OpT X (Po op) g)(ha:c8 X a fa)(hb:c8 X b fb)(hm:RQ op b=false:=by rfl):c8 X (.Compare a [op] [b] pos) (o2 g fa fb):=by
 intro pins s σ H Q I ⟨Z,O,E,hq⟩
 have h1:=br E hq;refine wpAny_Compare1 (cL (ha pins s σ H _ I h1) λv s1 ⟨x,H1,I1,r1,t,rt,s',E',q1⟩=> ?_) hm
 have h2:=br (f:=fb) E' q1;refine cL (hb pins s1 σ H1 _ I1 h2) λu s2 hh_=> ?_
 obtain⟨y,H2,I2,r2,t2,rt2,s'',E'',q2⟩:=hh_;exact ho pins s2 σ H2 O t t2 x y v u Q I2 (λp=>E''.fresh) (rt.same s'') rt2 r1 r2 q2
theorem OpT.of {f:Oa->Oa->Sem Oa}{r:R2}(h:qT X f r){g:T->T->Rs T}
  (w:∀(H:Hp) (O:Ow) (x y:T) (vx vy:V) (Q:VK),(∀p,H p=none->¬ O p)->Rep X.K O H x vx->Rep X.K O H y vy->Post X H (g x y) (λt H'=> ∀v,Rep X.K O H' t v->Q v H')->r vx vy H Q):OpT X f g:=
 λpins s σ H O x y vx vy ux uy Q I hf rx ry r1 r2 hp=>h pins s σ H vx vy ux uy Q I r1 r2 (w H O x y vx vy Q hf rx ry hp)
def fM:T->T->Rs T
 | .int i,.int j=> .ok (.int (i - j))
 | _,_=> .bad
theorem fw:OpT X (Qy .Sub) fM:=OpT.of Jr λH O x y vx vy Q hf rx ry hp=>by
 unfold fM at hp
 split at hp
 ·exact⟨_,_,Rep.AC.mp rx,Rep.AC.mp ry,hp H (Same.refl H) _ (Rep.GE _)⟩
 ·exact hp.elim
def ml:T->T->Rs T
 | .int i,.int j=>if 0<j/\j<1073741824 then .ok (.int (i / j))else .bad
 | _,_=> .bad
def l0:T->T->Rs T
 | .int i,.int j=>if 0<j then .ok (.int (i % j))else .bad
 | _,_=> .bad
theorem oq:OpT X (Qy .FloorDiv) ml:=OpT.of F9 λH O x y vx vy Q hf rx ry hp=>by
 unfold ml at hp
 split at hp
 ·split at hp
  ·rename_i h
   exact⟨_,_,Rep.AC.mp rx,Rep.AC.mp ry,h,hp H (Same.refl H) _ (Rep.GE _)⟩
  ·exact hp.elim
 ·exact hp.elim
theorem lj:OpT X (Qy .Mod) l0:=OpT.of Ju λH O x y vx vy Q hf rx ry hp=>by
 unfold l0 at hp
 split at hp
 ·split at hp
  ·rename_i h
   exact⟨_,_,Rep.AC.mp rx,Rep.AC.mp ry,h,hp H (Same.refl H) _ (Rep.GE _)⟩
  ·exact hp.elim
 ·exact hp.elim
theorem C0:qT X (Qy .Add) (λx y H Q=> ∃a b ys,x= .ref a/\y= .ref b/\SqT X.K H a []/\SqT X.K H b ys/\Q (.ref b) H):=by
 intro pins s σ H x y v u Q I rx ry h;obtain⟨a,b,ys,rfl,rfl,ha,hb,q⟩:=h;cases rx;cases ry;obtain⟨its,r1,p1,_⟩:=I.tuple ha;obtain⟨its2,r2,p2,_⟩:=I.tuple hb;obtain⟨⟨cls,dd,data,sl⟩,ho,hc,n,hd⟩:=id p1;obtain⟨⟨cls2,dd2,data2,sl2⟩,ho2,hc2,n2,hd2⟩:=id p2;simp only at hc hd hc2 hd2;subst hc hd hc2 hd2
 have e:its= []:=by cases r1;rfl
 subst e;exact HT_concat0 ho ho2 ⟨.ref b,H,I,rfl,q⟩
where
 HT_concat0 {prog:OH} {w:Px} {A:OV} {E:Oa->Od->Prop} {s:Od} {t b:Addr} {ws:Array Oa} {n n2:Nat} {dd dd2:Option Addr} {sl sl2:Array (Option Oa)} {Q:Oa->Od->Prop}
   (ho:s.heap.get? t=some { cls:=.type "tuple",dict:=dd,data:=.seq (([]:List Oa).toArray) n,slots:=sl }) (ho2:s.heap.get? b=some { cls:=.type "tuple",dict:=dd2,data:=.seq ws n2,slots:=sl2 }) (h:Q (.ref b) s) :
   wpAny (model prog w) A (Qy .Add (.ref t) (.ref b)) Q E s:=
  Wz ⟨_,ho,rfl⟩ ⟨_,ho2,rfl⟩ Ul VS Sq Sg (R6 _ _)
   (tuple_addW0 t b _ _ n n2 dd dd2 sl sl2 (by simp)) ⟨ho,ho2,h⟩
def aV:T->T->Rs T
 | .int i,.int j=> .ok (.int (i+j))
 | .str i,.str j=>if i.length+j.length<=sizeLine then .ok (.str (i++j))else .bad
 | .tup l,.tup m=>k6 (l++m)
 | .lst l,.lst m=>k7 (l++m)
 | _,_=> .bad
theorem aL:OpT X (Qy .Add) aV:=by
 intro pins s σ H O x y vx vy ux uy Q I hf rx ry r1 r2 hp;unfold aV at hp
 split at hp
 ·exact Jw pins s σ H vx vy ux uy Q I r1 r2 ⟨_,_,Rep.AC.mp rx,Rep.AC.mp ry,hp H (Same.refl H) _ (Rep.GE _)⟩
 ·split at hp
  ·rename_i h
   exact x5 pins s σ H vx vy ux uy Q I r1 r2 ⟨_,_,Rep.IR.mp rx,Rep.IR.mp ry,h,hp H (Same.refl H) _ (Rep.NO _)⟩
  ·exact hp.elim
 ·rename_i l m
  unfold k6 at hp
  split at hp
  ·rename_i h
   obtain⟨a,vs,e1,n1,q1,z1⟩:=Rep.Fk.mp rx;obtain⟨b,ws,e2,n2,q2,z2⟩:=Rep.Fk.mp ry
   have hl1:=z1.length
   have hl2:=z2.length;rw[Om]at h
   cases vs with
   | nil=>
    have e:l= []:=by cases l with
     | nil=>rfl
     | cons _ _=>simp at hl1
    subst e
    exact C0 pins s σ H vx vy ux uy Q I r1 r2 ⟨a,b,ws,e1,e2,SqT.of q1,SqT.of q2,hp H (Same.refl H) _ (Rep.Fk.mpr ⟨b,ws,rfl,n2,q2,z2⟩)⟩
   | cons v0 vr=>
    refine Ga pins s σ H vx vy ux uy Q I r1 r2 ⟨a,b,v0::vr,ws,e1,e2,SqT.of q1,SqT.of q2,by simp,by omega,λhw=> ?_,λ_ p hpn=> ?_⟩
    ·subst hw
     have e:m= []:=by cases m with
      | nil=>rfl
      | cons _ _=>simp at hl2
     subst e;rw[Pz]at hp;exact hp H (Same.refl H) _ (Rep.Fk.mpr ⟨a,_,rfl,n1,q1,z1⟩)
    ·exact hp _ (aQ hpn _) _ (gO hpn (hf p hpn) (z1.append z2))
  ·exact hp.elim
 ·rename_i l m
  unfold k7 at hp
  split at hp
  ·rename_i h
   obtain⟨a,vs,e1,n1,q1,z1⟩:=Rep.Do.mp rx;obtain⟨b,ws,e2,n2,q2,z2⟩:=Rep.Do.mp ry
   have hl1:=z1.length
   have hl2:=z2.length;rw[Om]at h;exact C1 pins s σ H vx vy ux uy Q I r1 r2 ⟨a,b,vs,ws,e1,e2,q1,q2,by omega,λp hpn=>hp _ (aQ hpn _) _ (gP hpn (hf p hpn) (z1.append z2))⟩
  ·exact hp.elim
 ·exact hp.elim
def yj:T->T->Rs T
 | .int i,.int j=>if (-(2 ^ 64)<i/\i<2 ^ 64)\/(-(2 ^ 64)<j/\j<2 ^ 64)then .ok (.int (i*j))else .bad
 | .lst l,.int k=>if -(2 ^ 63)<=k/\k<2 ^ 63/\l.length*k.toNat<=sizeLine then .ok (.lst (OJ k.toNat l).flatten)else .bad
 | _,_=> .bad
theorem Reps.rep {K:N6}{O:Ow}{H:Hp}{l:List T}{vs:List V}(h:Reps K O H l vs):∀k:Nat,Reps K O H (OJ k l).flatten (OJ k vs).flatten
 | 0=>Reps.GM
 | k+1=>by rw[P9,P9,QQ,QQ];exact h.append (h.rep k)
theorem Jq:OpT X (Qy .Mult) yj:=by
 intro pins s σ H O x y vx vy ux uy Q I hf rx ry r1 r2 hp;unfold yj at hp
 split at hp
 ·split at hp
  ·rename_i h
   exact Jt pins s σ H vx vy ux uy Q I r1 r2 ⟨_,_,Rep.AC.mp rx,Rep.AC.mp ry,h,hp H (Same.refl H) _ (Rep.GE _)⟩
  ·exact hp.elim
 ·split at hp
  ·rename_i l k h
   obtain⟨a,vs,e1,n1,q1,z1⟩:=Rep.Do.mp rx
   have hl1:=z1.length;exact Js pins s σ H vx vy ux uy Q I r1 r2 ⟨a,k,vs,e1,Rep.AC.mp ry,q1,h.1,h.2.1,by rw[<-hl1];exact h.2.2,λp hpn=>hp _ (aQ hpn _) _ (gP hpn (hf p hpn) (z1.rep _))⟩
  ·exact hp.elim
 ·exact hp.elim
def kP:T->Rs T
 | .int i=> .ok (.int (-i))
 | _=> .bad
def o1 (g:T->Rs T)(fa:En->Rs T)(Z:En):Rs T:=fa Z >>= g
theorem Hs (ha:c8 X a fa):c8 X (.UnaryOp .USub a pos) (o1 kP fa):=by
 intro pins s σ H Q I ⟨Z,O,E,hq⟩;refine Hv BU ha pins s σ H Q I ?_
 obtain⟨Z1,O1,E1,h1⟩:=br E hq;refine⟨Z1,O1,E1,Post.mono h1 λts H1 s1 q vs r=> ?_⟩
 obtain⟨t',r',s',E',q'⟩:=q vs r;unfold kP at q'
 split at q'
 ·exact⟨_,Rep.AC.mp r',q' H1 (Same.refl H1) _ (Rep.GE _)⟩
 ·exact q'.elim
def Bs (p:Int->Int->Bool):T->T->Rs T
 | .int i,.int j=> .ok (.bl (p i j))
 | _,_=> .bad
theorem zE {op:Xw}{p:Int->Int->Bool}(h:qT X (Po op) (ID λi j=> .bl (p i j))):OpT X (Po op) (Bs p):=OpT.of h λH O x y vx vy Q hf rx ry hp=>by
 unfold Bs at hp
 split at hp
 ·exact⟨_,_,Rep.AC.mp rx,Rep.AC.mp ry,hp H (Same.refl H) _ (Rep.bl_ _)⟩
 ·exact hp.elim
abbrev wy:=Bs λi j=>decide (i<j)
abbrev KL:=Bs λi j=>decide (i<=j)
theorem pG:OpT X (Po .Lt) wy:=zE LH
theorem vU:OpT X (Po .LtE) KL:=zE LI
def T.isN:T->Bool
 | .non=>true
 | _=>false
theorem Rep.isN {K:N6}{O:Ow}{H:Hp}{t:T}{v:V}(r:Rep K O H t v):decide (v= .non)=t.isN:=by
 cases t with
 | non=>rw[Rep.M6.mp r];rfl
 | bl _=>rw[Rep.FM.mp r];rfl
 | int _=>rw[Rep.AC.mp r];rfl
 | str _=>rw[Rep.IR.mp r];rfl
 | tup _=>obtain⟨a,vs,e,_⟩:=Rep.Fk.mp r;rw[e];rfl
 | lst _=>obtain⟨a,vs,e,_⟩:=Rep.Do.mp r;rw[e];rfl
 | scr _=>unfold Rep at r;obtain⟨a,e,_⟩:=r;rw[e];rfl
 | dct _ _=>obtain⟨a,_,e,_⟩:=Rep.FS.mp r;rw[e];rfl
def jh:T->T->Rs T
 | x,.non=> .ok (.bl x.isN)
 | _,_=> .bad
def fS:T->T->Rs T
 | x,.non=> .ok (.bl (!x.isN))
 | _,_=> .bad
theorem nH:OpT X (Po .Is) jh:=OpT.of Jv λH O x y vx vy Q hf rx ry hp=>by
 unfold jh at hp
 split at hp
 ·exact⟨Rep.M6.mp ry,hp H (Same.refl H) _ (by rw[rx.isN];exact Rep.bl_ _)⟩
 ·exact hp.elim
theorem gR:OpT X (Po .IsNot) fS:=OpT.of F8 λH O x y vx vy Q hf rx ry hp=>by
 unfold fS at hp
 split at hp
 ·exact⟨Rep.M6.mp ry,hp H (Same.refl H) _ (by rw[rx.isN];exact Rep.bl_ _)⟩
 ·exact hp.elim
end
end Tr
namespace Tr
open PySem PySem.Spec PyProof.Rows L2
open PySem.SeqAt
mutual
def ReV (s:Od):T->Oa->Prop
 | .non,u=>u= .none
 | .bl b,u=>u= .bool b
 | .int i,u=> ∃t,u= .int i t
 | .str x,u=> ∃t,u= .str x t
 | .tup l,u=> ∃a its,u= .ref a/\s.heap.IsTuple a (Wr its)/\ReVs s l its
 | .lst l,u=> ∃a its,u= .ref a/\s.heap.IsList a (Wr its)/\ReVs s l its
 | .scr l,u=> ∃a its,u= .ref a/\s.heap.IsList a (Wr its)/\Qp its l
 | .dct _ _,_=>False
def ReVs (s:Od):List T->List Oa->Prop
 | [],us=>us= []
 | t::r,us=> ∃u ws,us=u::ws/\ReV s t u/\ReVs s r ws
end
theorem ReVs.Da {s:Od}{us:List Oa}:ReVs s [] us↔us= []:=by unfold ReVs;exact S9
theorem ReVs.me {s:Od}{t:T}{l:List T}{us:List Oa}:ReVs s (t::l) us↔ ∃u ws,us=u::ws/\ReV s t u/\ReVs s l ws:=by
 constructor
 ·intro h;unfold ReVs at h;exact h
 ·intro h;unfold ReVs;exact h
theorem ReVs.length {s:Od}:∀{l:List T} {us:List Oa},ReVs s l us->l.length=us.length
 | [],us,r=>by rw[ReVs.Da.mp r];rfl
 | t::l,us,r=>by
  obtain⟨v,ws,rfl,_,q⟩:=ReVs.me.mp r;simp[q.length]
theorem ReVs.get {s:Od}:∀{l:List T} {us:List Oa} {i:Nat} {t:T},ReVs s l us->l[i]? =some t->∃v,us[i]? =some v/\ReV s t v
 | [],_,_,_,_,e=>by simp at e
 | t::l,vs,i,u,r,e=>by
  obtain⟨v,ws,rfl,p,q⟩:=ReVs.me.mp r
  cases i with
  | zero=>simp at e;subst e;exact⟨v,rfl,p⟩
  | succ i=>
   obtain⟨z,e1,e2⟩:=q.get (i:=i) (t:=u) (by simpa using e)
   exact⟨z,by simpa using e1,e2⟩
mutual
def T.nd:T->Bool
 | .dct _ _=>false
 | .tup l=>nds l
 | .lst l=>nds l
 | _=>true
def nds:List T->Bool
 | [] =>true
 | t::l=>t.nd&&nds l
end
theorem wo {t:T}{l:List T}(h:nds (t::l)=true):t.nd=true/\nds l=true:=by unfold nds at h;exact QL.mp h
theorem lx:∀{l:List T},(∀t∈l,t.nd=true)->nds l=true
 | [],_=>rfl
 | t::l,h=>by unfold nds;rw[h t Oe,lx λu hu=>h u (N8 _ hu)];rfl
section
variable {X:Cx}{pins:List (Addr×Obj)}{σ:L2.St}{H:Hp}{s:Od}{O:Ow}
mutual
theorem Rep.val (I:Inv X pins σ H s):∀{t:T} {v:V} {u:Oa},t.nd=true->Rep X.K O H t v->RelV v u->ReV s t u
 | .non,v,u,hn,r,q=>by cases Rep.M6.mp r;unfold ReV;exact q
 | .bl b,v,u,hn,r,q=>by cases Rep.FM.mp r;unfold ReV;exact q
 | .int b,v,u,hn,r,q=>by cases Rep.AC.mp r;unfold ReV;exact q
 | .str b,v,u,hn,r,q=>by cases Rep.IR.mp r;unfold ReV;exact q
 | .tup l,v,u,hn,r,q=>by
  obtain⟨a,vs,rfl,_,z,w⟩:=Rep.Fk.mp r;cases q;obtain⟨its,rv,p,_⟩:=I.tuple (SqT.of z);unfold ReV
  exact⟨a,its,rfl,p,Reps.val I (by unfold T.nd at hn;exact hn) w rv⟩
 | .lst l,v,u,hn,r,q=>by
  obtain⟨a,vs,rfl,_,z,w⟩:=Rep.Do.mp r;cases q;obtain⟨its,rv,p,_⟩:=I.list (SqL.of z);unfold ReV
  exact⟨a,its,rfl,p.isList,Reps.val I (by unfold T.nd at hn;exact hn) w rv⟩
 | .scr l,v,u,hn,r,q=>by
  unfold Rep at r;obtain⟨a,rfl,_,z⟩:=r;cases q;obtain⟨its,rv,p,_⟩:=I.list z;unfold ReV
  exact⟨a,its,rfl,p.isList,yE rv⟩
 | .dct _ _,v,u,hn,r,q=>by cases hn
theorem Reps.val (I:Inv X pins σ H s):∀{l:List T} {vs:List V} {us:List Oa},nds l=true->Reps X.K O H l vs->Vals vs us->ReVs s l us
 | [],vs,us,hn,r,q=>by
  cases Reps.Da.mp r;cases q
  exact ReVs.Da.mpr rfl
 | t::l,vs,us,hn,r,q=>by
  obtain⟨v,ws,rfl,p,z⟩:=Reps.me.mp r
  cases q with
  | cons q1 q2=>exact ReVs.me.mpr ⟨_,_,rfl,Rep.val I (wo hn).1 p q1,Reps.val I (wo hn).2 z q2⟩
end
end
mutual
def T.dep:T->Nat
 | .tup l=>deps l+1
 | .lst l=>deps l+1
 | .scr _=>1
 | _=>0
def deps:List T->Nat
 | [] =>0
 | t::l=>max t.dep (deps l)
end
def G0 (i:Int):T->Bool
 | .int j=>i == j
 | .bl b=>i == (if b then 1 else 0)
 | _=>false
def k9:List Int->List T->Bool
 | [],[] =>true
 | i::r,t::l=>G0 i t&&k9 r l
 | _,_=>false
mutual
def aS:T->T->Bool
 | .non,.non=>true
 | .bl a,.bl b=>a == b
 | .bl a,.int b=>(if a then 1 else 0) == b
 | .int a,.bl b=>a == (if b then 1 else 0)
 | .int a,.int b=>a == b
 | .str a,.str b=>a == b
 | .tup l,.tup m=>beqTs l m
 | .lst l,.lst m=>beqTs l m
 | .lst l,.scr m=>beqTs l (m.map .int)
 | .scr l,.lst m=>k9 l m
 | .scr l,.scr m=>l == m
 | _,_=>false
def beqTs:List T->List T->Bool
 | [],[] =>true
 | t::l,u::m=>aS t u&&beqTs l m
 | _,_=>false
end
theorem jZ (n:Nat)(e:Nat->Bool):(On (n+1)).all e=(e 0&&(On n).all λj=>e (j+1)):=by
 rw[RA,List.all_cons,Ws];rfl
theorem kJ:∀(l m:List T) (e:Nat->Bool),(∀(j:Nat) t u,l[j]? =some t->m[j]? =some u->e j=aS t u) →
  beqTs l m=((On (min l.length m.length)).all e&&l.length == m.length)
 | [],[],_,_=>by simp[beqTs]
 | [],_::_,_,_=>by simp[beqTs]
 | _::_,[],_,_=>by simp[beqTs]
 | t::l,u::m,e,h=>by
  have ih:=kJ l m (λj=>e (j+1)) λj t' u' h1 h2=>h (j+1) t' u' (by simpa using h1) (by simpa using h2)
  rw[beqTs,ih]
  have h0:=h 0 t u rfl rfl;simp only[Oj];rw[Nat.succ_min_succ,jZ,h0,Bool.and_assoc]
  congr 2
  simp
theorem sO:∀{l m:List T},l.length≠m.length->beqTs l m=false
 | [],[],h=>absurd rfl h
 | [],_::_,_=>by simp[beqTs]
 | _::_,[],_=>by simp[beqTs]
 | t::l,u::m,h=>by
  rw[beqTs,sO (l:=l) (m:=m) (by intro z;exact h (by simp[z]))]
  simp
theorem iZ:∀{l:List T} {i:Nat} {t:T},l[i]? =some t->t.dep<=deps l
 | [],_,_,e=>by simp at e
 | t::l,0,u,e=>by simp at e;subst e;unfold deps;exact Nat.le_max_left _ _
 | t::l,i+1,u,e=>by
  have:=iZ (l:=l) (i:=i) (t:=u) (by simpa using e)
  unfold deps;exact OI this (Nat.le_max_right _ _)
theorem jS {s:Od}{a:Addr}{x y:List Oa}(h:s.heap.IsTuple a x.toArray)(h':s.heap.IsTuple a y.toArray):x=y:=by
 obtain⟨o,e,_,n,d⟩:=h;obtain⟨o',e',_,n',d'⟩:=h';rw[e]at e';cases e';rw[d]at d';injection d' with d1 _
 simpa using congrArg UA d1
theorem dD {s:Od}{a:Addr}{x y:List Oa}(h:s.heap.IsList a x.toArray)(h':s.heap.IsList a y.toArray):x=y:=by
 obtain⟨o,e,_,n,d⟩:=h;obtain⟨o',e',_,n',d'⟩:=h';rw[e]at e';cases e';rw[d]at d';injection d' with d1 _
 simpa using congrArg UA d1
theorem Bx {s:Od}{i:Int}{t:T}{k:Tok}(r:ReV s t (.int i k)):G0 i t=true:=by
 cases t with
 | non=>unfold ReV at r;cases r
 | bl b=>unfold ReV at r;cases r
 | int j=>unfold ReV at r;obtain⟨t,e⟩:=r;injection e with e1 _;subst e1;simp[G0]
 | str x=>unfold ReV at r;obtain⟨t,e⟩:=r;cases e
 | tup l=>unfold ReV at r;obtain⟨a,its,e,_⟩:=r;cases e
 | lst l=>unfold ReV at r;obtain⟨a,its,e,_⟩:=r;cases e
 | scr l=>unfold ReV at r;obtain⟨a,its,e,_⟩:=r;cases e
 | dct _ _=>unfold ReV at r;exact r.elim
theorem qM {s:Od}:∀{ns:List Int} {us:List Oa} {l:List T},Qp us ns->ReVs s l us->k9 ns l=true
 | [],us,l,h,r=>by
  cases h
  cases l with
  | nil=>rfl
  | cons t l=>obtain⟨_,_,e,_⟩:=ReVs.me.mp r;cases e
 | n::ns,us,l,h,r=>by
  cases h with
  | cons a b hh=>
   cases l with
   | nil=>have:=ReVs.Da.mp r;cases this
   | cons t l=>
    obtain⟨u,ws,e,p,q⟩:=ReVs.me.mp r;injection e with e1 e2
    subst e1 e2;rw[k9,Bx p,qM hh q];rfl
theorem fm {s:Od}:∀{us:List Oa} {ns:List Int},Qp us ns->ReVs s (ns.map T.int) us
 | _,_,.nil=>ReVs.Da.mpr rfl
 | _,_,.cons n t h=>ReVs.me.mpr ⟨_,_,rfl,by unfold ReV;exact⟨_,rfl⟩,fm h⟩
theorem jT:∀{us:List Oa} {ns ms:List Int},Qp us ns->Qp us ms->ns=ms
 | _,_,_,.nil,.nil=>rfl
 | _,_,_,.cons n t h,.cons _ _ h'=>by rw[jT h h']
mutual
theorem ReV.refl {s:Od}:∀{t u:T} {v:Oa},ReV s t v->ReV s u v->aS t u=true
 | .non,u,v,r,q=>by
  unfold ReV at r;subst r
  cases u <;> (unfold ReV at q) <;> first | rfl | (cases q;done) | (obtain⟨_,e⟩:=q;cases e;done) | (obtain⟨_,_,e,_⟩:=q;cases e;done)
 | .bl b,u,v,r,q=>by
  unfold ReV at r;subst r
  cases u <;> (unfold ReV at q) <;> first | (cases q;done) | (cases q;simp[aS];done) | (obtain⟨_,e⟩:=q;cases e;done) | (obtain⟨_,_,e,_⟩:=q;cases e;done)
 | .int b,u,v,r,q=>by
  unfold ReV at r;obtain⟨k,rfl⟩:=r
  cases u <;> (unfold ReV at q) <;> first | (cases q;done) | (obtain⟨_,e⟩:=q;cases e;simp[aS];done) | (obtain⟨_,e⟩:=q;cases e;done) | (obtain⟨_,_,e,_⟩:=q;cases e;done)
 | .str b,u,v,r,q=>by
  unfold ReV at r;obtain⟨k,rfl⟩:=r
  cases u <;> (unfold ReV at q) <;> first | (cases q;done) | (obtain⟨_,e⟩:=q;cases e;simp[aS];done) | (obtain⟨_,e⟩:=q;cases e;done) | (obtain⟨_,_,e,_⟩:=q;cases e;done)
 | .tup l,u,v,r,q=>by
  unfold ReV at r;obtain⟨a,its,rfl,h1,h2⟩:=r
  cases u with
  | non=>unfold ReV at q;cases q
  | dct _ _=>unfold ReV at q;exact q.elim
  | bl _=>unfold ReV at q;cases q
  | int _=>unfold ReV at q;obtain⟨_,e⟩:=q;cases e
  | str _=>unfold ReV at q;obtain⟨_,e⟩:=q;cases e
  | tup m=>
   unfold ReV at q;obtain⟨a',its',e,h1',h2'⟩:=q;injection e with e;subst e
   have:=jS h1 h1';subst this;unfold aS
   exact ReVs.refl h2 h2'
  | lst m=>unfold ReV at q;obtain⟨a',its',e,h1',h2'⟩:=q;injection e with e;subst e;exact absurd rfl (ne_of_list_tuple h1' h1)
  | scr m=>unfold ReV at q;obtain⟨a',its',e,h1',h2'⟩:=q;injection e with e;subst e;exact absurd rfl (ne_of_list_tuple h1' h1)
 | .lst l,u,v,r,q=>by
  unfold ReV at r;obtain⟨a,its,rfl,h1,h2⟩:=r
  cases u with
  | non=>unfold ReV at q;cases q
  | dct _ _=>unfold ReV at q;exact q.elim
  | bl _=>unfold ReV at q;cases q
  | int _=>unfold ReV at q;obtain⟨_,e⟩:=q;cases e
  | str _=>unfold ReV at q;obtain⟨_,e⟩:=q;cases e
  | lst m=>
   unfold ReV at q;obtain⟨a',its',e,h1',h2'⟩:=q;injection e with e;subst e
   have:=dD h1 h1';subst this;unfold aS
   exact ReVs.refl h2 h2'
  | tup m=>unfold ReV at q;obtain⟨a',its',e,h1',h2'⟩:=q;injection e with e;subst e;exact absurd rfl (ne_of_list_tuple h1 h1')
  | scr m=>
   unfold ReV at q;obtain⟨a',its',e,h1',h2'⟩:=q;injection e with e;subst e
   have:=dD h1 h1';subst this;unfold aS
   exact ReVs.refl h2 (fm h2')
 | .scr l,u,v,r,q=>by
  unfold ReV at r;obtain⟨a,its,rfl,h1,h2⟩:=r
  cases u with
  | non=>unfold ReV at q;cases q
  | dct _ _=>unfold ReV at q;exact q.elim
  | bl _=>unfold ReV at q;cases q
  | int _=>unfold ReV at q;obtain⟨_,e⟩:=q;cases e
  | str _=>unfold ReV at q;obtain⟨_,e⟩:=q;cases e
  | lst m=>
   unfold ReV at q;obtain⟨a',its',e,h1',h2'⟩:=q;injection e with e;subst e
   have:=dD h1 h1';subst this;unfold aS
   exact qM h2 h2'
  | tup m=>unfold ReV at q;obtain⟨a',its',e,h1',h2'⟩:=q;injection e with e;subst e;exact absurd rfl (ne_of_list_tuple h1 h1')
  | scr m=>
   unfold ReV at q;obtain⟨a',its',e,h1',h2'⟩:=q;injection e with e;subst e
   have:=dD h1 h1';subst this;unfold aS
   have:=jT h2 h2'
   simp[this]
 | .dct _ _,u,v,r,q=>by unfold ReV at r;exact r.elim
theorem ReVs.refl {s:Od}:∀{l m:List T} {us:List Oa},ReVs s l us->ReVs s m us->beqTs l m=true
 | [],m,us,r,q=>by
  cases ReVs.Da.mp r
  cases m with
  | nil=>simp[beqTs]
  | cons _ _=>obtain⟨_,_,e,_⟩:=ReVs.me.mp q;cases e
 | t::l,m,us,r,q=>by
  obtain⟨v,ws,rfl,p,z⟩:=ReVs.me.mp r
  cases m with
  | nil=>cases ReVs.Da.mp q
  | cons u m=>
   obtain⟨v',ws',e,p',z'⟩:=ReVs.me.mp q;injection e with e1 e2
   subst e1 e2;rw[beqTs,ReV.refl p p',ReVs.refl z z'];rfl
end
theorem qL:∀(l:List Int) (m:List T),k9 l m=beqTs (l.map T.int) m
 | [],[] =>by simp[k9,beqTs]
 | [],_::_=>by simp[k9,beqTs]
 | _::_,[] =>by simp[k9,beqTs]
 | i::l,t::m=>by
  rw[k9,Oc,beqTs,qL l m]
  congr 1
  cases t <;> simp[G0,aS]
theorem tM:∀(l m:List Int),(l == m)=beqTs (l.map T.int) (m.map T.int)
 | [],[] =>by simp[beqTs]
 | [],_::_=>by simp[beqTs]
 | _::_,[] =>by simp[beqTs]
 | i::l,t::m=>by
  rw[Oc,Oc,beqTs,<-tM l m];simp[aS]
theorem gI:∀(l:List Int),deps (l.map T.int)=0
 | [] =>rfl
 | i::l=>by rw[Oc,deps,gI l];simp[T.dep]
def km:T->T->Prop
 | .tup _,.tup _=>False
 | .lst _,.lst _=>False
 | .lst _,.scr _=>False
 | .scr _,.lst _=>False
 | .scr _,.scr _=>False
 | _,_=>True
theorem wV (A:OV)(s:Od)(x y:T)(u v:Oa)(hn:km x y)(hu:A.units<cLine)(rx:ReV s x u)(ry:ReV s y v):EqAt A s u v (aS x y)/\RcAt A s u v (aS x y)/\RcNeAt A s u v (!aS x y):=by
 match x,y,hn,rx,ry with
 | .dct _ _,_,_,rx,_=>exact(by unfold ReV at rx;exact rx:False).elim
 | _,.dct _ _,_,_,ry=>exact(by unfold ReV at ry;exact ry:False).elim
 | .non,.non,hn,rx,ry=>
  obtain rfl:u=Pn:=by unfold ReV at rx;exact rx
  obtain rfl:v=Pn:=by unfold ReV at ry;exact ry
  exact⟨EqAt.same _,RcAt.none_none ,RcNeAt.none_none ⟩
 | .non,.bl b2,hn,rx,ry=>
  obtain rfl:u=Pn:=by unfold ReV at rx;exact rx
  obtain rfl:v=Pp b2:=by unfold ReV at ry;exact ry
  exact⟨EqAt.none_bool b2,RcAt.none_bool b2,RcNeAt.none_bool b2⟩
 | .non,.int i2,hn,rx,ry=>
  obtain rfl:u=Pn:=by unfold ReV at rx;exact rx
  obtain⟨k2,rfl⟩:∃k,v=Qd i2 k:=by unfold ReV at ry;exact ry
  exact⟨EqAt.none_int i2 k2,RcAt.none_int i2 k2,RcNeAt.none_int i2 k2⟩
 | .non,.str x2,hn,rx,ry=>
  obtain rfl:u=Pn:=by unfold ReV at rx;exact rx
  obtain⟨k2,rfl⟩:∃k,v=QD x2 k:=by unfold ReV at ry;exact ry
  exact⟨EqAt.none_str x2 k2,RcAt.none_str x2 k2,RcNeAt.none_str x2 k2⟩
 | .non,.tup l2,hn,rx,ry=>
  obtain rfl:u=Pn:=by unfold ReV at rx;exact rx
  unfold ReV at ry;obtain⟨a2,us2,rfl,h2,q2⟩:=ry
  exact⟨EqAt.none_tuple h2 hu,RcAt.none_tuple h2 hu,RcNeAt.none_tuple h2 hu⟩
 | .non,.lst l2,hn,rx,ry=>
  obtain rfl:u=Pn:=by unfold ReV at rx;exact rx
  unfold ReV at ry;obtain⟨a2,us2,rfl,h2,q2⟩:=ry
  exact⟨EqAt.none_list h2 hu,RcAt.none_list h2 hu,RcNeAt.none_list h2 hu⟩
 | .non,.scr l2,hn,rx,ry=>
  obtain rfl:u=Pn:=by unfold ReV at rx;exact rx
  unfold ReV at ry;obtain⟨a2,us2,rfl,h2,q2⟩:=ry
  exact⟨EqAt.none_list h2 hu,RcAt.none_list h2 hu,RcNeAt.none_list h2 hu⟩
 | .bl b1,.non,hn,rx,ry=>
  obtain rfl:u=Pp b1:=by unfold ReV at rx;exact rx
  obtain rfl:v=Pn:=by unfold ReV at ry;exact ry
  exact⟨EqAt.bool_none b1,RcAt.bool_none b1,RcNeAt.bool_none b1⟩
 | .bl b1,.bl b2,hn,rx,ry=>
  obtain rfl:u=Pp b1:=by unfold ReV at rx;exact rx
  obtain rfl:v=Pp b2:=by unfold ReV at ry;exact ry
  exact⟨EqAt.bool_bool b1 b2,RcAt.bool_bool b1 b2,RcNeAt.bool_bool b1 b2⟩
 | .bl b1,.int i2,hn,rx,ry=>
  obtain rfl:u=Pp b1:=by unfold ReV at rx;exact rx
  obtain⟨k2,rfl⟩:∃k,v=Qd i2 k:=by unfold ReV at ry;exact ry
  exact⟨EqAt.bool_int b1 i2 k2,RcAt.bool_int b1 i2 k2,RcNeAt.bool_int b1 i2 k2⟩
 | .bl b1,.str x2,hn,rx,ry=>
  obtain rfl:u=Pp b1:=by unfold ReV at rx;exact rx
  obtain⟨k2,rfl⟩:∃k,v=QD x2 k:=by unfold ReV at ry;exact ry
  exact⟨EqAt.bool_str b1 x2 k2,RcAt.bool_str b1 x2 k2,RcNeAt.bool_str b1 x2 k2⟩
 | .bl b1,.tup l2,hn,rx,ry=>
  obtain rfl:u=Pp b1:=by unfold ReV at rx;exact rx
  unfold ReV at ry;obtain⟨a2,us2,rfl,h2,q2⟩:=ry
  exact⟨EqAt.bool_tuple b1 h2 hu,RcAt.bool_tuple b1 h2 hu,RcNeAt.bool_tuple b1 h2 hu⟩
 | .bl b1,.lst l2,hn,rx,ry=>
  obtain rfl:u=Pp b1:=by unfold ReV at rx;exact rx
  unfold ReV at ry;obtain⟨a2,us2,rfl,h2,q2⟩:=ry
  exact⟨EqAt.bool_list b1 h2 hu,RcAt.bool_list b1 h2 hu,RcNeAt.bool_list b1 h2 hu⟩
 | .bl b1,.scr l2,hn,rx,ry=>
  obtain rfl:u=Pp b1:=by unfold ReV at rx;exact rx
  unfold ReV at ry;obtain⟨a2,us2,rfl,h2,q2⟩:=ry
  exact⟨EqAt.bool_list b1 h2 hu,RcAt.bool_list b1 h2 hu,RcNeAt.bool_list b1 h2 hu⟩
 | .int i1,.non,hn,rx,ry=>
  obtain⟨k1,rfl⟩:∃k,u=Qd i1 k:=by unfold ReV at rx;exact rx
  obtain rfl:v=Pn:=by unfold ReV at ry;exact ry
  exact⟨EqAt.int_none i1 k1,RcAt.int_none i1 k1,RcNeAt.int_none i1 k1⟩
 | .int i1,.bl b2,hn,rx,ry=>
  obtain⟨k1,rfl⟩:∃k,u=Qd i1 k:=by unfold ReV at rx;exact rx
  obtain rfl:v=Pp b2:=by unfold ReV at ry;exact ry
  exact⟨EqAt.int_bool i1 k1 b2,RcAt.int_bool i1 k1 b2,RcNeAt.int_bool i1 k1 b2⟩
 | .int i1,.int i2,hn,rx,ry=>
  obtain⟨k1,rfl⟩:∃k,u=Qd i1 k:=by unfold ReV at rx;exact rx
  obtain⟨k2,rfl⟩:∃k,v=Qd i2 k:=by unfold ReV at ry;exact ry
  exact⟨EqAt.int_int i1 k1 i2 k2,RcAt.int_int i1 k1 i2 k2,RcNeAt.int_int i1 k1 i2 k2⟩
 | .int i1,.str x2,hn,rx,ry=>
  obtain⟨k1,rfl⟩:∃k,u=Qd i1 k:=by unfold ReV at rx;exact rx
  obtain⟨k2,rfl⟩:∃k,v=QD x2 k:=by unfold ReV at ry;exact ry
  exact⟨EqAt.int_str i1 k1 x2 k2,RcAt.int_str i1 k1 x2 k2,RcNeAt.int_str i1 k1 x2 k2⟩
 | .int i1,.tup l2,hn,rx,ry=>
  obtain⟨k1,rfl⟩:∃k,u=Qd i1 k:=by unfold ReV at rx;exact rx
  unfold ReV at ry;obtain⟨a2,us2,rfl,h2,q2⟩:=ry
  exact⟨EqAt.int_tuple i1 k1 h2 hu,RcAt.int_tuple i1 k1 h2 hu,RcNeAt.int_tuple i1 k1 h2 hu⟩
 | .int i1,.lst l2,hn,rx,ry=>
  obtain⟨k1,rfl⟩:∃k,u=Qd i1 k:=by unfold ReV at rx;exact rx
  unfold ReV at ry;obtain⟨a2,us2,rfl,h2,q2⟩:=ry
  exact⟨EqAt.int_list i1 k1 h2 hu,RcAt.int_list i1 k1 h2 hu,RcNeAt.int_list i1 k1 h2 hu⟩
 | .int i1,.scr l2,hn,rx,ry=>
  obtain⟨k1,rfl⟩:∃k,u=Qd i1 k:=by unfold ReV at rx;exact rx
  unfold ReV at ry;obtain⟨a2,us2,rfl,h2,q2⟩:=ry
  exact⟨EqAt.int_list i1 k1 h2 hu,RcAt.int_list i1 k1 h2 hu,RcNeAt.int_list i1 k1 h2 hu⟩
 | .str x1,.non,hn,rx,ry=>
  obtain⟨k1,rfl⟩:∃k,u=QD x1 k:=by unfold ReV at rx;exact rx
  obtain rfl:v=Pn:=by unfold ReV at ry;exact ry
  exact⟨EqAt.str_none x1 k1,RcAt.str_none x1 k1,RcNeAt.str_none x1 k1⟩
 | .str x1,.bl b2,hn,rx,ry=>
  obtain⟨k1,rfl⟩:∃k,u=QD x1 k:=by unfold ReV at rx;exact rx
  obtain rfl:v=Pp b2:=by unfold ReV at ry;exact ry
  exact⟨EqAt.str_bool x1 k1 b2,RcAt.str_bool x1 k1 b2,RcNeAt.str_bool x1 k1 b2⟩
 | .str x1,.int i2,hn,rx,ry=>
  obtain⟨k1,rfl⟩:∃k,u=QD x1 k:=by unfold ReV at rx;exact rx
  obtain⟨k2,rfl⟩:∃k,v=Qd i2 k:=by unfold ReV at ry;exact ry
  exact⟨EqAt.str_int x1 k1 i2 k2,RcAt.str_int x1 k1 i2 k2,RcNeAt.str_int x1 k1 i2 k2⟩
 | .str x1,.str x2,hn,rx,ry=>
  obtain⟨k1,rfl⟩:∃k,u=QD x1 k:=by unfold ReV at rx;exact rx
  obtain⟨k2,rfl⟩:∃k,v=QD x2 k:=by unfold ReV at ry;exact ry
  exact⟨EqAt.str_str x1 k1 x2 k2,RcAt.str_str x1 k1 x2 k2,RcNeAt.str_str x1 k1 x2 k2⟩
 | .str x1,.tup l2,hn,rx,ry=>
  obtain⟨k1,rfl⟩:∃k,u=QD x1 k:=by unfold ReV at rx;exact rx
  unfold ReV at ry;obtain⟨a2,us2,rfl,h2,q2⟩:=ry
  exact⟨EqAt.str_tuple x1 k1 h2 hu,RcAt.str_tuple x1 k1 h2 hu,RcNeAt.str_tuple x1 k1 h2 hu⟩
 | .str x1,.lst l2,hn,rx,ry=>
  obtain⟨k1,rfl⟩:∃k,u=QD x1 k:=by unfold ReV at rx;exact rx
  unfold ReV at ry;obtain⟨a2,us2,rfl,h2,q2⟩:=ry
  exact⟨EqAt.str_list x1 k1 h2 hu,RcAt.str_list x1 k1 h2 hu,RcNeAt.str_list x1 k1 h2 hu⟩
 | .str x1,.scr l2,hn,rx,ry=>
  obtain⟨k1,rfl⟩:∃k,u=QD x1 k:=by unfold ReV at rx;exact rx
  unfold ReV at ry;obtain⟨a2,us2,rfl,h2,q2⟩:=ry
  exact⟨EqAt.str_list x1 k1 h2 hu,RcAt.str_list x1 k1 h2 hu,RcNeAt.str_list x1 k1 h2 hu⟩
 | .tup l1,.non,hn,rx,ry=>
  unfold ReV at rx;obtain⟨a1,us1,rfl,h1,q1⟩:=rx;obtain rfl:v=Pn:=by unfold ReV at ry;exact ry
  exact⟨EqAt.tuple_none h1 hu,RcAt.tuple_none h1 hu,RcNeAt.tuple_none h1 hu⟩
 | .tup l1,.bl b2,hn,rx,ry=>
  unfold ReV at rx;obtain⟨a1,us1,rfl,h1,q1⟩:=rx;obtain rfl:v=Pp b2:=by unfold ReV at ry;exact ry
  exact⟨EqAt.tuple_bool b2 h1 hu,RcAt.tuple_bool b2 h1 hu,RcNeAt.tuple_bool b2 h1 hu⟩
 | .tup l1,.int i2,hn,rx,ry=>
  unfold ReV at rx;obtain⟨a1,us1,rfl,h1,q1⟩:=rx;obtain⟨k2,rfl⟩:∃k,v=Qd i2 k:=by unfold ReV at ry;exact ry
  exact⟨EqAt.tuple_int i2 k2 h1 hu,RcAt.tuple_int i2 k2 h1 hu,RcNeAt.tuple_int i2 k2 h1 hu⟩
 | .tup l1,.str x2,hn,rx,ry=>
  unfold ReV at rx;obtain⟨a1,us1,rfl,h1,q1⟩:=rx;obtain⟨k2,rfl⟩:∃k,v=QD x2 k:=by unfold ReV at ry;exact ry
  exact⟨EqAt.tuple_str x2 k2 h1 hu,RcAt.tuple_str x2 k2 h1 hu,RcNeAt.tuple_str x2 k2 h1 hu⟩
 | .tup _,.tup _,hn,_,_=>exact hn.elim
 | .tup l1,.lst l2,hn,rx,ry=>
  unfold ReV at rx;obtain⟨a1,us1,rfl,h1,q1⟩:=rx;unfold ReV at ry;obtain⟨a2,us2,rfl,h2,q2⟩:=ry
  exact⟨EqAt.tuple_list h1 h2 hu,RcAt.tuple_list h1 h2 hu,RcNeAt.tuple_list h1 h2 hu⟩
 | .tup l1,.scr l2,hn,rx,ry=>
  unfold ReV at rx;obtain⟨a1,us1,rfl,h1,q1⟩:=rx;unfold ReV at ry;obtain⟨a2,us2,rfl,h2,q2⟩:=ry
  exact⟨EqAt.tuple_list h1 h2 hu,RcAt.tuple_list h1 h2 hu,RcNeAt.tuple_list h1 h2 hu⟩
 | .lst l1,.non,hn,rx,ry=>
  unfold ReV at rx;obtain⟨a1,us1,rfl,h1,q1⟩:=rx;obtain rfl:v=Pn:=by unfold ReV at ry;exact ry
  exact⟨EqAt.list_none h1 hu,RcAt.list_none h1 hu,RcNeAt.list_none h1 hu⟩
 | .lst l1,.bl b2,hn,rx,ry=>
  unfold ReV at rx;obtain⟨a1,us1,rfl,h1,q1⟩:=rx;obtain rfl:v=Pp b2:=by unfold ReV at ry;exact ry
  exact⟨EqAt.list_bool b2 h1 hu,RcAt.list_bool b2 h1 hu,RcNeAt.list_bool b2 h1 hu⟩
 | .lst l1,.int i2,hn,rx,ry=>
  unfold ReV at rx;obtain⟨a1,us1,rfl,h1,q1⟩:=rx;obtain⟨k2,rfl⟩:∃k,v=Qd i2 k:=by unfold ReV at ry;exact ry
  exact⟨EqAt.list_int i2 k2 h1 hu,RcAt.list_int i2 k2 h1 hu,RcNeAt.list_int i2 k2 h1 hu⟩
 | .lst l1,.str x2,hn,rx,ry=>
  unfold ReV at rx;obtain⟨a1,us1,rfl,h1,q1⟩:=rx;obtain⟨k2,rfl⟩:∃k,v=QD x2 k:=by unfold ReV at ry;exact ry
  exact⟨EqAt.list_str x2 k2 h1 hu,RcAt.list_str x2 k2 h1 hu,RcNeAt.list_str x2 k2 h1 hu⟩
 | .lst l1,.tup l2,hn,rx,ry=>
  unfold ReV at rx;obtain⟨a1,us1,rfl,h1,q1⟩:=rx;unfold ReV at ry;obtain⟨a2,us2,rfl,h2,q2⟩:=ry
  exact⟨EqAt.list_tuple h1 h2 hu,RcAt.list_tuple h1 h2 hu,RcNeAt.list_tuple h1 h2 hu⟩
 | .lst _,.lst _,hn,_,_=>exact hn.elim
 | .lst _,.scr _,hn,_,_=>exact hn.elim
 | .scr l1,.non,hn,rx,ry=>
  unfold ReV at rx;obtain⟨a1,us1,rfl,h1,q1⟩:=rx;obtain rfl:v=Pn:=by unfold ReV at ry;exact ry
  exact⟨EqAt.list_none h1 hu,RcAt.list_none h1 hu,RcNeAt.list_none h1 hu⟩
 | .scr l1,.bl b2,hn,rx,ry=>
  unfold ReV at rx;obtain⟨a1,us1,rfl,h1,q1⟩:=rx;obtain rfl:v=Pp b2:=by unfold ReV at ry;exact ry
  exact⟨EqAt.list_bool b2 h1 hu,RcAt.list_bool b2 h1 hu,RcNeAt.list_bool b2 h1 hu⟩
 | .scr l1,.int i2,hn,rx,ry=>
  unfold ReV at rx;obtain⟨a1,us1,rfl,h1,q1⟩:=rx;obtain⟨k2,rfl⟩:∃k,v=Qd i2 k:=by unfold ReV at ry;exact ry
  exact⟨EqAt.list_int i2 k2 h1 hu,RcAt.list_int i2 k2 h1 hu,RcNeAt.list_int i2 k2 h1 hu⟩
 | .scr l1,.str x2,hn,rx,ry=>
  unfold ReV at rx;obtain⟨a1,us1,rfl,h1,q1⟩:=rx;obtain⟨k2,rfl⟩:∃k,v=QD x2 k:=by unfold ReV at ry;exact ry
  exact⟨EqAt.list_str x2 k2 h1 hu,RcAt.list_str x2 k2 h1 hu,RcNeAt.list_str x2 k2 h1 hu⟩
 | .scr l1,.tup l2,hn,rx,ry=>
  unfold ReV at rx;obtain⟨a1,us1,rfl,h1,q1⟩:=rx;unfold ReV at ry;obtain⟨a2,us2,rfl,h2,q2⟩:=ry
  exact⟨EqAt.list_tuple h1 h2 hu,RcAt.list_tuple h1 h2 hu,RcNeAt.list_tuple h1 h2 hu⟩
 | .scr _,.lst _,hn,_,_=>exact hn.elim
 | .scr _,.scr _,hn,_,_=>exact hn.elim
theorem Ed:∀(n:Nat) (A:OV) (s:Od) (x y:T) (u v:Oa),(x.dep<=n\/y.dep<=n)->A.units+n<cLine->ReV s x u->ReV s y v->EqAt A s u v (aS x y)/\RcAt A s u v (aS x y)/\RcNeAt A s u v (!aS x y):=by
 intro n
 induction n with
 | zero=>
  intro A s x y u v hd hu rx ry
  exact wV A s x y u v (by cases x <;> cases y <;> simp_all [km,T.dep]) (by omega) rx ry
 | succ n ih=>
  intro A s x y u v hd hu rx ry
  have hin:A.in1.units+n<cLine:=by show A.units+1+n<cLine;omega
  have items:∀(l m:List T) (us vs:List Oa),(deps l<=n\/deps m<=n)->ReVs s l us->ReVs s m vs->∃e:Nat->Bool,(∀j (h1:j<us.toArray.size) (h2:j<vs.toArray.size),EqAt A.in1 s us.toArray[j] vs.toArray[j] (e j)) ∧
    (∀(j:Nat) t u,l[j]? =some t->m[j]? =some u->e j=aS t u):=λl m us vs hd r1 r2=>by
   refine⟨λj=>aS (l.getD j .non) (m.getD j .non),λj h1 h2=> ?_,λj t u e1 e2=>by simp[UD,e1,e2]⟩
   have l1:=r1.length
   have l2:=r2.length
   have h1':j<l.length:=by rw[l1];simpa using h1
   have h2':j<m.length:=by rw[l2];simpa using h2
   have e1:l[j]? =some l[j]:=by simp
   have e2:m[j]? =some m[j]:=by simp
   obtain⟨u1,z1,w1⟩:=r1.get e1;obtain⟨u2,z2,w2⟩:=r2.get e2
   have q1:us.toArray[j] =u1:=by
    have:us[j]? =some us.toArray[j]:=by simp
    rw[z1]at this;exact(OP this).symm
   have q2:vs.toArray[j] =u2:=by
    have:vs[j]? =some vs.toArray[j]:=by simp
    rw[z2]at this;exact(OP this).symm
   rw[q1,q2]
   have g1:l.getD j .non=l[j]:=by simp[UD,e1]
   have g2:m.getD j .non=m[j]:=by simp[UD,e2]
   show EqAt A.in1 s u1 u2 (aS (l.getD j .non) (m.getD j .non))
   rw[g1,g2];refine(ih A.in1 s l[j] m[j] u1 u2 ?_ hin w1 w2).1
   rcases hd with hd | hd
   ·exact .inl (OI (iZ e1) hd)
   ·exact .inr (OI (iZ e2) hd)
  have lists:∀(l m:List T) (a b:Addr) (us vs:List Oa),(deps l<=n\/deps m<=n)->ReVs s l us->ReVs s m vs->s.heap.IsList a us.toArray->s.heap.IsList b vs.toArray →
    EqAt A s (.ref a) (.ref b) (beqTs l m)/\RcAt A s (.ref a) (.ref b) (beqTs l m)/\RcNeAt A s (.ref a) (.ref b) (!beqTs l m):=λl m a b us vs hd r1 r2 h1 h2=>by
   have l1:=r1.length
   have l2:=r2.length
   have key:RcAt A s (.ref a) (.ref b) (beqTs l m)/\RcNeAt A s (.ref a) (.ref b) (!beqTs l m):=by
    by_cases hl:l.length=m.length
    ·obtain⟨e,he,hb⟩:=items l m us vs hd r1 r2
     have q:=kJ l m e hb
     have q2:beqTs l m=(On us.toArray.size).all e:=by
      rw[q,hl,Wt];simp[l2.symm,hl.symm,l1]
     rw[q2]
     have hsz:us.toArray.size=vs.toArray.size:=by simp;omega
     exact⟨RcAt.lists h1 h2 hsz (by omega) he,RcNeAt.lists h1 h2 hsz (by omega) he⟩
    ·rw[sO hl]
     have hsz:(us.toArray.size != vs.toArray.size)=true:=by simp;omega
     exact⟨RcAt.lists_lengths h1 h2 hsz (by omega),RcNeAt.lists_lengths h1 h2 hsz (by omega)⟩
   refine⟨?_,key⟩
   by_cases hab:a=b
   ·subst hab
    have:=dD h1 h2;subst this;rw[ReVs.refl r1 r2];exact EqAt.same _
   ·exact EqAt.of_refs hab key.1
  cases x with
  | tup l=>
   cases y with
   | tup m=>
    unfold ReV at rx ry;obtain⟨a,us,rfl,h1,r1⟩:=rx;obtain⟨b,vs,rfl,h2,r2⟩:=ry
    have hd':deps l<=n\/deps m<=n:=by
     simp only[T.dep]at hd;omega
    have l1:=r1.length
    have l2:=r2.length;obtain⟨e,he,hb⟩:=items l m us vs hd' r1 r2
    have q:=kJ l m e hb
    have q2:beqTs l m=((On (min us.toArray.size vs.toArray.size)).all e&&us.toArray.size == vs.toArray.size):=by
     rw[q];simp[l1,l2]
    have key:RcAt A s (.ref a) (.ref b) (beqTs l m)/\RcNeAt A s (.ref a) (.ref b) (!beqTs l m):=by
     rw[q2];exact⟨RcAt.tuples h1 h2 (by omega) he,RcNeAt.tuples h1 h2 (by omega) he⟩
    unfold aS;refine⟨?_,key⟩
    by_cases hab:a=b
    ·subst hab
     have:=jS h1 h2;subst this;rw[ReVs.refl r1 r2];exact EqAt.same _
    ·exact EqAt.of_refs hab key.1
   | _=>exact wV A s _ _ u v (by simp[km]) (by omega) rx ry
  | lst l=>
   cases y with
   | lst m=>
    unfold ReV at rx ry;obtain⟨a,us,rfl,h1,r1⟩:=rx;obtain⟨b,vs,rfl,h2,r2⟩:=ry;unfold aS
    exact lists l m a b us vs (by simp only[T.dep]at hd;omega) r1 r2 h1 h2
   | scr m=>
    unfold ReV at rx ry;obtain⟨a,us,rfl,h1,r1⟩:=rx;obtain⟨b,vs,rfl,h2,r2⟩:=ry;unfold aS
    exact lists l (m.map T.int) a b us vs (by rw[gI];omega) r1 (fm r2) h1 h2
   | _=>exact wV A s _ _ u v (by simp[km]) (by omega) rx ry
  | scr l=>
   cases y with
   | lst m=>
    unfold ReV at rx ry;obtain⟨a,us,rfl,h1,r1⟩:=rx;obtain⟨b,vs,rfl,h2,r2⟩:=ry;unfold aS;rw[qL]
    exact lists (l.map T.int) m a b us vs (by rw[gI];omega) (fm r1) r2 h1 h2
   | scr m=>
    unfold ReV at rx ry;obtain⟨a,us,rfl,h1,r1⟩:=rx;obtain⟨b,vs,rfl,h2,r2⟩:=ry;unfold aS;rw[tM]
    exact lists (l.map T.int) (m.map T.int) a b us vs (by rw[gI];omega) (fm r1) (fm r2) h1 h2
   | _=>exact wV A s _ _ u v (by simp[km]) (by omega) rx ry
  | _=>exact wV A s _ _ u v (by simp[km]) (by omega) rx ry
mutual
def T.nf:T->T
 | .tup l=> .tup (nfs l)
 | .lst l=> .lst (nfs l)
 | .scr l=> .lst (l.map .int)
 | .non=> .non
 | .bl b=> .bl b
 | .int b=> .int b
 | .str b=> .str b
 | .dct a b=> .dct a b
def nfs:List T->List T
 | [] => []
 | t::l=>t.nf::nfs l
end
theorem wj:∀(l:List Int),nfs (l.map T.int)=l.map T.int
 | [] =>rfl
 | i::l=>by rw[Oc,nfs,wj l];simp[T.nf]
mutual
theorem mx:∀(t x:T),aS t.nf x=aS t x
 | .non,x=>by simp[T.nf]
 | .bl _,x=>by simp[T.nf]
 | .int _,x=>by simp[T.nf]
 | .str _,x=>by simp[T.nf]
 | .tup l,x=>by cases x <;> simp[T.nf,aS,beqTs_nf l]
 | .lst l,x=>by cases x <;> simp[T.nf,aS,beqTs_nf l]
 | .scr l,x=>by cases x <;> simp[T.nf,aS,qL,tM]
 | .dct _ _,x=>by simp[T.nf]
theorem beqTs_nf:∀(l m:List T),beqTs (nfs l) m=beqTs l m
 | [],m=>by simp[nfs]
 | t::l,m=>by cases m <;> simp[nfs,beqTs,mx t,beqTs_nf l]
end
theorem J7 {s:Od}{t:T}{i:Int}{k:Tok}(r:ReV s t (.int i k)):t.nf= .int i:=by
 cases t with
 | non=>unfold ReV at r;cases r
 | bl b=>unfold ReV at r;cases r
 | int j=>unfold ReV at r;obtain⟨t,e⟩:=r;injection e with e1 _;subst e1;rfl
 | str x=>unfold ReV at r;obtain⟨t,e⟩:=r;cases e
 | tup l=>unfold ReV at r;obtain⟨a,its,e,_⟩:=r;cases e
 | lst l=>unfold ReV at r;obtain⟨a,its,e,_⟩:=r;cases e
 | scr l=>unfold ReV at r;obtain⟨a,its,e,_⟩:=r;cases e
 | dct _ _=>unfold ReV at r;exact r.elim
theorem zZ {s:Od}:∀{l:List T} {us:List Oa} {ns:List Int},ReVs s l us->Qp us ns->nfs l=ns.map T.int
 | [],us,ns,r,h=>by cases ReVs.Da.mp r;cases h;rfl
 | t::l,us,ns,r,h=>by
  obtain⟨u,ws,rfl,p,q⟩:=ReVs.me.mp r
  cases h with
  | cons a b hh=>rw[nfs,J7 p,zZ q hh];rfl
mutual
theorem ReV.nf {s:Od}:∀{t u:T} {v:Oa},ReV s t v->ReV s u v->t.nf=u.nf
 | .non,u,v,r,q=>by
  unfold ReV at r;subst r
  cases u <;> (unfold ReV at q) <;> first | rfl | (cases q;done) | (obtain⟨_,e⟩:=q;cases e;done) | (obtain⟨_,_,e,_⟩:=q;cases e;done)
 | .bl b,u,v,r,q=>by
  unfold ReV at r;subst r
  cases u <;> (unfold ReV at q) <;> first | (cases q;done) | (cases q;rfl) | (obtain⟨_,e⟩:=q;cases e;done) | (obtain⟨_,_,e,_⟩:=q;cases e;done)
 | .int b,u,v,r,q=>by
  unfold ReV at r;obtain⟨k,rfl⟩:=r
  cases u <;> (unfold ReV at q) <;> first | (cases q;done) | (obtain⟨_,e⟩:=q;cases e;done) | (obtain⟨_,e⟩:=q;cases e;rfl) | (obtain⟨_,_,e,_⟩:=q;cases e;done)
 | .str b,u,v,r,q=>by
  unfold ReV at r;obtain⟨k,rfl⟩:=r
  cases u <;> (unfold ReV at q) <;> first | (cases q;done) | (obtain⟨_,e⟩:=q;cases e;done) | (obtain⟨_,e⟩:=q;cases e;rfl) | (obtain⟨_,_,e,_⟩:=q;cases e;done)
 | .tup l,u,v,r,q=>by
  unfold ReV at r;obtain⟨a,its,rfl,h1,h2⟩:=r
  cases u with
  | non=>unfold ReV at q;cases q
  | dct _ _=>unfold ReV at q;exact q.elim
  | bl _=>unfold ReV at q;cases q
  | int _=>unfold ReV at q;obtain⟨_,e⟩:=q;cases e
  | str _=>unfold ReV at q;obtain⟨_,e⟩:=q;cases e
  | tup m=>
   unfold ReV at q;obtain⟨a',its',e,h1',h2'⟩:=q;injection e with e;subst e
   have:=jS h1 h1';subst this;unfold T.nf
   rw[ReVs.nf h2 h2']
  | lst m=>unfold ReV at q;obtain⟨a',its',e,h1',h2'⟩:=q;injection e with e;subst e;exact absurd rfl (ne_of_list_tuple h1' h1)
  | scr m=>unfold ReV at q;obtain⟨a',its',e,h1',h2'⟩:=q;injection e with e;subst e;exact absurd rfl (ne_of_list_tuple h1' h1)
 | .lst l,u,v,r,q=>by
  unfold ReV at r;obtain⟨a,its,rfl,h1,h2⟩:=r
  cases u with
  | non=>unfold ReV at q;cases q
  | dct _ _=>unfold ReV at q;exact q.elim
  | bl _=>unfold ReV at q;cases q
  | int _=>unfold ReV at q;obtain⟨_,e⟩:=q;cases e
  | str _=>unfold ReV at q;obtain⟨_,e⟩:=q;cases e
  | lst m=>
   unfold ReV at q;obtain⟨a',its',e,h1',h2'⟩:=q;injection e with e;subst e
   have:=dD h1 h1';subst this;unfold T.nf
   rw[ReVs.nf h2 h2']
  | tup m=>unfold ReV at q;obtain⟨a',its',e,h1',h2'⟩:=q;injection e with e;subst e;exact absurd rfl (ne_of_list_tuple h1 h1')
  | scr m=>
   unfold ReV at q;obtain⟨a',its',e,h1',h2'⟩:=q;injection e with e;subst e
   have:=dD h1 h1';subst this;unfold T.nf
   rw[ReVs.nf h2 (fm h2'),wj]
 | .scr l,u,v,r,q=>by
  unfold ReV at r;obtain⟨a,its,rfl,h1,h2⟩:=r
  cases u with
  | non=>unfold ReV at q;cases q
  | dct _ _=>unfold ReV at q;exact q.elim
  | bl _=>unfold ReV at q;cases q
  | int _=>unfold ReV at q;obtain⟨_,e⟩:=q;cases e
  | str _=>unfold ReV at q;obtain⟨_,e⟩:=q;cases e
  | lst m=>
   unfold ReV at q;obtain⟨a',its',e,h1',h2'⟩:=q;injection e with e;subst e
   have:=dD h1 h1';subst this
   have z:=zZ h2' h2;unfold T.nf
   rw[z]
  | tup m=>unfold ReV at q;obtain⟨a',its',e,h1',h2'⟩:=q;injection e with e;subst e;exact absurd rfl (ne_of_list_tuple h1 h1')
  | scr m=>
   unfold ReV at q;obtain⟨a',its',e,h1',h2'⟩:=q;injection e with e;subst e
   have:=dD h1 h1';subst this
   rw[jT h2 h2']
 | .dct _ _,u,v,r,q=>by unfold ReV at r;exact r.elim
theorem ReVs.nf {s:Od}:∀{l m:List T} {us:List Oa},ReVs s l us->ReVs s m us->nfs l=nfs m
 | [],m,us,r,q=>by
  cases ReVs.Da.mp r
  cases m with
  | nil=>rfl
  | cons _ _=>obtain⟨_,_,e,_⟩:=ReVs.me.mp q;cases e
 | t::l,m,us,r,q=>by
  obtain⟨v,ws,rfl,p,z⟩:=ReVs.me.mp r
  cases m with
  | nil=>cases ReVs.Da.mp q
  | cons u m=>
   obtain⟨v',ws',e,p',z'⟩:=ReVs.me.mp q;injection e with e1 e2
   subst e1 e2;rw[nfs,nfs,ReV.nf p p',ReVs.nf z z']
end
section
variable {X:Cx}{a b c:Expr}{fa fb fc:En->Rs T}{pos:Pos}
def iD (x y:T):Bool:=(decide (x.dep<=60)||decide (y.dep<=60))&&(x.nd&&y.nd)
def n9 (x y:T):Rs T:=if iD x y=true then .ok (.bl (aS x y))else .bad
def qe (x y:T):Rs T:=if iD x y=true then .ok (.bl (!aS x y))else .bad
theorem g8 {x y:T}(h:x.dep<=60)(hx:x.nd=true)(hy:y.nd=true):iD x y=true:=by unfold iD;rw[decide_eq_true h,hx,hy];rfl
theorem wQ {x y:T}(h:y.dep<=60)(hx:x.nd=true)(hy:y.nd=true):iD x y=true:=by unfold iD;rw[decide_eq_true h,hx,hy,Wu];rfl
theorem kH {x y:T}(h:iD x y=true):x.nd=true/\y.nd=true:=by
 unfold iD at h;exact QL.mp (QL.mp h).2
theorem si {x y:T}(h:iD x y=true):x.dep<=60\/y.dep<=60:=by
 unfold iD at h
 replace h:=(QL.mp h).1
 rcases Bool.or_eq_true_iff.mp h with h | h
 ·exact .inl (of_decide_eq_true h)
 ·exact .inr (of_decide_eq_true h)
theorem kZ (hu:X.A.units+60<cLine):OpT X (Po .Eq) n9:=by
 intro pins s σ H O x y vx vy ux uy Q I hf rx ry r1 r2 hp;unfold n9 at hp
 split at hp
 ·rename_i h
  have z:=Ed 60 X.A s x y ux uy (si h) hu (Rep.val I (kH h).1 rx r1) (Rep.val I (kH h).2 ry r2);exact z.2.1 _ _ _ _ ⟨.bl _,H,I,rfl,hp H (Same.refl H) _ (Rep.bl_ _)⟩
 ·exact hp.elim
theorem kY (hu:X.A.units+60<cLine):OpT X (Po .NotEq) qe:=by
 intro pins s σ H O x y vx vy ux uy Q I hf rx ry r1 r2 hp;unfold qe at hp
 split at hp
 ·rename_i h
  have z:=Ed 60 X.A s x y ux uy (si h) hu (Rep.val I (kH h).1 rx r1) (Rep.val I (kH h).2 ry r2);exact z.2.2 _ _ _ _ ⟨.bl _,H,I,rfl,hp H (Same.refl H) _ (Rep.bl_ _)⟩
 ·exact hp.elim
def T.items:T->Option (List T)
 | .tup l=>some l
 | .lst l=>some l
 | .scr l=>some (l.map T.int)
 | _=>none
def fU (x:T)(l:List T):Bool:=l.any λy=>aS y x
def sg (x y:T):Rs T:=match y.items with
 | some l=>if (x.dep<=60\/deps l<=60)/\x.nd=true/\y.nd=true then .ok (.bl (fU x l))else .bad
 | none=> .bad
theorem Gh {A:OV}{s:Od}{x:T}{ux:Oa}(rx:ReV s x ux)(hu:A.units+60<cLine){l:List T}{us:List Oa}(hd:x.dep<=60\/deps l<=60)(r:ReVs s l us) :
  ∃e:Oa->Bool,(∀y∈us,EqAt A s y ux (e y))/\us.any e=fU x l:=by
 classical
 have ex:∀y∈us,∃t∈l,ReV s t y:=λy hy=>by
  obtain⟨i,hi,rfl⟩:=Rp hy
  have hl:=r.length
  have e1:l[i]? =some l[i]:=by simp
  obtain⟨u,q1,q2⟩:=r.get e1
  have:us[i]? =some us[i]:=by simp
  rw[this]at q1;cases q1;exact⟨l[i],PQ _,q2⟩
 let e:Oa->Bool:=λy=>decide (∃t∈l,ReV s t y/\aS t x=true)
 have dep:∀t∈l,t.dep<=60\/x.dep<=60:=λt ht=>by
  rcases hd with h | h
  ·exact .inr h
  ·obtain⟨i,hi,rfl⟩:=Rp ht
   exact .inl (OI (iZ (i:=i) (by simp)) h)
 have uniq:∀y t t',ReV s t y->ReV s t' y->aS t x=aS t' x:=λy t t' z z'=>by
  rw[<-mx t,<-mx t',ReV.nf z z']
 have agree:∀y t,t∈l->ReV s t y->e y=aS t x:=λy t h z=>by
  show decide (∃t∈l,ReV s t y/\aS t x=true)=aS t x
  cases q:aS t x with
  | true=>exact decide_eq_true ⟨t,h,z,q⟩
  | false=>
   refine decide_eq_false ?_
   rintro ⟨t',h',z',q'⟩
   rw[<-uniq y t t' z z',q]at q';cases q'
 refine⟨e,λy hy=> ?_,?_⟩
 ·obtain⟨t,h,z⟩:=ex y hy
  rw[agree y t h z];exact(Ed 60 A s t x y ux (dep t h) hu z rx).1
 ·have go:∀(l':List T) (us':List Oa),(∀t∈l',t∈l)->ReVs s l' us'->us'.any e=l'.any λy=>aS y x:=by
   intro l'
   induction l' with
   | nil=>intro us' _ r';rw[ReVs.Da.mp r'];rfl
   | cons t l' ih=>
    intro us' sub r';obtain⟨u,ws,rfl,p,q⟩:=ReVs.me.mp r';rw[Q6,Q6,ih ws (λt ht=>sub t (N8 _ ht)) q,agree u t (sub t Oe) p]
  exact go l us (λ_ h=>h) r
theorem A5 {s:Od}{y:T}{u:Oa}{l:List T}(r:ReV s y u)(h:y.items=some l):∃a us,u= .ref a/\ReVs s l us/\(s.heap.IsTuple a us.toArray\/s.heap.IsList a us.toArray):=by
 cases y with
 | tup m=>cases h;unfold ReV at r;obtain⟨a,us,e,h1,h2⟩:=r;exact⟨a,us,e,h2,.inl h1⟩
 | lst m=>cases h;unfold ReV at r;obtain⟨a,us,e,h1,h2⟩:=r;exact⟨a,us,e,h2,.inr h1⟩
 | scr m=>cases h;unfold ReV at r;obtain⟨a,us,e,h1,h2⟩:=r;exact⟨a,us,e,fm h2,.inr h1⟩
 | _=>cases h
theorem vV (hu:X.A.units+61<cLine):OpT X (Po .In) sg:=by
 intro pins s σ H O x y vx vy ux uy Q I hf rx ry r1 r2 hp;unfold sg at hp
 split at hp
 ·rename_i l hl
  split at hp
  ·rename_i hd3
   obtain⟨hd,hnx,hny⟩:=hd3;obtain⟨a,us,rfl,rs,hh⟩:=A5 (Rep.val I hny ry r2) hl;obtain⟨e,he,ha⟩:=Gh (A:=X.A.in1) (Rep.val I hnx rx r1) (by show X.A.units+1+60<cLine;omega) hd rs
   have q:=hp H (Same.refl H) _ (Rep.bl_ (fU x l))
   have he':∀y,y∈us.toArray->EqAt X.A.in1 s y ux (e y):=λy hy=>he y (by simpa using hy)
   have ha':us.toArray.any e=fU x l:=by simpa using ha
   rcases hh with hh | hh
   ·exact in_tupleAt e hh he' (by rw[ha'];exact⟨.bl _,H,I,rfl,q⟩)
   ·exact in_listAt e hh he' (by rw[ha'];exact⟨.bl _,H,I,rfl,q⟩)
  ·exact hp.elim
 ·exact hp.elim
def ch (g g':T->T->Rs T)(fa fb fc:En->Rs T)(Z:En):Rs T:=do
 let x <-fa Z
 let y <-fb Z
 let z <-g x y
 match z with
 | .bl true=>do
  let w <-fc Z
  g' y w
 | .bl false=> .ok (.bl false)
 | _=> .bad
theorem FR {op op':Xw}{g g':T->T->Rs T}(ho:OpT X (Po op) g)(ho':OpT X (Po op') g')(ha:c8 X a fa)(hb:c8 X b fb)(hc:c8 X c fc)
  (hm:autoParam (lastMarks [op,op'] [b,c] =false) v_):c8 X (.Compare a [op,op'] [b,c] pos) (ch g g' fa fb fc):=by
 intro pins s σ H Q I ⟨Z,O,E,hq⟩
 have h1:=br E hq;refine Compare_chain (cL (ha pins s σ H _ I h1) λv s1 ⟨x,H1,I1,r1,t,rt,s',E',q1⟩=>chain_link ?_) hm
 have h2:=br (f:=fb) E' q1;refine cL (hb pins s1 σ H1 _ I1 h2) λu s2 hh_=> ?_
 obtain⟨y,H2,I2,r2,t2,rt2,s'',E'',q2⟩:=hh_
 refine cL (ho pins s2 σ H2 O t t2 x y v u (λv' H'=> ∃t',Rep X.K O H' t' v'/\Same H2 H'/\Post X H' (match t' with
  | .bl true=>fc Z >>= λw=>g' t2 w
  | .bl false=> .ok (.bl false)
  | _=> .bad) (λt H'=> ∀v,Rep X.K O H' t v->Q v H')) I2 (λp=>E''.fresh) (rt.same s'') rt2 r1 r2 (Post.mono q2.bind λt' H' s3 q v rv=>⟨t',rv,s3,q⟩)) λd s3 ⟨z,H3,I3,r3,t3,rt3,sm3,q3⟩=> ?_
 have E3:=E''.same sm3
 split at q3
 ·cases Rep.FM.mp rt3
  cases r3;refine Pg (ite_tt (chain_last ?_))
  have h4:=br (f:=fc) E3 q3;refine cL (hc pins s3 σ H3 _ I3 h4) λw' s4 ⟨z',H4,I4,r4,t4,rt4,s4',E4,q4⟩=> ?_
  exact ho' pins s4 σ H4 O t2 t4 y z' u w' Q I4 (λp=>E4.fresh) ((rt2.same sm3).same s4') rt4 r2 r4 q4
 ·cases Rep.FM.mp rt3
  cases r3;refine Pg (ite_ff ⟨.bl false,H3,I3,rfl,q3 H3 (Same.refl H3) _ (Rep.bl_ false)⟩)
 ·exact q3.elim
def tb (f:En->Rs T)(Z:En):Rs Bool:=do
 let x <-f Z
 match x with
 | .bl k=> .ok k
 | _=> .bad
def bt (f:En->Rs Bool)(Z:En):Rs T:=do
 let k <-f Z
 .ok (.bl k)
theorem IG {e:Expr}{f:En->Rs T}(h:c8 X e f)(he:autoParam (∀whole,isTrue e X.env whole=(do let v <-whole;standAt e.pos;holding [v] (truthy v))) t_):xw X e (tb f):=by
 intro pins s σ H Q I ⟨Z,O,E,hq⟩;refine CB h he pins s σ H Q I ?_
 obtain⟨Z1,O1,E1,h1⟩:=br E hq;refine⟨Z1,O1,E1,Post.mono h1 λts H1 s1 q vs r=> ?_⟩
 obtain⟨t',r',s',E',q'⟩:=q vs r
 split at q'
 ·exact⟨_,Rep.FM.mp r',q' H1 (Same.refl H1)⟩
 ·exact q'.elim
theorem II {op:Xw}{g:T->T->Rs T}(ho:OpT X (Po op) g)(ha:c8 X a fa)(hb:c8 X b fb)(hm:RQ op b=false:=by rfl):xw X (.Compare a [op] [b] pos) (tb (o2 g fa fb)):=by
 intro pins s σ H Q I ⟨Z,O,E,hq⟩
 have hq':Post X H (o2 g fa fb Z) λt H'=> ∀v,Rep X.K O H' t v->∃k,v= .bl k/\Q k H':=Post.mono hq.bind λt H' s' q v r=>by
  split at q
  ·exact⟨_,Rep.FM.mp r,q H' (Same.refl H')⟩
  ·exact q.elim
 have h1:=br E hq';refine UO (cL (ha pins s σ H _ I h1) λv s1 ⟨x,H1,I1,r1,t,rt,s',E',q1⟩=> ?_) hm
 have h2:=br (f:=fb) E' q1;refine cL (hb pins s1 σ H1 _ I1 h2) λu s2 hh_=> ?_
 obtain⟨y,H2,I2,r2,t2,rt2,s'',E'',q2⟩:=hh_;refine cL (ho pins s2 σ H2 O t t2 x y v u _ I2 (λp=>E''.fresh) (rt.same s'') rt2 r1 r2 q2) λd s3 hh_=> ?_
 obtain⟨z,H3,I3,r3,k,e,q3⟩:=hh_;subst e;cases r3;exact Pg ⟨H3,I3,q3⟩
def qO (f g:En->Rs Bool)(Z:En):Rs Bool:=do
 let k <-f Z
 if k then g Z else .ok false
def vW (f g:En->Rs Bool)(Z:En):Rs Bool:=do
 let k <-f Z
 if k then .ok true else g Z
def fO (f:En->Rs Bool)(Z:En):Rs Bool:=do
 let k <-f Z
 .ok (!k)
variable {f g:En->Rs Bool}{dv:List Expr}
abbrev HW (X:Cx)(e:Expr)(f:En->Rs Bool):Prop:=PW X e (BZ X f)
theorem FC (ha:xw X a f):HW X (.BoolOp .And [a] pos) f:=FT ha
theorem IE (ha:xw X a f):HW X (.BoolOp .Or [a] pos) f:=Cz ha
theorem IF (ha:xw X a f)(hb:HW X (.BoolOp .And (b::dv) pos) g):HW X (.BoolOp .And (a::b::dv) pos) (qO f g):=by
 intro wh pins s σ H Q I ⟨Z,O,E,hq⟩;refine Je ha hb wh pins s σ H Q I ?_
 obtain⟨Z1,O1,E1,h1⟩:=lH E hq;refine⟨Z1,O1,E1,Post.mono h1 λk H1 s1 q=> ?_⟩
 obtain⟨s',E',q'⟩:=q
 cases k with
 | true=>rw[if_pos rfl];exact⟨Z,O,E',by simpa using q'⟩
 | false=>rw[if_neg OF];exact q' H1 (Same.refl H1)
theorem Lf (ha:xw X a f)(hb:HW X (.BoolOp .Or (b::dv) pos) g):HW X (.BoolOp .Or (a::b::dv) pos) (vW f g):=by
 intro wh pins s σ H Q I ⟨Z,O,E,hq⟩;refine Ht ha hb wh pins s σ H Q I ?_
 obtain⟨Z1,O1,E1,h1⟩:=lH E hq;refine⟨Z1,O1,E1,Post.mono h1 λk H1 s1 q=> ?_⟩
 obtain⟨s',E',q'⟩:=q
 cases k with
 | true=>rw[if_pos rfl];exact q' H1 (Same.refl H1)
 | false=>rw[if_neg OF];exact⟨Z,O,E',by simpa using q'⟩
theorem qt_w {e:Expr}(h:HW X e f):xw X e f:=h.pt
theorem IH (ha:xw X a f):xw X (.UnaryOp .Not a pos) (fO f):=by
 intro pins s σ H Q I ⟨Z,O,E,hq⟩;refine CC ha pins s σ H Q I ?_
 obtain⟨Z1,O1,E1,h1⟩:=lH E hq;exact⟨Z1,O1,E1,Post.mono h1 λk H1 s1 ⟨s',E',q'⟩=>q' H1 (Same.refl H1)⟩
def dO (f g:En->Rs T)(Z:En):Rs T:=do
 let x <-f Z
 match x with
 | .bl true=>g Z
 | .bl false=> .ok (.bl false)
 | _=> .bad
def F7 (f g:En->Rs T)(Z:En):Rs T:=do
 let x <-f Z
 match x with
 | .bl true=> .ok (.bl true)
 | .bl false=>g Z
 | _=> .bad
def um:T->Rs T
 | .bl k=> .ok (.bl (!k))
 | _=> .bad
theorem Lo {op}(h:c8 X a fa):c8 X (.BoolOp op [a] pos) fa:=Jm h
theorem Ly (ha:c8 X a fa)(hb:c8 X (.BoolOp .And (b::dv) pos) fb):c8 X (.BoolOp .And (a::b::dv) pos) (dO fa fb):=by
 intro pins s σ H Q I ⟨Z,O,E,hq⟩;refine Jp ha hb pins s σ H Q I ?_
 obtain⟨Z1,O1,E1,h1⟩:=br E hq;refine⟨Z1,O1,E1,Post.mono h1 λts H1 s1 q vs r=> ?_⟩
 obtain⟨t',r',s',E',q'⟩:=q vs r
 split at q'
 ·exact⟨true,Rep.FM.mp r',by rw[if_pos rfl];exact⟨Z,O,E',q'⟩⟩
 ·exact⟨false,Rep.FM.mp r',by rw[if_neg OF];exact q' H1 (Same.refl H1) _ (Rep.bl_ false)⟩
 ·exact q'.elim
theorem q_or (ha:c8 X a fa)(hb:c8 X (.BoolOp .Or (b::dv) pos) fb):c8 X (.BoolOp .Or (a::b::dv) pos) (F7 fa fb):=by
 intro pins s σ H Q I ⟨Z,O,E,hq⟩;refine LC ha hb pins s σ H Q I ?_
 obtain⟨Z1,O1,E1,h1⟩:=br E hq;refine⟨Z1,O1,E1,Post.mono h1 λts H1 s1 q vs r=> ?_⟩
 obtain⟨t',r',s',E',q'⟩:=q vs r
 split at q'
 ·exact⟨true,Rep.FM.mp r',by rw[if_pos rfl];exact q' H1 (Same.refl H1) _ (Rep.bl_ true)⟩
 ·exact⟨false,Rep.FM.mp r',by rw[if_neg OF];exact⟨Z,O,E',q'⟩⟩
 ·exact q'.elim
theorem Lp (ha:c8 X a fa):c8 X (.UnaryOp .Not a pos) (o1 um fa):=by
 intro pins s σ H Q I ⟨Z,O,E,hq⟩;refine Jn ha pins s σ H Q I ?_
 obtain⟨Z1,O1,E1,h1⟩:=br E hq;refine⟨Z1,O1,E1,Post.mono h1 λts H1 s1 q vs r=> ?_⟩
 obtain⟨t',r',s',E',q'⟩:=q vs r;unfold um at q'
 split at q'
 ·exact⟨_,Rep.FM.mp r',q' H1 (Same.refl H1) _ (Rep.bl_ _)⟩
 ·exact q'.elim
def DS (f:En->Rs Bool)(fa fb:En->Rs T)(Z:En):Rs T:=do
 let k <-f Z
 if k then fa Z else fb Z
theorem q_if (hc:xw X c f)(ha:c8 X a fa)(hb:c8 X b fb):c8 X (.IfExp c a b pos) (DS f fa fb):=by
 intro pins s σ H Q I ⟨Z,O,E,hq⟩;refine CO hc ha hb pins s σ H Q I ?_
 obtain⟨Z1,O1,E1,h1⟩:=lH E hq;refine⟨Z1,O1,E1,Post.mono h1 λk H1 s1 q=> ?_⟩
 obtain⟨s',E',q'⟩:=q
 cases k with
 | true=>rw[if_pos rfl];exact⟨Z,O,E',by simpa using q'⟩
 | false=>rw[if_neg OF];exact⟨Z,O,E',by simpa using q'⟩
end
end Tr
namespace HT
open PySem PyProof.Rows
section
variable {prog:OH}{w:Px}{A:OV}{E:Oa->Od->Prop}{s:Od}
theorem kU {t:Addr}{items:Array Oa}{Q:Bool->Od->Prop}(ht:Xv s.heap t items)(h:Q true s):wpAny (model prog w) A (Th (.ref t)) Q E s:=by
 unfold Th;refine N7 (Sd ht.typeIs (Ol ?_))
 exact h
theorem getItem_tuple_whole {t sl:Addr}{items:Array Oa}{vl vu:Oa}{lo hi:Option Int}{Q:Oa->Od->Prop}(ht:Xv s.heap t items)(hs:s.heap.IsSliceOf sl vl vu .none)(pl:VT vl lo)(pu:VT vu hi)
  (hw:sIx items.size 0 lo=0/\sIx items.size items.size hi=items.size) (h:Q (.ref t) s):wpAny (model prog w) A (getItem (.ref t) (.ref sl)) Q E s:=by
 obtain⟨os,hos,hcs,hds⟩:=id hs
 have hTs:s.TypeIs (.ref sl) "slice":=⟨os,hos,hcs⟩;unfold getItem
 try with_reducible refine P7 ?_
 first | refine N7 (Ol ?_) | skip
 refine N7 (T1 ht.typeIs (by decide) ?_)
 refine N7 (Qk (name:=Oo "__getitem__") ht.typeIs OQ
  (Q5 OQ ht.typeIs Tg ?_ (TC _ _)))
 show wpAny _ _ (RS (.ref t) >>= _) _ _ s
 refine N7 (Ue ht ?_)
 refine N7 (Sd hTs ?_)
 rw[if_pos (by decide)]
 refine N7 (iP hs pl pu ?_)
 have hyes:(((sIx items.size 0 lo:Nat):Int) == 0&&(1:Int) == 1&&(sIx items.size items.size hi - sIx items.size 0 lo) == items.size)=true:=by
  rw[hw.1,hw.2];simp
 show wpAny _ _ (if (((sIx items.size 0 lo:Nat):Int) == 0&&(1:Int) == 1&&(sIx items.size items.size hi - sIx items.size 0 lo) == items.size)=true then _ else _) _ _ s
 rw[if_pos hyes]
 first
  | refine N7 (kU ht ?_)
  | refine kU ht ?_
 try rw[if_pos rfl]
 first
  | exact N7 (SC (Ol ⟨_,rfl,Ol h⟩))
  | exact N7 (SC (N7 (Ol (Ol ⟨_,rfl,Ol h⟩))))
theorem mM {sl:Addr}{t:Tok}{n:Nat}{Q:Int×Int×Nat->Od->Prop}(hs:s.heap.IsSliceOf sl .none .none (.int (-1) t))
  (h:Q ((n:Int) - 1,-1,n) s):wpAny (model prog w) A (Q2 (.ref sl) (pure (n:Int))) Q E s:=by
 obtain⟨os,hos,hcs,hds⟩:=id hs;unfold Q2 TF;refine N7 (N7 (Qv hos hds (x:=.none) rfl (N7 (Qv hos hds (x:=.none) rfl (N7 (Qv hos hds (x:=.int (-1) t) rfl (Ol ?_)))))))
 refine N7 (slicePart_int ?_)
 show wpAny _ _ (if ((-1:Int) == 0)=true then _ else _) _ _ s
 rw[if_neg (by decide)]
 refine N7 (TJ (N7 (TJ (N7 (Ol ?_)))))
 show wpAny _ _ (match P3 none none (-1) (n:Int)with | (lo,hi)=>pure (lo,(-1:Int),Pw lo hi (-1))) _ _ s
 have e1:P3 none none (-1) (n:Int)=((n:Int) - 1,-1):=by simp[P3]
 have e2:Pw ((n:Int) - 1) (-1) (-1)=n:=by
  unfold Pw;simp only[show ¬((-1:Int) > 0)by decide,if_false,W6,UB]
  split <;> omega
 rw[e1]
 show wpAny _ _ (pure ((n:Int) - 1,(-1:Int),Pw ((n:Int) - 1) (-1) (-1))) _ _ s
 rw[e2];exact Ol h
theorem vQ (xs:List Oa):((On xs.length).filterMap λ(m:Nat)=>xs.toArray[(((xs.length:Int) - 1)+(m:Int)*(-1)).toNat]?)=xs.reverse:=by
 apply V5
 intro i
 have key:∀m∈On xs.length,xs.toArray[(((xs.length:Int) - 1)+(m:Int)*(-1)).toNat]? =some (xs.reverse.getD m .none):=λm hm=>by
  have hm':m<xs.length:=OY.mp hm
  have e:(((xs.length:Int) - 1)+(m:Int)*(-1)).toNat=xs.length - 1 - m:=by omega
  rw[e,List.getElem?_toArray,Of (by omega)]
  have:m<xs.reverse.length:=by simpa using hm'
  simp[UD,Of this,U4]
 have hmap:((On xs.length).filterMap λ(m:Nat)=>xs.toArray[(((xs.length:Int) - 1)+(m:Int)*(-1)).toNat]?)=(On xs.length).map λm=>xs.reverse.getD m .none:=by
  have gen:∀(r:List Nat) (f:Nat->Option Oa) (g:Nat->Oa),(∀m∈r,f m=some (g m))->r.filterMap f=r.map g:=by
   intro r f g
   induction r with
   | nil=>intro _;rfl
   | cons m r ih=>
    intro h;rw[P8,h m Oe,Oc,ih λm' hm'=>h m' (N8 _ hm')]
  exact gen _ _ _ key
 rw[hmap];rw[Ov]
 by_cases hi:i<xs.length
 ·have hr:i<xs.reverse.length:=by simpa using hi
  rw[Qs hi]
  simp[UD,Of hr]
 ·rw[PP (by simpa using hi),PP (by simpa using hi)]
  rfl
theorem slicePick_rev (xs:List Oa):Xk xs.toArray none none (some (-1))=xs.reverse.toArray:=by
 have e:Xk xs.toArray none none (some (-1))=((sliceRange ((xs.toArray.size:Int) - 1) (-1) (-1)).filterMap (xs.toArray[·]?)).toArray:=rfl
 rw[e,<-vQ xs,Ox];unfold sliceRange
 have c:(if ((xs.length:Int) - 1) > -1 then(((xs.length:Int) - 1) - (-1) - (-1) - 1) / (-(-1:Int))else 0).toNat=xs.length:=by
  rw[W6,UB]
  split <;> omega
 show(((On (if ((xs.length:Int) - 1) > -1 then(((xs.length:Int) - 1) - (-1) - (-1) - 1) / (-(-1:Int))else 0).toNat).map λ(k:Nat)=>(((xs.length:Int) - 1)+(-1)*(k:Int)).toNat).filterMap (xs.toArray[·]?)).toArray=_
 rw[c,Tw]
 congr 2
 funext k
 show xs.toArray[(((xs.length:Int) - 1)+(-1)*(k:Int)).toNat]? =_
 rw[UE]
theorem getItem_tuple_rev {u sl:Addr}{items:List Oa}{t:Tok}{Q:Oa->Od->Prop}(ht:Xv s.heap u items.toArray)(hs:s.heap.IsSliceOf sl .none .none (.int (-1) t))
  (h:Q (.ref s.heap.objs.size) { s with heap:=s.heap.push { cls:=.type "tuple",data:=.seq items.reverse.toArray } })
  (hsz:items.length<=sizeLine):wpAny (model prog w) A (getItem (.ref u) (.ref sl)) Q E s:=by
 have htake:sizeOk (.seq items.reverse.toArray):=by
  show items.reverse.toArray.size<=sizeLine
  simpa using hsz
 obtain⟨os,hos,hcs,hds⟩:=id hs
 have hTs:s.TypeIs (.ref sl) "slice":=⟨os,hos,hcs⟩;unfold getItem
 try with_reducible refine P7 ?_
 first | refine N7 (Ol ?_) | skip
 refine N7 (T1 ht.typeIs (by decide) ?_)
 refine N7 (Qk (name:=Oo "__getitem__") ht.typeIs OQ
  (Q5 OQ ht.typeIs Tg ?_ (TC _ _)))
 show wpAny _ _ (RS (.ref u) >>= _) _ _ s
 refine N7 (Ue ht ?_)
 refine N7 (Sd hTs ?_)
 rw[if_pos (by decide)]
 refine N7 (mM (n:=items.toArray.size) hs ?_)
 show wpAny _ _ (if ((((items.toArray.size:Nat):Int) - 1) == 0&&(-1:Int) == 1&&items.toArray.size == items.toArray.size)=true then _ else _) _ _ s
 rw[if_neg (by simp)]
 have e:((On items.toArray.size).filterMap λ(m:Nat)=>items.toArray[((((items.toArray.size:Nat):Int) - 1)+(m:Int)*(-1)).toNat]?)=items.reverse:=by
  rw[Ox];exact vQ items
 rw[e]
 first
  | exact N7 (m:=Pm _) (Pt (Ol ⟨_,rfl,Ol h⟩) htake)
  | exact N7 (m:=Pm _) (Pt (N7 (Ol (Ol ⟨_,rfl,Ol h⟩))) htake)
  | exact N7 (N7 (m:=Pm _) (Pt (Ol (Ol ⟨_,rfl,Ol h⟩)) htake))
  | exact N7 (N7 (m:=Pm _) (Pt (Ol ⟨_,rfl,Ol h⟩) htake))
end
end HT
namespace Tr
open PySem PySem.Spec PyProof.Rows L2
section
variable {X:Cx}{a b c:Expr}{fa fb fc:En->Rs T}{pos:Pos}
theorem Reps.atI {K:N6}{O:Ow}{H:Hp}{l:List T}{vs:List V}{i:Int}{t:T}(r:Reps K O H l vs)(e:L2.atI l i=some t):∃v,L2.atI vs i=some v/\Rep K O H t v:=by
 unfold L2.atI at e ⊢;rw[r.length]at e
 cases q:ixN vs.length i with
 | none=>rw[q]at e;cases e
 | some j=>
  rw[q]at e;obtain⟨v,e1,e2⟩:=r.get (i:=j) (t:=t) e;exact⟨v,e1,e2⟩
def aU (x y:T):Rs T:=match x.items,y with
 | some l,.int i=>match L2.atI l i with
  | some t=> .ok t
  | none=> .bad
 | _,_=> .bad
theorem q_ix (ha:c8 X a fa)(hb:c8 X b fb)(hs:autoParam (kK b) w_):c8 X (.Subscript a b pos) (o2 aU fa fb):=by
 intro pins s σ H Q I ⟨Z,O,E,hq⟩
 have h1:=br E hq;refine UY (cL (ha pins s σ H _ I h1) λv s1 hh_=> ?_)
 obtain⟨x,H1,I1,r1,t,rt,s',E',q1⟩:=hh_
 have h2:=br (f:=fb) E' q1;refine cL (hb pins s1 σ H1 _ I1 h2) λu s2 hh_=> ?_
 obtain⟨y,H2,I2,r2,t2,rt2,s'',E'',q2⟩:=hh_
 have rt':=rt.same s'';unfold aU at q2
 split at q2
 ·rename_i l i hl
  split at q2
  ·rename_i z hz
   have hy:=Rep.AC.mp rt2;refine J4 a b pins s2 σ H2 x y v u Q I2 r1 r2 ?_ (hs _ _)
   cases t with
   | tup m=>
    cases hl;obtain⟨p,vs,e,n,q,rr⟩:=Rep.Fk.mp rt';obtain⟨w,ew,rw'⟩:=rr.atI hz
    exact .inr (.inl ⟨p,vs,i,w,e,hy,SqT.of q,ew,q2 H2 (Same.refl H2) _ rw'⟩)
   | lst m=>
    cases hl;obtain⟨p,vs,e,n,q,rr⟩:=Rep.Do.mp rt';obtain⟨w,ew,rw'⟩:=rr.atI hz
    exact .inl ⟨p,vs,i,w,e,hy,SqL.of q,ew,q2 H2 (Same.refl H2) _ rw'⟩
   | scr m=>
    cases hl;unfold Rep at rt';obtain⟨p,e,n,q⟩:=rt';obtain⟨w,ew,rw'⟩:=(Reps.ints (K:=X.K) (O:=O) (H:=H2) (ns:=m)).atI hz
    exact .inl ⟨p,_,i,w,e,hy,q,ew,q2 H2 (Same.refl H2) _ rw'⟩
   | _=>cases hl
  ·exact q2.elim
 ·exact q2.elim
theorem Reps.cut {K:N6}{O:Ow}{H:Hp}{l:List T}{vs:List V}(r:Reps K O H l vs)(lo hi:Option Int):Reps K O H (og l lo hi) (w6 vs lo hi):=by
 unfold og w6;rw[r.length];exact(r.drop _).take _
theorem Bq {l:List T}{lo hi:Option Int}(h:HT.sIx l.length 0 lo=0/\HT.sIx l.length l.length hi=l.length):og l lo hi=l:=by
 unfold og;rw[h.1,h.2];simp
theorem sl_tup_whole:SlR X (λx lo hi H Q=> ∃a xs,x= .ref a/\SqT X.K H a xs/\(HT.sIx xs.length 0 lo=0/\HT.sIx xs.length xs.length hi=xs.length)/\Q (.ref a) H):=by
 intro pins s σ H x v vl vu lo hi sl Q I rx hs pl pu h;obtain⟨a,xs,rfl,hx,hw,q⟩:=h;cases rx;obtain⟨its,r,ht,hz⟩:=I.tuple hx
 have hlen:its.toArray.size=xs.length:=by rw[Ox];exact r.length.symm
 refine⟨"tuple",_,OQ.lookup,ht.typeIs,?_⟩
 exact HT.getItem_tuple_whole ht hs pl pu (by rw[hlen];exact hw) ⟨.ref a,H,I,rfl,q⟩
def pN (_:En):Rs (Option Int):=.ok none
def pS (f:En->Rs T)(Z:En):Rs (Option Int):=do
 let x <-f Z
 match x with
 | .int i=> .ok (some i)
 | _=> .bad
def tPO (X:Cx)(f:En->Rs (Option Int)):TO:=λσ H Q=> ∃Z O,EnvO X.K O H Z σ/\Post X H (f Z) λb H'=>Q b H'
abbrev MF (X:Cx)(e:Option Expr)(f:En->Rs (Option Int)):Prop:=PO X e (tPO X f)
theorem FJ:MF X none pN:=by
 intro pins s σ H Q I ⟨Z,O,E,hq⟩;exact FY pins s σ H Q I (hq H (Same.refl H))
theorem FI (ha:c8 X a fa):MF X (some a) (pS fa):=by
 intro pins s σ H Q I ⟨Z,O,E,hq⟩;refine FX ha pins s σ H Q I ?_
 obtain⟨Z1,O1,E1,h1⟩:=br E hq;refine⟨Z1,O1,E1,Post.mono h1 λts H1 s1 q vs r=> ?_⟩
 obtain⟨t',r',s',E',q'⟩:=q vs r
 split at q'
 ·exact⟨_,Rep.AC.mp r',q' H1 (Same.refl H1)⟩
 ·exact q'.elim
theorem vm {σ:L2.St}{H:Hp}{Z:En}{O:Ow}{α:Type}{f:En->Rs (Option Int)}{k:Option Int->Rs α}{Q:α->Hp->Prop}(E:EnvO X.K O H Z σ)(h:Post X H (f Z >>= k) Q) :
  tPO X f σ H λb H'=>Same H H'/\EnvO X.K O H' Z σ/\Post X H' (k b) Q:=
 ⟨Z,O,E,Post.mono h.bind λt H' s q=>⟨s,E.same s,q⟩⟩
theorem FQ {lo hi:Option Expr}{p2:Pos}{fl fu:En->Rs (Option Int)}(ha:c8 X a fa)(hl:MF X lo fl)(hu:MF X hi fu):c8 X (.Subscript a (.Slice lo hi none p2) pos) (sl fa fl fu):=by
 intro pins s σ H Q I ⟨Z,O,E,hq⟩;refine CM (sl_tup.or (sl_tup_whole.or Fo)) ha hl hu pins s σ H Q I ?_
 obtain⟨Z1,O1,E1,h1⟩:=br E hq;refine⟨Z1,O1,E1,Post.mono h1 λts H1 s1 q vs r=> ?_⟩
 obtain⟨t',r',s',E',q'⟩:=q vs r;obtain⟨Z2,O2,E2,h2⟩:=vm E' q';refine⟨Z2,O2,E2,Post.mono h2 λo1 H2 s2 q=> ?_⟩
 obtain⟨s2',E2',q2⟩:=q;obtain⟨Z3,O3,E3,h3⟩:=vm E2' q2;refine⟨Z3,O3,E3,Post.mono h3 λo2 H3 s3 q=> ?_⟩
 obtain⟨s3',E3',q3⟩:=q
 have rt:=(r'.same s2').same s3';unfold slT at q3
 split at q3
 ·rename_i l
  obtain⟨p,ws,e,n,q,rr⟩:=Rep.Fk.mp rt
  have hlen:=rr.length
  by_cases hw:HT.sIx ws.length 0 o1=0/\HT.sIx ws.length ws.length o2=ws.length
  ·refine .inr (.inl ⟨p,ws,e,SqT.of q,hw,?_⟩)
   rw[<-hlen]at hw;refine q3 H3 (Same.refl H3) _ ?_
   rw[Bq hw];exact Rep.Fk.mpr ⟨p,ws,rfl,n,q,rr⟩
  ·exact .inl ⟨p,ws,e,SqT.of q,hw,λp' hp=>q3 _ (aQ hp _) _ (gO hp (E3'.fresh hp) (rr.cut o1 o2))⟩
 ·rename_i l
  obtain⟨p,ws,e,n,q,rr⟩:=Rep.Do.mp rt;exact .inr (.inr ⟨p,ws,e,SqL.of q,λp' hp=>q3 _ (aQ hp _) _ (gP hp (E3'.fresh hp) (rr.cut o1 o2))⟩)
 ·exact q3.elim
def Fv:T->Rs T
 | .tup l=> .ok (.tup l.reverse)
 | .lst l=> .ok (.lst l.reverse)
 | _=> .bad
theorem Reps.reverse {K:N6}{O:Ow}{H:Hp}:∀{l:List T} {vs:List V},Reps K O H l vs->Reps K O H l.reverse vs.reverse
 | [],vs,r=>by rw[Reps.Da.mp r];exact Reps.GM
 | t::l,vs,r=>by
  obtain⟨v,us,rfl,p,q⟩:=Reps.me.mp r;rw[Sx,Sx];exact q.reverse.append (Reps.Gc p Reps.GM)
theorem Ln {j:Nat}{p1 p2 p3:Pos}(ha:c8 X a fa):c8 X (.Subscript a (.Slice none none (some (.UnaryOp .USub (.Constant (.int 1) j p1) p2)) p3) pos) (o1 Fv fa):=by
 intro pins s σ H Q I ⟨Z,O,E,hq⟩
 have h1:=br E hq;refine UY (cL (ha pins s σ H _ I h1) λv s1 hh_=> ?_)
 obtain⟨x,H1,I1,r1,t,rt,s',E',q1⟩:=hh_;refine wpAny_Slice ?_
 rw[VU];refine Ol (Ol ?_)
 rw[evalPart_some];refine cL (Hv BU xZ pins s1 σ H1 (λw' H'=>w'= .int (-1)/\H'=H1) I1 ⟨1,rfl,rfl,rfl⟩) λsv s2 hh_=> ?_
 obtain⟨w',H2,I2,r2,e1,e2⟩:=hh_;subst e1 e2;obtain⟨tk,rfl⟩:=r2
 have I4:Inv X pins σ H2 { s2 with heap:=s2.heap.push { cls:=.type "slice",data:=.fields #[.none,.none,.int (-1) tk] } }:=I2.kept (t':=s2.toks) λb ob q=>Oh _ q
 unfold Fv at q1
 split at q1
 ·rename_i l
  obtain⟨p,ws,e,n,q,rr⟩:=Rep.Fk.mp rt;subst e;cases r1;obtain⟨its,r,ht,hz⟩:=I4.tuple (SqT.of q)
  have hs:Xr (s2.heap.push { cls:=.type "slice",data:=.fields #[.none,.none,.int (-1) tk] }) s2.heap.objs.size .none .none (.int (-1) tk):=Tu ..;refine tail_any (ops:=[.ref p,.ref s2.heap.objs.size]) ht.typeIs OQ.lookup ?_ (by with_unfolding_all rfl)
  refine HT.getItem_tuple_rev ht hs ?_ (by rw[<-r.length];exact hz)
  refine⟨.ref _,_,I4.laid (t':=s2.toks) (o:=.tup ws.reverse) (λb ob q=>Oh _ q) (Ot _) ?_,rfl,?_⟩
  ·exact⟨by rw[Vi];exact hz,_,r.reverse,Vw _ _⟩
  ·have hn:=I4.hok.fresh (Ot _)
   exact q1 _ (aQ hn _) _ (gO hn (E'.fresh hn) rr.reverse)
 ·rename_i l
  obtain⟨p,ws,e,n,q,rr⟩:=Rep.Do.mp rt;subst e;cases r1;obtain⟨its,r,ht,hz⟩:=I4.list (SqL.of q)
  have hs:Xr (s2.heap.push { cls:=.type "slice",data:=.fields #[.none,.none,.int (-1) tk] }) s2.heap.objs.size .none .none (.int (-1) tk):=Tu ..;refine tail_any (ops:=[.ref p,.ref s2.heap.objs.size]) ht.isList.typeIs slot_list_getitem.lookup ?_ (by with_unfolding_all rfl)
  refine T2 ht.isList hs .none .none (.int (-1) tk) (by simp) ?_ (by rw[Ox,<-r.length];exact hz)
  rw[HT.slicePick_rev];refine⟨.ref _,_,I4.laid (t':=s2.toks) (o:=.lst ws.reverse) (λb ob q=>Oh _ q) (Ot _) ?_,rfl,?_⟩
  ·exact⟨by rw[Vi];exact hz,_,0,r.reverse,Oz _ rfl⟩
  ·have hn:=I4.hok.fresh (Ot _)
   exact q1 _ (aQ hn _) _ (gP hn (E'.fresh hn) rr.reverse)
 ·exact q1.elim
def CallT (X:Cx)(f:Oa)(g:List T->Rs T):Prop:=
 ∀(pins:List (Addr×Obj)) (s:Od) (σ:L2.St) (H:Hp) (O:Ow) (ts:List T) (vs:List V) (us:List Oa) (Q:VK),Inv X pins σ H s->(∀p,H p=none->¬ O p)->Reps X.K O H ts vs->Vals vs us →
  Post X H (g ts) (λt H'=> ∀v,Rep X.K O H' t v->Q v H')->wpAny (model X.prog X.w) X.A (call f us) (EP X pins σ Q) X.xe s
theorem CallT.of {f:Oa}{r:List V->Hp->VK->Prop}(h:CallR X f r){g:List T->Rs T}
  (w:∀(H:Hp) (O:Ow) (ts:List T) (vs:List V) (Q:VK),(∀p,H p=none->¬ O p)->Reps X.K O H ts vs->Post X H (g ts) (λt H'=> ∀v,Rep X.K O H' t v->Q v H')->r vs H Q):CallT X f g:=
 λpins s σ H O ts vs us Q I hf rs rv hp=>h pins s σ H vs us Q I rv (w H O ts vs Q hf rs hp)
def cl (g:List T->Rs T)(fs:En->Rs (List T))(Z:En):Rs T:=fs Z >>= g
variable {e:Expr}{es:List Expr}{fs:En->Rs (List T)}{x:Str}{p:Pos}{id:String}{g:List T->Rs T}
theorem zo (hc:CallT X (.builtin id) g)(hm:X.mg x=none)(hv:Pb x=some (.builtin id))(ha:qS X (e::es) fs)(hg:Gl X x:=by rfl)(hn:autoParam (x≠ "__name__") s_)(hdb:autoParam ((x == ("__debug__" : Str))=false) s_)
  (he:Oy (e::es) X.env=(false,eval e X.env)::Oy es X.env:=by rfl) (hpl:(backTo pos (Oy es X.env)).any (·.1)=false:=by rfl):c8 X (.Call (.Name x p) (e::es) [] pos) (cl g fs):=by
 intro pins s σ H Q I ⟨Z,O,E,hq⟩;refine Pc (fg I hg hm hv ?_ hn hdb)
 have h1:=eF E hq;exact QC (cL (ha pos pins s σ H _ I h1) λus s1 ⟨vs,H1,I1,r1,ts,rs,s',E',q1⟩=>hc pins s1 σ H1 O ts vs us Q I1 (λp=>E'.fresh) rs r1 q1) he hpl
theorem Cy {Ty:String}(hc:CallT X (.type Ty) g)(hm:X.mg x=none)(hv:Pb x=some (.type Ty))(ha:qS X (e::es) fs)(hg:Gl X x:=by rfl)(hn:autoParam (x≠ "__name__") s_)(hdb:autoParam ((x == ("__debug__" : Str))=false) s_)
  (he:Oy (e::es) X.env=(false,eval e X.env)::Oy es X.env:=by rfl) (hpl:(backTo pos (Oy es X.env)).any (·.1)=false:=by rfl):c8 X (.Call (.Name x p) (e::es) [] pos) (cl g fs):=by
 intro pins s σ H Q I ⟨Z,O,E,hq⟩;refine Pc (fg I hg hm hv ?_ hn hdb)
 have h1:=eF E hq;exact Pa (cL (ha pos pins s σ H _ I h1) λus s1 ⟨vs,H1,I1,r1,ts,rs,s',E',q1⟩=>hc pins s1 σ H1 O ts vs us Q I1 (λp=>E'.fresh) rs r1 q1) he hpl
theorem Reps.one {K:N6}{O:Ow}{H:Hp}{t:T}{vs:List V}(r:Reps K O H [t] vs):∃v,vs= [v]/\Rep K O H t v:=by
 obtain⟨v,ws,rfl,p,q⟩:=Reps.me.mp r;cases Reps.Da.mp q;exact⟨v,rfl,p⟩
theorem Rep.sq {K:N6}{O:Ow}{H:Hp}{t:T}{v:V}{l:List T}(r:Rep K O H t v)(h:t.items=some l):∃a vs,v= .ref a/\¬ O a/\Reps K O H l vs/\(SqL K H a vs\/SqT K H a vs):=by
 cases t with
 | tup m=>cases h;obtain⟨a,vs,e,n,q,z⟩:=Rep.Fk.mp r;exact⟨a,vs,e,n,z,.inr (SqT.of q)⟩
 | lst m=>cases h;obtain⟨a,vs,e,n,q,z⟩:=Rep.Do.mp r;exact⟨a,vs,e,n,z,.inl (SqL.of q)⟩
 | scr m=>cases h;unfold Rep at r;obtain⟨a,e,n,q⟩:=r;exact⟨a,_,e,n,Reps.ints,.inl q⟩
 | _=>cases h
def cz:List T->Rs T
 | [.str x] =>if x.length<=sizeLine then .ok (.int x.length)else .bad
 | [x] =>match x.items with
  | some l=> .ok (.int l.length)
  | none=> .bad
 | _=> .bad
theorem cJ:CallT X (.builtin "len") cz:=CallT.of (call_len_seq.or uR) λH O ts vs Q hf rs hp=>by
 unfold cz at hp
 split at hp
 ·obtain⟨v,rfl,r⟩:=rs.one
  split at hp
  ·rename_i h
   exact .inr ⟨_,by rw[Rep.IR.mp r],h,hp H (Same.refl H) _ (Rep.GE _)⟩
  ·exact hp.elim
 ·obtain⟨v,rfl,r⟩:=rs.one
  split at hp
  ·rename_i l hl
   obtain⟨a,vs,rfl,n,z,q⟩:=r.sq hl;exact .inl ⟨a,vs,rfl,q,hp H (Same.refl H) _ (by rw[<-z.length];exact Rep.GE _)⟩
  ·exact hp.elim
 ·exact hp.elim
def e9:List T->Rs T
 | [.tup l] => .ok (.tup l)
 | [.lst l] => .ok (.tup l)
 | _=> .bad
theorem fI:CallT X (.type "tuple") e9:=CallT.of rz λH O ts vs Q hf rs hp=>by
 unfold e9 at hp
 split at hp
 ·obtain⟨v,rfl,r⟩:=rs.one
  obtain⟨a,ws,rfl,n,q,z⟩:=Rep.Fk.mp r;exact⟨a,ws,rfl,.inr ⟨SqT.of q,hp H (Same.refl H) _ (Rep.Fk.mpr ⟨a,ws,rfl,n,q,z⟩)⟩⟩
 ·obtain⟨v,rfl,r⟩:=rs.one
  obtain⟨a,ws,rfl,n,q,z⟩:=Rep.Do.mp r;exact⟨a,ws,rfl,.inl ⟨SqL.of q,λl hl=>hp _ (aQ hl _) _ (gO hl (hf l hl) z)⟩⟩
 ·exact hp.elim
def wL:List T->Rs T
 | [.int i] => .ok (.int i)
 | [.bl k] => .ok (.int (if k then 1 else 0))
 | _=> .bad
theorem yN:CallT X (.type "int") wL:=CallT.of Bw λH O ts vs Q hf rs hp=>by
 unfold wL at hp
 split at hp
 ·obtain⟨v,rfl,r⟩:=rs.one
  exact .inl ⟨_,by rw[Rep.AC.mp r],hp H (Same.refl H) _ (Rep.GE _)⟩
 ·obtain⟨v,rfl,r⟩:=rs.one
  exact .inr ⟨_,by rw[Rep.FM.mp r],hp H (Same.refl H) _ (Rep.GE _)⟩
 ·exact hp.elim
def qK:List T->Option (List Bool)
 | [] =>some []
 | .bl k::r=>(qK r).map (k:: ·)
 | _=>none
def rA:List T->Rs T
 | [.lst l] =>match qK l with
  | some ks=> .ok (.bl (ks.all λk=>k))
  | none=> .bad
 | _=> .bad
theorem qJ {K:N6}{O:Ow}{H:Hp}:∀{l:List T} {ks:List Bool} {vs:List V} {us:List Oa},qK l=some ks->Reps K O H l vs->Vals vs us->us=ks.map Pp
 | [],ks,vs,us,e,r,v=>by cases e;cases Reps.Da.mp r;cases v;rfl
 | t::l,ks,vs,us,e,r,v=>by
  obtain⟨w,ws,rfl,p,q⟩:=Reps.me.mp r
  cases t with
  | bl k=>
   unfold qK at e
   cases z:qK l with
   | none=>rw[z]at e;cases e
   | some ks'=>
    rw[z]at e;cases e
    cases v with
    | cons v1 v2=>
     cases Rep.FM.mp p;cases v1
     rw[qJ z q v2];rfl
  | _=>cases e
theorem uP (hc:X.calm=true):CallT X (.builtin "all") rA:=by
 intro pins s σ H O ts vs us Q I hf rs rv hp;unfold rA at hp
 split at hp
 ·obtain⟨v,rfl,r⟩:=rs.one
  split at hp
  ·rename_i ks hk
   obtain⟨a,ws,rfl,n,q,z⟩:=Rep.Do.mp r;obtain⟨u,rfl,ru⟩:=lG rv;cases ru;obtain⟨its,r',pl,hz⟩:=I.list (SqL.of q)
   have hits:=qJ hk z r';refine call_all_walk (Sz pl.isList ?_)
   have hne:a≠s.heap.objs.size:=λe=>by
    obtain⟨o,ho,_⟩:=pl.isList;rw[e]at ho;exact absurd (Ou ho) (O9 _)
   refine⟨s.heap.objs.size,_,_,_,_,_,λi=>(ks[i]?).getD true,rfl,Walks.list (A:=X.A.in1) (I.ok.hd hc) s.heap.objs.size a hne its.toArray,⟨⟨_,Oz _ rfl,rfl,rfl⟩,?_⟩,?_,?_⟩
   ·obtain⟨o,ho,hh⟩:=pl.isList
    exact⟨o,Oh _ ho,hh⟩
   ·intro i v s' Q' E' hP hQ'
    subst hits
    dsimp only at hQ'
    have hP':(ks.map Pp)[i]? =some v:=by simpa using hP
    rw[Ov]at hP'
    cases e:ks[i]? with
    | none=>rw[e]at hP';cases hP'
    | some k=>
     rw[e]at hP' hQ';cases hP';exact Pg hQ'
   ·intro h' tk hk'
    have hlen:its.toArray.size=ks.length:=by rw[hits];simp
    have e:((On its.toArray.size).all λi=>(ks[i]?).getD true)=(ks.all λk=>k):=by
     rw[hlen];rw[Pe,OG,OG]
     constructor
     ·intro h x hx
      obtain⟨i,hi,rfl⟩:=Rp hx
      have:=h i (OY.mpr hi)
      simpa [hi]using this
     ·intro h i hi
      have hi':=OY.mp hi
      have:=h ks[i] (PQ hi')
      simpa [hi']using this
    rw[e]
    have I1:Inv X pins σ H { s with heap:=s.heap.push { cls:=.type "list_iterator",data:=.fields #[.ref a,.int 0 0] } }:=I.kept (t':=s.toks) λb o e=>Oh _ e
    have I2:Inv X pins σ H { s with heap:=h',toks:=tk }:=by
     have:=I1.turned (h':=h') (t':=tk) (it:=s.heap.objs.size) (λb o hb e=>hk' b o (by simpa using hb) e) (I.hok.fresh (Ot _))
      (QF I.lt) (.inr I.sz) (λx c e z=> ?_) (λp hp z=> ?_)
     ·exact this
     ·obtain⟨v,q⟩:=I.cell x c e
      exact absurd (Os q.lt (R8 z.symm)) (O9 _)
     ·exact absurd (Os (Ou (I.pin p hp).1) (R8 z.symm)) (O9 _)
    exact⟨.bl _,H,I2,rfl,hp H (Same.refl H) _ (Rep.bl_ _)⟩
  ·exact hp.elim
 ·exact hp.elim
end
def T.ty:T->Option String
 | .non=>some "NoneType"
 | .bl _=>some "bool"
 | .int _=>some "int"
 | .str _=>some "str"
 | .tup _=>some "tuple"
 | .lst _=>some "list"
 | .scr _=>none
 | .dct _ _=>none
def wR (i b t l s:Bool)(Ty:String):Option Bool:=match Ty with
 | "int" =>some i | "bool" =>some b | "tuple" =>some t | "list" =>some l | "str" =>some s
 | _=>none
def zX (n Ty:String):Option Bool:=match n with
 | "NoneType" =>wR false false false false false Ty
 | "bool" =>wR true true false false false Ty
 | "int" =>wR true false false false false Ty
 | "str" =>wR false false false false true Ty
 | "tuple" =>wR false false true false false Ty
 | "list" =>wR false false false true false Ty
 | _=>none
theorem Ba (K:N6){n Ty:String}{b:Bool}(h:zX n Ty=some b):PySem.W.kitOne K (.type n) (.type Ty)=some b:=by
 unfold zX at h
 split at h <;> first | (cases h;done) | (unfold wR at h;split at h <;> first | (cases h;done) | (cases h;kernel_rfl))
def Gz (Ty:String)(t:T):Rs T:=match t.ty with
 | some n=>match zX n Ty with
  | some b=> .ok (.bl b)
  | none=> .bad
 | none=> .bad
theorem Rep.N5 {K:N6}{O:Ow}{H:Hp}{t:T}{v:V}{n:String}(r:Rep K O H t v)(h:t.ty=some n):nr K H v (.type n):=by
 cases t with
 | non=>cases h;cases Rep.M6.mp r;exact .non
 | bl b=>cases h;cases Rep.FM.mp r;exact .bl b
 | int b=>cases h;cases Rep.AC.mp r;exact .int b
 | str b=>cases h;cases Rep.IR.mp r;exact .str b
 | tup l=>cases h;obtain⟨a,vs,rfl,_,q,_⟩:=Rep.Fk.mp r;exact .tup q
 | lst l=>cases h;obtain⟨a,vs,rfl,_,q,_⟩:=Rep.Do.mp r;exact .lst q
 | scr l=>cases h
 | dct _ _=>cases h
section
variable {X:Cx}{a b c e:Expr}{es:List Expr}{fa fb fc:En->Rs T}{fs:En->Rs (List T)}{pos p p2:Pos}{x:Str}
theorem gy:Pb "isinstance" =some (.builtin "isinstance"):=by decide+kernel
theorem Ls {tn:Str}{Ty:String}(hm:X.mg "isinstance" =none)(hmt:X.mg tn=none)(hv:Pb tn=some (.type Ty))(ha:c8 X a fa)(hg:Gl X "isinstance":=by rfl)(hgt:Gl X tn:=by rfl)
  (hn:autoParam (tn≠ "__name__") s_) (hd:autoParam ((tn == ("__debug__" : Str))=false) s_)
  (he:Oy [a,.Name tn p2] X.env=(false,eval a X.env)::Oy [.Name tn p2] X.env:=by rfl) (hpl:(backTo pos (Oy [.Name tn p2] X.env)).any (·.1)=false:=by rfl)
  (hs:Oy [.Name tn p2] X.env=(false,eval (.Name tn p2) X.env)::Oy [] X.env:=by rfl) :
  c8 X (.Call (.Name "isinstance" p) [a,.Name tn p2] [] pos) (o1 (Gz Ty) fa):=by
 intro pins s σ H Q I ⟨Z,O,E,hq⟩;refine Pc (fg I hg hm gy ?_ (by decide) (by decide))
 have hA:PA X [a,.Name tn p2] (hZ (tP X fa) (hZ (tC (.ty Ty)) sZ)):=bF ha (bF (zB (v:=.ty Ty) hgt hmt hv rfl hn hd) dQ hs) he;obtain⟨Z1,O1,E1,h1⟩:=br E hq;refine QC (cL (hA pos pins s σ H (λvs H'=> ∃v t,vs= [v,.ty Ty]/\Rep X.K O H' t v/\Post X H' (Gz Ty t) (λt H'=> ∀v,Rep X.K O H' t v->Q v H')) I ?_) λus s1 ⟨vs,H1,I1,r1,v,t,e1,rt,q⟩=> ?_) he hpl
 ·refine⟨Z1,O1,E1,Post.mono h1 λts H1 s1 q vs r=> ?_⟩
  obtain⟨t',r',s',E',q'⟩:=q vs r;exact⟨vs,t',rfl,r',q'⟩
 ·subst e1
  obtain⟨u,w',rfl,ru,rw'⟩:=zc r1;cases rw';unfold Gz at q
  split at q
  ·rename_i n hn'
   split at q
   ·rename_i bb hb
    exact A9 I1 ru (rt.N5 hn') (Ba _ hb) λtk=>⟨.bl bb,H1,I1.tok _,rfl,q H1 (Same.refl H1) _ (Rep.bl_ _)⟩
   ·exact q.elim
  ·exact q.elim
def spP (K:N6)(n:Nat)(g:List T->Rs T):Sp:=λvs H Q _=> ∃ts O,Reps K O H ts vs/\(∀a,O a->Mtb H a)/\ts.length=n ∧
 match g ts with
 | .ok t=> ∀v H',Same H H'->Rep K O H' t v->Q v H'
 | _=>False
def RzC (P:OH)(w:Px)(mg:Str->Option Oa)(outer:List Env)(H:Hp)(s:Od)(c:Str)(ev:Oa)(s':Od):Prop:=
 ∃e T C H',ev= .ref e/\mg c=some (.ref C)/\s'.os=s.os/\Rk s'.gens/\Un (kF outer) [] H H' s.heap s'.heap/\HOk P w H' s'.heap/\Same H H'/\H' e=none/\s.heap.get? e=none/\MK s'.heap C e (some T)/\H' T=none/\s.heap.get? T=none
def FnX (P:OH)(w:Px)(K:N6)(mg:Str->Option Oa)(base:Heap)(k:Nat)(f:Addr)(fd:PV)(ps:List Str)(n:Nat)(g:List T->Rs T):Prop:=
 ∀(A:OV) (outer:List Env) (s:Od) (H:Hp) (args:Args) (us:List Oa) (vs:List V) (O:Ow) (ts:List T) (c:Str) (R:Xj->Od->Prop),Room k A->Env0 P w K mg base A outer s H->Vp s fd args (ps.zip us)->Vals vs us →
  Reps K O H ts vs->(∀a,O a->Mtb H a)->ts.length=n->g ts= .err c->(∀ev s',RzC P w mg outer H s c ev s'->R (.error ev) s')->codeAny (model P w) A (.call (.ref f) args) R s
structure BK (P:OH)(w:Px)(K:N6)(mg:Str->Option Oa)(base:Heap)(k:Nat)(f:Addr)(fd:PV)(ps:List Str)(n:Nat)(g:List T->Rs T):Prop where
 h:rB P w K mg base CX0 k f fd ps (spP K n g)
 x:FnX P w K mg base k f fd ps n g
theorem C3 {P:OH}{w:Px}{H:Hp}{h:Heap}{a:Addr}{o:HO}(x:ObjOk P w H h a o):∃u,h.get? a=some u:=by
 cases o with
 | lst xs=>obtain⟨_,_,_,_,e⟩:=x;exact⟨_,e⟩
 | tup xs=>obtain⟨_,_,_,ob,e,_⟩:=x;exact⟨_,e⟩
 | dK kvs=>obtain⟨_,_,_,_,o,_,_,e,_⟩:=x;exact⟨_,e⟩
 | dT kvs=>obtain⟨_,_,_,_,o,_,_,e,_⟩:=x;exact⟨_,e⟩
 | set S n=>obtain⟨o,_,_,_,e,_⟩:=x;exact⟨_,e⟩
 | ins C dx fs=>obtain⟨_,_,_,e,_⟩:=x;exact⟨_,e⟩
 | own y=>obtain⟨_,e⟩:=x;exact⟨_,e⟩
 | xd fs=>obtain⟨_,⟨_,_,_,e,_⟩,_⟩:=x;exact⟨_,e⟩
 | rng lo hi=>obtain⟨_,_,_,e⟩:=x;exact⟨_,e⟩
 | frz ob u=>obtain⟨e,_⟩:=x;exact⟨_,e⟩
 | tbl q=>obtain⟨_,e,_⟩:=x;exact⟨_,e⟩
 | met f y=>exact⟨_,(show h.get? a=some _ from x)⟩
 | ext φ=>obtain⟨_,⟨_,e⟩,_⟩:=x;exact⟨_,e⟩
theorem pY {X:Cx}{pins:List (Addr×Obj)}{σ:L2.St}{H:Hp}{s:Od}(I:Inv X pins σ H s){e:Addr}(n:s.heap.get? e=none):H e=none:=by
 cases z:H e with
 | none=>rfl
 | some o=>
  obtain⟨o',ho'⟩:=C3 (I.hok e o z);rw[n]at ho';cases ho'
theorem lr {X:Cx}{pins:List (Addr×Obj)}{σ:L2.St}{H:Hp}{s:Od}(I:Inv X pins σ H s)(hex:X.ex= []){e:Addr}(n:s.heap.get? e=none):X.s₀.heap.get? e=none:=by
 cases z:X.s₀.heap.get? e with
 | none=>rfl
 | some o=>
  obtain⟨o',ho'⟩:=I.base.there e o z (by rw[hex];simp)
  rw[n]at ho';cases ho'
theorem Jd {n k:Nat}{f:Addr}{fd:PV}{ps:List Str}{g:List T->Rs T}(F:BK X.prog X.w X.K X.mg X.base k f fd ps n g)(hr:Room k X.A)(hm:X.mg x=some (.ref f))(hk:Qw X.K (.ref f)=true)(hb:Binds X.K fd ps [])(hps:ps.length=n)
  (hl:∀Z ts,fs Z= .ok ts->ts.length=n) (ha:qS X (e::es) fs) (hg:Gl X x:=by rfl) (hdb:autoParam ((x == ("__debug__" : Str))=false) s_) (he:Oy (e::es) X.env=(false,eval e X.env)::Oy es X.env:=by rfl) (hpl:(backTo pos (Oy es X.env)).any (·.1)=false:=by rfl) :
  c8 X (.Call (.Name x p) (e::es) [] pos) (cl g fs):=by
 intro pins s σ H Q I ⟨Z,O,E,hq⟩
 have hq':Post X H (fs Z >>= g) λt H'=> ∀v,Rep X.K O H' t v->Q v H':=hq
 cases q:fs Z with
 | bad=>rw[q]at hq';exact hq'.elim
 | err c=>
  rw[q]at hq';refine zy (E:=E0) F.h hr hg hm hk hb .nil zC ha hdb he hpl pins s σ H Q I ⟨Z,O,E,?_⟩
  rw[q]
  exact hq'
 | ok ts=>
  rw[q]at hq'
  have hq2:Post X H (g ts) λt H'=> ∀v,Rep X.K O H' t v->Q v H':=hq'
  cases q2:g ts with
  | bad=>rw[q2]at hq2;exact hq2.elim
  | ok t=>
   rw[q2]at hq2;refine zy (E:=E0) F.h hr hg hm hk hb .nil zC ha hdb he hpl pins s σ H Q I ⟨Z,O,E,?_⟩
   rw[q];intro H1 s1 vs rs;rw[Pz];refine⟨ts,O,rs,(E.same s1).mtb,hl Z ts q,?_⟩
   rw[q2]
   exact λv H' s2 r=>hq2 H' (s1.trans s2) v r
  | err c=>
   rw[q2]at hq2;refine Pc (jd I hg hm ?_ hdb)
   refine Sf (h₀:=X.base) I.ok.mod.kin hk (cL (ha pos pins s σ H (λvs H'=>Same H H'/\Reps X.K O H' ts vs) I ⟨Z,O,E,?_⟩) (λus s1 ⟨vs,H1,I1,r,sm,rs⟩=>⟨I1.kIn,?_⟩)) he hpl
   ·rw[q];exact λH' sm vs rs=>⟨sm,rs⟩
   ·have hlen:us.length=ps.length:=by rw[<-r.length,<-rs.length,hl Z ts q,hps]
    have hb':=hb s1 us I1.kIn (by rw[Pz];exact hlen)
    rw[Pz]at hb';refine UX (Sb (F.x X.A X.stack s1 H1 ⟨us,[]⟩ us vs O ts c (λr s'=>match r with | .error ev=>X.xe ev s' | _=>False) hr I1.Np hb' r rs (E.same sm).mtb (hl Z ts q) q2 λev s' w=> ?_) λr s' hq=> ?_)
    ·obtain⟨ea,T,C,H',rfl,hmc,ho,hbare,hun,hok,sm2,hea,heo,fl,hT,hTo⟩:=w
     have I2:Inv X pins σ H' s':=I1.Nu ho hun hok hbare (λb z=>absurd z (by simp))
     exact hq2 pins _ _ ⟨ea,some T,C,σ,H',rfl,hmc,I2,λb o q _=>sm2 b o (sm b o q),hea,λhex=>lr I1 hex heo,fl,(λt zt=>by cases zt;exact⟨hT,λhex=>lr I1 hex hTo⟩),λpp hpp=>⟨λzz=>(by have:=(I1.pin pp hpp).1;rw[zz,heo]at this;cases this),λzz=>(by cases zz;have:=(I1.pin pp hpp).1;rw[hTo]at this;cases this)⟩⟩
    ·cases r with
     | error ev=>exact hq
     | ok fl=>exact hq.elim
def B0 (X:Cx)(g:T->En->Rs En):TG:=λv σ H Q=> ∃Z O M t,EnvM X.K O M H Z σ/\Rep X.K O H t v/\match g t Z with
 | .ok Z'=> ∀σ',EnvM X.K O M H Z' σ'->Q σ' H
 | _=>False
abbrev EO (X:Cx)(tg:Expr)(g:T->En->Rs En):Prop:=PG X tg (B0 X g)
def tPGs (X:Cx)(g:List T->En->Rs En):G6:=λvs σ H Q=> ∃Z O M ts,EnvM X.K O M H Z σ/\Reps X.K O H ts vs/\match g ts Z with
 | .ok Z'=> ∀σ',EnvM X.K O M H Z' σ'->Q σ' H
 | _=>False
abbrev EK (X:Cx)(tg:List Expr)(g:List T->En->Rs En):Prop:=PGs X tg (tPGs X g)
theorem PG.imp {X:Cx}{e:Expr}{t t':TG}(h:PG X e t)(w:∀v σ H Q,t' v σ H Q->t v σ H Q):PG X e t':=λpins s σ H v u Q I r q=>h pins s σ H v u Q I r (w v σ H Q q)
theorem PGs.imp {X:Cx}{e:List Expr}{t t':G6}(h:PGs X e t)(w:∀v σ H Q,t' v σ H Q->t v σ H Q):PGs X e t':=λpins s σ H v u Q I r q=>h pins s σ H v u Q I r (w v σ H Q q)
def gN (i:Nat)(t:T)(Z:En):Rs En:=if i<Z.length then .ok (Z.set i (.va t))else .bad
theorem EnvM.set {K:N6}{O:Ow}{M:Mn}{H:Hp}{Z:En}{σ:L2.St}{i:Nat}{t:T}{v:V}(E:EnvM K O M H Z σ)(hi:i<Z.length)(r:Rep K O H t v):EnvM K O M H (Z.set i (.va t)) (σ.set i (some v)) where
 len:=by rw[P5,P5];exact E.len
 val:=λj u e=>by
  by_cases hj:i=j
  ·subst hj
   rw[OW hi]at e
   cases e;exact⟨v,OW (by rw[<-E.len];exact hi),r⟩
  ·rw[O4 hj]at e
   obtain⟨w,e1,e2⟩:=E.val j u e;exact⟨w,by rw[O4 hj];exact e1,e2⟩
 own:=λj o e=>by
  by_cases hj:i=j
  ·subst hj
   rw[OW hi]at e
   cases e
  ·rw[O4 hj]at e
   obtain⟨w,e1,e2⟩:=E.own j o e;exact⟨w,by rw[O4 hj];exact e1,e2⟩
 sub:=E.sub
 dis:=E.dis
 trk:=E.trk
theorem FP (i:Nat)(hN:X.N.Nodup)(hi:X.N[i]? =some x:=by rfl)(hx:autoParam (Loc X.env.scope x) x_)(hf:autoParam (X.fn x=true\/X.env.scope.names.lookup x=some .local) r_):EO X (.Name x pos) (gN i):=
 PG.imp (F4 hN hi hx hf) λv σ H Q hh_=>by
  obtain⟨Z,O,M,t,E,r,h⟩:=hh_;unfold gN at h
  split at h
  ·rename_i Z' e
   split at e
   ·rename_i hl
    cases e;exact h _ (E.set hl r)
   ·cases e
  ·exact h.elim
def u7 (ts:List T)(Z:En):Rs En:=match ts with
 | [] => .ok Z
 | _=> .bad
def iX (g:T->En->Rs En)(gs:List T->En->Rs En)(ts:List T)(Z:En):Rs En:=match ts with
 | t::r=>do
  let Z1 <-g t Z
  gs r Z1
 | [] => .bad
theorem FO:EK X [] u7:=PGs.imp F3 λvs σ H Q hh_=>by
 obtain⟨Z,O,M,ts,E,r,h⟩:=hh_;unfold u7 at h
 cases ts with
 | nil=>exact⟨Reps.Da.mp r,h σ E⟩
 | cons _ _=>exact h.elim
theorem Ct {g:T->En->Rs En}{gs:List T->En->Rs En}(h1:EO X e g)(h2:EK X es gs)
  (hs:(Qu (e::es) X.env).map (·.2)=assign e X.env::(Qu es X.env).map (·.2):=by rfl):EK X (e::es) (iX g gs):=
 PGs.imp (CK h1 h2 hs) λvs σ H Q hh_=>by
  obtain⟨Z,O,M,ts,E,r,h⟩:=hh_
  cases ts with
  | nil=>exact h.elim
  | cons t ts=>
   obtain⟨v,ws,rfl,p,q⟩:=Reps.me.mp r;refine⟨v,ws,rfl,Z,O,M,t,E,p,?_⟩
   unfold iX at h
   cases e1:g t Z with
   | bad=>simp[e1]at h
   | err c=>simp[e1]at h
   | ok Z1=>
    intro σ1 E1;refine⟨Z1,O,M,ts,E1,q,?_⟩
    simp only[e1,aH]at h
    cases e2:gs ts Z1 with
    | bad=>simp[e2]at h
    | err c=>simp[e2]at h
    | ok Z2=>
     simp only[e2]at h;exact λσ2 E2=>h σ2 E2
def gT (n:Nat)(gs:List T->En->Rs En)(t:T)(Z:En):Rs En:=match t with
 | .tup l=>if l.length=n then gs l Z else .bad
 | _=> .bad
theorem IZ {k n:Nat}{gs:List T->En->Rs En}(hc:X.calm=true)(h:EK X es gs)(hn:(Qu es X.env).length=n:=by rfl)(hst:(Qu es X.env).findIdx? (·.1)=none:=by rfl):EO X (.Tuple es k pos) (gT n gs):=
 PG.imp (Jk hc h hn hst) λv σ H Q hh_=>by
  obtain⟨Z,O,M,t,E,r,h⟩:=hh_;unfold gT at h
  cases t with
  | tup l=>
   obtain⟨a,vs,rfl,n',q,z⟩:=Rep.Fk.mp r
   by_cases hl:l.length=n
   ·simp only[if_pos hl]at h
    exact⟨a,vs,rfl,SqT.of q,by rw[<-z.length];exact hl,Z,O,M,l,E,z,h⟩
   ·simp only[if_neg hl]at h
  | _=>exact h.elim
theorem SqL.nn {K:N6}{H:Hp}{a:Addr}{vs:List V}(q:SqL K H a vs):¬ Nw K H a:=λ⟨h1,h2⟩=>by
 rcases q with(q | ⟨o,q⟩) | ⟨o,_,_,q,_⟩
 ·rw[h1]at q;cases q
 ·rw[h1]at q;cases q
 ·rw[h2]at q;cases q
mutual
theorem Rep.more {K:N6}{O O':Ow}{H:Hp}(sub:∀a,O' a->O a\/Nw K H a):∀{t:T} {v:V},Rep K O H t v->Rep K O' H t v
 | .non,_,r=>by unfold Rep at r ⊢;exact r
 | .bl _,_,r=>by unfold Rep at r ⊢;exact r
 | .int _,_,r=>by unfold Rep at r ⊢;exact r
 | .str _,_,r=>by unfold Rep at r ⊢;exact r
 | .tup l,_,r=>by
  unfold Rep at r ⊢;obtain⟨a,vs,e,n,q,z⟩:=r
  exact⟨a,vs,e,λp=>(sub a p).elim n λw=>(by rw[w.1]at q;cases q),q,Reps.more sub z⟩
 | .lst l,_,r=>by
  unfold Rep at r ⊢;obtain⟨a,vs,e,n,q,z⟩:=r
  exact⟨a,vs,e,λp=>(sub a p).elim n λw=>(by rw[w.1]at q;cases q),q,Reps.more sub z⟩
 | .scr l,_,r=>by
  unfold Rep at r ⊢;obtain⟨a,e,n,q⟩:=r
  exact⟨a,e,λp=>(sub a p).elim n λw=>Tr.SqL.nn q w,q⟩
 | .dct ks ts,_,r=>by
  unfold Rep at r ⊢;obtain⟨a,kvs,e,n,q,k,z⟩:=r;exact⟨a,kvs,e,λp=>(sub a p).elim n λw=>(by rcases q with q | ⟨_,q⟩ <;> rw[w.1]at q <;> cases q),q,k,Reps.more sub z⟩
theorem Reps.more {K:N6}{O O':Ow}{H:Hp}(sub:∀a,O' a->O a\/Nw K H a):∀{l:List T} {vs:List V},Reps K O H l vs->Reps K O' H l vs
 | [],_,r=>by unfold Reps at r ⊢;exact r
 | t::l,_,r=>by
  unfold Reps at r ⊢;obtain⟨v,ws,e,p,q⟩:=r;exact⟨v,ws,e,Rep.more sub p,Reps.more sub q⟩
end
theorem Rep.move {K:N6}{O O' P:Ow}{H H':Hp}{t:T}{v:V}(hP:∀a,P a->O a\/Nw K H a)(hO:∀a,O' a->O a\/Nw K H a)(h:SameO P H H')(r:Rep K O H t v):Rep K O' H' t v:=
 Rep.less (O:=λa=>O' a\/P a) (λ_ z=> .inl z) (Rep.keep h (λ_ z=> .inr z) (Rep.more (λa z=>z.elim (hO a) (hP a)) r))
theorem Reps.move {K:N6}{O O' P:Ow}{H H':Hp}{t:List T}{v:List V}(hP:∀a,P a->O a\/Nw K H a)(hO:∀a,O' a->O a\/Nw K H a)(h:SameO P H H')(r:Reps K O H t v):Reps K O' H' t v:=
 Reps.less (O:=λa=>O' a\/P a) (λ_ z=> .inl z) (Reps.keep h (λ_ z=> .inr z) (Reps.more (λa z=>z.elim (hO a) (hP a)) r))
def MJ (K:N6)(O:Ow)(H:Hp)(ts:List T)(J:It):Prop:=∀(P O':Ow),(∀a,P a->O a\/Nw K H a)->(∀a,O' a->O a\/Nw K H a)->∀(i:Nat) (Hc:Hp),SameO P H Hc->(∀a,O' a->∃o,Hc a=some o) →
 (ts.length<=i->J.stop i Hc)/\(∀t,ts[i]? =some t->J.go i Hc/\∀x Hc',J.yld i Hc x Hc'->Same Hc Hc'/\Rep K O' Hc' t x)
def MO (X:Cx)(f:En->Rs (List T)):TI:=λσ H R=> ∃Z O,EnvO X.K O H Z σ/\Post X H (f Z) λts H'=> ∀J,MJ X.K O H' ts J->R J H'
abbrev BB (X:Cx)(tg iter:Expr)(f:En->Rs (List T)):Prop:=PI X tg iter (MO X f)
theorem PI.imp {tg iter:Expr}{t t':TI}(h:PI X tg iter t)(w:∀σ H R,t' σ H R->t σ H R):PI X tg iter t':=λpins s σ H R I q=>h pins s σ H R I (w σ H R q)
def iL (f:En->Rs T)(Z:En):Rs (List T):=do
 let x <-f Z
 match x with
 | .lst l=> .ok l
 | _=> .bad
def iT (f:En->Rs T)(Z:En):Rs (List T):=do
 let x <-f Z
 match x with
 | .tup l=> .ok l
 | _=> .bad
theorem zm {tg:Expr}(ha:c8 X a fa):BB X tg a (iL fa):=PI.imp (F1 ha) λσ H R hh_=>by
 obtain⟨Z,O,E,h⟩:=hh_;obtain⟨Z1,O1,E1,h1⟩:=br E h;refine⟨Z1,O1,E1,Post.mono h1 λts H1 s1 q vs r=> ?_⟩
 obtain⟨t',r',s',E',q'⟩:=q vs r
 split at q'
 ·rename_i l
  obtain⟨a,ws,rfl,n,q,z⟩:=Rep.Do.mp r';refine⟨a,rfl,⟨ws,SqL.of q⟩,q' H1 (Same.refl H1) _ λP O' hP hO i Hc hs ht=> ?_⟩
  have hnP:¬ P a:=λz=>(hP a z).elim n λw=>by rw[w.1]at q;cases q
  refine⟨λhi=>⟨ws,SqL.of (hs _ _ q hnP),by rw[<-z.length];exact hi⟩,λt ht'=> ?_⟩
  obtain⟨v,e1,e2⟩:=z.get ht';refine⟨⟨ws,v,SqL.of (hs _ _ q hnP),e1⟩,λx Hc' y=> ?_⟩
  obtain⟨e,y⟩:=y;subst e
  have:=y ws (SqL.of (hs _ _ q hnP));rw[e1]at this;cases this;exact⟨Same.refl _,e2.move hP hO hs⟩
 ·exact q'.elim
theorem IX {tg:Expr}(ha:c8 X a fa):BB X tg a (iT fa):=PI.imp (Jj ha) λσ H R hh_=>by
 obtain⟨Z,O,E,h⟩:=hh_;obtain⟨Z1,O1,E1,h1⟩:=br E h;refine⟨Z1,O1,E1,Post.mono h1 λts H1 s1 q vs r=> ?_⟩
 obtain⟨t',r',s',E',q'⟩:=q vs r
 split at q'
 ·rename_i l
  obtain⟨a,ws,rfl,n,q,z⟩:=Rep.Fk.mp r';refine⟨a,rfl,⟨ws,SqT.of q⟩,q' H1 (Same.refl H1) _ λP O' hP hO i Hc hs ht=> ?_⟩
  have hnP:¬ P a:=λz=>(hP a z).elim n λw=>by rw[w.1]at q;cases q
  refine⟨λhi=>⟨ws,SqT.of (hs _ _ q hnP),by rw[<-z.length];exact hi⟩,λt ht'=> ?_⟩
  obtain⟨v,e1,e2⟩:=z.get ht';refine⟨⟨ws,v,SqT.of (hs _ _ q hnP),e1⟩,λx Hc' y=> ?_⟩
  obtain⟨e,y⟩:=y;subst e
  have:=y ws (SqT.of (hs _ _ q hnP));rw[e1]at this;cases this;exact⟨Same.refl _,e2.move hP hO hs⟩
 ·exact q'.elim
def rng (lo hi:Int):List T:=(On (hi - lo).toNat).map λ(k:Nat)=>T.int (lo+(k:Int))
def mf (i:Int):Bool:=decide (-(2 ^ 62)<=i)&&decide (i<2 ^ 62)
def iR (f:En->Rs (List T))(Z:En):Rs (List T):=do
 let x <-f Z
 match x with
 | [.int j] =>if mf j then .ok (rng 0 j)else .bad
 | [.int i,.int j] =>if mf i&&mf j then .ok (rng i j)else .bad
 | _=> .bad
theorem fE {i:Int}(h:mf i=true) : -(2 ^ 62)<=i/\i<2 ^ 62:=by
 unfold mf at h;rw[N9]at h;exact⟨of_decide_eq_true h.1,of_decide_eq_true h.2⟩
theorem oC {K:N6}{O:Ow}{H:Hp}(lo hi:Int):MJ K O H (rng lo hi) (Itr lo (hi - lo).toNat):=λP O' hP hO i Hc hs ht=>by
 refine⟨λh=> ?_,λt h=> ?_⟩
 ·show(hi - lo).toNat<=i
  unfold rng at h;rw[Ob,OU]at h;exact h
 ·unfold rng at h
  rw[Ov]at h
  by_cases hi':i<(hi - lo).toNat
  ·rw[Qs hi']at h
   cases h;refine⟨hi',λx Hc' y=> ?_⟩
   obtain⟨e,y⟩:=y;subst e y;exact⟨Same.refl _,Rep.GE _⟩
  ·rw[PP (by simpa using hi')]at h
   cases h
theorem AK {tg:Expr}(hm:X.mg "range" =none)(ha:qS X [a] fs)(hg:Gl X "range":=by rfl)(hs:Oy [a] X.env= [(false,eval a X.env)]:=by rfl):BB X tg (.Call (.Name "range" p) [a] [] pos) (iR fs):=by
 intro pins s σ H R I ⟨Z,O,E,h⟩
 have h1:=eF E h;refine Call_ (fg I hg hm boot_range (Pa (cL (ha pos pins s σ H _ I h1) λus s1 ⟨vs,H1,I1,r1,ts,rs,s',E',q1⟩=> ?_) hs rfl))
 split at q1
 ·obtain⟨v,rfl,r⟩:=rs.one
  split at q1
  ·rename_i j hj
   obtain⟨b1,b2⟩:=fE hj;cases Rep.AC.mp r
   cases r1 with
   | cons r rr=>
    cases rr;obtain⟨t,rfl⟩:=r;exact WA (lP I1 (by omega) (by omega) b1 b2 (q1 H1 (Same.refl H1) _ (oC 0 j)))
  ·exact q1.elim
 ·obtain⟨v,ws,rfl,p1,q⟩:=Reps.me.mp rs
  obtain⟨v2,rfl,r⟩:=q.one
  split at q1
  ·rename_i i j hj
   rw[N9]at hj;obtain⟨b1,b2⟩:=fE hj.1;obtain⟨b3,b4⟩:=fE hj.2;cases Rep.AC.mp p1;cases Rep.AC.mp r
   cases r1 with
   | cons r rr=>
    cases rr with
    | cons r' rr=>
     cases rr;obtain⟨t,rfl⟩:=r;obtain⟨t',rfl⟩:=r';exact WB (lP I1 b1 b2 b3 b4 (q1 H1 (Same.refl H1) _ (oC i j)))
  ·exact q1.elim
 ·exact q1.elim
theorem AJ {tg:Expr}(hm:X.mg "range" =none)(ha:qS X [a,b] fs)(hg:Gl X "range":=by rfl)(hs:Oy [a,b] X.env= [(false,eval a X.env),(false,eval b X.env)]:=by rfl)(hs2:Oy [b] X.env= [(false,eval b X.env)]:=by rfl) :
  BB X tg (.Call (.Name "range" p) [a,b] [] pos) (iR fs):=by
 intro pins s σ H R I ⟨Z,O,E,h⟩
 have h1:=eF E h;refine Call_ (fg I hg hm boot_range (Pa (cL (ha pos pins s σ H _ I h1) λus s1 ⟨vs,H1,I1,r1,ts,rs,s',E',q1⟩=> ?_) (by rw[hs,hs2]) (by rw[hs2];rfl)))
 split at q1
 ·obtain⟨v,rfl,r⟩:=rs.one
  split at q1
  ·rename_i j hj
   obtain⟨b1,b2⟩:=fE hj;cases Rep.AC.mp r
   cases r1 with
   | cons r rr=>
    cases rr;obtain⟨t,rfl⟩:=r;exact WA (lP I1 (by omega) (by omega) b1 b2 (q1 H1 (Same.refl H1) _ (oC 0 j)))
  ·exact q1.elim
 ·obtain⟨v,ws,rfl,p1,q⟩:=Reps.me.mp rs
  obtain⟨v2,rfl,r⟩:=q.one
  split at q1
  ·rename_i i j hj
   rw[N9]at hj;obtain⟨b1,b2⟩:=fE hj.1;obtain⟨b3,b4⟩:=fE hj.2;cases Rep.AC.mp p1;cases Rep.AC.mp r
   cases r1 with
   | cons r rr=>
    cases rr with
    | cons r' rr=>
     cases rr;obtain⟨t,rfl⟩:=r;obtain⟨t',rfl⟩:=r';exact WB (lP I1 b1 b2 b3 b4 (q1 H1 (Same.refl H1) _ (oC i j)))
  ·exact q1.elim
 ·exact q1.elim
end
section
variable {X:Cx}{a b c e:Expr}{es:List Expr}{fa fb fc:En->Rs T}{fs:En->Rs (List T)}{pos p p2:Pos}{x:Str}
def bU (src:List (Option Nat))(Z:En):En:=src.map λo=>match o with
 | some i=>match Z[i]? with
  | some (.va t)=> .va t
  | _=> .em
 | none=> .em
def eE (tgt:T->En->Rs En)(fc:En->Rs Bool)(fe:En->Rs T):List T->En->Rs (List T)
 | [],_=> .ok []
 | t::r,Z=>do
  let Z1 <-tgt t Z
  let k <-fc Z1
  if k then do
   let y <-fe Z1
   let ys <-eE tgt fc fe r Z1
   .ok (y::ys)
  else eE tgt fc fe r Z1
def d6 (fi:En->Rs (List T))(src:List (Option Nat))(tgt:T->En->Rs En)(fc:En->Rs Bool)(fe:En->Rs T)(Z:En):Rs T:=do
 let ts <-fi Z
 if ts.length<=sizeLine then match eE tgt fc fe ts (bU src Z)with
  | .ok ys=> .ok (.lst ys)
  | _=> .bad
 else .bad
def bT (_:En):Rs Bool:=.ok true
def tP0 (K:N6)(f:En->Rs T):TE:=λσ H Q=> ∃Z O,EnvO K O H Z σ/\match f Z with
 | .ok t=> ∀H',Same H H'->∀v,Rep K O H' t v->Q v H'
 | _=>False
def tPT0 (K:N6)(f:En->Rs Bool):TT:=λσ H Q=> ∃Z O,EnvO K O H Z σ/\match f Z with
 | .ok t=> ∀H',Same H H'->Q t H'
 | _=>False
theorem tP0.up {f:En->Rs T}{σ:L2.St}{H:Hp}{Q:VK}(h:tP0 X.K f σ H Q):tP X f σ H Q:=by
 obtain⟨Z,O,E,h⟩:=h;refine⟨Z,O,E,?_⟩
 cases q:f Z with
 | ok t=>rw[q]at h;exact h
 | err c=>rw[q]at h;exact h.elim
 | bad=>rw[q]at h;exact h.elim
theorem tPT0.up {f:En->Rs Bool}{σ:L2.St}{H:Hp}{Q:Bool->Hp->Prop}(h:tPT0 X.K f σ H Q):BZ X f σ H Q:=by
 obtain⟨Z,O,E,h⟩:=h;refine⟨Z,O,E,?_⟩
 cases q:f Z with
 | ok t=>rw[q]at h;exact h
 | err c=>rw[q]at h;exact h.elim
 | bad=>rw[q]at h;exact h.elim
theorem FL:BJ X [] (BZ X bT):=λpins s σ H Q I ⟨Z,O,E,h⟩=>tT pins s σ H Q I (h H (Same.refl H))
theorem FK {f:En->Rs Bool}(h:xw X c f):BJ X [c] (BZ X f):=FZ h
abbrev noM:Mn:=λ_ _=>False
theorem A2 {src:List (Option Nat)}{Z:En}{j:Nat}{o:OT}(e:(bU src Z)[j]? =some (.ow o)):False:=by
 unfold bU at e;rw[Ov]at e
 cases q:src[j]? with
 | none=>rw[q]at e;cases e
 | some o'=>
  rw[q]at e
  cases o' with
  | none=>cases e
  | some i=>
   have e':(match Z[i]? with | some (Sl.va t)=>Sl.va t | _=>Sl.em)=Sl.ow o:=OP e
   split at e' <;> cases e'
theorem wA {K:N6}{O:Ow}{H:Hp}{Z:En}{σ:L2.St}(E:EnvO K O H Z σ)(src:List (Option Nat)):EnvM K O noM H (bU src Z) (gG src σ) where
 len:=by unfold bU gG;rw[Ob,Ob]
 val:=λj t e=>by
  unfold bU at e;unfold gG;rw[Ov]at e ⊢
  cases q:src[j]? with
  | none=>rw[q]at e;cases e
  | some o=>
   rw[q]at e
   cases o with
   | none=>cases e
   | some i=>
    have e':(match Z[i]? with | some (Sl.va t)=>Sl.va t | _=>Sl.em)=Sl.va t:=OP e
    cases q2:Z[i]? with
    | none=>rw[q2]at e';cases e'
    | some z=>
     rw[q2]at e'
     cases z with
     | em=>cases e'
     | ow l=>cases e'
     | va t'=>
      cases e';obtain⟨v,e1,e2⟩:=E.val i _ q2;exact⟨v,by simp[e1],e2⟩
 own:=λj o e=>(A2 e).elim
 sub:=λ_ _ z=>z.elim
 dis:=λ_ _ _ z=>z.elim
 trk:=E.mtb
theorem ORep.no {K:N6}{O:Ow}{H:Hp}{o:OT}{v:V}(r:ORep K O zG H o v):False:=by
 cases o with
 | lst l=>obtain⟨a,_,_,e,_⟩:=r;exact(e a).mpr rfl
 | dct ks ts=>obtain⟨a,_,_,e,_⟩:=r;exact(e a).mpr rfl
 | dd ks rows=>obtain⟨a,_,_,_,e,_⟩:=r;exact(e a).mpr (.inl rfl)
theorem EnvM.move {K:N6}{O O' P:Ow}{H H':Hp}{Z:En}{σ:L2.St}(E:EnvM K O noM H Z σ)(hP:∀a,P a->O a\/Nw K H a)(hO:∀a,O' a->O a\/Nw K H a)(h:SameO P H H')(trk:∀a,O' a->Mtb H' a):EnvM K O' noM H' Z σ where
 len:=E.len
 val:=λi t e=>let ⟨v,e1,e2⟩:=E.val i t e;⟨v,e1,e2.move hP hO h⟩
 own:=λi o e=>let ⟨_,_,r⟩:=E.own i o e;r.no.elim
 sub:=λ_ _ z=>z.elim
 dis:=λ_ _ _ z=>z.elim
 trk:=trk
def KN (fi:En->Rs (List T))(src:List (Option Nat))(tgt:T->En->Rs En)(fc:En->Rs Bool)(fe:En->Rs T)(Z:En):Rs (List T):=fi Z >>= λts=>if ts.length<=sizeLine then(match eE tgt fc fe ts (bU src Z)with | .ok ys=>Rs.ok ys | _=> .bad)else .bad
theorem Dq {src:List (Option Nat)}{fi:En->Rs (List T)}{tgt:T->En->Rs En}{fc:En->Rs Bool}{fe:En->Rs T}{Z:En}:d6 fi src tgt fc fe Z=KN fi src tgt fc fe Z >>= λl=> .ok (.lst l):=by
 unfold d6 KN
 cases fi Z with
 | bad=>rfl
 | err c=>rfl
 | ok ts=>
  rw[aH,aH]
  by_cases hz:ts.length<=sizeLine
  ·rw[if_pos hz,if_pos hz]
   cases eE tgt fc fe ts (bU src Z) <;> rfl
  ·rw[if_neg hz,if_neg hz];rfl
theorem Dp {src:List (Option Nat)}{fi:En->Rs (List T)}{tgt:T->En->Rs En}{fc:En->Rs Bool}{fe:En->Rs T}{σ:L2.St}{H:Hp}{Q:VK}{Z:En}{O:Ow}(E:EnvO X.K O H Z σ)
  (hq1:Post X H (KN fi src tgt fc fe Z) λall H1=> ∀D ys H',Nw X.K H1 D->Same H1 H'->H' D=some (.lst ys)->Reps X.K (λa=>O a\/a=D) H' all ys->Q (.ref D) H'):Ik X.K (MO X fi) src (B0 X tgt) (tPT0 X.K fc) (tP0 X.K fe) σ H Q:=by
 unfold KN at hq1;refine⟨Z,O,E,Post.mono hq1.bind λts H1 s1 q1 J hJ D hD hK=> ?_⟩
 have E1:=E.same s1
 by_cases hz:ts.length<=sizeLine
 ·rw[if_pos hz]at q1
  cases hall:eE tgt fc fe ts (bU src Z)with
  | bad=>rw[hall]at q1;exact q1.elim
  | err c=>rw[hall]at q1;exact q1.elim
  | ok all=>
   rw[hall]at q1
   have q2:∀D ys H',Nw X.K H1 D->Same H1 H'->H' D=some (.lst ys)->Reps X.K (λa=>O a\/a=D) H' all ys->Q (.ref D) H':=q1 H1 (Same.refl H1)
   have nD:Nw X.K H1 D:=⟨hD,hK⟩
   let O':Ow:=λa=>O a\/a=D
   have subO:∀a,O' a->O a\/Nw X.K H1 a:=λa z=>z.elim .inl λw=> .inr (w▸nD)
   -- the walk's word
   refine⟨λi m σ' ys H'=>m=ts.length - i/\i<=ts.length/\ys.length<=i/\H' D=some (.lst ys)/\SameO (λa=>a=D) (upd H1 D (.lst [])) H' ∧
    ∃Z' yts zs,EnvM X.K O' noM H' Z' σ'/\Reps X.K O' H' yts ys/\eE tgt fc fe (ts.drop i) Z'= .ok zs/\yts++zs=all,⟨ts.length,?_⟩,?_⟩
   ·have sN:Same H1 (upd H1 D (.lst [])):=aQ hD _
    refine⟨by omega,Pj _,Ot _,aI,λb o e _=>e,bU src Z,[],all,?_,Reps.GM,by simpa using hall,rfl⟩
    have E2:EnvM X.K O noM H1 (bU src Z) (gG src σ):=wA E1 src
    exact E2.move (P:=λa=>a=D) (λa z=> .inr (z▸nD)) subO (λb o e _=>sN b o e) λa z=>by
     rcases z with z | z
     ·exact(E1.mtb a z).same sN
     ·rw[z];exact .inl ⟨_,aI⟩
   ·rintro i m σ' ys H' ⟨rfl,hi',hyl,hDl,hsm,Z',yts,zs,E',ry,hl,hyz⟩
    refine⟨hDl,?_⟩
    have sm1:SameO (λa=>a=D) H1 H':=λb o e nb=>hsm b o (by rw[aG nb];exact e) nb
    have it:=hJ (λa=>a=D) O' (λa z=> .inr (z▸nD)) subO i H' sm1 (λa z=>(E'.trk a z).some)
    by_cases hlt:i<ts.length
    ·refine .inr ?_
     have hti:ts[i]? =some ts[i]:=by simp
     obtain⟨go,yl⟩:=it.2 ts[i] hti;refine⟨go,by omega,λxx Hc y=> ?_⟩
     obtain⟨sc,rx⟩:=yl xx Hc y
     have Ec:=E'.same sc;rw[Qx hlt]at hl;unfold eE at hl;refine⟨Z',O',noM,ts[i],Ec,rx,?_⟩
     cases e1:tgt ts[i] Z' with
     | bad=>rw[e1]at hl;cases hl
     | err cc=>rw[e1]at hl;cases hl
     | ok Z1=>
      rw[e1,aH]at hl;intro σ1 Eg;refine⟨Z1,O',⟨noM,Eg⟩,?_⟩
      cases e2:fc Z1 with
      | bad=>rw[e2]at hl;cases hl
      | err cc=>rw[e2]at hl;cases hl
      | ok k=>
       rw[e2,aH]at hl;intro H3 s3
       have E3:=Eg.same s3
       have tot:Same H' H3:=sc.trans s3
       have D3:H3 D=some (.lst ys):=tot _ _ hDl
       have sm3:SameO (λa=>a=D) (upd H1 D (.lst [])) H3:=λb o e nb=>tot _ _ (hsm b o e nb)
       cases k with
       | false=>
        refine L2.iteF ?_
        have hl':eE tgt fc fe (ts.drop (i+1)) Z1= .ok zs:=by simpa using hl
        exact⟨ts.length - (i+1),by omega,rfl,hlt,by omega,D3,sm3,Z1,yts,zs,E3,ry.same tot,hl',hyz⟩
       | true=>
        refine L2.iteT ?_
        have hl':(fe Z1 >>= λy=>eE tgt fc fe (ts.drop (i+1)) Z1 >>= λys=>Rs.ok (y::ys))= .ok zs:=by simpa using hl
        refine⟨Z1,O',⟨noM,E3⟩,?_⟩
        cases e3:fe Z1 with
        | bad=>rw[e3]at hl';cases hl'
        | err cc=>rw[e3]at hl';cases hl'
        | ok yt=>
         rw[e3,aH]at hl'
         cases e4:eE tgt fc fe (ts.drop (i+1)) Z1 with
         | bad=>rw[e4]at hl';cases hl'
         | err cc=>rw[e4]at hl';cases hl'
         | ok zs'=>
          rw[e4,aH]at hl'
          have hzs:yt::zs'=zs:=by injection hl'
          intro H4 s4 v rv
          have D4:H4 D=some (.lst ys):=s4 _ _ D3
          have E4:=E3.same s4
          have tot4:Same H' H4:=tot.trans s4
          have smD:SameO (λa=>a=D) H4 (upd H4 D (.lst (ys++ [v]))):=λb o e nb=>by rw[aG nb];exact e
          have inO:∀a,a=D->O' a\/Nw X.K H4 a:=λa z=> .inl (.inr z)
          refine⟨D4,ts.length - (i+1),by omega,rfl,hlt,?_,aI,λb o e nb=>smD b o (s4 _ _ (sm3 b o e nb)) nb,Z1,yts++ [yt],zs',?_,?_,e4,?_⟩
          ·rw[Om,QH];omega
          ·exact E4.move inO (λa z=> .inl z) smD λaa z=>by
            by_cases hz:aa=D
            ·rw[hz];exact .inl ⟨_,aI⟩
            ·unfold Mtb;rw[aG hz];exact E4.trk aa z
          ·have r1:Reps X.K O' H4 (yts++ [yt]) (ys++ [v]):=(ry.same tot4).append (Reps.Gc rv Reps.GM)
           exact r1.move inO (λa z=> .inl z) smD
          ·rw[OS,List.singleton_append,hzs];exact hyz
    ·refine .inl ⟨it.1 (by omega),?_⟩
     have hi2:i=ts.length:=by omega
     subst hi2;rw[WJ]at hl
     have hzs:zs= []:=by unfold eE at hl;injection hl with hl;exact hl.symm
     subst hzs;rw[Pz]at hyz;subst hyz
     have sF:Same H1 H':=λb o e=>sm1 b o e λz=>by rw[z,hD]at e;cases e
     exact q2 D ys H' nD sF hDl ry
 ·rw[if_neg hz]at q1
  exact q1.elim
theorem zS {src:List (Option Nat)}{fi:En->Rs (List T)}{tgt:T->En->Rs En}{fc:En->Rs Bool}{fe:En->Rs T}{σ:L2.St}{H:Hp}{Q:VK}(h0:tP X (d6 fi src tgt fc fe) σ H Q):Ik X.K (MO X fi) src (B0 X tgt) (tPT0 X.K fc) (tP0 X.K fe) σ H Q:=by
 obtain⟨Z,O,E,hq⟩:=h0;refine Dp E ?_
 have e:d6 fi src tgt fc fe Z=KN fi src tgt fc fe Z >>= λl=> .ok (.lst l):=Dq
 rw[e]at hq
 cases q:KN fi src tgt fc fe Z with
 | bad=>rw[q]at hq;exact hq.elim
 | err c=>rw[q]at hq;exact hq
 | ok l=>
  rw[q,aH]at hq;intro H1 s1 D ys H' nD sD eD rD;exact hq H' (s1.trans sD) _ (Rep.Do.mpr ⟨D,ys,rfl,λz=>(E.same s1).fresh nD.1 z,eD,rD.less λa z=> .inl z⟩)
theorem q_lc {elt tg iter:Expr}{ifs:List Expr}{scope:RI}{N':List Str}{src:List (Option Nat)}{fi:En->Rs (List T)}{tgt:T->En->Rs En}{fc:En->Rs Bool}{fe:En->Rs T}
  (hc:X.calm=true) (S:LcScope X scope N' src) (hi:BB X tg iter fi)
  (block:∀cl C s₀ H₀ fp,EO (cA X scope cl N' C s₀ H₀ fp) tg tgt/\BJ (cA X scope cl N' C s₀ H₀ fp) ifs (BZ (cA X scope cl N' C s₀ H₀ fp) fc)/\c8 (cA X scope cl N' C s₀ H₀ fp) elt fe)
  (hs:autoParam (∀x,Ph iter X.env x=pure x) t_) :
  c8 X (.ListComp elt [⟨tg,iter,ifs,0⟩] scope pos) (d6 fi src tgt fc fe):=by
 have hPG:∀cl C s₀ H₀ fp,PG (cA X scope cl N' C s₀ H₀ fp) tg (B0 X tgt):=λcl C s₀ H₀ fp=>(block cl C s₀ H₀ fp).1
 have hPI:∀cl C s₀ H₀ fp,BJ (cA X scope cl N' C s₀ H₀ fp) ifs (tPT0 X.K fc):=λcl C s₀ H₀ fp pins s σ H Q I h=>(block cl C s₀ H₀ fp).2.1 pins s σ H Q I (tPT0.up (X:=cA X scope cl N' C s₀ H₀ fp) h)
 have hPE:∀cl C s₀ H₀ fp,PE (cA X scope cl N' C s₀ H₀ fp) elt (tP0 X.K fe):=λcl C s₀ H₀ fp pins s σ H Q I h=>(block cl C s₀ H₀ fp).2.2 pins s σ H Q I (tP0.up (X:=cA X scope cl N' C s₀ H₀ fp) h)
 exact PE.imp (vR (g:=B0 X tgt) (tc:=tPT0 X.K fc) (te:=tP0 X.K fe) hc S hi (λcl C s₀ H₀ fp=>⟨hPG cl C s₀ H₀ fp,hPI cl C s₀ H₀ fp,hPE cl C s₀ H₀ fp⟩) hs) λσ H Q h=>zS h
inductive Fl where
 | nx (Z:En) | rt (t:T) | bk (Z:En) | ct (Z:En)
def OO (B:Ow)(M:Mn):Ow:=λa=>B a\/M.u a
structure Ev (K:N6)(B:Ow)(M:Mn)(H:Hp)(Z:En)(σ:L2.St):Prop where
 env:EnvM K (OO B M) M H Z σ
 mine:∀a,M.u a->¬ B a
theorem Ev.same {K:N6}{B:Ow}{M:Mn}{H H':Hp}{Z:En}{σ:L2.St}(h:Same H H')(e:Ev K B M H Z σ):Ev K B M H' Z σ:=⟨e.env.same h,e.mine⟩
theorem Ev.o {K:N6}{B:Ow}{M:Mn}{H:Hp}{Z:En}{σ:L2.St}(e:Ev K B M H Z σ):EnvO K (OO B M) H Z σ:=⟨M,e.env⟩
def PostF (X:Cx)(B P:Ow)(H:Hp)(r:Rs Fl)(D:u6):Prop:=match r with
 | .ok (.nx Z')=> ∀σ' H' M',SameO P H H'->Ev X.K B M' H' Z' σ'->(∀a,M'.u a->P a\/Nw X.K H a)->D.nx σ' H'
 | .ok (.rt t)=> ∀v H',SameO P H H'->Rep X.K B H' t v->D.rt v H'
 | .ok (.bk Z')=> ∀σ' H' M',SameO P H H'->Ev X.K B M' H' Z' σ'->(∀a,M'.u a->P a\/Nw X.K H a)->D.bk σ' H'
 | .ok (.ct Z')=> ∀σ' H' M',SameO P H H'->Ev X.K B M' H' Z' σ'->(∀a,M'.u a->P a\/Nw X.K H a)->D.ct σ' H'
 | .err c=>XA X P H c
 | .bad=>False
def MN (X:Cx)(F:En->Rs Fl):TS:=λD σ H=> ∃Z B M,Ev X.K B M H Z σ/\PostF X B M.u H (F Z) D
abbrev qP (X:Cx)(s:Stmt)(F:En->Rs Fl):Prop:=PS X s (MN X F)
abbrev nt (X:Cx)(s:List Stmt)(F:En->Rs Fl):Prop:=PSs X s (MN X F)
theorem PostF.later {B P P1:Ow}{H H1:Hp}{r:Rs Fl}{D:u6}(h:PostF X B P H r D)(s:SameO P H H1)(sub:∀a,P1 a->P a\/Nw X.K H a):PostF X B P1 H1 r D:=by
 have back:∀a,P1 a\/Nw X.K H1 a->P a\/Nw X.K H a:=λa z=>z.elim (sub a) (i9 s)
 cases r with
 | bad=>exact h
 | err c=>exact XA.later h s sub
 | ok f=>
  cases f with
  | nx Z'=>exact λσ' H' M' s' E' o'=>h σ' H' M' (s.trans s' sub) E' λa z=>back a (o' a z)
  | rt t=>exact λv H' s' r=>h v H' (s.trans s' sub) r
  | bk Z'=>exact λσ' H' M' s' E' o'=>h σ' H' M' (s.trans s' sub) E' λa z=>back a (o' a z)
  | ct Z'=>exact λσ' H' M' s' E' o'=>h σ' H' M' (s.trans s' sub) E' λa z=>back a (o' a z)
theorem PostF.xa {B P:Ow}{H:Hp}{c:Str}{D:u6}(h:PostF X B P H (.err c) D):XA X zG H c:=XA.later (P:=P) h (λ_ _ e _=>e) λ_ z=>z.elim
def sN (Z:En):Rs Fl:=.ok (.nx Z)
def aD (F G:En->Rs Fl)(Z:En):Rs Fl:=do
 let f <-F Z
 match f with
 | .nx Z'=>G Z'
 | f=> .ok f
theorem IP:nt X [] sN:=PSs.imp zp λD σ H ⟨Z,B,M,E,h⟩=>h σ H M (λ_ _ e _=>e) E λa z=> .inl z
theorem FH {st:Stmt}{dv:List Stmt}{F G:En->Rs Fl}(h1:qP X st F)(h2:nt X dv G):nt X (st::dv) (aD F G):=PSs.imp (lQ h1 h2) λD σ H hh_=>by
 obtain⟨Z,B,M,E,h⟩:=hh_;refine⟨Z,B,M,E,?_⟩
 unfold aD at h
 cases q:F Z with
 | bad=>rw[q]at h;exact h.elim
 | err c=>rw[q]at h;exact h
 | ok f=>
  rw[q,aH]at h
  cases f with
  | nx Z'=>exact λσ' H' M' s' E' o'=>⟨Z',B,M',E',h.later s' o'⟩
  | rt t=>exact h
  | bk Z'=>exact h
  | ct Z'=>exact h
theorem IM {st:Stmt}{F:En->Rs Fl}(h:qP X st F):nt X [st] F:=gE h
def aW (f:En->Rs T)(Z:En):Rs Fl:=do
 let t <-f Z
 .ok (.rt t)
theorem IK (ha:c8 X a fa):qP X (.Return (some a) pos) (aW fa):=PS.imp (jJ ha) λD σ H hh_=>by
 obtain⟨Z,B,M,E,h⟩:=hh_;refine⟨Z,OO B M,E.o,?_⟩
 unfold aW at h
 cases q:fa Z with
 | bad=>rw[q]at h;exact h.elim
 | err c=>rw[q]at h;exact PostF.xa h
 | ok t=>
  rw[q,aH]at h;exact λH' s v r=>h v H' (SameO.of s) (r.less λ_ z=> .inl z)
def gD (f:En->Rs Bool)(F G:En->Rs Fl)(Z:En):Rs Fl:=do
 let k <-f Z
 if k then F Z else G Z
theorem Li {f:En->Rs Bool}{A B:List Stmt}{F G:En->Rs Fl}(hc:xw X c f)(ha:nt X A F)(hb:nt X B G):qP X (.If c A B pos) (gD f F G):=PS.imp (Hu hc ha hb) λD σ H hh_=>by
 obtain⟨Z,B,M,E,h⟩:=hh_;refine⟨Z,OO B M,E.o,?_⟩
 unfold gD at h
 cases q:f Z with
 | bad=>rw[q]at h;exact h.elim
 | err c=>rw[q]at h;exact PostF.xa h
 | ok k=>
  rw[q,aH]at h;intro H' s
  have E':Ev X.K B M H' Z σ:=E.same s
  cases k with
  | true=>refine L2.iteT ?_;exact⟨Z,B,M,E',PostF.later (by simpa using h) (SameO.of s) λa z=> .inl z⟩
  | false=>refine L2.iteF ?_;exact⟨Z,B,M,E',PostF.later (by simpa using h) (SameO.of s) λa z=> .inl z⟩
def cI (f:En->Rs T)(g:T->En->Rs En)(Z:En):Rs Fl:=do
 let t <-f Z
 match g t Z with
 | .ok Z'=> .ok (.nx Z')
 | _=> .bad
theorem Ca {B:Ow}{M:Mn}{Z:En}{σ:L2.St}{H:Hp}{D:u6}{g:T->En->Rs En}{f:En->Rs T}(E:Ev X.K B M H Z σ)(h:PostF X B M.u H (cI f g Z) D):B1 (tP X f) (B0 X g) D σ H:=by
 refine⟨Z,OO B M,E.o,?_⟩
 unfold cI at h
 cases q:f Z with
 | bad=>rw[q]at h;exact h.elim
 | err c=>rw[q]at h;exact PostF.xa h
 | ok t=>
  rw[q,aH]at h;intro H' s v r;refine⟨Z,OO B M,M,t,E.env.same s,r,?_⟩
  cases q2:g t Z with
  | bad=>rw[q2]at h;exact h.elim
  | err c=>rw[q2]at h;exact h.elim
  | ok Z'=>
   rw[q2]at h;exact λσ' E'=>h σ' H' M (SameO.of s) ⟨E',E.mine⟩ λa z=> .inl z
theorem Fc {f:En->Rs T}{σ:L2.St}{H:Hp}{Q Q':VK}(h:tP X f σ H Q)(w:∀v H',Q v H'->Q' v H'):tP X f σ H Q':=by
 obtain⟨Z,O,E,q⟩:=h;exact⟨Z,O,E,Post.mono q λt H' _ z v r=>w v H' (z v r)⟩
theorem Lh {elt tg iter:Expr}{ifs:List Expr}{scope:RI}{spos py:Pos}{N':List Str}{src:List (Option Nat)}{fi:En->Rs (List T)}{tgt:T->En->Rs En}{fc:En->Rs Bool}{fe:En->Rs T}(i:Nat){y:Str}
  (hc:X.calm=true) (S:LcScope X scope N' src) (hi:BB X tg iter fi)
  (block:∀cl C s₀ H₀ fp,EO (cA X scope cl N' C s₀ H₀ fp) tg tgt/\BJ (cA X scope cl N' C s₀ H₀ fp) ifs (BZ (cA X scope cl N' C s₀ H₀ fp) fc)/\c8 (cA X scope cl N' C s₀ H₀ fp) elt fe)
  (hN:X.N.Nodup) (hiy:X.N[i]? =some y:=by rfl) (hy:autoParam (Loc X.env.scope y) x_) (hsw:P6 (.ListComp elt [⟨tg,iter,ifs,0⟩] scope pos) (some (.Name y py)) spos.line X.env=pure true:=by rfl)
  (hf:autoParam (X.fn y=true\/X.env.scope.names.lookup y=some .local) r_) (hs:autoParam (∀x,Ph iter X.env x=pure x) t_) :
  qP X (.Assign [.Name y py] (.ListComp elt [⟨tg,iter,ifs,0⟩] scope pos) spos) (cI (d6 fi src tgt fc fe) (gN i)):=by
 have hPG:∀cl C s₀ H₀ fp,PG (cA X scope cl N' C s₀ H₀ fp) tg (B0 X tgt):=λcl C s₀ H₀ fp=>(block cl C s₀ H₀ fp).1
 have hPI:∀cl C s₀ H₀ fp,BJ (cA X scope cl N' C s₀ H₀ fp) ifs (tPT0 X.K fc):=λcl C s₀ H₀ fp pins s σ H Q I h=>(block cl C s₀ H₀ fp).2.1 pins s σ H Q I (tPT0.up (X:=cA X scope cl N' C s₀ H₀ fp) h)
 have hPE:∀cl C s₀ H₀ fp,PE (cA X scope cl N' C s₀ H₀ fp) elt (tP0 X.K fe):=λcl C s₀ H₀ fp pins s σ H Q I h=>(block cl C s₀ H₀ fp).2.2 pins s σ H Q I (tP0.up (X:=cA X scope cl N' C s₀ H₀ fp) h)
 refine PS.imp (Lz (g:=B0 X tgt) (tc:=tPT0 X.K fc) (te:=tP0 X.K fe) (i:=i) hc S hi (λcl C s₀ H₀ fp=>⟨hPG cl C s₀ H₀ fp,hPI cl C s₀ H₀ fp,hPE cl C s₀ H₀ fp⟩) hN hiy hy hsw hf hs) λD σ H ⟨Z,B,M,E,h⟩=>zS (Fc (Ca E h) λv H' z=> ?_)
 obtain⟨Z',O,M',t,E',r,q⟩:=z;unfold gN at q
 split at q
 ·rename_i Z2 e
  split at e
  ·rename_i hl
   cases e;exact q _ (E'.set hl r)
  ·cases e
 ·exact q.elim
theorem IV {tg:Expr}{g:T->En->Rs En}(ha:c8 X a fa)(hg:EO X tg g)(hs:VM [tg] a pos.line X.env=pure false:=by rfl)(hw:VN [tg] a X.env=pure none:=by rfl)
  (h1:(Qu [tg] X.env).map (·.2)= [assign tg X.env]:=by rfl):qP X (.Assign [tg] a pos) (cI fa g):=PS.imp (Jg ha hg hs hw h1) λD σ H ⟨Z,B,M,E,h⟩=>Ca E h
def xS (f:En->Rs T)(Z:En):Rs Fl:=do
 let _ <-f Z
 .ok (.nx Z)
theorem FG (ha:c8 X a fa)(hs:P6 a none pos.line X.env=pure false:=by rfl):qP X (.Expr a pos) (xS fa):=PS.imp (tS ha hs) λD σ H hh_=>by
 obtain⟨Z,B,M,E,h⟩:=hh_;refine⟨Z,OO B M,E.o,?_⟩
 unfold xS at h
 cases q:fa Z with
 | bad=>rw[q]at h;exact h.elim
 | err c=>rw[q]at h;exact PostF.xa h
 | ok t=>
  rw[q,aH]at h;exact λH' s v r=>h σ H' M (SameO.of s) (E.same s) λa z=> .inl z
def bD (g:T->En->Rs En)(F:En->Rs Fl):List T->En->Rs Fl
 | [],Z=> .ok (.nx Z)
 | t::r,Z=>do
  let Z1 <-g t Z
  let f <-F Z1
  match f with
  | .nx Z2=>bD g F r Z2
  | .ct Z2=>bD g F r Z2
  | .bk Z2=> .ok (.nx Z2)
  | .rt t=> .ok (.rt t)
def d7 (fi:En->Rs (List T))(g:T->En->Rs En)(F:En->Rs Fl)(Z:En):Rs Fl:=do
 let ts <-fi Z
 match bD g F ts Z with
 | .ok f=> .ok f
 | _=> .bad
theorem mU {α:Type}{t:Sem α}{Q:α->Od->Prop}{s:Od}{E:Oa->Od->Prop}{P:OH}{w:Px}{A:OV}(h:wpAny (model P w) A t Q (λ_ _=>False) s):wpAny (model P w) A t Q E s:=Qo h (λ_ _ q=>q) λ_ _ z=>z.elim
theorem FW {tg iter:Expr}{body:List Stmt}{wi:TI}{g:TG}{tb:TS}{pos:Pos}(hc:X.calm=true)(hi:PI X tg iter wi)(hg:PG X.nox tg g)(hb:PSs X.nox body tb)
  (hs:autoParam (∀x,Ph iter X.env x=pure x) t_):PS X (.For tg iter body [] pos) (tFor wi g tb):=by
 intro pins s σ H D I h;refine wpAny_For (cL (hi pins s σ H _ I h) λv s1 h1=>cL h1 λitv s2 h2=> ?_) hs
 obtain⟨it,fp,tn,J,H2,e,I2,T,st2,f2,W,⟨m0,w0⟩,turn⟩:=h2;subst e
 have stat:∀{H':Hp},(∀b∈fp,H' b=none)->∀b∈fp,qQ X pins H' b:=λhn b hb=>⟨hn b hb,(f2 b hb).2⟩
 refine codeAny_forLoop_any (λn s'=> ∃i σ' H',Inv X pins σ' H' s'/\tn i s'.heap/\(∀b∈fp,H' b=none)/\W i n σ' H') ?_ m0 ⟨0,σ,H2,I2,st2,λb hb=>(f2 b hb).1,w0⟩
 rintro n s3 ⟨i,σ3,H3,I3,st3,fr3,w3⟩
 rcases turn i n σ3 H3 w3 with⟨stop,qn⟩ | ⟨go,N,hN,step⟩
 ·refine mU (cL (T.done X.nox rfl rfl rfl hc i pins s3 σ3 H3 _ (I3.FB _) (stat fr3) st3 stop) λr s4 ⟨hr,I4⟩=> ?_)
  subst hr;exact Sk ⟨σ3,H3,I4.FB _,qn⟩
 ·refine mU (cL (T.item X.nox rfl rfl rfl hc i pins s3 σ3 H3 _ (I3.FB _) (stat fr3) st3 go) λr s4 ⟨u,hr,h4⟩=> ?_)
  subst hr;refine mU (cL h4 λ_ s5 hh_=> ?_)
  obtain⟨x,H5,I5,r5,y5,st5,fr5⟩:=hh_
  have I5':=Inv.pinned (X:=X.nox) I5 (stat fr5) (T.obj _ _ st5);refine mU (cL (hg _ s5 σ3 H5 x u _ I5' r5 (step x H5 y5)) λ_ s6 hh_=> ?_)
  obtain⟨σ6,H6,I6,q6⟩:=hh_;refine mU (cL (hb _ s6 σ6 H6 _ I6 q6) λf s7 q7=> ?_)
  have again:∀{σ7:L2.St} {H7:Hp},Inv X.nox (pins++pC fp s5.heap) σ7 H7 s7->N σ7 H7->∃m,m<n/\∃i σ' H',Inv X pins σ' H' s7/\tn i s7.heap/\(∀b∈fp,H' b=none)/\W i m σ' H':=λ{σ7 H7} I7 n7=>by
   obtain⟨m',hm,w7⟩:=hN σ7 H7 n7;refine⟨m',hm,i+1,σ7,H7,(Inv.M4 (X:=X.nox) I7).FB _,T.keep _ _ _ st5 λb hb o e=>(I7.pin (b,o) (OK _ (OK _ (ja hb e)))).1,λb hb=> ?_,w7⟩
   obtain⟨o,e,d⟩:=T.obj _ _ st5 b hb;exact(I7.pin (b,o) (OK _ (OK _ (ja hb e)))).2.1
  cases f with
  | next=>obtain⟨σ7,H7,I7,n7⟩:=q7;exact again I7 n7
  | cont=>obtain⟨σ7,H7,I7,n7⟩:=q7;exact again I7 n7
  | brk=>obtain⟨σ7,H7,I7,q7⟩:=q7;exact⟨σ7,H7,(Inv.M4 (X:=X.nox) I7).FB _,q7⟩
  | ret v=>obtain⟨x7,σ7,H7,I7,r7,q7⟩:=q7;exact⟨x7,σ7,H7,(Inv.M4 (X:=X.nox) I7).FB _,r7,q7⟩
theorem IQ {tg iter:Expr}{body:List Stmt}{fi:En->Rs (List T)}{g:T->En->Rs En}{F:En->Rs Fl}(hc:X.calm=true)(hi:BB X tg iter fi)(hg:EO X.nox tg g)(hb:nt X.nox body F)
  (hs:autoParam (∀x,Ph iter X.env x=pure x) t_):qP X (.For tg iter body [] pos) (d7 fi g F):=PS.imp (FW hc hi hg hb hs) λD σ H hh_=>by
 obtain⟨Z,B,M,E,h⟩:=hh_;refine⟨Z,OO B M,E.o,?_⟩
 unfold d7 at h
 cases q:fi Z with
 | bad=>rw[q]at h;exact h.elim
 | err c=>rw[q]at h;exact PostF.xa h
 | ok ts=>
  rw[q,aH]at h
  cases qq:bD g F ts Z with
  | bad=>rw[qq]at h;exact h.elim
  | err c=>rw[qq]at h;exact h.elim
  | ok fin=>
  rw[qq]at h;intro H1 s1 J hJ
  have E1:Ev X.K B M H1 Z σ:=E.same s1
  have h1:PostF X B M.u H1 (.ok fin) D:=PostF.later h (SameO.of s1) λa z=> .inl z
  refine⟨λi m σ' H'=>m=ts.length - i/\i<=ts.length/\SameO M.u H1 H'/\∃Z' M',Ev X.K B M' H' Z' σ'/\(∀a,M'.u a->M.u a\/Nw X.K H1 a)/\bD g F (ts.drop i) Z'= .ok fin,
   ⟨ts.length,by omega,Pj _,λ_ _ e _=>e,Z,M,E1,λa z=> .inl z,by simpa using qq⟩,?_⟩
  rintro i m σ' H' ⟨rfl,hi',sm,Z',M',E',ow,hl⟩
  have it:=hJ M.u (OO B M') (λa z=> .inl (.inr z)) (λa z=>z.elim (λw=> .inl (.inl w)) λw=>(ow a w).elim (λy=> .inl (.inr y)) .inr) i H' sm (λa z=>(E'.env.trk a z).some)
  by_cases hlt:i<ts.length
  ·have hti:ts[i]? =some ts[i]:=by simp
   obtain⟨go,yl⟩:=it.2 ts[i] hti;rw[Qx hlt]at hl;unfold bD at hl;refine .inr ⟨go,λσ2 H2=> ∃m',m'<ts.length - i/\(m'=ts.length - (i+1)/\i+1<=ts.length/\SameO M.u H1 H2/\∃Z2 M2,Ev X.K B M2 H2 Z2 σ2/\(∀a,M2.u a->M.u a\/Nw X.K H1 a)/\bD g F (ts.drop (i+1)) Z2= .ok fin),λσ2 H2 z=>z,λx Hc y=> ?_⟩
   obtain⟨sc,rx⟩:=yl x Hc y;refine⟨Z',OO B M',M',ts[i],E'.env.same sc,rx,?_⟩
   cases e1:g ts[i] Z' with
   | bad=>rw[e1]at hl;cases hl
   | err cc=>rw[e1]at hl;cases hl
   | ok Z1=>
    rw[e1,aH]at hl;intro σ1 Eg
    have E2:Ev X.K B M' Hc Z1 σ1:=⟨Eg,E'.mine⟩;refine⟨Z1,B,M',E2,?_⟩
    have smc:SameO M.u H1 Hc:=λb o e n=>sc _ _ (sm b o e n)
    have onward:∀{σ3:L2.St} {H3:Hp} {Z3:En} {M3:Mn},SameO M'.u Hc H3->Ev X.K B M3 H3 Z3 σ3->(∀a,M3.u a->M'.u a\/Nw X.K Hc a)->bD g F (ts.drop (i+1)) Z3= .ok fin →
      ∃m',m'<ts.length - i/\(m'=ts.length - (i+1)/\i+1<=ts.length/\SameO M.u H1 H3/\∃Z2 M2,Ev X.K B M2 H3 Z2 σ3/\(∀a,M2.u a->M.u a\/Nw X.K H1 a)/\bD g F (ts.drop (i+1)) Z2= .ok fin):=
     λ{σ3 H3 Z3 M3} s3 E3 o3 p3=>⟨_,by omega,rfl,hlt,smc.trans s3 ow,Z3,M3,E3,λa z=>(o3 a z).elim (ow a) (i9 smc),p3⟩
    cases e2:F Z1 with
    | bad=>rw[e2]at hl;cases hl
    | err cc=>rw[e2]at hl;cases hl
    | ok f=>
     rw[e2,aH]at hl
     cases f with
     | nx Z2=>exact λσ3 H3 M3 s3 E3 o3=>onward s3 E3 o3 hl
     | ct Z2=>exact λσ3 H3 M3 s3 E3 o3=>onward s3 E3 o3 hl
     | bk Z2=>
      cases hl
      exact λσ3 H3 M3 s3 E3 o3=>h1 σ3 H3 M3 (smc.trans s3 ow) E3 λa z=>(o3 a z).elim (ow a) (i9 smc)
     | rt t=>
      cases hl;exact λv H3 s3 r=>h1 v H3 (smc.trans s3 ow) r
  ·refine .inl ⟨it.1 (by omega),?_⟩
   have hi2:i=ts.length:=by omega
   subst hi2;rw[WJ]at hl;cases hl;exact h1 σ' H' M' sm E' ow
def cf (c:En->Rs Bool)(F:En->Rs Fl):Nat->En->Rs Fl
 | 0,_=> .bad
 | n+1,Z=>match c Z with
  | .ok false=> .ok (.nx Z)
  | .ok true=>match F Z with
   | .ok (.nx Z')=>cf c F n Z'
   | .ok (.ct Z')=>cf c F n Z'
   | .ok (.bk Z')=> .ok (.nx Z')
   | .ok (.rt t)=> .ok (.rt t)
   | _=> .bad
  | _=> .bad
theorem Cp {c:Expr}{body:List Stmt}{fc:En->Rs Bool}{F:En->Rs Fl}(n:Nat)(hc:xw X.nox c fc)(hb:nt X.nox body F):qP X (.While c body [] pos) (cf fc F n):=by
 have base:PS X.nox (.While c body [] pos) (xI (BZ X.nox fc) (MN X.nox F)):=CD PassesOwn.never hc hb;intro pins s σ H D I ⟨Z,B,M,E,h⟩
 cases qq:cf fc F n Z with
 | bad=>rw[qq]at h;exact h.elim
 | err c=>
  exfalso
  have:∀n Z,cf fc F n Z≠ .err c:=by
   intro n
   induction n with
   | zero=>intro Z z;cases z
   | succ n ih=>
    intro Z z;unfold cf at z
    split at z
    ·cases z
    ·split at z <;> first | exact ih _ z | cases z
    ·cases z
  exact this n Z qq
 | ok fin=>
  rw[qq]at h
  have goal:xI (BZ X.nox fc) (MN X.nox F) D σ H:=by
   refine⟨λm σ' H'=>SameO M.u H H'/\∃Z' M',Ev X.K B M' H' Z' σ'/\(∀a,M'.u a->M.u a\/Nw X.K H a)/\cf fc F m Z'= .ok fin,⟨n,λ_ _ e _=>e,Z,M,E,λa z=> .inl z,qq⟩,?_⟩
   rintro m σ' H' ⟨sm,Z',M',E',ow,hl⟩
   cases m with
   | zero=>cases hl
   | succ m=>
    refine⟨Z',OO B M',E'.o,?_⟩
    unfold cf at hl
    cases e1:fc Z' with
    | bad=>rw[e1]at hl;cases hl
    | err cc=>rw[e1]at hl;cases hl
    | ok k=>
     rw[e1]at hl;intro H2 s2
     have E2:Ev X.K B M' H2 Z' σ':=E'.same s2
     have sm2:SameO M.u H H2:=λb o e n=>s2 _ _ (sm b o e n)
     cases k with
     | false=>
      cases hl;refine L2.iteF ?_
      exact h σ' H2 M' sm2 E2 ow
     | true=>
      refine L2.iteT ?_
      refine⟨λσ3 H3=>SameO M.u H H3/\∃Z3 M3,Ev X.K B M3 H3 Z3 σ3/\(∀a,M3.u a->M.u a\/Nw X.K H a)/\cf fc F m Z3= .ok fin,λσ3 H3 z=>⟨m,WI m,z⟩,Z',B,M',E2,?_⟩
      have hl':(match F Z' with | .ok (.nx Z')=>cf fc F m Z' | .ok (.ct Z')=>cf fc F m Z' | .ok (.bk Z')=> .ok (.nx Z') | .ok (.rt t)=> .ok (.rt t) | _=> .bad)= .ok fin:=hl
      cases e2:F Z' with
      | bad=>rw[e2]at hl';cases hl'
      | err cc=>rw[e2]at hl';cases hl'
      | ok f=>
       rw[e2]at hl'
       cases f with
       | nx Z2=>exact λσ3 H3 M3 s3 E3 o3=>⟨sm2.trans s3 ow,Z2,M3,E3,λa z=>(o3 a z).elim (ow a) (i9 sm2),hl'⟩
       | ct Z2=>exact λσ3 H3 M3 s3 E3 o3=>⟨sm2.trans s3 ow,Z2,M3,E3,λa z=>(o3 a z).elim (ow a) (i9 sm2),hl'⟩
       | bk Z2=>
        cases hl'
        exact λσ3 H3 M3 s3 E3 o3=>h σ3 H3 M3 (sm2.trans s3 ow) E3 λa z=>(o3 a z).elim (ow a) (i9 sm2)
       | rt t=>
        cases hl';exact λv H3 s3 r=>h v H3 (sm2.trans s3 ow) r
  refine mU (cL (base pins s σ H D (I.FB _) goal) λf s' q=> ?_)
  cases f with
  | next=>obtain⟨σ7,H7,I7,n7⟩:=q;exact⟨σ7,H7,I7.FB _,n7⟩
  | cont=>obtain⟨σ7,H7,I7,n7⟩:=q;exact⟨σ7,H7,I7.FB _,n7⟩
  | brk=>obtain⟨σ7,H7,I7,n7⟩:=q;exact⟨σ7,H7,I7.FB _,n7⟩
  | ret v=>obtain⟨x7,σ7,H7,I7,r7,q7⟩:=q;exact⟨x7,σ7,H7,I7.FB _,r7,q7⟩
def K6 (Z:En):Rs Fl:=.ok (.ct Z)
end
def fo (F:En->Rs Fl)(Z:En):Rs T:=do
 let f <-F Z
 match f with
 | .nx _=> .ok .non
 | .rt t=> .ok t
 | _=> .bad
def bZ (n:Nat)(ts:List T):En:=ts.map Sl.va++OJ (n - ts.length) Sl.em
theorem Az {n:Nat}{ts:List T}{i:Nat}{o:OT}(e:(bZ n ts)[i]? =some (.ow o)):False:=by
 unfold bZ at e
 by_cases hi:i<ts.length
 ·rw[Rb (by simpa using hi),Ov,Of hi]at e
  cases e
 ·rw[RT (by simpa using hi),Ro]at e
  split at e <;> cases e
theorem rK {K:N6}{O:Ow}{H:Hp}{N:List Str}{ts:List T}{vs:List V}(r:Reps K O H ts vs)(hl:ts.length<=N.length)(trk:∀a,O a->Mtb H a):Ev K O noM H (bZ N.length ts) (start N vs):=by
 have hlen:=r.length
 have sub:∀a,OO O noM a->O a:=λa z=>z.elim id λ⟨_,w⟩=>w.elim
 refine⟨⟨by unfold bZ L2.start;simp;omega,λi t e=> ?_,λi o e=>(Az e).elim,λ_ _ z=>z.elim,λ_ _ _ z=>z.elim,λa z=>trk a (sub a z)⟩,λa ⟨_,z⟩=>z.elim⟩
 unfold bZ at e;unfold L2.start
 by_cases hi:i<ts.length
 ·rw[Rb (by simpa using hi),Ov,Of hi]at e
  have e':ts[i] =t:=by injection e with e;injection e
  obtain⟨v,e1,e2⟩:=r.get (i:=i) (t:=t) (by rw[<-e'];simp)
  refine⟨v,?_,e2.less sub⟩
  rw[Rb (by simp;omega),Ov,e1];rfl
 ·rw[RT (by simpa using hi),Ro]at e
  split at e <;> cases e
section
variable {P:OH}{w:Px}{K:N6}{mg:Str->Option Oa}{base:Heap}
theorem Ml {x qual:Str}{st:Stmt}{f:Addr}{fd:PV}{N ps:List Str}{k n:Nat}{g:List T->Rs T}(Fn:L2.Fun K x qual st f fd)(S:dj N ps (az st))(hn:ps.length=n)
  (hbody:∀(cdv:Oa),fd.code=cdv->∀(A:OV) (outer:List Env) (s:Od) (H:Hp) (E:XK),Room k (A.deeper (envOfC qual (az st) s.heap.objs.size f cdv)) →
   ∃F,nt (jk CX0 P w K mg base N qual (az st) f cdv A outer s H E).nox (cZ st) F/\∀ts,ts.length=n->∀t,g ts= .ok t->fo F (bZ N.length ts)= .ok t):rB P w K mg base CX0 (k+1) f fd ps (spP K n g):=by
 have hpl:ps.length<=N.length:=by have:=congrArg PB S.pre;rw[Pq]at this;omega
 refine Fn.ok S (λvs H Q E h=> ?_) (λcdv hcv A outer s H vs Q E hr h=> ?_)
 ·obtain⟨ts,O,r,_,hl,_⟩:=h
  rw[<-r.length,hl,hn]
 ·obtain⟨ts,O,r,trk,hl,h⟩:=h
  obtain⟨F,hF,hv⟩:=hbody cdv hcv A outer s H E hr;refine⟨_,hF,bZ N.length ts,O,noM,rK r (by omega) trk,?_⟩
  have no:∀a,¬noM.u a:=λa ⟨_,z⟩=>z
  cases q:g ts with
  | bad=>rw[q]at h;exact h.elim
  | err c=>rw[q]at h;exact h.elim
  | ok t=>
   rw[q]at h
   have hb:=hv ts hl t q;unfold fo at hb
   cases q2:F (bZ N.length ts)with
   | bad=>rw[q2]at hb;cases hb
   | err c=>rw[q2]at hb;cases hb
   | ok fl=>
    rw[q2,aH]at hb
    have sameOf:∀H',SameO noM.u H H'->Same H H':=λH' s b o e=>s b o e (no b)
    cases fl with
    | nx Z'=>cases hb;exact λσ' H' M' s' E' o'=>h .non H' (sameOf H' s') Rep.NA
    | rt t'=>cases hb;exact λv H' s' r'=>h v H' (sameOf H' s') r'
    | bk Z'=>cases hb
    | ct Z'=>cases hb
end
end Tr
namespace Enu
open PySem
open AutoSeq1 (wpAny_loadPart')
section
variable {prog:OH}{w:Px}{A:OV}{E:Oa->Od->Prop}{s:Od}
theorem EZ {it tt:Addr}{k:Nat}{its:Array Oa}{x:Oa}{Q:Oa->Od->Prop}(hi:s.heap.IsTupleIter it tt k)(ht:s.heap.IsTuple tt its)(hx:its[k]? =some x)
  (hQ:∀h',h'.IsTupleIter it tt (k+1)->SH it s.heap h'->Q x { s with heap:=h' }):wpAny (model prog w) A (Ra (.ref it)) Q E s:=by
 obtain⟨ob,g1,g2,g3⟩:=id hi;obtain⟨ot,k1,_,m,k3⟩:=ht;unfold Ra;refine N7 (Qk (name:=Oo "__next__") hi.typeIs Q3 (Q5 Q3 hi.typeIs Ta ?_ (S3 _)))
 show wpAny (model prog w) _ (field (.ref it) 0 >>= _) _ _ s
 refine N7 (Qv g1 g3 (x:=.ref tt) rfl ?_)
 show wpAny (model prog w) _ (if (OA tt == Pn)=true then _ else _) _ _ s
 rw[if_neg (show ¬((OA tt == Pn)=true)by exact OF)]
 show wpAny (model prog w) _ (field (.ref it) 1 >>= _) _ _ s
 refine N7 (Qv g1 g3 (x:=.int k 0) rfl ?_)
 show wpAny (model prog w) _ (VW (.ref tt) >>= _) _ _ s
 refine N7 (RY k1 k3 ?_)
 simp only[hx,PC];refine N7 (Vc g1 g3 (by simp) (Ol ⟨x,rfl,Ol (hQ _ ?_ (Vd ..))⟩))
 refine⟨_,RE _ g1 (UF (Sh g3 _)),(Obj.cls_mapFields ..).trans g2,?_⟩
 rw[Sh g3];simp[rawInt]
theorem tupStop {it tt:Addr}{k:Nat}{its:Array Oa}{Q:Oa->Od->Prop}(hh:A.handled=none)(hi:s.heap.IsTupleIter it tt k)(ht:s.heap.IsTuple tt its)(hx:its[k]? =none)
  (hE:∀h' e,Heap.ExtBut it s.heap h'->(∃o,h'.get? e=some o/\o.cls= .type "StopIteration")->E (.ref e) { s with heap:=h' }):wpAny (model prog w) A (Ra (.ref it)) Q E s:=by
 obtain⟨ob,g1,g2,g3⟩:=id hi;obtain⟨ot,k1,_,m,k3⟩:=ht;unfold Ra;refine N7 (Qk (name:=Oo "__next__") hi.typeIs Q3 (Q5 Q3 hi.typeIs Ta ?_ (S3 _)))
 show wpAny (model prog w) _ (field (.ref it) 0 >>= _) _ _ s
 refine N7 (Qv g1 g3 (x:=.ref tt) rfl ?_)
 show wpAny (model prog w) _ (if (OA tt == Pn)=true then _ else _) _ _ s
 rw[if_neg (show ¬((OA tt == Pn)=true)by exact OF)]
 show wpAny (model prog w) _ (field (.ref it) 1 >>= _) _ _ s
 refine N7 (Qv g1 g3 (x:=.int k 0) rfl ?_)
 show wpAny (model prog w) _ (VW (.ref tt) >>= _) _ _ s
 refine N7 (RY k1 k3 ?_)
 simp only[hx,PC];refine N7 (SC (N7 (Vc g1 g3 (by simp) ?_)))
 show wpAny (model prog w) _ (newExc (.type "StopIteration") [] >>= _) _ _ _
 refine N7 ?_
 simp only[newTuple,newExc];refine N7 (Pt ?_ (by size_fits))
 refine N7 (m:=firstArgMember _ _) (wpAny_of_eq (a:=Pn) (by first | (simp only[firstArgMember];rfl) | rfl) ?_)
 refine Pt ?_ (by size_fits)
 simp only[raiseNew];refine N7 (wpAny_handled ?_)
 first | rw[hh] | rw[show A.in1.handled=none from hh]
 refine N7 (Ol (wpAny_throw ?_))
 refine hE _ _ (((Vd ..).extBut.push _).push _) ⟨_,Oz _ rfl,rfl⟩
end
theorem tupDraws {prog:OH}{w:Px}{A:OV}(hh:A.handled=none)(it tt:Addr)(hne:tt≠it)(its:Array Oa) :
  Draws prog w A it [it,tt] its.size (λi v=>its[i]? =some v) (λi h=>h.IsTupleIter it tt i/\h.IsTuple tt its) where
 live:=λ_ _ st=>by obtain⟨o,ho,_⟩:=st.1;exact⟨o,ho⟩
 frame:=λ_ _ _ st hk=>by
  obtain⟨⟨o,e,r⟩,⟨o',e',r'⟩⟩:=st;exact⟨⟨o,hk it (by simp) o e,r⟩,⟨o',hk tt (by simp) o' e',r'⟩⟩
 item:=λi s Q E hi st hQ=>by
  refine EZ st.1 st.2 (x:=its[i]) (by simp[hi]) λh' hit' hs'=> ?_
  obtain⟨o',e',r'⟩:=st.2;exact hQ _ h' s.toks (by simp[hi]) ⟨hit',⟨o',(hs'.2 tt hne).trans e',r'⟩⟩ hs'
 done:=λs Q E st hE=>tupStop hh st.1 st.2 (by simp) hE
theorem newT (l:Addr)(items:Array Oa)(n:Nat)(dct:Option Addr)(sl:Array (Option Oa)) :
  Meets (Builtin.«enumerate.__new__» ⟨[.type "enumerate",.ref l],[]⟩) (λ_ R s=>s.heap.get? l=some { cls:=.type "tuple",dict:=dct,data:=.seq items n,slots:=sl } ∧
   R (.ok (.ret (.ref (s.heap.push { cls:=.type "tuple_iterator",data:=.fields #[.ref l,.int 0 0] }).objs.size)))
    { s with heap:=(s.heap.push { cls:=.type "tuple_iterator",data:=.fields #[.ref l,.int 0 0] }).push { cls:=.type "enumerate",data:=.fields #[.none,.bool false,.ref s.heap.objs.size,rawInt 0,.none,.none] } }):=
 .of_wp λprog w A R s h=>by
  obtain⟨hp,g,d,tk,os⟩:=s;obtain⟨hl,h⟩:=h
  have hsub:=sub_enumerate
  have hT:Heap.IsTuple (Shared.heap ⟨hp,g,d,tk,os⟩) l items:=⟨_,hl,rfl,n,rfl⟩
  wp_walk using O0 hl
  refine wpAny_stack_any λst=>Ol ?_
  split
  ·rename_i c _ _ _ _ _
   cases (c == Rx "enumerate")
   ·wp_walk using O0 hl,Sn hT
    exact⟨_,rfl,h⟩
   ·wp_walk using O0 hl,Sn hT
    exact⟨_,rfl,h⟩
  ·wp_walk using O0 hl,Sn hT
   exact⟨_,rfl,h⟩
theorem callT {prog:OH}{w:Px}{A:OV}{E:Oa->Od->Prop}{s:Od}{l:Addr}{items:Array Oa}{Q:Oa->Od->Prop}(hL:s.heap.IsTuple l items)
  (h:∀h',IsEnum h' (s.heap.objs.size+1) s.heap.objs.size 0 .none->h'.IsTupleIter s.heap.objs.size l 0->h'.objs.size=s.heap.objs.size+2 →
   (∀b o,s.heap.get? b=some o->h'.get? b=some o)->Q (.ref (s.heap.objs.size+1)) { s with heap:=h' }):wpAny (model prog w) A (call (.type "enumerate") [.ref l]) Q E s:=by
 obtain⟨⟨cc,dc,dd,ss⟩,hl,hc,n,hd⟩:=hL
 replace hc:cc= .type "tuple":=hc
 replace hd:dd= .seq items n:=hd
 subst hc hd;refine callType_new F.called_enumerate (by decide) (F.typeCall_enumerate_1 _) (F.newCall_enumerate_1 _) (λobj=>F.args_object_init_2 obj _) F.entry_enumerate_new (newT l items n dc ss) ⟨hl,?_⟩
 have hz:(s.heap.push { cls:=.type "tuple_iterator",data:=.fields #[.ref l,.int 0 0] }).objs.size=s.heap.objs.size+1:=Ry ..
 show _/\_
 rw[hz]
 have he:IsEnum ((s.heap.push { cls:=.type "tuple_iterator",data:=.fields #[.ref l,.int 0 0] }).push
   { cls:=.type "enumerate",data:=.fields #[.none,.bool false,.ref s.heap.objs.size,rawInt 0,.none,.none] }) (s.heap.objs.size+1) s.heap.objs.size 0 .none:=by
  have q:=Oz (s.heap.push { cls:=.type "tuple_iterator",data:=.fields #[.ref l,.int 0 0] })
   (o:={ cls:=.type "enumerate",data:=.fields #[.none,.bool false,.ref s.heap.objs.size,rawInt 0,.none,.none] }) rfl
  rw[hz]at q;exact q
 refine⟨⟨_,he,rfl⟩,h _ he ⟨_,Oh _ (Oz _ rfl),rfl,rfl⟩ (by rw[Ry,hz]) λb o x=>Oh _ (Oh _ x)⟩
end Enu
namespace L2
open PySem PySem.Spec PyProof.Rows
section
variable {X:Cx}{pins:List (Addr×Obj)}{σ:L2.St}{H:Hp}{s:Od}{h':Heap}
theorem Inv.NB {t':Nat}{fp:List Addr}{Tp:Addr}{xs:List V}(I:Inv X pins σ H s)(hf:∀b∈fp,qQ X pins H b)(k:∀b o,b∉fp->s.heap.get? b=some o->h'.get? b=some o)
  (ht:∀b∈fp,∃o,h'.get? b=some o) (hT:s.heap.objs.size<=Tp) (new:ObjOk X.prog X.w (upd H Tp (.tup xs)) h' Tp (.tup xs)):Inv X pins σ (upd H Tp (.tup xs)) { s with heap:=h',toks:=t' }:=by
 have hn:H Tp=none:=I.hok.fresh hT
 have qe:∀b o,s.heap.get? b=some o->b≠Tp:=λb o e=>O7 (Os (Ou e) hT)
 have nf:∀b u,H b=some u->b∉fp:=λb u e z=>by rw[(hf b z).1]at e;cases e
 refine I.step (g':=s.gens) (d':=s.drawn) (ch:=fp) (λb hb=>⟨(hf b hb).2.2.2.1,(hf b hb).2.1,(hf b hb).2.2.2.2.1,(hf b hb).2.2.2.2.2⟩) (λb o _ _ hc e _=>k b o hc e) (λb o _ _ hc e _=>⟨o.slots,k b o hc e⟩)
  (λb o _ e n=>by rw[aG (qe b o e)];exact n) (λb o hc e=>⟨o,k b o hc e⟩) (λb ys e=>by rw[aG (cV e hn)];exact e) (λb o u e=>by rw[aG (cV e hn)];exact e)
  (λb ps e=>(by rw[aG (cV e hn),e])) (λm hm=> ?_) (λb u e=> ?_) I.bare
 ·obtain⟨o,es,ep,ho,r⟩:=hm
  exact⟨o,es,ep,k _ o (λz=>(hf _ z).2.1 rfl) ho,r⟩
 ·by_cases hb:b=Tp
  ·subst hb;rw[aI]at e;cases e;exact new
  ·rw[aG hb]at e
   refine(I.hok b u e).M5 (λc v hc q=>k c v ?_ q) (λc q=>by rw[aG (cV q hn)];exact q) λc ys q=>by rw[aG (cV q hn)];exact q
   rcases hc with z | z
   ·rw[z];exact nf b u e
   ·exact nf c _ z
theorem Inv.Nc {t':Nat}{fp:List Addr}(I:Inv X pins σ H s)(hf:∀b∈fp,qQ X pins H b)(k:∀b o,b∉fp->s.heap.get? b=some o->h'.get? b=some o):Inv X pins σ H { s with heap:=h',toks:=t' }:=by
 have nf:∀b u,H b=some u->b∉fp:=λb u e z=>by rw[(hf b z).1]at e;cases e
 refine I.step (g':=s.gens) (d':=s.drawn) (ch:=fp) (λb hb=>⟨(hf b hb).2.2.2.1,(hf b hb).2.1,(hf b hb).2.2.2.2.1,(hf b hb).2.2.2.2.2⟩) (λb o _ _ hc e _=>k b o hc e) (λb o _ _ hc e _=>⟨o.slots,k b o hc e⟩)
  (λb o _ e n=>n) (λb o hc e=>⟨o,k b o hc e⟩) (λb ys e=>e) (λb o u e=>e)
  (λb ps e=>(by rw[e])) (λm hm=> ?_) (λb u e=> ?_) I.bare
 ·obtain⟨o,es,ep,ho,r⟩:=hm
  exact⟨o,es,ep,k _ o (λz=>(hf _ z).2.1 rfl) ho,r⟩
 ·refine(I.hok b u e).M5 (λc v hc q=>k c v ?_ q) (λc q=>q) λc ys q=>q
  rcases hc with z | z
  ·rw[z];exact nf b u e
  ·exact nf c _ z
end
def EN (K:N6)(H:Hp)(a:Addr)(tt:Bool)(xs:List V):Prop:=if tt then SqT K H a xs else SqL K H a xs
def MY (K:N6)(a:Addr)(tt:Bool):It:=
 ⟨λi H=> ∃xs x,EN K H a tt xs/\xs[i]? =some x,λi H x H'=> ∃p v,x= .ref p/\H p=none/\H'=upd H p (.tup [.int (i:Nat),v])/\∀xs,EN K H a tt xs->xs[i]? =some v,λi H=> ∃xs,EN K H a tt xs/\xs.length<=i⟩
def itAt (tt:Bool)(h:Heap)(it a:Addr)(i:Nat):Prop:=if tt then h.IsTupleIter it a i else h.IsListIter it a i
theorem itAt.obj {tt:Bool}{h:Heap}{it a:Addr}{i:Nat}(st:itAt tt h it a i):∃o,h.get? it=some o/\∀v,o.data≠ .cell v:=by
 cases tt with
 | true=>obtain⟨o,e,c,d⟩:=(show h.IsTupleIter it a i from st);exact⟨o,e,λv z=>by rw[d]at z;cases z⟩
 | false=>obtain⟨o,e,c,d⟩:=(show h.IsListIter it a i from st);exact⟨o,e,λv z=>by rw[d]at z;cases z⟩
theorem itAt.keep {tt:Bool}{h h':Heap}{it a:Addr}{i:Nat}(st:itAt tt h it a i)(k:∀o,h.get? it=some o->h'.get? it=some o):itAt tt h' it a i:=by
 cases tt with
 | true=>obtain⟨o,e,r⟩:=(show h.IsTupleIter it a i from st);exact(show h'.IsTupleIter it a i from⟨o,k o e,r⟩)
 | false=>obtain⟨o,e,r⟩:=(show h.IsListIter it a i from st);exact(show h'.IsListIter it a i from⟨o,k o e,r⟩)
theorem Ax {P:OH}{w:Px}{K:N6}{elts:List Expr}{kk:Nat}{pos:Pos}(tt:Bool)(a e it:Addr)(hei:e≠it) :
  Bz P w K (.Tuple elts kk pos) (MY K a tt) [e,it] e (λi h=>(∃old,IsEnum h e it i old)/\itAt tt h it a i) where
 mem:=by simp
 obj:=λi h st b hb=>by
  obtain⟨⟨old,he⟩,hi⟩:=st;rcases Og.mp hb with rfl | hb
  ·exact⟨_,he,λv z=>by have z':W1 _=Data.cell v:=z;cases z'⟩
  ·rw[OB.mp hb];exact hi.obj
 keep:=λi h h' st k=>by
  obtain⟨⟨old,he⟩,hi⟩:=st;exact⟨⟨old,k e (by simp) _ he⟩,hi.keep λo q=>k it (by simp) o q⟩
 item:=by
  intro X hP hw hK hc i pins s σ H E I hf st hg;subst hP hw hK;obtain⟨xs,x,hq,hx⟩:=hg;obtain⟨⟨old,he⟩,hi⟩:=st
  -- by what is walked
  have key:∀(its:List Oa),Vals xs its->(∀ys,EN X.K H a tt ys->ys=xs)->∀(fp0:List Addr) (St:Nat->Heap->Prop),Draws X.prog X.w X.A.in1 it fp0 its.toArray.size (λi v=>its.toArray[i]? =some v) St->e∉fp0->it∈fp0->St i s.heap →
    (∀h',St (i+1) h'->itAt tt h' it a (i+1)) →
    wpAny (model X.prog X.w) X.A (pyNext (.ref e)) (λr s1=> ∃u,r=some u/\wpAny (model X.prog X.w) X.A (Sm (.Tuple elts kk pos) (.ref e) u) (λ_ s2=> ∃x' H',Inv X pins σ H' s2/\RelV x' u/\(MY X.K a tt).yld i H x' H' ∧
     ((∃old,IsEnum s2.heap e it (i+1:Nat) old)/\itAt tt s2.heap it a (i+1))/\∀b∈ [e,it],H' b=none) E s1) E s:=by
   intro its rv uniq fp0 St D hef hif hst hnext;obtain⟨u,hu,ru⟩:=rv.get hx
   have hlt:i<its.toArray.size:=by
    have:=(Oi.mp hu).1
    simpa using this
   have W:=WalksT.enumerateD D e hei hef hif;refine W.item i s _ _ hlt ⟨⟨old,he⟩,hst⟩ λTp vals h1 tk hPt hTsz hTup hMid hk=>⟨.ref Tp,rfl,?_⟩
   refine W.go elts kk pos i Tp { s with heap:=h1,toks:=tk } _ _ hMid λh2 hst2 hk2=> ?_
   obtain⟨t,x',hPx,hvals⟩:=hPt;subst hvals
   have hxe:x'=u:=by
    have h1':its.toArray[i]? =some x':=hPx
    have h2':its.toArray[i]? =some u:=by simpa using hu
    rw[h1']at h2';exact OP h2'
   subst hxe
   have hTw:=W.apart i Tp h1 hMid;obtain⟨oT,eT,rT⟩:=hTup
   have eT2:h2.get? Tp=some oT:=hk2 Tp oT hTw eT
   have kAll:∀b o,b∉ [e,it]->s.heap.get? b=some o->h2.get? b=some o:=λb o hb q=>hk2 b o hb (hk b o hb q)
   obtain⟨⟨old2,he2⟩,hs2⟩:=hst2
   have hit2:=hnext h2 hs2
   have there:∀b∈ [e,it],∃o,h2.get? b=some o:=λb hb=>by
    rcases Og.mp hb with rfl | hb
    ·exact⟨_,he2⟩
    ·rw[OB.mp hb];obtain⟨o,q,_⟩:=hit2.obj;exact⟨o,q⟩
   have hn:H Tp=none:=I.hok.fresh hTsz
   have new:ObjOk X.prog X.w (upd H Tp (.tup [.int (i:Nat),x])) h2 Tp (.tup [.int (i:Nat),x]):=
    ⟨by show 2<=sizeLine;decide,[.int (i:Nat) t,x'],.cons ⟨t,rfl⟩ (.cons ru .nil),⟨oT,eT2,rT⟩⟩
   have I2:=I.NB (t':=tk) hf kAll there hTsz new;refine⟨.ref Tp,_,I2,rfl,⟨Tp,x,rfl,hn,rfl,λys hy=>by rw[uniq ys hy];exact hx⟩,⟨⟨old2,he2⟩,hit2⟩,λb hb=> ?_⟩
   have hbT:b≠Tp:=λz=>by
    obtain⟨o,q⟩:∃o,s.heap.get? b=some o:=by
     rcases Og.mp hb with rfl | hb
     ·exact⟨_,he⟩
     ·rw[OB.mp hb];obtain⟨o,q,_⟩:=hi.obj;exact⟨o,q⟩
    exact absurd (Os (Ou q) hTsz) (by rw[z];exact O9 _)
   rw[aG hbT];exact(hf b hb).1
  have hne:∀b∈ [e,it],a≠b:=λb hb z=>by
   have hb':=(hf b hb).1;rw[<-z]at hb'
   have hbs:=hf b hb
   cases tt with
   | true=>
    have hq':SqT X.K H a xs:=hq;rcases hq' with(q | ⟨o,q⟩) | ⟨o,its,n,q,_⟩
    ·rw[hb']at q;cases q
    ·rw[hb']at q;cases q
    ·rcases hbs.2.2.2.1 with z1 | z1
     ·exact I.ok.noex a o (I.ok.mod.kin a o q) (z▸z1)
     ·exact absurd (Os (Ou (I.ok.bs a o (I.ok.mod.kin a o q)).1) (z▸z1)) (O9 _)
   | false=>
    have hq':SqL X.K H a xs:=hq;rcases hq' with(q | ⟨o,q⟩) | ⟨o,its,n,q,_⟩
    ·rw[hb']at q;cases q
    ·rw[hb']at q;cases q
    ·rcases hbs.2.2.2.1 with z1 | z1
     ·exact I.ok.noex a o (I.ok.mod.kin a o q) (z▸z1)
     ·exact absurd (Os (Ou (I.ok.bs a o (I.ok.mod.kin a o q)).1) (z▸z1)) (O9 _)
  have hea:e≠a:=λz=>hne e (by simp) z.symm
  have hia:it≠a:=λz=>hne it (by simp) z.symm
  cases tt with
  | true=>
   have hq':SqT X.K H a xs:=hq;obtain⟨its,rv,p,hz⟩:=I.tuple hq'
   exact key its rv (λys hy=>I.Na hy hq') _ _ (Enu.tupDraws (A:=X.A.in1) (I.ok.hd hc) it a (PM hia) its.toArray) (by simp[hei,hea]) (by simp) ⟨hi,p⟩ λh' z=>z.1
  | false=>
   have hq':SqL X.K H a xs:=hq;obtain⟨its,rv,p,hz⟩:=I.list hq';exact key its rv (λys hy=>I.Nh hy hq') _ _ (Draws.list (A:=X.A.in1) (I.ok.hd hc) it a (PM hia) its.toArray) (by simp[hei,hea]) (by simp) ⟨hi,p.isList⟩ λh' z=>z.1
 done:=by
  intro X hP hw hK hc i pins s σ H E I hf st hg;subst hP hw hK;obtain⟨xs,hq,hx⟩:=hg;obtain⟨⟨old,he⟩,hi⟩:=st
  have fin:∀h',Heap.ExtBut it s.heap h'->(none:Option Oa)=none/\Inv X pins σ H { s with heap:=h' }:=λh' eb=>⟨rfl,I.Nc (t':=s.toks) hf λb o hb q=>eb b o (λz=>hb (by simp[z])) q⟩
  cases tt with
  | true=>
   have hq':SqT X.K H a xs:=hq;obtain⟨its,rv,p,hz⟩:=I.tuple hq'
   have hl:=rv.length
   have hnone:its.toArray[i]? =none:=by simp;omega
   have hT:s.TypeIs (.ref e) "enumerate":=⟨_,he,rfl⟩;unfold pyNext;refine N7 (VX (Qk (name:=Oo "__next__") hT UG (Q5 UG hT F.entry_enumerate_next ?_ (F.args_enumerate_next_1 _))))
   show wpAny (model X.prog X.w) _ (field (.ref e) 2 >>= _) _ _ _
   refine N7 (Qv he rfl (x:=.ref it) rfl ?_)
   refine N7 (Enu.tupStop (I.ok.hd hc) hi p hnone λh' x he' hx'=> ?_)
   obtain⟨o,ho,hcl⟩:=hx'
   exact N7 (WT (T:="StopIteration") (b:=true) ⟨o,ho,hcl⟩ isSubtype_stop (Ol (fin h' he')))
  | false=>
   have hq':SqL X.K H a xs:=hq;obtain⟨its,rv,p,hz⟩:=I.list hq'
   have hl:=rv.length
   have hnone:its.toArray[i]? =none:=by simp;omega
   exact wpAny_pyNext_enum_end (I.ok.hd hc) he hi p.isList hnone fin
 self:=λ_ _ _ _ _ st h=>by
  obtain⟨⟨old,he⟩,_⟩:=st;exact Wm he h
section
variable {X:Cx}{elts:List Expr}{kk:Nat}{tpos:Pos}
theorem qI:Pb "enumerate" =some (.type "enumerate"):=by decide+kernel
def iEnu (K:N6)(tl:TA):TI:=λσ H R=>tl σ H λvs H1=> ∃a tt,vs= [.ref a]/\(∃xs,EN K H1 a tt xs)/\R (MY K a tt) H1
theorem F2 {l:Expr}{tl:TA}{p pos:Pos}(hg:Gl X "enumerate")(hm:X.mg "enumerate" =none)(hl:PA X [l] tl)(hs:Oy [l] X.env= [(false,eval l X.env)]:=by rfl):PI X (.Tuple elts kk tpos) (.Call (.Name "enumerate" p) [l] [] pos) (iEnu X.K tl):=by
 intro pins s σ H R I h;refine Call_ (fg I hg hm qI (Pa (cL (hl pos pins s σ H _ I h) λus s1 ⟨vs,H1,I1,r1,q1⟩=> ?_) hs rfl))
 obtain⟨a,tt,e,⟨xs,hq⟩,q⟩:=q1;subst e;obtain⟨u,rfl,ru⟩:=lG r1;cases ru
 have fin:∀h',IsEnum h' (s1.heap.objs.size+1) s1.heap.objs.size 0 .none->itAt tt h' s1.heap.objs.size a 0->h'.objs.size=s1.heap.objs.size+2->(∀b o,s1.heap.get? b=some o->h'.get? b=some o) →
   wpAny (model X.prog X.w) X.A (pyIter (.ref (s1.heap.objs.size+1))) (MX X pins σ (.Tuple elts kk tpos) R) X.xe { s1 with heap:=h' }:=λh' he hi hsz hk=>by
  refine Wm he ?_
  have I2:Inv X pins σ H1 { s1 with heap:=h' }:=I1.kept (t':=s1.toks) hk
  refine⟨s1.heap.objs.size+1,[s1.heap.objs.size+1,s1.heap.objs.size],_,_,H1,rfl,I2,Ax tt a (s1.heap.objs.size+1) s1.heap.objs.size (WK _),⟨⟨_,he⟩,hi⟩,λb hb=> ?_,q⟩
  rcases Og.mp hb with rfl | hb
  ·exact I1.Ni (by omega) (I1.hok.fresh (by omega))
  ·rw[OB.mp hb];exact I1.Ni (Ot _) (I1.hok.fresh (Ot _))
 cases tt with
 | true=>
  have hq':SqT X.K H1 a xs:=hq;obtain⟨its,rv,pl,hz⟩:=I1.tuple hq'
  exact Enu.callT pl λh' he hi hsz hk=>fin h' he hi hsz hk
 | false=>
  have hq':SqL X.K H1 a xs:=hq;obtain⟨its,rv,pl,hz⟩:=I1.list hq';exact call_enumerate_list pl.isList λh' he hi hsz hk=>fin h' he hi hsz hk
end
end L2
namespace Tr
open PySem PySem.Spec PyProof.Rows L2
section
variable {X:Cx}{a:Expr}{fa:En->Rs T}{fs:En->Rs (List T)}{p pos:Pos}
def iS (f:En->Rs T)(Z:En):Rs (List T):=do
 let x <-f Z
 match x with
 | .lst l=> .ok l
 | .tup l=> .ok l
 | _=> .bad
theorem IY {tg:Expr}(ha:c8 X a fa):BB X tg a (iS fa):=by
 intro pins s σ H R I ⟨Z,O,E,h⟩;unfold iS at h
 cases q:fa Z with
 | bad=>rw[q]at h;exact h.elim
 | err c=>exact zm ha pins s σ H R I ⟨Z,O,E,by unfold iL;rw[q]at h ⊢;exact h⟩
 | ok x=>
  rw[q,aH]at h
  cases x with
  | lst l=>exact zm ha pins s σ H R I ⟨Z,O,E,by unfold iL;rw[q];exact h⟩
  | tup l=>exact IX ha pins s σ H R I ⟨Z,O,E,by unfold iT;rw[q];exact h⟩
  | _=>exact h.elim
def dN:Nat->List T->List T
 | _,[] => []
 | n,t::r=> .tup [.int n,t] ::dN (n+1) r
theorem sy:∀(l:List T) (n i:Nat),(dN n l)[i]? =(l[i]?).map λt=>T.tup [.int ((n+i:Nat):Int),t]
 | [],n,i=>by simp[dN]
 | t::l,n,0=>by simp[dN]
 | t::l,n,i+1=>by
  rw[dN,Rq,sy l (n+1) i,Rq]
  congr 2
  funext t
  congr 4
  omega
theorem sr:∀(l:List T) (n:Nat),(dN n l).length=l.length
 | [],n=>rfl
 | t::l,n=>by rw[dN,Oj,Oj,sr l]
def iE (f:En->Rs (List T))(Z:En):Rs (List T):=do
 let xs <-f Z
 match xs with
 | [x] =>match x.items with
  | some l=> .ok (dN 0 l)
  | none=> .bad
 | _=> .bad
theorem FN {elts:List Expr}{kk:Nat}{tpos:Pos}(hm:X.mg "enumerate" =none)(ha:qS X [a] fs)(hg:Gl X "enumerate":=by rfl)(hs:Oy [a] X.env= [(false,eval a X.env)]:=by rfl) :
  BB X (.Tuple elts kk tpos) (.Call (.Name "enumerate" p) [a] [] pos) (iE fs):=PI.imp (F2 hg hm ha hs) λσ H R hh_=>by
 obtain⟨Z,O,E,h⟩:=hh_;obtain⟨Z1,O1,E1,h1⟩:=eF E h;refine⟨Z1,O1,E1,Post.mono h1 λts H1 s1 q vs r=> ?_⟩
 obtain⟨t',r',s',E',q'⟩:=q vs r
 split at q'
 ·rename_i x0
  obtain⟨v,rfl,rv⟩:=r'.one
  split at q'
  ·rename_i l hl
   have main:∀(aa:Addr) (tt:Bool) (ws:List V),v= .ref aa->¬ O aa->Reps X.K O H1 l ws->EN X.K H1 aa tt ws->(∀P Hc,SameO P H1 Hc->¬ P aa->EN X.K Hc aa tt ws)->¬ Nw X.K H1 aa →
     ∃a tt,[v] = [V.ref a]/\(∃xs,EN X.K H1 a tt xs)/\R (MY X.K a tt) H1:=λaa tt ws e n z sq mv nn=>by
    refine⟨aa,tt,by rw[e],⟨ws,sq⟩,q' H1 (Same.refl H1) _ λP O' hP hO i Hc hsm htr=> ?_⟩
    have hnP:¬ P aa:=λy=>(hP aa y).elim n nn
    have sqc:=mv P Hc hsm hnP;refine⟨λhi=>⟨ws,sqc,by rw[<-z.length,<-sr l 0];exact hi⟩,λt ht=> ?_⟩
    rw[sy]at ht
    cases e1:l[i]? with
    | none=>rw[e1]at ht;cases ht
    | some t0=>
     rw[e1]at ht;cases ht;obtain⟨v0,f1,f2⟩:=z.get e1;refine⟨⟨ws,v0,sqc,f1⟩,λx Hc' y=> ?_⟩
     obtain⟨pp,vv,e2,hpn,e3,hy⟩:=y
     have:=hy ws sqc;rw[f1]at this;cases this;subst e2 e3;refine⟨aQ hpn _,gO hpn (λzz=> ?_) (Reps.Gc (by simpa using Rep.GE _) (Reps.Gc (f2.move hP hO hsm) Reps.GM))⟩
     obtain⟨o,w⟩:=htr pp zz;rw[hpn]at w;cases w
   cases x0 with
   | tup m=>
    cases hl;obtain⟨aa,ws,e,n,qq,z⟩:=Rep.Fk.mp rv
    exact main aa true ws e n z (show SqT X.K H1 aa ws from SqT.of qq) (λP Hc hsm hn=>show SqT X.K Hc aa ws from SqT.of (hsm _ _ qq hn)) λw=>by rw[w.1]at qq;cases qq
   | lst m=>
    cases hl;obtain⟨aa,ws,e,n,qq,z⟩:=Rep.Do.mp rv
    exact main aa false ws e n z (show SqL X.K H1 aa ws from SqL.of qq) (λP Hc hsm hn=>show SqL X.K Hc aa ws from SqL.of (hsm _ _ qq hn)) λw=>by rw[w.1]at qq;cases qq
   | scr m=>
    cases hl;unfold Rep at rv;obtain⟨aa,e,n,qq⟩:=rv
    exact main aa false _ e n Reps.ints (show SqL X.K H1 aa _ from qq) (λP Hc hsm hn=>show SqL X.K Hc aa _ from Tr.SqL.keep hsm hn qq) (Tr.SqL.nn qq)
   | _=>cases hl
  ·exact q'.elim
 ·exact q'.elim
end
end Tr
namespace Tm
open PySem PyProof.Rows
theorem mW:fillsNumberSlot (.type "tuple") "mul" =pure false:=
 PySem.fillsNumberSlot_seq (id:="tuple.__mul__") (r:=some (.builtin "tuple.__rmul__")) Ui.lookup (by decide+kernel) V6.lookup (by decide+kernel)
theorem tO:seqRepeat? (.type "tuple")=pure (some (.builtin "tuple.__mul__")):=by
 unfold seqRepeat?;rw[WL (T:="tuple") (name:="__mul__") (id:="tuple.__mul__") Ui.lookup (by decide+kernel),WL (T:="tuple") (name:="__rmul__") (id:="tuple.__rmul__") V6.lookup (by decide+kernel)]
 rfl
theorem xW (a:Int)(t:Tok)(l:Addr)(items:Array Oa)(n:Nat)(dd:Option Addr)(sl:Array (Option Oa)) :
  Meets (Builtin.«int.__rmul__» ⟨[.int a t,.ref l],[]⟩) (λ_ R s=>s.heap.get? l=some { cls:=.type "tuple",dict:=dd,data:=.seq items n,slots:=sl }/\R (.ok (.ret U5)) s):=
 .of_wp λprog w A R s h=>by obtain⟨hp,g,d,tk,os⟩:=s;obtain⟨hl,h⟩:=h;wp_walk;exact⟨_,rfl,h⟩
open AutoSeq1 (wpAny_loadPart')
theorem Dc (l:Addr)(items:Array Oa)(n:Nat)(dd:Option Addr)(sl:Array (Option Oa))(x:Int)(u:Tok)(h1:1<x)(h2:x<2 ^ 31)(hne:items.isEmpty=false)(hz:items.size*x.toNat<=sizeLine)
  (hz2:(TQ (λa b=>a++b) #[] (OJ x.toNat items)).size<=sizeLine) :
  Meets (Builtin.«tuple.__mul__» ⟨[.ref l,.int x u],[]⟩) (λ_ R s=>s.heap.get? l=some { cls:=.type "tuple",dict:=dd,data:=.seq items n,slots:=sl } ∧
   R (.ok (.ret (OA s.heap.objs.size))) { s with heap:=s.heap.push { cls:=Rx "tuple",data:=Data.seq (TQ (λa b=>a++b) #[] (OJ x.toNat items)) } }):=
 .of_wp λprog w A R s h=>by
  obtain⟨hp,g,d,tk,os⟩:=s;obtain⟨hl,h⟩:=h
  have hT:Xv hp l items:=⟨_,hl,rfl,n,rfl⟩
  have hx:((items.size:Nat):Int)*x=((items.size*x.toNat:Nat):Int):=by
   have e:x=((x.toNat:Nat):Int):=by omega
   rw[Int.natCast_mul,<-e]
  wp_walk using O0 hl
  rw[if_neg (by simp;omega)]
  refine N7 (Ue (s:=⟨hp,g,d,tk,os⟩) hT ?_)
  dsimp only
  rw[if_neg (by rw[hne];simp;omega),if_neg (by rw[hne];simp;omega),hx,if_neg (by have:(sizeLine:Nat)<=1000000000:=(by decide);omega),if_neg (by unfold Builtin.Tuple.tupleTooMany;rw[decide_eq_true_iff];omega)]
  refine N7 (m:=Pm _) (Pt ?_ hz2)
  exact Ol ⟨_,rfl,h⟩
section
variable {prog:OH}{w:Px}{A:OV}{E:Oa->Od->Prop}{s:Od}
theorem mul_tuple {t:Addr}{vs:List Oa}{k:Int}{tk:Tok}{Q:Oa->Od->Prop}(ht:Xv s.heap t vs.toArray)(h1:1<k)(h2:k<2 ^ 31)(hv:vs≠ [])(hz:vs.length*k.toNat<=sizeLine)
  (h:Q (.ref s.heap.objs.size) { s with heap:=s.heap.push { cls:=.type "tuple",data:=.seq (OJ k.toNat vs).flatten.toArray } }) :
  wpAny (model prog w) A (Qy .Mult (.ref t) (.int k tk)) Q E s:=by
 obtain⟨⟨cls,dd,data,sl⟩,ho,hc,n,hd⟩:=id ht;simp only at hc hd;subst hc hd
 have e:TQ (λa b=>a++b) #[] (OJ k.toNat vs.toArray)=(OJ k.toNat vs).flatten.toArray:=by
  have q:=L2.foldl_rep vs k.toNat []
  simpa using q
 refine TK (T:="tuple") (U:="int") (by decide) ⟨_,ho,rfl⟩ (λs'=>UZ s' k tk) mW W4 S8 tO WG.lookup
  (Se S8 (UZ s k tk) WH (V4 _ _) (xW k tk t vs.toArray n dd sl)
   ⟨ho,rfl,⟨_,ho,rfl⟩,Se Ui ⟨_,ho,rfl⟩ F.entry_tuple_mul (F.args_tuple_mul_2 _ _) (Dc t vs.toArray n dd sl k tk h1 h2 (by simpa using hv) (by simpa using hz) (by rw[e,Ox,L2.len_rep,Wq];exact hz)) ⟨ho,?_⟩⟩)
 rw[e];exact h
end
end Tm
namespace Tr
open PySem PySem.Spec PyProof.Rows L2
section
variable {X:Cx}
def cu (x y:T):Rs T:=match x,y with
 | .tup l,.int k=>if 1<k/\k<2 ^ 31/\l≠ []/\l.length*k.toNat<=sizeLine then .ok (.tup (OJ k.toNat l).flatten)else .bad
 | x,y=>yj x y
instance (l:List T):Decidable (l≠ []):=by cases l <;> simp <;> infer_instance
theorem df:OpT X (Qy .Mult) cu:=by
 intro pins s σ H O x y vx vy ux uy Q I hf rx ry r1 r2 hp;unfold cu at hp
 split at hp
 ·rename_i l k
  split at hp
  ·rename_i h
   obtain⟨a,vs,e1,n1,q1,z1⟩:=Rep.Fk.mp rx;subst e1;cases Rep.AC.mp ry;cases r1;obtain⟨tk,rfl⟩:=r2;obtain⟨its,rv,pl,hz⟩:=I.tuple (SqT.of q1)
   have hl1:=z1.length
   have hl2:=rv.length
   have hne:its≠ []:=λz=>h.2.2.1 (List.eq_nil_of_length_eq_zero (by rw[hl1,hl2,z];rfl))
   refine Tm.mul_tuple pl h.1 h.2.1 hne (by rw[<-hl2,<-hl1];exact h.2.2.2) ?_
   have hn:=I.hok.fresh (Ot _);refine⟨.ref _,_,I.laid (t':=s.toks) (o:=.tup (OJ k.toNat vs).flatten) (λb ob q=>Oh _ q) (Ot _) ?_,rfl,hp _ (aQ hn _) _ (gO hn (hf _ hn) (z1.rep _))⟩
   refine⟨?_,_,rv.rep k.toNat,Vw _ _⟩
   rw[len_rep,Wq,<-hl1];exact h.2.2.2
  ·exact hp.elim
 ·exact Jq pins s σ H O _ _ vx vy ux uy Q I hf rx ry r1 r2 hp
end
def Gm (outer:List (Str×RP))(N:List Str)(names:List (Str×RP))(N':List Str)(src:List (Option Nat)):Bool:=
 names.all (λy=>y.2 != .cell||names.lookup y.1 == some .cell)&&names.all (λy=>y.2 != .local||names.lookup y.1 == some .local)&&src.length == N'.length&&
 (On N'.length).all (λj=>match src[j]? with
  | some (some i)=>match N'[j]? with
   | some x=>N[i]? == some x&&names.lookup x == some .free
   | none=>true
  | _=>true)&&
 names.all (λy=>y.2 != .free||(outer.lookup y.1 == some .cell||outer.lookup y.1 == some .free))
theorem LcScope.by {X:Cx}{scope:RI}{N N':List Str}{src:List (Option Nat)}{names:List (Str×RP)}(hN:X.N=N)(hs:X.env.scope.names=names)(hk:scope.kind= .function)(h:Gm names N scope.names N' src=true):LcScope X scope N' src:=by
 unfold Gm at h;simp only[N9]at h;obtain⟨⟨⟨⟨h1,h2⟩,h3⟩,h4⟩,h5⟩:=h
 have a1:=OG.mp h1
 have a2:=OG.mp h2
 have a4:=OG.mp h4
 have a5:=OG.mp h5;refine⟨hk,λy hy hl=>by have:=a1 y hy;rw[hl]at this;simpa using this,λy hy hl=> ?_,by simpa using h3,λj i x e1 e2=> ?_,λx hx=> ?_⟩
 ·have:=a2 y hy
  rw[hl]at this
  simpa using this
 ·have hj:j<N'.length:=(Oi.mp e2).1
  have:=a4 j (OY.mpr hj);rw[e1]at this;simp only[e2]at this;rw[N9]at this;rw[hN];exact⟨by simpa using this.1,by simpa using this.2⟩
 ·have:=a5 _ hx
  simp only[bne_self_eq_false,Ua,Tc]at this
  show X.env.scope.names.lookup x=_\/X.env.scope.names.lookup x=_
  rw[hs];rcases this with z | z
  ·exact .inl (by simpa using z)
  ·exact .inr (by simpa using z)
def b8:Expr->Bool
 | .Starred .. =>false
 | _=>true
def bj:List Expr->Bool
 | [] =>true
 | e::r=>b8 e&&bj r
theorem bo {e:Expr}{es:List Expr}{env:Env}(h:b8 e=true):Oy (e::es) env=(false,eval e env)::Oy es env:=by
 cases e <;> first | rfl | cases h
theorem gh {pos:Pos}{env:Env}:∀{es:List Expr},bj es=true->(backTo pos (Oy es env)).any (·.1)=false
 | [],_=>rfl
 | e::r,h=>by
  unfold bj at h;rw[N9]at h;rw[bo h.1]
  have ih:=gh (pos:=pos) (env:=env) h.2
  show(false||(backTo pos (Oy r env)).any (·.1))=false
  rw[ih];rfl
section
variable {X:Cx}{a b e:Expr}{es:List Expr}{fa:En->Rs T}{fs:En->Rs (List T)}{pos p p2:Pos}{x:Str}
theorem qa_c {f:En->Rs T}{g:En->Rs (List T)}(he:c8 X e f)(hr:qS X es g)(hn:b8 e=true:=by rfl):qS X (e::es) (ae f g):=om he hr (bo hn)
theorem q_cB {id:String}{g:List T->Rs T}(hc:CallT X (.builtin id) g)(hm:X.mg x=none)(hv:Pb x=some (.builtin id))(ha:qS X (e::es) fs)(hn:bj (e::es)=true:=by rfl)(hg:Gl X x:=by rfl)(h1:autoParam (x≠ "__name__") s_)(h2:autoParam ((x == ("__debug__" : Str))=false) s_) :
  c8 X (.Call (.Name x p) (e::es) [] pos) (cl g fs):=by
 unfold bj at hn;rw[N9]at hn;exact zo hc hm hv ha hg h1 h2 (bo hn.1) (gh hn.2)
theorem q_cT {Ty:String}{g:List T->Rs T}(hc:CallT X (.type Ty) g)(hm:X.mg x=none)(hv:Pb x=some (.type Ty))(ha:qS X (e::es) fs)(hn:bj (e::es)=true:=by rfl)(hg:Gl X x:=by rfl)(h1:autoParam (x≠ "__name__") s_)(h2:autoParam ((x == ("__debug__" : Str))=false) s_) :
  c8 X (.Call (.Name x p) (e::es) [] pos) (cl g fs):=by
 unfold bj at hn;rw[N9]at hn;exact Cy hc hm hv ha hg h1 h2 (bo hn.1) (gh hn.2)
theorem q_c {n k:Nat}{f:Addr}{fd:PV}{ps:List Str}{g:List T->Rs T}(F:BK X.prog X.w X.K X.mg X.base k f fd ps n g)(hr:Room k X.A)(hm:X.mg x=some (.ref f))(hk:Qw X.K (.ref f)=true)(hb:Binds X.K fd ps [])
  (hl:∀Z ts,fs Z= .ok ts->ts.length=n) (ha:qS X (e::es) fs) (hps:ps.length=n:=by rfl) (hn:bj (e::es)=true:=by rfl) (hg:Gl X x:=by rfl) (h2:autoParam ((x == ("__debug__" : Str))=false) s_):c8 X (.Call (.Name x p) (e::es) [] pos) (cl g fs):=by
 unfold bj at hn;rw[N9]at hn;exact Jd F hr hm hk hb hps hl ha hg h2 (bo hn.1) (gh hn.2)
theorem q_is {tn:Str}{Ty:String}(hm:X.mg "isinstance" =none)(hmt:X.mg tn=none)(hv:Pb tn=some (.type Ty))(ha:c8 X a fa)(hn:b8 a=true:=by rfl)(hg:Gl X "isinstance":=by rfl)(hgt:Gl X tn:=by rfl)
  (h1:autoParam (tn≠ "__name__") s_) (h2:autoParam ((tn == ("__debug__" : Str))=false) s_):c8 X (.Call (.Name "isinstance" p) [a,.Name tn p2] [] pos) (o1 (Gz Ty) fa):=
 Ls hm hmt hv ha hg hgt h1 h2 (bo hn) (gh rfl) (bo rfl)
end
theorem HS (Z:En)(ts:List T)(h:aj Z= .ok ts):ts.length=0:=by cases h;rfl
theorem HR {n:Nat}{f:En->Rs T}{g:En->Rs (List T)}(hg:∀Z ts,g Z= .ok ts->ts.length=n)(Z:En)(ts:List T)(h:ae f g Z= .ok ts):ts.length=n+1:=by
 unfold ae at h
 cases q:f Z with
 | bad=>rw[q]at h;cases h
 | err c=>rw[q]at h;cases h
 | ok t=>
  rw[q,aH]at h
  cases q2:g Z with
  | bad=>rw[q2]at h;cases h
  | err c=>rw[q2]at h;cases h
  | ok r=>
   rw[q2,aH]at h;cases h;rw[Oj,hg Z r q2]
theorem gY {k:Nat}{A:OV}(h:Room k A):A.units+60<cLine:=by have:=h.un;omega
theorem Bb {k:Nat}{A:OV}(h:Room k A):A.units+61<cLine:=by have:=h.un;omega
structure Fn (K:N6)(mg:Str->Option Oa)(x:Str)(st:Stmt)(ps:List Str)(f:Addr)(fd:PV):Prop where
 fn:L2.Fun K x x st f fd
 bd:Binds K fd ps []
 mg:mg x=some (.ref f)
def val (n m:Nat)(F:En->Rs Fl)(ts:List T):Rs T:=if ts.length=n then fo F (bZ m ts)else .bad
theorem Ib {n m:Nat}{F:En->Rs Fl}{ts:List T}{t:T}(h:val n m F ts= .ok t):fo F (bZ m ts)= .ok t:=by
 unfold val at h
 split at h
 ·exact h
 ·cases h
theorem sp_script {K:N6}{H:Hp}{a:Addr}{ns:List Int}{g:List T->Rs T}{E:XK}(hS:SqL K H a (ns.map V.int))(h:g [.scr ns] = .ok (.bl true)):spP K 1 g [.ref a] H (λv _=>v= .bl true) E:=by
 refine⟨[.scr ns],λ_=>False,Reps.Gc ?_ Reps.GM,λ_ z=>z.elim,rfl,?_⟩
 ·unfold Rep;exact⟨a,rfl,λz=>z,hS⟩
 ·rw[h];exact λv H' _ r=>Rep.FM.mp r
theorem vD {α:Type}{l:List α}{i:Nat}{z:α}(h:l[i]? =some z):l.set i z=l:=by
 obtain⟨hi,rfl⟩:=Oi.mp h
 exact UH hi
def Mn.set (M:Mn)(i:Nat)(m:Ow):Mn:=λj=>if j=i then m else M j
theorem Mn.Nd {M:Mn}{i:Nat}{m:Ow}{a:Addr}(h:(M.set i m).u a):m a\/M.u a:=by
 obtain⟨j,h⟩:=h;unfold Mn.set at h
 by_cases z:j=i
 ·rw[if_pos z]at h;exact .inl h
 ·rw[if_neg z]at h;exact .inr ⟨j,h⟩
theorem Mn.NM {M:Mn}{i:Nat}{m:Ow}:M.set i m i=m:=by unfold Mn.set;rw[if_pos rfl]
theorem Mn.Nk {M:Mn}{i j:Nat}{m:Ow}(h:j≠i):M.set i m j=M j:=by unfold Mn.set;rw[if_neg h]
theorem RowsR.move {K:N6}{O O' P:Ow}{H H':Hp}(hP:∀a,P a->O a\/Nw K H a)(hO:∀a,O' a->O a\/Nw K H a)(h:SameO P H H'):∀{rs:List (List T×List T)} {as:List Addr},(∀b∈as,¬P b)->RowsR K O H rs as->RowsR K O' H' rs as
 | [],_,_,r=>r
 | _::_,_,hb,⟨b,bs,kvs,e1,e2,e3,e4,e5⟩=>by
  subst e1;exact⟨b,bs,kvs,rfl,h _ _ e2 (hb b Oe),e3,e4.move hP hO h,e5.move hP hO h λc hc=>hb c (N8 _ hc)⟩
theorem ORep.move {K:N6}{O O' P M:Ow}{H H':Hp}{o:OT}{v:V}(hP:∀a,P a->O a\/Nw K H a)(hO:∀a,O' a->O a\/Nw K H a)(h:SameO P H H')(hM:∀a,M a->¬ P a)(r:ORep K O M H o v):ORep K O' M H' o v:=by
 cases o with
 | lst l=>obtain⟨a,vs,e1,e2,e3,e4⟩:=r;exact⟨a,vs,e1,e2,h _ _ e3 (hM a ((e2 a).mpr rfl)),e4.move hP hO h⟩
 | dct ks ts=>obtain⟨a,kvs,e1,e2,e3,e4,e5⟩:=r;exact⟨a,kvs,e1,e2,h _ _ e3 (hM a ((e2 a).mpr rfl)),e4,e5.move hP hO h⟩
 | dd ks rows=>
  obtain⟨a,kvs,as,e1,e2,e3,e4,e5,e6,e7,e8⟩:=r;exact⟨a,kvs,as,e1,e2,e3,e4,h _ _ e5 (hM a ((e2 a).mpr (.inl rfl))),e6,e7,e8.move hP hO h λb hb=>hM b ((e2 b).mpr (.inr hb))⟩
theorem RowsR.mtb {K:N6}{O:Ow}{H:Hp}:∀{rs:List (List T×List T)} {as:List Addr},RowsR K O H rs as->∀b∈as,∃kvs,H b=some (.dT kvs)
 | [],_,r,b,hb=>by unfold RowsR at r;subst r;simp at hb
 | _::_,_,⟨b0,bs,kvs,e1,e2,e3,e4,e5⟩,b,hb=>by
  subst e1;rcases Og.mp hb with rfl | hb
  ·exact⟨kvs,e2⟩
  ·exact e5.mtb b hb
def OT.isD:OT->Bool
 | .lst _=>false
 | _=>true
theorem ORep.kind {K:N6}{O M:Ow}{H:Hp}{o:OT}{v:V}(r:ORep K O M H o v):∀a,M a->if o.isD then ∃kvs,H a=some (.dT kvs)else ∃vs,H a=some (.lst vs):=λa z=>by
 cases o with
 | lst l=>obtain⟨b,vs,e1,e2,e3,e4⟩:=r;cases (e2 a).mp z;exact⟨vs,e3⟩
 | dct ks ts=>obtain⟨b,kvs,e1,e2,e3,e4,e5⟩:=r;cases (e2 a).mp z;exact⟨kvs,e3⟩
 | dd ks rows=>
  obtain⟨b,kvs,as,e1,e2,e3,e4,e5,e6,e7,e8⟩:=r
  rcases(e2 a).mp z with z | z
  ·cases z;exact⟨kvs,e5⟩
  ·exact e8.mtb a z
theorem ORep.mtb {K:N6}{O M:Ow}{H:Hp}{o:OT}{v:V}(r:ORep K O M H o v)(a:Addr)(z:M a):Mtb H a:=by
 have:=r.kind a z
 split at this
 ·exact .inr this
 ·exact .inl this
theorem vH {K:N6}{O:Ow}{H:Hp}:∀{rs:List (List T×List T)} {as:List Addr},(∀b∈as,¬O b)->RowsR K O H rs as->Reps K O H (rs.map λr=>T.dct r.1 r.2) (as.map V.ref)
 | [],_,_,r=>by unfold RowsR at r;subst r;exact Reps.GM
 | _::_,_,hn,⟨b,bs,kvs,e1,e2,e3,e4,e5⟩=>by
  subst e1;exact Reps.Gc (Rep.FS.mpr ⟨b,kvs,rfl,hn b Oe,.inl e2,e3,e4⟩) (vH (λc hc=>hn c (N8 _ hc)) e5)
theorem RowsR.less {K:N6}{O O':Ow}{H:Hp}(sub:∀a,O' a->O a):∀{rs:List (List T×List T)} {as:List Addr},RowsR K O H rs as->RowsR K O' H rs as
 | [],_,r=>r
 | _::_,_,⟨b,bs,kvs,e1,e2,e3,e4,e5⟩=>⟨b,bs,kvs,e1,e2,e3,e4.less sub,e5.less sub⟩
theorem ORep.rep {K:N6}{O O' M:Ow}{H:Hp}{o:OT}{v:V}(sub:∀a,O' a->O a)(hn:∀a,M a->¬ O' a)(r:ORep K O M H o v):Rep K O' H o.view v:=by
 cases o with
 | lst l=>obtain⟨a,vs,e1,e2,e3,e4⟩:=r;exact Rep.Do.mpr ⟨a,vs,e1,hn a ((e2 a).mpr rfl),e3,e4.less sub⟩
 | dct ks ts=>obtain⟨a,kvs,e1,e2,e3,e4,e5⟩:=r;exact Rep.FS.mpr ⟨a,kvs,e1,hn a ((e2 a).mpr rfl),.inl e3,e4,e5.less sub⟩
 | dd ks rows=>
  obtain⟨a,kvs,as,e1,e2,e3,e4,e5,e6,e7,e8⟩:=r;refine Rep.FS.mpr ⟨a,kvs,e1,hn a ((e2 a).mpr (.inl rfl)),.inl e5,e6,?_⟩
  rw[e7];exact vH (λb hb=>hn b ((e2 b).mpr (.inr hb))) (e8.less sub)
section
variable {K:N6}{B:Ow}{M:Mn}{H H':Hp}{Z:En}{σ:L2.St}{i:Nat}{o o':OT}{v:V}{m:Ow}
theorem Ev.new (E:Ev K B M H Z σ)(hl:i<Z.length)(hm:∀a,m a->Nw K H a)(s:Same H H')(r:ORep K (OO B (M.set i m)) m H' o v) :
  Ev K B (M.set i m) H' (Z.set i (.ow o)) (σ.set i (some v))/\∀a,(M.set i m).u a->M.u a\/Nw K H a:=by
 have hls:i<σ.length:=by rw[<-E.env.len];exact hl
 have sub:∀a,(M.set i m).u a->M.u a\/Nw K H a:=λa z=>(Mn.Nd z).elim (λw=> .inr (hm a w)) .inl
 have subO:∀a,OO B (M.set i m) a->OO B M a\/Nw K H a:=λa z=>z.elim (λw=> .inl (.inl w)) λw=>(sub a w).elim (λy=> .inl (.inr y)) .inr
 have fO:∀a,Nw K H a->¬ OO B M a:=λa w z=>by
  obtain⟨o,e⟩:=(E.env.trk a z).some;rw[w.1]at e;cases e
 refine⟨⟨⟨by rw[P5,P5];exact E.env.len,λj t e=> ?_,λj o' e=> ?_,λj a z=> .inr ⟨j,z⟩,λj k a z1 z2=> ?_,λa z=> ?_⟩,λa z=> ?_⟩,sub⟩
 ·by_cases hj:i=j
  ·subst hj;rw[OW hl]at e;cases e
  ·rw[O4 hj]at e
   obtain⟨w,e1,e2⟩:=E.env.val j t e;exact⟨w,by rw[O4 hj];exact e1,(e2.more subO).same s⟩
 ·by_cases hj:i=j
  ·subst hj
   rw[OW hl]at e
   cases e;exact⟨v,OW hls,by rw[Mn.NM];exact r⟩
  ·rw[O4 hj]at e
   obtain⟨w,e1,e2⟩:=E.env.own j o' e;refine⟨w,by rw[O4 hj];exact e1,?_⟩
   rw[Mn.Nk (λz=>hj z.symm)]
   exact(e2.move (P:=zG) (λ_ z=>z.elim) subO (λb u q _=>q) λ_ _ z=>z).same s
 ·unfold Mn.set at z1 z2
  by_cases hj:j=i
  ·by_cases hk:k=i
   ·exact hj.trans hk.symm
   ·rw[if_pos hj]at z1;rw[if_neg hk]at z2
    exact(fO a (hm a z1) (.inr ⟨k,z2⟩)).elim
  ·by_cases hk:k=i
   ·rw[if_neg hj]at z1;rw[if_pos hk]at z2
    exact(fO a (hm a z2) (.inr ⟨j,z1⟩)).elim
   ·rw[if_neg hj]at z1;rw[if_neg hk]at z2
    exact E.env.dis j k a z1 z2
 ·rcases z with z | z
  ·exact(E.env.trk a (.inl z)).same s
  ·rcases Mn.Nd z with w | w
   ·exact r.mtb a w
   ·exact(E.env.trk a (.inr w)).same s
 ·intro hb
  rcases Mn.Nd z with w | w
  ·exact fO a (hm a w) (.inl hb)
  ·exact E.mine a w hb
theorem Ev.put (E:Ev K B M H Z σ)(hi:Z[i]? =some (.ow o))(hs:σ[i]? =some (some v))(s:SameO (M i) H H')(r:ORep K (OO B M) (M i) H' o' v):Ev K B M H' (Z.set i (.ow o')) σ/\SameO M.u H H':=by
 have hl:i<Z.length:=(Oi.mp hi).1
 have inO:∀a,M i a->OO B M a\/Nw K H a:=λa z=> .inl (.inr ⟨i,z⟩)
 have idO:∀a,OO B M a->OO B M a\/Nw K H a:=λa z=> .inl z
 refine⟨⟨⟨by rw[P5];exact E.env.len,λj t e=> ?_,λj o2 e=> ?_,E.env.sub,E.env.dis,λa z=> ?_⟩,E.mine⟩,λb u e n=>s b u e λz=>n ⟨i,z⟩⟩
 ·by_cases hj:i=j
  ·subst hj;rw[OW hl]at e;cases e
  ·rw[O4 hj]at e
   obtain⟨w,e1,e2⟩:=E.env.val j t e;exact⟨w,e1,e2.move inO idO s⟩
 ·by_cases hj:i=j
  ·subst hj
   rw[OW hl]at e
   cases e;exact⟨v,hs,r⟩
  ·rw[O4 hj]at e
   obtain⟨w,e1,e2⟩:=E.env.own j o2 e;exact⟨w,e1,e2.move inO idO s λa z y=>hj (E.env.dis i j a y z)⟩
 ·by_cases hz:M i a
  ·exact r.mtb a hz
  ·rcases E.env.trk a z with⟨vs,e⟩ | ⟨kvs,e⟩
   ·exact .inl ⟨vs,s _ _ e hz⟩
   ·exact .inr ⟨kvs,s _ _ e hz⟩
def disown (i:Nat)(Z:En):En:=match Z[i]? with
 | some (.ow o)=>Z.set i (.va o.view)
 | _=>Z
theorem EnvM.disown {O O':Ow}{Z:En}(E:EnvM K O M H Z σ)(i:Nat)(sub:∀a,O' a->O a)(hn:∀a,M i a->¬ O' a)(hin:∀j a,j≠i->M j a->O' a):EnvM K O' (M.set i zG) H (disown i Z) σ:=by
 have base:EnvM K O' (M.set i zG) H (Z.set i (match Z[i]? with | some (.ow o)=> .va o.view | some x=>x | none=> .em)) σ:=by
  refine⟨by rw[P5];exact E.len,λj t e=> ?_,λj o e=> ?_,λj a z=> ?_,λj k a z1 z2=> ?_,λa z=>E.trk a (sub a z)⟩
  ·by_cases hj:i=j
   ·subst hj
    by_cases hl:i<Z.length
    ·rw[OW hl]at e
     cases q:Z[i]? with
     | none=>rw[q]at e;cases e
     | some z=>
      rw[q]at e
      cases z with
      | em=>cases e
      | va t'=>cases e;obtain⟨w,e1,e2⟩:=E.val i _ q;exact⟨w,e1,e2.less sub⟩
      | ow o=>cases e;obtain⟨w,e1,e2⟩:=E.own i _ q;exact⟨w,e1,e2.rep sub hn⟩
    ·rw[PP (by rw[P5];omega)]at e;cases e
   ·rw[O4 hj]at e
    obtain⟨w,e1,e2⟩:=E.val j t e;exact⟨w,e1,e2.less sub⟩
  ·by_cases hj:i=j
   ·subst hj
    by_cases hl:i<Z.length
    ·rw[OW hl]at e
     cases q:Z[i]? with
     | none=>rw[q]at e;cases e
     | some z=>
      rw[q]at e
      cases z with
      | em=>cases e
      | va t'=>cases e
      | ow o=>cases e
    ·rw[PP (by rw[P5];omega)]at e;cases e
   ·rw[O4 hj]at e
    obtain⟨w,e1,e2⟩:=E.own j o e;refine⟨w,e1,?_⟩
    rw[Mn.Nk (λz=>hj z.symm)]
    exact e2.move (P:=zG) (λ_ z=>z.elim) (λa z=> .inl (sub a z)) (λb u q _=>q) λ_ _ z=>z
  ·unfold Mn.set at z
   by_cases hj:j=i
   ·rw[if_pos hj]at z;exact z.elim
   ·rw[if_neg hj]at z;exact hin j a hj z
  ·unfold Mn.set at z1 z2
   by_cases hj:j=i
   ·rw[if_pos hj]at z1;exact z1.elim
   ·by_cases hk:k=i
    ·rw[if_pos hk]at z2;exact z2.elim
    ·rw[if_neg hj]at z1;rw[if_neg hk]at z2;exact E.dis j k a z1 z2
 unfold Tr.disown
 cases q:Z[i]? with
 | none=>rw[q,List.set_eq_of_length_le (List.getElem?_eq_none_iff.mp q)]at base;exact base
 | some z=>
  rw[q]at base
  cases z with
  | em=>rw[vD q]at base;exact base
  | va t=>rw[vD q]at base;exact base
  | ow o=>exact base
theorem Ev.disown (E:Ev K B M H Z σ)(i:Nat):Ev K B (M.set i zG) H (disown i Z) σ/\∀a,(M.set i zG).u a->M.u a:=by
 have sub:∀a,(M.set i zG).u a->M.u a:=λa z=>(Mn.Nd z).elim (λw=>w.elim) id
 refine⟨⟨E.env.disown i (λa z=>z.elim .inl λw=> .inr (sub a w)) (λa z y=> ?_) λj a hj z=> .inr ⟨j,by rw[Mn.Nk hj];exact z⟩,λa z=>E.mine a (sub a z)⟩,sub⟩
 rcases y with y | ⟨j,y⟩
 ·exact E.mine a ⟨i,z⟩ y
 ·unfold Mn.set at y
  by_cases hj:j=i
  ·rw[if_pos hj]at y;exact y
  ·rw[if_neg hj]at y;exact hj (E.env.dis j i a y z)
end
section
variable {X:Cx}{a:Expr}{es:List Expr}{fa:En->Rs T}{pos p2 p3:Pos}{x:Str}
theorem Ev.subO {K:N6}{B:Ow}{M:Mn}{H:Hp}{i:Nat}{m:Ow}(hm:∀a,m a->Nw K H a)(a:Addr)(z:OO B (M.set i m) a):OO B M a\/Nw K H a:=
 z.elim (λw=> .inl (.inl w)) λw=>(Mn.Nd w).elim (λy=> .inr (hm a y)) λy=> .inl (.inr y)
theorem lV {K:N6}{H H1:Hp}(s:Same H H1){a:Addr}(n:Nw K H1 a):Nw K H a:=(i9 (SameO.of (P:=zG) s) n).elim (λz=>z.elim) id
def KZ (X:Cx)(t:TA):TE:=λσ H Q=>t σ H λxs H1=>xs.length<=sizeLine/\∀p,Nw X.K H1 p->Q (.ref p) (upd H1 p (.lst xs))
theorem F5 {t:TA}(h:PA X es t):PE X (.List es pos) (KZ X t):=by
 intro pins s σ H Q I hq;refine VP (cL (h pos pins s σ H _ I hq) λus s1 ⟨xs,H1,I1,r,z,q⟩=>⟨by rw[<-r.length];exact z,?_⟩)
 have hf:H1 s1.heap.objs.size=none:=I1.hok.fresh (Ot _)
 have hk:X.K.lookup s1.heap.objs.size=none:=by
  cases q:X.K.lookup s1.heap.objs.size with
  | none=>rfl
  | some o=>exact absurd (Ou (I1.kIn _ o q)) (O9 _)
 refine⟨.ref s1.heap.objs.size,upd H1 s1.heap.objs.size (.lst xs),I1.laid (t':=s1.toks) (λb u e=>Oh _ e) (Ot _) ?_,rfl,q _ ⟨hf,hk⟩⟩
 exact⟨z,us,0,r,Oz _ rfl⟩
def jx (i:Nat)(f:En->Rs (List T))(Z:En):Rs Fl:=do
 let l <-f Z
 if i<Z.length/\l.length<=sizeLine then .ok (.nx (Z.set i (.ow (.lst l))))else .bad
theorem FE (i:Nat){f:En->Rs (List T)}(hN:X.N.Nodup)(ha:qS X es f)(hi:X.N[i]? =some x:=by rfl)(hx:autoParam (Loc X.env.scope x) x_)(hs:P6 (.List es p2) (some (.Name x p3)) pos.line X.env=pure false:=by rfl)
  (hf:autoParam (X.fn x=true\/X.env.scope.names.lookup x=some .local) r_):qP X (.Assign [.Name x p3] (.List es p2) pos) (jx i f):=PS.imp (pz hN hi hx (F5 ha) hs hf) λD σ H hh_=>by
 obtain⟨Z,B,M,E,h⟩:=hh_;refine⟨Z,OO B M,E.o,?_⟩
 unfold jx at h
 cases q:f Z with
 | bad=>rw[q]at h;exact h.elim
 | err c=>rw[q]at h;exact PostF.xa h
 | ok l=>
  rw[q,aH]at h;intro H1 s1 vs rs
  by_cases hl:i<Z.length/\l.length<=sizeLine
  ·rw[if_pos hl]at h
   refine⟨by rw[<-rs.length];exact hl.2,λp hp=> ?_⟩
   have hm:∀a,a=p->Nw X.K H1 a:=λa z=>z▸hp
   obtain⟨E2,sub⟩:=(E.same s1).new (m:=λa=>a=p) (o:=.lst l) (v:=.ref p) (H':=upd H1 p (.lst vs)) hl.1 hm (aQ hp.1 _) ⟨p,vs,rfl,λb=>S9,aI,(rs.more (Ev.subO hm)).same (aQ hp.1 _)⟩
   exact h _ _ _ (SameO.of (s1.trans (aQ hp.1 _))) E2 λa z=>(sub a z).imp_right (lV s1)
  ·rw[if_neg hl]at h
   exact h.elim
def iQ (i:Nat)(f:En->Rs T)(Z:En):Rs Fl:=match Z[i]? with
 | some (.ow (.lst l))=>f Z >>= λt=>if l.length<sizeLine then .ok (.nx (Z.set i (.ow (.lst (l++ [t])))))else .bad
 | _=> .bad
theorem Ev.putL {K:N6}{B:Ow}{M:Mn}{H:Hp}{Z:En}{σ:L2.St}{i:Nat}{o:OT}{l':List T}{b:Addr}{vs':List V}(E:Ev K B M H Z σ)(hi:Z[i]? =some (.ow o))(hs:σ[i]? =some (some (.ref b)))(hM:∀c,M i c↔c=b)(r:Reps K (OO B M) H l' vs') :
  Ev K B M (upd H b (.lst vs')) (Z.set i (.ow (.lst l'))) σ/\SameO M.u H (upd H b (.lst vs')):=by
 have sm:SameO (M i) H (upd H b (.lst vs')):=λc u e nb=>by rw[aG (λz=>nb ((hM c).mpr z))];exact e
 exact E.put hi hs sm ⟨b,vs',rfl,hM,aI,r.move (P:=M i) (λa z=> .inl (.inr ⟨i,z⟩)) (λa z=> .inl z) sm⟩
theorem IW (i:Nat){apos cpos:Pos}(ha:c8 X a fa)(hN:X.N[i]? =some x:=by rfl)(hv:autoParam (uY X.env.scope x) u_)(hn:b8 a=true:=by rfl)
  (hbase:Qz (.Name x p2) "append" X.env (eval (.Name x p2) X.env)=eval (.Name x p2) X.env:=by rfl) (hline:(apos.endLine == cpos.line)=true:=by rfl)
  (hd:autoParam ((x == ("__debug__" : Str))=false) s_) (hcd:autoParam ((x == ("__classdict__" : Str))=false) s_)
  (hsw:P6 (.Call (.Attribute (.Name x p2) "append" apos) [a] [] cpos) none pos.line X.env=pure false:=by rfl):qP X (.Expr (.Call (.Attribute (.Name x p2) "append" apos) [a] [] cpos) pos) (iQ i fa):=by
 have h1:Oy [a] X.env=(false,eval a X.env)::Oy [] X.env:=bo hn;refine PS.imp (tS (zA QM PySem.F.slot_list_append PySem.F.type_list_append rY (i8 hN hv hd hcd) (bF ha dQ h1) hbase ?_ hline h1 rfl) hsw) λD σ H ⟨Z,B,M,E,h⟩=> ?_
 ·rw[h1];rfl
 unfold iQ at h
 split at h
 ·rename_i l hl
  obtain⟨v0,e1,b,vs,rfl,hM,e3,e4⟩:=E.env.own i _ hl;refine⟨.ref b,e1,.inl ⟨rfl,vs,SqL.of e3⟩,Z,OO B M,E.o,?_⟩
  cases q:fa Z with
  | bad=>rw[q]at h;exact h.elim
  | err c=>rw[q]at h;exact PostF.xa h
  | ok t=>
   rw[q,aH]at h
   split at h
   ·rename_i hz
    intro H1 s1 v r
    have e3':=s1 _ _ e3;refine⟨b,vs,v,rfl,rfl,e3',by rw[<-e4.length];exact hz,?_⟩
    obtain⟨g1,g2⟩:=(E.same s1).putL (l':=l++ [t]) (vs':=vs++ [v]) hl e1 hM ((e4.same s1).append (Reps.Gc r Reps.GM));exact h σ _ M (λc o e nb=>g2 c o (s1 _ _ e) nb) g1 λc z=> .inl z
   ·exact h.elim
 ·exact h.elim
def Kf (i:Nat)(l:List T)(Z:En):T->Rs Fl
 | .lst m=>if l.length+m.length<=sizeLine then .ok (.nx (Z.set i (.ow (.lst (l++m)))))else .bad
 | _=> .bad
def pw (i:Nat)(f:En->Rs T)(Z:En):Rs Fl:=match Z[i]? with
 | some (.ow (.lst l))=>f Z >>= Kf i l Z
 | _=> .bad
theorem IS (i:Nat){apos cpos:Pos}(ha:c8 X a fa)(hN:X.N[i]? =some x:=by rfl)(hv:autoParam (uY X.env.scope x) u_)(hn:b8 a=true:=by rfl)
  (hbase:Qz (.Name x p2) "extend" X.env (eval (.Name x p2) X.env)=eval (.Name x p2) X.env:=by rfl) (hline:(apos.endLine == cpos.line)=true:=by rfl)
  (hd:autoParam ((x == ("__debug__" : Str))=false) s_) (hcd:autoParam ((x == ("__classdict__" : Str))=false) s_)
  (hsw:P6 (.Call (.Attribute (.Name x p2) "extend" apos) [a] [] cpos) none pos.line X.env=pure false:=by rfl):qP X (.Expr (.Call (.Attribute (.Name x p2) "extend" apos) [a] [] cpos) pos) (pw i fa):=by
 have h1:Oy [a] X.env=(false,eval a X.env)::Oy [] X.env:=bo hn;refine PS.imp (tS (zA QM PySem.F.slot_list_extend PySem.F.type_list_extend AW (i8 hN hv hd hcd) (bF ha dQ h1) hbase ?_ hline h1 rfl) hsw) λD σ H ⟨Z,B,M,E,h⟩=> ?_
 ·rw[h1];rfl
 unfold pw at h
 split at h
 ·rename_i l hl
  obtain⟨v0,e1,b,vs,rfl,hM,e3,e4⟩:=E.env.own i _ hl;refine⟨.ref b,e1,.inl ⟨rfl,vs,SqL.of e3⟩,Z,OO B M,E.o,?_⟩
  cases q:fa Z with
  | bad=>rw[q]at h;exact h.elim
  | err c=>rw[q]at h;exact PostF.xa h
  | ok t=>
   rw[q,aH]at h;unfold Kf at h
   split at h
   ·rename_i m
    split at h
    ·rename_i hz
     intro H1 s1 v r;obtain⟨c,ws,rfl,nO,hc,rm⟩:=Rep.Do.mp r
     have e3':=s1 _ _ e3;refine⟨b,c,vs,ws,rfl,rfl,e3',hc,by rw[<-e4.length,<-rm.length];exact hz,?_⟩
     obtain⟨g1,g2⟩:=(E.same s1).putL (l':=l++m) (vs':=vs++ws) hl e1 hM ((e4.same s1).append rm);exact h σ _ M (λc o e nb=>g2 c o (s1 _ _ e) nb) g1 λc z=> .inl z
    ·exact h.elim
   ·exact h.elim
 ·exact h.elim
def nV (i:Nat)(F:En->Rs Fl)(Z:En):Rs Fl:=F (disown i Z)
theorem IT (i:Nat){st:Stmt}{F:En->Rs Fl}(h:qP X st F):qP X st (nV i F):=PS.imp h λD σ H hh_=>by
 obtain⟨Z,B,M,E,q⟩:=hh_;obtain⟨E',sub⟩:=E.disown i;exact⟨disown i Z,B,_,E',PostF.later q (λ_ _ e _=>e) λa z=> .inl (sub a z)⟩
mutual
def T.nk (D:Bool):T->Bool
 | .scr _=>false
 | .dct _ ts=> !D&&nks D ts
 | .lst l=>D&&nks D l
 | .tup l=>nks D l
 | _=>true
def nks (D:Bool):List T->Bool
 | [] =>true
 | t::l=>t.nk D&&nks D l
end
mutual
theorem Rep.lend {K:N6}{O O':Ow}{H:Hp}{D:Bool}(hk:∀a,O a->O' a\/if D then ∃kvs,Rd H a (.dT kvs)else ∃vs,H a=some (.lst vs)):∀{t:T} {v:V},t.nk D=true->Rep K O' H t v->Rep K O H t v
 | .non,_,_,r=>by unfold Rep at r ⊢;exact r
 | .bl _,_,_,r=>by unfold Rep at r ⊢;exact r
 | .int _,_,_,r=>by unfold Rep at r ⊢;exact r
 | .str _,_,_,r=>by unfold Rep at r ⊢;exact r
 | .tup l,_,h,r=>by
  unfold Rep at r ⊢;unfold T.nk at h;obtain⟨a,vs,e,n,q,z⟩:=r;refine⟨a,vs,e,λp=>(hk a p).elim n λw=> ?_,q,Reps.lend hk h z⟩
  split at w
  ·obtain⟨_,w | ⟨_,w⟩⟩:=w <;> rw[q]at w <;> cases w
  ·obtain⟨_,w⟩:=w;rw[q]at w;cases w
 | .lst l,_,h,r=>by
  unfold Rep at r ⊢;unfold T.nk at h;rw[N9]at h;obtain⟨h1,h2⟩:=h;subst h1;obtain⟨a,vs,e,n,q,z⟩:=r;refine⟨a,vs,e,λp=>(hk a p).elim n λw=> ?_,q,Reps.lend hk h2 z⟩
  rw[if_pos rfl]at w;obtain⟨_,w | ⟨_,w⟩⟩:=w <;> rw[q]at w <;> cases w
 | .scr l,_,h,r=>by unfold T.nk at h;cases h
 | .dct ks ts,_,h,r=>by
  unfold Rep at r ⊢;unfold T.nk at h;rw[N9]at h;obtain⟨h1,h2⟩:=h
  cases D with
  | true=>cases h1
  | false=>
   obtain⟨a,kvs,e,n,q,k,z⟩:=r;refine⟨a,kvs,e,λp=>(hk a p).elim n λw=> ?_,q,k,Reps.lend hk h2 z⟩
   rw[if_neg OF]at w;obtain⟨_,w⟩:=w;rcases q with q | ⟨_,q⟩ <;> rw[q]at w <;> cases w
theorem Reps.lend {K:N6}{O O':Ow}{H:Hp}{D:Bool}(hk:∀a,O a->O' a\/if D then ∃kvs,Rd H a (.dT kvs)else ∃vs,H a=some (.lst vs)):∀{l:List T} {vs:List V},nks D l=true->Reps K O' H l vs->Reps K O H l vs
 | [],_,_,r=>by unfold Reps at r ⊢;exact r
 | t::l,_,h,r=>by
  unfold Reps at r ⊢;unfold nks at h;rw[N9]at h;obtain⟨v,ws,e,p,q⟩:=r;exact⟨v,ws,e,Rep.lend hk h.1 p,Reps.lend hk h.2 q⟩
end
def ln (i:Nat)(f:En->Rs T)(Z:En):Rs T:=match Z[i]? with
 | some (.ow o)=>f (disown i Z) >>= λt=>if t.nk o.isD=true then .ok t else .bad
 | _=>f Z
def JN (i:Nat)(f:En->Rs Bool)(Z:En):Rs Bool:=f (disown i Z)
theorem sR {K:N6}{O:Ow}{M:Mn}{H:Hp}{Z:En}{σ:L2.St}(E:EnvM K O M H Z σ)(i:Nat):EnvM K (λa=>O a/\¬ M i a) (M.set i zG) H (disown i Z) σ:=
 E.disown i (λa z=>z.1) (λa z y=>y.2 z) λj a hj z=>⟨E.sub j a z,λy=>hj (E.dis j i a z y)⟩
theorem q_ln (i:Nat){e:Expr}{f:En->Rs T}(h:c8 X e f):c8 X e (ln i f):=PE.imp h λσ H Q ⟨Z,O,⟨M,E⟩,q⟩=>by
 unfold ln at q
 split at q
 ·rename_i o hi
  refine⟨disown i Z,_,⟨_,sR E i⟩,?_⟩
  obtain⟨w,e1,r⟩:=E.own i o hi;refine Post.mono (Post.bind q) λt H' s q2 v rv=> ?_
  split at q2
  ·rename_i hk
   have kd:=(r.same s).kind;refine q2 H' (Same.refl _) v (Rep.lend (λa z=> ?_) hk rv)
   by_cases hm:M i a
   ·refine .inr ?_
    have this:=kd a hm
    by_cases hD:o.isD=true
    ·rw[if_pos hD]at this ⊢;exact this.imp λ_ z=> .inl z
    ·rw[if_neg hD]at this ⊢;exact this
   ·exact .inl ⟨z,hm⟩
  ·exact q2.elim
 ·exact⟨Z,O,⟨M,E⟩,q⟩
theorem Lg (i:Nat){e:Expr}{f:En->Rs Bool}(h:xw X e f):xw X e (JN i f):=PT.imp h λσ H Q ⟨Z,O,⟨M,E⟩,q⟩=>⟨disown i Z,_,⟨_,sR E i⟩,q⟩
end
end Tr
namespace Tr
open PySem L2
def lC:List T->List T->List Key->Option T
 | k'::ks,v::vs,k=>if keyOf k'=some k then some v else lC ks vs k
 | _,_,_=>none
def hV (k v:T):List T->List T->List T×List T
 | k'::ks,v'::vs=>if keyOf k'=keyOf k then(k'::ks,v::vs)else(k'::(hV k v ks vs).1,v'::(hV k v ks vs).2)
 | _,_=>([k],[v])
def bP (x y:T):Rs T:=match x,keyOf y with
 | .dct ks vs,some k=>match lC ks vs k with
  | some t=> .ok t
  | none=> .bad
 | _,_=> .bad
def jA (x y:T):Rs T:=match x,keyOf y with
 | .dct ks vs,some k=>match lC ks vs k with
  | some t=> .ok t
  | none=> .ok .non
 | _,_=> .bad
def Bk (x y:T):Rs T:=match y,keyOf x with
 | .dct ks vs,some k=> .ok (.bl (lC ks vs k).isSome)
 | _,_=> .bad
def oD (g:T->T->Rs T)(fa fb:En->Rs T)(Z:En):Rs T:=fa Z >>= λx=>match x with
 | .dct ks vs=>fb Z >>= g (.dct ks vs)
 | _=> .bad
def oL (g:T->T->Rs T)(fa fb:En->Rs T)(Z:En):Rs T:=fa Z >>= λx=>match x with
 | .lst l=>fb Z >>= g (.lst l)
 | _=> .bad
def KI:List T->Option (List (T×T))
 | [] =>some []
 | .tup [k,v] ::l=>match keyOf k,KI l with
  | some _,some r=>some ((k,v)::r)
  | _,_=>none
 | _=>none
def jX:List (T×T)->List T×List T->List T×List T
 | [],d=>d
 | (k,v)::r,d=>jX r (hV k v d.1 d.2)
def Aj:List T->Rs T
 | [.lst l] =>match KI l with
  | some ps=>if l.length<=1000 then .ok (.dct (jX ps ([],[])).1 (jX ps ([],[])).2)else .bad
  | none=> .bad
 | _=> .bad
def nN:List T->Bool
 | [] =>true
 | k::l=>(keyOf k).isSome&&nN l
def rN (i:Nat)(f:En->Rs T)(Z:En):Rs Fl:=f Z >>= λt=>Aj [t] >>= λd=>match d with
 | .dct ks vs=>if i<Z.length then .ok (.nx (Z.set i (.ow (.dct ks vs))))else .bad
 | _=> .bad
def AF (i:Nat)(fk fv:En->Rs T)(Z:En):Rs Fl:=match Z[i]? with
 | some (.ow (.dct ks vs))=>fv Z >>= λv=>fk Z >>= λk=>match keyOf k with
  | some _=>if ks.length<1000 then .ok (.nx (Z.set i (.ow (.dct (hV k v ks vs).1 (hV k v ks vs).2))))else .bad
  | none=> .bad
 | _=> .bad
def pq (i j:Nat)(Z:En):Rs Fl:=match Z[j]? with
 | some (.va (.lst l))=>if i<Z.length/\nN l=true/\(l.map keyOf).Nodup/\l.length<=1000 then .ok (.nx (Z.set i (.ow (.dd l (l.map λ_=>(l,l.map λ_=> .non))))))else .bad
 | _=> .bad
def rf:List T->List (List T×List T)->List Key->Option (List T×List T)
 | k'::ks,r::rs,k=>if keyOf k'=some k then some r else rf ks rs k
 | _,_,_=>none
def q0 (k:List Key)(x:List T×List T):List T->List (List T×List T)->List (List T×List T)
 | k'::ks,r::rs=>if keyOf k'=some k then x::rs else r::q0 k x ks rs
 | _,rs=>rs
def jw (i:Nat)(fa fb fv:En->Rs T)(Z:En):Rs Fl:=match Z[i]? with
 | some (.ow (.dd ks rows))=>fv Z >>= λv=>fa Z >>= λa=>match(keyOf a).bind λka=>(rf ks rows ka).map λr=>(ka,r)with
  | some (ka,r)=>fb Z >>= λb=>if (keyOf b).isSome=true/\r.1.length<1000 then .ok (.nx (Z.set i (.ow (.dd ks (q0 ka (hV b v r.1 r.2) ks rows)))))else .bad
  | none=> .bad
 | _=> .bad
def gj:List T->Option (List Int)
 | [] =>some []
 | .int i::l=>(gj l).map (i:: ·)
 | _=>none
def lmin (i:Int):List Int->Int
 | [] =>i
 | j::l=>lmin (if j<i then j else i) l
def mY (i:Int):List Int->Int
 | [] =>i
 | j::l=>mY (if i<j then j else i) l
def Df:List T->Rs T
 | [.lst l] =>match gj l with
  | some (i::ns)=> .ok (.int (mY i ns))
  | _=> .bad
 | [.int i,.int j] => .ok (.int (mY i [j]))
 | _=> .bad
def kI (x:T):List T->Nat->Option Nat
 | [],_=>none
 | t::l,n=>if aS t x then some n else kI x l (n+1)
def ik (y x:T):Rs T:=match y with
 | .lst l=>if (x.dep<=60\/deps l<=60)/\x.nd=true/\nds l=true then match kI x l 0 with
   | some n=> .ok (.int n)
   | none=> .bad
  else .bad
 | _=> .bad
def AD (ms:List (List T->Rs T))(f0:En->Rs T)(fs:En->Rs (List T))(Z:En):Rs T:=f0 Z >>= λk=>match k with
 | .int i=>match L2.atI ms i with
  | some m=>fs Z >>= m
  | none=> .bad
 | _=> .bad
def B9 (i:Nat)(f:En->Rs T)(Z:En):Rs Fl:=match Z[i]? with
 | some (.va (.int a))=>f Z >>= λy=>match y with
  | .int b=> .ok (.nx (Z.set i (.va (.int (a+b)))))
  | _=> .bad
 | _=> .bad
def lR (f:En->Rs (List T))(Z:En):Rs T:=f Z >>= λx=>match x with
 | [.int i,.int j] =>if mf i&&mf j&&decide ((j - i).toNat<=1000)then .ok (.lst (rng i j))else .bad
 | [.int j] =>if mf j&&decide (j.toNat<=1000)then .ok (.lst (rng 0 j))else .bad
 | _=> .bad
def Mh (f:En->Rs (List T))(Z:En):Rs (List T):=f Z >>= λx=>match x with
 | [.int i,.int j,.int (-1)] =>if mf i&&mf j then .ok ((On (i - j).toNat).map λ(k:Nat)=>T.int (i - (k:Int)))else .bad
 | _=> .bad
def FU:Nat:=1000000000000
end Tr
namespace Tr
open PySem PySem.Spec PyProof.Rows L2
theorem iC {h b b':Heap}:∀{l:List Env},h.FunFrames b l->(∀a∈l.filterMap (·.frame),b'.get? a=none)->h.FunFrames b' l
 | [],_,_=>trivial
 | env::dv,⟨hk,⟨L,o,hf,hn,ho,hd⟩,hr⟩,q=>by
  rw[P8,hf]at q;exact⟨hk,⟨L,o,hf,q L Oe,ho,hd⟩,iC hr λa ha=>q a (N8 _ ha)⟩
section
variable {M:Xh}{A:OV}{E:Oa->Od->Prop}{s:Od}
structure Ha (fs:List Addr)(C e:Addr)(T:Option Addr)(h h':Heap)(T':Addr):Prop where
 flt:MK h' C e (some T')
 new:T=some T'\/h.get? T'=none
 keep:∀b o,b∉fs->b≠e->T≠some b->h.get? b=some o->h'.get? b=some o
 slot:∀b o,b∈fs->h.get? b=some o->∃sl,h'.get? b=some { o with slots:=sl }
theorem JO {base:Heap}{env:Env}{outer:List Env}{L C e:Addr}{T:Option Addr}{Q:Unit->Od->Prop}(hfr:A.frames=some (env::outer))(hl:s.heap.FunFrames base (env::outer))(hf:env.frame=some L)
  (F:MK s.heap C e T) (h:∀h' T',Ha ((env::outer).filterMap (·.frame)) C e T s.heap h' T'->Q () { s with heap:=h' }):wpAny M A (leaving env (.ref e)) Q E s:=by
 generalize hB:Uy s.heap (e::(T.toList++(env::outer).filterMap (·.frame)))=B
 have bm:∀b,b∈e::(T.toList++(env::outer).filterMap (·.frame))->B.get? b=none:=λb m=>by rw[<-hB];exact SY _ m
 have hl':s.heap.FunFrames B (env::outer):=iC hl λa ha=>bm a (N8 _ (OK _ ha))
 have hst:B.StaysIn s.heap:=λb o q=>by rw[<-hB]at q;exact Ts _ q
 have hen:B.get? e=none:=bm e Oe
 have main:∀h',Heap.Left B (env::outer) e (.ref C) s.heap h'->Q () { s with heap:=h' }:=λh' ⟨x1,x2,⟨oe,vs,T',oT,ts,he,hc,hd,h1,hnT,hTe,hT,hdT,h3⟩,x4⟩=>by
  refine h h' T' ⟨⟨hTe,oe,vs,he,hc,hd,h1,oT,ts,hT,hdT,h3⟩,?_,λb o n1 n2 n3 q=> ?_,λb o m q=> ?_⟩
  ·cases q:s.heap.get? T' with
   | none=>exact .inr rfl
   | some o=>
    left
    by_cases z:T'∈e::(T.toList++(env::outer).filterMap (·.frame))
    ·rcases Og.mp z with z | z
     ·exact absurd z hTe
     ·rcases OR.mp z with z | z
      ·cases T with
       | none=>simp at z
       | some t=>simp at z;rw[z]
      ·obtain⟨_,o',ho',hnf⟩:=x2.mem z
       rw[hT]at ho';cases ho';exact absurd hdT (hnf ts)
    ·rw[<-hB,Rm _ q z]at hnT;cases hnT
  ·refine x1 b o ?_
   rw[<-hB];refine Rm _ q λz=> ?_
   rcases Og.mp z with z | z
   ·exact n2 z
   ·rcases OR.mp z with z | z
    ·cases T with
     | none=>simp at z
     | some t=>simp at z;exact n3 (by rw[z])
    ·exact n1 z
  ·obtain⟨_,o',ho',hnf⟩:=hl.mem m
   rw[q]at ho';cases ho';exact x4 b o q hnf
 cases T with
 | none=>
  obtain⟨oe,vs,he,hc,hd,h1⟩:=F;refine wpAny_leaving_first hfr hl' hf he hst hen hd h1 λh' x=>main h' ?_
  rw[hc]at x;exact x
 | some t=>
  obtain⟨hte,oe,vs,he,hc,hd,h1,oT,ts,hT,hdT,h3⟩:=F;exact wpAny_leaving_next hfr hl' hf ⟨oe,vs,t,oT,ts,he,hc,hd,h1,bm t (N8 _ (O8 _ (by simp))),hte,hT,hdT,h3⟩ hst hen main
end
abbrev oj:List Oa:=[.type "ValueError",.type "Exception",.type "BaseException",.type "object"]
structure OwnExc (K:N6)(C:Addr)(bm:List Oa):Prop where
 at_:∀h:Heap,K.In h->∃nm q N bs hdct sn sub ab col dd k0 k1 k2 k3 k5 mN,h.get? C=some (PY nm q C N bs bm hdct sn sub ab col dd k0 k1 k2 k3 k5 "ValueError.__new__")/\h.Ns N mN/\mN "__init__" =none/\OwnTail h oj bm
theorem OwnExc.base {K:N6}{C:Addr}{bm:List Oa}(O:OwnExc K C bm){h:Heap}(k:K.In h):bm.contains (.type "BaseException")=true:=by
 obtain⟨_,_,_,_,_,_,_,_,_,_,_,_,_,_,_,_,_,_,_,T⟩:=O.at_ h k;exact T.hasType (by decide)
def B8 (c:Str)(_:En):Rs Fl:=.err c
section
variable {X:Cx}
theorem Cq {c:Str}{msg:Str}{C:Addr}{bm:List Oa}{np p1 cpos pos:Pos}{j:Nat}(O:OwnExc X.K C bm)(hc:X.calm=true)(hm:X.mg c=some (.ref C))(hg:Gl X c:=by rfl)(hd:autoParam ((c == ("__debug__" : Str))=false) s_) :
  qP X (.Raise (some (.Call (.Name c np) [.Constant (.str msg) j p1] [] cpos)) none pos) (B8 c):=by
 intro pins s σ H D I ⟨Z,B,M,E,k⟩
 have k:XA X M.u H c:=k;obtain⟨nm,q,N,bs,hdct,sn,sub,ab,col,dd,k0,k1,k2,k3,k5,mN,hC,hN,hni,T⟩:=O.at_ s.heap I.kIn;refine wpAny_Raise_call_subU (C:=C) (mN:=mN) (nm:=nm) (q:=q) (N:=N) (bs:=bs) (hdct:=hdct) (sn:=sn) (sub:=sub) (ab:=ab) (col:=col) (dd:=dd) (k0:=k0) (k1:=k1) (k2:=k2) (k3:=k3) (k5:=k5) Ti (Bn:="ValueError") (by decide) Ti (O.base I.kIn) (I.ok.hd hc) (by rfl) hni (jd I hg hm ⟨rfl,?_⟩ hd)
 show wpAny _ _ (evalArgs (.ref C) true ((false,eval (.Constant (.str msg) j p1) X.env)::backTo cpos (Oy [] X.env)) []) _ _ s
 refine RU (RB (Vu (Rg ?_)))
 refine⟨rfl,by show 1<=sizeLine;decide,hC,hN,T,λh' e hm'=>k pins _ _ ?_⟩
 obtain⟨t,ht,ht2,ht3⟩:=hm'.there
 have I':Inv X pins σ H { s with heap:=h',toks:=s.toks+1 }:=I.kept (t':=s.toks+1) λb o z=>hm'.keeps b o z
 refine⟨e,none,C,σ,H,rfl,hm,I',λb o z _=>z,?_,?_,⟨_,_,ht,rfl,rfl,rfl⟩,(λt z=>by cases z),λp hp=>⟨λz=> ?_,λz=>by cases z⟩⟩
 ·exact pY I hm'.new
 ·exact λhex=>lr I hex hm'.new
 ·have:=(I.pin p hp).1
  rw[z,show s.heap.get? e=none from hm'.new]at this
  cases this
end
section
variable {P:OH}{w:Px}{K:N6}{mg:Str->Option Oa}{base:Heap}
theorem Kc {x qual:Str}{st:Stmt}{f:Addr}{fd:PV}{N ps:List Str}{k n:Nat}{g:List T->Rs T}(Fn:L2.Fun K x qual st f fd)(S:dj N ps (az st))(hn:ps.length=n)
  (hbody:∀(cdv:Oa),fd.code=cdv->∀(A:OV) (outer:List Env) (s:Od) (H:Hp) (E:XK),Room k (A.deeper (envOfC qual (az st) s.heap.objs.size f cdv)) →
   ∃F,(∀xe,nt ((jk CX0 P w K mg base N qual (az st) f cdv A outer s H E).FB xe) (cZ st) F)/\∀ts,ts.length=n->∀c,g ts= .err c->F (bZ N.length ts)= .err c):FnX P w K mg base (k+1) f fd ps n g:=by
 intro A outer s H args us vs O ts c R hr e0 hb r rs trk hl hg hR
 have hpl:ps.length<=N.length:=by have:=congrArg PB S.pre;rw[Pq]at this;omega
 obtain⟨oc,od,kV,doc,pm,an,cdv,ct,osl,rfl,lk,hcd⟩:=Fn.ex
 have hlen:vs.length=ps.length:=by rw[<-rs.length,hl,hn]
 have KX:K.In s.heap:=e0.mod.kin.keeps λb o e=>(e0.bs b o e).1
 have lim:s.heap.NoLimit:=e0.mod.nolimit.keeps λb o e=>(e0.bs b o e).1
 have hkind:∀y∈ps.zip us,(az st).names.lookup y.1=some .local\/((az st).names.lookup y.1=some .cell/\((QV (s.heap.objs.size+1) (az st).names []).lookup y.1).isSome=true):=λ⟨n,v⟩ hy=>by
  rcases S.par n (Rh hy).1 with q | q
  ·exact .inl q
  ·exact .inr ⟨q,Q0 _ _ _ (.inl q)⟩
 refine SR hr.depth (KX _ _ lk) rfl S.co S.gen rfl (Tt KX hcd) (hb _ _ _ _ ?_)
 refine Q4 S.kind hkind λenv he s1 x=> ?_
 subst he;refine⟨lim.keeps x.toInCall.keep,Wy ?_⟩
 obtain⟨F,hF,hv⟩:=hbody cdv rfl A outer s H E0 (hr.deeper _)
 let xe:Oa->Od->Prop:=λev s'=>wpAny (model P w) (A.deeper (envOfC qual (az st) s.heap.objs.size f cdv)) (leaving (envOfC qual (az st) s.heap.objs.size f cdv) ev) (λ_ s''=>R (.error ev) s'') (λe' s''=>R (.error e') s'') s'
 have I:Inv ((jk CX0 P w K mg base N qual (az st) f cdv A outer s H E0).FB xe) [] (start N vs) H s1:=(kE S hr.hd e0 hlen r x).FB _
 have no:∀a,¬noM.u a:=λa ⟨_,z⟩=>z
 refine Qo (hF xe [] s1 (start N vs) H { nx:=λ_ _=>False,rt:=λ_ _=>False,bk:=λ_ _=>False,ct:=λ_ _=>False } I ⟨bZ N.length ts,O,noM,rK rs (by omega) trk,?_⟩) (λfl s' z=> ?_) λe s' hs=>hs
 rotate_left
 ·cases fl with
  | next=>obtain⟨_,_,_,z⟩:=z;exact z.elim
  | cont=>obtain⟨_,_,_,z⟩:=z;exact z.elim
  | brk=>obtain⟨_,_,_,z⟩:=z;exact z.elim
  | ret v=>obtain⟨_,_,_,_,_,z⟩:=z;exact z.elim
 rw[hv ts hl c hg];intro pins ev s' w'
 show wpAny _ _ _ _ _ _
 obtain⟨e,T,C,σ',H',rfl,hm,I',sm,he,heo,fl,hT,_⟩:=w'
 have heo:=heo rfl
 have hT:∀t,T=some t->H' t=none/\s.heap.get? t=none:=λt z=>⟨(hT t z).1,(hT t z).2 rfl⟩
 refine JO (base:=base) (outer:=outer) (L:=s.heap.objs.size) I'.ok.frames I'.stack rfl fl λh' T' g=>hR _ _ ?_
 have hex:((jk CX0 P w K mg base N qual (az st) f cdv A outer s H E0).FB xe).ex= []:=rfl
 have Tn:H' T'=none/\s.heap.get? T'=none:=by
  rcases g.new with z | z
  ·exact hT T' z
  ·exact⟨pY I' z,lr I' hex z⟩
 have out:∀b o,s.heap.get? b=some o->b≠s.heap.objs.size:=λb o q z=>by
  have:=Ou q;rw[z]at this;exact absurd this (O9 _)
 have mem:∀b,b∈kF ((envOfC qual (az st) s.heap.objs.size f cdv)::outer)->b=s.heap.objs.size\/b∈kF outer:=λb z=>by
  have z':b∈s.heap.objs.size::kF outer:=z;exact Og.mp z'
 have ne:∀b o,s.heap.get? b=some o->b≠e/\T≠some b:=λb o q=>⟨λz=>(by subst z;rw[show s.heap.get? b=none from heo]at q;cases q),λz=>(by rw[show s.heap.get? b=none from(hT b z).2]at q;cases q)⟩
 have keepH:∀b u,H' b≠none->s'.heap.get? b=some u->h'.get? b=some u:=λb u hb q=>by
  refine g.keep b u (λz=>hb (I'.GT b z)) (λz=>hb (by rw[z];exact he)) (λz=>hb (hT b z).1) q
 refine⟨e,T',C,H',rfl,hm,I'.os,I'.bare,⟨λb o q n hb hx=> ?_,λb o q n hb hx=> ?_,λb o q n hx=>I'.base.free b o q n hx,λb o q hx=> ?_,I'.base.tups,I'.base.frzs,I'.base.tbls⟩,λa o q=> ?_,λb o q=>sm b o q (no b),he,heo,g.flt,Tn.1,Tn.2⟩
 ·exact g.keep b o (λz=>(mem b z).elim (out b o q) hb) (ne b o q).1 (ne b o q).2 (I'.base.keep b o q n hb hx)
 ·obtain⟨sl,q1⟩:=I'.base.slot b o q n hb hx
  obtain⟨sl',q2⟩:=g.slot b _ (N8 _ hb) q1;exact⟨sl',q2⟩
 ·obtain⟨o',q1⟩:=I'.base.there b o q hx
  by_cases z:b∈kF ((envOfC qual (az st) s.heap.objs.size f cdv)::outer)
  ·obtain⟨sl,q2⟩:=g.slot b o' z q1
   exact⟨_,q2⟩
  ·exact⟨o',g.keep b o' z (ne b o q).1 (ne b o q).2 q1⟩
 ·refine(I'.hok a o q).M5 (λb u hb z=>keepH b u ?_ z) (λ_ z=>z) λ_ _ z=>z
  rcases hb with rfl | hb
  ·rw[q];simp
  ·rw[hb];simp
end
theorem EX {n m:Nat}{F:En->Rs Fl}{ts:List T}{c:Str}(h:val n m F ts= .err c):F (bZ m ts)= .err c:=by
 unfold val at h
 split at h
 ·unfold fo at h
  cases z:F (bZ m ts)with
  | bad=>rw[z]at h;cases h
  | err c'=>rw[z]at h;cases h;rfl
  | ok f=>
   rw[z,aH]at h;cases f <;> cases h
 ·cases h
section
variable {P:OH}{w:Px}{K:N6}{mg:Str->Option Oa}{base:Heap}
theorem Ke {x qual:Str}{st:Stmt}{f:Addr}{fd:PV}{N ps:List Str}{k n:Nat}{F:En->Rs Fl}(Fn:L2.Fun K x qual st f fd)(S:dj N ps (az st))(hn:ps.length=n)
  (hbody:∀(cdv:Oa),fd.code=cdv->∀(A:OV) (outer:List Env) (s:Od) (H:Hp) (E:XK),Room k (A.deeper (envOfC qual (az st) s.heap.objs.size f cdv)) →
   ∀xe,nt ((jk CX0 P w K mg base N qual (az st) f cdv A outer s H E).FB xe) (cZ st) F):BK P w K mg base (k+1) f fd ps n (val n N.length F):=
 ⟨Ml Fn S hn λcdv hcv A outer s H E hr=>⟨F,hbody cdv hcv A outer s H E hr _,λts _ _ h=>Ib h⟩,Kc Fn S hn λcdv hcv A outer s H E hr=>⟨F,hbody cdv hcv A outer s H E hr,λts _ c h=>EX h⟩⟩
end
section
variable {X:Cx}{k n:Nat}{f:Addr}{fd:PV}{ps:List Str}{g:List T->Rs T}{pins:List (Addr×Obj)}{σ:L2.St}{H:Hp}{s:Od}{us:List Oa}{vs:List V}{ts:List T}{O:Ow}{Q:VK}
theorem K7 (F:BK X.prog X.w X.K X.mg X.base k f fd ps n g)(hr:Room k X.A)(hb:Binds X.K fd ps [])(hps:ps.length=n)(I:Inv X pins σ H s)(r:Vals vs us)(rs:Reps X.K O H ts vs)(mt:∀a,O a->Mtb H a)(hl:ts.length=n)
  (hq:Post X H (g ts) λt H'=> ∀v,Rep X.K O H' t v->Q v H'):wpAny (model X.prog X.w) X.A (call (.ref f) us) (EP X pins σ Q) X.xe s:=by
 cases q2:g ts with
 | bad=>rw[q2]at hq;exact hq.elim
 | ok t=>
  rw[q2]at hq;refine xT (E:=E0) (dvs:=[]) (ds:=[]) F.h hr hb .nil zC I r ⟨ts,O,by simpa using rs,mt,hl,?_⟩
  rw[q2]
  exact λv H' s2 rr=>hq H' s2 v rr
 | err c=>
  rw[q2]at hq
  have hlen:us.length=ps.length:=by rw[<-r.length,<-rs.length,hl,hps]
  have hb':=hb s us I.kIn (by rw[Pz];exact hlen)
  rw[Pz]at hb';refine UX (Sb (F.x X.A X.stack s H ⟨us,[]⟩ us vs O ts c (λr s'=>match r with | .error ev=>X.xe ev s' | _=>False) hr I.Np hb' r rs mt hl q2 λev s' w=> ?_) λr s' hq=> ?_)
  ·obtain⟨ea,T,C,H',rfl,hmc,ho,hbare,hun,hok,sm2,hea,heo,fl,hT,hTo⟩:=w
   have I2:Inv X pins σ H' s':=I.Nu ho hun hok hbare (λb z=>absurd z (by simp))
   exact hq pins _ _ ⟨ea,some T,C,σ,H',rfl,hmc,I2,λb o q _=>sm2 b o q,hea,λhex=>lr I hex heo,fl,(λt zt=>by cases zt;exact⟨hT,λhex=>lr I hex hTo⟩),λpp hpp=>⟨λzz=>(by have:=(I.pin pp hpp).1;rw[zz,heo]at this;cases this),λzz=>(by cases zz;have:=(I.pin pp hpp).1;rw[hTo]at this;cases this)⟩⟩
  ·cases r with
   | error ev=>exact hq
   | ok fl=>exact hq.elim
inductive Sels (X:Cx) (n:Nat):List Expr->List Addr->List (List T->Rs T)->Prop
 | nil:Sels X n [] [] []
 | cons {x:Str} {p:Pos} {es:List Expr} {as:List Addr} {gs:List (List T->Rs T)} {k:Nat} {f:Addr} {fd:PV} {ps:List Str} {g:List T->Rs T}:BK X.prog X.w X.K X.mg X.base k f fd ps n g->Room k X.A->X.mg x=some (.ref f)->Qw X.K (.ref f)=true->Binds X.K fd ps []->ps.length=n->Gl X x->(x == ("__debug__" : Str))=false →
   Sels X n es as gs->Sels X n (.Name x p::es) (f::as) (g::gs)
theorem seln:Sels X n [] [] []:=.nil
theorem selc {x:Str}{p:Pos}{es:List Expr}{as:List Addr}{gs:List (List T->Rs T)}(F:BK X.prog X.w X.K X.mg X.base k f fd ps n g)(hr:Room k X.A)(hm:X.mg x=some (.ref f))(hk:Qw X.K (.ref f)=true)(hb:Binds X.K fd ps [])(h:Sels X n es as gs)(hps:ps.length=n:=by rfl)(hg:Gl X x:=by rfl)(hd:autoParam ((x == ("__debug__" : Str))=false) s_) :
  Sels X n (.Name x p::es) (f::as) (g::gs):=.cons F hr hm hk hb hps hg hd h
theorem Sels.pa:∀{es:List Expr} {as:List Addr} {gs:List (List T->Rs T)},Sels X n es as gs->PA X es (λσ H Q=>Q (as.map V.ref) H)
 | _,_,_,.nil=>λpos pins s σ H Q I h=>dQ pos pins s σ H Q I h
 | _,_,_,.cons F hr hm hk hb hps hg hd h=>λpos pins s σ H Q I q=>bF (tW (v:=.ref _) hg hm rfl hd) h.pa (bo rfl) pos pins s σ H Q I q
theorem Sels.len:∀{es:List Expr} {as:List Addr} {gs:List (List T->Rs T)},Sels X n es as gs->as.length=gs.length
 | _,_,_,.nil=>rfl
 | _,_,_,.cons _ _ _ _ _ _ _ _ h=>by rw[Oj,Oj,h.len]
theorem Sels.at_:∀{es:List Expr} {as:List Addr} {gs:List (List T->Rs T)},Sels X n es as gs->∀{j:Nat} {g:List T->Rs T},gs[j]? =some g->∃f fd ps k,as[j]? =some f/\BK X.prog X.w X.K X.mg X.base k f fd ps n g/\Room k X.A/\Qw X.K (.ref f)=true/\Binds X.K fd ps []/\ps.length=n
 | _,_,_,.nil,j,g,e=>by simp at e
 | _,_,_,.cons F hr hm hk hb hps hg hd h,0,g,e=>by simp at e;subst e;exact⟨_,_,_,_,rfl,F,hr,hk,hb,hps⟩
 | _,_,_,.cons F hr hm hk hb hps hg hd h,j+1,g,e=>by
  obtain⟨f,fd,ps,k,e1,r⟩:=h.at_ (j:=j) (by simpa using e)
  exact⟨f,fd,ps,k,by simpa using e1,r⟩
theorem oQ {M:Xh}{A:OV}{E:Oa->Od->Prop}{s:Od}{env:Env}{a b:Expr}{p pos:Pos}{args:List Expr}{Q:Oa->Od->Prop}
  (h:wpAny M A (eval (.Subscript a b p) env) (λf s₁=>wpAny M A (callWith pos f [] (backTo pos (Oy args env)) (VR pos (Tf [] env))) Q E s₁) E s) :
  wpAny M A (eval (.Call (.Subscript a b p) args [] pos) env) Q E s:=by
 rw[show eval (.Call (.Subscript a b p) args [] pos) env=(do callWith pos (<-eval (.Subscript a b p) env) [] (backTo pos (Oy args env)) (VR pos (Tf [] env)))from rfl]
 exact N7 h
theorem ED {α β:Type}{xs:List α}{ys:List β}{i:Int}{y:β}(hl:xs.length=ys.length)(h:L2.atI ys i=some y):∃j:Nat,ys[j]? =some y/\∀x,xs[j]? =some x->L2.atI xs i=some x:=by
 unfold L2.atI at h ⊢;rw[hl]
 cases q:ixN ys.length i with
 | none=>rw[q]at h;cases h
 | some j=>rw[q]at h;exact⟨j,h,λx e=>e⟩
theorem Ll {es args:List Expr}{a0 i0:Expr}{p1 p2 pos:Pos}{as:List Addr}{gs:List (List T->Rs T)}{f0:En->Rs T}{fs:En->Rs (List T)}(S:Sels X n es as gs)(h0:c8 X i0 f0)(hl:∀Z ts,fs Z= .ok ts->ts.length=n)(ha:qS X (a0::args) fs)
  (hn:bj (a0::args)=true:=by rfl) (hs:autoParam (kK i0) w_) (hz:autoParam (es.length<=100) s_):c8 X (.Call (.Subscript (.List es p1) i0 p2) (a0::args) [] pos) (AD gs f0 fs):=by
 intro pins s σ H Q I ⟨Z,O,E,hq⟩
 have hes:as.length<=sizeLine:=by
  have:∀{es:List Expr} {as:List Addr} {gs:List (List T->Rs T)},Sels X n es as gs->es.length=as.length:=by
   intro es as gs h
   induction h with
   | nil=>rfl
   | cons _ _ _ _ _ _ _ _ _ ih=>rw[Oj,Oj,ih]
  rw[<-this S,PH];omega
 have hq':Post X H (f0 Z >>= λk=>match k with | .int i=>(match L2.atI gs i with | some m=>fs Z >>= m | none=> .bad) | _=> .bad) λt H'=> ∀v,Rep X.K O H' t v->Q v H':=hq
 refine oQ (cL (LF ix_list (tV S.pa) h0 hs pins s σ H (λv H'=> ∃(i:Int) (m:List T->Rs T) (j:Nat),L2.atI gs i=some m/\gs[j]? =some m/\(∀x,as[j]? =some x->v= .ref x)/\Same H H'/\Post X H' (fs Z >>= m) λt H'=> ∀v,Rep X.K O H' t v->Q v H') I ?_) λf s1 r=> ?_)
 ·refine⟨by rw[Ob];exact hes,λl hl0=> ?_⟩
  have E1:=E.same (aQ hl0 (.lst (as.map V.ref)))
  have s1:Same H (upd H l (.lst (as.map V.ref))):=aQ hl0 _;refine⟨Z,O,E1,Post.mono (Post.bind (Post.later hq' s1)) λt H2 s2 q2 v rv=> ?_⟩
  cases t with
  | int i=>
   have hv:=Rep.AC.mp rv;subst hv;simp only at q2
   cases z:L2.atI gs i with
   | none=>rw[z]at q2;exact q2.elim
   | some m=>
    rw[z]at q2;obtain⟨j,z1,z2⟩:=ED (xs:=as) S.len z;obtain⟨f,fd,ps,k,e1,_⟩:=S.at_ z1
    have z3:L2.atI (as.map V.ref) i=some (.ref f):=by
     have:=z2 f e1;unfold L2.atI at this ⊢;rw[Ob]
     cases y:ixN as.length i with
     | none=>rw[y]at this;cases this
     | some j'=>
      rw[y]at this
      show(as.map V.ref)[j']? =_
      rw[Ov]
      have:as[j']? =some f:=this;rw[this];rfl
    refine⟨l,as.map V.ref,i,.ref f,rfl,rfl,SqL.of (s2 _ _ aI),z3,i,m,j,z,z1,λx ex=> ?_,s1.trans s2,q2⟩
    rw[e1]at ex;cases ex;rfl
  | _=>exact q2.elim
 ·obtain⟨v,H1,I1,rv,i,m,j,z,z1,hv,sm,q⟩:=r
  obtain⟨f',fd,ps,k,e1,F,hr,hk,hb,hps⟩:=S.at_ z1;cases hv f' e1;cases rv;unfold bj at hn;rw[N9]at hn;refine Sf (h₀:=X.base) I.ok.mod.kin hk (cL (ha pos pins s1 σ H1 (λvs H'=> ∃ts,fs Z= .ok ts/\Reps X.K O H' ts vs/\Same H1 H'/\Post X H' (m ts) λt H'=> ∀v,Rep X.K O H' t v->Q v H') I1 ⟨Z,O,E.same sm,?_⟩) (λus s2 ⟨vs,H2,I2,r,ts,et,rs,s2',q2⟩=>⟨I2.kIn,?_⟩)) (bo hn.1) (gh hn.2)
  ·cases y:fs Z with
   | bad=>rw[y]at q;exact q.elim
   | err c=>rw[y]at q;exact q
   | ok ts=>
    rw[y]at q;exact λH' s' vs rs=>⟨ts,rfl,rs,s',Post.later q s'⟩
  ·exact K7 F hr hb hps I2 r rs ((E.same sm).same s2').mtb (hl Z ts et) q2
end
section
variable {X:Cx}{a:Expr}{fa:En->Rs T}{pos p:Pos}{x:Str}
theorem Lj:qP X (.Continue pos) K6:=PS.imp vO λD σ H ⟨Z,B,M,E,h⟩=>h σ H M (λ_ _ e _=>e) E λa z=> .inl z
theorem IU (i:Nat){pos':Pos}(hN:X.N.Nodup)(ha:c8 X a fa)(hi:X.N[i]? =some x:=by rfl)(hx:autoParam (Loc X.env.scope x) x_)(hf:autoParam (X.fn x=true\/X.env.scope.names.lookup x=some .local) r_) :
  qP X (.AugAssign (.Name x pos') .Add a pos) (B9 i fa):=PS.imp (Jf hN hi hx ha J6 hf) λD σ H hh_=>by
 obtain⟨Z,B,M,E,h⟩:=hh_;unfold B9 at h
 split at h
 ·rename_i n e
  obtain⟨v,e1,r⟩:=E.env.val i _ e;cases Rep.AC.mp r
  have hl:i<Z.length:=(Oi.mp e).1
  refine⟨.int n,e1,Z,OO B M,E.o,?_⟩
  cases q:fa Z with
  | bad=>rw[q]at h;exact h.elim
  | err c=>rw[q]at h;exact PostF.xa h
  | ok t=>
   rw[q,aH]at h
   cases t with
   | int m=>
    intro H1 s1 v rv;cases Rep.AC.mp rv
    exact⟨n,m,rfl,rfl,h _ _ M (SameO.of s1) ⟨(E.env.same s1).set hl (Rep.GE _),E.mine⟩ λa z=> .inl z⟩
   | _=>exact h.elim
 ·exact h.elim
end
inductive OTail (h:Heap):List Oa->Prop
 | base:OTail h oj
 | own {A:Addr} {c0:Oa} {dd:Option Addr} {cd:ClassData} {sl:Array (Option Oa)} {mA:Str->Option Oa} {tl:List Oa} :
   h.get? A=some { cls:=c0,dict:=dd,data:=.cls cd,slots:=sl }->h.Ns cd.ns mA->(∀n∈calmNames,mA n=none)->OTail h tl->OTail h (.ref A::tl)
theorem OTail.tail {h:Heap}{tl:List Oa}(T:OTail h tl):OwnTail h oj tl:=by
 induction T with
 | base=>exact .base
 | own hA hN hq _ ih=>exact .own hA hN (hq _ (.head _)) ih
section
variable {M:Xh}{prog:OH}{w:Px}{A:OV}{E:Oa->Od->Prop}{h:Heap}{g:Array VL}{d:Drawn}{t:Nat}{os:Wh}
theorem G4 {tl:List Oa}{n:Str}{y:Option Oa}{Q:Option Oa->Od->Prop}(hn:n∈calmNames)(T:OTail h tl)(hrest:Xm oj n=pure y)(hq:Q y ⟨h,g,d,t,os⟩) :
  wpAny M A (Xm tl n) Q E ⟨h,g,d,t,os⟩:=by
 induction T with
 | base=>rw[hrest];exact Ol hq
 | own hA hN hni _ ih=>
  rw[WU];refine N7 (wpAny_classOwn_cls hA hN ?_)
  rw[hni n hn];exact ih
theorem LR:mroOf (.type "ValueError")=pure oj:=by rw[mroOf_type];kernel_rfl
variable {nm q:Str}{C N:Addr}{bs bm:List Oa}{hdct:Bool}{sn:List Str}{sub:List Oa}{ab:Bool}{col:Option Bool}{dd:Option Addr}{k0 k1 k2 k3 k5:Option Oa}{newId:String}{mN:Str->Option Oa}
theorem yp {n:Str}{y:Option Oa}{Q:Option Oa->Od->Prop}(hn:n∈calmNames)(hC:h.get? C=some (PY nm q C N bs bm hdct sn sub ab col dd k0 k1 k2 k3 k5 newId))(hN:h.Ns N mN)(hmN:∀n∈calmNames,mN n=none)(T:OTail h bm)
  (hB:SA (.type "ValueError") n=pure y) (hq:Q y ⟨h,g,d,t,os⟩):wpAny M A (SA (.ref C) n) Q E ⟨h,g,d,t,os⟩:=by
 have hrest:Xm oj n=pure y:=by rw[typeLookup_eq,LR]at hB;exact hB
 rw[typeLookup_eq];refine N7 (wpAny_mroOf_exc hC ?_)
 rw[WU];refine N7 (wpAny_classOwn_exc hC hN ?_)
 rw[hmN n hn];exact G4 hn T hrest hq
theorem Dk:SA (.type "ValueError") "__class__" =pure (some (.builtin "object.__class__")):=by rw[So,Q9];kernel_rfl
theorem yu:SA (.type "ValueError") "__getattr__" =pure none:=by rw[So,Q9];kernel_rfl
theorem ga_V:Slot "ValueError" "__getattribute__" "BaseException.__getattribute__":=.of (owner:="BaseException") (n:="__getattribute__") (by rw[So,Q9];kernel_rfl) (by decide+kernel) (by decide+kernel) (by decide+kernel) (by first | exact .inl (by decide+kernel) | exact .inr (by decide+kernel)) (by rw[isSubtype_type];kernel_rfl)
variable {a:Addr}{o:Obj}{vs:Array Oa}
theorem GY {R:Xj->Od->Prop}(hC:h.get? C=some (PY nm q C N bs bm hdct sn sub ab col dd k0 k1 k2 k3 k5 newId))(T:OTail h bm)
  (hx:h.get? a=some o) (hc:o.cls= .ref C) (hq:R (.ok (.ret (.ref C))) ⟨h,g,d,t,os⟩) :
  codeAny (model prog w) A (.call (.builtin "getset_descriptor.__get__") ⟨[.builtin "object.__class__",.ref a,.ref C],[]⟩) R ⟨h,g,d,t,os⟩:=by
 have hT5:(⟨h,g,d,t,os⟩:Od).TypeIs (.builtin "object.__class__") "getset_descriptor":=SI
 have hcB:(OA C::bm).contains (.type (".".intercalate ("object.__class__".cutAt '.').dropLast))=true:=by
  rw[F.owner_object_class,Qh,T.tail.hasType (b:=true) (by decide)];rfl
 refine S2 Vz.plain F.entry_gs_get (Vz.check _ _ _ _ _ _ _ _ hT5 (F.args_gs_get _ _ _) ?_)
 repeat (any_goals (first | assumption | (with_reducible refine Pu hx ?_;rw[hc]) | (with_reducible refine QX hC ?_;rw[hcB]) | wp_step))
 refine⟨Code.quiet_builtin _ (by decide+kernel),QY F.entry_object_class ?_⟩
 repeat (any_goals (first | assumption | (with_reducible refine Pu hx ?_;rw[hc]) | wp_step))
theorem DX {nameV:Oa}{Q:Unit->Od->Prop}(hC:h.get? C=some (PY nm q C N bs bm hdct sn sub ab col dd k0 k1 k2 k3 k5 newId))(T:OTail h bm)
  (hx:h.get? a=some o) (hc:o.cls= .ref C) (hq:Q () ⟨h,g,d,t,os⟩):wpAny M A (WV "BaseException.__getattribute__" ⟨[.ref a,nameV],[]⟩) Q E ⟨h,g,d,t,os⟩:=by
 have hk:builtinKind "BaseException.__getattribute__" =some .slot:=by decide+kernel
 have hsplit:splitId "BaseException.__getattribute__" =some ("BaseException","__getattribute__"):=by decide+kernel
 have hcB:(OA C::bm).contains (.type "BaseException")=true:=by rw[Qh,T.tail.hasType (b:=true) (by decide)];rfl
 have ha:=F.args_bexc_ga (.ref a) nameV;simp only[WV,hk,hsplit];refine N7 ?_
 ·unfold isInstance
  repeat (first | (with_reducible refine Pu hx ?_;rw[hc]) | (with_reducible refine QX hC ?_;rw[hcB]) | wp_step)
  exact hq
theorem Bt {tk:Tok}{Q:Fin->Od->Prop}(hC:h.get? C=some (PY nm q C N bs bm hdct sn sub ab col dd k0 k1 k2 k3 k5 newId))(hN:h.Ns N mN)
  (hmN:∀n∈calmNames,mN n=none) (T:OTail h bm) (hx:h.get? a=some o) (hc:o.cls= .ref C) (hd:o.data= .fields vs) (hq:Q (.done (.ret (.ref C))) ⟨h,g,d,t,os⟩) :
  wpAny (model prog w) A (Builtin.«object.__getattribute__» ⟨[.ref a,.str "__class__" tk],[]⟩) Q E ⟨h,g,d,t,os⟩:=by
 have hT5:(⟨h,g,d,t,os⟩:Od).TypeIs (.builtin "object.__class__") "getset_descriptor":=SI
 have f5:=SI
 have f6:=Vz.lookup
 have f7:=F.slot_gs_set.lookup
 have hmA:("__class__" : Str)∈calmNames:=.tail _ (.tail _ (.tail _ (.head _)))
 repeat (any_goals (first | assumption | (with_reducible refine Pu hx ?_;rw[hc]) | with_reducible refine yp hmA hC hN hmN T Dk ?_ | wp_step))
 refine GY hC T hx hc ?_
 repeat (any_goals (first | assumption | wp_step))
theorem Ey {tk:Tok}{R:Xj->Od->Prop}(hC:h.get? C=some (PY nm q C N bs bm hdct sn sub ab col dd k0 k1 k2 k3 k5 newId))(hN:h.Ns N mN)
  (hmN:∀n∈calmNames,mN n=none) (T:OTail h bm) (hx:h.get? a=some o) (hc:o.cls= .ref C) (hd:o.data= .fields vs) (hq:R (.ok (.ret (.ref C))) ⟨h,g,d,t,os⟩) :
  codeAny (model prog w) A (.call (.builtin "BaseException.__getattribute__") ⟨[.ref a,.str "__class__" tk],[]⟩) R ⟨h,g,d,t,os⟩:=
 S2 ga_V.plain F.entry_bexc_ga (DX hC T hx hc (Bt hC hN hmN T hx hc hd hq))
theorem Ks {tk:Tok}{fill expr:Bool}{Q:Oa->Od->Prop}(hC:h.get? C=some (PY nm q C N bs bm hdct sn sub ab col dd k0 k1 k2 k3 k5 newId))(hN:h.Ns N mN)
  (hmN:∀n∈calmNames,mN n=none) (T:OTail h bm) (hx:h.get? a=some o) (hc:o.cls= .ref C) (hd:o.data= .fields vs) (hq:Q (.ref C) ⟨h,g,d,t,os⟩) :
  wpAny (model prog w) A (getAttrBy (.ref a) (.str "__class__" tk) fill expr) Q E ⟨h,g,d,t,os⟩:=by
 have f3:=ga_V.bind (.ref a)
 have hx0:(expr&&onTheHeap (RN "BaseException.__getattribute__"))=false:=by cases expr <;> rfl
 have hx2:(RN "BaseException.__getattribute__" == RN "object.__getattribute__")=false:=by decide+kernel
 have hx1:(onTheHeap (OA C)&&RN "BaseException.__getattribute__" == RN "object.__getattribute__")=false:=by rw[hx2];rfl
 have hm1:("__getattribute__" : Str)∈calmNames:=.tail _ (.head _)
 have hm2:("__getattr__" : Str)∈calmNames:=.tail _ (.tail _ (.head _))
 repeat (any_goals (first | assumption | (with_reducible refine Pu hx ?_;rw[hc]) | with_reducible refine yp hm1 hC hN hmN T ga_V.lookup ?_ | with_reducible refine yp hm2 hC hN hmN T yu ?_ | wp_step))
 refine Ey hC hN hmN T hx hc hd ?_
 repeat (any_goals (first | assumption | wp_step))
theorem Ez {Q:Option Oa->Od->Prop}(hC:h.get? C=some (PY nm q C N bs bm hdct sn sub ab col dd k0 k1 k2 k3 k5 newId))(hN:h.Ns N mN)
  (hmN:∀n∈calmNames,mN n=none) (T:OTail h bm) (hx:h.get? a=some o) (hc:o.cls= .ref C) (hd:o.data= .fields vs) (hq:Q (some (.ref C)) ⟨h,g,d,t+1,os⟩) :
  wpAny (model prog w) A (getAttr? (.ref a) "__class__") Q E ⟨h,g,d,t,os⟩:=by
 unfold getAttr? getAttrBy?
 repeat (any_goals (first | assumption | with_reducible apply Ks hC hN hmN T hx hc hd | wp_step))
end
section
variable {M:Xh}{prog:OH}{w:Px}{A:OV}{E:Oa->Od->Prop}{h:Heap}{g:Array VL}{d:Drawn}{t:Nat}{os:Wh}
variable {nm q:Str}{C N:Addr}{bs bm:List Oa}{hdct:Bool}{sn:List Str}{sub:List Oa}{ab:Bool}{col:Option Bool}{dd:Option Addr}{k0 k1 k2 k3 k5:Option Oa}{newId:String}{mN:Str->Option Oa}
variable {a:Addr}{o:Obj}{vs:Array Oa}
theorem AS {dep:Int}{tk:Tok}{Q:Fin->Od->Prop}(hx:h.get? a=some o)(hc:o.cls= .ref C)(hq:Q (.done (.ret (.bool true))) ⟨h,g,d,t,os⟩) :
  wpAny (model prog w) A (Builtin.«isinstance.nested» ⟨[.ref a,.ref C,.int dep tk],[]⟩) Q E ⟨h,g,d,t,os⟩:=by
 have e:(OA C == OA C)=true:=by simp
 repeat (any_goals (first | assumption | (with_reducible refine Pu hx ?_;rw[hc]) | wp_step))
theorem JE {dep:Int}{tk:Tok}{Q:Fin->Od->Prop}(hC:h.get? C=some (PY nm q C N bs bm hdct sn sub ab col dd k0 k1 k2 k3 k5 newId))(T:OTail h bm)(hx:h.get? a=some o)(hc:o.cls= .ref C)
  (hq:Q (.done (.ret (.bool true))) ⟨h,g,d,t,os⟩):wpAny (model prog w) A (Builtin.«isinstance.nested» ⟨[.ref a,.type "ValueError",.int dep tk],[]⟩) Q E ⟨h,g,d,t,os⟩:=by
 have e:(OA C == Rx "ValueError")=false:=rfl
 have hty:typeOf (.type "ValueError")=pure (.type "type"):=by kernel_rfl
 have hcB:(OA C::bm).contains (.type "ValueError")=true:=by rw[Qh,T.tail.hasType (b:=true) (by decide)];rfl
 repeat (any_goals (first | assumption | (with_reducible refine Pu hx ?_;rw[hc]) | (with_reducible refine QX hC ?_;rw[hcB]) | wp_step))
theorem C8 {D:Addr}{oD:Obj}{cD:ClassData}{dep:Int}{tk:Tok}{Q:Fin->Od->Prop}(hC:h.get? C=some (PY nm q C N bs bm hdct sn sub ab col dd k0 k1 k2 k3 k5 newId))(hN:h.Ns N mN)(hmN:∀n∈calmNames,mN n=none)(T:OTail h bm)
  (hx:h.get? a=some o) (hc:o.cls= .ref C) (hd:o.data= .fields vs) (hD:h.get? D=some oD) (hDt:oD.cls= .type "type") (hDd:oD.data= .cls cD) (hne:(OA C == OA D)=false) (hnb:(OA C::bm).contains (.ref D)=false)
  (hq:Q (.done (.ret (.bool false))) ⟨h,g,d,t+1,os⟩):wpAny (model prog w) A (Builtin.«isinstance.nested» ⟨[.ref a,.ref D,.int dep tk],[]⟩) Q E ⟨h,g,d,t,os⟩:=by
 repeat (any_goals (first | assumption | (with_reducible refine Pu hx ?_;rw[hc]) | (with_reducible refine Pu hD ?_;rw[hDt]) | (with_reducible refine Pu hD ?_;rw[hDd]) | (with_reducible refine Pu hC ?_) | (with_reducible refine QX hC ?_;rw[hnb]) | with_reducible refine Ez hC hN hmN T hx hc hd ?_ | wp_step))
end
structure OX (K:N6)(C:Addr)(bm:List Oa):Prop where
 at_:∀h:Heap,K.In h->∃nm q N bs hdct sn sub ab col dd k0 k1 k2 k3 k5 mN,h.get? C=some (PY nm q C N bs bm hdct sn sub ab col dd k0 k1 k2 k3 k5 "ValueError.__new__")/\h.Ns N mN/\(∀n∈calmNames,mN n=none)/\OTail h bm
theorem OX.own {K:N6}{C:Addr}{bm:List Oa}(O:OX K C bm):OwnExc K C bm:=⟨λh k=>by
 obtain⟨nm,q,N,bs,hdct,sn,sub,ab,col,dd,k0,k1,k2,k3,k5,mN,h1,h2,h3,h4⟩:=O.at_ h k;exact⟨nm,q,N,bs,hdct,sn,sub,ab,col,dd,k0,k1,k2,k3,k5,mN,h1,h2,h3 _ (.head _),h4.tail⟩⟩
section
variable {X:Cx}{e C D:Addr}{oe:Obj}{ev:Array Oa}{bm bmD:List Oa}
def tIs (e:Addr)(b:Bool):TE:=λσ H Q=>σ[0]? =some (some (.ref e))/\Q (.bl b) H
theorem DM {pins:List (Addr×Obj)}{σ:L2.St}{H:Hp}{s:Od}{Q:VK}(hp:(e,oe)∈X.pn)(hc:oe.cls= .ref C)(hd:oe.data= .fields ev)(OC:OX X.K C bm)(OD:OX X.K D bmD)(b:Bool)(hb:(decide (C=D))=b)(hnb:C≠D->bm.contains (.ref D)=false)
  (I:Inv X pins σ H s) (q:Q (.bl b) H):wpAny (model X.prog X.w) X.A (call (.builtin "isinstance") [.ref e,.ref D]) (EP X pins σ Q) X.xe s:=by
 have hx:s.heap.get? e=some oe:=(I.pin (e,oe) (O8 _ hp)).1;obtain⟨nm,qq,N,bs,hdct,sn,sub,ab,col,dd,k0,k1,k2,k3,k5,mN,hC,hN,hmN,T⟩:=OC.at_ s.heap I.kIn;obtain⟨nm',qq',N',bs',hdct',sn',sub',ab',col',dd',k0',k1',k2',k3',k5',mN',hD,_⟩:=OD.at_ s.heap I.kIn;obtain⟨h,g,d,t,os⟩:=s;refine VY ?_ (by intro z;cases z)
 by_cases z:C=D
 ·subst z
  have:b=true:=by rw[<-hb];simp
  subst this;exact AS hx hc ⟨.bl true,H,I,rfl,q⟩
 ·have:b=false:=by rw[<-hb];simp[z]
  subst this;refine C8 hC hN hmN T hx hc hd hD rfl rfl ?_ ?_ ⟨.bl false,H,I.tok _,rfl,q⟩
  ·rw[beq_eq_false_iff_ne];exact λy=>z (T4 y)
  ·rw[Qh,hnb z,Bool.or_false,beq_eq_false_iff_ne]
   exact λy=>z (T4 y).symm
theorem DN {pins:List (Addr×Obj)}{σ:L2.St}{H:Hp}{s:Od}{Q:VK}(hp:(e,oe)∈X.pn)(hc:oe.cls= .ref C)(OC:OX X.K C bm)
  (I:Inv X pins σ H s) (q:Q (.bl true) H):wpAny (model X.prog X.w) X.A (call (.builtin "isinstance") [.ref e,.type "ValueError"]) (EP X pins σ Q) X.xe s:=by
 have hx:s.heap.get? e=some oe:=(I.pin (e,oe) (O8 _ hp)).1;obtain⟨nm,qq,N,bs,hdct,sn,sub,ab,col,dd,k0,k1,k2,k3,k5,mN,hC,hN,hmN,T⟩:=OC.at_ s.heap I.kIn;obtain⟨h,g,d,t,os⟩:=s;refine VY ?_ (by intro z;cases z)
 exact JE hC T hx hc ⟨.bl true,H,I,rfl,q⟩
theorem mP {en dn:Str}{p p1 p2 pos:Pos}(hN:X.N[0]? =some en)(hv:uY X.env.scope en)(hp:(e,oe)∈X.pn)(hc:oe.cls= .ref C)(hd:oe.data= .fields ev)(OC:OX X.K C bm)(OD:OX X.K D bmD)(b:Bool)(hb:(decide (C=D))=b)(hnb:C≠D->bm.contains (.ref D)=false)
  (hm:X.mg "isinstance" =none) (hmD:X.mg dn=some (.ref D)) (hg:Gl X "isinstance":=by rfl) (hgD:Gl X dn:=by rfl) (hde:autoParam ((en == ("__debug__" : Str))=false) s_) (hce:autoParam ((en == ("__classdict__" : Str))=false) s_) (hdd:autoParam ((dn == ("__debug__" : Str))=false) s_)
  (he:Oy [.Name en p1,.Name dn p2] X.env=(false,eval (.Name en p1) X.env)::Oy [.Name dn p2] X.env:=by rfl) (hpl:(backTo pos (Oy [.Name dn p2] X.env)).any (·.1)=false:=by rfl)
  (hs:Oy [.Name dn p2] X.env=(false,eval (.Name dn p2) X.env)::Oy [] X.env:=by rfl) :
  PE X (.Call (.Name "isinstance" p) [.Name en p1,.Name dn p2] [] pos) (tIs e b):=by
 intro pins s σ H Q I ⟨hσ,q⟩;refine Pc (fg I hg hm gy ?_ (by decide) (by decide))
 have hA:PA X [.Name en p1,.Name dn p2] (hZ (oV 0) (hZ (tC (.ref D)) sZ)):=bF (i8 hN hv hde hce) (bF (tW hgD hmD rfl hdd) dQ hs) he;refine QC (cL (hA pos pins s σ H (λvs H'=>vs= [.ref e,.ref D]/\H'=H) I ⟨.ref e,hσ,rfl,rfl⟩) λus s1 ⟨vs,H1,I1,r1,e1,e2⟩=> ?_) he hpl
 subst e1;obtain⟨u,w',rfl,ru,rw'⟩:=zc r1;cases ru;cases rw';subst e2;exact DM hp hc hd OC OD b hb hnb I1 q
end
theorem eqB (a b:Bool):MeetsSeq.EqGives (.bool a) (.bool b) (a == b):=λprog w A E s Q h=>(PySem.SeqAt.EqAt.bool_bool a b (A:=A) (s:=s)) prog w E Q h
section
variable {X:Cx}
theorem sV:∀{ks:List Bool} {us:List Oa},Vals (ks.map V.bl) us->us=ks.map Pp
 | [],us,r=>by cases r;rfl
 | k::ks,us,r=>by
  cases r with
  | cons r1 r2=>cases r1;rw[sV r2];rfl
def md:Oa->Bool
 | .bool b=>b
 | _=>false
def Fz:V->List V->Hp->VK->Prop:=λx vs H Q=> ∃(l:Addr) (ks:List Bool),x= .ref l/\vs= [.bl true]/\H l=some (.lst (ks.map V.bl))/\Q (.int (ks.countP id:Nat)) H
theorem AX:MtR X "list.count" Fz:=by
 intro pins s σ H x vs v us Q I rx rv h;obtain⟨l,ks,rfl,rfl,hH,q⟩:=h;cases rx;obtain⟨u,rfl,ru⟩:=rv.one;cases ru;obtain⟨z,its,n,r,hl,e⟩:=I.KM hH
 have hi:=sV r;subst hi;refine Se F.slot_list_count ⟨_,e,rfl⟩ F.entry_list_count (F.args_list_count_2 _ _) (MeetsSeq.list_count l (ks.map Pp).toArray n (.bool true) md λy hy=> ?_) ⟨e,?_⟩
 ·have hy':y∈ks.map Pp:=by simpa using hy
  obtain⟨k,_,rfl⟩:=Oq.mp hy'
  have:=eqB k true;cases k <;> exact this
 ·have hc:(ks.map Pp).toArray.toList.countP md=ks.countP id:=by
   simp only[List.countP_map];rfl
  rw[hc];exact⟨.int _,H,I.tok _,⟨_,rfl⟩,q⟩
def Fx:V->List V->Hp->VK->Prop:=λx vs H Q=> ∃(l:Addr) (ks:List Bool) (j:Nat),x= .ref l/\vs= [.bl true]/\H l=some (.lst (ks.map V.bl))/\ks[j]? =some true/\(∀m,m<j->ks[m]? =some false)/\j<=1000/\Q (.int (j:Nat)) H
theorem AV:MtR X "list.index" Fx:=by
 intro pins s σ H x vs v us Q I rx rv h;obtain⟨l,ks,j,rfl,rfl,hH,hj,hno,hs,q⟩:=h;cases rx;obtain⟨u,rfl,ru⟩:=rv.one;cases ru;obtain⟨z,its,n,r,hl,e⟩:=I.KM hH
 have hi:=sV r;subst hi
 have hjl:j<ks.length:=(Oi.mp hj).1
 refine Se V7 ⟨_,e,rfl⟩ VA (Vj _ _) (MeetsSeq.list_index l (ks.map Pp).toArray n (.bool true) md (λy hy=> ?_) j (by simpa using hjl) (by omega) ?_ ?_) ⟨e,?_⟩
 ·have hy':y∈ks.map Pp:=by simpa using hy
  obtain⟨k,_,rfl⟩:=Oq.mp hy'
  have:=eqB k true;cases k <;> exact this
 ·have:ks[j] =true:=by have:=(Oi.mp hj).2;exact this
  simp[this,md]
 ·intro m hm hmj
  have hmk:m<ks.length:=by simpa using hm
  have:=(Oi.mp (hno m hmj)).2
  simp[this,md]
 ·exact⟨.int _,H,I.tok _,⟨_,rfl⟩,q⟩
end
abbrev MT (P:OH)(w:Px)(K:N6)(mg:Str->Option Oa)(base:Heap)(N:List Str)(qual:Str)(scope:RI)(f:Addr)(cd:Oa)(A:OV)(outer:List Env)(s:Od)(H:Hp)(e:Addr)(oe:Obj):Cx:=
 { jk CX0 P w K mg base N qual scope f cd A outer s H E0 with calm:=false,pn:=[(e,oe)],xe:=λ_ _=>False }
section
variable {P:OH}{w:Px}{K:N6}{mg:Str->Option Oa}{base:Heap}
theorem yD {N ps:List Str}{qual:Str}{scope:RI}{f:Addr}{cd:Oa}{A:OV}{outer:List Env}{s s1:Od}{H:Hp}{us:List Oa}{vs:List V}{e:Addr}{oe:Obj}
  (S:dj N ps scope) (e0:Env0 P w K mg base A outer s H) (hl:vs.length=ps.length) (r:Vals vs us)
  (x:InCallC s s.heap.objs.size (bindL (envOfC qual scope s.heap.objs.size f cd).kindOf (ps.zip us) λ_=>none) (QV (s.heap.objs.size+1) scope.names []) (bindC (envOfC qual scope s.heap.objs.size f cd).kindOf (ps.zip us) λ_=>none) s1)
  (he:s.heap.get? e=some oe) (hH:H e=none) (hf:e∉kF outer) (hc:∀v,oe.data≠ .cell v) :
  Inv (MT P w K mg base N qual scope f cd A outer s H e oe) [] (start N vs) H s1:=by
 have e0':Env0 P w K mg base { A with handled:=none } outer s H:=⟨e0.frames,e0.mod,e0.bs,e0.bsz,e0.funs,e0.frf,e0.hok,e0.bare,e0.tb⟩
 have I:=kE (CX:=CX0) (E:=E0) S (A:={ A with handled:=none }) rfl e0' hl r x
 obtain⟨h1,tk,hs1,hk⟩:=x.done
 have ok:=I.ok;refine⟨⟨ok.mod,ok.kind,ok.glob,ok.blt,ok.above,ok.inj,ok.has,ok.cab,(λz=>by cases z),U3 e0.frames,.inr ⟨rfl,rfl⟩,ok.exf,ok.bs,ok.bsz,ok.noex,ok.exfs,ok.funs,ok.frf,ok.tb⟩,I.os,I.bare,I.base,I.loc,I.cell,I.free,I.freeC,λp hp=> ?_,I.hok,I.len⟩
 have hp':p=(e,oe):=by simpa using hp
 subst hp';refine⟨?_,hH,?_,hf,hc⟩
 ·rw[hs1];exact hk e oe he
 ·exact O7 (Ou he)
theorem Kd {x qual:Str}{st:Stmt}{f:Addr}{fd:PV}{N ps:List Str}{A:OV}{outer:List Env}{s:Od}{H:Hp}{args:Args}{us:List Oa}{vs:List V}{Q:VK}{e:Addr}{oe:Obj}(Fn:L2.Fun K x qual st f fd)(S:dj N ps (az st))(hlen:vs.length=ps.length)
  (hr:A.depth+3<RX) (e0:Env0 P w K mg base A outer s H) (hb:Vp s fd args (ps.zip us)) (r:Vals vs us) (he:s.heap.get? e=some oe) (hH:H e=none) (hf:e∉kF outer) (hc:∀v,oe.data≠ .cell v)
  (hbody:∀(cdv:Oa),∃t,PSs (MT P w K mg base N qual (az st) f cdv A outer s H e oe) (cZ st) t/\t { nx:=λ_ _=>False,rt:=Q } (start N vs) H) :
  codeAny (model P w) A (.call (.ref f) args) (CR CX0 outer P w H s Q E0) s:=by
 obtain⟨oc,od,kV,doc,pm,an,cdv,ct,osl,rfl,lk,hcd⟩:=Fn.ex
 have KX:K.In s.heap:=e0.mod.kin.keeps λb o e=>(e0.bs b o e).1
 have lim:s.heap.NoLimit:=e0.mod.nolimit.keeps λb o e=>(e0.bs b o e).1
 have hkind:∀y∈ps.zip us,(az st).names.lookup y.1=some .local\/((az st).names.lookup y.1=some .cell/\((QV (s.heap.objs.size+1) (az st).names []).lookup y.1).isSome=true):=λ⟨n,v⟩ hy=>by
  rcases S.par n (Rh hy).1 with q | q
  ·exact .inl q
  ·exact .inr ⟨q,Q0 _ _ _ (.inl q)⟩
 refine SR (by omega) (KX _ _ lk) rfl S.co S.gen rfl (Tt KX hcd) (hb _ _ _ _ ?_)
 refine Q4 S.kind hkind λenv hen s1 x=> ?_
 subst hen;refine⟨lim.keeps x.toInCall.keep,Wy ?_⟩
 obtain⟨t,ht,hq⟩:=hbody cdv
 have I:=yD S e0 hlen r x he hH hf hc;refine Qo (ht [] s1 (start N vs) H _ I hq) (λfl s' hs=> ?_) λe s' hs=>hs.elim
 cases fl with
 | ret u=>
  obtain⟨v,σ',H',J,rv,q⟩:=hs
  exact⟨v,H',J.os,J.bare,J.base,J.hok,rv,q⟩
 | next=>obtain⟨_,_,_,q⟩:=hs;exact q.elim
 | brk=>obtain⟨_,_,_,q⟩:=hs;exact q.elim
 | cont=>obtain⟨_,_,_,q⟩:=hs;exact q.elim
end
section
variable {M:Xh}{A:OV}{E:Oa->Od->Prop}{s:Od}
theorem LO {base:Heap}{env:Env}{outer:List Env}{L C e:Addr}{T:Option Addr}{Q:Unit->Od->Prop}(hfr:A.frames=some (env::outer))(hl:s.heap.FunFrames base (env::outer))(hf:env.frame=some L)
  (F:MK s.heap C e T) (h:∀h' T',Ha ((env::outer).filterMap (·.frame)) C e T s.heap h' T'->Q () { s with heap:=h' }) :
  wpAny M A (Xl (.ref e) env) (λ_ s'=>wpAny M A (setFlight (.ref e) none) Q E s') E s:=by
 generalize hB:Uy s.heap (e::(T.toList++(env::outer).filterMap (·.frame)))=B
 have bm:∀b,b∈e::(T.toList++(env::outer).filterMap (·.frame))->B.get? b=none:=λb m=>by rw[<-hB];exact SY _ m
 have hl':s.heap.FunFrames B (env::outer):=iC hl λa ha=>bm a (N8 _ (OK _ ha))
 have hst:B.StaysIn s.heap:=λb o q=>by rw[<-hB]at q;exact Ts _ q
 have hen:B.get? e=none:=bm e Oe
 have main:∀h',Heap.Left B (env::outer) e (.ref C) s.heap h'->Q () { s with heap:=h' }:=λh' ⟨x1,x2,⟨oe,vs,T',oT,ts,he,hc,hd,h1,hnT,hTe,hT,hdT,h3⟩,x4⟩=>by
  refine h h' T' ⟨⟨hTe,oe,vs,he,hc,hd,h1,oT,ts,hT,hdT,h3⟩,?_,λb o n1 n2 n3 q=> ?_,λb o m q=> ?_⟩
  ·cases q:s.heap.get? T' with
   | none=>exact .inr rfl
   | some o=>
    left
    by_cases z:T'∈e::(T.toList++(env::outer).filterMap (·.frame))
    ·rcases Og.mp z with z | z
     ·exact absurd z hTe
     ·rcases OR.mp z with z | z
      ·cases T with
       | none=>simp at z
       | some t=>simp at z;rw[z]
      ·obtain⟨_,o',ho',hnf⟩:=x2.mem z
       rw[hT]at ho';cases ho';exact absurd hdT (hnf ts)
    ·rw[<-hB,Rm _ q z]at hnT;cases hnT
  ·refine x1 b o ?_
   rw[<-hB];refine Rm _ q λz=> ?_
   rcases Og.mp z with z | z
   ·exact n2 z
   ·rcases OR.mp z with z | z
    ·cases T with
     | none=>simp at z
     | some t=>simp at z;exact n3 (by rw[z])
    ·exact n1 z
  ·obtain⟨_,o',ho',hnf⟩:=hl.mem m
   rw[q]at ho';cases ho';exact x4 b o q hnf
 cases T with
 | none=>
  obtain⟨oe,vs,he,hc,hd,h1⟩:=F;unfold Xl;simp only[hf];refine N7 (Qv he hd h1 ?_)
  rw[if_neg (by decide)]
  refine wpAny_newEntry hfr hl' hf he hst hen hd (PX.mp h1).1 λh' x=>main h' ?_
  rw[hc]at x;exact x
 | some t=>
  obtain⟨hte,oe,vs,he,hc,hd,h1,oT,ts,hT,hdT,h3⟩:=F
  have hnT:B.get? t=none:=bm t (N8 _ (O8 _ (by simp)))
  unfold Xl;simp only[hf];refine N7 (Qv he hd h1 ?_)
  rw[if_pos (show(OA t != Pn)=true from by simp)]
  refine N7 (Qv hT hdT h3 ?_)
  rw[if_neg (show ¬((Pn == rawInt L)=true)from by simp[rawInt])]
  refine N7 (Vc hT hdT (PX.mp h3).1 ?_)
  have other:∀b,b≠t->(s.heap.update t (VB (·.setIfInBounds 3 Pn))).get? b=s.heap.get? b:=λb hb=>Pk _ _ (PM hb)
  have noRec:∀b o,s.heap.get? b=some o->(∀vs,o.data≠ .fields vs)->b≠t:=λb o hb hnf q=>by
   rw[q,hT]at hb;injection hb with hb;subst hb;exact hnf ts hdT
  refine wpAny_newEntry hfr (hl'.of_keeps λb o hb hnf=>⟨o,(other b (noRec b o hb hnf)).trans hb,rfl⟩) hf ((other e (PM hte)).trans he)
   (λb o hbo=>(other b λq=>by rw[q,hnT]at hbo;cases hbo).trans (hst b o hbo)) hen hd (PX.mp h1).1
   λh' x=>main h' ?_
  obtain⟨x1,x2,x3,x4⟩:=x;rw[hc]at x3;exact⟨x1,x2,x3,λb o hb hnf=>x4 b o ((other b (noRec b o hb hnf)).trans hb) hnf⟩
end
section
variable {X:Cx}{pins:List (Addr×Obj)}{σ:L2.St}{H:Hp}{s:Od}{h':Heap}
theorem Inv.gone {C e T':Addr}{T:Option Addr}(I:Inv X pins σ H s)(hst:X.stack=X.env::X.outer)(hfe:X.env.frame=some X.env.locals)(hcl:∀x c,X.env.cells.lookup x≠some c)(hex:X.ex= [])
  (g:Ha ((X.env::X.outer).filterMap (·.frame)) C e T s.heap h' T') (he:H e=none) (heo:X.s₀.heap.get? e=none) (hT:∀t,T=some t->H t=none/\X.s₀.heap.get? t=none) (hp:∀p∈X.pn++pins,p.1≠e/\T≠some p.1) :
  Inv X pins σ H { s with heap:=h' }:=by
 have mem:∀b,b∈(X.env::X.outer).filterMap (·.frame)↔b=X.env.locals\/b∈X.fs:=λb=>by
  rw[P8,hfe];exact Og
 have out:∀b o,X.s₀.heap.get? b=some o->b≠X.env.locals:=λb o q z=>by
  have h1:=Ou q
  have h2:=I.ok.above;rw[z]at h1;exact absurd (Os h1 h2) (O9 _)
 have ne:∀b o,X.s₀.heap.get? b=some o->b≠e/\T≠some b:=λb o q=>⟨λz=>(by subst z;rw[heo]at q;cases q),λz=>(by rw[(hT b z).2]at q;cases q)⟩
 have fr:∀b,b∈(X.env::X.outer).filterMap (·.frame)->H b=none:=λb z=>I.GT b (by rw[hst];exact z)
 have keepH:∀b u,H b≠none->s.heap.get? b=some u->h'.get? b=some u:=λb u hb q=>by
  refine g.keep b u (λz=>hb (fr b z)) (λz=>hb (by rw[z];exact he)) (λz=>hb (hT b z).1) q
 refine⟨I.ok,I.os,I.bare,⟨λb o q n hb hx=> ?_,λb o q n hb hx=> ?_,I.base.free,λb o q hx=> ?_,I.base.tups,I.base.frzs,I.base.tbls⟩,?_,λx c z=>absurd z (hcl x c),I.free,I.freeC,λp hp'=> ?_,λa o q=> ?_,I.len⟩
 ·exact g.keep b o (λz=>((mem b).mp z).elim (out b o q) hb) (ne b o q).1 (ne b o q).2 (I.base.keep b o q n hb hx)
 ·obtain⟨sl,q1⟩:=I.base.slot b o q n hb hx
  obtain⟨sl',q2⟩:=g.slot b _ ((mem b).mpr (.inr hb)) q1;exact⟨sl',q2⟩
 ·obtain⟨o',q1⟩:=I.base.there b o q hx
  by_cases z:b∈(X.env::X.outer).filterMap (·.frame)
  ·obtain⟨sl,q2⟩:=g.slot b o' z q1
   exact⟨_,q2⟩
  ·exact⟨o',g.keep b o' z (ne b o q).1 (ne b o q).2 q1⟩
 ·obtain⟨m,⟨o,es,ep,ho,hd,r⟩,hl⟩:=I.loc
  obtain⟨sl,q2⟩:=g.slot X.env.locals o ((mem _).mpr (.inl rfl)) ho;refine⟨m,⟨_,es,ep,q2,hd,r⟩,λi x v a1 a2 a3=> ?_⟩
  obtain⟨u,ru,lk⟩:=hl i x v a1 a2 a3;refine⟨u,ru,?_⟩
  rcases lk with z | ⟨_,c,z,_⟩
  ·exact .inl z
  ·exact absurd z (hcl x c)
 ·obtain⟨b1,b2,b3,b4,b5⟩:=I.pin p hp'
  exact⟨g.keep p.1 p.2 (λz=>((mem _).mp z).elim b3 b4) (hp p hp').1 (hp p hp').2 b1,b2,b3,b4,b5⟩
 ·refine(I.hok a o q).M5 (λb u hb z=>keepH b u ?_ z) (λ_ z=>z) λ_ _ z=>z
  rcases hb with rfl | hb
  ·rw[q];simp
  ·rw[hb];simp
end
section
variable {M:Xh}{A:OV}{E:Oa->Od->Prop}{h:Heap}{g:Array VL}{d:Drawn}{t:Nat}{os:Wh}
variable {nm q:Str}{C N:Addr}{bs bm:List Oa}{hdct:Bool}{sn:List Str}{sub:List Oa}{ab:Bool}{col:Option Bool}{dd:Option Addr}{k0 k1 k2 k3 k5:Option Oa}{newId:String}
variable {nm' q':Str}{D N':Addr}{bs' bm':List Oa}{hdct':Bool}{sn':List Str}{sub':List Oa}{ab':Bool}{col':Option Bool}{dd':Option Addr}{k0' k1' k2' k3' k5':Option Oa}{newId':String}
theorem AY {e:Addr}{oe:Obj}{Q:Bool->Od->Prop}(hC:h.get? C=some (PY nm q C N bs bm hdct sn sub ab col dd k0 k1 k2 k3 k5 newId))(hD:h.get? D=some (PY nm' q' D N' bs' bm' hdct' sn' sub' ab' col' dd' k0' k1' k2' k3' k5' newId'))
  (he:h.get? e=some oe) (hcls:oe.cls= .ref C) (hb:bm'.contains (.type "BaseException")=true) (hin:(OA C::bm).contains (.ref D)=true) (hq:Q true ⟨h,g,d,t,os⟩):wpAny M A (excMatches (.ref e) (.ref D)) Q E ⟨h,g,d,t,os⟩:=by
 have hcB:(OA D::bm').contains (.type "BaseException")=true:=by rw[Qh,hb,Wu]
 have f:=tc_notTuple;unfold excMatches
 repeat (first | (with_reducible refine Pu he ?_;rw[hcls]) | with_reducible refine Pu hD ?_ | (with_reducible refine QX hD ?_;rw[hcB]) | (with_reducible refine QX hC ?_;rw[hin]) | wp_step)
 exact hq
end
abbrev yM (X:Cx)(e:Addr)(oe:Obj):Cx:={ X with A:=X.A.mark (some (.ref e)),calm:=false,pn:=(e,oe)::X.pn,xe:=λ_ _=>False }
section
variable {X:Cx}{pins:List (Addr×Obj)}{σ:L2.St}{H:Hp}{s:Od}{e:Addr}{oe:Obj}
theorem zY (I:Inv X pins σ H s)(he:s.heap.get? e=some oe)(hH:H e=none)(hne:e≠X.env.locals)(hf:e∉X.fs)(hc:∀v,oe.data≠ .cell v):Inv (yM X e oe) pins σ H s:=by
 have ok:=I.ok;refine⟨⟨ok.mod,ok.kind,ok.glob,ok.blt,ok.above,ok.inj,ok.has,ok.cab,(λz=>by cases z),?_,ok.stk,ok.exf,ok.bs,ok.bsz,ok.noex,ok.exfs,ok.funs,ok.frf,ok.tb⟩,I.os,I.bare,I.base,I.loc,I.cell,I.free,I.freeC,λp hp=> ?_,I.hok,I.len⟩
 ·exact ok.frames
 ·rcases Og.mp (show p∈(e,oe)::(X.pn++pins)from hp)with z | z
  ·subst z;exact⟨he,hH,hne,hf,hc⟩
  ·exact I.pin p z
theorem GA (ok:X.Ok)(I:Inv (yM X e oe) pins σ H s):Inv X pins σ H s:=
 ⟨ok,I.os,I.bare,I.base,I.loc,I.cell,I.free,I.freeC,λp hp=>I.pin p (N8 _ hp),I.hok,I.len⟩
theorem Inv.forget {h':Heap}{tk:Nat}{m:Str->Option Oa}(I:Inv X pins σ H s)(hcl:∀x c,X.env.cells.lookup x≠some c)(hn:h'.Ns X.env.locals m)(hs:SH X.env.locals s.heap h'):Inv X pins (OJ X.N.length none) H { s with heap:=h',toks:=tk }:=by
 have out:∀b o,X.s₀.heap.get? b=some o->b≠X.env.locals:=λb o q z=>by
  have h1:=Ou q
  have h2:=I.ok.above;rw[z]at h1;exact absurd (Os h1 h2) (O9 _)
 have kp:∀b o,b≠X.env.locals->s.heap.get? b=some o->h'.get? b=some o:=λb o n q=>hs.extBut b o n q
 refine⟨I.ok,I.os,I.bare,⟨λb o q n hb hx=>kp b o (out b o q) (I.base.keep b o q n hb hx),λb o q n hb hx=> ?_,I.base.free,λb o q hx=> ?_,I.base.tups,I.base.frzs,I.base.tbls⟩,⟨m,hn,λi x v a1 a2 a3=> ?_⟩,λx c z=>absurd z (hcl x c),I.free,I.freeC,λp hp=> ?_,λa o q=> ?_,by simp⟩
 ·obtain⟨sl,q1⟩:=I.base.slot b o q n hb hx
  exact⟨sl,kp b _ (out b o q) q1⟩
 ·obtain⟨o',q1⟩:=I.base.there b o q hx
  exact⟨o',kp b o' (out b o q) q1⟩
 ·rw[Ro]at a2
  split at a2 <;> cases a2
 ·obtain⟨b1,b2,b3,b4,b5⟩:=I.pin p hp
  exact⟨kp p.1 p.2 b3 b1,b2,b3,b4,b5⟩
 ·have nl:∀b u,H b=some u->b≠X.env.locals:=λb u q z=>by rw[z,I.free]at q;cases q
  refine(I.hok a o q).M5 (λb u hb z=>kp b u ?_ z) (λ_ z=>z) λ_ _ z=>z
  rcases hb with rfl | hb
  ·exact nl _ _ q
  ·exact nl _ _ hb
end
def vF (F:En->Rs Fl)(h:Str->Rs T)(Z:En):Rs Fl:=match F Z with
 | .err c=>match h c with
  | .ok t=> .ok (.rt t)
  | _=> .bad
 | r=>r
def uZ (X:Cx)(i:Nat)(suite:List Stmt)(CE:Addr)(h:Str->Rs T):Prop:=
 ∀(c:Str) (C:Addr) (t:T),X.mg c=some (.ref C)->h c= .ok t->∃bm,OX X.K C bm/\(OA C::bm).contains (.ref CE)=true ∧
  ∀(e:Addr) (oe:Obj) (ev:Array Oa),oe.cls= .ref C->oe.data= .fields ev->∀(pins:List (Addr×Obj)) (s:Od) (σ:L2.St) (H:Hp) (O:Ow) (Q:VK),Inv (yM X e oe) pins σ H s->H e=none->e∉kF X.stack->σ[i]? =some (some (.ref e))->(∀p,H p=none->¬ O p) →
   (∀v H',Same H H'->Rep X.K O H' t v->Q v H')->wpAny (model X.prog X.w) (yM X e oe).A (execs suite X.env) (SP (yM X e oe) pins { nx:=λ_ _=>False,rt:=Q }) (λ_ _=>False) s
section
variable {X:Cx}
theorem Inv.NR {σ:L2.St}{H:Hp}{s:Od}(pins:List (Addr×Obj))(I:Inv X pins σ H s):Inv { X with pn:=X.pn++pins } [] σ H s:=
 ⟨⟨I.ok.mod,I.ok.kind,I.ok.glob,I.ok.blt,I.ok.above,I.ok.inj,I.ok.has,I.ok.cab,I.ok.hd,I.ok.frames,I.ok.stk,I.ok.exf,I.ok.bs,I.ok.bsz,I.ok.noex,I.ok.exfs,I.ok.funs,I.ok.frf,I.ok.tb⟩,I.os,I.bare,I.base,I.loc,I.cell,I.free,I.freeC,λp hp=>I.pin p (by rw[Pz]at hp;exact hp),I.hok,I.len⟩
theorem Inv.NY {σ:L2.St}{H:Hp}{s:Od}{pins pins1:List (Addr×Obj)}{xe:Oa->Od->Prop}(I:Inv { X with pn:=X.pn++pins,xe:=xe } pins1 σ H s):Inv X pins σ H s:=
 ⟨⟨I.ok.mod,I.ok.kind,I.ok.glob,I.ok.blt,I.ok.above,I.ok.inj,I.ok.has,I.ok.cab,I.ok.hd,I.ok.frames,I.ok.stk,I.ok.exf,I.ok.bs,I.ok.bsz,I.ok.noex,I.ok.exfs,I.ok.funs,I.ok.frf,I.ok.tb⟩,I.os,I.bare,I.base,I.loc,I.cell,I.free,I.freeC,λp hp=>I.pin p (O8 _ hp),I.hok,I.len⟩
theorem JL {K:N6}{C D e:Addr}{bm bmD:List Oa}{oe:Obj}{P:Xh}{A:OV}{E:Oa->Od->Prop}{s:Od}{Q:Bool->Od->Prop}(OC:OX K C bm)(OD:OX K D bmD)(k:K.In s.heap)(he:s.heap.get? e=some oe)(hc:oe.cls= .ref C)(hi:(OA C::bm).contains (.ref D)=true)(q:Q true s):wpAny P A (excMatches (.ref e) (.ref D)) Q E s:=by
 obtain⟨_,_,_,_,_,_,_,_,_,_,_,_,_,_,_,_,hC,_⟩:=OC.at_ _ k;obtain⟨_,_,_,_,_,_,_,_,_,_,_,_,_,_,_,_,hD,_,_,TD⟩:=OD.at_ _ k;exact AY hC hD he hc (TD.tail.hasType (by decide)) hi q
theorem IJ {body suite:List Stmt}{b0:Stmt}{F:En->Rs Fl}{h:Str->Rs T}{ce n:Str}{CE:Addr}{bmE:List Oa}{i:Nat}{np hpos pos:Pos}(hst:X.stack=X.env::X.outer)(hfe:X.env.frame=some X.env.locals)(hcl:∀x c,X.env.cells.lookup x≠some c)(hex:X.ex= [])
  (hN:X.N.Nodup) (hi:X.N[i]? =some n) (hloc:X.env.scope.names.lookup n=some .local) (hm:X.mg ce=some (.ref CE)) (OE:OX X.K CE bmE)
  (hb:∀pn xe,nt { X with pn:=pn,xe:=xe } body F) (hs:uZ X i (b0::suite) CE h) (hg:Gl X ce:=by rfl) (hd:autoParam ((ce == ("__debug__" : Str))=false) s_) :
  qP X (.Try body [.ExceptHandler (some (.Name ce np)) (some n) (b0::suite) hpos] [] [] pos) (vF F h):=by
 intro pins s σ H D I ⟨Z,B,M,E,hq⟩;refine wpAny_Try_except ?_
 unfold vF at hq
 cases q:F Z with
 | bad=>rw[q]at hq;exact hq.elim
 | ok fl=>
  rw[q]at hq;refine Qo (hb X.pn (λ_ _=>False) pins s σ H D (I.FB _) ⟨Z,B,M,E,by rw[q];cases fl <;> exact hq⟩) (λf s1 r=> ?_) (λe s1 z=>z.elim)
  cases f with
  | next=>obtain⟨σ7,H7,I7,q7⟩:=r;exact Sk ⟨σ7,H7,I7.FB _,q7⟩
  | ret u=>obtain⟨x7,σ7,H7,I7,r7,q7⟩:=r;exact⟨x7,σ7,H7,I7.FB _,r7,q7⟩
  | brk=>obtain⟨σ7,H7,I7,q7⟩:=r;exact⟨σ7,H7,I7.FB _,q7⟩
  | cont=>obtain⟨σ7,H7,I7,q7⟩:=r;exact⟨σ7,H7,I7.FB _,q7⟩
 | err c=>
  rw[q]at hq
  cases q2:h c with
  | bad=>simp only[q2]at hq;exact hq.elim
  | err c'=>simp only[q2]at hq;exact hq.elim
  | ok t=>
   simp only[q2]at hq
   have hq':∀v H',SameO M.u H H'->Rep X.K B H' t v->D.rt v H':=hq;refine Qo (hb (X.pn++pins) _ [] s σ H { nx:=λ_ _=>False,rt:=λ_ _=>False,bk:=λ_ _=>False,ct:=λ_ _=>False } ((Tr.Inv.NR pins I).FB _) ⟨Z,B,M,E,?_⟩) (λfl s' z=> ?_) λ_ _ z=>z
   rotate_left
   ·cases fl with
    | next=>obtain⟨_,_,_,z⟩:=z;exact z.elim
    | cont=>obtain⟨_,_,_,z⟩:=z;exact z.elim
    | brk=>obtain⟨_,_,_,z⟩:=z;exact z.elim
    | ret v=>obtain⟨_,_,_,_,_,z⟩:=z;exact z.elim
   rw[q];intro pins1 ev s1 w;obtain⟨e,T,C,σ1,H1,rfl,hmc,I1,sm,he,heo,fl,hT,hpp⟩:=w
   have I1:Inv X pins σ1 H1 s1:=Tr.Inv.NY (X:=X) I1
   have hpp:∀p∈X.pn++pins,p.1≠e/\T≠some p.1:=λp hp=>hpp p (O8 _ hp)
   have heo:=heo hex
   have hT:∀t,T=some t->H1 t=none/\X.s₀.heap.get? t=none:=λt z=>⟨(hT t z).1,(hT t z).2 hex⟩
   show wpAny _ _ _ _ _ _
   have hfr:X.A.frames=some (X.env::X.outer):=by rw[<-hst];exact I1.ok.frames
   have hstk:s1.heap.FunFrames X.base (X.env::X.outer):=by rw[<-hst];exact I1.stack
   refine LO hfr hstk hfe fl λh' T' g=> ?_
   have I2:=Inv.gone I1 hst hfe hcl hex g he heo hT hpp
   have Tn:H1 T'=none/\X.s₀.heap.get? T'=none/\∀p∈X.pn++pins,p.1≠T':=by
    rcases g.new with z | z
    ·exact⟨(hT T' z).1,(hT T' z).2,λp hp y=>(hpp p hp).2 (by rw[z,y])⟩
    ·exact⟨pY I1 z,lr I1 hex z,λp hp y=>by have:=(I1.pin p hp).1;rw[y,z]at this;cases this⟩
   obtain⟨bm,OC,hin,run⟩:=hs c C t hmc q2;obtain⟨hTe,oe,ev,hoe,hoc,hod,h1,oT,ts,hoT,hdT,h3⟩:=g.flt
   have nfr:∀b o vs,h'.get? b=some o->o.data= .fields vs->b∉(X.env::X.outer).filterMap (·.frame):=λb o vs hb hd z=>by
    have:=I2.stack;rw[hst]at this;obtain⟨_,o',ho',hnf⟩:=this.mem z;rw[show h'.get? b=some o' from ho']at hb
    cases hb;exact hnf vs hd
   have hel:e≠X.env.locals:=λz=>nfr e oe ev hoe hod (by rw[P8,hfe];exact z▸Oe)
   have hef:e∉X.fs:=λz=>nfr e oe ev hoe hod (by rw[P8,hfe];exact N8 _ z)
   have hcell:∀v,oe.data≠ .cell v:=λv z=>by rw[hod]at z;cases z
   have I3:Inv (yM X e oe) pins σ1 H1 { s1 with heap:=h' }:=zY I2 hoe he hel hef hcell
   refine wpAny_handleBy_cons (codeAny_handlers_test (jd (X:=yM X e oe) I3 hg hm ?_ hd)) (by intro z;cases z)
   refine JL OC OE I3.kIn hoe hoc hin (codeAny_handlers_suite_as ?_)
   refine wpAny_setFlight_none hoe hod h1 hoT hdT (PX.mp h3).1 ?_
   generalize hU:h'.update T' (VB (·.setIfInBounds 3 Pn))=h2
   have kp:∀b,b≠T'->h2.get? b=h'.get? b:=λb hb=>by rw[<-hU];exact Pk _ _ (PM hb)
   have hT2:h2.get? T'=some (VB (·.setIfInBounds 3 Pn) oT):=by rw[<-hU];exact RE _ hoT (UF (Sh hdT _))
   have hoe2:h2.get? e=some oe:=(kp e (PM hTe)).trans hoe
   have g2:Ha ((X.env::X.outer).filterMap (·.frame)) C e (some T') h' h2 T':=⟨⟨hTe,oe,ev,hoe2,hoc,hod,h1,_,_,hT2,Sh hdT _,by simp[(PX.mp h3).1]⟩,.inl rfl,λb o _ _ n3 q=>(kp b λz=>n3 (by rw[z])).trans q,λb o m q=>⟨o.slots,(kp b λz=>nfr T' oT ts hoT hdT (z▸m)).trans q⟩⟩
   have I4:Inv X pins σ1 H1 { s1 with heap:=h2 }:=Inv.gone (s:={ s1 with heap:=h' }) I2 hst hfe hcl hex g2 he heo (λt z=>by cases z;exact⟨Tn.1,Tn.2.1⟩) λp hp=>⟨(hpp p hp).1,λz=>Tn.2.2 p hp (OP z).symm⟩
   have I5:Inv (yM X e oe) pins σ1 H1 { s1 with heap:=h2 }:=zY I4 hoe2 he hel hef hcell
   refine lI (X:=yM X e oe) (v:=.ref e) I5 hN hi (.inl hloc) rfl (λs3 I6=> ?_) (.inr hloc)
   have hil:i<σ1.length:=by
    rw[I1.len];exact(Oi.mp hi).1
   refine Qo (run e oe ev hoc hod pins s3 _ H1 B (λv H'=>Same H1 H'/\Rep X.K B H' t v) I6 he (λz=> ?_) (by simp[hil]) (λp hp z=> ?_) λv H' s' r=>⟨s',r⟩) (λf s4 r=> ?_) λ_ _ z=>z.elim
   ·rw[hst]at z
    exact nfr e oe ev hoe hod z
   ·obtain⟨o,ho⟩:=(E.env.trk p (.inl z)).some
    have:=sm p o ho (λw=>E.mine p w z)
    rw[hp]at this;cases this
   ·cases f with
    | next=>obtain⟨_,_,_,z⟩:=r;exact z.elim
    | brk=>obtain⟨_,_,_,z⟩:=r;exact z.elim
    | cont=>obtain⟨_,_,_,z⟩:=r;exact z.elim
    | ret u=>
     obtain⟨v,σ',H',I7,rv,s',rt⟩:=r;obtain⟨m,hn,_⟩:=I7.loc;refine wpAny_nameGoes (show X.env.kindOf n=some .local from hloc) hn (by rw[I.ok.kind];rfl) λh8 m8 hn8 hs8=> ?_
     exact⟨v,_,H',Inv.forget (GA I.ok I7) hcl hn8 hs8,rv,hq' v H' (λb o y nn=>s' b o (sm b o y nn)) rt⟩
end
section
variable {X:Cx}{e C:Addr}{oe:Obj}{bm:List Oa}
theorem Kv:Pb "ValueError" =some (.type "ValueError"):=by decide+kernel
theorem Jo {en:Str}{p p1 p2 pos:Pos}(hN:X.N[0]? =some en)(hv:uY X.env.scope en)(hp:(e,oe)∈X.pn)(hc:oe.cls= .ref C)(OC:OX X.K C bm)
  (hm:X.mg "isinstance" =none) (hmD:X.mg "ValueError" =none) (hg:Gl X "isinstance":=by rfl) (hgD:Gl X "ValueError":=by rfl) (hde:autoParam ((en == ("__debug__" : Str))=false) s_) (hce:autoParam ((en == ("__classdict__" : Str))=false) s_)
  (he:Oy [.Name en p1,.Name "ValueError" p2] X.env=(false,eval (.Name en p1) X.env)::Oy [.Name "ValueError" p2] X.env:=by rfl) (hpl:(backTo pos (Oy [.Name "ValueError" p2] X.env)).any (·.1)=false:=by rfl)
  (hs:Oy [.Name "ValueError" p2] X.env=(false,eval (.Name "ValueError" p2) X.env)::Oy [] X.env:=by rfl) :
  PE X (.Call (.Name "isinstance" p) [.Name en p1,.Name "ValueError" p2] [] pos) (tIs e true):=by
 intro pins s σ H Q I ⟨hσ,q⟩;refine Pc (fg I hg hm gy ?_ (by decide) (by decide))
 have hA:PA X [.Name en p1,.Name "ValueError" p2] (hZ (oV 0) (hZ (tC (.ty "ValueError")) sZ)):=bF (i8 hN hv hde hce) (bF (zB (v:=.ty "ValueError") hgD hmD Kv rfl) dQ hs) he;refine QC (cL (hA pos pins s σ H (λvs H'=>vs= [.ref e,.ty "ValueError"]/\H'=H) I ⟨.ref e,hσ,rfl,rfl⟩) λus s1 ⟨vs,H1,I1,r1,e1,e2⟩=> ?_) he hpl
 subst e1;obtain⟨u,w',rfl,ru,rw'⟩:=zc r1;cases ru;cases rw';subst e2;exact DN hp hc OC I1 q
end
theorem LN {K:N6}{N:Addr}{ob:Oa}{oe:Option Addr}{es:Array DictEntry}{n:Nat}{oz:Array (Option Oa)}(r:K.lookup N=some ⟨ob,oe,.dict es n,oz⟩)(s:(es.toList.all λe=>B3 e.key)=true)
  (u0:SF K N "__init__" =some none) (u1:SF K N "__getattribute__" =some none) (u2:SF K N "__getattr__" =some none) (u3:SF K N "__class__" =some none) :
  ∀h:Heap,K.In h->∃mN,h.Ns N mN/\∀n∈calmNames,mN n=none:=λh k=>by
 refine⟨nsFind es,⟨_,es,n,k _ _ r,rfl,λe he=> ?_,λ_=>rfl⟩,λx hx=> ?_⟩
 ·have:=OG.mp s e (by simpa using he)
  cases q:e.key <;> rw[q]at this <;> first | exact⟨_,_,rfl⟩ | cases this
 ·have key:∀x,SF K N x=some none->nsFind es x=none:=λx u=>by
   unfold SF at u;rw[r]at u;simp only at u
   split at u
   ·cases u
   ·rename_i he
    unfold nsFind findBy;rw[<-Vv,he];rfl
  unfold calmNames at hx;simp only[Og,Pd,or_false]at hx;rcases hx with rfl | rfl | rfl | rfl
  ·exact key _ u0
  ·exact key _ u1
  ·exact key _ u2
  ·exact key _ u3
section
variable {K:N6}{nm q:Str}{C N:Addr}{bs:List Oa}{hdct:Bool}{sn:List Str}{sub:List Oa}{ab:Bool}{col:Option Bool}{dd:Option Addr}{k0 k1 k2 k3 k5:Option Oa}
variable {nm' q':Str}{D N':Addr}{bs':List Oa}{hdct':Bool}{sn':List Str}{sub':List Oa}{ab':Bool}{col':Option Bool}{dd':Option Addr}{k0' k1' k2' k3' k5':Option Oa}
theorem F6 (w:K.lookup C=some (PY nm q C N bs oj hdct sn sub ab col dd k0 k1 k2 k3 k5 "ValueError.__new__"))(ns:∀h:Heap,K.In h->∃mN,h.Ns N mN/\∀n∈calmNames,mN n=none):OX K C oj:=⟨λh k=>by
 obtain⟨mN,h1,h2⟩:=ns h k;exact⟨nm,q,N,bs,hdct,sn,sub,ab,col,dd,k0,k1,k2,k3,k5,mN,k _ _ w,h1,h2,.base⟩⟩
theorem CV (w:K.lookup C=some (PY nm q C N bs (.ref D::oj) hdct sn sub ab col dd k0 k1 k2 k3 k5 "ValueError.__new__"))(ns:∀h:Heap,K.In h->∃mN,h.Ns N mN/\∀n∈calmNames,mN n=none)
  (wD:K.lookup D=some (PY nm' q' D N' bs' oj hdct' sn' sub' ab' col' dd' k0' k1' k2' k3' k5' "ValueError.__new__")) (nsD:∀h:Heap,K.In h->∃mN,h.Ns N' mN/\∀n∈calmNames,mN n=none):OX K C (.ref D::oj):=⟨λh k=>by
 obtain⟨mN,h1,h2⟩:=ns h k;obtain⟨mD,d1,d2⟩:=nsD h k;exact⟨nm,q,N,bs,hdct,sn,sub,ab,col,dd,k0,k1,k2,k3,k5,mN,k _ _ w,h1,h2,.own (k _ _ wD) d1 d2 .base⟩⟩
end
theorem K8 {k:Nat}{A:OV}(h:Room k A):A.depth+3<RX:=by have:=h.dp;omega
theorem Cd (i j:Int):rng i j=((On (j - i).toNat).map λ(k:Nat)=>i+(k:Int)).map T.int:=by unfold rng;rw[OM];rfl
theorem za:∀{xs:List V} {us:List Oa},xs.length=us.length->(∀(m:Nat) (u:Oa),us[m]? =some u->∃x,xs[m]? =some x/\RelV x u)->Vals xs us
 | [],[],_,_=> .nil
 | [],_::_,h,_=>by cases h
 | _::_,[],h,_=>by cases h
 | x::xs,u::us,h,k=>by
  obtain⟨y,e,r⟩:=k 0 u rfl;cases e;exact .cons r (za (by simpa using h) λm v hv=>k (m+1) v hv)
theorem zI {X:Cx}{pins:List (Addr×Obj)}{σ:L2.St}{H1:Hp}{s1:Od}{O:Ow}{Q:VK}{i j:Int}{t t' t2:Tok}{tk0:Nat}(hc:X.A.handled=none)(I1:Inv X pins σ H1 s1)(c1 : -(2 ^ 62)<=i)(c2:i<2 ^ 62)(c3 : -(2 ^ 62)<=j)(c4:j<2 ^ 62)(k3:(j - i).toNat<=1000)(fr:∀p,H1 p=none->¬ O p)
  (q1:∀H',Same H1 H'->∀v,Rep X.K O H' (.lst (rng i j)) v->Q v H') :
  wpAny (model X.prog X.w) X.A (call (.type "list") [.ref s1.heap.objs.size]) (EP X pins σ Q) X.xe { s1 with heap:=s1.heap.push { cls:=.type "range",data:=.fields #[.int i t,.int j t',.int 1 t2] },toks:=tk0 }:=by
 refine call_list_range (n:=(j - i).toNat) hc (W2 ..) (small_one c1 c2 c3 c4) (by rw[rangeSize_one];split <;> omega) (by omega) λh' tk acc' c' kp hS hacc=> ?_
 have I2:Inv X pins σ H1 { s1 with heap:=s1.heap.push { cls:=.type "range",data:=.fields #[.int i t,.int j t',.int 1 t2] },toks:=tk0 }:=I1.kept λb o e=>Oh _ e
 have hn:H1 (s1.heap.push { cls:=.type "range",data:=.fields #[.int i t,.int j t',.int 1 t2] }).objs.size=none:=I2.hok.fresh (Ot _)
 have hv:Vals (((On (j - i).toNat).map λ(k:Nat)=>i+(k:Int)).map V.int) acc'.toList:=by
  refine za ?_ ?_
  ·simp[hacc.1]
  ·intro m u hu
   have hu':acc'[m]? =some u:=by simpa using hu
   obtain⟨tk,rfl⟩:=hacc.2 m u hu'
   have hm:m<(j - i).toNat:=by
    have:=(PX.mp hu').1
    rw[hacc.1]at this;exact this
   refine⟨.int (i+(m:Int)),by simp[hm],⟨tk,?_⟩⟩
   rw[Int.mul_one]
 have I3:Inv X pins σ (upd H1 _ (.lst _)) { s1 with heap:=h',toks:=tk }:=I2.laid (t':=tk) (o:=.lst (((On (j - i).toNat).map λ(k:Nat)=>i+(k:Int)).map V.int)) kp (Ot _) ⟨by rw[Ob,Ob,OU,PH];omega,acc'.toList,c',hv,by simpa using hS⟩
 refine⟨.ref _,_,I3,rfl,q1 _ (aQ hn _) _ ?_⟩
 rw[Cd];exact gP hn (fr _ hn) Reps.ints
theorem Cv {X:Cx}{a:Expr}{es:List Expr}{fs:En->Rs (List T)}{p1 p2 pos pos2:Pos}(hc:X.calm=true)(h1:X.mg "list" =none)(h2:X.mg "range" =none)(ha:qS X (a::es) fs)(g1:Gl X "list":=by rfl)(g2:Gl X "range":=by rfl)
  (hn:bj (a::es)=true:=by rfl)
  (he2:Oy [.Call (.Name "range" p2) (a::es) [] pos2] X.env=(false,eval (.Call (.Name "range" p2) (a::es) [] pos2) X.env)::Oy [] X.env:=by rfl) (hpl2:(backTo pos (Oy [] X.env)).any (·.1)=false:=by rfl) :
  c8 X (.Call (.Name "list" p1) [.Call (.Name "range" p2) (a::es) [] pos2] [] pos) (lR fs):=by
 unfold bj at hn;rw[N9]at hn;intro pins s σ H Q I ⟨Z,O,E,hq⟩
 have hz:=eF E hq
 have b1:Pb ("list" : Str)=some (.type "list"):=by decide+kernel
 have b2:Pb ("range" : Str)=some (.type "range"):=by decide+kernel
 refine Pc (fg I g1 h1 b1 ?_ (by decide) (by decide))
 refine Pa ?_ he2 hpl2
 rw[he2]
 show wpAny _ _ (spliced ((false,eval (.Call (.Name "range" p2) (a::es) [] pos2) X.env)::backTo pos (Oy [] X.env))) _ _ s
 refine RB ?_
 refine Pc (fg I g2 h2 b2 ?_ (by decide) (by decide))
 refine Pa (cL (ha pos2 pins s σ H _ I hz) λus s1 ⟨vs,H1,I1,r1,ts,rs,sm,E1,q1⟩=> ?_) (bo hn.1) (gh hn.2)
 split at q1
 ·rename_i i j
  split at q1
  ·rename_i hk
   rw[N9,N9]at hk;obtain⟨⟨k1,k2⟩,k3⟩:=hk;obtain⟨c1,c2⟩:=fE k1;obtain⟨c3,c4⟩:=fE k2
   have k3:=of_decide_eq_true k3;obtain⟨v,ws,rfl,r2,q⟩:=Reps.me.mp rs;obtain⟨v2,rfl,r3⟩:=q.one;cases Rep.AC.mp r2;cases Rep.AC.mp r3
   cases r1 with
   | cons ra rr=>
    cases rr with
    | cons rb rr=>
     cases rr;obtain⟨t,rfl⟩:=ra;obtain⟨t',rfl⟩:=rb;exact WB (Rg (zI (I.ok.hd hc) I1 c1 c2 c3 c4 k3 (λp=>E1.fresh) q1))
  ·exact q1.elim
 ·rename_i j
  split at q1
  ·rename_i hk
   rw[N9]at hk;obtain⟨k2,k3⟩:=hk;obtain⟨c3,c4⟩:=fE k2
   have k3:=of_decide_eq_true k3;obtain⟨v,rfl,r2⟩:=rs.one;cases Rep.AC.mp r2
   cases r1 with
   | cons ra rr=>
    cases rr;obtain⟨t,rfl⟩:=ra;exact WA (Rg (zI (I.ok.hd hc) I1 (by omega) (by omega) c3 c4 (by rw[Int.sub_zero];exact k3) (λp=>E1.fresh) q1))
  ·exact q1.elim
 ·exact q1.elim
end Tr
namespace L2
open PySem PySem.Spec PyProof.Rows
section
variable {κ:Type}[DecidableEq κ]
def iN (kvs:List (κ×V))(k:κ):Option V:=(kvs.find? λkv=>decide (kv.1=k)).map (·.2)
def dP (kvs:List (κ×V))(k:κ)(v:V):List (κ×V):=
 if (kvs.any λkv=>decide (kv.1=k))=true then kvs.map (λkv=>if kv.1=k then(kv.1,v)else kv)else kvs++ [(k,v)]
theorem BQ {k:κ}:iN ([]:List (κ×V)) k=none:=rfl
theorem gK {p:κ×V}{r:List (κ×V)}{k:κ}(e:p.1=k):iN (p::r) k=some p.2:=by simp[iN,RF,e]
theorem gL {p:κ×V}{r:List (κ×V)}{k:κ}(e:¬ p.1=k):iN (p::r) k=iN r k:=by simp[iN,RF,e]
theorem vf (k:κ):∀kvs:List (κ×V),(kvs.any λkv=>decide (kv.1=k))=(iN kvs k).isSome
 | [] =>rfl
 | p::r=>by
  rw[Q6]
  by_cases e:p.1=k
  ·simp only[gK e,decide_eq_true e,Wv,Vy]
  ·rw[gL e,decide_eq_false e,Ua];exact vf k r
theorem il (kvs:List (κ×V))(k:κ)(v:V):(dP kvs k v).length<=kvs.length+1:=by
 unfold dP;split
 ·rw[Ob];omega
 ·rw[Om,Oj,UI];omega
theorem RelO.M8 {o:Option V}{u:Option Oa}(r:RelO o u):o.isSome=u.isSome:=by
 cases o with
 | none=>cases u with
  | none=>rfl
  | some _=>exact(show False from r).elim
 | some _=>cases u with
  | none=>exact(show False from r).elim
  | some _=>rfl
theorem RelO.getD {o:Option V}{u:Option Oa}{d:V}{d':Oa}(r:RelO o u)(rd:RelV d d'):RelV (o.getD d) (u.getD d'):=by
 cases o with
 | none=>cases u with
  | none=>exact rd
  | some _=>exact(show False from r).elim
 | some _=>cases u with
  | none=>exact(show False from r).elim
  | some _=>exact r
theorem KV.val {kvs:List (κ×V)}{vs:List (κ×Oa)}(r:KV kvs vs)(k:κ):RelO (iN kvs k) (valueAt vs k):=by
 unfold KV at r
 induction r with
 | nil=>exact RL
 | @cons p q ps qs h t ih=>
  obtain⟨h1,h2⟩:=h
  by_cases e:p.1=k
  ·have e':q.1=k:=h1.symm.trans e
   have b:valueAt (q::qs) k=some q.2:=by simp[valueAt,RF,e']
   rw[gK e,b];exact h2
  ·have e':¬ q.1=k:=λz=>e (h1.trans z)
   have b:valueAt (q::qs) k=valueAt qs k:=by simp[valueAt,RF,e']
   rw[gL e,b];exact ih
theorem KV.any {kvs:List (κ×V)}{vs:List (κ×Oa)}(r:KV kvs vs)(k:κ):(kvs.any λkv=>decide (kv.1=k))=vs.any λkv=>decide (kv.1=k):=by
 unfold KV at r
 induction r with
 | nil=>rfl
 | cons h t ih=>rw[Q6,Q6,ih,h.1]
theorem KV.NN {kvs:List (κ×V)}{vs:List (κ×Oa)}(r:KV kvs vs)(k:κ){y:V}{u:Oa}(ry:RelV y u) :
  KV (kvs.map λkv=>if kv.1=k then(kv.1,y)else kv) (vs.map λkv=>if kv.1=k then(kv.1,u)else kv):=by
 unfold KV at r ⊢
 induction r with
 | nil=>exact .nil
 | @cons p q ps qs h t ih=>
  rw[Oc,Oc];refine .cons ?_ ih
  obtain⟨h1,h2⟩:=h
  by_cases e:p.1=k
  ·rw[if_pos e,if_pos (h1.symm.trans e)];exact⟨h1,ry⟩
  ·rw[if_neg e,if_neg (λz=>e (h1.trans z))];exact⟨h1,h2⟩
theorem KV.put {kvs:List (κ×V)}{vs:List (κ×Oa)}(r:KV kvs vs)(k:κ){y:V}{u:Oa}(ry:RelV y u):KV (dP kvs k y) (stored vs k u):=by
 unfold dP stored;rw[r.any k]
 by_cases e:(vs.any λkv=>decide (kv.1=k))=true
 ·rw[if_pos e,if_pos e];exact r.NN k ry
 ·rw[if_neg e,if_neg e];exact Paired.snoc r ⟨rfl,ry⟩
theorem KV.length {kvs:List (κ×V)}{vs:List (κ×Oa)}(r:KV kvs vs):kvs.length=vs.length:=T9 r
end
theorem wK {P:OH}{w:Px}{k:Key}{u:Oa}(r:RelV (kV k) u):(du P w).is k u=true:=by
 cases k with
 | inl i=>obtain⟨t,e⟩:=(show ∃t,u=Qd i t from r);subst e;exact wt P w i t
 | inr x=>obtain⟨t,e⟩:=(show ∃t,u=QD x t from r);subst e;exact wq P w x t
theorem sf {P:OH}{w:Px}:∀{ks:List Key} {us:List Oa},Vals (ks.map kV) us->ItemsAre (du P w) ks us
 | [],_,r=>by rw[Tx]at r;cases r;exact .nil
 | k::ks,_,r=>by
  rw[Oc]at r
  cases r with
  | cons h t=>exact .cons (wK h) (sf t)
abbrev KT (H:Hp):List (List Key×V)->List (List Key×Addr×Oa)->Prop:=Uk λp q=>p.1=q.1/\H q.2.1=some (.tup (p.1.map kV))/\RelV p.2 q.2.2
theorem KT.val {H:Hp}{kvs:List (List Key×V)}{xs:List (List Key×Addr×Oa)}(r:KT H kvs xs)(k:List Key):RelO (iN kvs k) ((atKey xs k).map (·.2)):=by
 induction r with
 | nil=>exact RL
 | @cons p q ps qs h t ih=>
  obtain⟨h1,_,h2⟩:=h
  by_cases e:p.1=k
  ·have e':q.1=k:=h1.symm.trans e
   have b:atKey (q::qs) k=some q.2:=by simp[atKey,RF,e']
   rw[gK e,b];exact h2
  ·have e':¬ q.1=k:=λz=>e (h1.trans z)
   have b:atKey (q::qs) k=atKey qs k:=by simp[atKey,RF,e']
   rw[gL e,b];exact ih
theorem KT.NN {H:Hp}{kvs:List (List Key×V)}{xs:List (List Key×Addr×Oa)}(r:KT H kvs xs)(k:List Key){y:V}{u:Oa}(ry:RelV y u) :
  KT H (kvs.map λkv=>if kv.1=k then(kv.1,y)else kv) (xs.map (putAt k u)):=by
 induction r with
 | nil=>exact .nil
 | @cons p q ps qs h t ih=>
  rw[Oc,Oc];refine .cons ?_ ih
  obtain⟨h1,h2,h3⟩:=h;unfold putAt
  by_cases e:p.1=k
  ·rw[if_pos e,if_pos (h1.symm.trans e)];exact⟨h1,h2,ry⟩
  ·rw[if_neg e,if_neg (λz=>e (h1.trans z))];exact⟨h1,h2,h3⟩
theorem KT.put {H:Hp}{kvs:List (List Key×V)}{xs:List (List Key×Addr×Oa)}(r:KT H kvs xs)(k:List Key){b:Addr}{y:V}{u:Oa}(hb:H b=some (.tup (k.map kV)))(ry:RelV y u) :
  KT H (dP kvs k y) (storedH xs k b u):=by
 have e:(kvs.any λkv=>decide (kv.1=k))=(atKey xs k).isSome:=by
  rw[vf,(r.val k).M8,V8]
 unfold dP storedH;rw[e]
 by_cases q:(atKey xs k).isSome=true
 ·rw[if_pos q,if_pos q];exact r.NN k ry
 ·rw[if_neg q,if_neg q];exact Paired.snoc r ⟨rfl,hb,ry⟩
theorem KT.keeps {H H':Hp}{kvs:List (List Key×V)}{xs:List (List Key×Addr×Oa)}(r:KT H kvs xs)(ht:∀b ys,H b=some (.tup ys)->H' b=some (.tup ys)):KT H' kvs xs:=
 Paired.NF r λ_ _ z=>⟨z.1,ht _ _ z.2.1,z.2.2⟩
section
variable {P:OH}{w:Px}{H:Hp}{h:Heap}{a:Addr}
theorem rP {u:HO}(ok:HOk P w H h)(e:Rd H a u):ObjOk P w H h a u:=e.ok ok
theorem sG {kvs:List (Key×V)}(ok:HOk P w H h)(e:Rd H a (.dK kvs)):kvs.length<=sizeLine/\(a == Qt)=false/\∃vs,KV kvs vs/\h.DictOf (du P w) a vs:=
 show ObjOk P w H h a (.dK kvs)from rP ok e
theorem Mt {kvs:List (Key×V)}(ok:HOk P w H h)(e:H a=some (.dK kvs)):kvs.length<=sizeLine/\(a == Qt)=false/\∃vs,KV kvs vs/\h.DictOf (du P w) a vs:=sG ok (.inl e)
theorem key_of {ks:List Key}(ok:HOk P w H h)(e:H a=some (.tup (ks.map kV))):(TY (du P w)).is h ks a:=by
 obtain⟨_,its,r,o,h1,h2,n,h3⟩:=(show ObjOk P w H h a (.tup (ks.map kV))from ok a _ e)
 exact⟨o,its.toArray,n,h1,h2,h3,by simpa using sf r⟩
theorem k8 {kvs:List (List Key×V)}(ok:HOk P w H h)(e:Rd H a (.dT kvs)):kvs.length<=sizeLine/\(a == Qt)=false ∧
  ∃xs,KT H kvs xs/\h.DictOfH (TY (du P w)) a xs:=by
 obtain⟨z,y,xs,r,o,es,ep,h1,h2,h3,h4,h5⟩:=(show ObjOk P w H h a (.dT kvs)from rP ok e)
 refine⟨z,y,xs,r,o,es,ep,h1,h2,h3,h4,λx hx=> ?_,h5⟩
 have all:∀{l:List (List Key×V)} {m:List (List Key×Addr×Oa)},KT H l m->∀x∈m,(TY (du P w)).is h x.1 x.2.1:=by
  intro l m q
  induction q with
  | nil=>intro x hx;exact nomatch hx
  | @cons p q ps qs hq t ih=>
   intro x hx;rcases Og.mp hx with e | hx
   ·subst e
    exact key_of ok (by rw[<-hq.1];exact hq.2.1)
   ·exact ih x hx
 exact all r x hx
theorem Er {kvs:List (List Key×V)}(ok:HOk P w H h)(e:H a=some (.dT kvs)):kvs.length<=sizeLine/\(a == Qt)=false ∧
  ∃xs,KT H kvs xs/\h.DictOfH (TY (du P w)) a xs:=k8 ok (.inl e)
end
def DGet (H:Hp)(a:Addr)(y:V)(r:Option V):Prop:=
 (∃kvs k,Rd H a (.dK kvs)/\y=kV k/\r=iN kvs k)\/∃kvs k b,Rd H a (.dT kvs)/\y= .ref b/\H b=some (.tup (k.map kV))/\r=iN kvs k
def DPut (H:Hp)(a:Addr)(y v:V)(H':Hp):Prop:=
 (∃kvs k,H a=some (.dK kvs)/\y=kV k/\kvs.length<sizeLine/\H'=upd H a (.dK (dP kvs k v))) ∨
 ∃kvs k b,H a=some (.dT kvs)/\y= .ref b/\H b=some (.tup (k.map kV))/\kvs.length<sizeLine/\H'=upd H a (.dT (dP kvs k v))
theorem DGet.t {H:Hp}{a b:Addr}{kvs:List (List Key×V)}{k:List Key}(e:H a=some (.dT kvs))(eb:H b=some (.tup (k.map kV))):DGet H a (.ref b) (iN kvs k):=.inr ⟨kvs,k,b,.inl e,rfl,eb,rfl⟩
theorem DPut.t {H:Hp}{a b:Addr}{kvs:List (List Key×V)}{k:List Key}{v:V}(e:H a=some (.dT kvs))(eb:H b=some (.tup (k.map kV)))(hl:kvs.length<sizeLine) :
  DPut H a (.ref b) v (upd H a (.dT (dP kvs k v))):=.inr ⟨kvs,k,b,e,rfl,eb,hl,rfl⟩
section
variable {X:Cx}{pins:List (Addr×Obj)}{σ:St}{H:Hp}{s:Od}{a:Addr}{y v:V}{u r:Oa}{o:Option V}{A:OV}{E:Oa->Od->Prop}
theorem Inv.big (I:Inv X pins σ H s):Qt<s.heap.objs.size:=by
 have h:OL<s.heap.objs.size:=(I.mod.glob.keeps I.bk).lt;exact UC (by decide) h
theorem Bp {Q:Oa->Od->Prop}(hu:A.units+1<cLine)(I:Inv X pins σ H s)(g:DGet H a y (some v))(ry:RelV y u)(h:∀w' s',Inv X pins σ H s'->RelV v w'->Q w' s') :
  wpAny (model X.prog X.w) A (getItem (.ref a) u) Q E s:=by
 rcases g with⟨kvs,k,e,ey,l⟩ | ⟨kvs,k,b,e,ey,eb,l⟩
 ·subst ey
  obtain⟨z,hd,vs,rel,dd⟩:=sG I.hok e;obtain⟨w',hw,rw'⟩:=RelO.some_of (v:=v) (o:=valueAt vs k) (by rw[l];exact rel.val k)
  exact wpAny_getItem_of (wK ry) dd.mapOf hw (h w' _ (I.tok _) rw')
 ·subst ey
  cases (show u=OA b from ry)
  obtain⟨z,hd,xs,rel,dd⟩:=k8 I.hok e;obtain⟨w',hw,rw'⟩:=RelO.some_of (v:=v) (o:=(atKey xs k).map (·.2)) (by rw[l];exact rel.val k)
  obtain⟨p,hp,hp2⟩:=Qq.mp hw;refine wpAny_getItem_heap (QJ hu) (key_of I.hok eb) dd hp ?_
  rw[hp2];exact h w' _ (I.tok _) rw'
theorem d_in {Q:Oa->Od->Prop}(hu:A.units+1<cLine)(I:Inv X pins σ H s)(g:DGet H a y o)(ry:RelV y u)(h:∀s',Inv X pins σ H s'->Q (.bool o.isSome) s') :
  wpAny (model X.prog X.w) A (Po .In u (.ref a)) Q E s:=by
 rcases g with⟨kvs,k,e,ey,l⟩ | ⟨kvs,k,b,e,ey,eb,l⟩
 ·subst ey
  obtain⟨z,hd,vs,rel,dd⟩:=sG I.hok e;refine wpAny_in_of (wK ry) hd dd.mapOf ?_
  rw[<-(rel.val k).M8,<-l];exact h _ (I.tok _)
 ·subst ey
  cases (show u=OA b from ry)
  obtain⟨z,hd,xs,rel,dd⟩:=k8 I.hok e;refine wpAny_in_heap (QJ hu) (key_of I.hok eb) hd dd ?_
  have q:=(rel.val k).M8;rw[V8]at q;rw[<-q,<-l];exact h _ (I.tok _)
theorem uO {h':Heap}{t':Nat}{ob:HO}(I:Inv X pins σ H s)(mu:MG (H a))(hs:SH a s.heap h')(he:∃q,h'.get? a=some q)(new:ObjOk X.prog X.w (upd H a ob) h' a ob) :
  Inv X pins σ (upd H a ob) { s with heap:=h',toks:=t' }:=
 I.write (x:=a) (e:=a) mu (.inl rfl) (λb q hb z=>(hs.2 b hb).trans z) he new
theorem Ko {P:OH}{w:Px}{H':Hp}{h':Heap}{kvs:List (Key×V)}{vs:List (Key×Oa)}(z:kvs.length<=sizeLine)(hd:(a == Qt)=false)(rel:KV kvs vs)(dd:h'.DictOf (du P w) a vs) :
  ObjOk P w H' h' a (.dK kvs):=⟨z,hd,vs,rel,dd⟩
theorem Bo {H':Hp}{Q:Unit->Od->Prop}(hu:A.units+1<cLine)(I:Inv X pins σ H s)(g:DPut H a y v H')(ry:RelV y u)(rv:RelV v r)(h:∀s',Inv X pins σ H' s'->Q () s') :
  wpAny (model X.prog X.w) A (setItem (.ref a) u r) Q E s:=by
 rcases g with⟨kvs,k,e,ey,l,eH⟩ | ⟨kvs,k,b,e,ey,eb,l,eH⟩
 ·subst ey eH
  obtain⟨z,hd,vs,rel,dd⟩:=Mt I.hok e
  have hz:vs.length<=sizeLine:=by rw[<-rel.length];exact z
  have hl:(dP kvs k v).length<=sizeLine:=by have:=il kvs k v;omega
  refine wpAny_setItem_pairs (hsz:=hz) (wK ry) dd λh' dd' hs=>h _ ?_
  have he:∃q,h'.get? a=some q:=let ⟨q,_,_,hq,_⟩:=dd';⟨q,hq⟩
  exact uO I (by rw[e];exact RL) hs he (Ko hl hd (rel.put k rv) dd')
 ·subst ey eH
  cases (show u=OA b from ry)
  obtain⟨z,hd,xs,rel,dd⟩:=Er I.hok e
  have hz:xs.length<=sizeLine:=by rw[<-T9 rel];exact z
  have hl:(dP kvs k v).length<=sizeLine:=by have:=il kvs k v;omega
  refine wpAny_setItem_heap (hsz:=hz) (QJ hu) (key_of I.hok eb) dd λh' dd' hs=>h _ ?_
  obtain⟨q,es,ep,hq,h2,h3,h4,_,h5⟩:=dd';refine uO I (by rw[e];exact RL) hs ⟨q,hq⟩ ⟨hl,hd,_,(rel.put k eb rv).keeps λc ys ec=> ?_,q,es,ep,hq,h2,h3,h4,h5⟩
  rw[aG (lY ec e (λz=>nomatch z))]
  exact ec
end
def BC (i:Expr):Prop:=∀ov iv,Vq i false ov iv=operate [ov,iv] (getItem ov iv)
theorem Fe {prog:OH}{w:Px}{A:OV}{E:Oa->Od->Prop}{s:Od}{env:Env}{value slice:Expr}{pos:Pos}{T id:String}{Q:Oa->Od->Prop}
  (hl:SA (.type T) "__getitem__" =pure (some (.builtin id))) (hs:BC slice)
  (h:wpAny (model prog w) A (eval value env) (λo s₁=>wpAny (model prog w) A (eval slice env) (λi s₂=>s₂.TypeIs o T/\wpAny (model prog w) A (getItem o i) Q E s₂) E s₁) E s) :
  wpAny (model prog w) A (eval (.Subscript value slice pos) env) Q E s:=by
 refine UY (Qo h (λo s₁ h₁=>Qo h₁ (λi s₂ h₂=> ?_) λ_ _ x=>x) λ_ _ x=>x)
 obtain⟨hT,h₂⟩:=h₂;unfold VV;refine N7 ?_
 rw[getitemInPython_of_ne hT.not_modules];refine N7 (wpAny_specialOf hT hl ?_)
 have fin:wpAny (model prog w) A (Vq slice false o i) (λr s₃=>wpAny (model prog w) A (letTemporaryGo value o r >>= λ_=>pure r) Q E s₃) E s₂:=by
  rw[hs o i];exact wpAny_operating (Qo h₂ (λr s₃ h₃=>N7 (wpAny_letTemporaryGo (Ol h₃))) λ_ _ x=>x)
 first
  | exact Ol (N7 fin)
  | exact N7 (Ol (N7 fin))
  | exact N7 fin
theorem wY {X:Cx}{pins:List (Addr×Obj)}{σ:St}{H:Hp}{s:Od}{a:Addr}{y:V}{o:Option V}(I:Inv X pins σ H s)(g:DGet H a y o):s.TypeIs (.ref a) "dict":=by
 rcases g with⟨kvs,k,e,_,_⟩ | ⟨kvs,k,b,e,_,_,_⟩
 ·obtain⟨_,_,vs,_,dd⟩:=sG I.hok e
  exact dd.typeIs
 ·obtain⟨_,_,xs,_,dd⟩:=k8 I.hok e
  exact dd.typeIs
def K1 (td ty:TE):TE:=λσ H Q=>td σ H λx H1=>ty σ H1 λy H2=> ∃a v,x= .ref a/\DGet H2 a y (some v)/\Q v H2
def K5 (td ty tv:TE):TS:=λD σ H=>tv σ H λv H1=>td σ H1 λx H2=>ty σ H2 λy H3=> ∃a H4,x= .ref a/\DPut H3 a y v H4/\D.nx σ H4
section
variable {X:Cx}{o i e value:Expr}{pos pos' tpos:Pos}{td ty tv:TE}
theorem zx (hu:X.A.units+1<cLine)(ho:PE X o td)(hi:PE X i ty)(hs:BC i):PE X (.Subscript o i pos) (K1 td ty):=by
 intro pins s σ H Q I h;refine Fe PySem.F.slot_dict_getitem.lookup hs (cL (ho pins s σ H _ I h) λu s1 ⟨x,H1,I1,rx,q1⟩=>cL (hi pins s1 σ H1 _ I1 q1) λiv s2 hh_=> ?_)
 obtain⟨y,H2,I2,ry,a,v,ex,g,q2⟩:=hh_;subst ex;obtain rfl:u=OA a:=rx;exact⟨wY I2 g,Bp hu I2 g ry λw' s3 I3 rw'=>⟨v,H2,I3,rw',q2⟩⟩
theorem zq (hu:X.A.units+1<cLine)(ho:PE X o td)(hi:PE X i ty)(hv:PE X value tv)(hs:P6 value (some (.Subscript o i pos')) pos.line X.env=pure false) :
  PS X (.Assign [.Subscript o i pos'] value pos) (K5 td ty tv):=by
 intro pins s σ H D I h;refine wpAny_Assign_Subscript (cL (hv pins s σ H _ I h) λr s1 ⟨v,H1,I1,rv,q1⟩=>cL (ho pins s1 σ H1 _ I1 q1) λu s2 ⟨x,H2,I2,rx,q2⟩=>cL (hi pins s2 σ H2 _ I2 q2) λiv s3 ⟨y,H3,I3,ry,a,H4,ex,g,q3⟩=> ?_) hs
 subst ex;obtain rfl:u=OA a:=rx;exact Bo hu I3 g ry rv λs4 I4=>⟨σ,H4,I4,q3⟩
end
theorem Es {P:OH}{w:Px}{H:Hp}(h:Heap)(hb:Qt<h.objs.size):ObjOk P w H (h.push { cls:=.type "dict",data:=.dict #[] }) h.objs.size (.dT []):=
 ⟨Pj _,beq_eq_false_iff_ne.mpr (PM (O7 hb)),[],.nil,_,#[],0,Oz _ rfl,⟨rfl,rfl,rfl⟩,rfl,rfl,Rc⟩
structure M1 (X:Cx)(o:Expr)(m:Str)(apos:Pos)(e:Expr)(cpos:Pos):Prop where
 base:Qz o m X.env (eval o X.env)=eval o X.env
 few:((backTo cpos (Oy [e] X.env)).all (λx=> !x.1)&&(VR cpos (Tf [] X.env)).all (λx=>x.1.isSome)
  &&decide (([e]:List Expr).length+([]:List Wl).length+(if ([]:List Wl).isEmpty then 0 else 1)<30))=true
 line:(apos.endLine == cpos.line)=true
 trees:backTo cpos (Oy [e] X.env)= [(false,eval e X.env)]
structure M2 (X:Cx)(o:Expr)(m:Str)(apos:Pos)(e f:Expr)(cpos:Pos):Prop where
 base:Qz o m X.env (eval o X.env)=eval o X.env
 few:((backTo cpos (Oy [e,f] X.env)).all (λx=> !x.1)&&(VR cpos (Tf [] X.env)).all (λx=>x.1.isSome)
  &&decide (([e,f]:List Expr).length+([]:List Wl).length+(if ([]:List Wl).isEmpty then 0 else 1)<30))=true
 line:(apos.endLine == cpos.line)=true
 trees:backTo cpos (Oy [e,f] X.env)= [(false,eval e X.env),(false,eval f X.env)]
def IsD (H:Hp)(a:Addr):Prop:=(∃kvs,Rd H a (.dK kvs))\/∃kvs,Rd H a (.dT kvs)
theorem J5 {X:Cx}{pins:List (Addr×Obj)}{σ:St}{H:Hp}{s:Od}{a:Addr}(I:Inv X pins σ H s)(d:IsD H a) :
  s.TypeIs (.ref a) "dict"/\(∀b,OA a= .ref b->∃ob,s.heap.get? b=some ob/\ob.dict=none)/\(a == Qt)=false:=by
 rcases d with⟨kvs,e⟩ | ⟨kvs,e⟩
 ·obtain⟨_,hd,vs,_,dd⟩:=sG I.hok e
  refine⟨dd.typeIs,λb q=> ?_,hd⟩
  cases q;obtain⟨ob,_,_,h1,h2,_⟩:=dd;exact⟨ob,h1,h2.2.1⟩
 ·obtain⟨_,hd,xs,_,dd⟩:=k8 I.hok e
  refine⟨dd.typeIs,λb q=> ?_,hd⟩
  cases q;obtain⟨ob,_,_,h1,h2,_⟩:=dd;exact⟨ob,h1,h2.2.1⟩
section
variable {X:Cx}{pins:List (Addr×Obj)}{σ:St}{H:Hp}{s:Od}{a:Addr}{y d:V}{u r:Oa}{o:Option V}{A:OV}{E:Oa->Od->Prop}
theorem Kq {Q:Oa->Od->Prop}(hu:A.units+1<cLine)(I:Inv X pins σ H s)(g:DGet H a y o)(ry:RelV y u)(h:∀w' s',Inv X pins σ H s'->RelV (o.getD .non) w'->Q w' s') :
  wpAny (model X.prog X.w) A (call (.builtin "dict.get") [.ref a,u]) Q E s:=by
 rcases g with⟨kvs,k,e,ey,l⟩ | ⟨kvs,k,b,e,ey,eb,l⟩
 ·subst ey
  obtain⟨z,hd,vs,rel,dd⟩:=sG I.hok e;refine call_meetsIn SG dd.typeIs Um (T5 _ _) (meets_dict_get (du X.prog X.w) a (wK ry) hd) ⟨_,dd.mapOf,h _ _ (I.tok _) ?_⟩
  rw[l];exact(rel.val k).getD rfl
 ·subst ey
  cases (show u=OA b from ry)
  obtain⟨z,hd,xs,rel,dd⟩:=k8 I.hok e;refine call_meetsIn SG dd.typeIs Um (T5 _ _) (meetsH_dict_get (TY (du X.prog X.w)) a b hd) ⟨QJ hu,k,xs,key_of I.hok eb,dd,h _ _ (I.tok _) ?_⟩
  rw[l];exact(rel.val k).getD rfl
end
def Im (td ty:TE):TE:=λσ H Q=>td σ H λx H1=> ∃a,x= .ref a/\IsD H1 a/\ty σ H1 λy H2=> ∃o,DGet H2 a y o/\Q (o.getD .non) H2
section
variable {X:Cx}{o e f:Expr}{apos cpos:Pos}{td ty tx:TE}
theorem CQ (hu:X.A.units+1<cLine)(ho:PE X o td)(he:PE X e ty)(m:M1 X o "get" apos e cpos):PE X (.Call (.Attribute o "get" apos) [e] [] cpos) (Im td ty):=by
 intro pins s σ H Q I h;refine wpAny_Call_method m.base m.few m.line PySem.F.plainAttrs_dict SG PySem.F.type_dict_get (cL (ho pins s σ H _ I h) λu s1 hh_=> ?_)
 obtain⟨x,H1,I1,rx,a,ex,d,q1⟩:=hh_;subst ex;obtain rfl:u=OA a:=rx;obtain⟨t1,t2,_⟩:=J5 I1 d;refine⟨t1,t2,?_⟩
 rw[m.trees];refine Ss rfl (RU (RB (cL (he pins s1 σ H1 _ I1 q1) λiv s2 ⟨y,H2,I2,ry,ov,g,q2⟩=>Rg ?_)))
 exact Kq hu I2 g ry λw' s3 I3 rw'=>⟨_,H2,I3,rw',q2⟩
end
end L2
namespace Tr
open PySem PySem.Spec PyProof.Rows L2
theorem DGet.NJ {H:Hp}{a b:Addr}{kvs:List (List Key×V)}{k:List Key}(e:Rd H a (.dT kvs))(eb:H b=some (.tup (k.map kV))):DGet H a (.ref b) (iN kvs k):=.inr ⟨kvs,k,b,e,rfl,eb,rfl⟩
theorem mh {k:Nat}{A:OV}(h:Room k A):A.units+1<cLine:=by have:=h.un;omega
theorem qr {K:N6}{O:Ow}{H:Hp}:∀{l:List T} {vs:List V} {k:List Key},qt l=some k->Reps K O H l vs->vs=k.map kV
 | [],vs,k,h,r=>by cases Reps.Da.mp r;cases h;rfl
 | t::l,vs,k,h,r=>by
  obtain⟨v,ws,rfl,p,q⟩:=Reps.me.mp r;unfold qt at h
  cases e1:HF t with
  | none=>rw[e1]at h;cases h
  | some a=>
   cases e2:qt l with
   | none=>rw[e1,e2]at h;cases h
   | some b=>
    rw[e1,e2]at h;cases h;rw[qr e2 q,Oc]
    congr 1
    cases t with
    | int i=>cases e1;exact Rep.AC.mp p
    | str x=>cases e1;exact Rep.IR.mp p
    | _=>cases e1
theorem ip {K:N6}{O:Ow}{H:Hp}{y:T}{v:V}{k:List Key}(h:keyOf y=some k)(r:Rep K O H y v):∃b,v= .ref b/\H b=some (.tup (k.map kV)):=by
 cases y with
 | tup l=>
  obtain⟨a,vs,e1,_,e3,e4⟩:=Rep.Fk.mp r;rw[qr h e4]at e3
  exact⟨a,e1,e3⟩
 | _=>cases h
theorem mq {K:N6}{O:Ow}{H:Hp}{k:List Key}:∀{ks ts:List T} {kvs:List (List Key×V)},ks.map keyOf=kvs.map (λp=>some p.1)->Reps K O H ts (kvs.map (·.2))->match lC ks ts k with
  | some t=> ∃v,iN kvs k=some v/\Rep K O H t v
  | none=>iN kvs k=none
 | [],ts,kvs,h,r=>by
  cases kvs with
  | nil=>unfold lC;exact BQ
  | cons _ _=>cases h
 | k'::ks,ts,kvs,h,r=>by
  cases kvs with
  | nil=>cases h
  | cons p kvs=>
   rw[Oc,Oc]at h;injection h with h1 h2
   rw[Oc]at r
   cases ts with
   | nil=>have:=Reps.Da.mp r;cases this
   | cons t ts=>
    obtain⟨v,ws,e,q1,q2⟩:=Reps.me.mp r;injection e with e1 e2
    subst e1 e2;unfold lC
    by_cases hk:keyOf k'=some k
    ·rw[if_pos hk]
     rw[h1]at hk;injection hk with hk
     exact⟨_,gK hk,q1⟩
    ·rw[if_neg hk]
     have hk2:¬ p.1=k:=λz=>hk (by rw[h1,z])
     rw[gL hk2];exact mq h2 q2
theorem tQ {κ:Type}[DecidableEq κ]{k:κ}{p:κ×V}{r:List (κ×V)}{v:V}(h:¬ p.1=k):dP (p::r) k v=p::dP r k v:=by
 unfold dP;rw[Q6,decide_eq_false h,Ua]
 by_cases q:(r.any λkv=>decide (kv.1=k))=true
 ·rw[if_pos q,if_pos q,Oc,if_neg h]
 ·rw[if_neg q,if_neg q];rfl
theorem tR {κ:Type}[DecidableEq κ]{k:κ}{p:κ×V}{r:List (κ×V)}{v:V}(h:p.1=k)(hn:∀q∈r,q.1≠k):dP (p::r) k v=(p.1,v)::r:=by
 unfold dP;rw[Q6,decide_eq_true h,Wv,if_pos rfl,Oc,if_pos h]
 congr 1
 conv=>rhs;rw[<-RG r]
 exact ON λq hq=>if_neg (hn q hq)
theorem mn {K:N6}{O:Ow}{H:Hp}{kT vT:T}{k:List Key}{v:V}(hk:keyOf kT=some k)(hv:Rep K O H vT v):∀{ks ts:List T} {kvs:List (List Key×V)},ks.map keyOf=kvs.map (λp=>some p.1)->Reps K O H ts (kvs.map (·.2))->(kvs.map (·.1)).Nodup →
  (hV kT vT ks ts).1.map keyOf=(dP kvs k v).map (λp=>some p.1)/\Reps K O H (hV kT vT ks ts).2 ((dP kvs k v).map (·.2))
 | [],ts,kvs,h,r,_=>by
  cases kvs with
  | nil=>
   unfold hV;refine⟨?_,Reps.Gc hv Reps.GM⟩
   simp[dP,hk]
  | cons _ _=>cases h
 | k'::ks,ts,kvs,h,r,hn=>by
  cases kvs with
  | nil=>cases h
  | cons p kvs=>
   rw[Oc,Oc]at h;injection h with h1 h2
   rw[Oc]at r;rw[Oc]at hn;obtain⟨n1,n2⟩:=OZ.mp hn
   cases ts with
   | nil=>have:=Reps.Da.mp r;cases this
   | cons t ts=>
    obtain⟨v',ws,e,q1,q2⟩:=Reps.me.mp r;injection e with e1 e2
    subst e1 e2;unfold hV
    by_cases hz:keyOf k'=keyOf kT
    ·rw[if_pos hz]
     have hp:p.1=k:=by rw[hz,hk]at h1;injection h1 with h1;exact h1.symm
     rw[tR hp λq hq z=>n1 (by rw[hp,<-z];exact List.mem_map_of_mem hq)]
     exact⟨by rw[Oc,Oc,h1,h2],Reps.Gc hv q2⟩
    ·rw[if_neg hz]
     have hp:¬ p.1=k:=λz=>hz (by rw[h1,z,hk])
     obtain⟨a1,a2⟩:=mn hk hv h2 q2 n2;rw[tQ hp];exact⟨by rw[Oc,Oc,h1,a1],Reps.Gc q1 a2⟩
theorem G9 {H:Hp}{kvs:List (List Key×V)}{xs:List (List Key×Addr×Oa)}(rel:KT H kvs xs):kvs.map (·.1)=xs.map (·.1):=by
 induction rel with
 | nil=>rfl
 | cons h t ih=>rw[Oc,Oc,ih,h.1]
theorem w4 {X:Cx}{pins:List (Addr×Obj)}{σ:L2.St}{H:Hp}{s:Od}{a:Addr}{kvs:List (List Key×V)}(I:Inv X pins σ H s)(e:H a=some (.dT kvs)):(kvs.map (·.1)).Nodup/\kvs.length<=sizeLine:=by
 obtain⟨z,_,xs,rel,_,_,_,_,_,_,_,_,hn⟩:=Er I.hok e;rw[G9 rel];exact⟨hn,z⟩
section
variable {X:Cx}{a b:Expr}{fa fb:En->Rs T}{pos:Pos}
theorem Lv (hu:X.A.units+1<cLine)(ha:c8 X a fa)(hb:c8 X b fb)(hs:autoParam (BC b) w_):c8 X (.Subscript a b pos) (o2 bP fa fb):=by
 refine PE.imp (zx hu ha hb hs) λσ H Q ⟨Z,O,E,hq⟩=> ?_
 obtain⟨Z1,O1,E1,h1⟩:=br E hq;refine⟨Z1,O1,E1,Post.mono h1 λt H1 s1 q v r=> ?_⟩
 obtain⟨t',r',s',E',q'⟩:=q v r;obtain⟨Z2,O2,E2,h2⟩:=br (f:=fb) E' q';refine⟨Z2,O2,E2,Post.mono h2 λt2 H2 s2 q2 v2 r2=> ?_⟩
 obtain⟨t2',r2',s2',E2',q2'⟩:=q2 v2 r2
 have r'':=r'.same s2';unfold bP at q2'
 split at q2'
 ·rename_i ks vs k hk
  split at q2'
  ·rename_i x hx
   obtain⟨a,kvs,e1,e2,e3,e4,e5⟩:=Rep.FS.mp r'';obtain⟨b,f1,f2⟩:=ip hk r2'
   have g:=mq (k:=k) e4 e5;rw[hx]at g;obtain⟨w,g1,g2⟩:=g;exact⟨a,w,e1,by rw[f1,<-g1];exact DGet.NJ e3 f2,q2' H2 (Same.refl H2) w g2⟩
  ·exact q2'.elim
 ·exact q2'.elim
end
end Tr
namespace Tr
open PySem PySem.Spec PyProof.Rows L2
open PySem.SeqAt
theorem De {A:OV}{s:Od}{x:T}{ux:Oa}(rx:ReV s x ux)(hu:A.units+60<cLine){l:List T}{us:List Oa}(hd:x.dep<=60\/deps l<=60)(r:ReVs s l us) :
  ∃e:Oa->Bool,(∀y∈us,EqAt A s y ux (e y))/\us.map e=l.map λt=>aS t x:=by
 classical
 have ex:∀y∈us,∃t∈l,ReV s t y:=λy hy=>by
  obtain⟨i,hi,rfl⟩:=Rp hy
  have hl:=r.length
  have e1:l[i]? =some l[i]:=by simp
  obtain⟨u,q1,q2⟩:=r.get e1
  have:us[i]? =some us[i]:=by simp
  rw[this]at q1;cases q1;exact⟨l[i],PQ _,q2⟩
 let e:Oa->Bool:=λy=>decide (∃t∈l,ReV s t y/\aS t x=true)
 have dep:∀t∈l,t.dep<=60\/x.dep<=60:=λt ht=>by
  rcases hd with h | h
  ·exact .inr h
  ·obtain⟨i,hi,rfl⟩:=Rp ht
   exact .inl (OI (iZ (i:=i) (by simp)) h)
 have uniq:∀y t t',ReV s t y->ReV s t' y->aS t x=aS t' x:=λy t t' z z'=>by
  rw[<-mx t,<-mx t',ReV.nf z z']
 have agree:∀y t,t∈l->ReV s t y->e y=aS t x:=λy t h z=>by
  show decide (∃t∈l,ReV s t y/\aS t x=true)=aS t x
  cases q:aS t x with
  | true=>exact decide_eq_true ⟨t,h,z,q⟩
  | false=>
   refine decide_eq_false ?_
   rintro ⟨t',h',z',q'⟩
   rw[<-uniq y t t' z z',q]at q';cases q'
 refine⟨e,λy hy=> ?_,?_⟩
 ·obtain⟨t,h,z⟩:=ex y hy
  rw[agree y t h z];exact(Ed 60 A s t x y ux (dep t h) hu z rx).1
 ·have go:∀(l':List T) (us':List Oa),(∀t∈l',t∈l)->ReVs s l' us'->us'.map e=l'.map λy=>aS y x:=by
   intro l'
   induction l' with
   | nil=>intro us' _ r';rw[ReVs.Da.mp r'];rfl
   | cons t l' ih=>
    intro us' sub r';obtain⟨u,ws,rfl,p,q⟩:=ReVs.me.mp r';rw[Oc,Oc,ih ws (λt ht=>sub t (N8 _ ht)) q,agree u t (sub t Oe) p]
  exact go l us (λ_ h=>h) r
theorem qC {x:T}:∀{l:List T} {n k:Nat},kI x l n=some k->n<=k/\(l.map λt=>aS t x)[k - n]? =some true/\∀m,m<k - n->(l.map λt=>aS t x)[m]? =some false
 | [],n,k,h=>by cases h
 | t::l,n,k,h=>by
  unfold kI at h
  cases q:aS t x with
  | true=>
   rw[q,if_pos rfl]at h;cases h;refine⟨Ot _,?_,λm hm=>by omega⟩
   rw[SJ,Oc,q];rfl
  | false=>
   rw[q,if_neg (by decide)]at h
   obtain⟨h1,h2,h3⟩:=qC h
   have e:k - n=(k - (n+1))+1:=by omega
   refine⟨by omega,?_,λm hm=> ?_⟩
   ·rw[e,Oc,Rq];exact h2
   ·cases m with
    | zero=>rw[Oc,q];rfl
    | succ m=>rw[Oc,Rq];exact h3 m (by omega)
section
variable {X:Cx}{a b:Expr}{fa fb:En->Rs T}{pos apos cpos:Pos}
theorem Cw (hu:X.A.units+61<cLine)(ha:c8 X a fa)(hb:c8 X b fb)(hn:b8 b=true:=by rfl)
  (hbase:Qz a "index" X.env (eval a X.env)=eval a X.env:=by rfl) (hline:(apos.endLine == cpos.line)=true:=by rfl):c8 X (.Call (.Attribute a "index" apos) [b] [] cpos) (oL ik fa fb):=by
 have hs:Oy [b] X.env=(false,eval b X.env)::Oy [] X.env:=bo hn;intro pins s σ H Q I ⟨Z,O,E,hq⟩;refine Uw hbase (by rw[hs];rfl) hline rfl (cL (ha pins s σ H _ I (br E hq)) λv s1 hh_=> ?_)
 obtain⟨x,H1,I1,r1,t,rt,s',E',q1⟩:=hh_
 cases t with
 | lst l=>
  obtain⟨c,vs,e1,e2,e3,e4⟩:=Rep.Do.mp rt;subst e1;obtain rfl:v=OA c:=r1;obtain⟨h1,h2⟩:=BW I1 (show RelV (.ref c) (.ref c)from rfl) (.inl ⟨rfl,vs,SqL.of e3⟩)
  refine⟨_,_,QM,T6,T7,h1,h2,?_⟩
  rw[hs];refine Ss rfl (RU (RB (cL (hb pins s1 σ H1 _ I1 (br (f:=fb) E' q1)) λu s2 ⟨y,H2,I2,r2,t2,rt2,s'',E'',q2⟩=>Rg ?_)))
  unfold ik at q2
  split at q2
  ·rename_i l' heq
   cases heq
   split at q2
   ·rename_i hd3
    obtain⟨hd,hnx,hny⟩:=hd3
    split at q2
    ·rename_i k hk
     have rv:=Rep.val I2 (show(T.lst l).nd=true by unfold T.nd;exact hny) (rt.same s'') (show RelV (.ref c) (.ref c)from rfl)
     unfold ReV at rv;obtain⟨c',us,ec,hl,rs⟩:=rv;cases ec;obtain⟨⟨cls,dd,data,sl⟩,ho,hc,n,hdd⟩:=id hl;simp only at hc hdd;subst hc hdd;obtain⟨e,he,ha⟩:=De (A:=X.A.in1) (Rep.val I2 hnx rt2 r2) (by show X.A.units+1+60<cLine;omega) hd rs
     obtain⟨_,k1,k2⟩:=qC hk;rw[SK]at k1 k2;rw[<-ha]at k1 k2
     have hkl:k<us.length:=by have:=(Oi.mp k1).1;rwa [Ob]at this
     have hz:us.length<=sizeLine:=by
      have z:=(I2.KM (s'' _ _ e3)).1
      have h3:=rs.length
      have h4:=e4.length;omega
     refine Se V7 ⟨_,ho,rfl⟩ VA (Vj _ _) (list_indexAt c us.toArray n dd sl u e k (by simpa using hkl) (by rw[PH]at hz;omega) ?_ ?_) ⟨ho,λy hy=>he y (by simpa using hy),?_⟩
     ·have:=(Oi.mp k1).2
      rw[Rv]at this
      simpa using this
     ·intro m hm hmk
      have:=(Oi.mp (k2 m hmk)).2
      rw[Rv]at this
      simpa using this
     ·exact⟨.int _,H2,I2.tok _,⟨_,rfl⟩,q2 H2 (Same.refl H2) _ (Rep.GE _)⟩
    ·exact q2.elim
   ·exact q2.elim
  ·rename_i hno
   exact(hno l rfl).elim
 | _=>exact q1.elim
theorem Jc (hu:X.A.units+1<cLine)(ha:c8 X a fa)(hb:c8 X b fb)(hn:b8 b=true:=by rfl)
  (hbase:Qz a "get" X.env (eval a X.env)=eval a X.env:=by rfl) (hline:(apos.endLine == cpos.line)=true:=by rfl):c8 X (.Call (.Attribute a "get" apos) [b] [] cpos) (oD jA fa fb):=by
 have hs:Oy [b] X.env=(false,eval b X.env)::Oy [] X.env:=bo hn;refine PE.imp (CQ hu ha hb ⟨hbase,by rw[hs];rfl,hline,by rw[hs];rfl⟩) λσ H Q ⟨Z,O,E,hq⟩=> ?_
 obtain⟨Z1,O1,E1,h1⟩:=br E hq;refine⟨Z1,O1,E1,Post.mono h1 λt H1 s1 q v r=> ?_⟩
 obtain⟨t',r',s',E',q'⟩:=q v r
 cases t' with
 | dct ks vs=>
  obtain⟨c,kvs,e1,e2,e3,e4,e5⟩:=Rep.FS.mp r';refine⟨c,e1,.inr ⟨kvs,e3⟩,?_⟩
  obtain⟨Z2,O2,E2,h2⟩:=br (f:=fb) E' q';refine⟨Z2,O2,E2,Post.mono h2 λt2 H2 s2 q2 v2 r2=> ?_⟩
  obtain⟨t2',r2',s2',E2',q2'⟩:=q2 v2 r2;unfold jA at q2'
  split at q2'
  ·rename_i ks' vs' k heq hk
   cases heq;obtain⟨b,f1,f2⟩:=ip hk r2'
   have g:=mq (k:=k) e4 (e5.same s2');refine⟨iN kvs k,by rw[f1];exact DGet.NJ (Rd.NH (P:=zG) (SameO.of s2') (λz=>z) e3) f2,?_⟩
   cases hx:lC ks vs k with
   | some z=>
    rw[hx]at g q2';obtain⟨w,g1,g2⟩:=g;rw[g1]
    exact q2' H2 (Same.refl H2) w g2
   | none=>
    rw[hx]at g q2';rw[g];exact q2' H2 (Same.refl H2) .non Rep.NA
  ·exact q2'.elim
 | _=>exact q'.elim
theorem CZ (hu:X.A.units+1<cLine):OpT X (Po .In) Bk:=by
 intro pins s σ H O x y vx vy ux uy Q I hf rx ry r1 r2 hp;unfold Bk at hp
 split at hp
 ·rename_i ks vs k hk
  obtain⟨c,kvs,e1,e2,e3,e4,e5⟩:=Rep.FS.mp ry;obtain⟨b,f1,f2⟩:=ip hk rx;subst e1 f1;obtain rfl:uy=OA c:=r2
  have g:=mq (k:=k) e4 e5
  have hsome:(lC ks vs k).isSome=(iN kvs k).isSome:=by
   cases hx:lC ks vs k with
   | some z=>rw[hx]at g;obtain⟨w,g1,_⟩:=g;rw[g1];rfl
   | none=>rw[hx]at g;rw[g];rfl
  refine d_in hu I (DGet.NJ e3 f2) r1 λs' I'=>⟨.bl _,H,I',rfl,?_⟩
  rw[<-hsome];exact hp H (Same.refl H) _ (Rep.bl_ _)
 ·exact hp.elim
end
end Tr
namespace Tr
open PySem PySem.Spec PyProof.Rows L2
section
variable {X:Cx}{a b c:Expr}{fa fb fc:En->Rs T}{pos p2 p3 p4:Pos}{x:Str}
theorem IL (i:Nat)(hu:X.A.units+1<cLine)(hb:c8 X b fb)(hc:c8 X c fc)(hN:X.N[i]? =some x:=by rfl)(hv:autoParam (uY X.env.scope x) u_)
  (hd:autoParam ((x == ("__debug__" : Str))=false) s_) (hcd:autoParam ((x == ("__classdict__" : Str))=false) s_)
  (hs:P6 c (some (.Subscript (.Name x p2) b p3)) pos.line X.env=pure false:=by rfl):qP X (.Assign [.Subscript (.Name x p2) b p3] c pos) (AF i fb fc):=by
 intro pins s σ H D I ⟨Z,B,M,E,h⟩;refine zq hu (i8 hN hv hd hcd) hb hc hs pins s σ H D I ?_
 unfold AF at h
 split at h
 ·rename_i ks vs hl
  obtain⟨v0,e1,d,kvs,rfl,hM,e3,e4,e5⟩:=E.env.own i _ hl;obtain⟨nd,nz⟩:=w4 I e3;refine⟨Z,OO B M,E.o,?_⟩
  cases q:fc Z with
  | bad=>rw[q]at h;exact h.elim
  | err c=>rw[q]at h;exact PostF.xa h
  | ok vT=>
   rw[q,aH]at h;intro H1 s1 v r;refine⟨.ref d,e1,Z,OO B M,(E.same s1).o,?_⟩
   have h1:=h.later (SameO.of s1) (P1:=M.u) λa z=> .inl z
   cases q2:fb Z with
   | bad=>rw[q2]at h1;exact h1.elim
   | err c=>rw[q2]at h1;exact PostF.xa h1
   | ok kT=>
    rw[q2,aH]at h1;intro H2 s2 y ry
    cases q3:keyOf kT with
    | none=>rw[q3]at h1;exact h1.elim
    | some k=>
     rw[q3]at h1
     have h2:=h1.later (SameO.of s2) (P1:=M.u) λa z=> .inl z
     have hlen:ks.length=kvs.length:=by have:=congrArg PB e4;simpa using this
     by_cases hz:ks.length<1000
     ·simp only[if_pos hz]at h2
      obtain⟨kb,f1,f2⟩:=ip q3 ry
      have e3':=s2 _ _ (s1 _ _ e3);obtain⟨g1,g2⟩:=mn q3 (r.same s2) e4 ((e5.same s1).same s2) nd;refine⟨d,upd H2 d (.dT (dP kvs k v)),rfl,by rw[f1];exact DPut.t e3' f2 (by rw[PH];omega),?_⟩
      have sm:SameO (M i) H2 (upd H2 d (.dT (dP kvs k v))):=λc u e nb=>by rw[aG (λz=>nb ((hM c).mpr z))];exact e
      obtain⟨g3,g4⟩:=((E.same s1).same s2).put (o':=.dct (hV kT vT ks vs).1 (hV kT vT ks vs).2) hl e1 sm ⟨d,_,rfl,hM,aI,g1,g2.move (P:=M i) (λa z=> .inl (.inr ⟨i,z⟩)) (λa z=> .inl z) sm⟩
      exact h2 σ _ M g4 g3 λc z=> .inl z
     ·simp only[if_neg hz]at h2
      exact h2.elim
 ·exact h.elim
theorem ve {k:List Key}:∀{kvs:List (List Key×V)} {as:List Addr} {v:V},kvs.map (·.2)=as.map V.ref->iN kvs k=some v->∃b∈as,v= .ref b
 | [],as,v,_,h=>by cases h
 | p::kvs,as,v,e,h=>by
  cases as with
  | nil=>cases e
  | cons b0 bs=>
   rw[Oc,Oc]at e;injection e with e1 e2
   by_cases hk:p.1=k
   ·rw[gK hk]at h
    cases h;exact⟨b0,Oe,e1⟩
   ·rw[gL hk]at h
    obtain⟨b,hb,e⟩:=ve e2 h;exact⟨b,N8 _ hb,e⟩
theorem vL {K:N6}{O:Ow}{H:Hp}{k:List Key}{r:List T×List T}:∀{ks:List T} {rows:List (List T×List T)} {kvs:List (List Key×V)} {as:List Addr},ks.map keyOf=kvs.map (λp=>some p.1)->kvs.map (·.2)=as.map V.ref->RowsR K O H rows as->rf ks rows k=some r →
  ∃b kv,iN kvs k=some (.ref b)/\b∈as/\H b=some (.dT kv)/\r.1.map keyOf=kv.map (λp=>some p.1)/\Reps K O H r.2 (kv.map (·.2))
 | [],rows,kvs,as,h1,h2,h3,h=>by unfold rf at h;cases h
 | k'::ks,rows,kvs,as,h1,h2,h3,h=>by
  cases rows with
  | nil=>unfold rf at h;cases h
  | cons r0 rows=>
   cases kvs with
   | nil=>cases h1
   | cons p kvs=>
    rw[Oc,Oc]at h1;injection h1 with h1 h1'
    obtain⟨b0,bs,kv0,rfl,e2,e3,e4,e5⟩:=h3;rw[Oc,Oc]at h2;injection h2 with h2 h2'
    unfold rf at h
    by_cases hk:keyOf k'=some k
    ·rw[if_pos hk]at h
     cases h;rw[h1]at hk;injection hk with hk
     exact⟨b0,kv0,by rw[gK hk,h2],Oe,e2,e3,e4⟩
    ·rw[if_neg hk]at h
     have hk2:¬ p.1=k:=λz=>hk (by rw[h1,z])
     obtain⟨b,kv,g1,g2,g3⟩:=vL h1' h2' e5 h;exact⟨b,kv,by rw[gL hk2];exact g1,N8 _ g2,g3⟩
theorem vG {K:N6}{O:Ow}{H H':Hp}{k:List Key}{xr:List T×List T}{b:Addr}{kv':List (List Key×V)}(hO:O b)(hS:SameO (λc=>c=b) H H')(hb:H' b=some (.dT kv'))(hx1:xr.1.map keyOf=kv'.map (λp=>some p.1))(hx2:Reps K O H' xr.2 (kv'.map (·.2))) :
  ∀{ks:List T} {rows:List (List T×List T)} {kvs:List (List Key×V)} {as:List Addr},ks.map keyOf=kvs.map (λp=>some p.1)->kvs.map (·.2)=as.map V.ref->RowsR K O H rows as->as.Nodup->iN kvs k=some (.ref b)->RowsR K O H' (q0 k xr ks rows) as
 | [],rows,kvs,as,h1,h2,h3,hn,h=>by
  cases kvs with
  | nil=>cases h
  | cons _ _=>cases h1
 | k'::ks,rows,kvs,as,h1,h2,h3,hn,h=>by
  have inO:∀a,a=b->O a\/Nw K H a:=λa z=> .inl (z▸hO)
  cases kvs with
  | nil=>cases h1
  | cons p kvs=>
   rw[Oc,Oc]at h1;injection h1 with h1 h1'
   cases rows with
   | nil=>unfold RowsR at h3;subst h3;cases h2
   | cons r0 rows=>
    obtain⟨b0,bs,kv0,rfl,e2,e3,e4,e5⟩:=h3;rw[Oc,Oc]at h2;injection h2 with h2 h2'
    obtain⟨n1,n2⟩:=OZ.mp hn;unfold q0
    by_cases hk:keyOf k'=some k
    ·rw[if_pos hk]
     rw[h1]at hk;injection hk with hk
     rw[gK hk,h2]at h;cases h;exact⟨b,bs,kv',rfl,hb,hx1,hx2,e5.move (P:=λc=>c=b) inO (λa z=> .inl z) hS λc hc z=>n1 (z▸hc)⟩
    ·rw[if_neg hk]
     have hk2:¬ p.1=k:=λz=>hk (by rw[h1,z])
     rw[gL hk2]at h;obtain⟨b',hb',e'⟩:=ve h2' h;cases e'
     have hne:b0≠b:=λz=>n1 (z▸hb')
     exact⟨b0,bs,kv0,rfl,hS _ _ e2 hne,e3,e4.move (P:=λc=>c=b) inO (λa z=> .inl z) hS,vG hO hS hb hx1 hx2 h1' h2' e5 n2 h⟩
theorem FD (i:Nat)(hu:X.A.units+1<cLine)(ha:c8 X a fa)(hb:c8 X b fb)(hc:c8 X c fc)(hsl:autoParam (BC a) w_)(hN:X.N[i]? =some x:=by rfl)(hv:autoParam (uY X.env.scope x) u_)
  (hd:autoParam ((x == ("__debug__" : Str))=false) s_) (hcd:autoParam ((x == ("__classdict__" : Str))=false) s_)
  (hs:P6 c (some (.Subscript (.Subscript (.Name x p2) a p3) b p4)) pos.line X.env=pure false:=by rfl):qP X (.Assign [.Subscript (.Subscript (.Name x p2) a p3) b p4] c pos) (jw i fa fb fc):=by
 intro pins s σ H D I ⟨Z,B,M,E,h⟩;refine zq hu (zx hu (i8 hN hv hd hcd) ha hsl) hb hc hs pins s σ H D I ?_
 unfold jw at h
 split at h
 ·rename_i ks rows hl
  obtain⟨v0,e1,d,kvs,as,rfl,hM,na,nas,e5,e6,e7,e8⟩:=E.env.own i _ hl;refine⟨Z,OO B M,E.o,?_⟩
  cases q:fc Z with
  | bad=>rw[q]at h;exact h.elim
  | err c=>rw[q]at h;exact PostF.xa h
  | ok vT=>
   rw[q,aH]at h;intro H1 s1 v r;refine⟨.ref d,e1,Z,OO B M,(E.same s1).o,?_⟩
   have h1:=h.later (SameO.of s1) (P1:=M.u) λa z=> .inl z
   cases q2:fa Z with
   | bad=>rw[q2]at h1;exact h1.elim
   | err c=>rw[q2]at h1;exact PostF.xa h1
   | ok aT=>
    rw[q2,aH]at h1;intro H2 s2 y ry
    have h2:=h1.later (SameO.of s2) (P1:=M.u) λa z=> .inl z
    have E2:=(E.same s1).same s2
    have s12:=s1.trans s2
    split at h2
    ·rename_i ka rr hk
     obtain⟨ka',q3,hk⟩:=Option.bind_eq_some_iff.mp hk;obtain⟨r',q4,hk⟩:=Qq.mp hk;cases hk;obtain⟨rb,kv,g1,g2,g3,g4,g5⟩:=vL e6 e7 e8 q4;obtain⟨ndr,nzr⟩:=w4 I g3;obtain⟨ab,f1,f2⟩:=ip q3 ry;refine⟨d,.ref rb,rfl,by rw[f1,<-g1];exact DGet.t (s12 _ _ e5) f2,Z,OO B M,E2.o,?_⟩
     cases q5:fb Z with
     | bad=>rw[q5]at h2;exact h2.elim
     | err c=>rw[q5]at h2;exact PostF.xa h2
     | ok bT=>
      rw[q5,aH]at h2;intro H3 s3 y2 ry2
      have h3:=h2.later (SameO.of s3) (P1:=M.u) λa z=> .inl z
      have s13:=s12.trans s3
      have E3:=E2.same s3
      have hlen:rr.1.length=kv.length:=by have:=congrArg PB g4;simpa using this
      by_cases hz:(keyOf bT).isSome=true/\rr.1.length<1000
      ·rw[if_pos hz]at h3
       obtain⟨kb,q6⟩:=R7.mp hz.1;obtain⟨bb,f3,f4⟩:=ip q6 ry2;obtain⟨u1,u2⟩:=mn q6 ((r.same s2).same s3) g4 (g5.same s13) ndr;refine⟨rb,upd H3 rb (.dT (dP kv kb v)),rfl,by rw[f3];exact DPut.t (s13 _ _ g3) f4 (by rw[PH];omega),?_⟩
       have mrb:M i rb:=(hM rb).mpr (.inr g2)
       have hOb:OO B M rb:=.inr ⟨i,mrb⟩
       have sm1:SameO (λc=>c=rb) H3 (upd H3 rb (.dT (dP kv kb v))):=λc u e nb=>by rw[aG nb];exact e
       have sm:SameO (M i) H3 (upd H3 rb (.dT (dP kv kb v))):=λc u e nb=>sm1 c u e λz=>nb (z▸mrb)
       have inO:∀a,a=rb->OO B M a\/Nw X.K H3 a:=λa z=> .inl (z▸hOb)
       have dne:d≠rb:=λz=>na (z▸g2)
       obtain⟨g6,g7⟩:=E3.put (o':=.dd ks (q0 ka (hV bT vT rr.1 rr.2) ks rows)) hl e1 sm ⟨d,kvs,as,rfl,hM,na,nas,sm1 _ _ (s13 _ _ e5) dne,e6,e7,vG hOb sm1 aI u1 (u2.move (P:=λc=>c=rb) inO (λa z=> .inl z) sm1) e6 e7 (e8.same s13) nas g1⟩
       exact h3 σ _ M g7 g6 λc z=> .inl z
      ·rw[if_neg hz]at h3
       exact h3.elim
    ·exact h2.elim
 ·exact h.elim
end
end Tr
namespace PySem
open Sem (wp)
namespace F
theorem lk_list_keys:SA (.type "list") "keys" =pure none:=by rw[So,Q9];kernel_rfl
theorem lk_list_getattr:SA (.type "list") "__getattr__" =pure none:=by rw[So,Q9];kernel_rfl
end F
section
variable {prog:OH}{w:Px}{A:OV}{E:Oa->Od->Prop}{h:Heap}{g:Array VL}{d:Drawn}{t:Nat}{os:Wh}{a:Addr}{its:Array Oa}{n:Nat}
theorem nZ {tk:Tok}{Q:Fin->Od->Prop}(hx:h.get? a=some { cls:=.type "list",data:=.seq its n })(hh:A.handled=none)
  (hq:∀h' tk' e,W7 h h' e (.ref a) "keys"->E (.ref e) ⟨h',g,d,tk',os⟩) :
  wpAny (model prog w) A (Builtin.«object.__getattribute__» ⟨[.ref a,.str "keys" tk],[]⟩) Q E ⟨h,g,d,t,os⟩:=by
 have hT:(⟨h,g,d,t,os⟩:Od).TypeIs (.ref a) "list":=⟨_,hx,rfl⟩
 have f4:=F.lk_list_keys
 repeat (any_goals (first | assumption | wp_step))
 exact wpAny_raiseAttrError hh (λh' tk e hx=>hq h' tk e hx) (attrMsg_fits (by decide+kernel) (by rw[PH];decide))
theorem qm {tk:Tok}{R:Xj->Od->Prop}(hx:h.get? a=some { cls:=.type "list",data:=.seq its n })(hh:A.handled=none)
  (hq:∀h' tk' e,W7 h h' e (.ref a) "keys"->R (.error (.ref e)) ⟨h',g,d,tk',os⟩) :
  codeAny (model prog w) A (.call (.builtin "list.__getattribute__") ⟨[.ref a,.str "keys" tk],[]⟩) R ⟨h,g,d,t,os⟩:=
 S2 Rj.plain F.entry_list_ga (Rj.check _ _ _ _ _ _ _ _ (show(⟨h,g,d,t,os⟩:Od).TypeIs (.ref a) "list" from⟨_,hx,rfl⟩) (F.args_list_getattribute_2 _ _) (nZ hx hh hq))
theorem qo {Q:Option Oa->Od->Prop}(hx:h.get? a=some { cls:=.type "list",data:=.seq its n })(hh:A.handled=none)
  (hq:∀h' tk',(∀b o,h.get? b=some o->h'.get? b=some o)->Q none ⟨h',g,d,tk',os⟩):wpAny (model prog w) A (getAttr? (.ref a) "keys") Q E ⟨h,g,d,t,os⟩:=by
 have hT:∀tk,(⟨h,g,d,tk,os⟩:Od).TypeIs (.ref a) "list":=λ_=>⟨_,hx,rfl⟩
 have f1:=sub_AttributeError
 have f2:=Rj.lookup
 have f3:=Rj.bind (.ref a)
 have f5:=F.lk_list_getattr;unfold getAttr? getAttrBy? getAttrBy
 repeat (any_goals (first | assumption | exact hT _ | wp_step))
 refine qm hx hh λh' tk' e hx'=> ?_
 obtain⟨t',u',he⟩:=hx'.there
 repeat (any_goals (first | assumption | exact hT _ | wp_step))
 exact hq _ _ hx'.keeps
end
end PySem
namespace PySem.F
theorem entry_dict_update_loop:entryFor table "dict.update.loop" =some Builtin.«dict.update.loop»:=entryFor_of_tree (by kernel_rfl)
theorem plain_dict_update_loop:plainId "dict.update.loop" =true:=by decide+kernel
end PySem.F
namespace Tr
open PySem PySem.Spec PyProof.Rows L2
def fR (kvs:List (List Key×V)):List (List Key×V)->List (List Key×V)
 | [] =>kvs
 | p::ps=>fR (dP kvs p.1 p.2) ps
def PairsAt (H:Hp):List V->List (List Key×V)->Prop
 | [],ps=>ps= []
 | x::xs,ps=> ∃b kb p r,ps=p::r/\x= .ref b/\H b=some (.tup [.ref kb,p.2])/\H kb=some (.tup (p.1.map kV))/\PairsAt H xs r
theorem PairsAt.upd {H:Hp}{d:Addr}{kvs:List (List Key×V)}{o:HO}(hd:H d=some (.dT kvs)):∀{xs:List V} {ps:List (List Key×V)},PairsAt H xs ps->PairsAt (L2.upd H d o) xs ps
 | [],_,h=>h
 | x::xs,_,⟨b,kb,p,r,e1,e2,e3,e4,e5⟩=>⟨b,kb,p,r,e1,e2,by rw[aG (lY e3 hd (λz=>nomatch z))];exact e3,by rw[aG (lY e4 hd (λz=>nomatch z))];exact e4,e5.upd hd⟩
theorem sW {H:Hp}{d:Addr}{a b:HO}:upd (upd H d a) d b=upd H d b:=by
 funext c
 by_cases h:c=d
 ·rw[h,aI,aI]
 ·rw[aG h,aG h,aG h]
section
variable {X:Cx}{pins:List (Addr×Obj)}{σ:L2.St}{A:OV}{res:Oa}{R:Xj->Od->Prop}{d l it:Addr}{xs:List V}
theorem Bm (hh:A.handled=none)(hu:A.units+3<cLine):∀(k i:Nat) (s:Od) (H:Hp) (kvs ps:List (List Key×V)),xs.length - i=k->i<=xs.length->H l=some (.lst xs)->H d=some (.dT kvs)->kvs.length+(xs.length - i)<=1000->Inv X pins σ H s->s.heap.IsListIter it l i->qQ X pins H it->PairsAt H (xs.drop i) ps →
  (∀s',Inv X pins σ (upd H d (.dT (fR kvs ps))) s'->R (.ok (.ret res)) s')->codeAny (model X.prog X.w) A (.builtin "dict.update.loop" ⟨[.ref d,.ref it,rawInt i,res],[]⟩) R s:=by
 intro k
 induction k with
 | zero=>
  intro i s H kvs ps hk hi hl hd hz I hit hf hp hR;refine QY F.entry_dict_update_loop ?_
  rw[Qm F.plain_dict_update_loop _];obtain⟨z,its,n,r,hlen,e⟩:=I.KM hl
  have hL:s.heap.IsList l its.toArray:=⟨_,e,rfl,n,rfl⟩
  show wpAny _ A.in1 (pyNext (.ref it) >>= _) _ _ s
  refine N7 (UN hh hit hL (by simp;omega) λh' hm=> ?_)
  show wpAny _ _ (Builtin.Dict.addKeywords d [] >>= _) _ _ _
  refine N7 (Ol (Ol ?_))
  have hnil:xs.drop i= []:=Q1 (by omega)
  rw[hnil]at hp;unfold PairsAt at hp;subst hp
  have e2:upd H d (.dT (fR kvs []))=H:=by
   funext b
   by_cases hb:b=d
   ·rw[hb,aI,hd];rfl
   ·rw[aG hb]
  rw[e2]at hR
  exact hR _ (I.Nc (fp:=[it]) (t':=s.toks) (λb hb=>by rw[OB.mp hb];exact hf) λb o hb eb=>hm b o (λz=>hb (by rw[z];exact OB.mpr rfl)) eb)
 | succ k ih=>
  intro i s H kvs ps hk hi hl hd hz I hit hf hp hR;refine QY F.entry_dict_update_loop ?_
  rw[Qm F.plain_dict_update_loop _];obtain⟨z,its,n,r,hlen,e⟩:=I.KM hl
  have hL:s.heap.IsList l its.toArray:=⟨_,e,rfl,n,rfl⟩
  have hlt:i<xs.length:=by omega
  have hlt':i<its.length:=by omega
  show wpAny _ A.in1 (pyNext (.ref it) >>= _) _ _ s
  refine N7 (Us hit hL (x:=its[i]) (by simp[hlt']) λh' hit' hm=> ?_)
  have I1:Inv X pins σ H { s with heap:=h' }:=I.Nc (fp:=[it]) (t':=s.toks) (λb hb=>by rw[OB.mp hb];exact hf) λb o hb eb=>(hm.2 b (λz=>hb (by rw[z];exact OB.mpr rfl))).trans eb
  have hdrop:xs.drop i=xs[i] ::xs.drop (i+1):=Qx hlt;rw[hdrop]at hp;obtain⟨b,kb,p,r',rfl,ex,hb,hkb,hp'⟩:=hp
  have rx:RelV xs[i] its[i]:=by
   obtain⟨u,q1,q2⟩:=r.get (Of hlt)
   rw[Of hlt']at q1
   cases q1;exact q2
  rw[ex]at rx
  have eu:its[i] =OA b:=rx;rw[eu];obtain⟨z2,its2,r2,ob,hob1,hob2,nb,hob3⟩:=(show ObjOk X.prog X.w H h' b (.tup [.ref kb,p.2])from I1.hok b _ hb)
  obtain⟨u1,us1,q1,rfl⟩:∃u1 us1,RelV (V.ref kb) u1/\its2=u1::us1:=by cases r2 with | cons a b=>exact⟨_,_,a,rfl⟩
  cases r2 with
  | cons ra rb=>
   obtain⟨u2,q2,rfl⟩:∃u2,RelV p.2 u2/\us1= [u2]:=by cases rb with | cons a b=>cases b;exact⟨_,a,rfl⟩
   obtain rfl:u1=OA kb:=q1
   show wpAny _ A.in1 (holding [OA b] _ >>= _) _ _ _
   refine N7 (P7 ?_)
   refine N7 (SE ?_)
   unfold Builtin.Dict.pairItems;refine N7 (Sd (s:={ s with heap:=h' }) (T:="tuple") ⟨ob,hob1,hob2⟩ ?_)
   rw[if_pos (by decide)]
   refine N7 (RY (s:={ s with heap:=h' }) hob1 hob3 (Ol ?_))
   show wpAny _ _ (holding [OA kb,u2] (dictSet d (.ref kb) u2)) _ _ _
   refine P7 ?_
   obtain⟨zz,hds,xs2,rel,dd⟩:=Er I1.hok hd
   have hzl:xs2.length<=sizeLine:=by rw[<-T9 rel];exact zz
   have hkl:kvs.length<sizeLine:=by rw[PH];omega
   have hl2:(dP kvs p.1 p.2).length<=sizeLine:=by have:=il kvs p.1 p.2;omega
   refine wpAny_dictSet_heap (hsz:=hzl) (QJ (by show A.units+1<cLine;omega)) (key_of I1.hok hkb) dd λh2 dd2 hs2=> ?_
   obtain⟨q,es,ep,hq,h22,h3,h4,_,h5⟩:=dd2
   have I2:Inv X pins σ (upd H d (.dT (dP kvs p.1 p.2))) { s with heap:=h2,toks:=s.toks+(TY (du X.prog X.w)).draws p.1 }:=
    uO (s:={ s with heap:=h' }) I1 (by rw[hd];exact RL) hs2 ⟨q,hq⟩ ⟨hl2,hds,_,(rel.put p.1 hkb q2).keeps λc ys ec=>by rw[aG (lY ec hd (λz=>nomatch z))];exact ec,q,es,ep,hq,h22,h3,h4,h5⟩
   have hld:l≠d:=lY hl hd (λz=>nomatch z)
   have hitd:it≠d:=λz=>by have:=hf.1;rw[z,hd]at this;cases this
   have hcast:(i:Int)+1=((i+1:Nat):Int):=by omega
   refine Ol ⟨Ru F.plain_dict_update_loop _,?_⟩
   rw[hcast];refine ih (i+1) _ (upd H d (.dT (dP kvs p.1 p.2))) (dP kvs p.1 p.2) r' (by omega) (by omega) (by rw[aG hld];exact hl) aI (by have:=il kvs p.1 p.2;omega) I2 ?_ ⟨by rw[aG hitd];exact hf.1,hf.2⟩ (hp'.upd hd) λs' I'=> ?_
   ·obtain⟨oi,ho1,ho2,ho3⟩:=hit'
    exact⟨oi,(hs2.2 it hitd).trans ho1,ho2,ho3⟩
   ·rw[sW]at I'
    exact hR s' I'
end
theorem PairsAt.same {H H':Hp}(s:Same H H'):∀{xs:List V} {ps:List (List Key×V)},PairsAt H xs ps->PairsAt H' xs ps
 | [],_,h=>h
 | x::xs,_,⟨b,kb,p,r,e1,e2,e3,e4,e5⟩=>⟨b,kb,p,r,e1,e2,s _ _ e3,s _ _ e4,e5.same s⟩
section
variable {X:Cx}{pins:List (Addr×Obj)}{σ:L2.St}{A:OV}{E:Oa->Od->Prop}{H:Hp}{s:Od}{l:Addr}{xs:List V}{ps:List (List Key×V)}
theorem wZ {Q:Oa->Od->Prop}(hh:A.handled=none)(hu:A.units+8<cLine)(I:Inv X pins σ H s)(hl:H l=some (.lst xs))(hz:xs.length<=1000)(hp:PairsAt H xs ps)
  (h:∀p s',Nw X.K H p->Inv X pins σ (upd H p (.dT (fR [] ps))) s'->Q (.ref p) s'):wpAny (model X.prog X.w) A (call (.type "dict") [.ref l]) Q E s:=by
 have hk:X.K.lookup s.heap.objs.size=none:=by
  cases q:X.K.lookup s.heap.objs.size with
  | none=>rfl
  | some o=>exact absurd (Ou (I.kIn _ o q)) (O9 _)
 have hn:H s.heap.objs.size=none:=I.hok.fresh (Ot _)
 have hlp:l≠s.heap.objs.size:=λz=>by rw[z,hn]at hl;cases hl
 refine callType_codes (Q₁:=λobj s₁=>obj= .ref s.heap.objs.size/\s₁= { s with heap:=s.heap.push { cls:=.type "dict",data:=.dict #[] } }) F.kt_called_dict (F.kt_typeCall_dict_1 _) F.entry_dict_init (kt_code_dict_new _ ⟨rfl,rfl⟩) ?_
 rintro obj s₁ ⟨rfl,rfl⟩
 have I1:Inv X pins σ (upd H s.heap.objs.size (.dT [])) { s with heap:=s.heap.push { cls:=.type "dict",data:=.dict #[] } }:=I.laid (a:=s.heap.objs.size) (o:=.dT []) (t':=s.toks) (λ_ _ q=>Oh _ q) (Ot _) (Es s.heap I.big)
 have hT:({ s with heap:=s.heap.push { cls:=.type "dict",data:=.dict #[] } }:Od).TypeIs (.ref s.heap.objs.size) "dict":=⟨_,Oz _ rfl,rfl⟩
 have hl1:upd H s.heap.objs.size (.dT []) l=some (.lst xs):=by rw[aG hlp];exact hl
 obtain⟨z,its,n,r,hlen,e⟩:=I1.KM hl1;refine⟨hT,F.args_dict_init_2 _ _,?_⟩
 unfold Builtin.«dict.__init__»;refine N7 ?_
 unfold Builtin.Dict.selfAndRest;refine N7 (UR hT ?_)
 show wpAny _ _ (pure (s.heap.objs.size,[OA l])) _ _ _
 refine Ol ?_
 show wpAny _ _ (T8 "dict.__init__" s.heap.objs.size (.ref l) [] .none) _ _ _
 unfold T8;refine N7 (Sd (T:="list") ⟨_,e,rfl⟩ ?_)
 rw[if_pos (by decide)]
 refine N7 (qo e hh λh' tk' kp=> ?_)
 have I2:Inv X pins σ (upd H s.heap.objs.size (.dT [])) { s with heap:=h',toks:=tk' }:=I1.kept (t':=tk') kp
 rw[if_pos (by rfl)]
 refine N7 (SC ?_)
 have eL:({ s with heap:=h',toks:=tk' }:Od).heap.IsList l its.toArray:=⟨_,kp _ _ e,rfl,n,rfl⟩
 refine N7 (Sz eL ?_)
 have I3:Inv X pins σ (upd H s.heap.objs.size (.dT [])) { s with heap:=h'.push { cls:=.type "list_iterator",data:=.fields #[.ref l,.int 0 0] },toks:=tk' }:=I2.kept (t':=tk') λb u q=>Oh _ q
 have hpl:s.heap.objs.size<h'.objs.size:=Ou (kp _ _ (Oz _ rfl))
 have hni:upd H s.heap.objs.size (.dT []) h'.objs.size=none:=by
  rw[aG (QF hpl)];exact I.hok.fresh (Qb hpl)
 have hp1:PairsAt (upd H s.heap.objs.size (.dT [])) xs ps:=hp.same (aQ hn _);refine Ol ⟨Ru F.plain_dict_update_loop _,?_⟩
 refine Bm (A:=A.in1) (X:=X) (pins:=pins) (σ:=σ) (l:=l) (xs:=xs) (it:=h'.objs.size) hh (by show A.units+1+3<cLine;omega) xs.length 0 _ (upd H s.heap.objs.size (.dT [])) [] ps (by omega) (Pj _) hl1 aI (by simp;omega) I3 ⟨_,Oz _ rfl,rfl,rfl⟩ (I2.Ni (Ot _) hni) hp1 λs' I'=> ?_
 rw[sW]at I';exact⟨rfl,h _ _ ⟨hn,hk⟩ I'⟩
end
theorem hu8 {k:Nat}{A:OV}(h:Room k A):A.units+8<cLine:=by have:=h.un;omega
theorem yf {kvs:List (List Key×V)}{k:List Key}{v:V}(h:(kvs.map (·.1)).Nodup):((dP kvs k v).map (·.1)).Nodup:=by
 unfold dP
 by_cases a:(kvs.any λkv=>decide (kv.1=k))=true
 ·rw[if_pos a,OM]
  have:((λx=>x.1)∘λkv:List Key×V=>if kv.1=k then(kv.1,v)else kv)=λx=>x.1:=by
   funext x
   show(if x.1=k then(x.1,v)else x).1=x.1
   by_cases e:x.1=k
   ·rw[if_pos e]
   ·rw[if_neg e]
  rw[this];exact h
 ·rw[if_neg a,PF,PU]
  refine⟨h,by simp,λx hx y hy=> ?_⟩
  simp only[Oc,Tx,OB]at hy;subst hy;intro z;subst z;obtain⟨p,hp,e⟩:=Oq.mp hx;exact a (Rw.mpr ⟨p,hp,decide_eq_true e⟩)
def MW (K:N6)(O:Ow)(H:Hp):List (T×T)->List (List Key×V)->Prop
 | [],ps=>ps= []
 | a::l,ps=> ∃p r,ps=p::r/\keyOf a.1=some p.1/\Rep K O H a.2 p.2/\MW K O H l r
theorem sC {K:N6}{O:Ow}{H:Hp}:∀{l:List (T×T)} {ps:List (List Key×V)} {ks ts:List T} {kvs:List (List Key×V)},MW K O H l ps->ks.map keyOf=kvs.map (λp=>some p.1)->Reps K O H ts (kvs.map (·.2))->(kvs.map (·.1)).Nodup →
  (jX l (ks,ts)).1.map keyOf=(fR kvs ps).map (λp=>some p.1)/\Reps K O H (jX l (ks,ts)).2 ((fR kvs ps).map (·.2))
 | [],ps,ks,ts,kvs,h,h1,h2,hn=>by unfold MW at h;subst h;exact⟨h1,h2⟩
 | (a,b)::l,ps,ks,ts,kvs,h,h1,h2,hn=>by
  obtain⟨p,r,rfl,e1,e2,e3⟩:=h;obtain⟨g1,g2⟩:=mn (vT:=b) e1 e2 h1 h2 hn
  show(jX l (hV a b ks ts)).1.map keyOf=(fR (dP kvs p.1 p.2) r).map (λp=>some p.1)/\Reps K O H (jX l (hV a b ks ts)).2 ((fR (dP kvs p.1 p.2) r).map (·.2))
  exact sC (l:=l) e3 g1 g2 (yf hn)
theorem zr {K:N6}{O:Ow}{H:Hp}:∀{l:List T} {tps:List (T×T)} {xs:List V},KI l=some tps->Reps K O H l xs->∃ps,PairsAt H xs ps/\MW K O H tps ps
 | [],tps,xs,h,r=>by cases Reps.Da.mp r;cases h;exact⟨[],rfl,rfl⟩
 | t::l,tps,xs,h,r=>by
  obtain⟨v,ws,rfl,p,q⟩:=Reps.me.mp r;unfold KI at h
  split at h
  ·rename_i heq;cases heq
  ·rename_i k v' l' heq
   cases heq
   split at h
   ·rename_i kk rr hk hr
    cases h;obtain⟨ps,g1,g2⟩:=zr hr q;obtain⟨b,vs,e1,e2,e3,e4⟩:=Rep.Fk.mp p;obtain⟨u1,us1,rfl,f1,f2⟩:=Reps.me.mp e4;obtain⟨u2,us2,rfl,f3,f4⟩:=Reps.me.mp f2;cases Reps.Da.mp f4;obtain⟨kb,f5,f6⟩:=ip hk f1;subst f5;exact⟨(kk,u2)::ps,⟨b,kb,(kk,u2),ps,rfl,e1,e3,f6,g1⟩,⟨(kk,u2),ps,rfl,hk,f3,g2⟩⟩
   ·cases h
  ·cases h
section
variable {X:Cx}{e:Expr}{f:En->Rs T}{x y:Str}{p pos p2 p3:Pos}
def Il (X:Cx)(f:En->Rs T):TE:=λσ H Q=>tP X f σ H λv H'=> ∃a xs ps,v= .ref a/\H' a=some (.lst xs)/\xs.length<=1000/\PairsAt H' xs ps/\∀q,Nw X.K H' q->Q (.ref q) (upd H' q (.dT (fR [] ps)))
theorem CP (hu:X.A.units+8<cLine)(hc:X.calm=true)(hm:X.mg "dict" =none)(ha:c8 X e f)(hg:Gl X "dict")(hs:b8 e=true):PE X (.Call (.Name "dict" p) [e] [] pos) (Il X f):=by
 have h1:Oy [e] X.env=(false,eval e X.env)::Oy [] X.env:=bo hs;intro pins s σ H Q I hq;refine Pc (fg I hg hm (show Pb "dict" =some (.type "dict")by decide+kernel) ?_ (by decide) (by decide))
 refine Pa (cL (bF (te:=tP X f) ha dQ h1 pos pins s σ H (λxs H'=> ∃v,xs= [v]/\∃a xs ps,v= .ref a/\H' a=some (.lst xs)/\xs.length<=1000/\PairsAt H' xs ps/\∀q,Nw X.K H' q->Q (.ref q) (upd H' q (.dT (fR [] ps)))) I ?_) λus s1 hh=> ?_) h1 rfl
 ·obtain⟨Z,O,E,h⟩:=hq
  exact⟨Z,O,E,Post.mono h λt H' _ g v r=>⟨v,rfl,g v r⟩⟩
 ·obtain⟨vs,H1,I1,r1,v,rfl,a,xs,ps,ev,e1,e2,e3,e4⟩:=hh
  subst ev;obtain⟨u,rfl,ru⟩:=r1.one;obtain rfl:u=OA a:=ru;exact wZ (I1.ok.hd hc) hu I1 e1 e2 e3 λq s' nw I'=>⟨.ref q,_,I',rfl,e4 q nw⟩
theorem FF (i:Nat)(hu:X.A.units+8<cLine)(hc:X.calm=true)(hm:X.mg "dict" =none)(hN:X.N.Nodup)(ha:c8 X e f)(hst:b8 e=true:=by rfl)(hg:Gl X "dict":=by rfl)(hi:X.N[i]? =some x:=by rfl)(hx:autoParam (Loc X.env.scope x) x_)(hs:P6 (.Call (.Name "dict" p) [e] [] p2) (some (.Name x p3)) pos.line X.env=pure false:=by rfl)
  (hf:autoParam (X.fn x=true\/X.env.scope.names.lookup x=some .local) r_):qP X (.Assign [.Name x p3] (.Call (.Name "dict" p) [e] [] p2) pos) (rN i f):=PS.imp (pz hN hi hx (CP hu hc hm ha hg hst) hs hf) λD σ H hh_=>by
 obtain⟨Z,B,M,E,h⟩:=hh_;refine⟨Z,OO B M,E.o,?_⟩
 unfold rN at h
 cases q:f Z with
 | bad=>rw[q]at h;exact h.elim
 | err c=>rw[q]at h;exact PostF.xa h
 | ok t=>
  rw[q,aH]at h;intro H1 s1 v r
  have h1:=h.later (SameO.of s1) (P1:=M.u) λa z=> .inl z
  cases t with
  | lst l=>
   obtain⟨a,xs,rfl,e2,e3,e4⟩:=Rep.Do.mp r;unfold Aj at h1
   split at h1
   ·rename_i l' heq
    cases heq
    split at h1
    ·rename_i tps hps
     by_cases hz:l.length<=1000
     ·rw[if_pos hz,aH]at h1
      obtain⟨ps,g1,g2⟩:=zr hps e4;refine⟨a,xs,ps,rfl,e3,by rw[<-e4.length];exact hz,g1,λnd nw=> ?_⟩
      by_cases hl:i<Z.length
      ·simp only[if_pos hl]at h1
       have hm:∀a,a=nd->Nw X.K H1 a:=λa z=>z▸nw
       obtain⟨k1,k2⟩:=sC (ks:=[]) (ts:=[]) (kvs:=[]) g2 rfl Reps.GM Rc;obtain⟨E2,sub⟩:=(E.same s1).new (m:=λa=>a=nd) (o:=.dct (jX tps ([],[])).1 (jX tps ([],[])).2) (v:=.ref nd) (H':=upd H1 nd (.dT (fR [] ps))) hl hm (aQ nw.1 _) ⟨nd,_,rfl,λb=>S9,aI,k1,(k2.more (Ev.subO hm)).same (aQ nw.1 _)⟩
       exact h1 _ _ _ (SameO.of (aQ nw.1 _)) E2 sub
      ·simp only[if_neg hl]at h1;exact h1.elim
     ·rw[if_neg hz]at h1;exact h1.elim
    ·exact h1.elim
   ·rename_i hno
    exact(hno l rfl).elim
  | _=>exact h1.elim
end
theorem pX {K:N6}{O:Ow}{H:Hp}:∀{l:List T} {ns:List Int} {xs:List V} {us:List Oa},gj l=some ns->Reps K O H l xs->Vals xs us->Qp us ns
 | [],ns,xs,us,h,r,v=>by cases Reps.Da.mp r;cases v;cases h;exact .nil
 | t::l,ns,xs,us,h,r,v=>by
  obtain⟨w,ws,rfl,p,q⟩:=Reps.me.mp r
  cases v with
  | cons v1 v2=>
   cases t with
   | int i=>
    unfold gj at h;obtain⟨m,h1,rfl⟩:=Qq.mp h;cases Rep.AC.mp p;obtain⟨k,rfl⟩:=v1
    exact .cons _ _ (pX h1 q v2)
   | _=>cases h
theorem rZ:∀(l:List Int) (i:Int),mY i l∈i::l/\∀a∈i::l,a<=mY i l
 | [],i=>⟨Oe,λa h=>by cases OB.mp h;exact Qa _⟩
 | j::l,i=>by
  obtain⟨h1,h2⟩:=rZ l (if i<j then j else i)
  unfold mY
  have h3:=h2 _ Oe;refine⟨?_,λa ha=> ?_⟩
  ·rcases Og.mp h1 with e | e
   ·rw[e]
    by_cases h:i<j
    ·rw[if_pos h];simp
    ·rw[if_neg h];simp
   ·exact N8 _ (N8 _ e)
  ·rcases Og.mp ha with rfl | ha
   ·by_cases h:a<j
    ·rw[if_pos h]at h3 ⊢;omega
    ·rw[if_neg h]at h3 ⊢;omega
   ·rcases Og.mp ha with rfl | ha
    ·by_cases h:i<a
     ·rw[if_pos h]at h3 ⊢;omega
     ·rw[if_neg h]at h3 ⊢;omega
    ·exact h2 a (N8 _ ha)
section
variable {X:Cx}
theorem Kr (hc:X.calm=true):CallT X (.builtin "max") Df:=by
 intro pins s σ H O ts vs us Q I hf rs rv hp;unfold Df at hp
 split at hp
 ·rename_i l
  obtain⟨v,rfl,r⟩:=rs.one
  split at hp
  ·rename_i i ns hk
   obtain⟨a,ws,rfl,n,q,z⟩:=Rep.Do.mp r;obtain⟨u,rfl,ru⟩:=lG rv;cases ru;obtain⟨its,r',pl,hz⟩:=I.list (SqL.of q)
   have hi:=pX hk z r';obtain⟨xs,e⟩:=hi.allInts.items
   have hns:i::ns=xs.toList.map (·.1):=by rw[<-hi.numsOf,<-nums_intItems,<-e]
   have hl:s.heap.IsList a (intItems xs):=by rw[<-e];exact pl.isList
   have hsz:0<xs.size:=by
    have h3:=congrArg PB hns;rw[Oj,Ob]at h3;rw[<-PN];omega
   refine max_intList (I.ok.hd hc) hl hsz λv h' tk hv hk'=> ?_
   obtain⟨t,rfl⟩:=intItems_at hv;obtain⟨h1,h2⟩:=argBest_gt (numAt xs) (xs.size - 1);refine⟨.int _,H,I.kept (t':=tk) hk',⟨_,rfl⟩,?_⟩
   have eM:numAt xs (argBest (λi j=>decide (numAt xs i > numAt xs j)) (xs.size - 1))=mY i ns:=by
    obtain⟨g1,g2⟩:=rZ ns i
    have m1:numAt xs (argBest (λi j=>decide (numAt xs i > numAt xs j)) (xs.size - 1))∈i::ns:=by
     rw[hns,numAt_eq];exact PySem.getD_mem (by rw[Ob,PN];omega)
    have k1:=g2 _ m1;rw[hns]at g1;obtain⟨j,hj,ej⟩:=mem_getD g1;rw[Ob,PN]at hj;rw[<-numAt_eq]at ej
    have k2:=h2 j (by omega)
    rw[ej]at k2;exact Int.le_antisymm k1 k2
   rw[eM];exact hp H (Same.refl H) _ (Rep.GE _)
  ·exact hp.elim
 ·rename_i i j
  obtain⟨v,ws,rfl,p,q⟩:=Reps.me.mp rs;obtain⟨v2,rfl,p2⟩:=q.one;cases Rep.AC.mp p;cases Rep.AC.mp p2;refine Bv hc pins s σ H _ us Q I rv ⟨i,j,rfl,?_⟩
  exact hp H (Same.refl H) _ (Rep.GE _)
 ·exact hp.elim
end
end Tr
namespace Tr
def gM:List T->Option (List (List Int))
 | [] =>some []
 | .tup l::r=>match gj l,gM r with
  | some ns,some k=>if ns= []then none else some (ns::k)
  | _,_=>none
 | _=>none
def nM (a b:List Int):Bool:=!cO b a
theorem iV:∀l,cO l l=false
 | [] =>rfl
 | a::l=>by unfold cO;rw[if_pos rfl];exact iV l
theorem l5:∀a b c,cO a b=true->cO b c=true->cO a c=true
 | [],[],_,h,_=>absurd h (by simp[cO])
 | _::_,[],_,h,_=>absurd h (by simp[cO])
 | [],_::_,[],_,h=>absurd h (by simp[cO])
 | [],_::_,_::_,_,_=>rfl
 | _::_,_::_,[],_,h=>absurd h (by simp[cO])
 | x::a,y::b,z::c,h,g=>by
  unfold cO at h g ⊢
  by_cases e:x=y
  ·subst e
   rw[if_pos rfl]at h
   by_cases e2:x=z
   ·rw[if_pos e2]at g ⊢;exact l5 a b c h g
   ·rw[if_neg e2]at g ⊢;exact g
  ·rw[if_neg e]at h
   by_cases e2:y=z
   ·subst e2;rw[if_neg e];exact h
   ·rw[if_neg e2]at g
    have h1:=of_decide_eq_true h
    have h2:=of_decide_eq_true g;rw[if_neg (by omega)]
    exact decide_eq_true (by omega)
theorem jP:∀a b,cO a b=false->cO b a=false->a=b
 | [],[],_,_=>rfl
 | [],_::_,h,_=>absurd h (by simp[cO])
 | _::_,[],_,h=>absurd h (by simp[cO])
 | x::a,y::b,h,g=>by
  unfold cO at h g
  by_cases e:x=y
  ·subst e
   rw[if_pos rfl]at h g;rw[jP a b h g]
  ·rw[if_neg e]at h
   rw[if_neg (λz=>e z.symm)]at g
   have h1:=of_decide_eq_false h
   have h2:=of_decide_eq_false g;omega
theorem qk (a b c:List Int)(h:cO a c=true):cO a b=true\/cO b c=true:=by
 cases h1:cO a b with
 | true=>exact .inl rfl
 | false=>
  cases h2:cO b a with
  | true=>exact .inr (l5 _ _ _ h2 h)
  | false=>rw[<-jP _ _ h1 h2];exact .inr h
theorem JR (a b c:List Int)(h:nM a b=true)(g:nM b c=true):nM a c=true:=by
 unfold nM at*
 cases z:cO c a with
 | false=>rfl
 | true=>
  rcases qk c b a z with y | y
  ·rw[y]at g;cases g
  ·rw[y]at h;cases h
theorem Gk (a b:List Int):(nM a b||nM b a)=true:=by
 unfold nM
 cases z:cO b a with
 | false=>rfl
 | true=>
  cases y:cO a b with
  | false=>rfl
  | true=>have:=l5 _ _ _ z y;rw[iV]at this;cases this
theorem Dn (a b:List Int)(h:nM a b=true)(g:nM b a=true):a=b:=by
 unfold nM at h g;refine jP a b ?_ ?_
 ·cases z:cO a b with
  | false=>rfl
  | true=>rw[z]at g;cases g
 ·cases z:cO b a with
  | false=>rfl
  | true=>rw[z]at h;cases h
theorem iO {k m:List (List Int)}(p:m.Perm k)(s:m.Pairwise (λa b=>nM a b=true)):m=k.mergeSort nM:=
 List.Perm.eq_of_pairwise (le:=λa b=>nM a b=true) (λa b _ _ h g=>Dn a b h g) s (List.pairwise_mergeSort JR Gk k) (p.trans (List.mergeSort_perm k nM).symm)
end Tr
namespace Tr
open PySem PySem.Spec PyProof.Rows L2
section
variable {X:Cx}
theorem zO:∀(l m:List Int),HT.lexLt l m=cO l m
 | [],[] =>rfl
 | [],_::_=>rfl
 | _::_,[] =>rfl
 | a::l,b::m=>by
  rw[HT.lexLt_cons,zO l m]
  rfl
end
structure SrtB (k0:U1)(o:Array Xu)(st:SO):Prop where
 p:(arrOf st).Perm o
 k:kindOf st=k0
 f:S6 st=none
 e:RZ st= #[]
theorem SrtB.len {k0:U1}{o:Array Xu}{st:SO}(b:SrtB k0 o st):(arrOf st).size=o.size:=b.p.size_eq
theorem SrtB.arr {k0:U1}{o xs:Array Xu}{st:SO}(b:SrtB k0 o st)(h:xs.Perm (arrOf st)):SrtB k0 o (setArr st xs):=⟨h.trans b.p,b.k,b.f,b.e⟩
def xf (κ:KeyKind)(k0:U1)(prog:OH)(w:Px)(A:OV)(s:Od):Prop:=
 ∀(E:Oa->Od->Prop) (x y:Oa) (a b:κ.α) (Q:Bool->Od->Prop),κ.keyOf x=some a->κ.keyOf y=some b->Q (κ.blt a b) s->wpAny (model prog w) A (keyLt' k0 x y) Q E s
abbrev gk (κ:KeyKind)(st:SO)(i:Nat):κ.α:=KK κ (arrOf st) i
theorem EY {κ:KeyKind}{xs:Array Xu}{n:Nat}(h:Qr κ xs n)(hl:κ.kle (KK κ xs (n - 1)) (KK κ xs n)):Qr κ xs (n+1):=λi j le lt=>by
 rcases Rl j n with z | z
 ·exact h i j le z
 ·obtain rfl:j=n:=by omega
  rcases Rl i j with y | y
  ·exact SU (h i (j - 1) (by omega) (by omega)) hl
  ·rw[show i=j by omega];exact RH _
theorem oJ {κ:KeyKind}{xs:Array Xu}{n:Nat}(h:Vr κ xs n)(hl:κ.kle (KK κ xs n) (KK κ xs (n - 1))):Vr κ xs (n+1):=λi j le lt=>by
 rcases Rl j n with z | z
 ·exact h i j le z
 ·obtain rfl:j=n:=by omega
  rcases Rl i j with y | y
  ·exact SU hl (h i (j - 1) (by omega) (by omega))
  ·rw[show i=j by omega];exact RH _
theorem BR {κ:KeyKind}{xs:Array Xu}{n:Nat}(h:n<=1):Qr κ xs n:=λi j le lt=>by rw[show i=j by omega];exact RH _
theorem Kn {κ:KeyKind}{xs:Array Xu}{n:Nat}(h:n<=1):Vr κ xs n:=λi j le lt=>by rw[show i=j by omega];exact RH _
section
variable {prog:OH}{w:Px}{A:OV}{E:Oa->Od->Prop}{s:Od}{κ:KeyKind}{k0:U1}{o:Array Xu}{st:SO}
theorem Hn (b:SrtB k0 o st)(ks:KeysOf κ o){i:Nat}(hi:i<o.size):∃z,(arrOf st)[i]? =some z/\κ.keyOf z.1=some (gk κ st i):=by
 have h1:i<(arrOf st).size:=b.len▸hi;obtain⟨a,ha⟩:=ks _ ((To.mp b.p).mem_iff.mp (Array.getElem_mem_toList h1))
 have e:=getElem?_pos (arrOf st) i h1
 refine⟨_,e,?_⟩
 show _=some (KK κ (arrOf st) i)
 unfold KK;rw[e,ha];simp[ha]
theorem vB (c:xf κ k0 prog w A s)(ks:KeysOf κ o)(b:SrtB k0 o st){i j:Nat}{Q:Option Bool->SO->Prop}(hi:i<o.size)(hj:j<o.size)(q:Q (some (κ.blt (gk κ st i) (gk κ st j))) st) :
  wpS (model prog w) A E s (ltAt' i j) Q st:=by
 obtain⟨⟨x,x2⟩,e1,k1⟩:=Hn b ks hi;obtain⟨⟨y,y2⟩,e2,k2⟩:=Hn b ks hj;rw[ltAt'_eq];refine PJ (Xn ?_)
 dsimp only
 rw[elem'_eq,elem'_eq,e1,e2];refine PJ (QB (PJ (QB ?_)))
 rw[lt'_eq];refine PJ (Xn ?_)
 rw[b.k];exact PJ (wpS_lift (VX (c _ x y _ _ _ k1 k2 ⟨rfl,QB q⟩)))
theorem Hm {a m:Nat}{Q:AscSt->SO->Prop}(c:xf κ k0 prog w A s)(ks:KeysOf κ o)(b:SrtB k0 o st)(hm:m<=o.size)(h1:1<=a)(h2:a<=m)(so:Qr κ (arrOf st) a)
  (q:∀n,a<=n->n<=m->Qr κ (arrOf st) n->(n≠m->κ.klt (gk κ st n) (gk κ st (n - 1)))->Q (none,n) st):wpS (model prog w) A E s (ascLoop a m) Q st:=by
 unfold ascLoop;refine SS (I:=λn r st'=>r=(none,n)/\st'=st/\Qr κ (arrOf st) n) (λn r st' l1 l2 hI=> ?_) (λr st' hI=> ?_) ⟨rfl,rfl,so⟩
 ·obtain⟨rfl,rfl,sn⟩:=hI
  refine PJ (vB c ks b (Os l2 hm) (RC (V9 _ _) (Os l2 hm)) ?_)
  cases z:κ.blt (gk κ st' n) (gk κ st' (n - 1))with
  | true=>exact QB (q n l1 (Qb l2) sn λ_=>z)
  | false=>exact QB ⟨rfl,rfl,EY sn z⟩
 ·obtain⟨rfl,rfl,sn⟩:=hI
  have e:max a m=m:=SV h2;rw[e]at sn ⊢;exact q m h2 (Ot _) sn λh=>absurd rfl h
theorem tH {i j:Nat}{Q:Unit->SO->Prop}(b:SrtB k0 o st)(q:∀st',SrtB k0 o st'->arrOf st'=mirror (arrOf st) i j ((j - i) / 2)->Q () st'):wpS (model prog w) A E s (reverseSlice' i j) Q st:=by
 rw[reverseSlice'_eq];exact Wn (q _ (b.arr (mirror_perm _ _ _ _)) rfl)
abbrev EJ (κ:KeyKind)(k0:U1)(o:Array Xu)(m:Nat)(Q:Option Nat->SO->Prop):Prop:=∀n st',SrtB k0 o st'->1<=n->n<=m->Qr κ (arrOf st') n->Q (some n) st'
theorem zg {n m:Nat}{Q:Option Nat->SO->Prop}(c:xf κ k0 prog w A s)(ks:KeysOf κ o)(b:SrtB k0 o st)(hm:m<=o.size)(h1:1<=n)(h2:n<=m)(dn:Vr κ (arrOf st) n)(q:EJ κ k0 o m Q) :
  wpS (model prog w) A E s (tail3 n m) Q st:=by
 unfold tail3;refine PJ (tH b λst' b' e=>PJ (Hm c ks b' hm h1 h2 (λi j le lt=> ?_) λk l1 l2 so _=>QB (q k st' b' (by omega) l2 so)))
 have hz:n<=(arrOf st).size:=by rw[b.len];omega
 rw[e,KK_mirror hz,KK_mirror hz,if_pos ⟨Pj _,by omega⟩,if_pos ⟨Pj _,by omega⟩]
 exact dn _ _ (by omega) (by omega)
theorem tZ {k i:Nat}(g1:k - 1<=i)(g2:i<k):i=k - 1:=UJ (SZ g2) g1
theorem K4 {n m:Nat}{Q:DescSt->SO->Prop}(c:xf κ k0 prog w A s)(ks:KeysOf κ o)(b:SrtB k0 o st)(hm:m<=o.size)(h1:1<=n)(h2:n<=m)(dn:Vr κ (arrOf st) n)
  (q:∀k r st',SrtB k0 o st'->n<=k->k<=m->Vr κ (arrOf st') k->r+1<=k->(∀i,k - (r+1)<=i->i<k->gk κ st' i=gk κ st' (k - 1))->Q (none,k,r) st'):wpS (model prog w) A E s (descLoop n m) Q st:=by
 unfold descLoop
 refine SS (I:=λk c st'=> ∃r,c=(none,k,r)/\SrtB k0 o st'/\Vr κ (arrOf st') k/\r+1<=k/\∀i,k - (r+1)<=i->i<k->gk κ st' i=gk κ st' (k - 1)) (λk r st' l1 l2 hI=> ?_) (λr st' hI=> ?_)
  ⟨0,rfl,b,dn,h1,λi g1 g2=>by rw[tZ g1 g2]⟩
 ·obtain⟨r,rfl,b',d',hr,eq⟩:=hI
  dsimp only
  have kk:=Os l2 hm
  have kp:k - 1<o.size:=RC (V9 _ _) kk
  have hz:k<=(arrOf st').size:=by rw[b'.len];exact Qb kk
  refine PJ (vB c ks b' kk kp ?_)
  cases z:κ.blt (gk κ st' k) (gk κ st' (k - 1))with
  | true=>
   have d2:=oJ d' (TR z)
   show wpS _ _ _ _ (if r > 0 then _ else _) _ _
   by_cases hr0:r > 0
   ·rw[if_pos hr0]
    refine PJ (tH b' λst2 b2 e2=>QB ⟨0,rfl,b2,λi j le lt=> ?_,Uj (Pj _),λi g1 g2=>by rw[tZ g1 g2]⟩)
    rw[e2,QZ hz eq,QZ hz eq];exact d2 i j le lt
   ·rw[if_neg hr0]
    exact QB ⟨0,rfl,b',d2,Uj (Pj _),λi g1 g2=>by rw[tZ g1 g2]⟩
  | false=>
   refine PJ (vB c ks b' kp kk ?_)
   cases y:κ.blt (gk κ st' (k - 1)) (gk κ st' k)with
   | true=>exact QB (q k r st' b' l1 (Qb l2) d' hr eq)
   | false=>
    refine QB ⟨r+1,rfl,b',oJ d' y,Uj hr,λi g1 g2=> ?_⟩
    have e:gk κ st' k=gk κ st' (k - 1):=Vk y z;rw[VC];rcases Rl i k with g3 | g3
    ·rw[e];exact eq i (by rw[Nat.add_sub_add_right]at g1;exact g1) g3
    ·rw[UJ (TU g2) g3]
 ·obtain⟨r,rfl,b',d',hr,eq⟩:=hI
  have e:max n m=m:=SV h2;rw[e]at d' hr eq ⊢;exact q m r st' b' h2 (Ot _) d' hr eq
theorem zh {n m:Nat}{Q:Option Nat->SO->Prop}(c:xf κ k0 prog w A s)(ks:KeysOf κ o)(b:SrtB k0 o st)(hm:m<=o.size)(h2:n+1<=m)(dn:Vr κ (arrOf st) (n+1))(q:EJ κ k0 o m Q) :
  wpS (model prog w) A E s (descPart n m) Q st:=by
 unfold descPart;refine PJ (wpS_lift (SC ⟨rfl,PJ (K4 c ks b hm (by omega) h2 dn λk r st' b' l1 l2 d' hr eq=> ?_)⟩))
 dsimp only
 have hz:k<=(arrOf st').size:=by rw[b'.len];omega
 by_cases hr0:r > 0
 ·rw[if_pos hr0]
  refine PJ (tH b' λst2 b2 e2=>zg c ks b2 hm (by omega) l2 (λi j le lt=> ?_) q)
  rw[e2,QZ hz eq,QZ hz eq];exact d' i j le lt
 ·rw[if_neg hr0]
  exact zg c ks b' hm (by omega) l2 d' q
theorem Ir {m:Nat}{Q:Option Nat->SO->Prop}(c:xf κ k0 prog w A s)(ks:KeysOf κ o)(b:SrtB k0 o st)(hm:m<=o.size)(h1:1<=m)(q:EJ κ k0 o m Q):wpS (model prog w) A E s (countRun' 0 m) Q st:=by
 rw[countRun0_eq];refine PJ (Hm c ks b hm (Ot 1) h1 (BR (Ot 1)) λn l1 l2 so lt=> ?_)
 dsimp only
 by_cases e:n=m
 ·rw[if_pos (beq_iff_eq.mpr e)]
  exact QB (q n st b l1 l2 so)
 rw[if_neg (λz=>e (beq_iff_eq.mp z))]
 have fall:=TR (lt e)
 by_cases g:n > 1
 ·rw[if_pos g]
  refine PJ (vB c ks b (by omega) (by omega) ?_)
  cases z:κ.blt (gk κ st 0) (gk κ st (n - 1))with
  | true=>exact QB (q n st b l1 l2 so)
  | false=>
   have all:∀k,0<=k->k<n->gk κ st k=gk κ st (n - 1):=λk _ hk=>
    Vk (so k (n - 1) (by omega) (by omega)) (SU (show κ.kle (gk κ st (n - 1)) (gk κ st 0)from z) (so 0 k (by omega) hk))
   have hz:n<=(arrOf st).size:=by rw[b.len];omega
   refine PJ (tH b λst2 b2 e2=>zh c ks b2 hm (by omega) (oJ (λi j le lt=> ?_) ?_) q)
   ·rw[e2,QZ hz all,QZ hz all]
    show κ.kle (gk κ st j) (gk κ st i)
    rw[all i (Pj _) (by omega),all j (Pj _) (by omega)]
    exact RH _
   ·rw[e2,QZ hz all,QZ hz all]
    exact fall
 ·rw[if_neg g]
  exact zh c ks b hm (by omega) (oJ (Kn (by omega)) fall) q
theorem JJ {l u:Nat}(h:l<u):l<=(l+u) / 2/\(l+u) / 2<u:=⟨by omega,by omega⟩
theorem J9 {xs:Array Xu}{k l:Nat}(hk:k<xs.size)(lk:l<=k)(so:Qr κ xs k)(lo:∀i,i<l->κ.kle (KK κ xs i) (KK κ xs k))(hi:∀i,l<=i->i<k->κ.klt (KK κ xs k) (KK κ xs i)):Qr κ (bubble xs k (k - l)) (k+1):=λi j le lt=>by
 rw[KK_bubble hk (V9 _ _),KK_bubble hk (V9 _ _),Nat.sub_sub_self lk]
 have lt:=TU lt;rcases Wa i l with i1 | i1 | i1
 ·rw[if_neg (O7 i1),if_neg λz=>Nat.lt_asymm z.1 i1]
  rcases Wa j l with j1 | j1 | j1
  ·rw[if_neg (O7 j1),if_neg λz=>Nat.lt_asymm z.1 j1];exact so _ _ le (Os j1 lk)
  ·rw[if_pos j1];exact lo i i1
  ·rw[if_neg (QF j1),if_pos ⟨j1,lt⟩];exact so _ _ (SZ (UC i1 j1)) (Os (S0 j1) lt)
 ·rw[if_pos i1]
  rcases Nat.lt_or_eq_of_le (i1▸le:l<=j)with j1 | j1
  ·rw[if_neg (QF j1),if_pos ⟨j1,lt⟩];exact TR (hi _ (SZ j1) (Os (S0 j1) lt))
  ·rw[if_pos j1.symm];exact RH _
 ·have j1:=Os i1 le
  rw[if_neg (QF i1),if_pos ⟨i1,OI le lt⟩,if_neg (QF j1),if_pos ⟨j1,lt⟩];exact so _ _ (Nat.sub_le_sub_right le 1) (Os (S0 j1) lt)
theorem Iu {n a:Nat}{Q:Bool->SO->Prop}(c:xf κ k0 prog w A s)(ks:KeysOf κ o)(b:SrtB k0 o st)(h1:1<=n)(hn:n<=o.size)(ha:a<=n)(so:Qr κ (arrOf st) a)
  (q:∀st',SrtB k0 o st'->Qr κ (arrOf st') n->Q true st'):wpS (model prog w) A E s (binarySort' 0 n a) Q st:=by
 rw[binarySort'_eq];simp only[R9];refine PJ (SS (I:=λk r st'=>r=(none,())/\SrtB k0 o st'/\Qr κ (arrOf st') k) (λk r st1 l1 l2 hI=> ?_) (λr st1 hI=> ?_) ⟨rfl,b,?_⟩)
 ·obtain⟨rfl,b1,so1⟩:=hI
  have hk:k<o.size:=Os l2 hn
  refine PJ (wpS_mono (SS (I:=λx r st2=>st2=st1/\∃l u,r=(none,l,u)/\l<=u/\u<=k/\u<=k+l - x/\(∀i,i<l->κ.kle (gk κ st1 i) (gk κ st1 k))/\∀i,u<=i->i<k->κ.klt (gk κ st1 k) (gk κ st1 i))
   (Q:=λr st2=>st2=st1/\∃l u,r=(none,l,u)/\l<=k/\(∀i,i<l->κ.kle (gk κ st1 i) (gk κ st1 k))/\∀i,l<=i->i<k->κ.klt (gk κ st1 k) (gk κ st1 i)) (λx r st2 y1 y2 hJ=> ?stp) (λr st2 hJ=> ?fin) ⟨rfl,0,k,rfl,Pj _,Ot _,Ot _,λi hi=>absurd hi (W8 _),λi g1 g2=>absurd g2 (Nat.not_lt.mpr g1)⟩) λr st2 hJ=> ?pst)
  case stp=>
   obtain⟨rfl,l,u,rfl,lu,uk,mz,lo,hi⟩:=hJ
   dsimp only
   by_cases g:l ≥ u
   ·rw[if_pos g]
    exact QB ⟨rfl,l,u,rfl,OI lu uk,lo,λi g1 g2=>hi i (OI g g1) g2⟩
   ·rw[if_neg g]
    have hm:=JJ (Nat.lt_of_not_le g)
    generalize (l+u) / 2=m at hm ⊢
    have mk:m<k:=Os hm.2 uk;refine PJ (vB c ks b1 hk (UC mk hk) ?_)
    have am:u<=k+(m+1) - (x+1)/\m<=k+l - (x+1):=by
     clear lo hi so so1 q ks c b b1 hn ha h1
     omega
    cases z:κ.blt (gk κ st2 k) (gk κ st2 m)with
    | true=>exact QB ⟨rfl,l,m,rfl,hm.1,Qb mk,am.2,lo,λi g1 g2=>KeyOrd.klt_of_klt_of_kle z (so1 _ i g1 g2)⟩
    | false=>exact QB ⟨rfl,m+1,u,rfl,hm.2,uk,am.1,λi g1=>SU (so1 i m (TU g1) mk) z,hi⟩
  case fin=>
   obtain⟨rfl,l,u,rfl,lu,uk,mz,lo,hi⟩:=hJ
   have e:u<=l:=by
    clear lo hi so so1 q ks c b b1 hn ha h1
    omega
   exact⟨rfl,l,u,rfl,OI lu uk,lo,λi g1 g2=>hi i (OI e g1) g2⟩
  case pst=>
   obtain⟨rfl,l,u,rfl,lk,lo,hi⟩:=hJ
   dsimp only
   rw[moveDown'_eq];exact PJ (Wn (QB ⟨rfl,b1.arr (bubble_perm _ _ _),J9 (by rw[b1.len];exact hk) lk so1 lo hi⟩))
 ·obtain⟨rfl,b1,so1⟩:=hI
  rw[SV (Nat.max_le.mpr ⟨ha,h1⟩)]at so1;exact QB (q st1 b1 so1)
 ·rcases Nat.le_total a 1 with g | g
  ·rw[SV g];exact BR (Ot 1)
  ·rw[Nat.max_eq_left g];exact so
theorem Iv {Q:Unit->SO->Prop}(c:xf κ k0 prog w A s)(ks:KeysOf κ o)(b:SrtB k0 o st)(h2:2<=o.size)(h64:o.size<64)
  (q:∀st',(arrOf st').Perm o->S6 st'=none->Qr κ (arrOf st') o.size->Q () st'):wpS (model prog w) A E s sortRuns' Q st:=by
 rw[sortRuns'_eq];refine PJ (Xn ?_)
 dsimp only
 have hmr:minRun' o.size o.size 0=o.size:=by
  cases hz:o.size with
  | zero=>omega
  | succ f=>rw[minRun'_succ,if_pos (by omega)]
 simp only[b.len,hmr]
 refine PJ (wpS_mono (SS (I:=λx r st1=>(x=0/\r=(none,0)/\SrtB k0 o st1)\/(x≠0/\r=(none,o.size)/\(arrOf st1).Perm o/\S6 st1=none/\(RZ st1).size=1/\Qr κ (arrOf st1) o.size))
  (Q:=λr st1=>r=(none,o.size)/\(arrOf st1).Perm o/\S6 st1=none/\(RZ st1).size=1/\Qr κ (arrOf st1) o.size) (λx r st1 l1 l2 hI=> ?stp) (λr st1 hI=> ?fin) (.inl ⟨rfl,rfl,b⟩)) λr st1 hI=> ?pst)
 case stp=>
  rcases hI with⟨rfl,rfl,b1⟩ | ⟨_,rfl,hI⟩
  ·dsimp only
   rw[if_neg (by omega)]
   simp only[SK,Wt,R9];refine PJ (Ir c ks b1 (Ot _) (by omega) λn st2 b2 n1 n2 so2=> ?_)
   dsimp only
   have fin:∀st3,SrtB k0 o st3->Qr κ (arrOf st3) o.size->(arrOf (Wo st3 ((RZ st3).push (0,o.size,0)))).Perm o/\S6 (Wo st3 ((RZ st3).push (0,o.size,0)))=none ∧
     (RZ (Wo st3 ((RZ st3).push (0,o.size,0)))).size=1/\Qr κ (arrOf (Wo st3 ((RZ st3).push (0,o.size,0)))) o.size:=λst3 b3 so3=>⟨b3.p,b3.f,by
    show((RZ st3).push _).size=1
    rw[b3.e];rfl,so3⟩
   by_cases g:n<o.size
   ·rw[if_pos g]
    refine PJ (wpS_lift (SC ⟨rfl,PJ (Iu c ks b2 (Sy h2) (Ot _) n2 so2 λst3 b3 so3=> ?_)⟩))
    simp only[Bool.not_true,Qe,if_false];refine PJ (Xn ?_)
    rw[show(RZ st3).back?=none by rw[b3.e];rfl]
    exact PJ (Wn (QB (.inr ⟨by omega,rfl,fin st3 b3 so3⟩)))
   ·rw[if_neg g]
    obtain rfl:n=o.size:=by omega
    refine PJ (Xn ?_)
    rw[show(RZ st2).back?=none by rw[b2.e];rfl]
    exact PJ (Wn (QB (.inr ⟨by omega,rfl,fin st2 b2 so2⟩)))
  ·dsimp only
   rw[if_pos (Ot _)];exact QB ⟨rfl,hI⟩
 case fin=>
  rcases hI with⟨h,_,_⟩ | ⟨_,hI⟩
  ·omega
  ·exact hI
 case pst=>
  obtain⟨rfl,hp,hf,he,hs⟩:=hI
  dsimp only
  refine PJ (wpS_mono (SS (I:=λ_ r st2=>st2=st1/\r=(none,())) (Q:=λr st2=>st2=st1/\r=(none,())) (λx r st2 _ _ hJ=> ?stp) (λ_ _ h=>h) ⟨rfl,rfl⟩) λr st2 hJ=> ?pst)
  case stp=>
   obtain⟨rfl,rfl⟩:=hJ;refine PJ (Xn ?_)
   rw[if_pos (R8 he)];exact QB ⟨rfl,rfl⟩
  case pst=>
   obtain⟨rfl,rfl⟩:=hJ;exact QB (q _ hp hf hs)
end
section
variable {X:Cx}
theorem kl:∀{m:List T} {ns:List Int},gj m=some ns->m=ns.map .int
 | [],ns,h=>by cases h;rfl
 | t::m,ns,h=>by
  cases t with
  | int i=>
   unfold gj at h;obtain⟨k,h1,rfl⟩:=Qq.mp h
   rw[kl h1];rfl
  | _=>cases h
end
variable (R:RK)
variable {R:RK}
theorem RK.key_of {h:Heap}{v:Oa}{ns:List Int}(r:R.V h v ns):R.key h v=some ns:=by
 unfold RK.key
 have e:∃ns,R.V h v ns:=⟨ns,r⟩;rw[dif_pos e,R.inj e.choose_spec r]
theorem RK.Nz {h:Heap}{v:Oa}{ns:List Int}(e:R.key h v=some ns):R.V h v ns:=by
 unfold RK.key at e
 split at e
 ·rename_i g
  cases e;exact g.choose_spec
 ·cases e
def RK.kind (R:RK)(h:Heap):PyProof.Rows.KeyKind:={ α:=List Int,blt:=cO,irrefl:=iV,trans:=l5,negTrans:=qk,total:=jP,keyOf:=R.key h,dflt:=[] }
def RK.row (R:RK)(h:Heap)(v:Oa):List Int:=(R.key h v).getD []
theorem RK.NK {h:Heap}{v:Oa}{ns:List Int}(r:R.V h v ns):R.row h v=ns:=by unfold RK.row;rw[RK.key_of r];rfl
section
variable {prog:OH}{w:Px}{A:OV}{E:Oa->Od->Prop}{s:Od}
theorem Kb (v:Oa):firstOfTuple' v=(typeOf v >>= λt=>if t != .type "tuple" then pure none else Builtin.List.listItems v >>= λxs=>pure xs[0]?):=rfl
theorem Ac:∀{vs:List Oa} {Q:List (Option Oa)->Od->Prop},(∀v∈vs,∃ns,R.V s.heap v ns)->(∀us ns,Qp us ns->us.length=vs.length->Q (us.map some) s)->wpAny (model prog w) A (vs.mapM firstOfTuple') Q E s
 | [],Q,_,q=>by
  rw[List.mapM_nil]
  exact Ol (q [] [] .nil rfl)
 | v::vs,Q,h,q=>by
  rw[List.mapM_cons,Kb];obtain⟨ns,r⟩:=h _ Oe;obtain⟨a,its,n,o,m,t,rfl,e,hc,d,e0⟩:=R.fst r;refine N7 (N7 (Sd (T:="tuple") ⟨o,e,hc⟩ ?_))
  rw[if_neg (by decide+kernel)]
  refine N7 (WC e d (Ol ?_))
  rw[e0];exact N7 (Ac (λv hv=>h v (N8 _ hv)) λus ns j hl=>Ol (q (.int m t::us) (m::ns) (.cons m t j) (by rw[Oj,Oj,hl])))
theorem kk3 {vs:List Oa}{Q:U1->Od->Prop}(hv:∀v∈vs,∃ns,R.V s.heap v ns)(ne:vs≠ [])(q:Q (tuples' true) s):wpAny (model prog w) A (keyKind' vs.toArray) Q E s:=by
 rw[keyKind'_eq,Wb];refine N7 ?_
 rw[map_eq_pure_bind];refine N7 (Ac hv λus ns i hl=>Ol ?_)
 rw[if_pos (by simp)]
 refine N7 (SC ?_)
 have ef:(us.map some).toArray.filterMap id=us.toArray:=by simp
 rw[ef,oneTypeOnly'_eq,Wb,mapM_typeOf_ints i]
 cases i with
 | nil=>exact absurd (List.length_eq_zero_iff.mp hl.symm) ne
 | @cons m t us' ns' i'=>
  simp only[map_pure,pure_bind]
  have hall:((VD (λ_=>Rx "int") (Qd m t::us')).toArray.all λx=>x == Rx "int")=true:=by
   simp only[List.all_toArray,Ws,OG];intro _ _;rfl
  rw[show(VD (λ_=>Rx "int") (Qd m t::us')).toArray[0]? =some (Rx "int")by simp]
  simp only[hall,if_true,pure_bind];exact Ol q
theorem out3 {h:Heap}{o xs:Array Xu}(hp:xs.Perm o)(hs:Qr (R.kind h) xs o.size):xs.toList.Perm o.toList/\(xs.toList.map λp=>R.row h p.1).Pairwise (λa b=>nM a b=true):=by
 refine⟨To.mp hp,?_⟩
 rw[RV];intro i j hi hj hij
 have hi':i<xs.size:=by simpa using hi
 have hj':j<xs.size:=by simpa using hj
 have z:cO (KK (R.kind h) xs j) (KK (R.kind h) xs i)=false:=hs i j (Qb hij) (by rw[<-hp.size_eq];exact hj')
 have g:∀k (hk:k<xs.size),KK (R.kind h) xs k=R.row h xs[k].1:=λk hk=>by unfold KK;rw[getElem?_pos xs k hk];rfl
 rw[g i hi',g j hj']at z;simp only[Rv,Array.getElem_toList];unfold nM;rw[z];rfl
theorem run3 {ks vs:List Oa}{Q:SO->Od->Prop}(hu:A.units+60<cLine)(hl:ks.length=vs.length)(hk:∀v∈ks,∃ns,R.V s.heap v ns)(h2:2<=vs.length)(h64:vs.length<64)
  (q:∀st',S6 st'=none->(arrOf st').toList.Perm (ks.zip vs)->((arrOf st').toList.map λp=>R.row s.heap p.1).Pairwise (λa b=>nM a b=true)->Q st' s) :
  wpAny (model prog w) A ((sortRuns').run (SortSt.mk' (tuples' true) (ks.toArray.zip vs.toArray) #[] 7 none)) (λr s'=>Q r.2 s') E s:=by
 have hz:(ks.toArray.zip vs.toArray).size=vs.length:=by simp[hl]
 have hz2:(ks.toArray.zip vs.toArray).toList=ks.zip vs:=by simp
 have kso:PyProof.Rows.KeysOf (R.kind s.heap) (ks.toArray.zip vs.toArray):=λp hp=>by
  rw[hz2]at hp;obtain⟨ns,r⟩:=hk p.1 (Rh hp).1;exact⟨ns,RK.key_of r⟩
 refine Qo (Iv (κ:=R.kind s.heap) (k0:=tuples' true) (o:=ks.toArray.zip vs.toArray) (st:=SortSt.mk' (tuples' true) (ks.toArray.zip vs.toArray) #[] 7 none)
  (Q:=λ_ st'=>(arrOf st').Perm (ks.toArray.zip vs.toArray)/\S6 st'=none/\Qr (R.kind s.heap) (arrOf st') (ks.toArray.zip vs.toArray).size) (λE x y a b Q hx hy q=>R.lt hu (RK.Nz hx) (RK.Nz hy) q) kso ⟨Array.Perm.refl _,rfl,rfl,rfl⟩
  (by rw[hz];omega) (by rw[hz];exact h64) λst' a1 a2 a3=>⟨a1,a2,a3⟩) ?_ λ_ _ e=>e
 rintro ⟨⟨⟩,st'⟩ s' ⟨rfl,hp,hf,hs⟩
 obtain⟨g1,g2⟩:=out3 hp hs;exact q st' hf (by rw[<-hz2];exact g1) g2
end
end Tr
namespace L2
open PySem PySem.Spec PyProof.Rows
theorem wR {n b:Nat}:b∈ [n+4,n,n+1,n+2,n+3] ↔n<=b/\b<n+5:=by
 simp only[Og,Pd,or_false];omega
end L2
namespace Tr
open PySem PySem.Spec PyProof.Rows L2
def Wk (K:N6)(O:Ow)(H1:Hp)(l:List T)(v:V):Prop:=∃(aa:Addr) (tt:Bool) (ws:List V),v= .ref aa/\¬ O aa/\Reps K O H1 l ws/\EN K H1 aa tt ws/\(∀P Hc,SameO P H1 Hc->¬ P aa->EN K Hc aa tt ws)/\¬ Nw K H1 aa
end Tr
namespace Tr
open PySem
def c0 (g:List T->Rs T)(_:En):Rs T:=match g []with
 | .ok t=> .ok t
 | _=> .bad
end Tr
namespace Tr
open PySem PySem.Spec PyProof.Rows L2
section
variable {X:Cx}{a b:Expr}{pos p2 p3:Pos}{x:Str}
theorem q_c0 {k:Nat}{f:Addr}{fd:PV}{ps:List Str}{g:List T->Rs T}{p:Pos}(F:BK X.prog X.w X.K X.mg X.base k f fd ps 0 g)(hr:Room k X.A)(hm:X.mg x=some (.ref f))(hk:Qw X.K (.ref f)=true)(hb:Binds X.K fd ps [])
  (hg:Gl X x:=by rfl) (hdb:autoParam ((x == ("__debug__" : Str))=false) s_):c8 X (.Call (.Name x p) [] [] pos) (c0 g):=by
 intro pins s σ H Q I ⟨Z,O,E,hq⟩;unfold c0 at hq
 cases q2:g []with
 | bad=>rw[q2]at hq;exact hq.elim
 | err c=>rw[q2]at hq;exact hq.elim
 | ok t=>
  rw[q2]at hq;refine CS (E:=E0) F.h hr hg hm hk hb .nil zC hdb pins s σ H Q I ?_
  refine⟨[],O,Reps.GM,E.mtb,rfl,?_⟩
  rw[q2];exact λv H' s2 r=>hq H' s2 v r
end
end Tr
namespace L2
open PySem PySem.Spec PyProof.Rows
theorem nE (a b:Int):Rn a b (-1)=if a > b then a - b else 0:=by
 unfold Rn;simp only[show ¬((-1:Int) > 0)by decide,if_false,W6,UB]
 split <;> omega
theorem Fj {a b:Int}(ha : -(2 ^ 62)<=a)(ha':a<2 ^ 62)(hb : -(2 ^ 62)<=b)(hb':b<2 ^ 62):Ve a b (-1)=true:=by
 unfold Ve;rw[nE];simp only[Builtin.Range.rangeFitsLong,N9,Tc,decide_eq_true_eq,beq_iff_eq,show ¬((-1:Int) > 0)by decide,if_false]
 split <;> omega
def Itm (lo:Int)(n:Nat):It:=⟨λi _=>i<n,λi H x H'=>H'=H/\x= .int (lo - i),λi _=>n<=i⟩
theorem vg {P:OH}{w:Px}{K:N6}{tg:Expr}(it:Addr)(lo:Int)(n:Nat):Bz P w K tg (Itm lo n) [it] it (λi h=>Vo h it (lo+(i:Nat)*(-1)) ((n:Int) - (i:Nat)) (-1)) where
 mem:=by simp
 obj:=λi h st b hb=>by
  have e:b=it:=by simpa using hb
  subst e
  exact⟨_,st,λv z=>by
   have z':W1 _=Data.cell v:=z;cases z'⟩
 keep:=λi h h' st k=>k it (by simp) _ st
 item:=by
  intro X hP hw hK hc i pins s σ H E I hf st hg;subst hP hw hK;obtain⟨f0,f1,f2,f3,f4,f5⟩:=hf it (by simp)
  have W:=Walks.range (prog:=X.prog) (w:=X.w) (I.ok.hd hc) it lo (-1) n;refine W.item i s _ _ hg st λv h' tk hv st' kk=> ?_
  obtain⟨t,rfl⟩:=hv
  have I1:Inv X pins σ H { s with heap:=h',toks:=tk }:=I.turned (λb o hb e=>kk b o (by simpa using hb) e) f0 f1 f3 f4 f5
  refine⟨_,rfl,Ab (s:={ s with heap:=h',toks:=tk }) (n:="range_iterator") st' rfl rfl (by decide) ⟨.int (lo - i),H,I1,⟨t,?_⟩,⟨rfl,rfl⟩,st',λb hb=>(hf b hb).1⟩⟩
  congr 1
  omega
 done:=by
  intro X hP hw hK hc i pins s σ H E I hf st hg;subst hP hw hK;obtain⟨f0,f1,f2,f3,f4,f5⟩:=hf it (by simp)
  exact Ut (I.ok.hd hc) st (by have:n<=i:=hg;omega) λh' eb=>⟨rfl,I.turned (t':=s.toks) (λb o hb e=>eb b o hb e) f0 f1 f3 f4 f5⟩
 self:=λ_ _ _ _ _ st h=>Uu st h
section
variable {X:Cx}{tg:Expr}
theorem AH {pins:List (Addr×Obj)}{σ:St}{H:Hp}{s:Od}{R:It->Hp->Prop}{E:Oa->Od->Prop}{lo hi:Int}{t u v:Tok}{tk:Nat}(I:Inv X pins σ H s)(h1 : -(2 ^ 62)<=lo)(h2:lo<2 ^ 62)(h3 : -(2 ^ 62)<=hi)(h4:hi<2 ^ 62)
  (q:R (Itm lo (lo - hi).toNat) H):wpAny (model X.prog X.w) X.A (pyIter (.ref s.heap.objs.size)) (MX X pins σ tg R) E { s with heap:=s.heap.push { cls:=.type "range",data:=.fields #[.int lo t,.int hi u,.int (-1) v] },toks:=tk }:=by
 refine VO (W2 ..) (Fj h1 h2 h3 h4) ?_
 have I1:Inv X pins σ H { s with heap:=s.heap.push { cls:=.type "range",data:=.fields #[.int lo t,.int hi u,.int (-1) v] },toks:=tk }:=I.kept λb o e=>Oh _ e
 refine⟨(s.heap.push { cls:=.type "range",data:=.fields #[.int lo t,.int hi u,.int (-1) v] }).objs.size,[(s.heap.push { cls:=.type "range",data:=.fields #[.int lo t,.int hi u,.int (-1) v] }).objs.size],_,_,H,rfl,
  I1.kept (t':=tk) λb o e=>Oh _ e,vg _ lo (lo - hi).toNat,?_,λb hb=> ?_,q⟩
 ·have e1:lo+((0:Nat):Int)*(-1)=lo:=by simp
  have e2:(((lo - hi).toNat:Nat):Int) - ((0:Nat):Int)=Rn lo hi (-1):=by rw[nE];split <;> omega
  show Vo _ _ (lo+((0:Nat):Int)*(-1)) ((((lo - hi).toNat:Nat):Int) - ((0:Nat):Int)) (-1)
  rw[e1,e2];exact Oz _ rfl
 ·have e:b=(s.heap.push { cls:=.type "range",data:=.fields #[.int lo t,.int hi u,.int (-1) v] }).objs.size:=by simpa using hb
  subst e;exact I1.Ni (Ot _) (I1.hok.fresh (Ot _))
end
end L2
namespace Tr
open PySem PySem.Spec PyProof.Rows L2
section
variable {X:Cx}{a b c:Expr}{fs:En->Rs (List T)}{p pos:Pos}
theorem Md {K:N6}{O:Ow}{H:Hp}(lo:Int)(n:Nat):MJ K O H ((On n).map λ(k:Nat)=>T.int (lo - (k:Int))) (Itm lo n):=λP O' hP hO i Hc hs ht=>by
 refine⟨λh=> ?_,λt h=> ?_⟩
 ·show n<=i
  rw[Ob,OU]at h;exact h
 ·rw[Ov]at h
  by_cases hi':i<n
  ·rw[Qs hi']at h
   cases h;refine⟨hi',λx Hc' y=> ?_⟩
   obtain⟨e,y⟩:=y;subst e y;exact⟨Same.refl _,Rep.GE _⟩
  ·rw[PP (by simpa using hi')]at h
   cases h
theorem AI {tg:Expr}(hm:X.mg "range" =none)(ha:qS X [a,b,c] fs)(hg:Gl X "range":=by rfl)(hn:bj [a,b,c] =true:=by rfl):BB X tg (.Call (.Name "range" p) [a,b,c] [] pos) (Mh fs):=by
 unfold bj at hn;rw[N9]at hn;intro pins s σ H R I ⟨Z,O,E,h⟩
 have h1:=eF E h;refine Call_ (fg I hg hm boot_range (Pa (cL (ha pos pins s σ H _ I h1) λus s1 ⟨vs,H1,I1,r1,ts,rs,s',E',q1⟩=> ?_) (bo hn.1) (gh hn.2)))
 split at q1
 ·rename_i i j
  by_cases hj:(mf i&&mf j)=true
  ·rw[if_pos hj]at q1
   rw[N9]at hj;obtain⟨b1,b2⟩:=fE hj.1;obtain⟨b3,b4⟩:=fE hj.2;obtain⟨v,ws,rfl,p1,q⟩:=Reps.me.mp rs;obtain⟨v2,ws2,rfl,p2,q2⟩:=Reps.me.mp q;obtain⟨v3,rfl,p3⟩:=q2.one;cases Rep.AC.mp p1;cases Rep.AC.mp p2;cases Rep.AC.mp p3
   cases r1 with
   | cons r rr=>
    cases rr with
    | cons r' rr=>
     cases rr with
     | cons r'' rr=>
      cases rr;obtain⟨t,rfl⟩:=r;obtain⟨t',rfl⟩:=r';obtain⟨t'',rfl⟩:=r'';refine call_range_3 (by decide) (AH I1 b1 b2 b3 b4 (q1 H1 (Same.refl H1) _ (Md i _))) (TM (Ur ?_))
      omega
  ·rw[if_neg hj]at q1;exact q1.elim
 ·exact q1.elim
end
end Tr
namespace PySem
open Sem (wp)
open L2 (itAt)
structure PW (prog:OH)(w:Px)(A:OV)(I:Addr)(T:String)(fp wr:List Addr)(n:Nat)(R:Nat->Oa->Oa->Prop)(St:Nat->Option Addr->Heap->Prop):Prop where
 sub:∀b∈wr,b∈fp
 ty:∀i o (s:Od),St i o s.heap->s.TypeIs (.ref I) T
 frame:∀i o h h',St i o h->(∀b∈fp,∀ob,h.get? b=some ob->h'.get? b=some ob)->St i o h'
 item:∀i o (s:Od) (Q:Option Oa->Od->Prop) (E:Oa->Od->Prop),i<n->St i o s.heap->(∀t,o=some t->∃ob,s.heap.get? t=some ob) →
  (∀p h' tk x y,R i x y->s.heap.objs.size<=p->IsPair h' p x y->St (i+1) (some (o.getD p)) h'->(∀b ob,b∉wr->s.heap.get? b=some ob->h'.get? b=some ob)->Q (some (.ref p)) { s with heap:=h',toks:=tk })->wpAny (model prog w) A (pyNext (.ref I)) Q E s
 done:∀o (s:Od) (Q:Option Oa->Od->Prop) (E:Oa->Od->Prop),St n o s.heap->(∀t,o=some t->∃ob,s.heap.get? t=some ob)->(∀h' tk,(∀b ob,b∉wr->s.heap.get? b=some ob->h'.get? b=some ob)->Q none { s with heap:=h',toks:=tk })->wpAny (model prog w) A (pyNext (.ref I)) Q E s
 self:∀i o (s:Od) (Q:Oa->Od->Prop) (E:Oa->Od->Prop),St i o s.heap->Q (.ref I) s->wpAny (model prog w) A (pyIter (.ref I)) Q E s
end PySem
namespace Tr
open PySem PySem.Spec PyProof.Rows L2
def bkV:Oa->V
 | .int n _=> .int n
 | .ref a=> .ref a
 | _=> .non
section
variable {X:Cx}{a b:Expr}{fs:En->Rs (List T)}{p p1 p2 pos:Pos}
theorem rR:∀{m:List T} {ns:List Int},gj m=some ns->m=ns.map .int
 | [],ns,h=>by cases h;rfl
 | t::m,ns,h=>by
  cases t with
  | int i=>
   unfold gj at h;obtain⟨k,h1,rfl⟩:=Qq.mp h
   rw[rR h1];rfl
  | _=>cases h
end
structure QE (X:Cx)(e:Expr)(f:En->Rs T):Prop where
 h:c8 X e f
structure QA (X:Cx)(e:List Expr)(f:En->Rs (List T)):Prop where
 h:qS X e f
structure QT (X:Cx)(e:Expr)(f:En->Rs Bool):Prop where
 h:xw X e f
structure QW (X:Cx)(e:Expr)(f:En->Rs Bool):Prop where
 h:HW X e f
structure QS (X:Cx)(e:Stmt)(f:En->Rs Fl):Prop where
 h:qP X e f
structure BA (X:Cx)(e:List Stmt)(f:En->Rs Fl):Prop where
 h:nt X e f
structure QG (X:Cx)(e:Expr)(f:T->En->Rs En):Prop where
 h:EO X e f
structure MV (X:Cx)(e:List Expr)(f:List T->En->Rs En):Prop where
 h:EK X e f
structure QI (X:Cx)(t e:Expr)(f:En->Rs (List T)):Prop where
 h:BB X t e f
structure QO (X:Cx)(e:Option Expr)(f:En->Rs (Option Int)):Prop where
 h:MF X e f
structure ME (X:Cx)(e:List Expr)(f:En->Rs Bool):Prop where
 h:BJ X e (BZ X f)
theorem af {X:Cx}(i:Nat){x:Str}{pos:Pos}(hN:(Cx.N X)[i]? =some x:=by rfl)(hv:autoParam (uY (Q7 (Cx.env X)) x) u_)(hd:autoParam ((x == Oo "__debug__")=false) s_)(hcd:autoParam ((x == Oo "__classdict__")=false) s_):QE X (O6 x pos) (vr i):=
 ⟨Cu (i:=i) (hN:=hN) (hv:=hv) (hd:=hd) (hcd:=hcd)⟩
theorem ai {X:Cx}{i:Int}{j:Nat}{pos:Pos}:QE X (S4 (Const.int i) j pos) (cn (T.int i)):=
 ⟨Lu ⟩
theorem iM {X:Cx}{i:Bool}{j:Nat}{pos:Pos}:QE X (S4 (Const.bool i) j pos) (cn (T.bl i)):=
 ⟨q_bl ⟩
theorem bQ {X:Cx}{j:Nat}{pos:Pos}:QE X (S4 Const.none j pos) (cn T.non):=
 ⟨Lq ⟩
theorem sT {X:Cx}{i:Str}{j:Nat}{pos:Pos}:QE X (S4 (Const.str i) j pos) (cn (T.str i)):=
 ⟨Lk ⟩
theorem EW {X:Cx}{x:Str}{i:Int}{u:Oa}{pos:Pos}(hm:Cx.mg X x=some u)(r:L2.RelV (V.int i) u)(hg:Gl X x:=by rfl)(hd:autoParam ((x == Oo "__debug__")=false) s_):QE X (O6 x pos) (cn (T.int i)):=
 ⟨Jb (hm:=hm) (r:=r) (hg:=hg) (hd:=hd)⟩
theorem ag {X:Cx}:QA X [] aj:=
 ⟨xX ⟩
theorem ah {X:Cx}{e:Expr}{es:List Expr}{f:En->Rs T}{g:En->Rs (List T)}(he:QE X e f)(hr:QA X es g)(hn:b8 e=true:=by rfl):QA X (e::es) (ae f g):=
 ⟨qa_c (he:=he.h) (hr:=hr.h) (hn:=hn)⟩
theorem aO {X:Cx}{es:List Expr}{x1:Nat}{pos:Pos}{f:En->Rs (List T)}(h:QA X es f):QE X (Expr.Tuple es x1 pos) (aP f):=
 ⟨Hr (h:=h.h)⟩
theorem cE {X:Cx}{es:List Expr}{pos:Pos}{f:En->Rs (List T)}(h:QA X es f):QE X (W9 es pos) (dz f):=
 ⟨Lr (h:=h.h)⟩
theorem au {X:Cx}{a b:Expr}{fa fb:En->Rs T}{pos:Pos}{op:WZ}{g:T->T->Rs T}(ho:OpT X (Qy op) g)(ha:QE X a fa)(hb:QE X b fb):QE X (Expr.BinOp a op b pos) (o2 g fa fb):=
 ⟨Lx (ho:=ho) (ha:=ha.h) (hb:=hb.h)⟩
theorem dB {X:Cx}{a b:Expr}{fa fb:En->Rs T}{pos:Pos}{op:Xw}{g:T->T->Rs T}(ho:OpT X (Po op) g)(ha:QE X a fa)(hb:QE X b fb)(hm:RQ op b=false:=by rfl):QE X (Ww a [op] [b] pos) (o2 g fa fb):=
 ⟨Lw (ho:=ho) (ha:=ha.h) (hb:=hb.h) (hm:=hm)⟩
theorem mE {X:Cx}{a:Expr}{fa:En->Rs T}{pos:Pos}(ha:QE X a fa):QE X (UK UnaryOp.USub a pos) (o1 kP fa):=
 ⟨Hs (ha:=ha.h)⟩
theorem vd {X:Cx}{a b c:Expr}{fa fb fc:En->Rs T}{pos:Pos}{op op':Xw}{g g':T->T->Rs T}(ho:OpT X (Po op) g)(ho':OpT X (Po op') g')(ha:QE X a fa)(hb:QE X b fb)(hc:QE X c fc)(hm:autoParam (lastMarks [op,op'] [b,c] =false) v_):QE X (Ww a [op,op'] [b,c] pos) (ch g g' fa fb fc):=
 ⟨FR (ho:=ho) (ho':=ho') (ha:=ha.h) (hb:=hb.h) (hc:=hc.h) (hm:=hm)⟩
theorem cY {X:Cx}{e:Expr}{f:En->Rs T}(h:QE X e f)(he:autoParam (∀(whole:Sem Oa),PySem.isTrue e (Cx.env X) whole=(do let v <-whole;standAt (Expr.pos e);holding [v] (truthy v))) t_):QT X e (tb f):=
 ⟨IG (h:=h.h) (he:=he)⟩
theorem ba {X:Cx}{a b:Expr}{fa fb:En->Rs T}{pos:Pos}{op:Xw}{g:T->T->Rs T}(ho:OpT X (Po op) g)(ha:QE X a fa)(hb:QE X b fb)(hm:RQ op b=false:=by rfl):QT X (Ww a [op] [b] pos) (tb (o2 g fa fb)):=
 ⟨II (ho:=ho) (ha:=ha.h) (hb:=hb.h) (hm:=hm)⟩
theorem u9 {X:Cx}{a:Expr}{pos:Pos}{f:En->Rs Bool}(ha:QT X a f):QW X (Re UW [a] pos) f:=
 ⟨FC (ha:=ha.h)⟩
theorem kg {X:Cx}{a:Expr}{pos:Pos}{f:En->Rs Bool}(ha:QT X a f):QW X (Re VE [a] pos) f:=
 ⟨IE (ha:=ha.h)⟩
theorem yX {X:Cx}{a b:Expr}{pos:Pos}{f g:En->Rs Bool}{dv:List Expr}(ha:QT X a f)(hb:QW X (Re UW (b::dv) pos) g):QW X (Re UW (a::b::dv) pos) (qO f g):=
 ⟨IF (ha:=ha.h) (hb:=hb.h)⟩
theorem mB {X:Cx}{a b:Expr}{pos:Pos}{f g:En->Rs Bool}{dv:List Expr}(ha:QT X a f)(hb:QW X (Re VE (b::dv) pos) g):QW X (Re VE (a::b::dv) pos) (vW f g):=
 ⟨Lf (ha:=ha.h) (hb:=hb.h)⟩
theorem nu {X:Cx}{f:En->Rs Bool}{e:Expr}(h:QW X e f):QT X e f:=
 ⟨qt_w (h:=h.h)⟩
theorem eX {X:Cx}{a:Expr}{pos:Pos}{f:En->Rs Bool}(ha:QT X a f):QT X (UK UnaryOp.Not a pos) (fO f):=
 ⟨IH (ha:=ha.h)⟩
theorem dJ {X:Cx}{a:Expr}{fa:En->Rs T}{pos:Pos}{op:BoolOp}(h:QE X a fa):QE X (Re op [a] pos) fa:=
 ⟨Lo (h:=h.h)⟩
theorem dC {X:Cx}{a b:Expr}{fa fb:En->Rs T}{pos:Pos}{dv:List Expr}(ha:QE X a fa)(hb:QE X (Re UW (b::dv) pos) fb):QE X (Re UW (a::b::dv) pos) (dO fa fb):=
 ⟨Ly (ha:=ha.h) (hb:=hb.h)⟩
theorem He {X:Cx}{a b:Expr}{fa fb:En->Rs T}{pos:Pos}{dv:List Expr}(ha:QE X a fa)(hb:QE X (Re VE (b::dv) pos) fb):QE X (Re VE (a::b::dv) pos) (F7 fa fb):=
 ⟨q_or (ha:=ha.h) (hb:=hb.h)⟩
theorem xE {X:Cx}{a:Expr}{fa:En->Rs T}{pos:Pos}(ha:QE X a fa):QE X (UK UnaryOp.Not a pos) (o1 um fa):=
 ⟨Lp (ha:=ha.h)⟩
theorem yY {X:Cx}{a b c:Expr}{fa fb:En->Rs T}{pos:Pos}{f:En->Rs Bool}(hc:QT X c f)(ha:QE X a fa)(hb:QE X b fb):QE X (Expr.IfExp c a b pos) (DS f fa fb):=
 ⟨q_if (hc:=hc.h) (ha:=ha.h) (hb:=hb.h)⟩
theorem aF {X:Cx}{a b:Expr}{fa fb:En->Rs T}{pos:Pos}(ha:QE X a fa)(hb:QE X b fb)(hs:autoParam (kK b) w_):QE X (Qc a b pos) (o2 aU fa fb):=
 ⟨q_ix (ha:=ha.h) (hb:=hb.h) (hs:=hs)⟩
theorem cR {X:Cx}:QO X none pN:=
 ⟨FJ ⟩
theorem cQ {X:Cx}{a:Expr}{fa:En->Rs T}(ha:QE X a fa):QO X (some a) (pS fa):=
 ⟨FI (ha:=ha.h)⟩
theorem cS {X:Cx}{a:Expr}{fa:En->Rs T}{pos:Pos}{lo hi:Option Expr}{p2:Pos}{fl fu:En->Rs (Option Int)}(ha:QE X a fa)(hl:QO X lo fl)(hu:QO X hi fu):QE X (Qc a (Expr.Slice lo hi none p2) pos) (sl fa fl fu):=
 ⟨FQ (ha:=ha.h) (hl:=hl.h) (hu:=hu.h)⟩
theorem H0 {X:Cx}{a:Expr}{fa:En->Rs T}{pos:Pos}{j:Nat}{p1 p2 p3:Pos}(ha:QE X a fa):QE X (Qc a (Expr.Slice none none (some (UK UnaryOp.USub (S4 (Const.int 1) j p1) p2)) p3) pos) (o1 Fv fa):=
 ⟨Ln (ha:=ha.h)⟩
theorem c9 {X:Cx}{e:Expr}{es:List Expr}{fs:En->Rs (List T)}{pos p:Pos}{x:Str}{id:String}{g:List T->Rs T}(hc:CallT X (RN id) g)(hm:Cx.mg X x=none)(hv:Pb x=some (RN id))(ha:QA X (e::es) fs)(hn:bj (e::es)=true:=by rfl)(hg:Gl X x:=by rfl)(h1:autoParam (x≠Oo "__name__") s_)(h2:autoParam ((x == Oo "__debug__")=false) s_):QE X (Qi (O6 x p) (e::es) [] pos) (cl g fs):=
 ⟨q_cB (hc:=hc) (hm:=hm) (hv:=hv) (ha:=ha.h) (hn:=hn) (hg:=hg) (h1:=h1) (h2:=h2)⟩
theorem jt {X:Cx}{e:Expr}{es:List Expr}{fs:En->Rs (List T)}{pos p:Pos}{x:Str}{Ty:String}{g:List T->Rs T}(hc:CallT X (Rx Ty) g)(hm:Cx.mg X x=none)(hv:Pb x=some (Rx Ty))(ha:QA X (e::es) fs)(hn:bj (e::es)=true:=by rfl)(hg:Gl X x:=by rfl)(h1:autoParam (x≠Oo "__name__") s_)(h2:autoParam ((x == Oo "__debug__")=false) s_):QE X (Qi (O6 x p) (e::es) [] pos) (cl g fs):=
 ⟨q_cT (hc:=hc) (hm:=hm) (hv:=hv) (ha:=ha.h) (hn:=hn) (hg:=hg) (h1:=h1) (h2:=h2)⟩
theorem zq_c {X:Cx}{e:Expr}{es:List Expr}{fs:En->Rs (List T)}{pos p:Pos}{x:Str}{n k:Nat}{f:Addr}{fd:PV}{ps:List Str}{g:List T->Rs T}(F:BK (Cx.prog X) (Cx.w X) (Cx.K X) (Cx.mg X) (Cx.base X) k f fd ps n g)(hr:Room k (Cx.A X))(hm:Cx.mg X x=some (OA f))(hk:W.keepIn (Cx.K X) (OA f)=true)(hb:L2.Binds (Cx.K X) fd ps [])(hl:∀(Z:En) (ts:List T),fs Z=Rs.ok ts->PB ts=n)(ha:QA X (e::es) fs)(hps:PB ps=n:=by rfl)(hn:bj (e::es)=true:=by rfl)(hg:Gl X x:=by rfl)(h2:autoParam ((x == Oo "__debug__")=false) s_):QE X (Qi (O6 x p) (e::es) [] pos) (cl g fs):=
 ⟨q_c (F:=F) (hr:=hr) (hm:=hm) (hk:=hk) (hb:=hb) (hl:=hl) (ha:=ha.h) (hps:=hps) (hn:=hn) (hg:=hg) (h2:=h2)⟩
theorem BO {X:Cx}{a:Expr}{fa:En->Rs T}{pos p p2:Pos}{tn:Str}{Ty:String}(hm:Cx.mg X (Oo "isinstance")=none)(hmt:Cx.mg X tn=none)(hv:Pb tn=some (Rx Ty))(ha:QE X a fa)(hn:b8 a=true:=by rfl)(hg:Gl X (Oo "isinstance"):=by rfl)(hgt:Gl X tn:=by rfl)(h1:autoParam (tn≠Oo "__name__") s_)(h2:autoParam ((tn == Oo "__debug__")=false) s_):QE X (Qi (O6 (Oo "isinstance") p) [a,O6 tn p2] [] pos) (o1 (Gz Ty) fa):=
 ⟨q_is (hm:=hm) (hmt:=hmt) (hv:=hv) (ha:=ha.h) (hn:=hn) (hg:=hg) (hgt:=hgt) (h1:=h1) (h2:=h2)⟩
theorem ak {X:Cx}{pos:Pos}{x:Str}(i:Nat)(hN:RO (Cx.N X))(hi:(Cx.N X)[i]? =some x:=by rfl)(hx:autoParam (L2.Loc (Q7 (Cx.env X)) x) x_)(hf:autoParam (Cx.fn X x=true\/R4 x (Ub (Q7 (Cx.env X)))=some NameKind.local) r_):QG X (O6 x pos) (gN i):=
 ⟨FP (i:=i) (hN:=hN) (hi:=hi) (hx:=hx) (hf:=hf)⟩
theorem gg {X:Cx}:MV X [] u7:=
 ⟨FO ⟩
theorem bu {X:Cx}{e:Expr}{es:List Expr}{g:T->En->Rs En}{gs:List T->En->Rs En}(h1:QG X e g)(h2:MV X es gs)(hs:VD (λx=>WX x) (Qu (e::es) (Cx.env X))=assign e (Cx.env X)::VD (λx=>WX x) (Qu es (Cx.env X)):=by rfl):MV X (e::es) (iX g gs):=
 ⟨Ct (h1:=h1.h) (h2:=h2.h) (hs:=hs)⟩
theorem hY {X:Cx}{es:List Expr}{pos:Pos}{k n:Nat}{gs:List T->En->Rs En}(hc:Cx.calm X=true)(h:MV X es gs)(hn:PB (Qu es (Cx.env X))=n:=by rfl)(hst:List.findIdx? (λx=>WY x) (Qu es (Cx.env X))=none:=by rfl):QG X (Expr.Tuple es k pos) (gT n gs):=
 ⟨IZ (hc:=hc) (h:=h.h) (hn:=hn) (hst:=hst)⟩
theorem cg {X:Cx}{a:Expr}{fs:En->Rs (List T)}{pos p:Pos}{tg:Expr}(hm:Cx.mg X (Oo "range")=none)(ha:QA X [a] fs)(hg:Gl X (Oo "range"):=by rfl)(hs:Oy [a] (Cx.env X)= [(false,eval a (Cx.env X))]:=by rfl):QI X tg (Qi (O6 (Oo "range") p) [a] [] pos) (iR fs):=
 ⟨AK (hm:=hm) (ha:=ha.h) (hg:=hg) (hs:=hs)⟩
theorem xC {X:Cx}{a b:Expr}{fs:En->Rs (List T)}{pos p:Pos}{tg:Expr}(hm:Cx.mg X (Oo "range")=none)(ha:QA X [a,b] fs)(hg:Gl X (Oo "range"):=by rfl)(hs:Oy [a,b] (Cx.env X)= [(false,eval a (Cx.env X)),(false,eval b (Cx.env X))]:=by rfl)(hs2:Oy [b] (Cx.env X)= [(false,eval b (Cx.env X))]:=by rfl):QI X tg (Qi (O6 (Oo "range") p) [a,b] [] pos) (iR fs):=
 ⟨AJ (hm:=hm) (ha:=ha.h) (hg:=hg) (hs:=hs) (hs2:=hs2)⟩
theorem bY {X:Cx}:ME X [] bT:=
 ⟨FL ⟩
theorem fq {X:Cx}{c:Expr}{f:En->Rs Bool}(h:QT X c f):ME X [c] f:=
 ⟨FK (h:=h.h)⟩
theorem Hf {X:Cx}{pos:Pos}{elt tg iter:Expr}{ifs:List Expr}{scope:RI}{N':List Str}{src:List (Option Nat)}{fi:En->Rs (List T)}{tgt:T->En->Rs En}{fc:En->Rs Bool}{fe:En->Rs T}(hc:Cx.calm X=true)(S:LcScope X scope N' src)(hi:QI X tg iter fi)(block:∀(cl:List (Str×Addr)) (C:Addr) (s₀:Od) (H₀:Hp) (fp:List Addr),QG (cA X scope cl N' C s₀ H₀ fp) tg tgt/\ME (cA X scope cl N' C s₀ H₀ fp) ifs fc/\QE (cA X scope cl N' C s₀ H₀ fp) elt fe)(hs:autoParam (∀(x:Oa),Ph iter (Cx.env X) x=pure x) t_):QE X (Uc elt [{ target:=tg,iter:=iter,ifs:=ifs,is_async:=0 }] scope pos) (d6 fi src tgt fc fe):=
 ⟨q_lc (hc:=hc) (S:=S) (hi:=hi.h) (block:=λa1 a2 a3 a4 a5=>⟨(block a1 a2 a3 a4 a5).1.h,(block a1 a2 a3 a4 a5).2.1.h,(block a1 a2 a3 a4 a5).2.2.h⟩) (hs:=hs)⟩
theorem bz {X:Cx}:BA X [] sN:=
 ⟨IP ⟩
theorem ao {X:Cx}{st:Stmt}{dv:List Stmt}{F G:En->Rs Fl}(h1:QS X st F)(h2:BA X dv G):BA X (st::dv) (aD F G):=
 ⟨FH (h1:=h1.h) (h2:=h2.h)⟩
theorem aq {X:Cx}{st:Stmt}{F:En->Rs Fl}(h:QS X st F):BA X [st] F:=
 ⟨IM (h:=h.h)⟩
theorem ax {X:Cx}{a:Expr}{fa:En->Rs T}{pos:Pos}(ha:QE X a fa):QS X (Stmt.Return (some a) pos) (aW fa):=
 ⟨IK (ha:=ha.h)⟩
theorem cb {X:Cx}{c:Expr}{pos:Pos}{f:En->Rs Bool}{A B:List Stmt}{F G:En->Rs Fl}(hc:QT X c f)(ha:BA X A F)(hb:BA X B G):QS X (Stmt.If c A B pos) (gD f F G):=
 ⟨Li (hc:=hc.h) (ha:=ha.h) (hb:=hb.h)⟩
theorem BN {X:Cx}{pos:Pos}{elt tg iter:Expr}{ifs:List Expr}{scope:RI}{spos py:Pos}{N':List Str}{src:List (Option Nat)}{fi:En->Rs (List T)}{tgt:T->En->Rs En}{fc:En->Rs Bool}{fe:En->Rs T}(i:Nat){y:Str}(hc:Cx.calm X=true)(S:LcScope X scope N' src)(hi:QI X tg iter fi)(block:∀(cl:List (Str×Addr)) (C:Addr) (s₀:Od) (H₀:Hp) (fp:List Addr),QG (cA X scope cl N' C s₀ H₀ fp) tg tgt/\ME (cA X scope cl N' C s₀ H₀ fp) ifs fc/\QE (cA X scope cl N' C s₀ H₀ fp) elt fe)(hN:RO (Cx.N X))(hiy:(Cx.N X)[i]? =some y:=by rfl)(hy:autoParam (L2.Loc (Q7 (Cx.env X)) y) x_)(hsw:P6 (Uc elt [{ target:=tg,iter:=iter,ifs:=ifs,is_async:=0 }] scope pos) (some (O6 y py)) (R0 spos) (Cx.env X)=pure true:=by rfl)(hf:autoParam (Cx.fn X y=true\/R4 y (Ub (Q7 (Cx.env X)))=some NameKind.local) r_)(hs:autoParam (∀(x:Oa),Ph iter (Cx.env X) x=pure x) t_):QS X (Td [O6 y py] (Uc elt [{ target:=tg,iter:=iter,ifs:=ifs,is_async:=0 }] scope pos) spos) (cI (d6 fi src tgt fc fe) (gN i)):=
 ⟨Lh (i:=i) (hc:=hc) (S:=S) (hi:=hi.h) (block:=λa1 a2 a3 a4 a5=>⟨(block a1 a2 a3 a4 a5).1.h,(block a1 a2 a3 a4 a5).2.1.h,(block a1 a2 a3 a4 a5).2.2.h⟩) (hN:=hN) (hiy:=hiy) (hy:=hy) (hsw:=hsw) (hf:=hf) (hs:=hs)⟩
theorem aA {X:Cx}{a:Expr}{fa:En->Rs T}{pos:Pos}{tg:Expr}{g:T->En->Rs En}(ha:QE X a fa)(hg:QG X tg g)(hs:VM [tg] a (R0 pos) (Cx.env X)=pure false:=by rfl)(hw:VN [tg] a (Cx.env X)=pure none:=by rfl)(h1:VD (λx=>WX x) (Qu [tg] (Cx.env X))= [assign tg (Cx.env X)]:=by rfl):QS X (Td [tg] a pos) (cI fa g):=
 ⟨IV (ha:=ha.h) (hg:=hg.h) (hs:=hs) (hw:=hw) (h1:=h1)⟩
theorem gf {X:Cx}{a:Expr}{fa:En->Rs T}{pos:Pos}(ha:QE X a fa)(hs:P6 a none (R0 pos) (Cx.env X)=pure false:=by rfl):QS X (Stmt.Expr a pos) (xS fa):=
 ⟨FG (ha:=ha.h) (hs:=hs)⟩
theorem bX {X:Cx}{pos:Pos}{tg iter:Expr}{body:List Stmt}{fi:En->Rs (List T)}{g:T->En->Rs En}{F:En->Rs Fl}(hc:Cx.calm X=true)(hi:QI X tg iter fi)(hg:QG (Cx.nox X) tg g)(hb:BA (Cx.nox X) body F)(hs:autoParam (∀(x:Oa),Ph iter (Cx.env X) x=pure x) t_):QS X (Stmt.For tg iter body [] pos) (d7 fi g F):=
 ⟨IQ (hc:=hc) (hi:=hi.h) (hg:=hg.h) (hb:=hb.h) (hs:=hs)⟩
theorem rF {X:Cx}{pos:Pos}{c:Expr}{body:List Stmt}{fc:En->Rs Bool}{F:En->Rs Fl}(n:Nat)(hc:QT (Cx.nox X) c fc)(hb:BA (Cx.nox X) body F):QS X (Stmt.While c body [] pos) (cf fc F n):=
 ⟨Cp (n:=n) (hc:=hc.h) (hb:=hb.h)⟩
theorem bc {X:Cx}{a:Expr}{fa:En->Rs T}{tg:Expr}(ha:QE X a fa):QI X tg a (iS fa):=
 ⟨IY (ha:=ha.h)⟩
theorem jD {X:Cx}{a:Expr}{fs:En->Rs (List T)}{p pos:Pos}{elts:List Expr}{kk:Nat}{tpos:Pos}(hm:Cx.mg X (Oo "enumerate")=none)(ha:QA X [a] fs)(hg:Gl X (Oo "enumerate"):=by rfl)(hs:Oy [a] (Cx.env X)= [(false,eval a (Cx.env X))]:=by rfl):QI X (Expr.Tuple elts kk tpos) (Qi (O6 (Oo "enumerate") p) [a] [] pos) (iE fs):=
 ⟨FN (hm:=hm) (ha:=ha.h) (hg:=hg) (hs:=hs)⟩
theorem iK {X:Cx}{es:List Expr}{pos p2 p3:Pos}{x:Str}(i:Nat){f:En->Rs (List T)}(hN:RO (Cx.N X))(ha:QA X es f)(hi:(Cx.N X)[i]? =some x:=by rfl)(hx:autoParam (L2.Loc (Q7 (Cx.env X)) x) x_)(hs:P6 (W9 es p2) (some (O6 x p3)) (R0 pos) (Cx.env X)=pure false:=by rfl)(hf:autoParam (Cx.fn X x=true\/R4 x (Ub (Q7 (Cx.env X)))=some NameKind.local) r_):QS X (Td [O6 x p3] (W9 es p2) pos) (jx i f):=
 ⟨FE (i:=i) (hN:=hN) (ha:=ha.h) (hi:=hi) (hx:=hx) (hs:=hs) (hf:=hf)⟩
theorem hW {X:Cx}{a:Expr}{fa:En->Rs T}{pos p2:Pos}{x:Str}(i:Nat){apos cpos:Pos}(ha:QE X a fa)(hN:(Cx.N X)[i]? =some x:=by rfl)(hv:autoParam (uY (Q7 (Cx.env X)) x) u_)(hn:b8 a=true:=by rfl)(hbase:Qz (O6 x p2) (Oo "append") (Cx.env X) (eval (O6 x p2) (Cx.env X))=eval (O6 x p2) (Cx.env X):=by rfl)(hline:(Vl apos == R0 cpos)=true:=by rfl)(hd:autoParam ((x == Oo "__debug__")=false) s_)(hcd:autoParam ((x == Oo "__classdict__")=false) s_)(hsw:P6 (Qi (RW (O6 x p2) (Oo "append") apos) [a] [] cpos) none (R0 pos) (Cx.env X)=pure false:=by rfl):QS X (Stmt.Expr (Qi (RW (O6 x p2) (Oo "append") apos) [a] [] cpos) pos) (iQ i fa):=
 ⟨IW (i:=i) (ha:=ha.h) (hN:=hN) (hv:=hv) (hn:=hn) (hbase:=hbase) (hline:=hline) (hd:=hd) (hcd:=hcd) (hsw:=hsw)⟩
theorem sS {X:Cx}{a:Expr}{fa:En->Rs T}{pos p2:Pos}{x:Str}(i:Nat){apos cpos:Pos}(ha:QE X a fa)(hN:(Cx.N X)[i]? =some x:=by rfl)(hv:autoParam (uY (Q7 (Cx.env X)) x) u_)(hn:b8 a=true:=by rfl)(hbase:Qz (O6 x p2) (Oo "extend") (Cx.env X) (eval (O6 x p2) (Cx.env X))=eval (O6 x p2) (Cx.env X):=by rfl)(hline:(Vl apos == R0 cpos)=true:=by rfl)(hd:autoParam ((x == Oo "__debug__")=false) s_)(hcd:autoParam ((x == Oo "__classdict__")=false) s_)(hsw:P6 (Qi (RW (O6 x p2) (Oo "extend") apos) [a] [] cpos) none (R0 pos) (Cx.env X)=pure false:=by rfl):QS X (Stmt.Expr (Qi (RW (O6 x p2) (Oo "extend") apos) [a] [] cpos) pos) (pw i fa):=
 ⟨IS (i:=i) (ha:=ha.h) (hN:=hN) (hv:=hv) (hn:=hn) (hbase:=hbase) (hline:=hline) (hd:=hd) (hcd:=hcd) (hsw:=hsw)⟩
theorem i5 {X:Cx}(i:Nat){st:Stmt}{F:En->Rs Fl}(h:QS X st F):QS X st (nV i F):=
 ⟨IT (i:=i) (h:=h.h)⟩
theorem kR {X:Cx}(i:Nat){e:Expr}{f:En->Rs T}(h:QE X e f):QE X e (ln i f):=
 ⟨q_ln (i:=i) (h:=h.h)⟩
theorem HX {X:Cx}(i:Nat){e:Expr}{f:En->Rs Bool}(h:QT X e f):QT X e (JN i f):=
 ⟨Lg (i:=i) (h:=h.h)⟩
theorem HZ {X:Cx}{n:Nat}{es args:List Expr}{a0 i0:Expr}{p1 p2 pos:Pos}{as:List Addr}{gs:List (List T->Rs T)}{f0:En->Rs T}{fs:En->Rs (List T)}(S:Sels X n es as gs)(h0:QE X i0 f0)(hl:∀(Z:En) (ts:List T),fs Z=Rs.ok ts->PB ts=n)(ha:QA X (a0::args) fs)(hn:bj (a0::args)=true:=by rfl)(hs:autoParam (kK i0) w_)(hz:autoParam (PB es<=100) s_):QE X (Qi (Qc (W9 es p1) i0 p2) (a0::args) [] pos) (AD gs f0 fs):=
 ⟨Ll (S:=S) (h0:=h0.h) (hl:=hl) (ha:=ha.h) (hn:=hn) (hs:=hs) (hz:=hz)⟩
theorem HY {X:Cx}{pos:Pos}:QS X (Stmt.Continue pos) K6:=
 ⟨Lj ⟩
theorem ET {X:Cx}{a:Expr}{fa:En->Rs T}{pos:Pos}{x:Str}(i:Nat){pos':Pos}(hN:RO (Cx.N X))(ha:QE X a fa)(hi:(Cx.N X)[i]? =some x:=by rfl)(hx:autoParam (L2.Loc (Q7 (Cx.env X)) x) x_)(hf:autoParam (Cx.fn X x=true\/R4 x (Ub (Q7 (Cx.env X)))=some NameKind.local) r_):QS X (Stmt.AugAssign (O6 x pos') Operator.Add a pos) (B9 i fa):=
 ⟨IU (i:=i) (hN:=hN) (ha:=ha.h) (hi:=hi) (hx:=hx) (hf:=hf)⟩
theorem rG {X:Cx}{a:Expr}{es:List Expr}{fs:En->Rs (List T)}{p1 p2 pos pos2:Pos}(hc:Cx.calm X=true)(h1:Cx.mg X (Oo "list")=none)(h2:Cx.mg X (Oo "range")=none)(ha:QA X (a::es) fs)(g1:Gl X (Oo "list"):=by rfl)(g2:Gl X (Oo "range"):=by rfl)(hn:bj (a::es)=true:=by rfl)(he2:Oy [Qi (O6 (Oo "range") p2) (a::es) [] pos2] (Cx.env X)=(false,eval (Qi (O6 (Oo "range") p2) (a::es) [] pos2) (Cx.env X))::Oy [] (Cx.env X):=by rfl)(hpl2:(List.any (backTo pos (Oy [] (Cx.env X))) λx=>WY x)=false:=by rfl):QE X (Qi (O6 (Oo "list") p1) [Qi (O6 (Oo "range") p2) (a::es) [] pos2] [] pos) (lR fs):=
 ⟨Cv (hc:=hc) (h1:=h1) (h2:=h2) (ha:=ha.h) (g1:=g1) (g2:=g2) (hn:=hn) (he2:=he2) (hpl2:=hpl2)⟩
theorem mC {X:Cx}{c:Str}{msg:Str}{C:Addr}{bm:List Oa}{np p1 cpos pos:Pos}{j:Nat}(O:OX X.K C bm)(hm:X.mg c=some (.ref C))(hc:X.calm=true:=by rfl)(hg:Gl X c:=by rfl)(hd:autoParam ((c == ("__debug__" : Str))=false) s_) :
  QS X (.Raise (some (.Call (.Name c np) [.Constant (.str msg) j p1] [] cpos)) none pos) (B8 c):=⟨Cq O.own hc hm hg hd⟩
theorem ER {X:Cx}{body suite:List Stmt}{b0:Stmt}{F:En->Rs Fl}{h:Str->Rs T}{ce n:Str}{CE:Addr}{bmE:List Oa}(i:Nat){np hpos pos:Pos}(hN:X.N.Nodup)(hm:X.mg ce=some (.ref CE))(OE:OX X.K CE bmE)
  (hb:∀pn xe,BA { X with pn:=pn,xe:=xe } body F) (hs:uZ X i (b0::suite) CE h) (hst:X.stack=X.env::X.outer:=by rfl) (hfe:X.env.frame=some X.env.locals:=by rfl) (hcl:∀x c,X.env.cells.lookup x≠some c) (hex:X.ex= []:=by rfl)
  (hi:X.N[i]? =some n:=by rfl) (hloc:X.env.scope.names.lookup n=some .local:=by rfl) (hg:Gl X ce:=by rfl) (hd:autoParam ((ce == ("__debug__" : Str))=false) s_) :
  QS X (.Try body [.ExceptHandler (some (.Name ce np)) (some n) (b0::suite) hpos] [] [] pos) (vF F h):=⟨IJ hst hfe hcl hex hN hi hloc hm OE (λpn xe=>(hb pn xe).h) hs hg hd⟩
theorem sU {P:OH}{w:Px}{K:N6}{mg:Str->Option Oa}{base:Heap}{x qual:Str}{st:Stmt}{f:Addr}{fd:PV}{N ps:List Str}{k n:Nat}{F:En->Rs Fl}(Fn:L2.Fun K x qual st f fd)(S:dj N ps (az st))(hn:ps.length=n)
  (hbody:∀(cdv:Oa),fd.code=cdv->∀(A:OV) (outer:List Env) (s:Od) (H:Hp) (E:XK),Room k (A.deeper (envOfC qual (az st) s.heap.objs.size f cdv)) →
   ∀xe,BA ((jk CX0 P w K mg base N qual (az st) f cdv A outer s H E).FB xe) (cZ st) F):BK P w K mg base (k+1) f fd ps n (val n N.length F):=Ke Fn S hn λcdv hcv A outer s H E hr xe=>(hbody cdv hcv A outer s H E hr xe).h
theorem dm {X:Cx}{a b:Expr}{fa fb:En->Rs T}{pos:Pos}(hu:SL (Cx.A X)+1<cLine)(ha:QE X a fa)(hb:QE X b fb)(hs:autoParam (BC b) w_):QE X (Qc a b pos) (o2 bP fa fb):=
 ⟨Lv (hu:=hu) (ha:=ha.h) (hb:=hb.h) (hs:=hs)⟩
theorem yZ {X:Cx}{a b:Expr}{fa fb:En->Rs T}{apos cpos:Pos}(hu:SL (Cx.A X)+1<cLine)(ha:QE X a fa)(hb:QE X b fb)(hn:b8 b=true:=by rfl)(hbase:Qz a (Oo "get") (Cx.env X) (eval a (Cx.env X))=eval a (Cx.env X):=by rfl)(hline:(Vl apos == R0 cpos)=true:=by rfl):QE X (Qi (RW a (Oo "get") apos) [b] [] cpos) (oD jA fa fb):=
 ⟨Jc (hu:=hu) (ha:=ha.h) (hb:=hb.h) (hn:=hn) (hbase:=hbase) (hline:=hline)⟩
theorem Av {X:Cx}{a b:Expr}{fa fb:En->Rs T}{apos cpos:Pos}(hu:SL (Cx.A X)+61<cLine)(ha:QE X a fa)(hb:QE X b fb)(hn:b8 b=true:=by rfl)(hbase:Qz a (Oo "index") (Cx.env X) (eval a (Cx.env X))=eval a (Cx.env X):=by rfl)(hline:(Vl apos == R0 cpos)=true:=by rfl):QE X (Qi (RW a (Oo "index") apos) [b] [] cpos) (oL ik fa fb):=
 ⟨Cw (hu:=hu) (ha:=ha.h) (hb:=hb.h) (hn:=hn) (hbase:=hbase) (hline:=hline)⟩
theorem BM {X:Cx}{e:Expr}{f:En->Rs T}{x:Str}{p pos p2 p3:Pos}(i:Nat)(hu:SL (Cx.A X)+8<cLine)(hc:Cx.calm X=true)(hm:Cx.mg X (Oo "dict")=none)(hN:RO (Cx.N X))(ha:QE X e f)(hst:b8 e=true:=by rfl)(hg:Gl X (Oo "dict"):=by rfl)(hi:(Cx.N X)[i]? =some x:=by rfl)(hx:autoParam (L2.Loc (Q7 (Cx.env X)) x) x_)(hs:P6 (Qi (O6 (Oo "dict") p) [e] [] p2) (some (O6 x p3)) (R0 pos) (Cx.env X)=pure false:=by rfl)(hf:autoParam (Cx.fn X x=true\/R4 x (Ub (Q7 (Cx.env X)))=some NameKind.local) r_):QS X (Td [O6 x p3] (Qi (O6 (Oo "dict") p) [e] [] p2) pos) (rN i f):=
 ⟨FF (i:=i) (hu:=hu) (hc:=hc) (hm:=hm) (hN:=hN) (ha:=ha.h) (hst:=hst) (hg:=hg) (hi:=hi) (hx:=hx) (hs:=hs) (hf:=hf)⟩
theorem ES {X:Cx}{b c:Expr}{fb fc:En->Rs T}{pos p2 p3:Pos}{x:Str}(i:Nat)(hu:SL (Cx.A X)+1<cLine)(hb:QE X b fb)(hc:QE X c fc)(hN:(Cx.N X)[i]? =some x:=by rfl)(hv:autoParam (uY (Q7 (Cx.env X)) x) u_)(hd:autoParam ((x == Oo "__debug__")=false) s_)(hcd:autoParam ((x == Oo "__classdict__")=false) s_)(hs:P6 c (some (Qc (O6 x p2) b p3)) (R0 pos) (Cx.env X)=pure false:=by rfl):QS X (Td [Qc (O6 x p2) b p3] c pos) (AF i fb fc):=
 ⟨IL (i:=i) (hu:=hu) (hb:=hb.h) (hc:=hc.h) (hN:=hN) (hv:=hv) (hd:=hd) (hcd:=hcd) (hs:=hs)⟩
theorem oO {X:Cx}{a b c:Expr}{fa fb fc:En->Rs T}{pos p2 p3 p4:Pos}{x:Str}(i:Nat)(hu:SL (Cx.A X)+1<cLine)(ha:QE X a fa)(hb:QE X b fb)(hc:QE X c fc)(hsl:autoParam (BC a) w_)(hN:(Cx.N X)[i]? =some x:=by rfl)(hv:autoParam (uY (Q7 (Cx.env X)) x) u_)(hd:autoParam ((x == Oo "__debug__")=false) s_)(hcd:autoParam ((x == Oo "__classdict__")=false) s_)(hs:P6 c (some (Qc (Qc (O6 x p2) a p3) b p4)) (R0 pos) (Cx.env X)=pure false:=by rfl):QS X (Td [Qc (Qc (O6 x p2) a p3) b p4] c pos) (jw i fa fb fc):=
 ⟨FD (i:=i) (hu:=hu) (ha:=ha.h) (hb:=hb.h) (hc:=hc.h) (hsl:=hsl) (hN:=hN) (hv:=hv) (hd:=hd) (hcd:=hcd) (hs:=hs)⟩
end Tr
namespace Tr
open PySem PySem.Spec L2
theorem LcScope.byN {X:Cx}{scope:RI}{N N':List Str}{src:List (Option Nat)}(hN:X.N=N)(hk:scope.kind= .function)(h:Gm scope.names N scope.names N' src=true)
  (hf:(scope.names.all λy=>y.2 != .free||(X.env.scope.names.lookup y.1 == some .cell||X.env.scope.names.lookup y.1 == some .free))=true):LcScope X scope N' src:=by
 have z:=LcScope.by (X:={ X with env:={ X.env with scope:=scope } }) hN rfl hk h
 refine⟨hk,z.cel,z.loc,z.len,z.from_,λx hx=> ?_⟩
 have:=OG.mp hf _ hx;simp only[bne_self_eq_false,Ua,Tc]at this
 show X.env.scope.names.lookup x=_\/X.env.scope.names.lookup x=_
 rcases this with z | z
 ·exact .inl (by simpa using z)
 ·exact .inr (by simpa using z)
end Tr
namespace Tr
open PySem PySem.Spec PyProof.Rows L2 PySem.W
theorem D5 (h:Heap):(D6 h).In h:=by
 have key:∀(l:List Nat) (a:Addr) (o:Obj),(l.filterMap λa=>(h.get? a).map λo=>(a,o)).lookup a=some o->h.get? a=some o:=by
  intro l
  induction l with
  | nil=>intro a o e;cases e
  | cons b r ih=>
   intro a o e
   cases hb:h.get? b with
   | none=>rw[List.filterMap_cons_none (by rw[hb];rfl)]at e;exact ih a o e
   | some ob=>
    rw[List.filterMap_cons_some (b:=(b,ob)) (by rw[hb];rfl),Pr]at e
    cases q:a == b with
    | true=>rw[q]at e;cases e;rw[eq_of_beq q];exact hb
    | false=>rw[q]at e;exact ih a o e
 exact λa o e=>key _ a o e
theorem HM {K:Frag}{n:Str}{st:Stmt}(e:obF K n=exF n st):∃f fd,nsIn K OL n=some (some (.ref f))/\L2.Fun K n n st f fd:=by
 unfold obF at e
 split at e
 ·rename_i f hf
  split at e
  ·rename_i oc od d sl hl
   cases d;unfold exF at e;simp only[Sw,Vt]at e;obtain⟨h1,h2,h3,h4,h5,h6,h7,h8,h9,h10,h11⟩:=e;subst h1 h2 h3 h4 h5 h6 h7 h8 h9;exact⟨f,_,hf,Ka hl h10 h11⟩
  ·cases e
 ·cases e
theorem pV {K:Frag}{N:Addr}{n:Str}(e:LM K N n=true):nsIn K N n=some none:=by
 unfold LM at e
 split at e
 ·assumption
 ·cases e
theorem Jz {K:Frag}{n:Str}{i:Int}(e:MS K n=some i):∃t,nsIn K OL n=some (some (.int i t)):=by
 unfold MS at e
 split at e
 ·rename_i i' t h;cases e;exact⟨t,h⟩
 ·cases e
theorem oS:∀{l:List Oa},ze l=true->l=oj:=by
 intro l e;unfold ze at e
 split at e
 ·simp only[N9,beq_iff_eq]at e
  obtain⟨⟨⟨h1,h2⟩,h3⟩,h4⟩:=e;subst h1 h2 h3 h4;rfl
 ·cases e
theorem iz {K:Frag}{D:Option Addr}{n:Str}{C:Addr}(e:Gd K D n=some C):nsIn K OL n=some (some (.ref C)) ∧
  ∃nm q N bs bm hd sn su ab co dd k0 k1 k2 k3 k5,BS D bm=true/\K.lookup C=some (PY nm q C N bs bm hd sn su ab co dd k0 k1 k2 k3 k5 "ValueError.__new__")/\∀h:Heap,K.In h->∃mN,h.Ns N mN/\∀n∈calmNames,mN n=none:=by
 unfold Gd at e
 split at e
 ·rename_i C' hC
  split at e
  ·rename_i t dd c k0 k1 k2 k3 b k5 hl
   split at e
   ·rename_i E m ob oe es ep oz hm hN
    split at e
    ·rename_i hq
     cases e;simp only[N9,beq_iff_eq,TV]at hq;obtain⟨⟨⟨⟨⟨⟨h1,h2⟩,h3⟩,h4⟩,h5⟩,h6⟩,h7⟩:=hq
     have z:=OG.mp h5;refine⟨hC,c.name,c.qualname,c.ns,c.bases,m,c.hasDict,c.slotNames,c.subclasses,c.abstract,c.collection,dd,k0,k1,k2,k3,k5,h7,?_,LN hN h4 (pV (z _ (.head _))) (pV (z _ (.tail _ (.head _)))) (pV (z _ (.tail _ (.tail _ (.head _))))) (pV (z _ (.tail _ (.tail _ (.tail _ (.head _))))))⟩
     rw[hl];cases c;simp only at hm h3;subst h1 h2 hm h3 h6
     rfl
    ·cases e
   ·cases e
  ·cases e
 ·cases e
theorem ox0 {K:Frag}{C:Addr}{n:Str}(e:Gd K none n=some C):OX K C oj:=by
 obtain⟨_,_,_,_,_,_,_,_,_,_,_,_,_,_,_,_,_,hu,hl,hn⟩:=iz e;cases oS hu;exact F6 hl hn
theorem KJ {K:Frag}{C D:Addr}{n m:Str}(e:Gd K (some D) n=some C)(d:Gd K none m=some D):OX K C (.ref D::oj):=by
 obtain⟨_,_,_,_,_,bm,_,_,_,_,_,_,_,_,_,_,_,hu,hl,hn⟩:=iz e;obtain⟨_,_,_,_,_,_,_,_,_,_,_,_,_,_,_,_,_,hu',hl',hn'⟩:=iz d;cases oS hu';unfold BS at hu;simp only at hu
 split at hu
 ·rw[N9]at hu
  cases eq_of_beq hu.1;cases oS hu.2;exact CV hl hn hl' hn'
 ·cases hu
theorem gJ {α:Type}{o:Option α}{r:List (Option α)}{l:List α}(e:yS (o::r)=some l):∃a l',o=some a/\l=a::l'/\yS r=some l':=by
 cases o with
 | none=>cases e
 | some a=>
  unfold yS at e
  split at e
  ·rename_i l' h;cases e;exact⟨a,l',rfl,rfl,h⟩
  ·cases e
theorem EF {α:Type}{l:List α}(e:yS ([]:List (Option α))=some l):l= []:=by cases e;rfl
theorem rS:∀{l:List Addr},uo l=true->l.Nodup
 | [],_=> .nil
 | a::r,h=>by
  unfold uo at h;rw[N9]at h;refine OZ.mpr ⟨λhm=> ?_,rS h.2⟩
  have:=OG.mp h.1 a hm
  simp at this
theorem Jy {K:Frag}{m:Str}{es:List Str}(e:MR K (m::es)=true):∃D l,Gd K none m=some D/\yS (es.map (Gd K (some D)))=some l/\(l++ [D]).Nodup:=by
 rw[MR]at e
 split at e
 ·rename_i D hD
  split at e
  ·rename_i l hl;exact⟨D,l,hD,hl,rS e⟩
  ·cases e
 ·cases e
section
variable {S:rE}{top:Nat->Stmt}{K:Frag}{h:Heap}{mg:Str->Option Oa}
theorem uv {α β:Type}{f g:α->β}:∀{l:List α} (j:Nat) {a:α},l.map f=l.map g->l[j]? =some a->f a=g a
 | [],_,_,_,q=>by cases q
 | b::l,0,a,e,q=>by cases q;exact(Xa.inj e).1
 | b::l,j+1,a,e,q=>uv (l:=l) j (Xa.inj e).2 q
theorem L8 (j:Nat){n:Str}{i:Nat}{ps:List Str}(X:K.In h)(G:h.Ns OL mg)(e:pU S K=nT S top)(q:S.tab[j]? =some (n,i))
  (hb:∀(kV doc pm:Oa) (an:Option Addr) (cdv ct:Oa) (us:List Oa),us.length=ps.length->VQ (fnOf n n (ir (top i)) (cZ (top i)) (az (top i)) .none kV doc pm an cdv ct) ⟨us,[]⟩=pure (ps.zip us)) :
  ∃f fd,Fn K mg n (top i) ps f fd:=by
 obtain⟨f,fd,h1,h2⟩:=HM (uv j (congrArg (·.1) e) q)
 exact⟨f,fd,h2,h2.binds hb,mg_of X G h1⟩
theorem L6 (j:Nat){n:Str}{i:Nat}{x:Str}{fa:Addr}(X:K.In h)(G:h.Ns OL mg)(e:pU S K=nT S top)(q:S.tab[j]? =some (n,i))(hfa:mg n=some (.ref fa))
  (hb:∀(kV doc pm:Oa) (an:Option Addr) (cdv ct u:Oa),VQ (fnOf n n (ir (top i)) (cZ (top i)) (az (top i)) .none kV doc pm an cdv ct) ⟨[u],[]⟩=pure [(x,u)]) :
  ∃fd,Fn K mg n (top i) [x] fa fd/\∀(s:Od) (u:Oa),Vp s fd ⟨[u],[]⟩ [(x,u)]:=by
 obtain⟨f,fd,h1,h2⟩:=HM (uv j (congrArg (·.1) e) q)
 have z:=hfa.symm.trans (mg_of X G h1);cases z
 have hh:=h2;obtain⟨oc,od,kV,doc,pm,an,cdv,ct,osl,rfl,lk,hcd⟩:=hh.ex;exact⟨_,⟨h2,.all λus hl=>match us,hl with | [u],_=>hb kV doc pm an cdv ct u,mg_of X G h1⟩,λs u=> .of_eq (hb kV doc pm an cdv ct u)⟩
theorem fD (j:Nat){n:Str}(X:K.In h)(G:h.Ns OL mg)(e:pU S K=nT S top)(q:S.zs[j]? =some n):mg n=none:=
 mg_none_of X G (pV (OG.mp (congrArg (·.2.1) e:S.zs.all (LM K OL)=true) n (Py q)))
theorem sd (j:Nat){n:Str}{i:Int}(X:K.In h)(G:h.Ns OL mg)(e:pU S K=nT S top)(q:S.cs[j]? =some (n,i)):∃t,mg n=some (.int i t):=by
 obtain⟨t,ht⟩:=Jz (uv (f:=λc=>MS K c.1) (g:=λc=>some c.2) j (congrArg (·.2.2.1) e) q)
 exact⟨t,mg_of X G ht⟩
theorem L9 (e:pU S K=nT S top):MR K S.es=true:=congrArg (·.2.2.2) e
end
theorem left_of {p q:OH}{loose:List Str}{Xt:Od->Bool}{α:Type}{Yf:Od->α}{Ya:Px->α}{N:Nat}{g0:Bool}
  (e:opening p=plainProg p.main.scope.names) (hN:Nat.ble 600 N=true) (f:∀s,fenceModules? p s=some s)
  (h:∀(w:Px) (os:Wh),(topFrom treeTable p w N ⟨boot_heap w.params,⟨[]⟩,boot_drawn,boot_toks,os⟩).map (λs=>(openSeen q loose (Xg p.main.body) Xt g0 s,Yf s))=some (openGood q loose,Ya w)) :
  LeftO p q loose Xt Yf Ya N g0:=λw=>by
 obtain⟨⟨h0,gs,d,k,os⟩,e1,e2⟩:=Qq.mp (boot_open e hN f w);simp only[Vt]at e2;obtain⟨rfl,rfl,rfl,rfl⟩:=e2;unfold openEnds;rw[e1];exact h w os
structure Cl (P:OH)(w:Px)(K:Frag)(mg:Str->Option Oa)(base:Heap)(k:Nat)(x:Str)(n:Nat)(m:List T->Rs T):Prop where
 ex:∃f fd ps,mg x=some (.ref f)/\keepIn K (.ref f)=true/\Binds K fd ps []/\ps.length=n/\BK P w K mg base k f fd ps n m
abbrev fV (K:Frag)(mg:Str->Option Oa)(x:Str)(st:Stmt)(ps:List Str):Prop:=∃f fd,Fn K mg x st ps f fd
section
variable {P:OH}{w:Px}{K:Frag}{mg:Str->Option Oa}{base:Heap}{x:Str}{st:Stmt}{N ps:List Str}{k n:Nat}{F:En->Rs Fl}
theorem Mv (H:fV K mg x st ps)(S:dj N ps (az st))(hn:ps.length=n)
  (hbody:∀(f:Addr) (cdv:Oa) (A:OV) (outer:List Env) (s:Od) (H:Hp) (E:XK),Room k (A.deeper (envOfC x (az st) s.heap.objs.size f cdv)) →
   ∀xe,BA ((jk CX0 P w K mg base N x (az st) f cdv A outer s H E).FB xe) (cZ st) F):Cl P w K mg base (k+1) x n (val n N.length F):=by
 obtain⟨f,fd,h⟩:=H;exact⟨f,fd,ps,h.mg,h.fn.kp,h.bd,hn,sU h.fn S hn λcdv _=>hbody f cdv⟩
theorem Kt (H:fV K mg x st ps)(S:dj N ps (az st))(hn:ps.length=n)
  (hbody:∀(f:Addr) (cdv:Oa),(∃o fd,mg x=some (.ref f)/\K.lookup f=some o/\o.data= .func fd/\fd.code=cdv)->∀(A:OV) (outer:List Env) (s:Od) (H:Hp) (E:XK),Room k (A.deeper (envOfC x (az st) s.heap.objs.size f cdv)) →
   ∀xe,BA ((jk CX0 P w K mg base N x (az st) f cdv A outer s H E).FB xe) (cZ st) F):Cl P w K mg base (k+1) x n (val n N.length F):=by
 obtain⟨f,fd,h⟩:=H;refine⟨f,fd,ps,h.mg,h.fn.kp,h.bd,hn,sU h.fn S hn λcdv hc=>hbody f cdv ?_⟩
 have hh:=h.fn;obtain⟨oc,od,kV,doc,pm,an,cdv',ct,osl,rfl,lk,hcd⟩:=hh.ex;exact⟨_,_,h.mg,lk,rfl,hc⟩
end
section
variable {X:Cx}{e:Expr}{es:List Expr}{fs:En->Rs (List T)}{pos p:Pos}{x:Str}{n k k':Nat}{g:List T->Rs T}
theorem aK (c:Cl X.prog X.w X.K X.mg X.base k x n g)(hr:Room k' X.A)(ha:QA X (e::es) fs)(hk:autoParam (k<=k') s_)(hl:∀(Z:En) (ts:List T),fs Z= .ok ts->ts.length=n:=by repeat first | exact HS | refine HR ?_)
  (hn:bj (e::es)=true:=by rfl) (hg:Gl X x:=by rfl) (h2:autoParam ((x == Oo "__debug__")=false) s_):QE X (.Call (.Name x p) (e::es) [] pos) (cl g fs):=by
 obtain⟨f,fd,ps,h1,h3,h4,h5,h6⟩:=c.ex;exact zq_c h6 (hr.mono hk) h1 h3 h4 hl ha h5 hn hg h2
theorem vc {i:Int}(h:∃t,X.mg x=some (.int i t))(hg:Gl X x:=by rfl)(hd:autoParam ((x == Oo "__debug__")=false) s_):QE X (.Name x pos) (cn (.int i)):=by
 obtain⟨t,h⟩:=h;exact EW h ⟨_,rfl⟩ hg hd
abbrev G8 (X:Cx)(n:Nat)(es:List Expr)(gs:List (List T->Rs T)):Prop:=∃as,Sels X n es as gs
theorem selN:G8 X n [] []:=⟨_,seln⟩
theorem Fq {gs:List (List T->Rs T)}(c:Cl X.prog X.w X.K X.mg X.base k x n g)(hr:Room k' X.A)(h:G8 X n es gs)(hk:autoParam (k<=k') s_)(hg:Gl X x:=by rfl)(hd:autoParam ((x == Oo "__debug__")=false) s_):G8 X n (.Name x p::es) (g::gs):=by
 obtain⟨f,fd,ps,h1,h3,h4,h5,h6⟩:=c.ex;obtain⟨as,h⟩:=h;exact⟨_,selc h6 (hr.mono hk) h1 h3 h4 h h5 hg hd⟩
theorem EV {args:List Expr}{a0 i0:Expr}{p1 p2:Pos}{gs:List (List T->Rs T)}{f0:En->Rs T}(S:G8 X n es gs)(h0:QE X i0 f0)(ha:QA X (a0::args) fs)(hl:∀(Z:En) (ts:List T),fs Z= .ok ts->ts.length=n:=by repeat first | exact HS | refine HR ?_)
  (hn:bj (a0::args)=true:=by rfl) (hs:autoParam (kK i0) w_) (hz:autoParam (PB es<=100) s_):QE X (.Call (.Subscript (.List es p1) i0 p2) (a0::args) [] pos) (AD gs f0 fs):=by
 obtain⟨as,S⟩:=S;exact HZ S h0 hl ha hn hs hz
end
end Tr
namespace Tr
open PySem PySem.Spec PyProof.Rows L2
theorem PairsAt.snoc {H:Hp}{b kb:Addr}{p:List Key×V}(h1:H b=some (.tup [.ref kb,p.2]))(h2:H kb=some (.tup (p.1.map kV))):∀{xs:List V} {ps:List (List Key×V)},PairsAt H xs ps->PairsAt H (xs++ [.ref b]) (ps++ [p])
 | [],_,h=>by
  unfold PairsAt at h;subst h
  exact⟨b,kb,p,[],rfl,rfl,h1,h2,rfl⟩
 | x::xs,_,⟨b',kb',p',r,e1,e2,e3,e4,e5⟩=>by
  subst e1;exact⟨b',kb',p',r++ [p],rfl,e2,e3,e4,e5.snoc h1 h2⟩
theorem PairsAt.move {H H':Hp}{D:Addr}{zs:List V}(hD:H D=some (.lst zs))(s:SameO (λa=>a=D) H H'):∀{xs:List V} {ps:List (List Key×V)},PairsAt H xs ps->PairsAt H' xs ps
 | [],_,h=>h
 | x::xs,_,⟨b,kb,p,r,e1,e2,e3,e4,e5⟩=>⟨b,kb,p,r,e1,e2,s _ _ e3 (lY e3 hD (λz=>nomatch z)),s _ _ e4 (lY e4 hD (λz=>nomatch z)),e5.move hD s⟩
theorem PairsAt.len {H:Hp}:∀{xs:List V} {ps:List (List Key×V)},PairsAt H xs ps->xs.length=ps.length
 | [],_,h=>by unfold PairsAt at h;subst h;rfl
 | x::xs,_,⟨b,kb,p,r,e1,e2,e3,e4,e5⟩=>by subst e1;rw[Oj,Oj,e5.len]
section
variable {X:Cx}
theorem wz {src:List (Option Nat)}{wi:TI}{te:TE}{σ:L2.St}{H:Hp}{Q:VK}{Z:En}{O:Ow}{l:List T}{kk:List (List Key)}(E:EnvO X.K O H Z σ)(hwi:∀R,(∀H1,Same H H1->∀J,MJ X.K O H1 l J->R J H1)->wi σ H R)(hz:l.length<=1000)(hk:l.map keyOf=kk.map some)(hs:0<src.length)
  (Acc:Hp->Addr->List V->Prop) (a0:∀H1 D,Same H H1->Nw X.K H1 D->Acc (upd H1 D (.lst [])) D [])
  (am:∀H1 H2 D vs ys,Acc H1 D vs->H1 D=some (.lst ys)->SameO (λa=>a=D) H1 H2->Acc H2 D vs)
  (hte:∀t∈l,∀σ' H' O' D vs ys (Q':VK),EnvM X.K O' noM H' ((bU src Z).set 0 (.va t)) σ'->Acc H' D vs->H' D=some (.lst ys)->(∀v H'',Same H' H''->Acc H'' D (vs++ [v])->Q' v H'')->te σ' H' Q')
  (hq:∀H1 D ys ps H',Same H H1->Nw X.K H1 D->Same H1 H'->H' D=some (.lst ys)->PairsAt H' ys ps->ps.map (·.1)=kk->Acc H' D (ps.map (·.2))->Q (.ref D) H') :
  Ik X.K wi src (B0 X (gN 0)) vj (Fb (hZ (oV 0) (hZ te sZ))) σ H Q:=by
 refine hwi _ λH1 s1 J hJ D hD hK=> ?_
 have nD:Nw X.K H1 D:=⟨hD,hK⟩
 have E1:=E.same s1
 have lk:l.length=kk.length:=by have:=congrArg PB hk;rwa [Ob,Ob]at this
 have hlen:0<(bU src Z).length:=by unfold bU;rw[Ob];exact hs
 let O':Ow:=λa=>O a\/a=D
 have subO:∀a,O' a->O a\/Nw X.K H1 a:=λa z=>z.elim .inl λw=> .inr (w▸nD)
 refine⟨λi m σ' ys H'=>m=l.length - i/\i<=l.length/\ys.length=i/\H' D=some (.lst ys)/\SameO (λa=>a=D) (upd H1 D (.lst [])) H' ∧
  ∃s0 ps,EnvM X.K O' noM H' ((bU src Z).set 0 s0) σ'/\PairsAt H' ys ps/\ps.map (·.1)=kk.take i/\Acc H' D (ps.map (·.2)),⟨l.length,?_⟩,?_⟩
 ·have sN:Same H1 (upd H1 D (.lst [])):=aQ hD _
  refine⟨by omega,Pj _,rfl,aI,λb o e _=>e,(bU src Z)[0],[],?_,rfl,rfl,a0 H1 D s1 nD⟩
  rw[UH]
  exact(wA E1 src).move (P:=λa=>a=D) (λa z=> .inr (z▸nD)) subO (λb o e _=>sN b o e) λa z=>by
   rcases z with z | z
   ·exact(E1.mtb a z).same sN
   ·rw[z];exact .inl ⟨_,aI⟩
 ·rintro i m σ' ys H' ⟨rfl,hi',hyl,hDl,hsm,s0,ps,E',hp,hkk,hacc⟩
  refine⟨hDl,?_⟩
  have sm1:SameO (λa=>a=D) H1 H':=λb o e nb=>hsm b o (by rw[aG nb];exact e) nb
  have it:=hJ (λa=>a=D) O' (λa z=> .inr (z▸nD)) subO i H' sm1 (λa z=>(E'.trk a z).some)
  by_cases hlt:i<l.length
  ·refine .inr ?_
   obtain⟨go,yl⟩:=it.2 l[i] (by simp)
   refine⟨go,by rw[hyl,PH];omega,λxx Hc y=> ?_⟩
   obtain⟨sc,rx⟩:=yl xx Hc y
   have Ec:=E'.same sc
   have eg:gN 0 l[i] ((bU src Z).set 0 s0)= .ok ((bU src Z).set 0 (.va l[i])):=by unfold gN;rw[if_pos (by rw[P5];exact hlen),Wx]
   refine⟨(bU src Z).set 0 s0,O',noM,l[i],Ec,rx,?_⟩
   rw[eg];intro σ1 Eg;unfold vj
   dsimp only
   rw[if_pos rfl];obtain⟨kv,ekv,rkv⟩:=Eg.val 0 l[i] (by rw[OW hlen])
   refine⟨kv,ekv,?_⟩
   have aC:Acc Hc D (ps.map (·.2)):=am H' Hc D _ ys hacc hDl λb o e _=>sc b o e
   have DC:Hc D=some (.lst ys):=sc _ _ hDl;refine hte l[i] (PQ hlt) σ1 Hc O' D _ ys _ Eg aC DC λv H4 s4 acc4=>⟨by show 2<=sizeLine;rw[PH];omega,λp hpn=> ?_⟩
   have D4:H4 D=some (.lst ys):=s4 _ _ DC
   have pD:p≠D:=λz=>by rw[z,D4]at hpn;cases hpn
   have E4:=Eg.same s4
   have ki:kk[i]'(by omega)=kk[i]'(by omega):=rfl
   have hki:keyOf l[i] =some (kk[i]'(by omega)):=by
    have:=congrArg (λz=>z[i]?) hk
    simp only[Ov,Of hlt,Of (show i<kk.length by omega),Xc]at this
    exact OP this
   obtain⟨kb,rfl,hkb⟩:=ip hki (rkv.same s4)
   have s46:SameO (λa=>a=D) H4 (upd (upd H4 p (.tup [.ref kb,v])) D (.lst (ys++ [.ref p]))):=λb o e nb=>by
    rw[aG nb,aG (λz=>by rw[z,hpn]at e;cases e)];exact e
   refine⟨by rw[aG (PM pD)];exact D4,l.length - (i+1),by omega,rfl,hlt,?_,aI,λb o e nb=>s46 b o (s4 _ _ (sc _ _ (hsm b o e nb))) nb,.va l[i],ps++ [(kk[i]'(by omega),v)],?_,?_,?_,?_⟩
   ·rw[Om,hyl];rfl
   ·exact E4.move (λa z=> .inl (.inr z)) (λa z=> .inl z) s46 λaa z=>by
     by_cases hz:aa=D
     ·rw[hz];exact .inl ⟨_,aI⟩
     ·exact(E4.trk aa z).elim (λ⟨vs,e⟩=> .inl ⟨vs,s46 _ _ e hz⟩) λ⟨vs,e⟩=> .inr ⟨vs,s46 _ _ e hz⟩
   ·refine((hp.same (sc.trans s4)).move D4 s46).snoc (kb:=kb) (p:=(kk[i]'(by omega),v)) ?_ ?_
    ·rw[aG pD,aI]
    ·exact s46 _ _ hkb (lY hkb D4 (λz=>nomatch z))
   ·rw[PF,hkk]
    show kk.take i++ [kk[i]'(by omega)] =kk.take (i+1)
    rw[List.take_append_getElem]
   ·rw[PF]
    exact am H4 _ D _ ys acc4 D4 s46
  ·refine .inl ⟨it.1 (by omega),?_⟩
   have sF:Same H1 H':=λb o e=>sm1 b o e λz=>by rw[z,hD]at e;cases e
   exact hq H1 D ys ps H' s1 nD sF hDl hp (by rw[hkk,Su (by omega)]) hacc
def tj (K:N6)(t:TE):TE:=λσ H Q=>t σ H λv H'=> ∃a xs ps,v= .ref a/\H' a=some (.lst xs)/\xs.length<=1000/\PairsAt H' xs ps/\∀q,Nw K H' q->Q (.ref q) (upd H' q (.dT (fR [] ps)))
theorem vS {e:Expr}{t:TE}{p pos:Pos}(hu:X.A.units+8<cLine)(hc:X.calm=true)(hm:X.mg "dict" =none)(ha:PE X e t)(hg:Gl X "dict")(hs:b8 e=true):PE X (.Call (.Name "dict" p) [e] [] pos) (tj X.K t):=by
 have h1:Oy [e] X.env=(false,eval e X.env)::Oy [] X.env:=bo hs;intro pins s σ H Q I hq;refine Pc (fg I hg hm (show Pb "dict" =some (.type "dict")by decide+kernel) ?_ (by decide) (by decide))
 refine Pa (cL (bF (te:=t) ha dQ h1 pos pins s σ H (λzs H'=>match zs with | [v] => ∃a xs ps,v= .ref a/\H' a=some (.lst xs)/\xs.length<=1000/\PairsAt H' xs ps/\∀q,Nw X.K H' q->Q (.ref q) (upd H' q (.dT (fR [] ps))) | _=>False) I ?_) λus s1 hh=> ?_) h1 rfl
 ·exact hq
 ·obtain⟨vs,H1,I1,r1,hv⟩:=hh
  match vs,hv,r1 with
  | [v],hv,r1=>
  obtain⟨a,xs,ps,ev,e1,e2,e3,e4⟩:=hv;subst ev;obtain⟨u,rfl,ru⟩:=r1.one;obtain rfl:u=OA a:=ru;exact wZ (I1.ok.hd hc) hu I1 e1 e2 e3 λq s' nw I'=>⟨.ref q,_,I',rfl,e4 q nw⟩
end
theorem mO:∀(ps kvs:List (List Key×V)),((kvs++ps).map (·.1)).Nodup->fR kvs ps=kvs++ps
 | [],kvs,_=>by rw[fR,Pz]
 | p::ps,kvs,h=>by
  have e:dP kvs p.1 p.2=kvs++ [p]:=by
   unfold dP;rw[if_neg];intro z;obtain⟨q,hq,e⟩:=Rw.mp z
   have e:=of_decide_eq_true e;rw[PF,PU]at h;exact h.2.2 q.1 (Oq.mpr ⟨q,hq,rfl⟩) p.1 (by simp) e
  rw[fR,e,mO ps (kvs++ [p]) (by rw[OS];exact h),OS]
  rfl
def gU (kk:List (List Key)):List (List Key×V):=kk.map λk=>(k,V.non)
theorem xU {kk:List (List Key)}:∀{ps:List (List Key×V)},ps.map (·.1)=kk->(∀v∈ps.map (·.2),v=V.non)->ps=gU kk:=by
 intro ps h1 h2;subst h1;unfold gU;rw[OM]
 conv=>lhs;rw[<-RG ps]
 exact ON λp hp=>Prod.ext rfl (h2 p.2 (Oq.mpr ⟨p,hp,rfl⟩))
section
variable {X:Cx}
def tPI0 (K:N6)(f:En->Rs (List T)):TI:=λσ H R=> ∃Z O,EnvO K O H Z σ/\match f Z with
 | .ok ts=> ∀H',Same H H'->∀J,MJ K O H' ts J->R J H'
 | _=>False
theorem tPI0.up {f:En->Rs (List T)}{σ:L2.St}{H:Hp}{R:It->Hp->Prop}(h:tPI0 X.K f σ H R):MO X f σ H R:=by
 obtain⟨Z,O,E,h⟩:=h;refine⟨Z,O,E,?_⟩
 cases q:f Z with
 | ok t=>rw[q]at h;exact h
 | err c=>rw[q]at h;exact h.elim
 | bad=>rw[q]at h;exact h.elim
def xJ (X:Cx)(src:List (Option Nat)):TE:=tj X.K (Ik X.K (tPI0 X.K (iS (vr 1))) src (B0 X (gN 0)) vj (Fb (hZ (oV 0) (hZ (tC .non) sZ))))
theorem Jl {eb tb ib:Expr}{p q1 pc lp pos:Pos}{jj:Nat}{sc:RI}{N':List Str}{src:List (Option Nat)}{x1}(hu:X.A.units+8<cLine)(hc:X.calm=true)(hm:X.mg "dict" =none)(hg:Gl X "dict")(S:LcScope X sc N' src)(hi:BB X tb ib (iS (vr 1)))
  (blk:∀cl C s₀ H₀ fp,EO (cA X sc cl N' C s₀ H₀ fp) tb (gN 0)/\PE (cA X sc cl N' C s₀ H₀ fp) eb (oV 0)/\b8 eb=true) (hs:∀x,Ph ib X.env x=pure x) :
  PE X (.Call (.Name "dict" p) [.ListComp (.Tuple [eb,.Constant .none jj pc] x1 q1) [⟨tb,ib,[],0⟩] sc lp] [] pos) (xJ X src):=
 PE.imp (vS hu hc hm (vR hc S hi (λcl C s₀ H₀ fp=>⟨(blk cl C s₀ H₀ fp).1,tT,tU (bF (blk cl C s₀ H₀ fp).2.1 (bF CN dQ (bo rfl)) (bo (blk cl C s₀ H₀ fp).2.2))⟩) hs) hg rfl) λσ H Q h=>tPI0.up h
theorem Cc {src:List (Option Nat)}{σ:L2.St}{H:Hp}{Q:VK}{Z:En}{O:Ow}{l:List T}{kk:List (List Key)}(E:EnvO X.K O H Z σ)(hf:iS (vr 1) Z= .ok l)(hz:l.length<=1000)(hk:l.map keyOf=kk.map some)(hn:kk.Nodup)(hs:0<src.length)
  (hq:∀d H',Same H H'->Nw X.K H d->H' d=some (.dT (gU kk))->Q (.ref d) H'):xJ X src σ H Q:=by
 have lk:l.length=kk.length:=by have:=congrArg PB hk;rwa [Ob,Ob]at this
 unfold xJ tj;refine wz (X:=X) (te:=tC .non) E (λR h=>⟨Z,O,E,by rw[hf];exact h⟩) hz hk hs (λ_ _ vs=> ∀v∈vs,v=V.non) (λ_ _ _ _ v h=>nomatch h) (λ_ _ _ _ _ h _ _=>h) (λt ht σ' H' O' D vs ys Q' _ acc _ k=>k _ H' (Same.refl H') λv hv=> ?_) λH1 D ys ps H' s1 nD s2 hD hp h1 h2=> ?_
 ·rcases OR.mp hv with z | z
  ·exact acc v z
  ·exact OB.mp z
 ·have e:ps=gU kk:=xU h1 h2
  refine⟨D,ys,ps,rfl,hD,by rw[hp.len,e];unfold gU;rw[Ob];omega,hp,λq nq=> ?_⟩
  have e2:fR [] ps=gU kk:=by rw[mO ps [] (by rw[P4,h1];exact hn),P4,e]
  rw[e2];exact hq q _ ((s1.trans s2).trans (aQ nq.1 _)) (lV (s1.trans s2) nq) aI
theorem vM {K:N6}{O:Ow}{H:Hp}:∀(l:List T) (kk:List (List Key)),l.length=kk.length->Reps K O H (l.map λ_=>T.non) ((gU kk).map (·.2))
 | [],[],_=>Reps.GM
 | _::l,_::kk,h=>Reps.Gc Rep.NA (vM l kk (by simpa using h))
 | [],_::_,h=>by simp at h
 | _::_,[],h=>by simp at h
theorem vI {K:N6}{O:Ow}{H:Hp}{l:List T}{kk:List (List Key)}(hk:l.map keyOf=kk.map some):∀{m:List T} {ds:List Addr},m.length=ds.length->(∀d∈ds,H d=some (.dT (gU kk)))->RowsR K O H (m.map λ_=>(l,l.map λ_=>T.non)) ds
 | [],[],_,_=>rfl
 | _::m,d::ds,h,hd=>⟨d,ds,gU kk,rfl,hd d Oe,by unfold gU;rw[OM];exact hk,vM l kk (by have:=congrArg PB hk;rwa [Ob,Ob]at this),vI hk (by simpa using h) λe he=>hd e (N8 _ he)⟩
 | [],_::_,h,_=>by simp at h
 | _::_,[],h,_=>by simp at h
theorem zW:∀{l:List T},nN l=true->∃kk:List (List Key),l.map keyOf=kk.map some
 | [],_=>⟨[],rfl⟩
 | t::l,h=>by
  unfold nN at h;rw[N9]at h;obtain⟨kk,e⟩:=zW h.2;obtain⟨k,ek⟩:=R7.mp h.1;exact⟨k::kk,by rw[Oc,Oc,ek,e]⟩
theorem Cr (i j:Nat){x:Str}{ea r ta ia:Expr}{p q1 lp p2 p3 pos:Pos}{x1}{sc:RI}{N':List Str}{src:List (Option Nat)}(hu:X.A.units+8<cLine)(hc:X.calm=true)(hm:X.mg "dict" =none)(hN:X.N.Nodup)
  (S:LcScope X sc N' [none,some j]) (hi:BB X ta ia (iS (vr j))) (hsr:0<src.length)
  (blk:∀cl C s₀ H₀ fp,EO (cA X sc cl N' C s₀ H₀ fp) ta (gN 0)/\PE (cA X sc cl N' C s₀ H₀ fp) ea (oV 0)/\PE (cA X sc cl N' C s₀ H₀ fp) r (xJ X src)) (h1:b8 ea=true:=by rfl) (h2:b8 r=true:=by rfl)
  (hs:autoParam (∀x,Ph ia X.env x=pure x) t_) (hg:Gl X "dict":=by rfl) (hix:X.N[i]? =some x:=by rfl) (hx:autoParam (Loc X.env.scope x) x_)
  (hsw:P6 (.Call (.Name "dict" p) [.ListComp (.Tuple [ea,r] x1 q1) [⟨ta,ia,[],0⟩] sc lp] [] p2) (some (.Name x p3)) pos.line X.env=pure false:=by rfl)
  (hf:autoParam (X.fn x=true\/X.env.scope.names.lookup x=some .local) r_) :
  qP X (.Assign [.Name x p3] (.Call (.Name "dict" p) [.ListComp (.Tuple [ea,r] x1 q1) [⟨ta,ia,[],0⟩] sc lp] [] p2) pos) (pq i j):=
 PS.imp (pz hN hix hx (vS hu hc hm (vR (g:=B0 X (gN 0)) (tc:=vj) (te:=Fb (hZ (oV 0) (hZ (xJ X src) sZ))) hc S hi (λcl C s₀ H₀ fp=>⟨(blk cl C s₀ H₀ fp).1,tT,tU (bF (blk cl C s₀ H₀ fp).2.1 (bF (blk cl C s₀ H₀ fp).2.2 dQ (bo h2)) (bo h1))⟩) hs) hg rfl) hsw hf) λD σ H hh_=>by
  obtain⟨Z,B,M,E,h⟩:=hh_;unfold pq at h
  cases qj:Z[j]? with
  | none=>rw[qj]at h;exact h.elim
  | some z=>
   rw[qj]at h
   match z,h,qj with
   | .va (.lst l),h,qj=>
    dsimp only at h
    by_cases hh:i<Z.length/\nN l=true/\(l.map keyOf).Nodup/\l.length<=1000
    ·rw[if_pos hh]at h
     obtain⟨hl,hky,hnd,hz⟩:=hh;obtain⟨kk,hk⟩:=zW hky
     have lk:l.length=kk.length:=by have:=congrArg PB hk;rwa [Ob,Ob]at this
     have hn:kk.Nodup:=by
      rw[hk]at hnd;exact(Wc.mp hnd).imp λh z=>h (by rw[z])
     have fj:iS (vr j) Z= .ok l:=by unfold iS vr;rw[qj];rfl
     have hlc:bU [none,some j] Z= [.em,.va (.lst l)]:=by unfold bU;simp[qj]
     unfold B1 tj
     refine wz (X:=X) (te:=xJ X src) E.o (λR h=>⟨Z,OO B M,E.o,by rw[fj];exact h⟩) hz hk (by simp)
      (λH' D vs=>H D=none/\Same H H'/\∃ds:List Addr,vs=ds.map V.ref/\ds.Nodup/\∀d∈ds,Nw X.K H d/\H' d=some (.dT (gU kk)))
      (λH1 D s1 nD=>⟨(lV s1 nD).1,s1.trans (aQ nD.1 _),[],rfl,Rc,λd h=>nomatch h⟩)
      (λH1 H2 D vs ys ⟨c1,c2,ds,c3,c4,c5⟩ hD s=>⟨c1,(λb o e=>s b o (c2 b o e) (λz=>by rw[z,c1]at e;cases e)),ds,c3,c4,λd hd=>⟨(c5 d hd).1,s _ _ (c5 d hd).2 (lY (c5 d hd).2 hD (λz=>nomatch z))⟩⟩)
      (λt ht σ' H' O' D vs ys Q' E' ⟨c1,c2,ds,c3,c4,c5⟩ hD k=>Cc (l:=l) (kk:=kk) ⟨noM,E'⟩ (by rw[hlc];rfl) hz hk hn hsr λd H'' s' nd hd=> ?_) λH1 D ys ps H' s1 nD s2 hD hp e1 ⟨c1,c2,ds,c3,c4,c5⟩=> ?_
     ·refine k _ H'' s' ⟨c1,c2.trans s',ds++ [d],by rw[c3,PF];rfl,?_,λe he=> ?_⟩
      ·refine PU.mpr ⟨c4,by simp,λu hu w hw=> ?_⟩
       rw[OB.mp hw];intro z
       have:=(c5 u hu).2;rw[z,nd.1]at this;cases this
      ·rcases OR.mp he with z | z
       ·exact⟨(c5 e z).1,s' _ _ (c5 e z).2⟩
       ·rw[OB.mp z]
        exact⟨lV c2 nd,hd⟩
     ·have hpl:ps.length=kk.length:=by rw[<-e1,Ob]
      refine⟨D,ys,ps,rfl,hD,by rw[hp.len];omega,hp,λq nq=> ?_⟩
      have e2:fR [] ps=ps:=by rw[mO ps [] (by rw[P4,e1];exact hn),P4]
      rw[e2]
      have qd:q∉ds:=λz=>by have:=(c5 q z).2;rw[nq.1]at this;cases this
      have dl:ds.length=ps.length:=by have:=congrArg PB c3;rw[Ob,Ob]at this;exact this.symm
      have hm':∀b,b=q\/b∈ds->Nw X.K H b:=λb z=>z.elim (λw=>w▸lV c2 nq) λw=>(c5 b w).1
      have sF:Same H (upd H' q (.dT ps)):=c2.trans (aQ nq.1 _);obtain⟨E2,sub⟩:=E.new (m:=λb=>b=q\/b∈ds) (o:=.dd l (l.map λ_=>(l,l.map λ_=> .non))) (v:=.ref q) (H':=upd H' q (.dT ps)) hl hm' sF ⟨q,ps,ds,rfl,λb=>S9,qd,c4,aI,by rw[hk,<-e1,OM];rfl,c3,vI hk (by omega) λd hd=>by rw[aG (show d≠q from λz=>qd (z▸hd))];exact(c5 d hd).2⟩
      exact h _ _ _ (SameO.of sF) E2 sub
    ·rw[if_neg hh]at h;exact h.elim
   | .em,h,_=>exact h.elim
   | .ow _,h,_=>exact h.elim
   | .va .non,h,_=>exact h.elim
   | .va (.bl _),h,_=>exact h.elim
   | .va (.int _),h,_=>exact h.elim
   | .va (.str _),h,_=>exact h.elim
   | .va (.tup _),h,_=>exact h.elim
   | .va (.scr _),h,_=>exact h.elim
   | .va (.dct _ _),h,_=>exact h.elim
end
theorem Au {X:Cx}(i j:Nat){x:Str}{ea r ta ia:Expr}{p q1 lp p2 p3 pos:Pos}{x1}{sc:RI}{N':List Str}{src:List (Option Nat)}(hu:X.A.units+8<cLine)(hc:X.calm=true)(hm:X.mg "dict" =none)(hN:X.N.Nodup)
  (S:LcScope X sc N' [none,some j]) (hi:QI X ta ia (iS (vr j))) (hsr:0<src.length)
  (blk:∀cl C s₀ H₀ fp,QG (cA X sc cl N' C s₀ H₀ fp) ta (gN 0)/\PE (cA X sc cl N' C s₀ H₀ fp) ea (oV 0)/\PE (cA X sc cl N' C s₀ H₀ fp) r (xJ X src)) (h1:b8 ea=true:=by rfl) (h2:b8 r=true:=by rfl)
  (hs:autoParam (∀x,Ph ia X.env x=pure x) t_) (hg:Gl X "dict":=by rfl) (hix:X.N[i]? =some x:=by rfl) (hx:autoParam (Loc X.env.scope x) x_)
  (hsw:P6 (.Call (.Name "dict" p) [.ListComp (.Tuple [ea,r] x1 q1) [⟨ta,ia,[],0⟩] sc lp] [] p2) (some (.Name x p3)) pos.line X.env=pure false:=by rfl)
  (hf:autoParam (X.fn x=true\/X.env.scope.names.lookup x=some .local) r_) :
  QS X (.Assign [.Name x p3] (.Call (.Name "dict" p) [.ListComp (.Tuple [ea,r] x1 q1) [⟨ta,ia,[],0⟩] sc lp] [] p2) pos) (pq i j):=
 ⟨Cr i j hu hc hm hN S hi.h hsr (λcl C s₀ H₀ fp=>⟨(blk cl C s₀ H₀ fp).1.h,(blk cl C s₀ H₀ fp).2⟩) h1 h2 hs hg hix hx hsw hf⟩
theorem KP {X:Cx}{k k':Nat}{x:Str}{g:List T->Rs T}{p pos:Pos}(c:Cl X.prog X.w X.K X.mg X.base k x 0 g)(hr:Room k' X.A)(hk:autoParam (k<=k') s_)(hg:Gl X x:=by rfl)(h2:autoParam ((x == Oo "__debug__")=false) s_):QE X (.Call (.Name x p) [] [] pos) (c0 g):=by
 obtain⟨f,fd,ps,h1,h3,h4,h5,h6⟩:=c.ex;exact⟨q_c0 h6 (hr.mono hk) h1 h3 h4 hg h2⟩
theorem fsc {N P:List Str}{sc:RI}(h1:sc.kind= .function:=by rfl)(h2:sc.isCoroutine=false:=by rfl)(h3:sc.isGenerator=false:=by rfl)(h4:autoParam (N.Nodup) y_)(h5:N.take P.length=P:=by rfl)
  (h6:autoParam (∀x∈P,sc.names.lookup x=some .local\/sc.names.lookup x=some .cell) y_) (h7:autoParam (∀y∈sc.names,y.2≠ .free) y_):dj N P sc:=⟨h1,h2,h3,h4,h5,h6,h7⟩
theorem xA {X:Cx}{a b c:Expr}{fs:En->Rs (List T)}{p pos:Pos}{tg:Expr}(hm:X.mg "range" =none)(ha:QA X [a,b,c] fs)(hg:Gl X "range":=by rfl)(hn:bj [a,b,c] =true:=by rfl):QI X tg (.Call (.Name "range" p) [a,b,c] [] pos) (Mh fs):=⟨AI hm ha.h hg hn⟩
end Tr
namespace Tr
open PySem
def tbl (pl:List Nat)(L:Bool):SetTable:={ mask:=7,place:=pl.toArray,dummies:=#[],finger:=0,led:=L,moves:=0,plain:=true }
end Tr
namespace L2
open PySem PySem.Spec PyProof.Rows PySem.W
def MZ (K:Frag)(mg:Str->Option Oa):Prop:=∃bm ob,mg "__builtins__" =some (.ref bm)/\bm≠Sa/\bm≠OL/\K.lookup bm=some ob/\ob.cls= .type "module"/\ob.dict=some Sa/\ob.data= .plain
theorem yR {pos pos':Pos}{c v:Oa}(l:List Oa)(h:TriplesOk l):TZ pos' (l++ [rawInt pos.line,rawInt pos.col,c])=some v->TZ pos' l=some v\/v=c:=by
 fun_induction TriplesOk l with
 | case1=>
  intro e;simp only[P4,TZ,rawInt]at e
  split at e
  ·exact .inr (OP e).symm
  ·cases e
 | case2 a t b u x dv ih=>
  intro e;simp only[WM,TZ]at e ⊢
  split at e
  ·rename_i hc;rw[if_pos hc];exact .inl e
  ·rename_i hc;rw[if_neg hc];exact ih h e
 | case3 l h1 h2=>exact h.elim
section
variable {X:Cx}{pins:List (Addr×Obj)}{σ:List (Option V)}{H:Hp}{s:Od}
def MI (H:Hp)(P:Addr)(h:Heap)(mg:Str->Option Oa)(q:Str)(params:SQ)(body:Expr)(scope:RI)(f:Addr):Prop:=∃c ctv,h.get? f=some (kla_obj "<lambda>" q params body scope [] ((mg "__name__").getD .none) c ctv)/\h.CodeRec (.ref c) q/\H c=some (.own P)
theorem Dt {params:SQ}{body:Expr}{scope:RI}{pos:Pos}{c P:Addr}(I:Inv X pins σ H s)(hcode:X.env.code= .ref c)(C:CodeHd X.base c P)(hP:H P=some (.tbl (X.env.qual++ "<lambda>")))(B:MZ X.K X.mg)
  (hdef:defaultsOf params X.env=([],[])) (hcl:U0 scope X.env=pure []) {Q:Oa->Od->Prop} {E:Oa->Od->Prop}
  (q:∀f H' h' tk,s.heap.objs.size<=f->Same H H'->Inv X pins σ H' { s with heap:=h',toks:=tk }->H' f=none->MI H' P h' X.mg (X.env.qual++ "<lambda>") params body scope f->Q (.ref f) { s with heap:=h',toks:=tk }) :
  wpAny (model X.prog X.w) X.A (eval (.Lambda params body scope pos) X.env) Q E s:=by
 refine kla_eval hdef ?_
 obtain⟨bm,ob,b1,b2,b3,b4,b5,b6,b7⟩:=B
 have eb:X.base.get? bm=some ob:=I.mod.kin bm ob b4
 have hbP:bm≠P:=λz=>by have:=(I.bs bm ob eb).2;rw[z,hP]at this;cases this
 have hgs:s.heap.Ns OL X.mg:=I.mod.glob.keeps I.bk
 have hgP:OL≠P:=λz=>by
  obtain⟨o,es,ep,e,_⟩:=I.mod.glob
  have:=(I.bs _ o e).2;rw[z,hP]at this;cases this
 have hB:s.heap.BuiltinsAt X.mg P:=⟨bm,ob,b1,b2,b3,hbP,I.bk _ _ eb,b5,b6,b7⟩
 have hC:CodeHd s.heap c P:=C.keeps I.bk;obtain⟨ps,e,ht,r⟩:=I.hok P _ hP
 cases hf:TZ pos ps.toList with
 | none=>
  have hnf:=hf;refine kla_makeFunction (mg:=X.mg) hcl I.ok.glob hgs hcode hC e ht hnf hgP hB λc' ctv h' tk hx hge hlt hrec htb=> ?_
  have hn':H c'=none:=I.hok.fresh hge
  have ncP:c'≠P:=λz=>by rw[z,hP]at hn';cases hn'
  have same:Same H (upd H c' (.own P)):=λb o eb=>by rw[aG (λz=>by rw[z,hn']at eb;cases eb)];exact eb
  have pk:∀b u,b≠P->s.heap.get? b=some u->(h'.push (kla_obj "<lambda>" (X.env.qual++ "<lambda>") params body scope [] ((X.mg "__name__").getD .none) c' ctv)).get? b=some u:=λb u n eb=>Oh _ (hx b u n eb)
  obtain⟨c₂,oc,vs,t,ee,hoc,hd,hv⟩:=hrec;cases ee
  have htb':=Oh (kla_obj "<lambda>" (X.env.qual++ "<lambda>") params body scope [] ((X.mg "__name__").getD .none) c' ctv) htb
  have hoc':=Oh (kla_obj "<lambda>" (X.env.qual++ "<lambda>") params body scope [] ((X.mg "__name__").getD .none) c' ctv) hoc
  have sz:s.heap.objs.size<=h'.objs.size:=Qb (RC hge hlt);refine q h'.objs.size (upd H c' (.own P)) _ tk sz same ?_ ?_ ⟨c',ctv,Oz _ rfl,⟨c',oc,vs,t,rfl,hoc',hd,hv⟩,aI⟩
  ·refine I.un ⟨λb u eb n _ _=>pk b u (λz=>by rw[z,hP]at n;cases n) eb,λb u eb n _ _=>⟨u.slots,pk b u (λz=>by rw[z,hP]at n;cases n) eb⟩,λb u eb n _=> ?_,λb u eb _=> ?_,λb xs eb=>same _ _ eb,λb o u eb=>same _ _ eb,λb ps eb=>same _ _ eb⟩ λb u eb=> ?_
   ·rw[aG (O7 (Os (Ou eb) hge))];exact n
   ·by_cases hb:b=P
    ·exact⟨_,hb▸htb'⟩
    ·exact⟨u,pk b u hb eb⟩
   ·by_cases hb:b=c'
    ·subst hb
     rw[aI]at eb;cases eb;exact⟨oc,hoc'⟩
    ·rw[aG hb]at eb
     by_cases hbP:b=P
     ·subst hbP
      rw[hP]at eb;cases eb;refine⟨_,htb',?_,λpos' v ev=> ?_⟩
      ·have:=TriplesOk_snoc pos.line pos.col (.ref c') ps.toList ht
       simpa using this
      ·have ev':TZ pos' (ps.toList++ [rawInt pos.line,rawInt pos.col,.ref c'])=some v:=by simpa using ev
       rcases yR ps.toList ht ev' with z | z
       ·obtain⟨c2,o2,v2,t2,a1,a2,a3,a4⟩:=r pos' v z
        exact⟨c2,o2,v2,t2,a1,same _ _ a2,pk _ _ (λz=>by rw[z,hP]at a2;cases a2) a3,a4⟩
       ·exact⟨c',oc,vs,t,z,aI,hoc',hd,hv⟩
     ·exact(I.hok b u eb).M5 (λd v hd' qd=>pk d v (λz=>by
       rcases hd' with hd' | hd'
       ·exact hbP (hd'.symm.trans z)
       ·rw[z,hP]at hd';cases hd') qd) (λd qd=>same _ _ qd) λd xs qd=>same _ _ qd
  ·rw[aG (QF hlt)]
   exact I.hok.fresh sz
 | some v=>
  obtain⟨c',oc,vs,t,rfl,ho,e2,d2,v2⟩:=r pos v hf;refine kla_makeFunctionHit (mg:=X.mg) hcl I.ok.glob hgs hcode hC e ht hf hB λctv h' tk hk hsz=> ?_
  have kk:∀b u,s.heap.get? b=some u->(h'.push (kla_obj "<lambda>" (X.env.qual++ "<lambda>") params body scope [] ((X.mg "__name__").getD .none) c' ctv)).get? b=some u:=λb u eb=>Oh _ (hk b u eb)
  exact q h'.objs.size H _ tk hsz (λ_ _ e=>e) (I.kept kk) (I.hok.fresh hsz) ⟨c',ctv,Oz _ rfl,⟨c',oc,vs,t,rfl,kk _ _ e2,d2,v2⟩,ho⟩
end
def MH (h:Heap)(mg:Str->Option Oa)(q:Str)(params:SQ)(body:Expr)(scope:RI)(f:Addr):Prop:=∃c ctv,h.get? f=some (kla_obj "<lambda>" q params body scope [] ((mg "__name__").getD .none) c ctv)/\h.CodeRec (.ref c) q
theorem Du {CX:BL}{P:OH}{w:Px}{K:Frag}{mg:Str->Option Oa}{base:Heap}{k:Nat}{f:Addr}{q:Str}{params:SQ}{body:Expr}{scope:RI}{N ps:List Str}{A:OV}{outer:List Env}{s:Od}{H:Hp}{us:List Oa}{vs:List V}{Q:VK}{E:XK}
  (L:MH s.heap mg q params body scope f) (S:dj N ps scope) (hr:Room (k+1) A) (e0:Env0 P w K mg base A outer s H)
  (hb:∀c ctv,VQ (kla_fn "<lambda>" q params body scope [] ((mg "__name__").getD .none) (.ref c) ctv) ⟨us,[]⟩=pure (ps.zip us)) (hl:vs.length=ps.length) (r:Vals vs us)
  (hbody:∀c,∃t,PE (jk CX P w K mg base N q scope f (.ref c) A outer s H E) body t/\t (start N vs) H Q) :
  codeAny (model P w) A (.call (.ref f) ⟨us,[]⟩) (CR CX outer P w H s Q E) s:=by
 obtain⟨c,ctv,ho,hcd⟩:=L
 have lim:s.heap.NoLimit:=e0.mod.nolimit.keeps λb o e=>(e0.bs b o e).1
 have hkind:∀y∈ps.zip us,scope.names.lookup y.1=some .local\/(scope.names.lookup y.1=some .cell/\((QV (s.heap.objs.size+1) scope.names []).lookup y.1).isSome=true):=λ⟨n,v⟩ hy=>by
  rcases S.par n (Rh hy).1 with q | q
  ·exact .inl q
  ·exact .inr ⟨q,Q0 _ _ _ (.inl q)⟩
 refine kla_callFunE hr.depth ho rfl S.co S.gen rfl hcd ?_
 rw[hb c ctv];refine Ol (Q4 S.kind hkind λenv he s1 x=> ?_)
 subst he;refine⟨lim.keeps x.toInCall.keep,kla_codeExpr ?_⟩
 obtain⟨t,ht,hq⟩:=hbody c
 have I:Inv (jk CX P w K mg base N q scope f (.ref c) A outer s H E) [] (start N vs) H s1:=kE S hr.hd e0 hl r x;exact Qo (ht [] s1 (start N vs) H _ I hq) (λu s' ⟨v,H',J,rv,q⟩=>⟨v,H',J.os,J.bare,J.base,J.hok,rv,q⟩) λe s' hs=>hs
end L2
namespace HT
open PySem PyProof.Rows
open PySem.SeqAt
open PySem.AutoSeq1 (wpAny_loadPart')
open PySem.MeetsSeq PySem.MeetsSeq2 PySem.MeetsSeq3
theorem oE {vs:List Oa}{ns:List Int}(h:Qp vs ns):∀{i:Nat} {v:Oa},vs[i]? =some v->∃n t,ns[i]? =some n/\v= .int n t:=by
 induction h with
 | nil=>intro i v e;cases e
 | cons n t r ih=>
  intro i v e
  cases i with
  | zero=>cases e;exact⟨n,t,rfl,rfl⟩
  | succ i=>exact ih (by simpa using e)
theorem Dg (l b:Addr)(items items2:Array Oa)(n n2:Nat)(dd dd2:Option Addr)(sl sl2:Array (Option Oa))(ns ms:List Int)(hi:Qp items.toList ns)(hj:Qp items2.toList ms)(k:Nat) :
  ∀i:Nat,items.size - i=k->i<=items.size->i<=items2.size->Meets (Builtin.«list.__eq__.loop» ⟨[.ref l,.ref b,rawInt i,rawInt 0],[]⟩)
   (λ_ R s=>s.heap.get? l=some { cls:=.type "list",dict:=dd,data:=.seq items n,slots:=sl }/\s.heap.get? b=some { cls:=.type "list",dict:=dd2,data:=.seq items2 n2,slots:=sl2 } ∧
    R (.ok (.ret (.bool (lexLt (ns.drop i) (ms.drop i))))) s):=by
 have z1:items.size=ns.length:=by rw[<-hi.length];simp
 have z2:items2.size=ms.length:=by rw[<-hj.length];simp
 induction k with
 | zero=>
  intro i hk h1 h2 prog w A R s h;obtain⟨hp,g,d,tk,os⟩:=s;obtain⟨hl,hb,h⟩:=h
  wp_walk using O0 hl,O0 hb
  have hi1:items[((i:Nat):Int).toNat]? =none:=by simp;omega
  have hv:lexLt (ns.drop i) (ms.drop i)=decide (items.size<items2.size):=by
   rw[Q1 (by omega)]
   cases q:ms.drop i with
   | nil=>
    have:=List.drop_eq_nil_iff.mp q
    rw[ro];exact(decide_eq_false (by omega)).symm
   | cons y ys=>
    have:i<ms.length:=by
     have:=congrArg PB q;rw[QK,Oj]at this;omega
    rw[qh];exact(decide_eq_true (by omega)).symm
  rw[hv]at h;rw[hi1]
  wp_walk using O0 hl,O0 hb
  exact h
 | succ k ih=>
  intro i hk h1 h2 prog w A R s h;obtain⟨hp,g,d,tk,os⟩:=s;obtain⟨hl,hb,h⟩:=h
  wp_walk using O0 hl,O0 hb
  have hlt:i<items.size:=by omega
  have hi1:items[((i:Nat):Int).toNat]? =some items[i]:=by simp[hlt]
  obtain⟨a,t,ha,hva⟩:=oE hi (i:=i) (v:=items[i]) (by simp[hlt])
  obtain⟨hl1,ha1⟩:=Oi.mp ha
  have hdn:ns.drop i=a::ns.drop (i+1):=by rw[Qx hl1,ha1]
  by_cases hlt2:i<items2.size
  ·have hi2:items2[((i:Nat):Int).toNat]? =some items2[i]:=by simp[hlt2]
   obtain⟨c,u,hc',hvc⟩:=oE hj (i:=i) (v:=items2[i]) (by simp[hlt2])
   obtain⟨hl2,hc2⟩:=Oi.mp hc'
   have hdm:ms.drop i=c::ms.drop (i+1):=by rw[Qx hl2,hc2]
   have hc:((i:Int)+1)=((i+1:Nat):Int):=by push_cast;rfl
   rw[hdn,hdm,lexLt_cons]at h;rw[hi1,hi2,hva,hvc];obtain⟨e,he,hiff⟩:=Ee A.in1 ⟨hp,g,d,tk,os⟩ a t c u;refine N7 (he prog w _ _ ?_)
   cases e with
   | true=>
    rw[if_pos (hiff.mp rfl)]at h
    wp_walk
    rw[hc]
    exact⟨Ru plain_eq_loop _,QY entry_eq_loop (by
     rw[Qm plain_eq_loop _]
     exact ih (i+1) (by omega) (by omega) (by omega) prog w A R _ ⟨hl,hb,h⟩)⟩
   | false=>
    rw[if_neg (λq=>absurd (hiff.mpr q) OF)]at h
    wp_walk using O0 hl,O0 hb
    rw[hi1,hi2,hva,hvc]
    have hri:=Co A.in1 ⟨hp,g,d,tk,os⟩ a t c u prog w
    wp_walk using hri
    exact h
  ·have hi2:items2[((i:Nat):Int).toNat]? =none:=by simp;omega
   have hm:ms.drop i= []:=Q1 (by omega)
   rw[hdn,hm,qi]at h;rw[hi1,hi2]
   wp_walk using O0 hl,O0 hb
   have hf:decide (items.size<items2.size)=false:=decide_eq_false (by omega)
   rw[<-hf]at h;exact h
theorem uA (l b:Addr)(items items2:Array Oa)(n n2:Nat)(dd dd2:Option Addr)(sl sl2:Array (Option Oa))(ns ms:List Int)(hi:Qp items.toList ns)(hj:Qp items2.toList ms) :
  Meets (Builtin.«list.__lt__» ⟨[.ref l,.ref b],[]⟩)
   (λ_ R s=>s.heap.get? l=some { cls:=.type "list",dict:=dd,data:=.seq items n,slots:=sl }/\s.heap.get? b=some { cls:=.type "list",dict:=dd2,data:=.seq items2 n2,slots:=sl2 } ∧
    R (.ok (.ret (.bool (lexLt ns ms)))) s):=by
 intro prog w A R s h;obtain⟨hp,g,d,tk,os⟩:=s;obtain⟨hl,hb,h⟩:=h
 have f3:=AutoSeq1.sub_list_list
 wp_walk using O0 hl,O0 hb
 exact⟨Ru plain_eq_loop _,QY entry_eq_loop (by
  rw[Qm plain_eq_loop _];exact Dg l b items items2 n n2 dd dd2 sl sl2 ns ms hi hj _ 0 rfl (Pj _) (Pj _) prog w A R _ ⟨hl,hb,by simpa using h⟩)⟩
section
variable {prog:OH}{w:Px}{A:OV}{E:Oa->Od->Prop}{s:Od}
theorem lt_lstInts {l b:Addr}{items items2:Array Oa}{n n2:Nat}{ns ms:List Int}{Q:Oa->Od->Prop}(hl:s.heap.get? l=some (seqObj "list" items n))(hb:s.heap.get? b=some (seqObj "list" items2 n2))(hi:Qp items.toList ns)(hj:Qp items2.toList ms)
  (hu:A.units<cLine) (h:Q (.bool (lexLt ns ms)) s):wpAny (model prog w) A (Po .Lt (.ref l) (.ref b)) Q E s:=
 Sv (op:=.Lt) ⟨_,hl,rfl⟩ ⟨_,hb,rfl⟩ PySem.F.slot_list_lt PySem.F.entry_list_lt (PySem.F.args_list_lt_2 _ _) (uA l b items items2 n n2 none none #[] #[] ns ms hi hj)
  ⟨hl,hb,show Pp (lexLt ns ms)≠U5/\Q (.bool (lexLt ns ms)) s from⟨(λx=>nomatch x),h⟩⟩ hu
end
end HT
namespace HT
open PySem PyProof.Rows
open PySem.SeqAt
section
variable {prog:OH}{w:Px}{A:OV}{E:Oa->Od->Prop}{s:Od}
theorem Kz:∀{ns ms:List Int},ns.length=ms.length->((On ns.length).all λj=>ns.getD j 0 == ms.getD j 0)=decide (ns=ms):=λ{ns ms} h=>by
 rw[Pe,OG,decide_eq_true_iff]
 constructor
 ·intro g
  refine R1 h λi h1 h2=> ?_
  have:=g i (OY.mpr h1);rw[beq_iff_eq,O5,O5,Of h1,Of h2]at this
  exact this
 ·rintro rfl i _
  exact beq_self_eq_true _
theorem eq_lstInts {l b:Addr}{items items2:Array Oa}{n n2:Nat}{ns ms:List Int}{Q:Bool->Od->Prop}(hl:s.heap.get? l=some (seqObj "list" items n))(hb:s.heap.get? b=some (seqObj "list" items2 n2))(hi:Qp items.toList ns)(hj:Qp items2.toList ms)
  (hu:A.units<cLine) (h:Q (decide (ns=ms)) s):wpAny (model prog w) A (eqBool (.ref l) (.ref b)) Q E s:=by
 have z1:items.size=ns.length:=by rw[<-hi.length];simp
 have z2:items2.size=ms.length:=by rw[<-hj.length];simp
 unfold eqBool;refine P7 ?_
 refine Xo (λhab=> ?_) (λ_=> ?_)
 ·cases eq_of_beq hab
  rw[hl]at hb;cases hb;rw[decide_eq_true (hi.nums.symm.trans hj.nums)]at h
  show wpAny (model prog w) _ (pure true) Q E s
  exact Ol h
 ·refine N7 ?_
  by_cases hsz:items.size=items2.size
  ·refine Sv (op:=.Eq) ⟨_,hl,rfl⟩ ⟨_,hb,rfl⟩ U2 Uz (Uo _ _) (list_eqAt l b items items2 n n2 none none #[] #[] hsz λj=>ns.getD j 0 == ms.getD j 0) ⟨hl,hb,λj h1 h2=> ?_,?_⟩ hu
   ·obtain⟨x,t,hx,hvx⟩:=oE hi (i:=j) (v:=items[j]) (by simp[h1])
    obtain⟨y,u,hy,hvy⟩:=oE hj (i:=j) (v:=items2[j]) (by simp[h2])
    rw[hvx,hvy,O5,O5,hx,hy]
    exact Vs x t y u
   ·rw[z1,Kz (by omega)]
    exact⟨(λx=>nomatch x),Pg h⟩
  ·refine Sv (op:=.Eq) ⟨_,hl,rfl⟩ ⟨_,hb,rfl⟩ U2 Uz (Uo _ _) (list_eq_lengthsAt l b items items2 n n2 none none #[] #[] (by simpa using hsz)) ⟨hl,hb,?_⟩ hu
   rw[decide_eq_false (λz=>hsz (by rw[z1,z2,z]))]at h
   exact⟨(λx=>nomatch x),Pg h⟩
end
end HT
namespace Tr
open PySem PySem.Spec PyProof.Rows L2 PySem.W
def iW:RI:={ kind:=.function,names:=[("numbers",.local),("len",.globalImplicit)],isGenerator:=false,isCoroutine:=false,more:=[] }
def m5 (p:Pos):SQ:={ posonlyargs:=[],args:=[{ arg:="numbers",annotation:=none,pos:=p }],vararg:=none,kwonlyargs:=[],kw_defaults:=[],kwarg:=none,defaults:=[] }
def oy (p1 p2 p3 p4 p5 p6:Pos):Expr:=.Tuple [.UnaryOp .USub (.Call (.Name "len" p1) [.Name "numbers" p2] [] p3) p4,.Name "numbers" p5] 0 p6
structure KpF (F:List Addr)(h h':Heap):Prop where
 keep:∀b o,b∉F->h.get? b=some o->h'.get? b=some o
 slot:∀b o,b∈F->h.get? b=some o->∃sl,h'.get? b=some { o with slots:=sl }
theorem KpF.trans {F:List Addr}{h h1 h2:Heap}(a:KpF F h h1)(b:KpF F h1 h2):KpF F h h2:=⟨λc o n e=>b.keep c o n (a.keep c o n e),λc o n e=>by
 obtain⟨sl,e1⟩:=a.slot c o n e;obtain⟨sl',e2⟩:=b.slot c _ n e1;exact⟨sl',e2⟩⟩
def VF (F:List Addr)(h:Heap)(v:Oa)(ns:List Int):Prop:=∃k t tk b its n ms,v= .ref k/\k∉F/\b∉F/\h.IsTuple k #[.int t tk,.ref b]/\h.get? b=some (seqObj "list" its n)/\Qp its.toList ms/\ns=t::ms
theorem VF.keep {F:List Addr}{h h':Heap}{v:Oa}{ns:List Int}(a:VF F h v ns)(k:∀b o,b∉F->h.get? b=some o->h'.get? b=some o):VF F h' v ns:=by
 obtain⟨q,t,tk,b,its,n,ms,e,h1,h2,⟨o,g,r⟩,h4,h5,h6⟩:=a;exact⟨q,t,tk,b,its,n,ms,e,h1,h2,⟨o,k _ _ h1 g,r⟩,k _ _ h2 h4,h5,h6⟩
theorem Fh {P:OH}{w:Px}{H:Hp}{h:Heap}{b:Addr}{ms:List Int}(hok:HOk P w H h)(q:SqL [] H b (ms.map V.int)):(∃u,H b=some u)/\∃its n,h.get? b=some (seqObj "list" its n)/\Qp its.toList ms:=by
 have back:∀{xs:List Int} {us:List Oa},Vals (xs.map V.int) us->Qp us xs:=by
  intro xs
  induction xs with
  | nil=>intro us r;cases r;exact .nil
  | cons x xs ih=>
   intro us r
   cases r with
   | cons a r=>
    obtain⟨t,rfl⟩:=a;exact .cons x t (ih r)
 rcases q with(q | ⟨o,q⟩) | ⟨o,xs,n,z,_⟩
 ·obtain⟨_,its,n,rv,e⟩:=hok b _ q
  exact⟨⟨_,q⟩,its.toArray,n,e,by simpa using back rv⟩
 ·obtain⟨_,_,its,n,rv,e⟩:=hok b _ q
  exact⟨⟨_,q⟩,its.toArray,n,e,by simpa using back rv⟩
 ·cases z
section
variable {X:Cx}{pins:List (Addr×Obj)}{σ:L2.St}{H:Hp}{s:Od}
theorem Dv {CX:BL}{P:OH}{w:Px}{mg:Str->Option Oa}{base:Heap}{q:Str}{f:Addr}{cd:Oa}{A:OV}{outer:List Env}{s:Od}{H:Hp}{E:XK}{p1 p2 p3 p4 p5 p6:Pos}(hm:mg "len" =none) :
  c8 (jk CX P w [] mg base ["numbers"] q iW f cd A outer s H E) (oy p1 p2 p3 p4 p5 p6) (aP (ae (o1 kP (cl cz (ae (vr 0) aj))) (ae (vr 0) aj))):=
 Hr (om (Hs (zo cJ hm (by decide+kernel) (om (Cu 0) xX))) (om (Cu 0) xX))
theorem Ds {k:Nat}{f a:Addr}{q:Str}{ob:Obj}{its:List Oa}{n:Nat}{ms:List Int}{pp p1 p2 p3 p4 p5 p6:Pos}{E:Oa->Od->Prop}{G:List Addr}(I:Inv X pins σ H s)(hr:Room (k+3) X.A)(L:MH s.heap X.mg q (m5 pp) (oy p1 p2 p3 p4 p5 p6) iW f)
  (ha:H a≠none) (ho:s.heap.get? a=some (seqObj "list" its.toArray n)) (hi:Qp its ms) (hz':its.length<=sizeLine) (hm:X.mg "len" =none) (hG:∀c∈G,c≠a/\∃o,s.heap.get? c=some o) :
  wpAny (model X.prog X.w) X.A.in1.in1 (call (.ref f) [.ref a]) (λu s'=>s'.os=s.os/\Rk s'.gens/\KpF (kF X.stack) s.heap s'.heap/\VF G s'.heap u ((-(ms.length:Int))::ms)) E s:=by
 have hl:=hi.length
 have e0:=I.Np
 let H2:Hp:=λb=>if b=a then some (.frz (seqObj "list" its.toArray n) (.lst (ms.map V.int)))else none
 have h2a:H2 a=some (.frz (seqObj "list" its.toArray n) (.lst (ms.map V.int))):=if_pos rfl
 have h2n:∀b,b≠a->H2 b=none:=λb hb=>if_neg hb
 have naF:∀b∈kF X.stack,b≠a:=λb hb z=>ha (z▸e0.frf b hb)
 have hok2:HOk X.prog X.w H2 s.heap:=λb u e=>by
  by_cases hb:b=a
  ·subst hb
   rw[h2a]at e;cases e;exact⟨ho,by rw[Ob];omega,its,n,mF hi,ho⟩
  ·rw[h2n b hb]at e;cases e
 have e1:Env0 X.prog X.w [] X.mg X.base X.A X.stack s H2:=⟨e0.frames,⟨(λb o e=>by cases e),e0.mod.glob,e0.mod.blt,e0.mod.nolimit⟩,λb o e=>⟨(e0.bs b o e).1,h2n b λz=>ha (z▸(e0.bs b o e).2)⟩,e0.bsz,e0.funs,λb hb=>h2n b (naF b hb),hok2,e0.bare,λf o fd c oc vs P _ e=>by cases e⟩
 refine UX (Sb (Du (CX:=λ_ _ _ _ _ _=>False) (E:=λ_ _ _=>False) (N:=["numbers"]) (ps:=["numbers"]) (us:=[.ref a]) (vs:=[.ref a]) (Q:=λv H'=>Same H2 H'/\∃kk b,v= .ref kk/\H' kk=some (.tup [.int (-(ms.length:Int)),.ref b])/\SqL [] H' b (ms.map V.int)) L fsc hr.in1.in1 e1.in1.in1 (λc ctv=>rfl) rfl (.cons rfl .nil) λc=>⟨_,Dv hm,[.va (.scr ms)],zG,⟨λ_ _=>False,rfl,λi t e=> ?_,λi o e=> ?_,λ_ _ z=>z.elim,λ_ _ _ z=>z.elim,λ_ z=>z.elim⟩,?_⟩) λr s' hq=> ?_)
 ·cases i with
  | zero=>cases e;exact⟨.ref a,rfl,by unfold Rep;exact⟨a,rfl,λz=>z,.inl (.inr ⟨_,h2a⟩)⟩⟩
  | succ i=>simp at e
 ·cases i with
  | zero=>cases e
  | succ i=>simp at e
 ·have ev:aP (ae (o1 kP (cl cz (ae (vr 0) aj))) (ae (vr 0) aj)) [.va (.scr ms)] = .ok (.tup [.int (-(ms.length:Int)),.scr ms]):=by
   have e1:cl cz (ae (vr 0) aj) [.va (.scr ms)] = .ok (.int ms.length):=by
    show Rs.ok (T.int ((ms.map T.int).length:Nat))=_
    rw[Ob]
   have e2:o1 kP (cl cz (ae (vr 0) aj)) [.va (.scr ms)] = .ok (.int (-(ms.length:Int))):=by unfold o1;rw[e1];rfl
   unfold aP;rw[ae,e2]
   show(if ([T.int (-(ms.length:Int)),T.scr ms]:List T).length<=sizeLine then Rs.ok (T.tup [.int (-(ms.length:Int)),.scr ms])else .bad)=_
   rw[if_pos (by rw[PH];simp)]
  rw[ev];intro H' sm v rv;refine⟨sm,?_⟩
  obtain⟨kk,vs,rfl,_,hk,rs⟩:=Rep.Fk.mp rv;obtain⟨v1,w1,rfl,r1,rs⟩:=Reps.me.mp rs;obtain⟨v2,w2,rfl,r2,rs⟩:=Reps.me.mp rs;cases Reps.Da.mp rs;cases Rep.AC.mp r1;unfold Rep at r2;obtain⟨b,rfl,_,sq⟩:=r2;exact⟨kk,b,rfl,hk,sq⟩
 ·cases r with
  | error e=>exact QP hq
  | ok fl=>
   cases fl with
   | next=>exact QP hq
   | brk=>exact QP hq
   | cont=>exact QP hq
   | ret u=>
    obtain⟨v,H',os,bare,un,hok,rv,sm,kk,b,rfl,hk,sq⟩:=hq;obtain rfl:u=OA kk:=rv
    have nF:∀c u,H' c=some u->c∉G:=λc u e hc=>by
     obtain⟨na,o,eo⟩:=hG c hc
     have:=un.free c o eo (h2n c na) (by simp)
     rw[e]at this;cases this
    obtain⟨⟨u2,hb2⟩,xs,m,ho2,hi2⟩:=Fh hok sq;obtain⟨_,its2,rv2,tp⟩:=hok kk _ hk
    have tp':∃tk,its2= [.int (-(ms.length:Int)) tk,.ref b]:=by
     cases rv2 with
     | cons a1 r=>
      obtain⟨t,rfl⟩:=a1
      cases r with
      | cons a2 r=>
       cases r;exact⟨t,by rw[show _=OA b from a2]⟩
    obtain⟨tk,rfl⟩:=tp';refine⟨os,bare,⟨λc o hc e=> ?_,λc o hc e=> ?_⟩,kk,_,tk,b,xs,m,ms,rfl,nF _ _ hk,nF _ _ hb2,tp,ho2,hi2,rfl⟩
    ·by_cases hca:c=a
     ·subst hca
      rw[ho]at e;cases e;exact(hok c _ (un.frzs c _ _ h2a)).1
     ·exact un.keep c o e (h2n c hca) hc (by simp)
    ·exact un.slot c o e (h2n c (naF c hc)) hc (by simp)
end
theorem A0 (t u:Int)(a b:List Int):cO (t::a) (u::b)=if t=u then cO a b else decide (t<u):=rfl
theorem Dx {prog:OH}{w:Px}{A:OV}{E:Oa->Od->Prop}{s:Od}{a b:Int}{t u:Tok}{Q:Bool->Od->Prop}(h:Q (decide (a<b)) s):∀k,wpAny (model prog w) A (oneLt' k (.int a t) (.int b u)) Q E s
 | true=>oneLt_int h
 | false=>by
  rw[oneLt'_eq];simp only[Qe,if_false];exact N7 (wpAny_lt_int (show wpAny (model prog w) A (truthOfDropped (.bool (decide (a<b)))) Q E s from Pg h))
theorem zN:∀(l m:List Int),HT.lexLt l m=cO l m
 | [],[] =>rfl
 | [],_::_=>rfl
 | _::_,[] =>rfl
 | a::l,b::m=>by
  rw[HT.lexLt_cons,zN l m]
  rfl
def Cf (G:List Addr):RK where
 V:=VF G
 inj:=λu u'=>by
  obtain⟨k,t,tk,b,its,n,ms,e,_,_,⟨o,h1,_,c1,h2⟩,h3,h4,h5⟩:=u;obtain⟨k',t',tk',b',its',n',ms',e',_,_,⟨o',h1',_,c1',h2'⟩,h3',h4',h5'⟩:=u';subst e;cases e';rw[h1]at h1';cases h1';rw[h2]at h2';cases h2';rw[h3]at h3';cases h3';rw[h5,h5',<-h4.nums,<-h4'.nums]
 on:=λa up=>a.keep λb o _ e=>up b o e
 fst:=λ⟨k,t,tk,b,its,n,ms,e,_,_,⟨o,h1,c1,c2,h2⟩,_⟩=>⟨k,_,c2,o,t,tk,e,h1,c1,h2,rfl⟩
 lt:=λ{prog w A s E x y a b Q} hu vx vy q=>by
  obtain⟨xk,t,k,xb,xi,xn,xm,ex,_,_,⟨xo,xh,xc,xq,xd⟩,xl,xi',xr⟩:=vx;obtain⟨yk,u,k',yb,yi,yn,ym,ey,_,_,⟨yo,yh,yc,yq,yd⟩,yl,yi',yr⟩:=vy;subst ex ey xr yr;refine kat_lt xh xd yh yd ?_
  refine kat_cons (WR ?_)
  rw[A0]at q
  by_cases z:t=u
  ·rw[beq_iff_eq.mpr z]
   rw[if_pos z]at q;refine kat_yes (kat_cons (HT.eq_lstInts xl yl xi' yi' (by omega) ?_))
   by_cases z2:xm=ym
   ·rw[decide_eq_true z2]
    subst z2;rw[iV]at q;exact kat_yes (kat_nil q)
   ·rw[decide_eq_false z2]
    refine kat_no (kat_one _ _ (HT.lt_lstInts xl yl xi' yi' (by omega) ?_))
    rw[zN];exact q
  ·rw[beq_eq_false_iff_ne.mpr z]
   rw[if_neg z]at q;exact kat_no (Dx q _)
theorem nG {α β:Type}{R:α->β->Prop}{a:α}{b:β}(h:R a b):∀{l:List α} {m:List β},Uk R l m->Uk R (l++ [a]) (m++ [b])
 | _,_,.nil=> .cons h .nil
 | _,_,.cons r t=> .cons r (nG h t)
theorem lh {α β:Type}{R:α->β->Prop}:∀{l:List α} {m:List β},Uk R l m->l.length=m.length
 | _,_,.nil=>rfl
 | _,_,.cons _ t=>by rw[Oj,Oj,lh t]
theorem pE {G:List Addr}{h:Heap}:∀{l:List Oa} {m:List (List Int)},Uk (VF G h) l m->l.map ((Cf G).row h)=m
 | _,_,.nil=>rfl
 | _,_,.cons r t=>by rw[Oc,RK.NK (R:=Cf G) r,pE t]
theorem pF {α β:Type}{R:α->β->Prop}:∀{l:List α} {m:List β},Uk R l m->∀a∈l,∃b,R a b
 | _,_,.nil,a,h=>by cases h
 | _,_,.cons r t,a,h=>by
  rcases Og.mp h with rfl | h
  ·exact⟨_,r⟩
  ·exact pF t a h
end Tr
set_option maxHeartbeats 4000000
namespace Tr
open PySem PySem.Spec PyProof.Rows L2 PySem.W
section
variable {prog:OH}{w:Px}{A:OV}{E:Oa->Od->Prop}{s s0:Od}{F:List Addr}{L:Addr}{vs:List Oa}{rows:List (List Int)}{P:Fin->Od->Prop}
theorem uB {h0 h h':Heap}{a:Addr}(k:KpF F h0 h)(ha:h0.objs.size<=a)(u:∀b o,b≠a->h.get? b=some o->h'.get? b=some o):KpF F h0 h':=
 ⟨λb o n e=>u b o (O7 (Os (Ou e) ha)) (k.keep b o n e),λb o n e=>let ⟨sl,e1⟩:=k.slot b o n e;⟨sl,u b _ (O7 (Os (Ou e) ha)) e1⟩⟩
def Srt (rows:List (List Int))(vs out:List Oa):Prop:=∃ps:List (List Int×Oa),ps.Perm (rows.zip vs)/\out=ps.map WX/\(ps.map WY).Pairwise (λa b=>nM a b=true)
theorem Gq {kS:Addr}{kA:Array Oa}{e e1:Nat}{st:SO}(hs:s0.heap.objs.size<=L)(hk:s0.heap.objs.size<=kS)(hne:kS≠L)(os:s.os=s0.os)(bare:Rk s.gens)(kp:KpF F s0.heap s.heap)
  (hL:s.heap.get? L=some (seqObj "list" #[] e1)) (hK:s.heap.get? kS=some (seqObj "list" kA e)) (hkz:kA.size<=64) (hf:S6 st=none) (hz:(arrOf st).size<=64)
  (q:∀s3 c,s3.os=s0.os->Rk s3.gens->KpF F s0.heap s3.heap->s3.heap.get? L=some (seqObj "list" ((arrOf st).map (·.2)) c)->P (.done (.ret .none)) s3) :
  wpAny (model prog w) A (ksk_tail L false e1 (.ref kS) st) P E s:=by
 have u1:∀b o,b≠kS->s.heap.get? b=some o->(s.heap.update kS (PD λ_=>(#[]:Array Oa))).get? b=some o:=λb o n e=>by rw[Rr _ _ _ _ n];exact e
 have hL1:=u1 L _ hne.symm hL
 generalize hg:(arrOf st).map (·.2)=g at q
 have hgz:g.size<=sizeLine:=by rw[<-hg,Array.size_map,PH];omega
 obtain⟨c2,hc2⟩:∃c2,((s.heap.update kS (PD λ_=>(#[]:Array Oa))).update L (PD λ_=>g)).get? L=some (seqObj "list" g c2):=⟨_,US hL1 λ_=>g⟩
 have kp3:KpF F s0.heap ((s.heap.update kS (PD λ_=>(#[]:Array Oa))).update L (PD λ_=>g)):=uB (uB kp hk u1) hs λb o n e=>by rw[Rr _ _ _ _ n];exact e
 unfold ksk_tail;simp only[Qe,if_false];rw[hg];refine N7 (Ug hK rfl ?_ (by rw[PH];omega) (Pj _))
 refine N7 (Uh ?_)
 refine N7 (seqEpoch_at hL1 rfl ?_)
 refine N7 (Ug hL1 rfl ?_ (Pj _) (OI hgz (Xd _)))
 rw[hf];simp only[bne_self_eq_false,Qe,if_false];exact Ol (q { s with heap:=_ } c2 os bare kp3 hc2)
theorem JS {kS:Addr}{kA:Array Oa}{e e1:Nat}{G:List Addr}(hu:A.units+60<cLine)(hs:s0.heap.objs.size<=L)(hk:s0.heap.objs.size<=kS)(hne:kS≠L)(os:s.os=s0.os)(bare:Rk s.gens)(kp:KpF F s0.heap s.heap)
  (hL:s.heap.get? L=some (seqObj "list" #[] e1)) (hK:s.heap.get? kS=some (seqObj "list" kA e)) (pr:Uk (VF G s.heap) kA.toList rows) (hlen:rows.length=vs.length) (h64:vs.length<64)
  (q:∀s3 out c,s3.os=s0.os->Rk s3.gens->KpF F s0.heap s3.heap->s3.heap.get? L=some (seqObj "list" out c)->Srt rows vs out.toList->P (.done (.ret .none)) s3) :
  wpAny (model prog w) A (ksk_end L false vs.toArray e1 (.ref kS) kA) P E s:=by
 have hkl:kA.toList.length=vs.length:=by rw[lh pr,hlen]
 have hsz:kA.size=vs.length:=by rw[<-PN];exact hkl
 have fin:∀st:SO,S6 st=none->(arrOf st).toList.Perm (kA.toList.zip vs)->((arrOf st).toList.map λp=>(Cf G).row s.heap p.1).Pairwise (λa b=>nM a b=true)->wpAny (model prog w) A (ksk_tail L false e1 (.ref kS) st) P E s:=λst hf hp hs'=>by
  have hz:(arrOf st).size<=64:=by
   have:=hp.length_eq;rw[PN,Xe]at this;omega
  refine Gq hs hk hne os bare kp hL hK (by omega) hf hz λs3 c o1 o2 o3 o4=>q s3 _ c o1 o2 o3 o4 ⟨(arrOf st).toList.map λp=>((Cf G).row s.heap p.1,p.2),?_,?_,?_⟩
  ·have:=hp.map λp:Oa×Oa=>((Cf G).row s.heap p.1,p.2)
   rw[show(kA.toList.zip vs).map (λp:Oa×Oa=>((Cf G).row s.heap p.1,p.2))=(kA.toList.map ((Cf G).row s.heap)).zip vs by rw[List.zip_map_left];exact ON λ_ _=>rfl,pE pr]at this
   exact this
  ·rw[Array.toList_map,OM];rfl
  ·rw[OM];exact hs'
 unfold ksk_end;simp only[Qe,if_false]
 by_cases h2:vs.toArray.size<2
 ·rw[if_pos h2,if_pos h2]
  refine N7 (Ol ?_)
  rw[StateT.run_pure];refine N7 (Ol ?_)
  try dsimp only
  refine fin (SortSt.mk' general' (kA.zip vs.toArray) #[] 7 none) rfl (by show(kA.zip vs.toArray).toList.Perm _;simp) ?_
  show(((kA.zip vs.toArray).toList.map _).Pairwise _)
  have:(kA.zip vs.toArray).toList.length<=1:=by rw[Ox]at h2;simp;omega
  generalize (kA.zip vs.toArray).toList=l at this
  cases l with
  | nil=>exact V3
  | cons x l=>
   cases l with
   | nil=>exact List.pairwise_singleton _ _
   | cons y l=>simp at this
 ·rw[if_neg h2,if_neg h2]
  rw[Ox]at h2
  have hv:∀v∈kA.toList,∃ns,(Cf G).V s.heap v ns:=λv hm=>pF pr v hm
  have kz:kA=kA.toList.toArray:=by simp
  rw[kz];refine N7 (kk3 (R:=Cf G) hv (λz=>by rw[z]at hkl;simp at hkl;omega) ?_)
  refine N7 (Qo (run3 (R:=Cf G) (ks:=kA.toList) (vs:=vs) (Q:=λst' s'=>s'=s/\S6 st'=none/\(arrOf st').toList.Perm (kA.toList.zip vs)/\((arrOf st').toList.map λp=>(Cf G).row s.heap p.1).Pairwise (λa b=>nM a b=true)) hu hkl hv (by omega) h64 λst' hf hp hs=>⟨rfl,hf,hp,hs⟩) (λr s' he=> ?_) λ_ _ e=>e)
  obtain⟨es,hf,hp,hs⟩:=he;subst es;exact fin _ hf hp hs
theorem JT {f:Oa}{n:Nat}{M:Od->Prop}(hu:A.units+60<cLine)(hF:∀b∈F,b<s0.heap.objs.size)(hs:s0.heap.objs.size<=L)(os:s.os=s0.os)(bare:Rk s.gens)(kp:KpF F s0.heap s.heap)
  (ho:s.heap.get? L=some (seqObj "list" vs.toArray n)) (hlen:rows.length=vs.length) (h64:vs.length<64)
  (turn:∀(i:Nat) (v:Oa) (ns:List Int) (kS:Addr),s0.heap.objs.size<=kS->vs[i]? =some v->rows[i]? =some ns->∀s':Od,s'.os=s0.os->Rk s'.gens->KpF F s0.heap s'.heap->(∃o,s'.heap.get? kS=some o) →
   wpAny (model prog w) A (call f [v]) (λu s''=>s''.os=s'.os/\Rk s''.gens/\KpF F s'.heap s''.heap/\VF (kS::F) s''.heap u ns) (λ_ _=>False) s')
  (q:∀s3 out c,s3.os=s0.os->Rk s3.gens->KpF F s0.heap s3.heap->s3.heap.get? L=some (seqObj "list" out c)->Srt rows vs out.toList->P (.done (.ret .none)) s3) :
  wpAny (model prog w) A (ksk_tree L f false) P E s:=by
 obtain⟨e1,ho1⟩:∃e1,(s.heap.update L (PD λ_=>(#[]:Array Oa))).get? L=some (seqObj "list" #[] e1):=⟨_,US ho λ_=> #[]⟩
 have ha:=Ou ho
 have kp1:KpF F s0.heap (s.heap.update L (PD λ_=>(#[]:Array Oa))):=uB kp hs λb o n e=>by rw[Rr _ _ _ _ n];exact e
 unfold ksk_tree;refine N7 (WC ho rfl ?_)
 refine N7 (Ug ho rfl ?_ (by rw[Ox,PH];omega) (Pj _))
 refine N7 (seqEpoch_at ho1 rfl ?_)
 refine N7 (wpAny_newTuple ?_ (by show vs.length<=_;rw[PH];omega))
 refine N7 (wpAny_newList ?_ (Pj _))
 refine P7 ?_
 have hsz:((s.heap.update L (PD λ_=>(#[]:Array Oa))).push (seqObj "tuple" vs.toArray 0)).objs.size=s.heap.objs.size+1:=by rw[size_push',WN]
 have up:∀b o,(s.heap.update L (PD λ_=>(#[]:Array Oa))).get? b=some o->(((s.heap.update L (PD λ_=>(#[]:Array Oa))).push (seqObj "tuple" vs.toArray 0)).push (seqObj "list" #[] 0)).get? b=some o:=λb o e=>Oh _ (Oh _ e)
 have kp2:KpF F s0.heap (((s.heap.update L (PD λ_=>(#[]:Array Oa))).push (seqObj "tuple" vs.toArray 0)).push (seqObj "list" #[] 0)):=⟨λb o n e=>up b o (kp1.keep b o n e),λb o n e=>let ⟨sl,e'⟩:=kp1.slot b o n e;⟨sl,up b _ e'⟩⟩
 have hL2:=up L _ ho1
 have hK2:(((s.heap.update L (PD λ_=>(#[]:Array Oa))).push (seqObj "tuple" vs.toArray 0)).push (seqObj "list" #[] 0)).get? (s.heap.objs.size+1)=some (seqObj "list" #[] 0):=by
  rw[<-hsz];exact Oz _ rfl
 show wpAny _ _ (ksk_rest L f false vs.toArray e1 (.ref ((s.heap.update L (PD λ_=>(#[]:Array Oa))).push (seqObj "tuple" vs.toArray 0)).objs.size)) _ _ { s with heap:=((s.heap.update L (PD λ_=>(#[]:Array Oa))).push (seqObj "tuple" vs.toArray 0)).push (seqObj "list" #[] 0) }
 rw[hsz]
 generalize hkS:s.heap.objs.size+1=kS at hK2 ⊢
 have hne:kS≠L:=by rw[<-hkS];exact QF (RM ha)
 have hk:s0.heap.objs.size<=kS:=by rw[<-hkS];exact OI hs (Nat.le_succ_of_le (Qb ha))
 have nF:∀a,s0.heap.objs.size<=a->a∉F:=λa h z=>absurd (hF a z) (Nat.not_lt.mpr h)
 generalize ((s.heap.update L (PD λ_=>(#[]:Array Oa))).push (seqObj "tuple" vs.toArray 0)).push (seqObj "list" #[] 0)=h6 at kp2 hL2 hK2 ⊢
 unfold ksk_rest;refine N7 (SC ?_)
 first
  | rw[List.forIn_toArray]
  | (rw[<-VG];simp only[List.toList_toArray])
  | rw[<-VG]
 refine N7 (ksk_fold (λi s'=>s'.os=s0.os/\Rk s'.gens/\KpF F s0.heap s'.heap/\s'.heap.get? L=some (seqObj "list" #[] e1)/\∃kA e,s'.heap.get? kS=some (seqObj "list" kA e)/\Uk (VF (kS::F) s'.heap) kA.toList (rows.take i)) vs 0 { s with heap:=h6 }
  ⟨os,bare,kp2,hL2,#[],0,hK2,by simpa using Paired.nil⟩ ?step ?done)
 case step=>
  rintro j x s' hx ⟨o1,o2,o3,o4,kA,e,o5,o6⟩
  simp only[R9]at o6 ⊢
  have hj:j<vs.length:=(Oi.mp hx).1
  obtain⟨ns,hns⟩:∃k,rows[j]? =some k:=⟨_,Of (by omega)⟩
  have hz:kA.size<=vs.length:=by
   have h1:=lh o6;rw[PN,Pq]at h1;omega
  refine N7 (VX (Qo (turn j x ns kS hk hx hns s' o1 o2 o3 ⟨_,o5⟩) (λu s'' he=> ?_) λ_ _ hF=>hF.elim))
  obtain⟨r1,r2,r3,r4⟩:=he
  try dsimp only
  have k5:=r3.keep _ _ (nF kS hk) o5
  have u1:∀b o,b≠kS->s''.heap.get? b=some o->(s''.heap.update kS (PD (·.push u))).get? b=some o:=λb o n e=>by rw[Rr _ _ _ _ n];exact e
  have ek:rows.take (j+1)=rows.take j++ [ns]:=by rw[List.take_add_one,hns];simp
  have ea:(kA.push u).toList=kA.toList++ [u]:=by simp
  have vk:∀v ms,VF (kS::F) s''.heap v ms->VF (kS::F) (s''.heap.update kS (PD (·.push u))) v ms:=λv ms z=>z.keep λb o n e=>u1 b o (λy=>n (by simp[y])) e
  refine N7 (Ug k5 rfl ?_ (by rw[PH];omega) (OI (R8 (Array.size_push ..)) (by rw[PH];omega)))
  refine Ol ⟨rfl,r1.trans o1,r2,uB (o3.trans r3) hk u1,u1 L _ hne.symm (r3.keep _ _ (nF L hs) o4),kA.push u,_,US k5 (·.push u),?_⟩
  rw[ea,ek];exact nG (vk _ _ r4) (Paired.NF o6 λv ms z=>vk v ms (z.keep λb o n e=>r3.keep b o (λy=>n (N8 _ y)) e))
 case done=>
  rintro s' ⟨o1,o2,o3,o4,kA,e,o5,o6⟩
  have e3:rows.take (0+vs.length)=rows:=Su (by omega)
  rw[e3]at o6
  try dsimp only
  refine N7 (WC o5 rfl ?_)
  exact JS hu hs hk hne o1 o2 o3 o4 o5 o6 hlen h64 q
end
end Tr
namespace Tr
def jN:List T->Option (List (List Int))
 | [] =>some []
 | .lst l::r=>match gj l,jN r with
  | some ns,some k=>some (ns::k)
  | _,_=>none
 | _=>none
def BI (ns:List Int):List Int:=(-(ns.length:Int))::ns
def vA:List T->Rs T
 | [.lst l] =>match jN l with
  | some k=>if k.length<64 then .ok (.lst (((k.map BI).mergeSort nM).map λr=> .lst (r.tail.map .int)))else .bad
  | none=> .bad
 | _=> .bad
end Tr
namespace Tr
open PySem PySem.Spec PyProof.Rows L2 PySem.W
section
variable {X:Cx}{pins:List (Addr×Obj)}{σ:L2.St}{H H':Hp}{s s':Od}
theorem DO (I:Inv X pins σ H s)(os:s'.os=s.os)(bare:Rk s'.gens)(kp:KpF (kF X.stack) s.heap s'.heap)(free:∀b o,s.heap.get? b=some o->H b=none->H' b=none)(same:Same H H')(hok:HOk X.prog X.w H' s'.heap):Inv X pins σ H' s':=by
 obtain⟨hh,g,d,t,os'⟩:=s';obtain rfl:os'=s.os:=os;refine I.call (ch:=[]) ⟨λb o e n hb _=>kp.keep b o hb e,λb o e n hb _=>kp.slot b o hb e,λb o e n _=>free b o e n,λb o e _=> ?_,λb xs e=>same _ _ e,λb o u e=>same _ _ e,λb q e=>same _ _ e⟩ hok bare λb z=>absurd z (by simp)
 by_cases hb:b∈kF X.stack
 ·obtain⟨sl,e'⟩:=kp.slot b o hb e
  exact⟨_,e'⟩
 ·exact⟨o,kp.keep b o hb e⟩
theorem DT (I:Inv X pins σ H s)(kp:KpF (kF X.stack) s.heap s'.heap):HOk X.prog X.w H s'.heap:=λb u e=>
 (I.hok b u e).M5 (λc v hc q=>kp.keep c v (λz=>by
  have:=I.GT c z;rcases hc with rfl | hc
  ·rw[e]at this;cases this
  ·rw[hc]at this;cases this) q) (λ_ q=>q) λ_ _ q=>q
theorem uz {K:Frag}{O:Ow}{H:Hp}:∀{l:List T} {k:List (List Int)} {ws:List V} {its:List Oa},jN l=some k->Reps K O H l ws->Vals ws its->k.length=its.length/\∀(j:Nat) (r:List Int) (v:Oa),(k.map BI)[j]? =some r->its[j]? =some v->∃ns b,r=BI ns/\v= .ref b/\Rep K O H (.lst (ns.map .int)) (.ref b)
 | [],k,ws,its,h,rs,rv=>by
  cases h;cases Reps.Da.mp rs;cases rv
  exact⟨rfl,λj r v e=>by simp at e⟩
 | t::l,k,ws,its,h,rs,rv=>by
  obtain⟨v0,ws',rfl,r0,rs'⟩:=Reps.me.mp rs
  cases rv with
  | cons a rv=>
   cases t with
   | lst m=>
    unfold jN at h
    split at h
    ·rename_i ns k' h1 h2
     cases h;obtain⟨g1,g2⟩:=uz h2 rs' rv;refine⟨by rw[Oj,Oj,g1],λj r v e1 e2=> ?_⟩
     cases j with
     | zero=>
      cases e1;cases e2;obtain⟨b,vs,rfl,_⟩:=Rep.Do.mp r0;refine⟨ns,b,rfl,a,?_⟩
      rw[<-rR h1];exact r0
     | succ j=>exact g2 j r v (by simpa using e1) (by simpa using e2)
    ·cases h
   | _=>unfold jN at h;cases h
theorem m7:∀{xs:List Int} {us:List Oa},Vals (xs.map V.int) us->Qp us xs
 | [],us,r=>by cases r;exact .nil
 | x::xs,us,r=>by
  cases r with
  | cons a r=>
   obtain⟨t,rfl⟩:=a;exact .cons x t (m7 r)
theorem vz {K:Frag}{O:Ow}{H:Hp}:∀{ps:List (List Int×Oa)},(∀p∈ps,∃ns b,p.1=BI ns/\p.2= .ref b/\Rep K O H (.lst (ns.map .int)) (.ref b))->Vals (ps.map λp=>bkV p.2) (ps.map WX)/\Reps K O H (ps.map λp=> .lst (p.1.tail.map .int)) (ps.map λp=>bkV p.2)
 | [],_=>⟨.nil,Reps.GM⟩
 | p::ps,h=>by
  obtain⟨ns,b,e1,e2,r⟩:=h p Oe;obtain⟨g1,g2⟩:=vz λq hq=>h q (N8 _ hq)
  rw[Oc,Oc,Oc,e1,e2];exact⟨.cons rfl g1,Reps.Gc r g2⟩
theorem Ja {k:Nat}{e:Expr}{fs:En->Rs (List T)}{c P:Addr}{p pos kp p8 pp p1 p2 p3 p4 p5 p6:Pos}(hr:Room (k+3) X.A)(hm:X.mg "sorted" =none)(hml:X.mg "len" =none)(hcode:X.env.code= .ref c)(C:CodeHd X.base c P)(hTb:∀H,Tb X.K X.mg H->H P=some (.tbl (X.env.qual++ "<lambda>")))(B:MZ X.K X.mg)(ha:qS X [e] fs)
  (hst:bj [e] =true:=by rfl) (hg:Gl X "sorted":=by rfl) (hcl:U0 iW X.env=pure []:=by rfl) :
  c8 X (.Call (.Name "sorted" p) [e] [⟨some "key",.Lambda (m5 pp) (oy p1 p2 p3 p4 p5 p6) iW p8,kp⟩] pos) (cl vA fs):=by
 intro pins s σ H Q I ⟨Z,O,Ev,hq⟩;unfold bj at hst;rw[N9]at hst
 have e2:Oy [e] X.env=(false,eval e X.env)::Oy [] X.env:=bo hst.1;refine Pc (fg I hg hm (show Pb "sorted" =some (.builtin "sorted")by decide+kernel) ?_ (by decide) (by decide))
 refine callWith_kw (cL (ha pos pins s σ H _ I (eF Ev hq)) λus s1 ⟨vs,H1,I1,r1,ts,rs,sm1,E',q1⟩=> ?_) (by rw[e2];rfl) (by rw[e2];rfl)
 refine kws_cons (Dt I1 hcode C (hTb H1 I1.tb) B rfl hcl λf H2 h2 tk2 hf sm2 I2 hfn L2_=>kws_nil ?_)
 obtain⟨cc,ctv,lo,lc,lown⟩:=L2_
 have q2:=Post.later q1 sm2
 have rs2:=rs.same sm2
 have E2:=E'.same sm2;unfold vA at q2
 split at q2
 ·rename_i l
  split at q2
  ·rename_i kk hk
   by_cases h64:kk.length<64
   ·rw[if_pos h64]at q2
    obtain⟨v1,rfl,ra⟩:=rs2.one;obtain⟨c1,ws,rfl,n1,hx,rx⟩:=Rep.Do.mp ra;obtain⟨u1,rfl,z1⟩:=Vals.one r1;obtain rfl:u1=OA c1:=z1;obtain⟨z,its,n,rv,hlen,eo⟩:=I2.KM hx;obtain⟨g1,g2⟩:=uz hk rx rv
    have hF:∀b∈kF X.stack,b<h2.objs.size:=λb hb=>by
     obtain⟨o,eo,_⟩:=(I2.stack.mem hb).2;exact Ou eo
    have hF1:∀b∈kF X.stack,b<s1.heap.objs.size:=λb hb=>by
     obtain⟨o,eo,_⟩:=(I1.stack.mem hb).2;exact Ou eo
    have fF:f∉kF X.stack:=λhb=>absurd (hF1 f hb) (Nat.not_lt.mpr hf)
    have cF:cc∉kF X.stack:=λhb=>by have:=I2.GT cc hb;rw[lown]at this;cases this
    have i64:its.length<64:=by omega
    show wpAny (model X.prog X.w) X.A (call (.builtin "sorted") [.ref c1] [(Oo "key",.ref f)]) _ _ { s1 with heap:=h2,toks:=tk2 }
    refine call_function_entry_kw kind_sorted plain_sorted entry_sorted (ksk_s1 _ _) ?_
    unfold Builtin.«sorted»;refine N7 (m:=checkCount "sorted" 1 1 _) (Ol ?_)
    refine N7 (collect_list (s:={ s1 with heap:=h2,toks:=tk2 }) ⟨_,eo,rfl,n,rfl⟩ ?_ (by rw[PH];omega))
    refine N7 (wpAny_newList ?_ (by rw[PH];omega))
    have hsz:((h2.push (seqObj "list" #[] 0)).update h2.objs.size (PD (· ++its.toArray))).objs.size=h2.objs.size+1:=by
     rw[WN,size_push']
    have hoL:(((h2.push (seqObj "list" #[] 0)).update h2.objs.size (PD (· ++its.toArray))).push (seqObj "list" its.toArray 0)).get? (h2.objs.size+1)=some (seqObj "list" its.toArray 0):=by
     rw[<-hsz];exact Oz _ rfl
    have keep:∀b o,h2.get? b=some o->(((h2.push (seqObj "list" #[] 0)).update h2.objs.size (PD (· ++its.toArray))).push (seqObj "list" its.toArray 0)).get? b=some o:=λb o q=>by
     have hlt:b<h2.objs.size:=Ou q;rw[Wd _ _ _ (by rw[hsz];exact O7 (RM hlt)),Rr _ _ _ _ (O7 hlt),Wd _ _ _ (O7 hlt)]
     exact q
    show wpAny _ _ _ _ _ { s1 with heap:=((h2.push (seqObj "list" #[] 0)).update h2.objs.size (PD (· ++its.toArray))).push (seqObj "list" its.toArray 0),toks:=tk2 }
    rw[hsz];refine N7 (P7 (wpAny_call_entry_kw slot_list_sort ⟨_,hoL,rfl⟩ entry_list_sort ?body (ksk_l1 _ _)))
    show wpAny (model X.prog X.w) X.A.in1.in1 (Builtin.«list.sort» ⟨[.ref (h2.objs.size+1)],[(Oo "key",.ref f)]⟩) _ _ _
    rw[ksk_t1];refine JT (F:=kF X.stack) (s0:={ s1 with heap:=h2,toks:=tk2 }) (rows:=kk.map BI) (by have:=hr.un;show X.A.units+1+1+60<cLine;omega) hF (Xd _) rfl I2.bare ⟨λb o _ e=>keep b o e,λb o _ e=>⟨o.slots,keep b o e⟩⟩ hoL (by rw[Ob];exact g1) i64 (M:=λ_=>True) (λi v row kS hkS hv hrow s' o1 o2 o3 ⟨ok,hok⟩=> ?_) λs3 out cx o1 o2 o3 o4 ⟨ps,t1,t2,t3⟩=>⟨_,rfl,?_⟩
    ·obtain⟨ns,b,rfl,rfl,rb⟩:=g2 i row v hrow hv
     obtain⟨b',wb,eb,nb,hb,rwb⟩:=Rep.Do.mp rb;cases eb;cases Reps.Nt rwb
     have I3:Inv X pins σ H2 s':=DO I2 o1 o2 o3 (λ_ _ _ n=>n) (λ_ _ e=>e) (DT I2 o3)
     obtain⟨zb,itb,nb',rvb,hlb,eob⟩:=I3.KM hb
     have bl:b<h2.objs.size:=I2.hok.lt hb
     have:=Ds (k:=k) (G:=kS::kF X.stack) (E:=λ_ _=>False) (ob:=default) I3 hr (f:=f) (q:=X.env.qual++ "<lambda>") (pp:=pp) (p1:=p1) (p2:=p2) (p3:=p3) (p4:=p4) (p5:=p5) (p6:=p6) ⟨cc,ctv,o3.keep _ _ fF lo,let ⟨c2,oc,vs,t,a1,a2,a3⟩:=lc;⟨c2,oc,vs,t,a1,o3.keep _ _ (by cases a1;exact cF) a2,a3⟩⟩ (a:=b) (its:=itb) (n:=nb') (ms:=ns) (by rw[hb];simp) eob (m7 rvb) (by rw[<-hlb];exact zb) hml λc hc=> ?_
     ·exact this
     ·rcases Og.mp hc with rfl | hc
      ·exact⟨QF (Os bl hkS),ok,hok⟩
      ·refine⟨λz=> ?_,?_⟩
       ·have:=I2.GT c hc;rw[z,hb]at this;cases this
       ·obtain⟨o,eo,_⟩:=(I3.stack.mem hc).2
        exact⟨o,eo⟩
    ·refine Ol ⟨_,rfl,?_⟩
     have pm:∀p∈ps,∃ns b,p.1=BI ns/\p.2= .ref b/\Rep X.K O H2 (.lst (ns.map .int)) (.ref b):=λp hp=>by
      have hp':=t1.mem_iff.mp hp;obtain⟨j,hj⟩:=S1 hp'
      rw[List.getElem?_zip_eq_some]at hj
      exact g2 j p.1 p.2 hj.1 hj.2
     obtain⟨v1,v2⟩:=vz pm
     have hL:H2 (h2.objs.size+1)=none:=I2.hok.fresh (Xd _)
     have eS:=iO (k:=kk.map BI) (m:=ps.map WY) (by
      have:=t1.map WY
      rwa [List.map_fst_zip (by rw[Ob];omega)]at this) t3
     have hps:ps.length=its.length:=by have:=t1.length_eq;rw[Xe,Ob]at this;omega
     refine⟨.ref (h2.objs.size+1),upd H2 (h2.objs.size+1) (.lst (ps.map λp=>bkV p.2)),DO I2 o1 o2 o3 (λb o e n=>by rw[aG (O7 (RM (Ou e)))];exact n) (aQ hL _) (λb u e=> ?_),rfl,q2 _ (aQ hL _) _ ?_⟩
     ·by_cases hb:b=h2.objs.size+1
      ·subst hb
       rw[aI]at e;cases e;refine⟨by rw[Ob,hps,PH];omega,out.toList,cx,by rw[t2];exact v1,?_⟩
       rw[o4]
      ·rw[aG hb]at e
       exact(DT I2 o3 b u e).M5 (λ_ _ _ q=>q) (λd q=>aQ hL _ _ _ q) λd xs q=>aQ hL _ _ _ q
     ·rw[<-eS,OM]
      exact gP hL (E2.fresh hL) v2
   ·rw[if_neg h64]at q2;exact q2.elim
  ·exact q2.elim
 ·exact q2.elim
end
theorem kC (P a:Addr):∀l:Frag,(l.filter λp=> !(p.1 == P)).lookup a=if a=P then none else l.lookup a
 | [] =>by rw[List.filter_nil];split <;> rfl
 | (b,o)::l=>by
  by_cases hb:b=P
  ·subst hb
   rw[List.filter_cons_of_neg (by simp),kC b a l]
   split
   ·rfl
   ·rename_i h;rw[Pr,beq_false_of_ne h]
  ·rw[Si (by simp[hb]),Pr,Pr,kC P a l]
   cases q:a == b with
   | true=>
    have:=eq_of_beq q;subst this
    simp[hb]
   | false=>rfl
structure LmK (K:Frag)(f c P:Addr):Prop where
 nm:nsIn K OL "most_kept" =some (some (.ref f))
 fn:∃o d,K.lookup f=some o/\o.data= .func d/\d.code= .ref c
 cd:∃oc vs,K.lookup c=some oc/\oc.data= .fields vs/\vs[11]? =some (.ref P)
 hd:∀h:Heap,K.In h->CodeHd h c P
theorem E7 {K:Frag}{c P:Addr}(e:E8 K=some (c,P)):∃f,LmK K f c P:=by
 unfold E8 at e
 split at e
 ·rename_i f hf
  split at e
  ·rename_i oc od d osl hl
   split at e
   ·rename_i c' hc
    split at e
    ·rename_i n dd vs sl hk
     split at e
     ·rename_i P' file tf flags tg inF text tt h11 h18 h7 h9 h10
      split at e
      ·rename_i hn
       cases e;simp only[N9,beq_iff_eq,bne_iff_ne]at hn;obtain⟨rfl,hne⟩:=hn;refine⟨f,hf,⟨_,d,hl,rfl,hc⟩,⟨_,vs,hk,rfl,h11⟩,λh KX=>⟨_,vs,file,tf,flags,tg,inF,text,tt,KX _ _ hk,rfl,rfl,h11,?_,?_,?_,?_,?_,hne⟩⟩
       ·simp[Qj,h11]
       ·simp[Qj,h18]
       ·simp[Qj,h7]
       ·simp[Qj,h9]
       ·simp[Qj,h10]
      ·cases e
     ·cases e
    ·cases e
   ·cases e
  ·cases e
 ·cases e
theorem Kw {K:Frag}{h:Heap}{mg:Str->Option Oa}(X:K.In h)(G:h.Ns OL mg)(e:Kx K=true):MZ K mg:=by
 unfold Kx at e
 split at e
 ·rename_i bm hb
  split at e
  ·rename_i n d sl hl
   simp only[N9,beq_iff_eq,bne_iff_ne]at e;obtain⟨⟨h1,h2⟩,rfl,rfl⟩:=e;exact⟨bm,_,mg_of X G hb,h1,h2,hl,rfl,rfl,rfl⟩
  ·simp at e
 ·cases e
theorem LmK.tb {K:Frag}{f c P:Addr}{h:Heap}{mg:Str->Option Oa}(L:LmK K f c P)(X:K.In h)(G:h.Ns OL mg){H:Hp}(hH:H P=some (.tbl nY)):Tb K mg H:=λf' o fd c' oc vs P' a1 a2 a3 a4 a5 a6 a7=>by
 rw[mg_of X G L.nm]at a1;cases a1;obtain⟨o2,d2,b1,b2,b3⟩:=L.fn;rw[b1]at a2;cases a2;rw[b2]at a3;cases a3;rw[b3]at a4;cases a4;obtain⟨oc2,vs2,c1,c2,c3⟩:=L.cd;rw[c1]at a5;cases a5;rw[c2]at a6;cases a6;rw[c3]at a7;cases a7;exact hH
theorem D2 (h:Heap)(P:Addr):(qx h P).In h:=λa o e=>by
 unfold qx at e;rw[kC]at e
 split at e
 ·cases e
 ·exact D5 h a o e
theorem D1 (h:Heap)(P:Addr):(qx h P).lookup P=none:=by unfold qx;rw[kC,if_pos rfl]
def HV (S:rE)(top:Nat->Stmt)(h:Heap):Prop:=∃(K:Frag) (f c P:Addr),K.In h/\pU S K=nT S top/\K.lookup P=none/\LmK K f c P/\Kx K=true/\h.get? P=some (tabObj #[])
theorem Di {S:rE}{top:Nat->Stmt}{h:Heap}(e:zJ S h=(nT S top,true)):HV S top h:=by
 unfold zJ at e
 split at e
 ·rename_i c0 P h0
  obtain⟨e1,e2⟩:=T3 e
  split at e2
  ·rename_i c P' h1
   simp only[N9,beq_iff_eq]at e2;obtain⟨⟨rfl,e3⟩,e4⟩:=e2
   split at e4
   ·rename_i ps sl hP
    simp only[N9,beq_iff_eq]at e4;obtain⟨f,L⟩:=E7 h1;refine⟨_,f,c,P',D2 h P',e1,D1 h P',L,e3,?_⟩
    rw[hP,SM e4.1,SM e4.2]
   ·cases e4
  ·cases e2
 ·cases (T3 e).2
def hookX (S:rE)(top:Nat->Stmt):Hook:=
 ⟨_,λs=>zJ S s.heap,λ_=>(nT S top,true),λ_ h=>HV S top h,λ_ s e=>Di e,λ_ _ _ ⟨K,f,c,P,a,b,d,l,m,t⟩ k=>⟨K,f,c,P,a.keeps k,b,d,l,m,k _ _ t⟩⟩
theorem walk_x {l:OpenLaw}{n k:Nat}{q:OH}{loose:List Str}{XP:(Str->Option Oa)->Heap->Prop}{d:DefRec}{S:rE}{top:Nat->Stmt}{CX:BL}{sp:Frag->Sp}{x:Str}
  (hn:l.most=some n) (hn2:n<=sizeLine) (hdf:d.params.defaults= []) (hr:Room k callerA)
  (F:∀(w:Px) (K:Frag) (mg:Str->Option Oa) (fa:Addr) (h:Heap),K.In h->pU S K=nT S top->(∃f c P,LmK K f c P)->Kx K=true->h.Ns OL mg->mg d.name=some (.ref fa) →
   ∃fd:PV,(∀(s:Od) (u:Oa),Vp s fd ⟨[u],[]⟩ [(x,u)])/\∀base:Heap,K.In base->base.Ns OL mg->rB l.prog w K mg base CX k fa fd [x] (sp K))
  (hsp:∀(K:Frag) (H:Hp) (a:Addr) (ns:List Int),ns.length<=n->KC H->SqL K H a (ns.map V.int)->sp K [.ref a] H (λv _=>v= .bl true) λ_ _ _=>False)
  (hCX:∀(H:Hp) (s:Od) (e:Oa) (s':Od),CX [] H s (λ_ _ _=>False) e s'->False) :
  WalkO q loose XP (hookX S top).says l.row.toRowW d [] (λf vs=>PySem.call f vs):=by
 refine Att.attach_call hn hdf λw s₀ s₁ mg mb fa o pm cd doc a vs ns G Y ho hd hcd hmg hobj hints hlen hg=> ?_
 obtain⟨K,f,c,P,KX,e,hPK,L,hbm,hP⟩:=Y;obtain⟨fd,hb,hF⟩:=F w K mg fa _ KX e ⟨f,c,P,L⟩ hbm G.T.g hmg;exact Dr KX G.T.g G.T.b G.T.builtins G.T.nolimit hg hobj hints (OI hlen hn2) hr (P0:=P) (c0:=c) ((L.hd _ KX).tab hP) hPK (λH hH=>L.tb KX G.T.g hH) hF hb (λH hO hS=>hsp K H a ns hlen hO hS) λH e s'=>hCX H s₁ e s'
def KD (K:Frag)(mg:Str->Option Oa)(base:Heap):Prop:=∃f c P,mg "most_kept" =some (.ref f)/\(∃o d,K.lookup f=some o/\o.data= .func d/\d.code= .ref c)/\CodeHd base c P/\(∀H,Tb K mg H->H P=some (.tbl nY))/\MZ K mg
theorem Gn {K:Frag}{mg:Str->Option Oa}{h base:Heap}(L:∃f c P,LmK K f c P)(b:Kx K=true)(X:K.In h)(G:h.Ns OL mg)(X2:K.In base):KD K mg base:=by
 obtain⟨f,c,P,L⟩:=L
 have hL:=L;obtain⟨o,d,b1,b2,b3⟩:=hL.fn;obtain⟨oc,vs,c1,c2,c3⟩:=hL.cd
 have m:=mg_of X G L.nm;exact⟨f,c,P,m,⟨o,d,b1,b2,b3⟩,L.hd base X2,λH t=>t f o d c oc vs P m b1 b2 b3 c1 c2 c3,Kw X G b⟩
section
variable {X:Cx}{e:Expr}{fs:En->Rs (List T)}{p pos kp p8 pp p1 p2 p3 p4 p5 p6:Pos}{f:Addr}{cdv:Oa}{k:Nat}
theorem EU (L:KD X.K X.mg X.base)(hx:∃o fd,X.mg "most_kept" =some (.ref f)/\X.K.lookup f=some o/\o.data= .func fd/\fd.code=X.env.code)(hr:Room (k+3) X.A)(hm:X.mg "sorted" =none)(hml:X.mg "len" =none)(ha:QA X [e] fs)
  (hq:X.env.qual= "most_kept" ++ ".<locals>.":=by rfl) (hst:bj [e] =true:=by rfl) (hg:Gl X "sorted":=by rfl) (hcl:U0 iW X.env=pure []:=by rfl) :
  QE X (.Call (.Name "sorted" p) [e] [⟨some "key",.Lambda (m5 pp) (oy p1 p2 p3 p4 p5 p6) iW p8,kp⟩] pos) (cl vA fs):=by
 obtain⟨f',c,P,m,⟨o,d,b1,b2,b3⟩,C,T,B⟩:=L;obtain⟨o',d',m',a1,a2,a3⟩:=hx;rw[m]at m';cases m';rw[b1]at a1;cases a1;rw[b2]at a2;cases a2;exact⟨Ja hr hm hml (a3.symm.trans b3) C (λH t=>by rw[hq];exact T H t) B ha.h hst hg hcl⟩
end
end Tr
namespace Tr
open PySem
def zl:T->T->Option Bool
 | .dct ks us,.dct ks' us'=>if ks.map keyOf=ks'.map keyOf/\us.length=us'.length/\deps us<=50/\nds us=true/\nds us'=true then some (beqTs us us')else none
 | _,_=>none
def jI:List T->List T->Option Bool
 | [],[] =>some true
 | t::l,u::m=>match zl t u,jI l m with
  | some a,some b=>some (a&&b)
  | _,_=>none
 | _,_=>none
def Bf:T->T->Rs T
 | .dct ks rs,.dct ks' rs'=>if ks.map keyOf=ks'.map keyOf then match jI rs rs' with
   | some b=> .ok (.bl b)
   | none=> .bad
  else .bad
 | _,_=> .bad
end Tr
namespace Tr
def gC (b:List Int):List (List Int)->List Int
 | [] =>b
 | k::l=>gC (if cO k b=true then k else b) l
def wu:List T->Rs T
 | [.lst l] =>match jN l with
  | some (k::ks)=> .ok (.lst ((gC k ks).map .int))
  | _=> .bad
 | _=> .bad
end Tr
namespace PySem.W
open PySem PySem.Calls
open PyProof.Rows
def EqW (prog:OH)(w:Px)(A:OV)(s:Od)(u v:Oa)(b:Bool):Prop:=∀(E:Oa->Od->Prop) (Q:Bool->Od->Prop),Q b s->wpAny (model prog w) A (eqBool u v) Q E s
section
variable {K:Type}[DecidableEq K]{prog:OH}{w:Px}
variable {knd:HeapKind prog w K}{s:Od}{A:OV}
variable {E:Oa->Od->Prop}
theorem Fi {nm:String}{a b:Addr}{xs ys:List (K×Addr×Oa)}{e:Nat->Bool}{Q:Bool->Od->Prop}(hu:knd.room A)(ha:(a == Qt)=false)(hb:(b == Qt)=false)
  (da:s.heap.DictOfH knd a xs) (db:s.heap.DictOfH knd b ys) (hk:xs.map (·.1)=ys.map (·.1)) (he:∀j x y,xs[j]? =some x->ys[j]? =some y->EqW prog w A s x.2.2 y.2.2 (e j)) (h:Q ((On xs.length).all e) s) :
  wpAny (model prog w) A (Uq nm a b) Q E s:=by -- the walk
 obtain⟨oa,eA,ep,pA,_,qA,hea,hia,hna⟩:=da;obtain⟨ob,eB,ep',pB,_,qB,heb,hib,hnb⟩:=db
 have hla:eA.size=xs.length:=Xp hea
 have hlb:eB.size=ys.length:=Xp heb
 have hl:xs.length=ys.length:=by have:=congrArg PB hk;simpa using this
 have n1:¬ (a == Qt)=true:=λz=>by rw[ha]at z;cases z
 have n2:¬ (b == Qt)=true:=λz=>by rw[hb]at z;cases z
 unfold Uq;unfold Builtin.Dict.showsAll;rw[if_neg n1,if_neg n2];refine N7 (Ol (N7 (Ol (N7 (SD pA qA ?_)))))
 dsimp only
 apply N7;refine SD pB qB ?_
 have sz_:eA.size=eB.size:=by omega
 rw[if_neg (by rw[sz_];simp)]
 refine N7 (Xq pA qA ?_)
 refine N7 ?_
 simp only[UU,Std.Legacy.Range.size,Nat.div_one,VC,SK]
 refine wpAny_forIn_list _
  (λtl q s'=>s'=s/\q=(none,())/\∃i,tl=List.range' i (eA.size - i)/\i<=eA.size/\∀j,j<i->e j=true)
  _ ?_ ?_ _ _ ⟨rfl,rfl,0,by simp,Pj _,λj hj=>absurd hj (W8 _)⟩
 ·rintro x tl q s' ⟨rfl,rfl,i,hr,hi,all_⟩
  have lt_:i<eA.size:=by
   rcases Rl i eA.size with h | h
   ·exact h
   ·exact absurd hr (by rw[Nat.sub_eq_zero_of_le h];simp)
  obtain⟨rfl,lft⟩:x=i/\tl=List.range' (i+1) (eA.size - (i+1)):=by
   have e:eA.size - i=(eA.size - (i+1))+1:=by omega
   rw[e]at hr;rw[WO]at hr;injection hr with h1 h2
   exact⟨h1,h2⟩
  have h1:x<xs.length:=by omega
  have h2:x<ys.length:=by omega
  have kk:xs[x].1=ys[x].1:=by
   have:=congrArg (λl=>l[x]?) hk
   simpa [Of h1,Of h2]using this
  have e1:eA[x]? =some (Wi knd xs[x]):=by rw[entry_at hea x,Of h1];rfl
  have e2:eB[x]? =some (Wi knd ys[x]):=by rw[entry_at heb x,Of h2];rfl
  refine N7 (SD pA qA ?_)
  rw[e1]
  show wpAny _ _ (holding [OA xs[x].2.1,xs[x].2.2] _ >>= _) _ _ _
  refine N7 (P7 (N7 (wpAny_dictFind_heap hu (hia _ (PQ h1)) pB qB heb hib hnb (λno=> ?_) λj p hj=> ?_)))
  ·exact absurd (show ys[x]? =some (xs[x].1,ys[x].2)by rw[Of h2,kk]) (no x _)
  ·obtain rfl:j=x:=by
    obtain⟨hjl,ej⟩:=Oi.mp hj
    refine(We (l:=ys.map (·.1)) (by rw[Ob];exact hjl) hnb).mp ?_
    rw[Ov,Ov,hj,Of h2]
    show some xs[x].1=some ys[x].1
    rw[kk]
   dsimp only
   refine N7 (SD pB qB ?_)
   rw[e2];refine P7 (he j _ _ (Of h1) (Of h2) _ _ ?_)
   cases ee:e j with
   | false=>
    rw[show(!false)=true from rfl,if_pos rfl]
    apply Ol;apply Ol
    rw[List.all_eq_false.mpr ⟨j,OY.mpr h1,by rw[ee];decide⟩]at h
    exact h
   | true=>
    rw[if_neg (show ¬(!true)=true by decide)]
    refine N7 (Xq pA qA ?_)
    rw[if_neg (by simp)]
    refine Ol ⟨rfl,rfl,j+1,lft,lt_,λk hk=> ?_⟩
    rcases Nat.lt_succ_iff_lt_or_eq.mp hk with z | rfl
    ·exact all_ k z
    ·exact ee
 ·rintro q s' ⟨rfl,rfl,i,hr,hi,all_⟩
  have hin:i=eA.size:=by
   rcases Rl i eA.size with h | h
   ·have e:eA.size - i=(eA.size - (i+1))+1:=by omega
    exact absurd hr (by rw[e,WO];simp)
   ·exact UJ hi h
  refine Ol ?_
  rw[OG.mpr (λk hk=>all_ k (by have:=OY.mp hk;omega))]at h
  exact h
theorem ji {a b:Addr}{xs ys:List (K×Addr×Oa)}{e:Nat->Bool}{Q:Oa->Od->Prop}(hu:A.units<cLine)(hr:knd.room A.in1)(ha:(a == Qt)=false)(hb:(b == Qt)=false)
  (da:s.heap.DictOfH knd a xs) (db:s.heap.DictOfH knd b ys) (hk:xs.map (·.1)=ys.map (·.1)) (he:∀j x y,xs[j]? =some x->ys[j]? =some y->EqW prog w A.in1 s x.2.2 y.2.2 (e j)) (h:Q (.bool ((On xs.length).all e)) s) :
  wpAny (model prog w) A (Po .Eq (OA a) (OA b)) Q E s:=by
 have ta:=da.typeIs
 have tb:=db.typeIs;refine wpAny_richCompare_same_room (op:=.Eq) ta tb F.slot_dict_eq ?_ hu
 refine Q5 F.slot_dict_eq ta F.entry_dict_eq ?_ (F.args_dict_eq_2 _ _)
 show wpAny _ _ (TH "__eq__" ⟨[OA a,OA b],[]⟩ >>= _) _ _ s
 apply N7
 unfold TH -- what it looks at
 apply N7;refine UR ta ?_
 show wpAny _ _ (pure ((OA a:Oa),(OA b:Oa))) _ _ s
 apply Ol
 apply N7;refine WT (T:="dict") tb F.sub_dict_dict ?_
 simp only[if_false,Qe,Bool.not_true];refine N7 (Ol (N7 (Ol (N7 (Fi hr ha hb da db hk he ?_)))))
 exact Ol ⟨_,rfl,(by intro z;cases z),by simpa using h⟩
end
end PySem.W
namespace Tr
open PySem PySem.Spec PyProof.Rows L2 PySem.SeqAt
open PySem.W (EqW ji)
theorem oB {H:Hp}{kvs:List (List Key×V)}{xs:List (List Key×Addr×Oa)}(r:KT H kvs xs):xs.map (·.1)=kvs.map (·.1):=by
 unfold KT at r
 induction r with
 | nil=>rfl
 | cons h t ih=>rw[Oc,Oc,ih,h.1]
theorem oA {H:Hp}{kvs:List (List Key×V)}{xs:List (List Key×Addr×Oa)}(r:KT H kvs xs):Vals (kvs.map (·.2)) (xs.map (·.2.2)):=by
 unfold KT at r
 induction r with
 | nil=>exact .nil
 | cons h t ih=>exact .cons h.2.2 ih
theorem r8 {ks ks':List T}{kvs kvs':List (List Key×V)}(h:ks.map keyOf=ks'.map keyOf)(e:ks.map keyOf=kvs.map (λp=>some p.1))(e':ks'.map keyOf=kvs'.map (λp=>some p.1)):kvs.map (·.1)=kvs'.map (·.1):=by
 rw[e,e']at h
 have:=congrArg (List.filterMap id) h
 simpa [Tw,Wf]using this
theorem Et {prog:OH}{w:Px}{K:Type}[DecidableEq K]{knd:HeapKind prog w K}{h:Heap}{a:Addr}{xs ys:List (K×Addr×Oa)}(d:h.DictOfH knd a xs)(e:h.DictOfH knd a ys):xs.map (·.2.2)=ys.map (·.2.2):=by
 obtain⟨o,es,ep,h1,_,h2,h3,_⟩:=d;obtain⟨o',es',ep',h1',_,h2',h3',_⟩:=e;rw[h1]at h1';cases h1';rw[h2]at h2';cases h2';rw[h3]at h3'
 have:=congrArg (VD DictEntry.val) h3'
 simpa [Wi,Wf]using this
theorem EqW.refs {prog:OH}{w:Px}{A:OV}{s:Od}{a b:Addr}{k:Bool}(hne:a≠b)(h:∀(E:Oa->Od->Prop) (Q:Oa->Od->Prop),Q (.bool k) s->wpAny (model prog w) A (Po .Eq (.ref a) (.ref b)) Q E s):EqW prog w A s (.ref a) (.ref b) k:=λE Q hq=>by
 unfold eqBool;refine P7 ?_
 refine Xo (λz=>absurd (T4 (eq_of_beq z)) hne) λ_=> ?_
 exact N7 (show wpAny (model prog w) A (Po .Eq (.ref a) (.ref b)) _ E s from h E _ (Pg hq))
section
variable {X:Cx}{pins:List (Addr×Obj)}{σ:L2.St}{H:Hp}{s:Od}{O:Ow}
theorem Ft (I:Inv X pins σ H s){A:OV}(hu:A.units+53<cLine){ks us ks' us':List T}{v v':V}{u u':Oa}(r:Rep X.K O H (.dct ks us) v)(q:RelV v u)(r':Rep X.K O H (.dct ks' us') v')(q':RelV v' u')
  (hk:ks.map keyOf=ks'.map keyOf) (hl:us.length=us'.length) (hd:deps us<=50) (hn:nds us=true) (hn':nds us'=true):EqW X.prog X.w A s u u' (beqTs us us'):=by
 obtain⟨a,kvs,rfl,_,e,e1,rv⟩:=Rep.FS.mp r;obtain⟨b,kvs',rfl,_,e',e1',rv'⟩:=Rep.FS.mp r';obtain rfl:u= .ref a:=q;obtain rfl:u'= .ref b:=q';obtain⟨_,na,xs,kt,dd⟩:=k8 I.hok e;obtain⟨_,nb,ys,kt',dd'⟩:=k8 I.hok e'
 have V1:ReVs s us (xs.map (·.2.2)):=Reps.val I hn rv (oA kt)
 have V2:ReVs s us' (ys.map (·.2.2)):=Reps.val I hn' rv' (oA kt')
 by_cases hab:a=b
 ·subst hab
  rw[<-Et dd dd']at V2;rw[ReVs.refl V1 V2];exact λE Q hq=>EqAt.same _ _ _ E Q hq
 ·refine EqW.refs hab λE Q hq=> ?_
  have l1:=V1.length;rw[Ob]at l1;refine ji (e:=λj=>aS (us.getD j .non) (us'.getD j .non)) (by omega) (QJ (by omega)) na nb dd dd' (by rw[oB kt,oB kt'];exact r8 hk e1 e1') (λj x y hx hy=> ?_) ?_
  ·have h1:j<us.length:=by rw[l1];exact(Oi.mp hx).1
   have h2:j<us'.length:=by omega
   obtain⟨w1,z1,t1⟩:=V1.get (Of h1)
   obtain⟨w2,z2,t2⟩:=V2.get (Of h2)
   rw[Ov,hx]at z1
   rw[Ov,hy]at z2
   cases z1;cases z2
   show EqW _ _ _ _ _ _ (aS (us.getD j .non) (us'.getD j .non))
   rw[show us.getD j .non=us[j]by simp[h1],show us'.getD j .non=us'[j]by simp[h2]]
   have:=(Ed 50 A.in1 s us[j] us'[j] _ _ (.inl (OI (iZ (Of h1)) hd)) (by show A.units+1+50<cLine;omega) t1 t2).1
   exact λE Q hq=>this _ _ E Q hq
  ·have q:=kJ us us' (λj=>aS (us.getD j .non) (us'.getD j .non)) λj t u h1 h2=>by simp[UD,h1,h2]
   rw[q,<-hl,Wt]at hq;rw[<-l1]
   simpa using hq
theorem vJ (I:Inv X pins σ H s){A:OV}(hu:A.units+53<cLine):∀{rs rs':List T} {vs vs':List V} {us us':List Oa} {b:Bool},Reps X.K O H rs vs->Vals vs us->Reps X.K O H rs' vs'->Vals vs' us'->jI rs rs'=some b →
  ∃e:Nat->Bool,(∀(j:Nat) u u',us[j]? =some u->us'[j]? =some u'->EqW X.prog X.w A s u u' (e j))/\b=(On us.length).all e
 | [],[],vs,vs',us,us',b,r,v,r',v',h=>by
  cases Reps.Da.mp r;cases v;cases h
  exact⟨λ_=>true,λj u u' z=>by simp at z,rfl⟩
 | [],_::_,_,_,_,_,_,_,_,_,_,h=>by cases h
 | _::_,[],_,_,_,_,_,_,_,_,_,h=>by cases h
 | t::l,t'::l',vs,vs',us,us',b,r,v,r',v',h=>by
  obtain⟨x,xs,rfl,p,q⟩:=Reps.me.mp r;obtain⟨x',xs',rfl,p',q'⟩:=Reps.me.mp r'
  cases v with
  | @cons _ u _ us v1 v2=>
   cases v' with
   | @cons _ u' _ us' v1' v2'=>
    unfold jI at h
    split at h
    ·rename_i a c h1 h2
     cases h;obtain⟨e,he,hb⟩:=vJ I hu q v2 q' v2' h2
     have h0:EqW X.prog X.w A s u u' a:=by
      unfold zl at h1
      split at h1
      ·split at h1
       ·rename_i z
        cases h1;exact Ft I hu p v1 p' v1' z.1 z.2.1 z.2.2.1 z.2.2.2.1 z.2.2.2.2
       ·cases h1
      ·cases h1
     refine⟨λj=>match j with | 0=>a | j+1=>e j,λj w w' z z'=> ?_,by rw[Oj,jZ,hb]⟩
     cases j with
     | zero=>cases z;cases z';exact h0
     | succ j=>exact he j w w' z z'
    ·cases h
theorem CY (hu:X.A.units+60<cLine):OpT X (Po .Eq) Bf:=by
 intro pins s σ H O x y vx vy ux uy Q I hf rx ry r1 r2 hp;unfold Bf at hp
 split at hp
 ·rename_i ks rs ks' rs'
  by_cases hk:ks.map keyOf=ks'.map keyOf
  ·rw[if_pos hk]at hp
   cases hb:jI rs rs' with
   | none=>rw[hb]at hp;exact hp.elim
   | some k=>
    rw[hb]at hp;obtain⟨a,kvs,rfl,_,e,e1,rv⟩:=Rep.FS.mp rx;obtain⟨b,kvs',rfl,_,e',e1',rv'⟩:=Rep.FS.mp ry;obtain rfl:ux= .ref a:=r1;obtain rfl:uy= .ref b:=r2;obtain⟨_,na,xs,kt,dd⟩:=k8 I.hok e;obtain⟨_,nb,ys,kt',dd'⟩:=k8 I.hok e';obtain⟨ee,he,hbb⟩:=vJ I (A:=X.A.in1) (by show X.A.units+1+53<cLine;omega) rv (oA kt) rv' (oA kt') hb
    refine ji (e:=ee) (by omega) (QJ (by omega)) na nb dd dd' (by rw[oB kt,oB kt'];exact r8 hk e1 e1') (λj x y hx hy=>he j _ _ (by rw[Ov,hx];rfl) (by rw[Ov,hy];rfl)) ?_
    rw[Ob]at hbb;rw[<-hbb];exact⟨.bl k,H,I,rfl,hp H (Same.refl H) _ (Rep.bl_ _)⟩
  ·rw[if_neg hk]at hp;exact hp.elim
 ·exact hp.elim
end
end Tr
namespace Tr
open PySem PySem.Spec PyProof.Rows L2 PySem.W
section
variable {prog:OH}{w:Px}{A:OV}{h0:Heap}{its:Array Oa}{I l S:Addr}{res:List Int}{r:Nat->List Int}
def KG (h0 h:Heap):Prop:=∀b o,h0.get? b=some o->h.get? b=some o
def CmR (prog:OH)(w:Px)(A:OV)(h0:Heap)(its:Array Oa)(r:Nat->List Int):Prop:=
 ∀(i j:Nat) (x y:Oa) (s:Od) (Q E:Oa->Od->Prop),KG h0 s.heap->its[i]? =some x->its[j]? =some y->Q (.bool (cO (r i) (r j))) s->wpAny (model prog w) A (richCompare .Lt x y) Q E s
def two (v:Oa)(c:Nat):Obj:={ cls:=.type "list",dict:=none,data:=.seq #[v,v] c,slots:=#[] }
theorem JH {R:Xj->Od->Prop}(hh:A.handled=none)(h1:l≠I)(h2:S≠I)(h3:S≠l)(h4:∀b o,h0.get? b=some o->b≠I/\b≠S)(hc:CmR prog w A.in1 h0 its r) :
  ∀(m j b:Nat) (s:Od) (x:Oa) (c:Nat),j+m=its.size->its[b]? =some x->s.heap.IsListIter I l j->s.heap.IsList l its->s.heap.get? S=some (two x c)->KG h0 s.heap->res=gC (r b) ((On m).map λq=>r (j+q)) →
   (∀b' x' h' tk,its[b']? =some x'->r b'=res->KG h0 h'->R (.ok (.ret x')) { s with heap:=h',toks:=tk })->codeAny (model prog w) A (.builtin "min.loop" ⟨[.ref I,.none,.ref S],[]⟩) R s:=by
 have W:=Walks.list (prog:=prog) (w:=w) (A:=A.in1) hh I l h1 its
 have nm:(toString "min" ++toString ".loop" : String)= "min.loop":=by decide
 intro m
 induction m with
 | zero=>
  intro j b s x c e ex i1 i2 eS kp er hR
  refine QY Sr (by
   rw[Qm PZ _];refine N7 (m:=VW _) (RY eS rfl (N7 (m:=tryCatch _ _) (SE (W.done s _ _ ⟨by rw[<-e];exact i1,i2⟩ λh' tk k1=> ?_))))
   have eS':=k1 S _ (by simpa using h2) eS
   refine N7 (m:=updateSeq S _) (UT eS' rfl (N7 (Uh (Ol (hR b x _ tk ex er.symm λa o q=> ?_)))))
   have n:=h4 a o q
   exact(Pk _ _ (PM n.2)).trans (k1 a o (by simpa using n.1) (kp a o q)))
 | succ m ih=>
  intro j b s x c e ex i1 i2 eS kp er hR
  have hj:j<its.size:=by omega
  refine QY Sr (by
   rw[Qm PZ _];refine N7 (m:=VW _) (RY eS rfl (N7 (m:=tryCatch _ _) (SE (W.item j s _ _ hj ⟨i1,i2⟩ λy h' tk ey st k1=> ?_))))
   have eS':=k1 S _ (by simpa using h2) eS
   have kp':KG h0 h':=λa o q=>k1 a o (by simpa using(h4 a o q).1) (kp a o q)
   have er':res=gC (if cO (r j) (r b)=true then r j else r b) ((On m).map λq=>r (j+1+q)):=by
    rw[er,RA,Oc,OM]
    show gC (if cO (r (j+0)) (r b)=true then r (j+0)else r b) _=_
    rw[Nat.add_zero]
    congr 1
    refine ON λq _=> ?_
    show r (j+(q+1))=_
    rw[show j+(q+1)=j+1+q by omega]
   refine N7 (m:=tryCatch (holding [y,y] _) _) (SE (P7 (N7 (hc j b y x { s with heap:=h',toks:=tk } _ _ kp' ey ex (N7 (P7 (Pg (N7 (Uh (Ol ?_))))))))))
   cases q:cO (r j) (r b)with
   | true=>
    rw[q,if_pos rfl]at er';rw[if_pos rfl];refine N7 (m:=updateSeq S _) (UT eS' rfl (N7 (Uh ?_)))
    rw[nm];refine Ol ⟨Ru PZ _,ih (j+1) j _ y _ (by omega) ey (st.1.at λo z=> ?_) (st.2.at λo z=> ?_) (RE _ eS' rfl) (λa o z=>(Pk _ _ (PM (h4 a o z).2)).trans (kp' a o z)) er' λb' x' h'' tk'=>hR b' x' h'' tk'⟩
    ·exact(Pk _ _ h2).trans z
    ·exact(Pk _ _ h3).trans z
   | false=>
    rw[q,if_neg (by decide)]at er'
    rw[if_neg (by decide)]
    refine N7 (Uh ?_);rw[nm]
    exact Ol ⟨Ru PZ _,ih (j+1) b _ x c (by omega) ex st.1 st.2 eS' kp' er' λb' x' h'' tk'=>hR b' x' h'' tk'⟩)
theorem Dd {s:Od}{Q E:Oa->Od->Prop}{k:List Int}{ks:List (List Int)}(hh:A.handled=none)(hl:s.heap.IsList l its)(hz:its.size=ks.length+1)(hk:∀i,r i=(k::ks).getD i [])(hc:CmR prog w A.in1 s.heap its r)
  (h:∀b x h' tk,its[b]? =some x->r b=gC k ks->KG s.heap h'->Q x { s with heap:=h',toks:=tk }):wpAny (model prog w) A (call (.builtin "min") [.ref l]) Q E s:=by
 have nm:(toString "min" ++toString ".loop" : String)= "min.loop":=by decide
 have hlt:l<s.heap.objs.size:=hl.elim λ_ e=>Ou e.1
 refine call_function_tree PySem.F.kind_min PySem.F.plain_min PySem.F.entry_min (PySem.F.args_min1 _) (N7 (m:=S7 "min" _ 0 _) (wpAny_of_eq (show S7 "min" ["key","default"] 0 ⟨[],[]⟩=pure [none,none]from rfl) (N7 (Ol (N7 (Sz hl ?_))))))
 refine N7 (Pt ?_);rw[nm]
 generalize hI:s.heap.push { cls:=.type "list_iterator",data:=.fields #[.ref l,.int 0 0] }=hp
 have hsz:hp.objs.size=s.heap.objs.size+1:=by rw[<-hI];exact Ry ..
 have st:hp.IsListIter s.heap.objs.size l 0/\hp.IsList l its:=by rw[<-hI];exact⟨⟨_,Oz _ rfl,rfl,rfl⟩,hl.push _⟩
 have kp:KG s.heap hp:=λb o e=>by rw[<-hI];exact Oh _ e
 have n1:l≠s.heap.objs.size:=O7 hlt
 have n2:hp.objs.size≠s.heap.objs.size:=by rw[hsz];exact WK _
 have n3:hp.objs.size≠l:=λz=>U6 (show s.heap.objs.size+1<s.heap.objs.size from by rw[<-hsz,z];exact hlt)
 have n4:∀b o,s.heap.get? b=some o->b≠s.heap.objs.size/\b≠hp.objs.size:=λb o e=>by
  have:=Ou e;exact⟨O7 this,λz=>U6 (show s.heap.objs.size+1<s.heap.objs.size from by rw[<-hsz,<-z];exact this)⟩
 have W:=Walks.list (prog:=prog) (w:=w) (A:=A.in1) hh s.heap.objs.size l n1 its
 refine Ol ⟨Ru PZ _,QY Sr (by
  rw[Qm PZ _];have eS:(hp.push { cls:=.type "list",data:=.seq #[] 0 }).get? hp.objs.size=some _:=Oz _ rfl
  refine N7 (m:=VW _) (RY eS rfl (N7 (m:=tryCatch _ _) (SE (W.item 0 _ _ _ (by omega) ⟨st.1.at λo e=>Oh _ e,st.2.push _⟩ λy h' tk ey st' k1=> ?_))))
  have eS':=k1 hp.objs.size _ (by simpa using n2) eS
  refine N7 (m:=updateSeq hp.objs.size _) (UT eS' rfl ?_)
  rw[nm]
  have kp':KG s.heap (h'.update hp.objs.size (PD λ_=> #[y,y])):=λa o e=>(Pk _ _ (PM (n4 a o e).2)).trans (k1 a o (by simpa using(n4 a o e).1) (Oh _ (kp a o e)))
  refine Ol ⟨Ru PZ _,JH (h0:=s.heap) (res:=gC k ks) hh n1 n2 n3 n4 hc ks.length 1 0 _ y _ (by omega) ey (st'.1.at λo z=> ?_) (st'.2.at λo z=> ?_) (RE _ eS' rfl) kp' ?_ λb x h'' tk' ex er kp''=>h b x h'' tk' ex er kp''⟩
  ·exact(Pk _ _ n2).trans z
  ·exact(Pk _ _ n3).trans z
  ·rw[hk 0]
   show _=gC k _
   congr 1
   refine R1 (by simp) λi a1 a2=> ?_
   rw[Rv,Tz,hk,show 1+i=i+1 by omega]
   simp[a1])⟩
end
section
variable {X:Cx}
theorem GX (hc:X.calm=true)(hu:X.A.units+60<cLine):CallT X (.builtin "min") wu:=by
 intro pins s σ H O ts vs us Q I hf rs rv hp;unfold wu at hp
 split at hp
 ·rename_i l
  obtain⟨v,rfl,r⟩:=rs.one
  split at hp
  ·rename_i k ks hk
   obtain⟨a,ws,rfl,n,q,z⟩:=Rep.Do.mp r;obtain⟨u,rfl,ru⟩:=Vals.one rv;obtain rfl:u=OA a:=ru;obtain⟨zz,its,m,r',hlen,eo⟩:=I.KM q;obtain⟨g1,g2⟩:=uz hk z r'
   have at_:∀(i:Nat) (x:Oa),its[i]? =some x->∃b,x= .ref b/\Rep X.K O H (.lst (((k::ks).getD i []).map .int)) (.ref b):=λi x e=>by
    have hi:i<(k::ks).length:=by rw[g1];exact(Oi.mp e).1
    obtain⟨ns,b,e1,e2,e3⟩:=g2 i (BI ((k::ks).getD i [])) x (by rw[Ov,Of hi,O5,Of hi];rfl) e
    have:(k::ks).getD i [] =ns:=congrArg List.tail e1;rw[this];exact⟨b,e2,e3⟩
   have hd:∀(b:Addr) (ns:List Int),Rep X.K O H (.lst (ns.map .int)) (.ref b)->∃(js:List Oa) (c:Nat),s.heap.get? b=some (seqObj "list" js.toArray c)/\Qp js ns:=λb ns e=>by
    obtain⟨b',vs',eb,_,q',z'⟩:=Rep.Do.mp e;cases eb;obtain⟨_,js,c,r2,_,eo2⟩:=I.KM q';cases Reps.Nt z';exact⟨js,c,eo2,m7 r2⟩
   refine Dd (l:=a) (its:=its.toArray) (r:=λi=>(k::ks).getD i []) (k:=k) (ks:=ks) (I.ok.hd hc) ⟨_,eo,rfl,m,rfl⟩ (by rw[Ox,<-g1,Oj]) (λi=>rfl) (λi j x y s' Q' E' kp ex ey hq=> ?_) λb x h' tk ex er kp=> ?_
   ·obtain⟨b1,rfl,p1⟩:=at_ i x (by simpa using ex)
    obtain⟨b2,rfl,p2⟩:=at_ j y (by simpa using ey)
    obtain⟨js1,c1,o1,i1⟩:=hd b1 _ p1;obtain⟨js2,c2,o2,i2⟩:=hd b2 _ p2;exact HT.lt_lstInts (kp _ _ o1) (kp _ _ o2) (by simpa using i1) (by simpa using i2) (show X.A.units+1<cLine by omega) (by rw[zO];exact hq)
   ·obtain⟨b1,rfl,p1⟩:=at_ b x (by simpa using ex)
    rw[show(k::ks).getD b [] =gC k ks from er]at p1
    exact⟨.ref b1,H,I.kept (t':=tk) kp,rfl,hp H (Same.refl H) _ p1⟩
  ·exact hp.elim
 ·exact hp.elim
end
end Tr
namespace Tr
open PySem PySem.Spec PyProof.Rows L2
section
variable {P:OH}{w:Px}{K:N6}{mg:Str->Option Oa}{base:Heap}{x:Str}{st:Stmt}{ps:List Str}{k n:Nat}{F:En->Rs Fl}
theorem aN (N:List Str)(H:fV K mg x st ps)
  (hbody:N.Nodup->∀(f:Addr) (cdv:Oa) (A:OV) (outer:List Env) (s:Od) (H:Hp) (E:XK),Room k (A.deeper (envOfC x (az st) s.heap.objs.size f cdv)) →
   ∀xe,BA ((jk CX0 P w K mg base N x (az st) f cdv A outer s H E).FB xe) (cZ st) F) (S:autoParam (dj N ps (az st)) z_) (hn:ps.length=n:=by rfl):Cl P w K mg base (k+1) x n (val n N.length F):=Mv H S hn (hbody S.nd)
end
theorem cG {X:Cx}{pos:Pos}{elt tg iter:Expr}{ifs:List Expr}{scope:RI}{src:List (Option Nat)}{fi:En->Rs (List T)}{tgt:T->En->Rs En}{fc:En->Rs Bool}{fe:En->Rs T}(N' N:List Str)(st:Stmt)(hi:QI X tg iter fi)
  (block:N'.Nodup->∀(cl:List (Str×Addr)) (C:Addr) (s₀:Od) (H₀:Hp) (fp:List Addr),QG (cA X scope cl N' C s₀ H₀ fp) tg tgt/\ME (cA X scope cl N' C s₀ H₀ fp) ifs fc/\QE (cA X scope cl N' C s₀ H₀ fp) elt fe)
  (hc:Cx.calm X=true:=by rfl) (hN:X.N=N:=by rfl) (hm:X.env.scope.names=(az st).names:=by rfl) (hk:scope.kind= .function:=by rfl) (h:autoParam (Gm (az st).names N scope.names N' src=true) y_) (nd:autoParam (N'.Nodup) y_) (hs:autoParam (∀(x:Oa),Ph iter (Cx.env X) x=pure x) t_) :
  QE X (Uc elt [{ target:=tg,iter:=iter,ifs:=ifs,is_async:=0 }] scope pos) (d6 fi src tgt fc fe):=Hf hc (LcScope.by hN hm hk h) hi (block nd) hs
@[elab_as_elim] theorem LY {α:Type} {p:List α->Prop} (h:p []):∀us:List α,us.length=0->p us
 | [],_=>h
@[elab_as_elim] theorem HE {α:Type} {p:List α->Prop} (h:∀a,p [a]):∀us:List α,us.length=1->p us
 | [a],_=>h a
@[elab_as_elim] theorem LW {α:Type} {p:List α->Prop} (h:∀a b,p [a,b]):∀us:List α,us.length=2->p us
 | [a,b],_=>h a b
@[elab_as_elim] theorem LV {α:Type} {p:List α->Prop} (h:∀a b c,p [a,b,c]):∀us:List α,us.length=3->p us
 | [a,b,c],_=>h a b c
section
variable {K:N6}{h:Heap}{mg:Str->Option Oa}{S:rE}{top:Nat->Stmt}
theorem cy (j:Nat){n:Str}{i:Nat}{ps:List Str}(X:K.In h)(G:h.Ns OL mg)(e:pU S K=nT S top)(q:S.tab[j]? =some (n,i):=by rfl)
  (hb:∀(kV doc pm:Oa) (an:Option Addr) (cdv ct:Oa) (us:List Oa),us.length=ps.length->VQ (R5 n n (ir (top i)) (cZ (top i)) (az (top i)) .none kV doc pm an cdv ct) ⟨us,[]⟩=pure (ps.zip us):=by
   intro _ _ _ _ _ _ us hl;first | exact HE (λ_=>rfl) us hl | exact LW (λ_ _=>rfl) us hl | exact LV (λ_ _ _=>rfl) us hl | exact LY rfl us hl) :
  ∃f fd,Fn K mg n (top i) ps f fd:=L8 j X G e q hb
end
end Tr
namespace G
open PySem PySem.Spec PyProof.Rows L2 Tr
structure Bl (mg:Str->Option Oa):Prop where
 b_ValueError:mg "ValueError" =none
 b_all:mg "all" =none
 b_bool:mg "bool" =none
 b_dict:mg "dict" =none
 b_enumerate:mg "enumerate" =none
 b_int:mg "int" =none
 b_isinstance:mg "isinstance" =none
 b_len:mg "len" =none
 b_list:mg "list" =none
 b_max:mg "max" =none
 b_min:mg "min" =none
 b_range:mg "range" =none
 b_sorted:mg "sorted" =none
 b_tuple:mg "tuple" =none
structure Cs (mg:Str->Option Oa):Prop where
 MOST_CLOCKS:∃t,mg "MOST_CLOCKS" =some (.int 4 t)
 MOST_LETTERS:∃t,mg "MOST_LETTERS" =some (.int 8 t)
 MOST_READINGS:∃t,mg "MOST_READINGS" =some (.int 4 t)
 LAST_READING:∃t,mg "LAST_READING" =some (.int 99 t)
 SLOWEST:∃t,mg "SLOWEST" =some (.int 9 t)
 LONGEST:∃t,mg "LONGEST" =some (.int 999 t)
theorem uS:Pb "bool" =some (.type "bool"):=by decide+kernel
theorem iw:Pb "int" =some (.type "int"):=by decide+kernel
theorem bW:Pb "tuple" =some (.type "tuple"):=by decide+kernel
structure Xs (K:N6)(mg:Str->Option Oa)(C_NoRecord C_NoEvent C_NoNumber C_NoWorld C_Barred C_Nothing C_ClockError:Addr):Prop where
 m_NoRecord:mg "NoRecord" =some (.ref C_NoRecord)
 m_NoEvent:mg "NoEvent" =some (.ref C_NoEvent)
 m_NoNumber:mg "NoNumber" =some (.ref C_NoNumber)
 m_NoWorld:mg "NoWorld" =some (.ref C_NoWorld)
 m_Barred:mg "Barred" =some (.ref C_Barred)
 m_Nothing:mg "Nothing" =some (.ref C_Nothing)
 m_ClockError:mg "ClockError" =some (.ref C_ClockError)
 o_NoRecord:OX K C_NoRecord (.ref C_ClockError::oj)
 o_NoEvent:OX K C_NoEvent (.ref C_ClockError::oj)
 o_NoNumber:OX K C_NoNumber (.ref C_ClockError::oj)
 o_NoWorld:OX K C_NoWorld (.ref C_ClockError::oj)
 o_Barred:OX K C_Barred (.ref C_ClockError::oj)
 o_Nothing:OX K C_Nothing (.ref C_ClockError::oj)
 o_ClockError:OX K C_ClockError oj
 d:[C_NoRecord,C_NoEvent,C_NoNumber,C_NoWorld,C_Barred,C_Nothing,C_ClockError].Nodup
abbrev cH:Stmt:=top 68
theorem aaD:dj ["_law_e","_law_flags"] ["_law_e"] (az cH):=⟨rfl,rfl,rfl,by decide+kernel,rfl,by decide+kernel,by decide+kernel⟩
def cM (j:Nat):T:=.tup [.str "refused",.int (j:Nat)]
def m9 (c:Str):Rs T:=if c= "NoRecord" then .ok (cM 0)else if c= "NoEvent" then .ok (cM 1)else if c= "NoNumber" then .ok (cM 2)else if c= "NoWorld" then .ok (cM 3)else if c= "Barred" then .ok (cM 4)else if c= "Nothing" then .ok (cM 5)else .bad
section
variable {P:OH}{w:Px}{K:N6}{mg:Str->Option Oa}{base:Heap}{C_NoRecord C_NoEvent C_NoNumber C_NoWorld C_Barred C_Nothing C_ClockError:Addr}
theorem Xs.ne {C D:Addr}(h:C≠D):(OA C::oj).contains (.ref D)=false:=by
 rw[Qh]
 have:(OA D == OA C)=false:=by rw[beq_eq_false_iff_ne];exact λz=>h (T4 z).symm
 rw[this];rfl
theorem Cn {C e f:Addr}{oe:Obj}{ev:Array Oa}{A:OV}{outer:List Env}{s:Od}{H:Hp}{Q:VK}{j:Nat}(S:Xs K mg C_NoRecord C_NoEvent C_NoNumber C_NoWorld C_Barred C_Nothing C_ClockError)(OC:OX K C (.ref C_ClockError::oj))
  (hc:oe.cls= .ref C) (hd:oe.data= .fields ev) (hi:mg "isinstance" =none) (hv:mg "ValueError" =none) (n_NoRecord:C_ClockError≠C_NoRecord) (n_NoEvent:C_ClockError≠C_NoEvent) (n_NoNumber:C_ClockError≠C_NoNumber) (n_NoWorld:C_ClockError≠C_NoWorld) (n_Barred:C_ClockError≠C_Barred) (n_Nothing:C_ClockError≠C_Nothing)
  {b0 b1 b2 b3 b4 b5:Bool} (h0:decide (C=C_NoRecord)=b0) (h1:decide (C=C_NoEvent)=b1) (h2:decide (C=C_NoNumber)=b2) (h3:decide (C=C_NoWorld)=b3) (h4:decide (C=C_Barred)=b4) (h5:decide (C=C_Nothing)=b5)
  (cnt:[b0,b1,b2,b3,b4,b5].countP id=1) (hj:[b0,b1,b2,b3,b4,b5][j]? =some true) (hno:∀m,m<j->[b0,b1,b2,b3,b4,b5][m]? =some false)
  (q:∀p H',Same H H'->H p=none->H' p=some (.tup [.str "refused",.int (j:Nat)])->Q (.ref p) H') (cdv:Oa) :
  ∃t,PSs (MT P w K mg base ["_law_e","_law_flags"] "_law_refused" (az cH) f cdv A outer s H e oe) (cZ cH) t/\t { nx:=λ_ _=>False,rt:=Q } (start ["_law_e","_law_flags"] [.ref e]) H:=by
 have nd:=aaD.nd
 have hp:(e,oe)∈(MT P w K mg base ["_law_e","_law_flags"] "_law_refused" (az cH) f cdv A outer s H e oe).pn:=Oe
 refine⟨_,lQ (pz (i:=1) nd rfl (TM rfl) (tV (bF (mP rfl (TM rfl) hp hc hd OC S.o_NoRecord b0 h0 (λ_=>Xs.ne n_NoRecord) hi S.m_NoRecord) (bF (mP rfl (TM rfl) hp hc hd OC S.o_NoEvent b1 h1 (λ_=>Xs.ne n_NoEvent) hi S.m_NoEvent) (bF (mP rfl (TM rfl) hp hc hd OC S.o_NoNumber b2 h2 (λ_=>Xs.ne n_NoNumber) hi S.m_NoNumber) dQ)))))
  (lQ (pz (i:=1) nd rfl (TM rfl) (LD C1 (pv 1) (tV (bF (mP rfl (TM rfl) hp hc hd OC S.o_NoWorld b3 h3 (λ_=>Xs.ne n_NoWorld) hi S.m_NoWorld) (bF (mP rfl (TM rfl) hp hc hd OC S.o_Barred b4 h4 (λ_=>Xs.ne n_Barred) hi S.m_Barred) (bF (mP rfl (TM rfl) hp hc hd OC S.o_Nothing b5 h5 (λ_=>Xs.ne n_Nothing) hi S.m_Nothing) dQ))))))
  (lQ (Hu (PW.pt (Ht (FV LG (zA QM PySem.F.slot_list_count PySem.F.type_list_count AX (pv 1) (bF CT dQ)) xZ (JB _)) (Cz (CC (CB (Jo rfl (TM rfl) hp hc OC hi hv)))))) (gE CF) zp)
  (gE (jJ (tU (bF CL (bF (zA QM T6 T7 AV (pv 1) (bF CT dQ)) dQ))))))),?_⟩
 refine⟨rfl,rfl,rfl,(by show 3<=sizeLine;decide),λl1 n1=> ?_⟩
 refine⟨.ref l1,rfl,rfl,rfl,rfl,(by show 3<=sizeLine;decide),λl2 n2=> ?_⟩
 have ne21:l1≠l2:=λz=>by subst z;rw[aI]at n2;cases n2
 refine⟨l1,l2,[.bl b0,.bl b1,.bl b2],[.bl b3,.bl b4,.bl b5],rfl,rfl,by rw[aG ne21,aI],aI,(by show 3+3<=sizeLine;decide),λl3 n3=> ?_⟩
 refine⟨.ref l3,rfl,.inl ⟨rfl,_,SqL.of aI⟩,⟨l3,[b0,b1,b2,b3,b4,b5],rfl,rfl,aI,?_⟩⟩
 have hz:(!decide (V.int (([b0,b1,b2,b3,b4,b5].countP id:Nat):Int)=V.int 1))=false:=by rw[cnt];simp
 refine⟨rfl,false,congrArg V.bl hz,iteF ⟨rfl,true,rfl,iteF ?_⟩⟩
 have hj6:j<6:=by have:=(Oi.mp hj).1;simpa using this
 refine⟨.ref l3,rfl,.inl ⟨rfl,_,SqL.of aI⟩,⟨l3,[b0,b1,b2,b3,b4,b5],j,rfl,rfl,aI,hj,hno,by omega,(by show 2<=sizeLine;decide),λp np=>q p _ ?_ ?_ aI⟩⟩
 rotate_left
 ·have m3:p≠l3:=λz=>by subst z;rw[aI]at np;cases np
  have m2:p≠l2:=λz=>by subst z;rw[aG m3,aI]at np;cases np
  have m1:p≠l1:=λz=>by subst z;rw[aG m3,aG m2,aI]at np;cases np
  rw[aG m3,aG m2,aG m1]at np;exact np
 intro b o hb
 have m1:b≠l1:=λz=>by subst z;rw[n1]at hb;cases hb
 have m2:b≠l2:=λz=>by subst z;rw[aG m1,hb]at n2;cases n2
 have m3:b≠l3:=λz=>by subst z;rw[aG m2,aG m1,hb]at n3;cases n3
 have m4:b≠p:=λz=>by subst z;rw[aG m3,aG m2,aG m1,hb]at np;cases np
 rw[aG m4,aG m3,aG m2,aG m1];exact hb
end
section
variable {X:Cx}{C_NoRecord C_NoEvent C_NoNumber C_NoWorld C_Barred C_Nothing C_ClockError:Addr}
def tRC (X:Cx)(i:Nat)(e:Addr)(j:Nat):TE:=λσ H Q=>σ[i]? =some (some (.ref e))/\H e=none/\e∉kF X.stack/\∀p H',Same H H'->H p=none->H' p=some (.tup [.str "refused",.int (j:Nat)])->Q (.ref p) H'
theorem fW {en:Str}{p p1 pos:Pos}{i j:Nat}{C e f:Addr}{fd:PV}{oe:Obj}{ev:Array Oa}(hN:X.N[i]? =some en)(hv:uY X.env.scope en)
  (Fn_:Fn X.K X.mg "_law_refused" cH ["_law_e"] f fd) (S:Xs X.K X.mg C_NoRecord C_NoEvent C_NoNumber C_NoWorld C_Barred C_Nothing C_ClockError) (OC:OX X.K C (.ref C_ClockError::oj))
  (hc:oe.cls= .ref C) (hd:oe.data= .fields ev) (hi:X.mg "isinstance" =none) (hvv:X.mg "ValueError" =none) (n_NoRecord:C_ClockError≠C_NoRecord) (n_NoEvent:C_ClockError≠C_NoEvent) (n_NoNumber:C_ClockError≠C_NoNumber) (n_NoWorld:C_ClockError≠C_NoWorld) (n_Barred:C_ClockError≠C_Barred) (n_Nothing:C_ClockError≠C_Nothing)
  {b0 b1 b2 b3 b4 b5:Bool} (h0:decide (C=C_NoRecord)=b0) (h1:decide (C=C_NoEvent)=b1) (h2:decide (C=C_NoNumber)=b2) (h3:decide (C=C_NoWorld)=b3) (h4:decide (C=C_Barred)=b4) (h5:decide (C=C_Nothing)=b5)
  (cnt:[b0,b1,b2,b3,b4,b5].countP id=1) (hj:[b0,b1,b2,b3,b4,b5][j]? =some true) (hno:∀m,m<j->[b0,b1,b2,b3,b4,b5][m]? =some false) (hr:X.A.depth+3<RX)
  (hg:Gl (yM X e oe) "_law_refused":=by rfl) (hde:autoParam ((en == ("__debug__" : Str))=false) s_) (hce:autoParam ((en == ("__classdict__" : Str))=false) s_)
  (he:Oy [.Name en p1] X.env=(false,eval (.Name en p1) X.env)::Oy [] X.env:=by rfl) (hpl:(backTo pos (Oy [] X.env)).any (·.1)=false:=by rfl) :
  PE (yM X e oe) (.Call (.Name "_law_refused" p) [.Name en p1] [] pos) (tRC X i e j):=by
 intro pins s σ H Q I ⟨hσ,hH,hf,q⟩;refine Pc (jd (X:=yM X e oe) I hg Fn_.mg ?_ (by decide))
 have hA:PA (yM X e oe) [.Name en p1] (hZ (oV i) sZ):=bF (i8 (X:=yM X e oe) hN hv hde hce) dQ he;refine Sf (h₀:=X.base) I.ok.mod.kin Fn_.fn.kp (cL (hA pos pins s σ H (λvs H'=>vs= [.ref e]/\H'=H) I ⟨.ref e,hσ,rfl,rfl⟩) λus s1 ⟨vs,H1,I1,r,e1,e2⟩=>⟨I1.kIn,?_⟩) he hpl
 subst e1;subst e2;obtain⟨u,rfl,ru⟩:=lG r;cases ru
 have hoe:s1.heap.get? e=some oe:=(I1.pin (e,oe) (O8 _ Oe)).1
 have hb:=Fn_.bd s1 [.ref e] I1.kIn rfl;refine UX (Sb (Kd (Q:=Q) Fn_.fn aaD (vs:=[.ref e]) rfl hr I1.Np hb r hoe hH hf (λv z=>by rw[hd]at z;cases z) λcdv=>Cn S OC hc hd hi hvv n_NoRecord n_NoEvent n_NoNumber n_NoWorld n_Barred n_Nothing h0 h1 h2 h3 h4 h5 cnt hj hno q cdv) λr s' hq=> ?_)
 cases r with
 | error ev=>exact hq.elim
 | ok fl=>
  cases fl with
  | ret u=>exact I1.after hq
  | next=>exact hq.elim
  | brk=>exact hq.elim
  | cont=>exact hq.elim
theorem kh {K:N6}{O:Ow}{H H':Hp}{p:Addr}{j:Nat}(hO:∀p,H p=none->¬ O p)(hp:H p=none)(h:H' p=some (.tup [.str "refused",.int (j:Nat)])):Rep K O H' (cM j) (.ref p):=
 Rep.Fk.mpr ⟨p,_,rfl,hO p hp,h,Reps.Gc (Rep.NO _) (Reps.Gc (Rep.GE _) Reps.GM)⟩
theorem B2 {en:Str}{p p1 pos rp:Pos}{i:Nat}{f:Addr}{fd:PV}(hN:X.N[i]? =some en)(hv:uY X.env.scope en)
  (Fn_:Fn X.K X.mg "_law_refused" cH ["_law_e"] f fd) (S:Xs X.K X.mg C_NoRecord C_NoEvent C_NoNumber C_NoWorld C_Barred C_Nothing C_ClockError) (hi:X.mg "isinstance" =none) (hvv:X.mg "ValueError" =none) (hr:X.A.depth+3<RX)
  (hg:autoParam (∀e oe,Gl (yM X e oe) "_law_refused") w_) (hde:autoParam ((en == ("__debug__" : Str))=false) s_) (hce:autoParam ((en == ("__classdict__" : Str))=false) s_)
  (he:Oy [.Name en p1] X.env=(false,eval (.Name en p1) X.env)::Oy [] X.env:=by rfl) (hpl:(backTo pos (Oy [] X.env)).any (·.1)=false:=by rfl) :
  uZ X i [.Return (some (.Call (.Name "_law_refused" p) [.Name en p1] [] pos)) rp] C_ClockError m9:=by
 have dd:=S.d
 have ap:∀{a b:Addr} (i j:Nat),i<j->[C_NoRecord,C_NoEvent,C_NoNumber,C_NoWorld,C_Barred,C_Nothing,C_ClockError][i]? =some a->[C_NoRecord,C_NoEvent,C_NoNumber,C_NoWorld,C_Barred,C_Nothing,C_ClockError][j]? =some b->a≠b:=λ{a b} i j hij ha hb z=>by
  have:=(We (Oi.mp ha).1 dd).mp (ha.trans (z▸hb.symm))
  omega
 have hin:∀C:Addr,(OA C:: .ref C_ClockError::oj).contains (.ref C_ClockError)=true:=λC=>by rw[Qh,Qh,beq_self_eq_true,Wv,Wu]
 have n_NoRecord:C_ClockError≠C_NoRecord:=(PM (ap 0 6 (by decide) rfl rfl))
 have n_NoEvent:C_ClockError≠C_NoEvent:=(PM (ap 1 6 (by decide) rfl rfl))
 have n_NoNumber:C_ClockError≠C_NoNumber:=(PM (ap 2 6 (by decide) rfl rfl))
 have n_NoWorld:C_ClockError≠C_NoWorld:=(PM (ap 3 6 (by decide) rfl rfl))
 have n_Barred:C_ClockError≠C_Barred:=(PM (ap 4 6 (by decide) rfl rfl))
 have n_Nothing:C_ClockError≠C_Nothing:=(PM (ap 5 6 (by decide) rfl rfl))
 intro c C t hm ht;unfold m9 at ht
 by_cases z0:c= "NoRecord"
 ·rw[if_pos z0]at ht
  cases ht;rw[z0,S.m_NoRecord]at hm;cases hm;refine⟨_,S.o_NoRecord,hin _,λe oe ev hc hd pins s σ H O Q I hH hf hσ hO q=> ?_⟩
  exact gE (jJ (fW hN hv Fn_ S S.o_NoRecord hc hd hi hvv n_NoRecord n_NoEvent n_NoNumber n_NoWorld n_Barred n_Nothing (b0:=true) (b1:=false) (b2:=false) (b3:=false) (b4:=false) (b5:=false) (by simp) (by rw[decide_eq_false (ap 0 1 (by decide) rfl rfl)]) (by rw[decide_eq_false (ap 0 2 (by decide) rfl rfl)]) (by rw[decide_eq_false (ap 0 3 (by decide) rfl rfl)]) (by rw[decide_eq_false (ap 0 4 (by decide) rfl rfl)]) (by rw[decide_eq_false (ap 0 5 (by decide) rfl rfl)]) (by decide) (j:=0) rfl (λm hm=>by omega) hr (hg e oe) hde hce he hpl)) pins s σ H _ I ⟨hσ,hH,hf,λp H' sm hp h=>q _ _ sm (kh hO hp h)⟩
 rw[if_neg z0]at ht
 by_cases z1:c= "NoEvent"
 ·rw[if_pos z1]at ht
  cases ht;rw[z1,S.m_NoEvent]at hm;cases hm;refine⟨_,S.o_NoEvent,hin _,λe oe ev hc hd pins s σ H O Q I hH hf hσ hO q=> ?_⟩
  exact gE (jJ (fW hN hv Fn_ S S.o_NoEvent hc hd hi hvv n_NoRecord n_NoEvent n_NoNumber n_NoWorld n_Barred n_Nothing (b0:=false) (b1:=true) (b2:=false) (b3:=false) (b4:=false) (b5:=false) (by rw[decide_eq_false (PM (ap 0 1 (by decide) rfl rfl))]) (by simp) (by rw[decide_eq_false (ap 1 2 (by decide) rfl rfl)]) (by rw[decide_eq_false (ap 1 3 (by decide) rfl rfl)]) (by rw[decide_eq_false (ap 1 4 (by decide) rfl rfl)]) (by rw[decide_eq_false (ap 1 5 (by decide) rfl rfl)]) (by decide) (j:=1) rfl (λm hm=>by match m,hm with | 0,_=>rfl) hr (hg e oe) hde hce he hpl)) pins s σ H _ I ⟨hσ,hH,hf,λp H' sm hp h=>q _ _ sm (kh hO hp h)⟩
 rw[if_neg z1]at ht
 by_cases z2:c= "NoNumber"
 ·rw[if_pos z2]at ht
  cases ht;rw[z2,S.m_NoNumber]at hm;cases hm;refine⟨_,S.o_NoNumber,hin _,λe oe ev hc hd pins s σ H O Q I hH hf hσ hO q=> ?_⟩
  exact gE (jJ (fW hN hv Fn_ S S.o_NoNumber hc hd hi hvv n_NoRecord n_NoEvent n_NoNumber n_NoWorld n_Barred n_Nothing (b0:=false) (b1:=false) (b2:=true) (b3:=false) (b4:=false) (b5:=false) (by rw[decide_eq_false (PM (ap 0 2 (by decide) rfl rfl))]) (by rw[decide_eq_false (PM (ap 1 2 (by decide) rfl rfl))]) (by simp) (by rw[decide_eq_false (ap 2 3 (by decide) rfl rfl)]) (by rw[decide_eq_false (ap 2 4 (by decide) rfl rfl)]) (by rw[decide_eq_false (ap 2 5 (by decide) rfl rfl)]) (by decide) (j:=2) rfl (λm hm=>by match m,hm with | 0,_=>rfl | 1,_=>rfl) hr (hg e oe) hde hce he hpl)) pins s σ H _ I ⟨hσ,hH,hf,λp H' sm hp h=>q _ _ sm (kh hO hp h)⟩
 rw[if_neg z2]at ht
 by_cases z3:c= "NoWorld"
 ·rw[if_pos z3]at ht
  cases ht;rw[z3,S.m_NoWorld]at hm;cases hm;refine⟨_,S.o_NoWorld,hin _,λe oe ev hc hd pins s σ H O Q I hH hf hσ hO q=> ?_⟩
  exact gE (jJ (fW hN hv Fn_ S S.o_NoWorld hc hd hi hvv n_NoRecord n_NoEvent n_NoNumber n_NoWorld n_Barred n_Nothing (b0:=false) (b1:=false) (b2:=false) (b3:=true) (b4:=false) (b5:=false) (by rw[decide_eq_false (PM (ap 0 3 (by decide) rfl rfl))]) (by rw[decide_eq_false (PM (ap 1 3 (by decide) rfl rfl))]) (by rw[decide_eq_false (PM (ap 2 3 (by decide) rfl rfl))]) (by simp) (by rw[decide_eq_false (ap 3 4 (by decide) rfl rfl)]) (by rw[decide_eq_false (ap 3 5 (by decide) rfl rfl)]) (by decide) (j:=3) rfl (λm hm=>by match m,hm with | 0,_=>rfl | 1,_=>rfl | 2,_=>rfl) hr (hg e oe) hde hce he hpl)) pins s σ H _ I ⟨hσ,hH,hf,λp H' sm hp h=>q _ _ sm (kh hO hp h)⟩
 rw[if_neg z3]at ht
 by_cases z4:c= "Barred"
 ·rw[if_pos z4]at ht
  cases ht;rw[z4,S.m_Barred]at hm;cases hm;refine⟨_,S.o_Barred,hin _,λe oe ev hc hd pins s σ H O Q I hH hf hσ hO q=> ?_⟩
  exact gE (jJ (fW hN hv Fn_ S S.o_Barred hc hd hi hvv n_NoRecord n_NoEvent n_NoNumber n_NoWorld n_Barred n_Nothing (b0:=false) (b1:=false) (b2:=false) (b3:=false) (b4:=true) (b5:=false) (by rw[decide_eq_false (PM (ap 0 4 (by decide) rfl rfl))]) (by rw[decide_eq_false (PM (ap 1 4 (by decide) rfl rfl))]) (by rw[decide_eq_false (PM (ap 2 4 (by decide) rfl rfl))]) (by rw[decide_eq_false (PM (ap 3 4 (by decide) rfl rfl))]) (by simp) (by rw[decide_eq_false (ap 4 5 (by decide) rfl rfl)]) (by decide) (j:=4) rfl (λm hm=>by match m,hm with | 0,_=>rfl | 1,_=>rfl | 2,_=>rfl | 3,_=>rfl) hr (hg e oe) hde hce he hpl)) pins s σ H _ I ⟨hσ,hH,hf,λp H' sm hp h=>q _ _ sm (kh hO hp h)⟩
 rw[if_neg z4]at ht
 by_cases z5:c= "Nothing"
 ·rw[if_pos z5]at ht
  cases ht;rw[z5,S.m_Nothing]at hm;cases hm;refine⟨_,S.o_Nothing,hin _,λe oe ev hc hd pins s σ H O Q I hH hf hσ hO q=> ?_⟩
  exact gE (jJ (fW hN hv Fn_ S S.o_Nothing hc hd hi hvv n_NoRecord n_NoEvent n_NoNumber n_NoWorld n_Barred n_Nothing (b0:=false) (b1:=false) (b2:=false) (b3:=false) (b4:=false) (b5:=true) (by rw[decide_eq_false (PM (ap 0 5 (by decide) rfl rfl))]) (by rw[decide_eq_false (PM (ap 1 5 (by decide) rfl rfl))]) (by rw[decide_eq_false (PM (ap 2 5 (by decide) rfl rfl))]) (by rw[decide_eq_false (PM (ap 3 5 (by decide) rfl rfl))]) (by rw[decide_eq_false (PM (ap 4 5 (by decide) rfl rfl))]) (by simp) (by decide) (j:=5) rfl (λm hm=>by match m,hm with | 0,_=>rfl | 1,_=>rfl | 2,_=>rfl | 3,_=>rfl | 4,_=>rfl) hr (hg e oe) hde hce he hpl)) pins s σ H _ I ⟨hσ,hH,hf,λp H' sm hp h=>q _ _ sm (kh hO hp h)⟩
 rw[if_neg z5]at ht;cases ht
end
end G
namespace G
open PySem Tr
def sQ:En->Rs Fl:=
 (aW (dO (o1 (Gz "tuple") (vr 0)) (ch KL KL (vr 1) (cl cz (ae (vr 0) aj)) (vr 2))))
def aR:List T->Rs T:=val 3 3 sQ
def yU:En->Rs Fl:=
 (aW (dO (o1 (Gz "int") (vr 0)) (o1 um (o1 (Gz "bool") (vr 0)))))
def jb:List T->Rs T:=val 1 1 yU
def xj:En->Rs Fl:=
 (aW (dO (cl jb (ae (vr 0) aj)) (ch KL KL (vr 1) (vr 0) (vr 2))))
def bq:List T->Rs T:=val 3 3 xj
def BH:En->Rs Fl:=
 (aW (dO (cl bq (ae (vr 0) (ae (cn (.int 1)) (ae (cn (.int 9)) aj)))) (cl bq (ae (vr 1) (ae (vr 0) (ae (cn (.int 9)) aj))))))
def kB:List T->Rs T:=val 2 2 BH
def As:En->Rs Fl:=
 (aW (cl rA (ae (d6 (iR (ae (o2 fM (cl cz (ae (vr 0) aj)) (cn (.int 1))) aj)) [none,some 0] (gN 0) bT (o2 wy (o2 aU (vr 1) (vr 0)) (o2 aU (vr 1) (o2 aV (vr 0) (cn (.int 1)))))) aj)))
def kx:List T->Rs T:=val 1 1 As
def fL:En->Rs Fl:=
 (aD (gD (fO (tb (cl aR (ae (vr 0) (ae (cn (.int 1)) (ae (cn (.int 4)) aj)))))) (aW (cn (.bl false))) sN) (aW (dO (cl rA (ae (d6 (iS (vr 0)) [none] (gN 0) bT (cl bq (ae (vr 0) (ae (cn (.int 0)) (ae (cn (.int 99)) aj))))) aj)) (cl kx (ae (vr 0) aj)))))
def cv:List T->Rs T:=val 1 1 fL
def jl:En->Rs Fl:=
 (aW (dO (cl aR (ae (vr 0) (ae (cn (.int 3)) (ae (cn (.int 3)) aj)))) (dO (cl kB (ae (o2 aU (vr 0) (cn (.int 0))) (ae (o2 aU (vr 0) (cn (.int 1))) aj))) (cl cv (ae (o2 aU (vr 0) (cn (.int 2))) aj)))))
def dS:List T->Rs T:=val 1 1 jl
def jm:En->Rs Fl:=
 (aW (dO (cl aR (ae (vr 0) (ae (cn (.int 1)) (ae (cn (.int 4)) aj)))) (cl rA (ae (d6 (iS (vr 0)) [none] (gN 0) bT (cl dS (ae (vr 0) aj))) aj))))
def eh:List T->Rs T:=val 1 1 jm
def yV:En->Rs Fl:=
 (aD (gD (vW (fO (tb (cl aR (ae (vr 1) (ae (cn (.int 2)) (ae (cn (.int 2)) aj)))))) (fO (tb (cl bq (ae (o2 aU (vr 1) (cn (.int 0))) (ae (cn (.int 0)) (ae (o2 fM (cl cz (ae (vr 0) aj)) (cn (.int 1))) aj))))))) (aW (cn (.bl false))) sN) (aW (cl bq (ae (o2 aU (vr 1) (cn (.int 1))) (ae (cn (.int 0)) (ae (o2 fM (cl cz (ae (o2 aU (o2 aU (vr 0) (o2 aU (vr 1) (cn (.int 0)))) (cn (.int 2))) aj)) (cn (.int 1))) aj))))))
def gV:List T->Rs T:=val 2 2 yV
def yW:En->Rs Fl:=
 (aW (dO (cl bq (ae (vr 0) (ae (cn (.int 0)) (ae (cn (.int 999)) aj)))) (F7 (o2 jh (vr 1) (cn .non)) (cl bq (ae (vr 1) (ae (vr 0) (ae (cn (.int 999)) aj)))))))
def jc:List T->Rs T:=val 2 2 yW
def xt:En->Rs Fl:=
 (aD (gD (vW (fO (tb (cl aR (ae (vr 1) (ae (cn (.int 4)) (ae (cn (.int 4)) aj)))))) (fO (tb (cl jc (ae (o2 aU (vr 1) (cn (.int 2))) (ae (o2 aU (vr 1) (cn (.int 3))) aj)))))) (aW (cn (.bl false))) sN) (aW (dO (cl gV (ae (vr 0) (ae (o2 aU (vr 1) (cn (.int 0))) aj))) (dO (cl gV (ae (vr 0) (ae (o2 aU (vr 1) (cn (.int 1))) aj))) (o2 qe (o2 aU (vr 1) (cn (.int 0))) (o2 aU (vr 1) (cn (.int 1))))))))
def gm:List T->Rs T:=val 2 2 xt
def iG:En->Rs Fl:=
 (aW (dO (cl aR (ae (vr 1) (ae (cn (.int 0)) (ae (cn (.int 8)) aj)))) (cl rA (ae (d6 (iS (vr 1)) [none,some 0] (gN 0) bT (cl gm (ae (vr 1) (ae (vr 0) aj)))) aj))))
def dH:List T->Rs T:=val 2 2 iG
def xp:En->Rs Fl:=
 (aW (dO (cl aR (ae (vr 0) (ae (cn (.int 2)) (ae (cn (.int 2)) aj)))) (dO (cl eh (ae (o2 aU (vr 0) (cn (.int 0))) aj)) (cl dH (ae (o2 aU (vr 0) (cn (.int 0))) (ae (o2 aU (vr 0) (cn (.int 1))) aj))))))
def ij:List T->Rs T:=val 1 1 xp
def eR:En->Rs Fl:=
 (gD (fO (tb (cl ij (ae (vr 0) aj)))) (B8 "NoRecord") sN)
def cm:List T->Rs T:=val 1 1 eR
def fK:En->Rs Fl:=
 (aD (cI (o2 aU (vr 1) (cn (.int 2))) (gN 2)) (aD (jx 3 aj) (aD (d7 (iR (ae (o2 fM (cl cz (ae (vr 2) aj)) (cn (.int 1))) aj)) (gN 4) (aD (cI (aP (ae (vr 0) (ae (vr 4) aj))) (gN 5)) (aD (cI (aP (ae (vr 0) (ae (o2 aV (vr 4) (cn (.int 1))) aj))) (gN 6)) (aD (cI (o2 fM (o2 aU (vr 2) (o2 aV (vr 4) (cn (.int 1)))) (o2 aU (vr 2) (vr 4))) (gN 7)) (aD (iQ 3 (aP (ae (vr 5) (ae (vr 6) (ae (o2 cu (vr 7) (o2 aU (vr 1) (cn (.int 1)))) aj))))) (iQ 3 (aP (ae (vr 6) (ae (vr 5) (ae (o2 cu (o1 kP (vr 7)) (o2 aU (vr 1) (cn (.int 0)))) aj)))))))))) (nV 3 (aW (vr 3))))))
def dg:List T->Rs T:=val 2 8 fK
def fh:En->Rs Fl:=
 (aD (jx 1 (ae (aP (ae (o2 aU (vr 0) (cn (.int 1))) (ae (o2 aU (vr 0) (cn (.int 0))) (ae (o1 kP (o2 aU (vr 0) (cn (.int 2)))) aj)))) aj)) (aD (gD (tb (o2 fS (o2 aU (vr 0) (cn (.int 3))) (cn .non))) (iQ 1 (aP (ae (o2 aU (vr 0) (cn (.int 0))) (ae (o2 aU (vr 0) (cn (.int 1))) (ae (o2 aU (vr 0) (cn (.int 3))) aj))))) sN) (nV 1 (aW (vr 1)))))
def cW:List T->Rs T:=val 1 2 fh
def ke:En->Rs Fl:=
 (aD (xS (cl cm (ae (vr 0) aj))) (aD (jx 1 aj) (aD (d7 (iE (ae (o2 aU (vr 0) (cn (.int 0))) aj)) (gT 2 (iX (gN 2) (iX (gN 3) u7))) (pw 1 (cl dg (ae (vr 2) (ae (vr 3) aj))))) (aD (d7 (iS (o2 aU (vr 0) (cn (.int 1)))) (gN 4) (pw 1 (cl cW (ae (vr 4) aj)))) (nV 1 (aW (vr 1)))))))
def eJ:List T->Rs T:=val 1 5 ke
def eU:En->Rs Fl:=
 (gD (fO (tb (cl bq (ae (vr 1) (ae (cn (.int 0)) (ae (o2 fM (vr 0) (cn (.int 1))) aj)))))) (B8 "NoNumber") sN)
def eG:List T->Rs T:=val 2 2 eU
def qR:En->Rs Fl:=
 (aD (xS (cl cm (ae (vr 0) aj))) (aD (jx 1 aj) (aD (d7 (iE (ae (o2 aU (vr 0) (cn (.int 0))) aj)) (gT 2 (iX (gN 2) (iX (gN 3) u7))) (pw 1 (d6 (iR (ae (cl cz (ae (o2 aU (vr 3) (cn (.int 2))) aj)) aj)) [none,some 2] (gN 0) bT (aP (ae (vr 1) (ae (vr 0) aj)))))) (nV 1 (aW (vr 1))))))
def eI:List T->Rs T:=val 1 4 qR
def kc:En->Rs Fl:=
 (aD (cI (oD jA (vr 0) (o2 aU (vr 1) (cn (.int 1)))) (gN 3)) (aW (F7 (o2 jh (vr 3) (cn .non)) (o2 wy (o2 aV (o2 aU (vr 2) (cn (.int 0))) (o2 aU (vr 1) (cn (.int 2)))) (o2 aU (vr 3) (cn (.int 0)))))))
def dU:List T->Rs T:=val 3 4 kc
def j0:En->Rs Fl:=
 (aD (rN 2 (d6 (iS (vr 1)) [none] (gN 0) bT (aP (ae (vr 0) (ae (aP (ae (cn (.int 0)) (ae (dz aj) aj))) aj))))) (aD (cI (cn (.bl true)) (gN 3)) (aD (cf (tb (vr 3)) (aD (cI (cn (.bl false)) (gN 3)) (d7 (iE (ae (vr 0) aj)) (gT 2 (iX (gN 4) (iX (gN 5) u7))) (aD (cI (ln 2 (oD jA (vr 2) (o2 aU (vr 5) (cn (.int 0))))) (gN 6)) (aD (gD (vW (tb (o2 jh (vr 6) (cn .non))) (fO (JN 2 (tb (cl dU (ae (vr 2) (ae (vr 5) (ae (vr 6) aj)))))))) K6 sN) (aD (cI (o2 aV (o2 aU (vr 6) (cn (.int 1))) (dz (ae (vr 4) aj))) (gN 7)) (aD (cI (d6 (iS (vr 7)) [none,some 0] (gN 0) bT (o2 aU (o2 aU (vr 1) (vr 0)) (cn (.int 0)))) (gN 8)) (aD (gD (tb (o2 sg (o2 aU (vr 5) (cn (.int 1))) (vr 8))) (aW (aP (ae (cn .non) (ae (sl (vr 7) (pS (oL ik (vr 8) (o2 aU (vr 5) (cn (.int 1))))) pN) aj)))) sN) (aD (AF 2 (o2 aU (vr 5) (cn (.int 1))) (aP (ae (o2 aV (o2 aU (vr 6) (cn (.int 0))) (o2 aU (vr 5) (cn (.int 2)))) (ae (vr 7) aj)))) (cI (cn (.bl true)) (gN 3)))))))))) FU) (nV 2 (aW (aP (ae (vr 2) (ae (cn .non) aj))))))))
def fz:List T->Rs T:=val 2 9 j0
def fX:En->Rs Fl:=
 (aD (cI (cl eI (ae (vr 0) aj)) (gN 2)) (aD (cI (o2 aU (cl fz (ae (vr 1) (ae (vr 2) aj))) (cn (.int 0))) (gN 3)) (aD (gD (tb (o2 jh (vr 3) (cn .non))) (aW (cn .non)) sN) (aW (cl e9 (ae (d6 (iS (vr 2)) [none,some 3] (gN 0) bT (o2 aU (o2 bP (vr 1) (vr 0)) (cn (.int 0)))) aj))))))
def d9:List T->Rs T:=val 2 4 fX
def Hb:En->Rs Fl:=
 (aW (cl d9 (ae (vr 0) (ae (cl eJ (ae (vr 0) aj)) aj))))
def kr:List T->Rs T:=val 1 1 Hb
def xu:En->Rs Fl:=
 (aW (o2 fS (cl kr (ae (vr 0) aj)) (cn .non)))
def aM:List T->Rs T:=val 1 1 xu
def dF:En->Rs Fl:=
 (gD (fO (tb (cl aM (ae (vr 0) aj)))) (B8 "NoWorld") sN)
def bH:List T->Rs T:=val 1 1 dF
def cq:En->Rs Fl:=
 (aD (cI (cl eJ (ae (vr 0) aj)) (gN 2)) (aD (xS (cl eG (ae (cl cz (ae (vr 2) aj)) (ae (vr 1) aj)))) (aD (xS (cl bH (ae (vr 0) aj))) (aD (cI (o2 aU (vr 2) (vr 1)) (gN 3)) (aD (cI (o2 aU (cl fz (ae (o2 aV (sl (vr 2) pN (pS (vr 1))) (sl (vr 2) (pS (o2 aV (vr 1) (cn (.int 1)))) pN)) (ae (dz (ae (o2 aU (vr 3) (cn (.int 0))) aj)) aj))) (cn (.int 0))) (gN 4)) (aW (dO (o2 Bk (o2 aU (vr 3) (cn (.int 1))) (vr 4)) (o2 KL (o2 aU (o2 bP (vr 4) (o2 aU (vr 3) (cn (.int 1)))) (cn (.int 0))) (o2 aU (vr 3) (cn (.int 2)))))))))))
def cp:List T->Rs T:=val 2 5 cq
def rC:En->Rs Fl:=
 (aW (lR (ae (cl cz (ae (o2 aU (vr 0) (cn (.int 1))) aj)) aj)))
def bL:List T->Rs T:=val 1 1 rC
def u5:En->Rs Fl:=
 (aW (o2 aU (cl fz (ae (cl eJ (ae (vr 0) aj)) (ae (dz (ae (vr 1) aj)) aj))) (cn (.int 0))))
def fy:List T->Rs T:=val 2 2 u5
def BG:En->Rs Fl:=
 (aW (DS (tb (o2 Bk (vr 1) (vr 0))) (o2 aU (o2 bP (vr 0) (vr 1)) (cn (.int 0))) (cn .non)))
def gH:List T->Rs T:=val 2 2 BG
def lE:En->Rs Fl:=
 (aD (xS (cl bH (ae (vr 0) aj))) (aD (cI (cl eI (ae (vr 0) aj)) (gN 1)) (aD (jx 2 aj) (aD (d7 (iS (vr 1)) (gN 3) (aD (cI (cl fy (ae (vr 0) (ae (vr 3) aj))) (gN 4)) (iQ 2 (cl e9 (ae (d6 (iS (vr 1)) [none,some 4] (gN 0) bT (cl gH (ae (vr 1) (ae (vr 0) aj)))) aj))))) (aW (ln 2 (cl e9 (ae (vr 2) aj))))))))
def gW:List T->Rs T:=val 1 5 lE
def iF:En->Rs Fl:=
 (aD (gD (tb (o2 qe (cl eI (ae (vr 0) aj)) (cl eI (ae (vr 1) aj)))) (aW (cn (.bl false))) sN) (aD (gD (vW (fO (tb (cl aM (ae (vr 0) aj)))) (fO (tb (cl aM (ae (vr 1) aj))))) (aW (dO (o1 um (cl aM (ae (vr 0) aj))) (o1 um (cl aM (ae (vr 1) aj))))) sN) (aW (o2 n9 (cl gW (ae (vr 0) aj)) (cl gW (ae (vr 1) aj))))))
def ck:List T->Rs T:=val 2 2 iF
def xg:En->Rs Fl:=
 (aW (aP (ae (o2 aU (vr 0) (cn (.int 0))) (ae (cl e9 (ae (d6 (iS (vr 1)) [none,some 0] (gN 0) bT (o2 aU (o2 aU (vr 1) (cn (.int 1))) (vr 0))) aj)) aj))))
def bR:List T->Rs T:=val 2 2 xg
def BE:En->Rs Fl:=
 (aW (d6 (iS (vr 0)) [none,some 1] (gN 0) (tb (o2 qe (vr 0) (vr 1))) (vr 0)))
def d8:List T->Rs T:=val 2 2 BE
def cX:En->Rs Fl:=
 (aD (xS (cl bH (ae (vr 0) aj))) (aD (cI (cl bL (ae (vr 0) aj)) (gN 1)) (aW (d6 (iS (vr 1)) [none,some 0,some 1] (gN 0) (tb (cl ck (ae (cl bR (ae (vr 1) (ae (cl d8 (ae (vr 2) (ae (vr 0) aj))) aj))) (ae (vr 1) aj)))) (vr 0)))))
def bA:List T->Rs T:=val 1 2 cX
def dG:En->Rs Fl:=
 (aD (xS (cl bH (ae (vr 0) aj))) (aD (cI (vr 0) (gN 1)) (aD (d7 (Mh (ae (o2 fM (cl cz (ae (o2 aU (vr 0) (cn (.int 1))) aj)) (cn (.int 1))) (ae (o1 kP (cn (.int 1))) (ae (o1 kP (cn (.int 1))) aj)))) (gN 2) (aD (cI (cl bR (ae (vr 1) (ae (cl d8 (ae (cl bL (ae (vr 1) aj)) (ae (vr 2) aj))) aj))) (gN 3)) (gD (tb (cl ck (ae (vr 3) (ae (vr 0) aj)))) (cI (vr 3) (gN 1)) sN))) (aW (vr 1)))))
def b9:List T->Rs T:=val 1 4 dG
def BF:En->Rs Fl:=
 (aD (cI (dz (ae (dz aj) aj)) (gN 1)) (aD (d7 (iS (vr 0)) (gN 2) (cI (o2 aV (vr 1) (d6 (iS (vr 1)) [none,some 2] (gN 0) bT (o2 aV (vr 0) (dz (ae (vr 1) aj))))) (gN 1))) (aW (vr 1))))
def ku:List T->Rs T:=val 1 3 BF
def gv:En->Rs Fl:=
 (aD (xS (cl cm (ae (vr 0) aj))) (aD (cI (cl vA (ae (cl ku (ae (cl bL (ae (vr 0) aj)) aj)) aj)) (gN 1)) (aD (cI (cn (.int 0)) (gN 2)) (aD (cf (fO (tb (cl aM (ae (cl bR (ae (vr 0) (ae (o2 aU (vr 1) (vr 2)) aj))) aj)))) (B9 2 (cn (.int 1))) FU) (aW (o2 aU (vr 1) (vr 2)))))))
def dR:List T->Rs T:=val 1 3 gv
def g9:En->Rs Fl:=
 (aD (gD (tb (cl aM (ae (vr 0) aj))) (aW (dz aj)) sN) (aD (cI (cl bL (ae (vr 0) aj)) (gN 1)) (aW (d6 (iS (vr 1)) [none,some 0,some 1] (gN 0) (tb (cl aM (ae (cl bR (ae (vr 1) (ae (cl d8 (ae (vr 2) (ae (vr 0) aj))) aj))) aj))) (vr 0)))))
def ff:List T->Rs T:=val 1 2 g9
def dk:En->Rs Fl:=
 (vF (aD (gD (tb (o2 wy (vr 0) (cn (.int 4)))) (aW (AD [bA,b9,dR,ff] (vr 0) (ae (vr 1) aj))) sN) (aW (cl cp (ae (vr 1) (ae (vr 2) aj))))) m9)
def aY:List T->Rs T:=val 3 4 dk
def fY:En->Rs Fl:=
 (aD (cI (aP (ae (aP (ae (aP (ae (cn (.int 1)) (ae (cn (.int 1)) (ae (aP (ae (cn (.int 0)) (ae (cn (.int 1)) aj))) aj)))) (ae (aP (ae (cn (.int 1)) (ae (cn (.int 1)) (ae (aP (ae (cn (.int 0)) aj)) aj)))) aj))) (ae (aP (ae (aP (ae (aP (ae (cn (.int 1)) (ae (cn (.int 0)) aj))) (ae (aP (ae (cn (.int 0)) (ae (cn (.int 0)) aj))) (ae (cn (.int 1)) (ae (cn .non) aj))))) (ae (aP (ae (aP (ae (cn (.int 1)) (ae (cn (.int 0)) aj))) (ae (aP (ae (cn (.int 0)) (ae (cn (.int 1)) aj))) (ae (cn (.int 2)) (ae (cn .non) aj))))) aj))) aj))) (gN 0)) (aW (dO (o2 n9 (cl aY (ae (cn (.int 0)) (ae (vr 0) (ae (cn .non) aj)))) (dz (ae (cn (.int 0)) (ae (cn (.int 1)) aj)))) (o2 n9 (cl aY (ae (cn (.int 1)) (ae (vr 0) (ae (cn .non) aj)))) (aP (ae (o2 aU (vr 0) (cn (.int 0))) (ae (sl (o2 aU (vr 0) (cn (.int 1))) pN (pS (cn (.int 1)))) aj)))))))
def dw:List T->Rs T:=val 0 1 fY
def la:En->Rs Fl:=
 (aD (cI (dz aj) (gN 1)) (aD (d7 (iE (ae (vr 0) aj)) (gT 2 (iX (gN 2) (iX (gN 3) u7))) (cI (o2 aV (vr 1) (d6 (iR (ae (cl cz (ae (o2 aU (vr 3) (cn (.int 2))) aj)) aj)) [none,some 2] (gN 0) bT (aP (ae (vr 1) (ae (vr 0) aj))))) (gN 1))) (aW (vr 1))))
def bf:List T->Rs T:=val 1 4 la
def jo:En->Rs Fl:=
 (aD (cI (cl e9 (ae (d6 (iS (sl (o2 aU (vr 0) (cn (.int 0))) pN (pS (cn (.int 2))))) [none] (gN 0) bT (o2 aV (sl (vr 0) pN (pS (cn (.int 2)))) (aP (ae (sl (o2 aU (vr 0) (cn (.int 2))) pN (pS (cn (.int 2)))) aj)))) aj)) (gN 1)) (aD (cI (cl bf (ae (vr 1) aj)) (gN 2)) (aW (aP (ae (vr 1) (ae (cl e9 (ae (d6 (iS (o2 aU (vr 0) (cn (.int 1)))) [none,some 2] (gN 0) (qO (tb (o2 sg (o2 aU (vr 0) (cn (.int 0))) (vr 1))) (tb (o2 sg (o2 aU (vr 0) (cn (.int 1))) (vr 1)))) (vr 0)) aj)) aj))))))
def gF:List T->Rs T:=val 1 3 jo
def iJ:En->Rs Fl:=
 (aD (jx 1 aj) (aD (d7 (iE (ae (o2 aU (vr 0) (cn (.int 0))) aj)) (gT 2 (iX (gN 2) (iX (gT 3 (iX (gN 3) (iX (gN 4) (iX (gN 5) u7)))) u7))) (d7 (iR (ae (cn (.int 1)) (ae (cl cz (ae (vr 5) aj)) aj))) (gN 6) (aD (cI (o2 fM (o2 aU (vr 5) (vr 6)) (o2 aU (vr 5) (o2 fM (vr 6) (cn (.int 1))))) (gN 7)) (aD (iQ 1 (aP (ae (aP (ae (vr 2) (ae (o2 fM (vr 6) (cn (.int 1))) aj))) (ae (aP (ae (vr 2) (ae (vr 6) aj))) (ae (o2 cu (vr 4) (vr 7)) aj))))) (iQ 1 (aP (ae (aP (ae (vr 2) (ae (vr 6) aj))) (ae (aP (ae (vr 2) (ae (o2 fM (vr 6) (cn (.int 1))) aj))) (ae (o2 fM (cn (.int 0)) (o2 cu (vr 3) (vr 7))) aj))))))))) (aD (d7 (iS (o2 aU (vr 0) (cn (.int 1)))) (gT 4 (iX (gN 8) (iX (gN 9) (iX (gN 10) (iX (gN 11) u7))))) (aD (iQ 1 (aP (ae (vr 9) (ae (vr 8) (ae (o2 fM (cn (.int 0)) (vr 10)) aj))))) (gD (tb (o2 fS (vr 11) (cn .non))) (iQ 1 (aP (ae (vr 8) (ae (vr 9) (ae (vr 11) aj))))) sN))) (nV 1 (aW (vr 1))))))
def bV:List T->Rs T:=val 1 12 iJ
def jn:En->Rs Fl:=
 (aD (pq 2 0) (aD (d7 (iS (vr 0)) (gN 3) (jw 2 (vr 3) (vr 3) (cn (.int 0)))) (aD (d7 (iS (vr 1)) (gT 3 (iX (gN 3) (iX (gN 4) (iX (gN 5) u7)))) (gD (vW (tb (o2 jh (ln 2 (o2 bP (o2 bP (vr 2) (vr 3)) (vr 4))) (cn .non))) (tb (o2 wy (vr 5) (ln 2 (o2 bP (o2 bP (vr 2) (vr 3)) (vr 4)))))) (jw 2 (vr 3) (vr 4) (vr 5)) sN)) (aD (d7 (iS (vr 0)) (gN 6) (d7 (iS (vr 0)) (gN 3) (d7 (iS (vr 0)) (gN 4) (gD (qO (tb (o2 fS (ln 2 (o2 bP (o2 bP (vr 2) (vr 3)) (vr 6))) (cn .non))) (tb (o2 fS (ln 2 (o2 bP (o2 bP (vr 2) (vr 6)) (vr 4))) (cn .non)))) (aD (cI (o2 aV (ln 2 (o2 bP (o2 bP (vr 2) (vr 3)) (vr 6))) (ln 2 (o2 bP (o2 bP (vr 2) (vr 6)) (vr 4)))) (gN 7)) (gD (vW (tb (o2 jh (ln 2 (o2 bP (o2 bP (vr 2) (vr 3)) (vr 4))) (cn .non))) (tb (o2 wy (vr 7) (ln 2 (o2 bP (o2 bP (vr 2) (vr 3)) (vr 4)))))) (jw 2 (vr 3) (vr 4) (vr 7)) sN)) sN)))) (nV 2 (aW (DS (tb (o2 n9 (d6 (iS (vr 0)) [none,some 2] (gN 0) (tb (o2 wy (o2 bP (o2 bP (vr 1) (vr 0)) (vr 0)) (cn (.int 0)))) (vr 0)) (dz aj))) (vr 2) (cn .non))))))))
def bO:List T->Rs T:=val 2 8 jn
def kf:En->Rs Fl:=
 (aD (gD (tb (o2 n9 (vr 0) (dz aj))) (aW (o2 cu (cn (.int 7)) (vr 1))) sN) (aW (o2 aV (o2 aU (vr 0) (o2 l0 (vr 1) (cl cz (ae (vr 0) aj)))) (o2 cu (cn (.int 6553)) (o2 ml (vr 1) (cl cz (ae (vr 0) aj)))))))
def gp:List T->Rs T:=val 2 2 kf
def jq:En->Rs Fl:=
 (aD (cI (o2 l0 (o2 aV (o2 cu (o2 l0 (cl gp (ae (vr 0) (ae (vr 1) aj))) (cn (.int 2147483563))) (cn (.int 69069))) (o2 cu (cn (.int 104723)) (o2 aV (vr 1) (cn (.int 1))))) (cn (.int 2147483563))) (gN 3)) (aD (cI (o2 l0 (o2 aV (o2 cu (vr 3) (vr 3)) (o2 ml (vr 3) (cn (.int 3)))) (cn (.int 2147483399))) (gN 3)) (aW (o2 l0 (o2 ml (o2 l0 (o2 aV (o2 cu (vr 3) (vr 3)) (o2 ml (vr 3) (cn (.int 7)))) (cn (.int 2147483647))) (cn (.int 11))) (vr 2)))))
def aJ:List T->Rs T:=val 3 4 jq
def eV:En->Rs Fl:=
 (aD (cI (cl bf (ae (vr 2) aj)) (gN 3)) (aD (gD (tb (o2 wy (cl cz (ae (vr 3) aj)) (cn (.int 2)))) (aW (cn .non)) sN) (aD (cI (cl aJ (ae (vr 0) (ae (vr 1) (ae (cl cz (ae (vr 3) aj)) aj)))) (gN 4)) (aD (cI (o2 l0 (o2 aV (o2 aV (vr 4) (cn (.int 1))) (cl aJ (ae (vr 0) (ae (o2 aV (vr 1) (cn (.int 1))) (ae (o2 fM (cl cz (ae (vr 3) aj)) (cn (.int 1))) aj))))) (cl cz (ae (vr 3) aj))) (gN 5)) (aD (cI (cl aJ (ae (vr 0) (ae (o2 aV (vr 1) (cn (.int 2))) (ae (cn (.int 8)) aj)))) (gN 6)) (aD (cI (DS (tb (o2 n9 (cl aJ (ae (vr 0) (ae (o2 aV (vr 1) (cn (.int 3))) (ae (cn (.int 3)) aj)))) (cn (.int 0)))) (cn .non) (o2 aV (vr 6) (cl aJ (ae (vr 0) (ae (o2 aV (vr 1) (cn (.int 4))) (ae (cn (.int 9)) aj)))))) (gN 7)) (aW (aP (ae (o2 aU (vr 3) (vr 4)) (ae (o2 aU (vr 3) (vr 5)) (ae (vr 6) (ae (vr 7) aj))))))))))))
def dI:List T->Rs T:=val 3 8 eV
def jr:En->Rs Fl:=
 (aD (cI (o2 aV (cn (.int 1)) (cl aJ (ae (vr 0) (ae (vr 1) (ae (cn (.int 3)) aj))))) (gN 2)) (aD (cI (aP (ae (cl aJ (ae (vr 0) (ae (o2 aV (vr 1) (cn (.int 2))) (ae (cn (.int 6)) aj)))) aj)) (gN 3)) (aD (d7 (iR (ae (cl aJ (ae (vr 0) (ae (o2 aV (vr 1) (cn (.int 1))) (ae (cn (.int 3)) aj)))) aj)) (gN 4) (cI (o2 aV (vr 3) (aP (ae (o2 aV (o2 aV (o2 aU (vr 3) (o1 kP (cn (.int 1)))) (cn (.int 1))) (cl aJ (ae (vr 0) (ae (o2 aV (o2 aV (vr 1) (cn (.int 3))) (vr 4)) (ae (cn (.int 5)) aj))))) aj))) (gN 3))) (aW (aP (ae (vr 2) (ae (o2 aV (vr 2) (cl aJ (ae (vr 0) (ae (o2 aV (vr 1) (cn (.int 6))) (ae (cn (.int 3)) aj))))) (ae (vr 3) aj))))))))
def dh:List T->Rs T:=val 2 5 jr
def iI:En->Rs Fl:=
 (aD (cI (cl e9 (ae (d6 (iR (ae (o2 aV (cn (.int 1)) (cl aJ (ae (vr 0) (ae (vr 1) (ae (cn (.int 3)) aj))))) aj)) [none,some 0,some 1] (gN 0) bT (cl dh (ae (vr 1) (ae (o2 aV (o2 aV (vr 2) (cn (.int 1))) (o2 cu (cn (.int 8)) (vr 0))) aj)))) aj)) (gN 3)) (aD (cI (dz aj) (gN 4)) (aD (d7 (iR (ae (cl aJ (ae (vr 0) (ae (o2 aV (vr 1) (cn (.int 30))) (ae (o2 aV (vr 2) (cn (.int 1))) aj)))) aj)) (gN 5) (aD (cI (cl dI (ae (vr 0) (ae (o2 aV (o2 aV (vr 1) (cn (.int 31))) (o2 cu (cn (.int 6)) (vr 5))) (ae (vr 3) aj)))) (gN 6)) (cI (o2 aV (vr 4) (o2 cu (dz (ae (vr 6) aj)) (cl wL (ae (o2 fS (vr 6) (cn .non)) aj)))) (gN 4)))) (aW (aP (ae (vr 3) (ae (cl e9 (ae (vr 4) aj)) aj)))))))
def f9:List T->Rs T:=val 3 7 iI
def xv:En->Rs Fl:=
 (aD (cI (dz (ae (dz aj) aj)) (gN 1)) (aD (d7 (iR (ae (vr 0) aj)) (gN 2) (cI (o2 aV (vr 1) (d6 (iS (vr 1)) [none,some 2] (gN 0) bT (o2 aV (vr 0) (dz (ae (vr 1) aj))))) (gN 1))) (aW (vr 1))))
def gn:List T->Rs T:=val 1 3 xv
def lF:En->Rs Fl:=
 (aD (cI (aP (ae (o2 aU (vr 0) (cn (.int 0))) (ae (cl e9 (ae (d6 (iS (vr 1)) [none,some 0] (gN 0) bT (o2 aU (o2 aU (vr 1) (cn (.int 1))) (vr 0))) aj)) aj))) (gN 2)) (aW (o2 fS (cl bO (ae (cl bf (ae (o2 aU (vr 0) (cn (.int 0))) aj)) (ae (cl bV (ae (vr 2) aj)) aj))) (cn .non))))
def gX:List T->Rs T:=val 2 3 lF
def gz:En->Rs Fl:=
 (aD (cI (cl bf (ae (o2 aU (vr 0) (cn (.int 0))) aj)) (gN 1)) (aD (cI (cl bO (ae (vr 1) (ae (cl bV (ae (vr 0) aj)) aj))) (gN 2)) (aD (cI (dz aj) (gN 3)) (aD (d7 (iR (ae (cl cz (ae (o2 aU (vr 0) (cn (.int 1))) aj)) aj)) (gN 4) (aD (cI (aP (ae (o2 aU (vr 0) (cn (.int 0))) (ae (o2 aV (sl (o2 aU (vr 0) (cn (.int 1))) pN (pS (vr 4))) (sl (o2 aU (vr 0) (cn (.int 1))) (pS (o2 aV (vr 4) (cn (.int 1)))) pN)) aj))) (gN 5)) (cI (o2 aV (vr 3) (o2 cu (dz (ae (vr 4) aj)) (cl wL (ae (o2 Bf (cl bO (ae (vr 1) (ae (cl bV (ae (vr 5) aj)) aj))) (vr 2)) aj)))) (gN 3)))) (aW (vr 3))))))
def de:List T->Rs T:=val 1 6 gz
def iH:En->Rs Fl:=
 (aD (cI (cl gF (ae (cl f9 (ae (vr 0) (ae (cn (.int 0)) (ae (cn (.int 6)) aj)))) aj)) (gN 1)) (aD (cI (aP (ae (o2 aU (vr 1) (cn (.int 0))) (ae (sl (o2 aU (vr 1) (cn (.int 1))) pN (pS (cn (.int 4)))) aj))) (gN 1)) (aD (cI (cl bf (ae (o2 aU (vr 1) (cn (.int 0))) aj)) (gN 2)) (aD (cI (cl bV (ae (vr 1) aj)) (gN 3)) (aD (cI (cl bO (ae (vr 2) (ae (vr 3) aj))) (gN 4)) (aD (cI (cl cz (ae (o2 aU (vr 1) (cn (.int 1))) aj)) (gN 5)) (aD (cI (d6 (iS (cl gn (ae (vr 5) aj))) [none,some 1] (gN 0) (tb (cl gX (ae (vr 1) (ae (vr 0) aj)))) (vr 0)) (gN 6)) (aD (cI (cl Df (ae (d6 (iS (vr 6)) [none] (gN 0) bT (cl cz (ae (vr 0) aj))) aj)) (gN 7)) (aD (gD (tb (o2 qe (cl aY (ae (cn (.int 2)) (ae (vr 1) (ae (cn .non) aj)))) (cl wu (ae (d6 (iS (vr 6)) [none,some 7] (gN 0) (tb (o2 n9 (cl cz (ae (vr 0) aj)) (vr 1))) (vr 0)) aj)))) (aW (cn (.bl false))) sN) (aD (cI (d6 (iR (ae (vr 5) aj)) [none,some 5,some 6] (gN 0) (tb (o2 sg (d6 (iR (ae (vr 1) aj)) [none,some 0] (gN 0) (tb (o2 qe (vr 0) (vr 1))) (vr 0)) (vr 2))) (vr 0)) (gN 8)) (aD (gD (tb (o2 qe (cl aY (ae (cn (.int 3)) (ae (vr 1) (ae (cn .non) aj)))) (DS (tb (o2 jh (vr 4) (cn .non))) (vr 8) (dz aj)))) (aW (cn (.bl false))) sN) (aD (cI (o2 aU (dz (ae (o1 kP (cn (.int 1))) (ae (cl cz (ae (vr 3) aj)) (ae (cn (.bl true)) (ae (cn .non) (ae (cn (.str "0")) aj)))))) (cl aJ (ae (vr 0) (ae (cn (.int 80)) (ae (cn (.int 5)) aj))))) (gN 9)) (aD (gD (tb (o2 qe (cl aY (ae (cn (.int 4)) (ae (vr 1) (ae (vr 9) aj)))) (aP (ae (cn (.str "refused")) (ae (cn (.int 2)) aj))))) (aW (cn (.bl false))) sN) (aD (gD (tb (o2 qe (d6 (iR (ae (cn (.int 5)) aj)) [none,some 1,some 9] (gN 0) bT (cl aY (ae (vr 0) (ae (sl (vr 1) pN (pS (cn (.int 1)))) (ae (vr 2) aj))))) (o2 cu (dz (ae (aP (ae (cn (.str "refused")) (ae (cn (.int 0)) aj))) aj)) (cn (.int 5))))) (aW (cn (.bl false))) sN) (aD (gD (tb (o2 jh (vr 4) (cn .non))) (aD (cI (o2 aV (d6 (iS (aP (ae (cn (.int 0)) (ae (cn (.int 1)) aj)))) [none,some 1] (gN 0) bT (cl aY (ae (vr 0) (ae (vr 1) (ae (cn (.int 0)) aj))))) (o2 cu (dz (ae (cl aY (ae (cn (.int 4)) (ae (vr 1) (ae (cn (.int 0)) aj)))) aj)) (cl wL (ae (o2 qe (vr 3) (dz aj)) aj)))) (gN 10)) (aW (o2 n9 (vr 10) (o2 cu (dz (ae (aP (ae (cn (.str "refused")) (ae (cn (.int 3)) aj))) aj)) (cl cz (ae (vr 10) aj)))))) sN) (aD (d7 (iR (ae (cl cz (ae (vr 3) aj)) aj)) (gN 11) (gD (tb (o2 qe (cl aY (ae (cn (.int 4)) (ae (vr 1) (ae (vr 11) aj)))) (o2 Bf (cl bO (ae (vr 2) (ae (o2 aV (sl (vr 3) pN (pS (vr 11))) (sl (vr 3) (pS (o2 aV (vr 11) (cn (.int 1)))) pN)) aj))) (vr 4)))) (aW (cn (.bl false))) sN)) (aD (cI (vr 1) (gN 12)) (aD (d7 (iS (o1 Fv (lR (ae (vr 5) aj)))) (gN 11) (gD (tb (o2 sg (vr 11) (cl de (ae (vr 12) aj)))) (cI (aP (ae (o2 aU (vr 12) (cn (.int 0))) (ae (o2 aV (sl (o2 aU (vr 12) (cn (.int 1))) pN (pS (vr 11))) (sl (o2 aU (vr 12) (cn (.int 1))) (pS (o2 aV (vr 11) (cn (.int 1)))) pN)) aj))) (gN 12)) sN)) (aW (dO (o2 n9 (cl aY (ae (cn (.int 0)) (ae (vr 1) (ae (cn .non) aj)))) (cl de (ae (vr 1) aj))) (o2 n9 (cl aY (ae (cn (.int 1)) (ae (vr 1) (ae (cn .non) aj)))) (vr 12))))))))))))))))))))))
def fZ:List T->Rs T:=val 1 13 iH
def ML:En->Rs Fl:=
 (aW (dO (c0 dw) (cl fZ (ae (vr 0) aj))))
def m_law:List T->Rs T:=val 1 1 ML
end G
namespace G
open PySem PySem.Spec PyProof.Rows L2 Tr
section
variable (P:OH)(w:Px){K:N6}{mg:Str->Option Oa}(base:Heap)
abbrev xN:Stmt:=top 17
theorem ye (F:fV K mg "is_long" xN ["thing","least","most"])(B:Bl mg):Cl P w K mg base 1 "is_long" 3 aR:=
 aN ["thing","least","most"] F λd f c A o s H E hr x=>(aq (ax (dC (BO B.b_isinstance B.b_tuple bW (af 0)) (dJ (vd vU vU (af 1) (c9 cJ B.b_len Ql (ah (af 0) ag)) (af 2))))))
abbrev vo:Stmt:=top 15
theorem vX (F:fV K mg "is_whole" vo ["thing"])(B:Bl mg):Cl P w K mg base 1 "is_whole" 1 jb:=
 aN ["thing"] F λd f c A o s H E hr x=>(aq (ax (dC (BO B.b_isinstance B.b_int iw (af 0)) (dJ (xE (BO B.b_isinstance B.b_bool uS (af 0)))))))
abbrev tq:Stmt:=top 16
theorem ub (F:fV K mg "is_within" tq ["thing","least","most"])(aaK:Cl P w K mg base 1 "is_whole" 1 jb):Cl P w K mg base 2 "is_within" 3 bq:=
 aN ["thing","least","most"] F λd f c A o s H E hr x=>(aq (ax (dC (aK aaK hr (ah (af 0) ag)) (dJ (vd vU vU (af 1) (af 0) (af 2))))))
abbrev xM:Stmt:=top 20
theorem ya (F:fV K mg "is_pace" xM ["slow","fast"])(aa1:Cl P w K mg base 2 "is_within" 3 bq)(C:Cs mg):Cl P w K mg base 3 "is_pace" 2 kB:=
 aN ["slow","fast"] F λd f c A o s H E hr x=>(aq (ax (dC (aK aa1 hr (ah (af 0) (ah ai (ah (vc C.SLOWEST) ag)))) (dJ (aK aa1 hr (ah (af 1) (ah (af 0) (ah (vc C.SLOWEST) ag))))))))
abbrev vn:Stmt:=top 18
abbrev wg:List Str:=["numbers"]
theorem C4 (F:fV K mg "rises" vn ["numbers"])(B:Bl mg):Cl P w K mg base 1 "rises" 1 kx:=
 aN wg F λd f c A o s H E hr x=>(aq (ax (c9 (uP rfl) B.b_all boot_all (ah (cG ["k","numbers"] wg vn (cg B.b_range (ah (au fw (c9 cJ B.b_len Ql (ah (af 0) ag)) ai) ag)) (λd _ _ _ _ _=>⟨(ak 0 d),bY,(dB pG (aF (af 1) (af 0)) (aF (af 1) (au aL (af 0) ai)))⟩)) ag))))
abbrev jv:Stmt:=top 19
abbrev jy:List Str:=["thing"]
theorem nX (F:fV K mg "are_readings" jv ["thing"])(aa3:Cl P w K mg base 1 "is_long" 3 aR)(aaS:Cl P w K mg base 1 "rises" 1 kx)(aa1:Cl P w K mg base 2 "is_within" 3 bq)(B:Bl mg)(C:Cs mg):Cl P w K mg base 3 "are_readings" 1 cv:=
 aN jy F λd f c A o s H E hr x=>(ao (cb (eX (cY (aK aa3 hr (ah (af 0) (ah ai (ah (vc C.MOST_READINGS) ag)))))) (aq (ax iM)) bz) (aq (ax (dC (c9 (uP rfl) B.b_all boot_all (ah (cG ["part"] jy jv (bc (af 0)) (λd _ _ _ _ _=>⟨(ak 0 d),bY,(aK aa1 hr (ah (af 0) (ah ai (ah (vc C.LAST_READING) ag))))⟩)) ag)) (dJ (aK aaS hr (ah (af 0) ag)))))))
abbrev vt:Stmt:=top 21
theorem v5 (F:fV K mg "is_clock" vt ["thing"])(aa3:Cl P w K mg base 1 "is_long" 3 aR)(aaP:Cl P w K mg base 3 "is_pace" 2 kB)(aaq:Cl P w K mg base 3 "are_readings" 1 cv):Cl P w K mg base 4 "is_clock" 1 dS:=
 aN ["thing"] F λd f c A o s H E hr x=>(aq (ax (dC (aK aa3 hr (ah (af 0) (ah ai (ah ai ag)))) (dC (aK aaP hr (ah (aF (af 0) ai) (ah (aF (af 0) ai) ag))) (dJ (aK aaq hr (ah (aF (af 0) ai) ag)))))))
abbrev kX:Stmt:=top 22
abbrev k4:List Str:=["thing"]
theorem ri (F:fV K mg "are_clocks" kX ["thing"])(aa3:Cl P w K mg base 1 "is_long" 3 aR)(aaL:Cl P w K mg base 4 "is_clock" 1 dS)(B:Bl mg)(C:Cs mg):Cl P w K mg base 5 "are_clocks" 1 eh:=
 aN k4 F λd f c A o s H E hr x=>(aq (ax (dC (aK aa3 hr (ah (af 0) (ah ai (ah (vc C.MOST_CLOCKS) ag)))) (dJ (c9 (uP rfl) B.b_all boot_all (ah (cG ["part"] k4 kX (bc (af 0)) (λd _ _ _ _ _=>⟨(ak 0 d),bY,(aK aaL hr (ah (af 0) ag))⟩)) ag))))))
abbrev vp:Stmt:=top 23
theorem vY (F:fV K mg "is_event" vp ["clocks","thing"])(aa1:Cl P w K mg base 2 "is_within" 3 bq)(aa3:Cl P w K mg base 1 "is_long" 3 aR)(B:Bl mg):Cl P w K mg base 3 "is_event" 2 gV:=
 aN ["clocks","thing"] F λd f c A o s H E hr x=>(ao (cb (nu (mB (eX (cY (aK aa3 hr (ah (af 1) (ah ai (ah ai ag)))))) (kg (eX (cY (aK aa1 hr (ah (aF (af 1) ai) (ah ai (ah (au fw (c9 cJ B.b_len Ql (ah (af 0) ag)) ai) ag))))))))) (aq (ax iM)) bz) (aq (ax (aK aa1 hr (ah (aF (af 1) ai) (ah ai (ah (au fw (c9 cJ B.b_len Ql (ah (aF (aF (af 0) (aF (af 1) ai)) ai) ag)) ai) ag)))))))
abbrev vq:Stmt:=top 24
theorem vZ (F:fV K mg "is_delay" vq ["least","most"])(aa1:Cl P w K mg base 2 "is_within" 3 bq)(C:Cs mg):Cl P w K mg base 3 "is_delay" 2 jc:=
 aN ["least","most"] F λd f c A o s H E hr x=>(aq (ax (dC (aK aa1 hr (ah (af 0) (ah ai (ah (vc C.LONGEST) ag)))) (dJ (He (dB nH (af 1) bQ) (dJ (aK aa1 hr (ah (af 1) (ah (af 0) (ah (vc C.LONGEST) ag))))))))))
abbrev tw:Stmt:=top 25
theorem ud (F:fV K mg "is_letter" tw ["clocks","thing"])(aax:Cl P w K mg base 3 "is_event" 2 gV)(aa3:Cl P w K mg base 1 "is_long" 3 aR)(aaM:Cl P w K mg base 3 "is_delay" 2 jc):Cl P w K mg base 4 "is_letter" 2 gm:=
 aN ["clocks","thing"] F λd f c A o s H E hr x=>(ao (cb (nu (mB (eX (cY (aK aa3 hr (ah (af 1) (ah ai (ah ai ag)))))) (kg (eX (cY (aK aaM hr (ah (aF (af 1) ai) (ah (aF (af 1) ai) ag)))))))) (aq (ax iM)) bz) (aq (ax (dC (aK aax hr (ah (af 0) (ah (aF (af 1) ai) ag))) (dC (aK aax hr (ah (af 0) (ah (aF (af 1) ai) ag))) (dJ (dB (kY (gY hr)) (aF (af 1) ai) (aF (af 1) ai))))))))
abbrev jF:Stmt:=top 26
abbrev jK:List Str:=["clocks","thing"]
theorem pL (F:fV K mg "are_letters" jF ["clocks","thing"])(aa3:Cl P w K mg base 1 "is_long" 3 aR)(aaE:Cl P w K mg base 4 "is_letter" 2 gm)(B:Bl mg)(C:Cs mg):Cl P w K mg base 5 "are_letters" 2 dH:=
 aN jK F λd f c A o s H E hr x=>(aq (ax (dC (aK aa3 hr (ah (af 1) (ah ai (ah (vc C.MOST_LETTERS) ag)))) (dJ (c9 (uP rfl) B.b_all boot_all (ah (cG ["part","clocks"] jK jF (bc (af 1)) (λd _ _ _ _ _=>⟨(ak 0 d),bY,(aK aaE hr (ah (af 1) (ah (af 0) ag)))⟩)) ag))))))
abbrev tu:Stmt:=top 27
theorem uc (F:fV K mg "is_record" tu ["thing"])(aa3:Cl P w K mg base 1 "is_long" 3 aR)(aaz:Cl P w K mg base 5 "are_clocks" 1 eh)(aar:Cl P w K mg base 5 "are_letters" 2 dH):Cl P w K mg base 6 "is_record" 1 ij:=
 aN ["thing"] F λd f c A o s H E hr x=>(aq (ax (dC (aK aa3 hr (ah (af 0) (ah ai (ah ai ag)))) (dC (aK aaz hr (ah (aF (af 0) ai) ag)) (dJ (aK aar hr (ah (aF (af 0) ai) (ah (aF (af 0) ai) ag))))))))
abbrev o7:Stmt:=top 28
theorem pI (F:fV K mg "need_record" o7 ["thing"])(aaF:Cl P w K mg base 6 "is_record" 1 ij){C_NoRecord C_NoEvent C_NoNumber C_NoWorld C_Barred C_Nothing C_ClockError:Addr}(S:Xs K mg C_NoRecord C_NoEvent C_NoNumber C_NoWorld C_Barred C_Nothing C_ClockError):Cl P w K mg base 7 "need_record" 1 cm:=
 aN ["thing"] F λd f c A o s H E hr x=>(aq (cb (eX (cY (aK aaF hr (ah (af 0) ag)))) (aq (mC S.o_NoRecord S.m_NoRecord)) bz))
abbrev lb:Stmt:=top 32
theorem lq (F:fV K mg "bounds_of_clock" lb ["number","clock"])(B:Bl mg):Cl P w K mg base 1 "bounds_of_clock" 2 dg:=
 aN ["number","clock","readings","told","k","first","second","steps"] F λd f c A o s H E hr x=>(by(apply ao;exact(aA (aF (af 1) ai) (ak 2 d));apply ao;exact(iK 3 d ag);apply ao;exact(bX rfl (cg B.b_range (ah (au fw (c9 cJ B.b_len Ql (ah (af 2) ag)) ai) ag)) (ak 4 d) (by(apply ao;exact(aA (aO (ah (af 0) (ah (af 4) ag))) (ak 5 d));apply ao;exact(aA (aO (ah (af 0) (ah (au aL (af 4) ai) ag))) (ak 6 d));apply ao;exact(aA (au fw (aF (af 2) (au aL (af 4) ai)) (aF (af 2) (af 4))) (ak 7 d));apply ao;exact(hW 3 (aO (ah (af 5) (ah (af 6) (ah (au df (af 7) (aF (af 1) ai)) ag)))));exact aq (hW 3 (aO (ah (af 6) (ah (af 5) (ah (au df (mE (af 7)) (aF (af 1) ai)) ag))))))));exact aq (i5 3 (ax (af 3)))))
abbrev kM:Stmt:=top 33
theorem kO (F:fV K mg "bounds_of_letter" kM ["letter"]):Cl P w K mg base 1 "bounds_of_letter" 1 cW:=
 aN ["letter","told"] F λd f c A o s H E hr x=>(by(apply ao;exact(iK 1 d (ah (aO (ah (aF (af 0) ai) (ah (aF (af 0) ai) (ah (mE (aF (af 0) ai)) ag)))) ag));apply ao;exact(cb (ba gR (aF (af 0) ai) bQ) (aq (hW 1 (aO (ah (aF (af 0) ai) (ah (aF (af 0) ai) (ah (aF (af 0) ai) ag)))))) bz);exact aq (i5 1 (ax (af 1)))))
abbrev AA:Stmt:=top 34
theorem AO (F:fV K mg "bounds" AA ["record"])(aab:Cl P w K mg base 7 "need_record" 1 cm)(aak:Cl P w K mg base 1 "bounds_of_clock" 2 dg)(aai:Cl P w K mg base 1 "bounds_of_letter" 1 cW)(B:Bl mg):Cl P w K mg base 8 "bounds" 1 eJ:=
 aN ["record","told","number","clock","letter"] F λd f c A o s H E hr x=>(by(apply ao;exact(gf (aK aab hr (ah (af 0) ag)));apply ao;exact(iK 1 d ag);apply ao;exact(bX rfl (jD B.b_enumerate (ah (aF (af 0) ai) ag)) (hY rfl (bu (ak 2 d) (bu (ak 3 d) gg))) (aq (sS 1 (aK aak hr (ah (af 2) (ah (af 3) ag))))));apply ao;exact(bX rfl (bc (aF (af 0) ai)) (ak 4 d) (aq (sS 1 (aK aai hr (ah (af 4) ag)))));exact aq (i5 1 (ax (af 1)))))
abbrev o8:Stmt:=top 29
theorem pJ (F:fV K mg "need_number" o8 ["many","thing"])(aa1:Cl P w K mg base 2 "is_within" 3 bq){C_NoRecord C_NoEvent C_NoNumber C_NoWorld C_Barred C_Nothing C_ClockError:Addr}(S:Xs K mg C_NoRecord C_NoEvent C_NoNumber C_NoWorld C_Barred C_Nothing C_ClockError):Cl P w K mg base 3 "need_number" 2 eG:=
 aN ["many","thing"] F λd f c A o s H E hr x=>(aq (cb (eX (cY (aK aa1 hr (ah (af 1) (ah ai (ah (au fw (af 0) ai) ag)))))) (aq (mC S.o_NoNumber S.m_NoNumber)) bz))
abbrev rL:Stmt:=top 30
abbrev rV:List Str:=["record","told","number","clock"]
theorem AN (F:fV K mg "events" rL ["record"])(aab:Cl P w K mg base 7 "need_record" 1 cm)(B:Bl mg):Cl P w K mg base 8 "events" 1 eI:=
 aN rV F λd f c A o s H E hr x=>(by(apply ao;exact(gf (aK aab hr (ah (af 0) ag)));apply ao;exact(iK 1 d ag);apply ao;exact(bX rfl (jD B.b_enumerate (ah (aF (af 0) ai) ag)) (hY rfl (bu (ak 2 d) (bu (ak 3 d) gg))) (aq (sS 1 (cG ["k","number"] rV rL (cg B.b_range (ah (c9 cJ B.b_len Ql (ah (aF (af 3) ai) ag)) ag)) (λd _ _ _ _ _=>⟨(ak 0 d),bY,(aO (ah (af 1) (ah (af 0) ag)))⟩)))));exact aq (i5 1 (ax (af 1)))))
abbrev tD:Stmt:=top 37
theorem ue (F:fV K mg "is_better" tD ["best","bound","ahead"]):Cl P w K mg base 1 "is_better" 3 dU:=
 aN ["best","bound","ahead","known"] F λd f c A o s H E hr x=>(ao (aA (yZ (mh hr) (af 0) (aF (af 1) ai)) (ak 3 d)) (aq (ax (He (dB nH (af 3) bQ) (dJ (dB pG (au aL (aF (af 2) ai) (aF (af 1) ai)) (aF (af 3) ai)))))))
abbrev mJ:Stmt:=top 36
abbrev mX:List Str:=["limits","starts","best","moved","number","bound","ahead","walk","passed"]
theorem AM (F:fV K mg "settle" mJ ["limits","starts"])(aaG:Cl P w K mg base 1 "is_better" 3 dU)(B:Bl mg):Cl P w K mg base 2 "settle" 2 fz:=
 aN mX F λd f c A o s H E hr x=>(by(apply ao;exact(BM 2 (hu8 hr) rfl B.b_dict d (cG ["event"] mX mJ (bc (af 1)) (λd _ _ _ _ _=>⟨(ak 0 d),bY,(aO (ah (af 0) (ah (aO (ah ai (ah (cE ag) ag))) ag)))⟩)));apply ao;exact(aA iM (ak 3 d));apply ao;exact(rF FU (cY (af 3)) (ao (aA iM (ak 3 d)) (aq (bX rfl (jD B.b_enumerate (ah (af 0) ag)) (hY rfl (bu (ak 4 d) (bu (ak 5 d) gg))) (by(apply ao;exact(aA (kR 2 (yZ (mh hr) (af 2) (aF (af 5) ai))) (ak 6 d));apply ao;exact(cb (nu (mB (ba nH (af 6) bQ) (kg (eX (HX 2 (cY (aK aaG hr (ah (af 2) (ah (af 5) (ah (af 6) ag)))))))))) (aq HY) bz);apply ao;exact(aA (au aL (aF (af 6) ai) (cE (ah (af 4) ag))) (ak 7 d));apply ao;exact(BN 8 (N':=["step","limits"]) (src:=[none,some 0]) rfl (LcScope.by (N:=mX) (names:=(az mJ).names) rfl rfl rfl (by decide+kernel)) (bc (af 7)) (λ_ _ _ _ _=>⟨(ak 0 (show RO (["step","limits"]:List Str)by decide+kernel)),bY,(aF (aF (af 1) (af 0)) ai)⟩) d);apply ao;exact(cb (ba (vV (Bb hr)) (aF (af 5) ai) (af 8)) (aq (ax (aO (ah bQ (ah (cS (af 7) (cQ (Av (Bb hr) (af 8) (aF (af 5) ai))) cR) ag))))) bz);apply ao;exact(ES 2 (mh hr) (aF (af 5) ai) (aO (ah (au aL (aF (af 6) ai) (aF (af 5) ai)) (ah (af 7) ag))));exact aq (aA iM (ak 3 d))))))));exact aq (i5 2 (ax (aO (ah (af 2) (ah bQ ag)))))))
abbrev ie:Stmt:=top 39
abbrev ig:List Str:=["record","limits","places","best"]
theorem lT (F:fV K mg "greatest_world" ie ["record","limits"])(aae:Cl P w K mg base 8 "events" 1 eI)(aaf:Cl P w K mg base 2 "settle" 2 fz)(B:Bl mg):Cl P w K mg base 9 "greatest_world" 2 d9:=
 aN ig F λd f c A o s H E hr x=>(by(apply ao;exact(aA (aK aae hr (ah (af 0) ag)) (ak 2 d));apply ao;exact(aA (aF (aK aaf hr (ah (af 1) (ah (af 2) ag))) ai) (ak 3 d));apply ao;exact(cb (ba nH (af 3) bQ) (aq (ax bQ)) bz);exact aq (ax (jt fI B.b_tuple bW (ah (cG ["event","best"] ig ie (bc (af 2)) (λd _ _ _ _ _=>⟨(ak 0 d),bY,(aF (dm (mh hr) (af 1) (af 0)) ai)⟩)) ag)))))
abbrev B5:Stmt:=top 40
theorem C2 (F:fV K mg "world" B5 ["record"])(aal:Cl P w K mg base 9 "greatest_world" 2 d9)(aag:Cl P w K mg base 8 "bounds" 1 eJ):Cl P w K mg base 10 "world" 1 kr:=
 aN ["record"] F λd f c A o s H E hr x=>(aq (ax (aK aal hr (ah (af 0) (ah (aK aag hr (ah (af 0) ag)) ag)))))
abbrev tE:Stmt:=top 41
theorem uf (F:fV K mg "has_world" tE ["record"])(aaT:Cl P w K mg base 10 "world" 1 kr):Cl P w K mg base 11 "has_world" 1 aM:=
 aN ["record"] F λd f c A o s H E hr x=>(aq (ax (dB gR (aK aaT hr (ah (af 0) ag)) bQ)))
abbrev qW:Stmt:=top 42
theorem rh (F:fV K mg "need_world" qW ["record"])(aa4:Cl P w K mg base 11 "has_world" 1 aM){C_NoRecord C_NoEvent C_NoNumber C_NoWorld C_Barred C_Nothing C_ClockError:Addr}(S:Xs K mg C_NoRecord C_NoEvent C_NoNumber C_NoWorld C_Barred C_Nothing C_ClockError):Cl P w K mg base 12 "need_world" 1 bH:=
 aN ["record"] F λd f c A o s H E hr x=>(aq (cb (eX (cY (aK aa4 hr (ah (af 0) ag)))) (aq (mC S.o_NoWorld S.m_NoWorld)) bz))
abbrev o9:Stmt:=top 48
theorem pK (F:fV K mg "is_needless" o9 ["record","number"])(aag:Cl P w K mg base 8 "bounds" 1 eJ)(aas:Cl P w K mg base 3 "need_number" 2 eG)(aa7:Cl P w K mg base 12 "need_world" 1 bH)(aaf:Cl P w K mg base 2 "settle" 2 fz)(B:Bl mg):Cl P w K mg base 13 "is_needless" 2 cp:=
 aN ["record","number","limits","bound","walks"] F λd f c A o s H E hr x=>(by(apply ao;exact(aA (aK aag hr (ah (af 0) ag)) (ak 2 d));apply ao;exact(gf (aK aas hr (ah (c9 cJ B.b_len Ql (ah (af 2) ag)) (ah (af 1) ag))));apply ao;exact(gf (aK aa7 hr (ah (af 0) ag)));apply ao;exact(aA (aF (af 2) (af 1)) (ak 3 d));apply ao;exact(aA (aF (aK aaf hr (ah (au aL (cS (af 2) cR (cQ (af 1))) (cS (af 2) (cQ (au aL (af 1) ai)) cR)) (ah (cE (ah (aF (af 3) ai) ag)) ag))) ai) (ak 4 d));exact aq (ax (dC (dB (CZ (mh hr)) (aF (af 3) ai) (af 4)) (dJ (dB vU (aF (dm (mh hr) (af 4) (aF (af 3) ai)) ai) (aF (af 3) ai)))))))
abbrev pd:Stmt:=top 49
theorem pM (F:fV K mg "all_letters" pd ["record"])(B:Bl mg):Cl P w K mg base 1 "all_letters" 1 bL:=
 aN ["record"] F λd f c A o s H E hr x=>(aq (ax (rG rfl B.b_list B.b_range (ah (c9 cJ B.b_len Ql (ah (aF (af 0) ai) ag)) ag))))
abbrev qV:Stmt:=top 44
theorem rg (F:fV K mg "walks_from" qV ["record","one"])(aaf:Cl P w K mg base 2 "settle" 2 fz)(aag:Cl P w K mg base 8 "bounds" 1 eJ):Cl P w K mg base 9 "walks_from" 2 fy:=
 aN ["record","one"] F λd f c A o s H E hr x=>(aq (ax (aF (aK aaf hr (ah (aK aag hr (ah (af 0) ag)) (ah (cE (ah (af 1) ag)) ag))) ai)))
abbrev xK:Stmt:=top 45
theorem x9 (F:fV K mg "most_of" xK ["walks","other"]):Cl P w K mg base 1 "most_of" 2 gH:=
 aN ["walks","other"] F λd f c A o s H E hr x=>(aq (ax (yY (ba (CZ (mh hr)) (af 1) (af 0)) (aF (dm (mh hr) (af 0) (af 1)) ai) bQ)))
abbrev nB:Stmt:=top 46
abbrev nK:List Str:=["record","places","told","one","walks"]
theorem v8 (F:fV K mg "all_most" nB ["record"])(aa7:Cl P w K mg base 12 "need_world" 1 bH)(aae:Cl P w K mg base 8 "events" 1 eI)(aaA:Cl P w K mg base 9 "walks_from" 2 fy)(aaQ:Cl P w K mg base 1 "most_of" 2 gH)(B:Bl mg):Cl P w K mg base 13 "all_most" 1 gW:=
 aN nK F λd f c A o s H E hr x=>(by(apply ao;exact(gf (aK aa7 hr (ah (af 0) ag)));apply ao;exact(aA (aK aae hr (ah (af 0) ag)) (ak 1 d));apply ao;exact(iK 2 d ag);apply ao;exact(bX rfl (bc (af 1)) (ak 3 d) (ao (aA (aK aaA hr (ah (af 0) (ah (af 3) ag))) (ak 4 d)) (aq (hW 2 (jt fI B.b_tuple bW (ah (cG ["other","walks"] nK nB (bc (af 1)) (λd _ _ _ _ _=>⟨(ak 0 d),bY,(aK aaQ hr (ah (af 1) (ah (af 0) ag)))⟩)) ag))))));exact aq (ax (kR 2 (jt fI B.b_tuple bW (ah (af 2) ag))))))
abbrev oZ:Stmt:=top 54
theorem pH (F:fV K mg "same_worlds" oZ ["one","other"])(aae:Cl P w K mg base 8 "events" 1 eI)(aay:Cl P w K mg base 13 "all_most" 1 gW)(aa4:Cl P w K mg base 11 "has_world" 1 aM):Cl P w K mg base 14 "same_worlds" 2 ck:=
 aN ["one","other"] F λd f c A o s H E hr x=>(by(apply ao;exact(cb (ba (kY (gY hr)) (aK aae hr (ah (af 0) ag)) (aK aae hr (ah (af 1) ag))) (aq (ax iM)) bz);apply ao;exact(cb (nu (mB (eX (cY (aK aa4 hr (ah (af 0) ag)))) (kg (eX (cY (aK aa4 hr (ah (af 1) ag))))))) (aq (ax (dC (xE (aK aa4 hr (ah (af 0) ag))) (dJ (xE (aK aa4 hr (ah (af 1) ag))))))) bz);exact aq (ax (dB (kZ (gY hr)) (aK aay hr (ah (af 0) ag)) (aK aay hr (ah (af 1) ag))))))
abbrev lJ:Stmt:=top 50
abbrev lW:List Str:=["record","numbers"]
theorem t9 (F:fV K mg "with_only" lJ ["record","numbers"])(B:Bl mg):Cl P w K mg base 1 "with_only" 2 bR:=
 aN lW F λd f c A o s H E hr x=>(aq (ax (aO (ah (aF (af 0) ai) (ah (jt fI B.b_tuple bW (ah (cG ["number","record"] lW lJ (bc (af 1)) (λd _ _ _ _ _=>⟨(ak 0 d),bY,(aF (aF (af 1) ai) (af 0))⟩)) ag)) ag)))))
abbrev oX:Stmt:=top 51
abbrev pZ:List Str:=["numbers","number"]
theorem x6 (F:fV K mg "without" oX ["numbers","number"]):Cl P w K mg base 1 "without" 2 d8:=
 aN pZ F λd f c A o s H E hr x=>(aq (ax (cG ["other","number"] pZ oX (bc (af 0)) (λd _ _ _ _ _=>⟨(ak 0 d),(fq (ba (kY (gY hr)) (af 0) (af 1))),(af 0)⟩))))
abbrev gA:Stmt:=top 52
abbrev gB:List Str:=["record","numbers"]
theorem kN (F:fV K mg "needless_letters" gA ["record"])(aa7:Cl P w K mg base 12 "need_world" 1 bH)(aa6:Cl P w K mg base 1 "all_letters" 1 bL)(aac:Cl P w K mg base 14 "same_worlds" 2 ck)(aa9:Cl P w K mg base 1 "with_only" 2 bR)(aad:Cl P w K mg base 1 "without" 2 d8):Cl P w K mg base 15 "needless_letters" 1 bA:=
 aN gB F λd f c A o s H E hr x=>(by(apply ao;exact(gf (aK aa7 hr (ah (af 0) ag)));apply ao;exact(aA (aK aa6 hr (ah (af 0) ag)) (ak 1 d));exact aq (ax (cG ["number","record","numbers"] gB gA (bc (af 1)) (λd _ _ _ _ _=>⟨(ak 0 d),(fq (cY (aK aac hr (ah (aK aa9 hr (ah (af 1) (ah (aK aad hr (ah (af 2) (ah (af 0) ag))) ag))) (ah (af 1) ag))))),(af 0)⟩)))))
abbrev mK:Stmt:=top 53
theorem mS (F:fV K mg "least_letters" mK ["record"])(aa7:Cl P w K mg base 12 "need_world" 1 bH)(aa9:Cl P w K mg base 1 "with_only" 2 bR)(aac:Cl P w K mg base 14 "same_worlds" 2 ck)(aad:Cl P w K mg base 1 "without" 2 d8)(aa6:Cl P w K mg base 1 "all_letters" 1 bL)(B:Bl mg):Cl P w K mg base 15 "least_letters" 1 b9:=
 aN ["record","least","number","less"] F λd f c A o s H E hr x=>(by(apply ao;exact(gf (aK aa7 hr (ah (af 0) ag)));apply ao;exact(aA (af 0) (ak 1 d));apply ao;exact(bX rfl (xA B.b_range (ah (au fw (c9 cJ B.b_len Ql (ah (aF (af 0) ai) ag)) ai) (ah (mE ai) (ah (mE ai) ag)))) (ak 2 d) (ao (aA (aK aa9 hr (ah (af 1) (ah (aK aad hr (ah (aK aa6 hr (ah (af 1) ag)) (ah (af 2) ag))) ag))) (ak 3 d)) (aq (cb (cY (aK aac hr (ah (af 3) (ah (af 0) ag)))) (aq (aA (af 3) (ak 1 d))) bz))));exact aq (ax (af 1))))
abbrev oY:Stmt:=top 55
abbrev p0:List Str:=["numbers","told","number"]
theorem x8 (F:fV K mg "sets_of" oY ["numbers"]):Cl P w K mg base 1 "sets_of" 1 ku:=
 aN p0 F λd f c A o s H E hr x=>(by(apply ao;exact(aA (cE (ah (cE ag) ag)) (ak 1 d));apply ao;exact(bX rfl (bc (af 0)) (ak 2 d) (aq (aA (au aL (af 1) (cG ["part","number"] p0 oY (bc (af 1)) (λd _ _ _ _ _=>⟨(ak 0 d),bY,(au aL (af 0) (cE (ah (af 1) ag)))⟩))) (ak 1 d))));exact aq (ax (af 1))))
abbrev lK:Stmt:=top 56
abbrev uq:List Str:=["record","sets","place"]
theorem aan:dj uq ["record"] (az lK):=fsc
theorem ua (F:fV K mg "most_kept" lK ["record"])(aab:Cl P w K mg base 7 "need_record" 1 cm)(aaR:Cl P w K mg base 1 "sets_of" 1 ku)(aa4:Cl P w K mg base 11 "has_world" 1 aM)(aa6:Cl P w K mg base 1 "all_letters" 1 bL)(aa9:Cl P w K mg base 1 "with_only" 2 bR)(B:Bl mg)(LX:KD K mg base):Cl P w K mg base 12 "most_kept" 1 dR:=
 Kt F aan rfl λf c hx A o s H E hr x=>(by(apply ao;exact(gf (aK aab hr (ah (af 0) ag)));apply ao;exact(aA (EU LX hx hr B.b_sorted B.b_len (ah (aK aaR hr (ah (aK aa6 hr (ah (af 0) ag)) ag)) ag)) (ak 1 aan.nd));apply ao;exact(aA ai (ak 2 aan.nd));apply ao;exact(rF FU (eX (cY (aK aa4 hr (ah (aK aa9 hr (ah (af 0) (ah (aF (af 1) (af 2)) ag))) ag)))) (aq (ET 2 aan.nd ai)));exact aq (ax (aF (af 1) (af 2)))))
abbrev nA:Stmt:=top 57
abbrev nJ:List Str:=["record","numbers"]
theorem v7 (F:fV K mg "culprits" nA ["record"])(aa4:Cl P w K mg base 11 "has_world" 1 aM)(aa6:Cl P w K mg base 1 "all_letters" 1 bL)(aa9:Cl P w K mg base 1 "with_only" 2 bR)(aad:Cl P w K mg base 1 "without" 2 d8):Cl P w K mg base 12 "culprits" 1 ff:=
 aN nJ F λd f c A o s H E hr x=>(by(apply ao;exact(cb (cY (aK aa4 hr (ah (af 0) ag))) (aq (ax (cE ag))) bz);apply ao;exact(aA (aK aa6 hr (ah (af 0) ag)) (ak 1 d));exact aq (ax (cG ["number","record","numbers"] nJ nA (bc (af 1)) (λd _ _ _ _ _=>⟨(ak 0 d),(fq (cY (aK aa4 hr (ah (aK aa9 hr (ah (af 1) (ah (aK aad hr (ah (af 2) (ah (af 0) ag))) ag))) ag)))),(af 0)⟩)))))
abbrev tF:Stmt:=top 69
theorem ug (F:fV K mg "_law_told" tF ["_law_ask","_law_record_here","_law_number"])(aat:Cl P w K mg base 13 "is_needless" 2 cp)(aaj:Cl P w K mg base 15 "needless_letters" 1 bA)(aao:Cl P w K mg base 15 "least_letters" 1 b9)(aaH:Cl P w K mg base 12 "most_kept" 1 dR)(aaN:Cl P w K mg base 12 "culprits" 1 ff)(B:Bl mg){C_NoRecord C_NoEvent C_NoNumber C_NoWorld C_Barred C_Nothing C_ClockError:Addr}(S:Xs K mg C_NoRecord C_NoEvent C_NoNumber C_NoWorld C_Barred C_Nothing C_ClockError){f_r:Addr}{fd_r:PV}(aap:Fn K mg "_law_refused" cH ["_law_e"] f_r fd_r):Cl P w K mg base 16 "_law_told" 3 aY:=
 aN ["_law_ask","_law_record_here","_law_number","_law_e"] F λd f c A o s H E hr x=>(aq (ER 3 d S.m_ClockError S.o_ClockError (λ_ _=>(ao (cb (ba pG (af 0) ai) (aq (ax (EV (Fq aaj hr (Fq aao hr (Fq aaH hr (Fq aaN hr selN)))) (af 0) (ah (af 1) ag)))) bz) (aq (ax (aK aat hr (ah (af 1) (ah (af 2) ag))))))) (B2 rfl (TM rfl) aap S B.b_isinstance B.b_ValueError (K8 hr)) (hcl:=λ_ _ z=>by cases z)))
theorem kQ {X:Cx}{j1 j2 j3 j4 j5 j6 j7 j8 j9 j10 j11 j12 j13 j14 j15 j16 j17 j18 j19 j20 j21 j22 j23 j24 j25 j26 j27 j28 j29 j30 j31 j32:Nat}{p1 p2 p3 p4 p5 p6 p7 p8 p9 p10 p11 p12 p13 p14 p15 p16 p17 p18 p19 p20 p21 p22 p23 p24 p25 p26 p27 p28 p29 p30 p31 p32:Pos}:QE X (.Tuple [(.Tuple [(.Tuple [(.Constant (.int 1) j1 p1),(.Constant (.int 1) j2 p2),(.Tuple [(.Constant (.int 0) j3 p3),(.Constant (.int 1) j4 p4)] j5 p5)] j6 p6),(.Tuple [(.Constant (.int 1) j7 p7),(.Constant (.int 1) j8 p8),(.Tuple [(.Constant (.int 0) j9 p9)] j10 p10)] j11 p11)] j12 p12),(.Tuple [(.Tuple [(.Tuple [(.Constant (.int 1) j13 p13),(.Constant (.int 0) j14 p14)] j15 p15),(.Tuple [(.Constant (.int 0) j16 p16),(.Constant (.int 0) j17 p17)] j18 p18),(.Constant (.int 1) j19 p19),(.Constant .none j20 p20)] j21 p21),(.Tuple [(.Tuple [(.Constant (.int 1) j22 p22),(.Constant (.int 0) j23 p23)] j24 p24),(.Tuple [(.Constant (.int 0) j25 p25),(.Constant (.int 1) j26 p26)] j27 p27),(.Constant (.int 2) j28 p28),(.Constant .none j29 p29)] j30 p30)] j31 p31)] j32 p32) (aP (ae (aP (ae (aP (ae (cn (.int 1)) (ae (cn (.int 1)) (ae (aP (ae (cn (.int 0)) (ae (cn (.int 1)) aj))) aj)))) (ae (aP (ae (cn (.int 1)) (ae (cn (.int 1)) (ae (aP (ae (cn (.int 0)) aj)) aj)))) aj))) (ae (aP (ae (aP (ae (aP (ae (cn (.int 1)) (ae (cn (.int 0)) aj))) (ae (aP (ae (cn (.int 0)) (ae (cn (.int 0)) aj))) (ae (cn (.int 1)) (ae (cn .non) aj))))) (ae (aP (ae (aP (ae (cn (.int 1)) (ae (cn (.int 0)) aj))) (ae (aP (ae (cn (.int 0)) (ae (cn (.int 1)) aj))) (ae (cn (.int 2)) (ae (cn .non) aj))))) aj))) aj))):=by
 refine @aO X _ _ _ _ ?_
 refine @ah X _ _ _ _ ?_ ?_ rfl
 ·refine @aO X _ _ _ _ ?_
  refine @ah X _ _ _ _ ?_ ?_ rfl
  ·refine @aO X _ _ _ _ ?_
   refine @ah X _ _ _ _ ?_ ?_ rfl
   ·exact ai
   refine @ah X _ _ _ _ ?_ ?_ rfl
   ·exact ai
   refine @ah X _ _ _ _ ?_ ?_ rfl
   ·refine @aO X _ _ _ _ ?_
    refine @ah X _ _ _ _ ?_ ?_ rfl
    ·exact ai
    refine @ah X _ _ _ _ ?_ ?_ rfl
    ·exact ai
    exact ag
   exact ag
  refine @ah X _ _ _ _ ?_ ?_ rfl
  ·refine @aO X _ _ _ _ ?_
   refine @ah X _ _ _ _ ?_ ?_ rfl
   ·exact ai
   refine @ah X _ _ _ _ ?_ ?_ rfl
   ·exact ai
   refine @ah X _ _ _ _ ?_ ?_ rfl
   ·refine @aO X _ _ _ _ ?_
    refine @ah X _ _ _ _ ?_ ?_ rfl
    ·exact ai
    exact ag
   exact ag
  exact ag
 refine @ah X _ _ _ _ ?_ ?_ rfl
 ·refine @aO X _ _ _ _ ?_
  refine @ah X _ _ _ _ ?_ ?_ rfl
  ·refine @aO X _ _ _ _ ?_
   refine @ah X _ _ _ _ ?_ ?_ rfl
   ·refine @aO X _ _ _ _ ?_
    refine @ah X _ _ _ _ ?_ ?_ rfl
    ·exact ai
    refine @ah X _ _ _ _ ?_ ?_ rfl
    ·exact ai
    exact ag
   refine @ah X _ _ _ _ ?_ ?_ rfl
   ·refine @aO X _ _ _ _ ?_
    refine @ah X _ _ _ _ ?_ ?_ rfl
    ·exact ai
    refine @ah X _ _ _ _ ?_ ?_ rfl
    ·exact ai
    exact ag
   refine @ah X _ _ _ _ ?_ ?_ rfl
   ·exact ai
   refine @ah X _ _ _ _ ?_ ?_ rfl
   ·exact bQ
   exact ag
  refine @ah X _ _ _ _ ?_ ?_ rfl
  ·refine @aO X _ _ _ _ ?_
   refine @ah X _ _ _ _ ?_ ?_ rfl
   ·refine @aO X _ _ _ _ ?_
    refine @ah X _ _ _ _ ?_ ?_ rfl
    ·exact ai
    refine @ah X _ _ _ _ ?_ ?_ rfl
    ·exact ai
    exact ag
   refine @ah X _ _ _ _ ?_ ?_ rfl
   ·refine @aO X _ _ _ _ ?_
    refine @ah X _ _ _ _ ?_ ?_ rfl
    ·exact ai
    refine @ah X _ _ _ _ ?_ ?_ rfl
    ·exact ai
    exact ag
   refine @ah X _ _ _ _ ?_ ?_ rfl
   ·exact ai
   refine @ah X _ _ _ _ ?_ ?_ rfl
   ·exact bQ
   exact ag
  exact ag
 exact ag
abbrev lM:Stmt:=top 73
theorem lU (F:fV K mg "_law_known_one" lM [])(aa5:Cl P w K mg base 16 "_law_told" 3 aY):Cl P w K mg base 17 "_law_known_one" 0 dw:=
 aN ["_law_known"] F λd f c A o s H E hr x=>(ao (aA kQ (ak 0 d)) (aq (ax (dC (dB (kZ (gY hr)) (aK aa5 hr (ah ai (ah (af 0) (ah bQ ag)))) (cE (ah ai (ah ai ag)))) (dJ (dB (kZ (gY hr)) (aK aa5 hr (ah ai (ah (af 0) (ah bQ ag)))) (aO (ah (aF (af 0) ai) (ah (cS (aF (af 0) ai) cR (cQ ai)) ag)))))))))
abbrev jH:Stmt:=top 63
abbrev jM:List Str:=["_law_clocks","_law_found","_law_number","_law_clock_here"]
theorem pR (F:fV K mg "_law_events" jH ["_law_clocks"])(B:Bl mg):Cl P w K mg base 1 "_law_events" 1 bf:=
 aN jM F λd f c A o s H E hr x=>(by(apply ao;exact(aA (cE ag) (ak 1 d));apply ao;exact(bX rfl (jD B.b_enumerate (ah (af 0) ag)) (hY rfl (bu (ak 2 d) (bu (ak 3 d) gg))) (aq (aA (au aL (af 1) (cG ["_law_place","_law_number"] jM jH (cg B.b_range (ah (c9 cJ B.b_len Ql (ah (aF (af 3) ai) ag)) ag)) (λd _ _ _ _ _=>⟨(ak 0 d),bY,(aO (ah (af 1) (ah (af 0) ag)))⟩))) (ak 1 d))));exact aq (ax (af 1))))
abbrev iy:Stmt:=top 65
abbrev iB:List Str:=["_law_record_here","_law_clocks","_law_row"]
theorem rk (F:fV K mg "_law_small" iy ["_law_record_here"])(aa2:Cl P w K mg base 1 "_law_events" 1 bf)(B:Bl mg):Cl P w K mg base 2 "_law_small" 1 gF:=
 aN iB F λd f c A o s H E hr x=>(by(apply ao;exact(aA (jt fI B.b_tuple bW (ah (cG ["_law_clock_here"] iB iy (bc (cS (aF (af 0) ai) cR (cQ ai))) (λd _ _ _ _ _=>⟨(ak 0 d),bY,(au aL (cS (af 0) cR (cQ ai)) (aO (ah (cS (aF (af 0) ai) cR (cQ ai)) ag)))⟩)) ag)) (ak 1 d));apply ao;exact(aA (aK aa2 hr (ah (af 1) ag)) (ak 2 d));exact aq (ax (aO (ah (af 1) (ah (jt fI B.b_tuple bW (ah (cG ["_law_letter_here","_law_row"] iB iy (bc (aF (af 0) ai)) (λd _ _ _ _ _=>⟨(ak 0 d),(fq (nu (yX (ba (vV (Bb hr)) (aF (af 0) ai) (af 1)) (u9 (ba (vV (Bb hr)) (aF (af 0) ai) (af 1)))))),(af 0)⟩)) ag)) ag))))))
abbrev pf:Stmt:=top 66
theorem pT (F:fV K mg "_law_bounds" pf ["_law_record_here"])(B:Bl mg):Cl P w K mg base 1 "_law_bounds" 1 bV:=
 aN ["_law_record_here","_law_found","_law_number","_law_slow","_law_fast","_law_readings","_law_k","_law_steps","_law_one","_law_other","_law_least","_law_most"] F λd f c A o s H E hr x=>(by(apply ao;exact(iK 1 d ag);apply ao;exact(bX rfl (jD B.b_enumerate (ah (aF (af 0) ai) ag)) (hY rfl (bu (ak 2 d) (bu (hY rfl (bu (ak 3 d) (bu (ak 4 d) (bu (ak 5 d) gg)))) gg))) (aq (bX rfl (xC B.b_range (ah ai (ah (c9 cJ B.b_len Ql (ah (af 5) ag)) ag))) (ak 6 d) (by(apply ao;exact(aA (au fw (aF (af 5) (af 6)) (aF (af 5) (au fw (af 6) ai))) (ak 7 d));apply ao;exact(hW 1 (aO (ah (aO (ah (af 2) (ah (au fw (af 6) ai) ag))) (ah (aO (ah (af 2) (ah (af 6) ag))) (ah (au df (af 4) (af 7)) ag)))));exact aq (hW 1 (aO (ah (aO (ah (af 2) (ah (af 6) ag))) (ah (aO (ah (af 2) (ah (au fw (af 6) ai) ag))) (ah (au fw ai (au df (af 3) (af 7))) ag))))))))));apply ao;exact(bX rfl (bc (aF (af 0) ai)) (hY rfl (bu (ak 8 d) (bu (ak 9 d) (bu (ak 10 d) (bu (ak 11 d) gg))))) (ao (hW 1 (aO (ah (af 9) (ah (af 8) (ah (au fw ai (af 10)) ag))))) (aq (cb (ba gR (af 11) bQ) (aq (hW 1 (aO (ah (af 8) (ah (af 9) (ah (af 11) ag)))))) bz))));exact aq (i5 1 (ax (af 1)))))
abbrev ix:Stmt:=top 67
abbrev iA:List Str:=["_law_places","_law_row","_law_far","_law_one","_law_other","_law_most","_law_middle","_law_whole"]
theorem rj (F:fV K mg "_law_table" ix ["_law_places","_law_row"])(B:Bl mg):Cl P w K mg base 1 "_law_table" 2 bO:=
 aN iA F λd f c A o s H E hr x=>(by(apply ao;exact(Au 2 0 (N':=["_law_one","_law_places"]) (src:=[none]) (hu8 hr) rfl B.b_dict d (LcScope.by (N:=iA) (names:=(az ix).names) rfl rfl rfl (by decide+kernel)) (bc (af 0)) (by decide) (λ_ _ _ _ _=>⟨(ak 0 (show RO (["_law_one","_law_places"]:List Str)by decide+kernel)),pv 0,Jl (hu8 hr) rfl B.b_dict rfl (LcScope.byN (N:=["_law_one","_law_places"]) (N':=["_law_other"]) rfl rfl (by decide+kernel) rfl) (bc (af 1)).h (λ_ _ _ _ _=>⟨(ak 0 (show RO (["_law_other"]:List Str)by decide+kernel)).h,pv 0,rfl⟩) (λ_=>rfl)⟩));apply ao;exact(bX rfl (bc (af 0)) (ak 3 d) (aq (oO 2 (mh hr) (af 3) (af 3) ai)));apply ao;exact(bX rfl (bc (af 1)) (hY rfl (bu (ak 3 d) (bu (ak 4 d) (bu (ak 5 d) gg)))) (aq (cb (nu (mB (ba nH (kR 2 (dm (mh hr) (dm (mh hr) (af 2) (af 3)) (af 4))) bQ) (kg (ba pG (af 5) (kR 2 (dm (mh hr) (dm (mh hr) (af 2) (af 3)) (af 4))))))) (aq (oO 2 (mh hr) (af 3) (af 4) (af 5))) bz)));apply ao;exact(bX rfl (bc (af 0)) (ak 6 d) (aq (bX rfl (bc (af 0)) (ak 3 d) (aq (bX rfl (bc (af 0)) (ak 4 d) (aq (cb (nu (yX (ba gR (kR 2 (dm (mh hr) (dm (mh hr) (af 2) (af 3)) (af 6))) bQ) (u9 (ba gR (kR 2 (dm (mh hr) (dm (mh hr) (af 2) (af 6)) (af 4))) bQ)))) (ao (aA (au aL (kR 2 (dm (mh hr) (dm (mh hr) (af 2) (af 3)) (af 6))) (kR 2 (dm (mh hr) (dm (mh hr) (af 2) (af 6)) (af 4)))) (ak 7 d)) (aq (cb (nu (mB (ba nH (kR 2 (dm (mh hr) (dm (mh hr) (af 2) (af 3)) (af 4))) bQ) (kg (ba pG (af 7) (kR 2 (dm (mh hr) (dm (mh hr) (af 2) (af 3)) (af 4))))))) (aq (oO 2 (mh hr) (af 3) (af 4) (af 7))) bz))) bz)))))));exact aq (i5 2 (ax (yY (ba (kZ (gY hr)) (cG ["_law_one","_law_far"] iA ix (bc (af 0)) (λd _ _ _ _ _=>⟨(ak 0 d),(fq (ba pG (dm (mh hr) (dm (mh hr) (af 1) (af 0)) (af 0)) ai)),(af 0)⟩)) (cE ag)) (af 2) bQ)))))
abbrev tG:Stmt:=top 59
theorem ui (F:fV K mg "_law_cell" tG ["_law_script","_law_k"])(B:Bl mg):Cl P w K mg base 1 "_law_cell" 2 gp:=
 aN ["_law_script","_law_k"] F λd f c A o s H E hr x=>(ao (cb (ba (kZ (gY hr)) (af 0) (cE ag)) (aq (ax (au df ai (af 1)))) bz) (aq (ax (au aL (aF (af 0) (au lj (af 1) (c9 cJ B.b_len Ql (ah (af 0) ag)))) (au df ai (au oq (af 1) (c9 cJ B.b_len Ql (ah (af 0) ag))))))))
abbrev qX:Stmt:=top 60
theorem rl (F:fV K mg "_law_drawn" qX ["_law_script","_law_k","_law_many"])(aaI:Cl P w K mg base 1 "_law_cell" 2 gp):Cl P w K mg base 2 "_law_drawn" 3 aJ:=
 aN ["_law_script","_law_k","_law_many","_law_cell_here"] F λd f c A o s H E hr x=>(by(apply ao;exact(aA (au lj (au aL (au df (au lj (aK aaI hr (ah (af 0) (ah (af 1) ag))) ai) ai) (au df ai (au aL (af 1) ai))) ai) (ak 3 d));apply ao;exact(aA (au lj (au aL (au df (af 3) (af 3)) (au oq (af 3) ai)) ai) (ak 3 d));exact aq (ax (au lj (au oq (au lj (au aL (au df (af 3) (af 3)) (au oq (af 3) ai)) ai) ai) (af 2)))))
abbrev pe:Stmt:=top 62
theorem pQ (F:fV K mg "_law_letter" pe ["_law_script","_law_at","_law_clocks"])(aa2:Cl P w K mg base 1 "_law_events" 1 bf)(aa0:Cl P w K mg base 2 "_law_drawn" 3 aJ)(B:Bl mg):Cl P w K mg base 3 "_law_letter" 3 dI:=
 aN ["_law_script","_law_at","_law_clocks","_law_row","_law_place","_law_other","_law_least","_law_most"] F λd f c A o s H E hr x=>(by(apply ao;exact(aA (aK aa2 hr (ah (af 2) ag)) (ak 3 d));apply ao;exact(cb (ba pG (c9 cJ B.b_len Ql (ah (af 3) ag)) ai) (aq (ax bQ)) bz);apply ao;exact(aA (aK aa0 hr (ah (af 0) (ah (af 1) (ah (c9 cJ B.b_len Ql (ah (af 3) ag)) ag)))) (ak 4 d));apply ao;exact(aA (au lj (au aL (au aL (af 4) ai) (aK aa0 hr (ah (af 0) (ah (au aL (af 1) ai) (ah (au fw (c9 cJ B.b_len Ql (ah (af 3) ag)) ai) ag))))) (c9 cJ B.b_len Ql (ah (af 3) ag))) (ak 5 d));apply ao;exact(aA (aK aa0 hr (ah (af 0) (ah (au aL (af 1) ai) (ah ai ag)))) (ak 6 d));apply ao;exact(aA (yY (ba (kZ (gY hr)) (aK aa0 hr (ah (af 0) (ah (au aL (af 1) ai) (ah ai ag)))) ai) bQ (au aL (af 6) (aK aa0 hr (ah (af 0) (ah (au aL (af 1) ai) (ah ai ag)))))) (ak 7 d));exact aq (ax (aO (ah (aF (af 3) (af 4)) (ah (aF (af 3) (af 5)) (ah (af 6) (ah (af 7) ag))))))))
abbrev qY:Stmt:=top 61
theorem rn (F:fV K mg "_law_clock" qY ["_law_script","_law_at"])(aa0:Cl P w K mg base 2 "_law_drawn" 3 aJ)(B:Bl mg):Cl P w K mg base 3 "_law_clock" 2 dh:=
 aN ["_law_script","_law_at","_law_slow","_law_readings","_law_k"] F λd f c A o s H E hr x=>(by(apply ao;exact(aA (au aL ai (aK aa0 hr (ah (af 0) (ah (af 1) (ah ai ag))))) (ak 2 d));apply ao;exact(aA (aO (ah (aK aa0 hr (ah (af 0) (ah (au aL (af 1) ai) (ah ai ag)))) ag)) (ak 3 d));apply ao;exact(bX rfl (cg B.b_range (ah (aK aa0 hr (ah (af 0) (ah (au aL (af 1) ai) (ah ai ag)))) ag)) (ak 4 d) (aq (aA (au aL (af 3) (aO (ah (au aL (au aL (aF (af 3) (mE ai)) ai) (aK aa0 hr (ah (af 0) (ah (au aL (au aL (af 1) ai) (af 4)) (ah ai ag))))) ag))) (ak 3 d))));exact aq (ax (aO (ah (af 2) (ah (au aL (af 2) (aK aa0 hr (ah (af 0) (ah (au aL (af 1) ai) (ah ai ag))))) (ah (af 3) ag)))))))
abbrev jG:Stmt:=top 64
abbrev jL:List Str:=["_law_script","_law_at","_law_most","_law_clocks","_law_letters","_law_k","_law_letter_here"]
theorem pP (F:fV K mg "_law_record" jG ["_law_script","_law_at","_law_most"])(aa0:Cl P w K mg base 2 "_law_drawn" 3 aJ)(aau:Cl P w K mg base 3 "_law_letter" 3 dI)(aaB:Cl P w K mg base 3 "_law_clock" 2 dh)(B:Bl mg):Cl P w K mg base 4 "_law_record" 3 f9:=
 aN jL F λd f c A o s H E hr x=>(by(apply ao;exact(aA (jt fI B.b_tuple bW (ah (cG ["_law_k","_law_script","_law_at"] jL jG (cg B.b_range (ah (au aL ai (aK aa0 hr (ah (af 0) (ah (af 1) (ah ai ag))))) ag)) (λd _ _ _ _ _=>⟨(ak 0 d),bY,(aK aaB hr (ah (af 1) (ah (au aL (au aL (af 2) ai) (au df ai (af 0))) ag)))⟩)) ag)) (ak 3 d));apply ao;exact(aA (cE ag) (ak 4 d));apply ao;exact(bX rfl (cg B.b_range (ah (aK aa0 hr (ah (af 0) (ah (au aL (af 1) ai) (ah (au aL (af 2) ai) ag)))) ag)) (ak 5 d) (ao (aA (aK aau hr (ah (af 0) (ah (au aL (au aL (af 1) ai) (au df ai (af 5))) (ah (af 3) ag)))) (ak 6 d)) (aq (aA (au aL (af 4) (au df (cE (ah (af 6) ag)) (jt yN B.b_int iw (ah (dB gR (af 6) bQ) ag)))) (ak 4 d)))));exact aq (ax (aO (ah (af 3) (ah (jt fI B.b_tuple bW (ah (af 4) ag)) ag))))))
abbrev lL:Stmt:=top 72
abbrev lX:List Str:=["_law_many","_law_found","_law_number"]
theorem uh (F:fV K mg "_law_sets" lL ["_law_many"])(B:Bl mg):Cl P w K mg base 1 "_law_sets" 1 gn:=
 aN lX F λd f c A o s H E hr x=>(by(apply ao;exact(aA (cE (ah (cE ag) ag)) (ak 1 d));apply ao;exact(bX rfl (cg B.b_range (ah (af 0) ag)) (ak 2 d) (aq (aA (au aL (af 1) (cG ["_law_row","_law_number"] lX lL (bc (af 1)) (λd _ _ _ _ _=>⟨(ak 0 d),bY,(au aL (af 0) (cE (ah (af 1) ag)))⟩))) (ak 1 d))));exact aq (ax (af 1))))
abbrev nC:Stmt:=top 71
abbrev nL:List Str:=["_law_record_here","_law_numbers","_law_some"]
theorem v9 (F:fV K mg "_law_has" nC ["_law_record_here","_law_numbers"])(aa8:Cl P w K mg base 1 "_law_table" 2 bO)(aa2:Cl P w K mg base 1 "_law_events" 1 bf)(aaa:Cl P w K mg base 1 "_law_bounds" 1 bV)(B:Bl mg):Cl P w K mg base 2 "_law_has" 2 gX:=
 aN nL F λd f c A o s H E hr x=>(ao (aA (aO (ah (aF (af 0) ai) (ah (jt fI B.b_tuple bW (ah (cG ["_law_number","_law_record_here"] nL nC (bc (af 1)) (λd _ _ _ _ _=>⟨(ak 0 d),bY,(aF (aF (af 1) ai) (af 0))⟩)) ag)) ag))) (ak 2 d)) (aq (ax (dB gR (aK aa8 hr (ah (aK aa2 hr (ah (aF (af 0) ai) ag)) (ah (aK aaa hr (ah (af 2) ag)) ag))) bQ))))
abbrev mL:Stmt:=top 70
theorem mT (F:fV K mg "_law_needless" mL ["_law_record_here"])(aa2:Cl P w K mg base 1 "_law_events" 1 bf)(aa8:Cl P w K mg base 1 "_law_table" 2 bO)(aaa:Cl P w K mg base 1 "_law_bounds" 1 bV)(B:Bl mg):Cl P w K mg base 2 "_law_needless" 1 de:=
 aN ["_law_record_here","_law_places","_law_whole","_law_found","_law_number","_law_rest"] F λd f c A o s H E hr x=>(by(apply ao;exact(aA (aK aa2 hr (ah (aF (af 0) ai) ag)) (ak 1 d));apply ao;exact(aA (aK aa8 hr (ah (af 1) (ah (aK aaa hr (ah (af 0) ag)) ag))) (ak 2 d));apply ao;exact(aA (cE ag) (ak 3 d));apply ao;exact(bX rfl (cg B.b_range (ah (c9 cJ B.b_len Ql (ah (aF (af 0) ai) ag)) ag)) (ak 4 d) (ao (aA (aO (ah (aF (af 0) ai) (ah (au aL (cS (aF (af 0) ai) cR (cQ (af 4))) (cS (aF (af 0) ai) (cQ (au aL (af 4) ai)) cR)) ag))) (ak 5 d)) (aq (aA (au aL (af 3) (au df (cE (ah (af 4) ag)) (jt yN B.b_int iw (ah (dB (CY (gY hr)) (aK aa8 hr (ah (af 1) (ah (aK aaa hr (ah (af 5) ag)) ag))) (af 2)) ag)))) (ak 3 d)))));exact aq (ax (af 3))))
abbrev cT:Stmt:=top 74
abbrev cU:List Str:=["_law_script","_law_record_here","_law_places","_law_row","_law_table_here","_law_many","_law_good","_law_most","_law_alone","_law_odd","_law_told_here","_law_number","_law_left"]
theorem pO (F:fV K mg "_law_stands" cT ["_law_script"])(aaC:Cl P w K mg base 2 "_law_small" 1 gF)(aa2:Cl P w K mg base 1 "_law_events" 1 bf)(aaa:Cl P w K mg base 1 "_law_bounds" 1 bV)(aa8:Cl P w K mg base 1 "_law_table" 2 bO)(aav:Cl P w K mg base 4 "_law_record" 3 f9)(aa5:Cl P w K mg base 16 "_law_told" 3 aY)(aa0:Cl P w K mg base 2 "_law_drawn" 3 aJ)(aaJ:Cl P w K mg base 1 "_law_sets" 1 gn)(aaO:Cl P w K mg base 2 "_law_has" 2 gX)(aah:Cl P w K mg base 2 "_law_needless" 1 de)(B:Bl mg):Cl P w K mg base 17 "_law_stands" 1 fZ:=
 aN cU F λd f c A o s H E hr x=>(by(apply ao;exact(aA (aK aaC hr (ah (aK aav hr (ah (af 0) (ah ai (ah ai ag)))) ag)) (ak 1 d));apply ao;exact(aA (aO (ah (aF (af 1) ai) (ah (cS (aF (af 1) ai) cR (cQ ai)) ag))) (ak 1 d));apply ao;exact(aA (aK aa2 hr (ah (aF (af 1) ai) ag)) (ak 2 d));apply ao;exact(aA (aK aaa hr (ah (af 1) ag)) (ak 3 d));apply ao;exact(aA (aK aa8 hr (ah (af 2) (ah (af 3) ag))) (ak 4 d));apply ao;exact(aA (c9 cJ B.b_len Ql (ah (aF (af 1) ai) ag)) (ak 5 d));apply ao;exact(aA (cG ["_law_numbers","_law_record_here"] cU cT (bc (aK aaJ hr (ah (af 5) ag))) (λd _ _ _ _ _=>⟨(ak 0 d),(fq (cY (aK aaO hr (ah (af 1) (ah (af 0) ag))))),(af 0)⟩)) (ak 6 d));apply ao;exact(aA (c9 (Kr rfl) B.b_max boot_max (ah (cG ["_law_numbers"] cU cT (bc (af 6)) (λd _ _ _ _ _=>⟨(ak 0 d),bY,(c9 cJ B.b_len Ql (ah (af 0) ag))⟩)) ag)) (ak 7 d));apply ao;exact(cb (ba (kY (gY hr)) (aK aa5 hr (ah ai (ah (af 1) (ah bQ ag)))) (c9 (GX rfl (gY hr)) B.b_min boot_min (ah (cG ["_law_numbers","_law_most"] cU cT (bc (af 6)) (λd _ _ _ _ _=>⟨(ak 0 d),(fq (ba (kZ (gY hr)) (c9 cJ B.b_len Ql (ah (af 0) ag)) (af 1))),(af 0)⟩)) ag))) (aq (ax iM)) bz);apply ao;exact(BN 8 (N':=["_law_number","_law_many","_law_good"]) (src:=[none,some 5,some 6]) rfl (LcScope.by (N:=cU) (names:=(az cT).names) rfl rfl rfl (by decide+kernel)) (cg B.b_range (ah (af 5) ag)) (λ_ _ _ _ _=>⟨(ak 0 (show RO (["_law_number","_law_many","_law_good"]:List Str)by decide+kernel)),(fq (ba (vV (Bb hr)) (Hf (N':=["_law_one","_law_number"]) (src:=[none,some 0]) rfl (LcScope.byN (N:=["_law_number","_law_many","_law_good"]) rfl rfl (by decide+kernel) rfl) (cg B.b_range (ah (af 1) ag)) (λ_ _ _ _ _=>⟨(ak 0 (show RO (["_law_one","_law_number"]:List Str)by decide+kernel)),(fq (ba (kY (gY hr)) (af 0) (af 1))),(af 0)⟩)) (af 2))),(af 0)⟩) d);apply ao;exact(cb (ba (kY (gY hr)) (aK aa5 hr (ah ai (ah (af 1) (ah bQ ag)))) (yY (ba nH (af 4) bQ) (af 8) (cE ag))) (aq (ax iM)) bz);apply ao;exact(aA (aF (cE (ah (mE ai) (ah (c9 cJ B.b_len Ql (ah (af 3) ag)) (ah iM (ah bQ (ah sT ag)))))) (aK aa0 hr (ah (af 0) (ah ai (ah ai ag))))) (ak 9 d));apply ao;exact(cb (ba (kY (gY hr)) (aK aa5 hr (ah ai (ah (af 1) (ah (af 9) ag)))) (aO (ah sT (ah ai ag)))) (aq (ax iM)) bz);apply ao;exact(cb (ba (kY (gY hr)) (cG ["_law_ask","_law_record_here","_law_odd"] cU cT (cg B.b_range (ah ai ag)) (λd _ _ _ _ _=>⟨(ak 0 d),bY,(aK aa5 hr (ah (af 0) (ah (cS (af 1) cR (cQ ai)) (ah (af 2) ag))))⟩)) (au df (cE (ah (aO (ah sT (ah ai ag))) ag)) ai)) (aq (ax iM)) bz);apply ao;exact(cb (ba nH (af 4) bQ) (ao (aA (au aL (cG ["_law_ask","_law_record_here"] cU cT (bc (aO (ah ai (ah ai ag)))) (λd _ _ _ _ _=>⟨(ak 0 d),bY,(aK aa5 hr (ah (af 0) (ah (af 1) (ah ai ag))))⟩)) (au df (cE (ah (aK aa5 hr (ah ai (ah (af 1) (ah ai ag)))) ag)) (jt yN B.b_int iw (ah (dB (kY (gY hr)) (af 3) (cE ag)) ag)))) (ak 10 d)) (aq (ax (dB (kZ (gY hr)) (af 10) (au df (cE (ah (aO (ah sT (ah ai ag))) ag)) (c9 cJ B.b_len Ql (ah (af 10) ag))))))) bz);apply ao;exact(bX rfl (cg B.b_range (ah (c9 cJ B.b_len Ql (ah (af 3) ag)) ag)) (ak 11 d) (aq (cb (ba (kY (gY hr)) (aK aa5 hr (ah ai (ah (af 1) (ah (af 11) ag)))) (dB (CY (gY hr)) (aK aa8 hr (ah (af 2) (ah (au aL (cS (af 3) cR (cQ (af 11))) (cS (af 3) (cQ (au aL (af 11) ai)) cR)) ag))) (af 4))) (aq (ax iM)) bz)));apply ao;exact(aA (af 1) (ak 12 d));apply ao;exact(bX rfl (bc (H0 (rG rfl B.b_list B.b_range (ah (af 5) ag)))) (ak 11 d) (aq (cb (ba (vV (Bb hr)) (af 11) (aK aah hr (ah (af 12) ag))) (aq (aA (aO (ah (aF (af 12) ai) (ah (au aL (cS (aF (af 12) ai) cR (cQ (af 11))) (cS (aF (af 12) ai) (cQ (au aL (af 11) ai)) cR)) ag))) (ak 12 d))) bz)));exact aq (ax (dC (dB (kZ (gY hr)) (aK aa5 hr (ah ai (ah (af 1) (ah bQ ag)))) (aK aah hr (ah (af 1) ag))) (dJ (dB (kZ (gY hr)) (aK aa5 hr (ah ai (ah (af 1) (ah bQ ag)))) (af 12)))))))
abbrev B6:Stmt:=top 75
abbrev JC:List Str:=["_law_script"]
theorem Iy:dj JC ["_law_script"] (az B6):=fsc
theorem Jx {f:Addr}{fd:PV}(aaU:Fn K mg "law" B6 ["_law_script"] f fd)(aam:Cl P w K mg base 17 "_law_known_one" 0 dw)(aaw:Cl P w K mg base 17 "_law_stands" 1 fZ):BK P w K mg base 18 f fd ["_law_script"] 1 m_law:=
 sU aaU.fn Iy rfl λc _ A o s H E hr x=>(aq (ax (dC (KP aam hr) (dJ (aK aaw hr (ah (af 0) ag))))))
end
theorem all_ok {l:PySem.W.OpenLaw}{w:Px}{K:N6}{h:Heap}{mg:Str->Option Oa}{fa:Addr}(X:K.In h)(e:pU asks K=nT asks top)(Lm:∃f c P,LmK K f c P)(bm:Kx K=true)(G:h.Ns OL mg)(hfa:mg "law" =some (.ref fa)) :
  ∃fd:PV,(∀(s:Od) (v:Oa),Vp s fd ⟨[v],[]⟩ [("_law_script",v)])/\∀base:Heap,K.In base->base.Ns OL mg->rB l.prog w K mg base CX0 18 fa fd ["_law_script"] (spP K 1 m_law):=by
 have B:Bl mg:=⟨fD 0 X G e rfl,fD 1 X G e rfl,fD 2 X G e rfl,fD 3 X G e rfl,fD 4 X G e rfl,fD 5 X G e rfl,fD 6 X G e rfl,fD 7 X G e rfl,fD 8 X G e rfl,fD 9 X G e rfl,fD 10 X G e rfl,fD 11 X G e rfl,fD 12 X G e rfl,fD 13 X G e rfl⟩
 have C:Cs mg:=⟨sd 0 X G e rfl,sd 1 X G e rfl,sd 2 X G e rfl,sd 3 X G e rfl,sd 4 X G e rfl,sd 5 X G e rfl⟩;obtain⟨C_ClockError,ls,xD,xl,nd⟩:=Jy (L9 e);obtain⟨C_NoRecord,ls0,x_NoRecord,rfl,xl0⟩:=gJ xl;obtain⟨C_NoEvent,ls1,x_NoEvent,rfl,xl1⟩:=gJ xl0;obtain⟨C_NoNumber,ls2,x_NoNumber,rfl,xl2⟩:=gJ xl1;obtain⟨C_NoWorld,ls3,x_NoWorld,rfl,xl3⟩:=gJ xl2;obtain⟨C_Barred,ls4,x_Barred,rfl,xl4⟩:=gJ xl3;obtain⟨C_Nothing,ls5,x_Nothing,rfl,xl5⟩:=gJ xl4
 cases EF xl5
 have S:Xs K mg C_NoRecord C_NoEvent C_NoNumber C_NoWorld C_Barred C_Nothing C_ClockError:=⟨RJ X G (iz x_NoRecord).1,RJ X G (iz x_NoEvent).1,RJ X G (iz x_NoNumber).1,RJ X G (iz x_NoWorld).1,RJ X G (iz x_Barred).1,RJ X G (iz x_Nothing).1,RJ X G (iz xD).1,KJ x_NoRecord xD,KJ x_NoEvent xD,KJ x_NoNumber xD,KJ x_NoWorld xD,KJ x_Barred xD,KJ x_Nothing xD,ox0 xD,nd⟩
 obtain⟨fd53,aaU,bnd⟩:=L6 (n:="law") (i:=75) (x:="_law_script") 53 X G e rfl hfa λ_ _ _ _ _ _ _=>rfl
 obtain⟨f54,fd54,aap⟩:=L8 (n:="_law_refused") (i:=68) (ps:=["_law_e"]) 54 X G e rfl λ_ _ _ _ _ _ us hl=>HE (λ_=>rfl) us hl
 refine⟨fd53,bnd,λbase Xb _=> ?_⟩
 have LX:=Gn Lm bm X G Xb
 have aa3:=ye l.prog w base (cy 0 X G e) B
 have aaK:=vX l.prog w base (cy 1 X G e) B
 have aa1:=ub l.prog w base (cy 2 X G e) aaK
 have aaP:=ya l.prog w base (cy 3 X G e) aa1 C
 have aaS:=C4 l.prog w base (cy 4 X G e) B
 have aaq:=nX l.prog w base (cy 5 X G e) aa3 aaS aa1 B C
 have aaL:=v5 l.prog w base (cy 6 X G e) aa3 aaP aaq
 have aaz:=ri l.prog w base (cy 7 X G e) aa3 aaL B C
 have aax:=vY l.prog w base (cy 8 X G e) aa1 aa3 B
 have aaM:=vZ l.prog w base (cy 9 X G e) aa1 C
 have aaE:=ud l.prog w base (cy 10 X G e) aax aa3 aaM
 have aar:=pL l.prog w base (cy 11 X G e) aa3 aaE B C
 have aaF:=uc l.prog w base (cy 12 X G e) aa3 aaz aar
 have aab:=pI l.prog w base (cy 13 X G e) aaF S
 have aak:=lq l.prog w base (cy 14 X G e) B
 have aai:=kO l.prog w base (cy 15 X G e)
 have aag:=AO l.prog w base (cy 16 X G e) aab aak aai B
 have aas:=pJ l.prog w base (cy 17 X G e) aa1 S
 have aae:=AN l.prog w base (cy 18 X G e) aab B
 have aaG:=ue l.prog w base (cy 19 X G e)
 have aaf:=AM l.prog w base (cy 20 X G e) aaG B
 have aal:=lT l.prog w base (cy 21 X G e) aae aaf B
 have aaT:=C2 l.prog w base (cy 22 X G e) aal aag
 have aa4:=uf l.prog w base (cy 23 X G e) aaT
 have aa7:=rh l.prog w base (cy 24 X G e) aa4 S
 have aat:=pK l.prog w base (cy 25 X G e) aag aas aa7 aaf B
 have aa6:=pM l.prog w base (cy 26 X G e) B
 have aaA:=rg l.prog w base (cy 27 X G e) aaf aag
 have aaQ:=x9 l.prog w base (cy 28 X G e)
 have aay:=v8 l.prog w base (cy 29 X G e) aa7 aae aaA aaQ B
 have aac:=pH l.prog w base (cy 30 X G e) aae aay aa4
 have aa9:=t9 l.prog w base (cy 31 X G e) B
 have aad:=x6 l.prog w base (cy 32 X G e)
 have aaj:=kN l.prog w base (cy 33 X G e) aa7 aa6 aac aa9 aad
 have aao:=mS l.prog w base (cy 34 X G e) aa7 aa9 aac aad aa6 B
 have aaR:=x8 l.prog w base (cy 35 X G e)
 have aaH:=ua l.prog w base (cy 36 X G e) aab aaR aa4 aa6 aa9 B LX
 have aaN:=v7 l.prog w base (cy 37 X G e) aa4 aa6 aa9 aad
 have aa5:=ug l.prog w base (cy 38 X G e) aat aaj aao aaH aaN B S aap
 have aam:=lU l.prog w base (cy 39 X G e) aa5
 have aa2:=pR l.prog w base (cy 40 X G e) B
 have aaC:=rk l.prog w base (cy 41 X G e) aa2 B
 have aaa:=pT l.prog w base (cy 42 X G e) B
 have aa8:=rj l.prog w base (cy 43 X G e) B
 have aaI:=ui l.prog w base (cy 44 X G e) B
 have aa0:=rl l.prog w base (cy 45 X G e) aaI
 have aau:=pQ l.prog w base (cy 46 X G e) aa2 aa0 B
 have aaB:=rn l.prog w base (cy 47 X G e) aa0 B
 have aav:=pP l.prog w base (cy 48 X G e) aa0 aau aaB B
 have aaJ:=uh l.prog w base (cy 49 X G e) B
 have aaO:=v9 l.prog w base (cy 50 X G e) aa8 aa2 aaa B
 have aah:=mT l.prog w base (cy 51 X G e) aa2 aa8 aaa B
 have aaw:=pO l.prog w base (cy 52 X G e) aaC aa2 aaa aa8 aav aa5 aa0 aaJ aaO aah B;exact(Jx l.prog w base aaU aam aaw).h
end G
namespace Tr
open PySem
abbrev RR (cs ls:List T):T:=.tup [.tup cs,.tup ls]
mutual
def T.pl:T->Bool
 | .scr _=>false
 | .dct _ _=>false
 | .tup l=>plS l
 | .lst l=>plS l
 | _=>true
def plS:List T->Bool
 | [] =>true
 | t::l=>t.pl&&plS l
end
theorem lS:∀{l:List T} {t:T},plS l=true->t∈l->t.pl=true
 | [],_,_,h=>by cases h
 | u::l,t,h,m=>by
  unfold plS at h;rw[N9]at h;rcases Og.mp m with rfl | m
  ·exact h.1
  ·exact lS h.2 m
mutual
theorem T.KB:∀(t:T),t.pl=true->t.nd=true
 | .non,_=>rfl
 | .bl _,_=>rfl
 | .int _,_=>rfl
 | .str _,_=>rfl
 | .scr _,h=>by cases h
 | .dct _ _,h=>by cases h
 | .tup l,h=>by unfold T.pl at h;unfold T.nd;exact plS_nds l h
 | .lst l,h=>by unfold T.pl at h;unfold T.nd;exact plS_nds l h
theorem plS_nds:∀(l:List T),plS l=true->nds l=true
 | [],_=>rfl
 | t::l,h=>by
  unfold plS at h;rw[N9]at h;unfold nds;rw[T.KB t h.1,plS_nds l h.2];rfl
end
theorem yw {fe:En->Rs T}{h:T->T}:∀(ts:List T) (Z:En),0<Z.length->(∀t∈ts,fe (Z.set 0 (.va t))= .ok (h t))->eE (gN 0) bT fe ts Z= .ok (ts.map h)
 | [],_,_,_=>rfl
 | t::r,Z,hl,hf=>by
  unfold eE
  have e1:gN 0 t Z= .ok (Z.set 0 (.va t)):=by unfold gN;rw[if_pos hl]
  have ih:=yw r (Z.set 0 (.va t)) (by rw[P5];exact hl) (λu hu=>by rw[Wx];exact hf u (N8 _ hu))
  simp only[e1,aH,bT,if_true,hf t Oe,ih,Oc]
theorem r6 {fc:En->Rs Bool}{fe:En->Rs T}{p:T->Bool}{h:T->T}:∀(ts:List T) (Z:En),0<Z.length->(∀t∈ts,fc (Z.set 0 (.va t))= .ok (p t)/\(p t=true->fe (Z.set 0 (.va t))= .ok (h t)))->eE (gN 0) fc fe ts Z= .ok ((ts.filter p).map h)
 | [],_,_,_=>rfl
 | t::r,Z,hl,hf=>by
  unfold eE
  have e1:gN 0 t Z= .ok (Z.set 0 (.va t)):=by unfold gN;rw[if_pos hl]
  have ih:=r6 r (Z.set 0 (.va t)) (by rw[P5];exact hl) (λu hu=>by rw[Wx];exact hf u (N8 _ hu))
  obtain⟨h1,h2⟩:=hf t Oe;simp only[e1,aH,h1]
  cases q:p t with
  | true=>simp only[if_true,h2 q,aH,ih,SW,q,Oc]
  | false=>simp only[Qe,if_false,ih,SW,q]
theorem sH (p:T->Bool):∀l:List T,qK (l.map λt=>T.bl (p t))=some (l.map p)
 | [] =>rfl
 | t::l=>by rw[Oc,qK,sH p l];rfl
theorem all_map (p:T->Bool)(l:List T):rA [.lst (l.map λt=>T.bl (p t))] = .ok (.bl (l.all p)):=by
 simp only[rA,sH,Ws]
 rfl
theorem jY {α:Type}{l:List α}{k:Nat}{t:α}(h:l[k]? =some t):L2.atI l (k:Int)=some t:=by
 have hk:k<l.length:=(Oi.mp h).1
 unfold L2.atI L2.ixN;rw[if_pos (by omega),if_pos (by omega),PC]
 exact h
theorem aB {n k:Nat}(h:n<=k)(hk:autoParam (k<=1000) s_):n<=sizeLine:=by unfold sizeLine;omega
section
variable {f fa fb fc:En->Rs T}{fs:En->Rs (List T)}{b c:En->Rs Bool}{F G:En->Rs Fl}{Z Z' Z1 Z2:En}{t u r:T}{ts l m:List T}
theorem ay {g:T->T->Rs T}{x:Rs T}(ha:fa Z= .ok t)(hb:fb Z= .ok u)(hg:g t u=x):o2 g fa fb Z=x:=by unfold o2;rw[ha,hb];exact hg
theorem L4 {g:T->T->Rs T}{c:Str}(ha:fa Z= .err c):o2 g fa fb Z= .err c:=by unfold o2;rw[ha];rfl
theorem Gs {g:T->Rs T}{x:Rs T}(ha:fa Z= .ok t)(hg:g t=x):o1 g fa Z=x:=by unfold o1;rw[ha];exact hg
theorem L3 {g:T->T->Rs T}{x:Rs T}{ks vs:List T}(ha:fa Z= .ok (.dct ks vs))(hb:fb Z= .ok u)(hg:g (.dct ks vs) u=x):oD g fa fb Z=x:=by unfold oD;rw[ha];show(fb Z >>= g (.dct ks vs))=_;rw[hb];exact hg
theorem k_oL {g:T->T->Rs T}{x:Rs T}{ks:List T}(ha:fa Z= .ok (.lst ks))(hb:fb Z= .ok u)(hg:g (.lst ks) u=x):oL g fa fb Z=x:=by unfold oL;rw[ha];show(fb Z >>= g (.lst ks))=_;rw[hb];exact hg
theorem ar (h:f Z= .ok t)(hs:fs Z= .ok ts):ae f fs Z= .ok (t::ts):=by unfold ae;rw[h,hs];rfl
theorem Gw {c:Str}(h:f Z= .err c):ae f fs Z= .err c:=by unfold ae;rw[h];rfl
theorem aE {g:List T->Rs T}{x:Rs T}(h:fs Z= .ok ts)(hg:g ts=x):cl g fs Z=x:=by unfold cl;rw[h];exact hg
theorem Mb {g:List T->Rs T}{c:Str}(h:fs Z= .err c):cl g fs Z= .err c:=by unfold cl;rw[h];rfl
theorem bx {k:Bool}(h:f Z= .ok (.bl k)):tb f Z= .ok k:=by unfold tb;rw[h];rfl
theorem HH {c:Str}(h:f Z= .err c):tb f Z= .err c:=by unfold tb;rw[h];rfl
theorem dX {k:Bool}(h:b Z= .ok k):fO b Z= .ok (!k):=by unfold fO;rw[h];rfl
theorem J0 {c:Str}(h:b Z= .err c):fO b Z= .err c:=by unfold fO;rw[h];rfl
theorem wI (h:b Z= .ok true):vW b c Z= .ok true:=by unfold vW;rw[h];rfl
theorem l6 {x:Rs Bool}(h:b Z= .ok false)(h2:c Z=x):vW b c Z=x:=by unfold vW;rw[h];exact h2
theorem DL (h:b Z= .ok false):qO b c Z= .ok false:=by unfold qO;rw[h];rfl
theorem yB {x:Rs Bool}(h:b Z= .ok true)(h2:c Z=x):qO b c Z=x:=by unfold qO;rw[h];exact h2
theorem jg (h:fa Z= .ok (.bl true)):dO fa fb Z=fb Z:=by unfold dO;rw[h];rfl
theorem l9 (h:fa Z= .ok (.bl false)):dO fa fb Z= .ok (.bl false):=by unfold dO;rw[h];rfl
theorem l8 {p q:Bool}(h:fa Z= .ok (.bl p))(h2:p=true->fb Z= .ok (.bl q)):dO fa fb Z= .ok (.bl (p&&q)):=by
 cases p with
 | true=>rw[jg h,h2 rfl];rfl
 | false=>rw[l9 h];rfl
theorem DD (h:fa Z= .ok (.bl true)):F7 fa fb Z= .ok (.bl true):=by unfold F7;rw[h];rfl
theorem DE (h:fa Z= .ok (.bl false)):F7 fa fb Z=fb Z:=by unfold F7;rw[h];rfl
theorem JZ {p q:Bool}(h:fa Z= .ok (.bl p))(h2:p=false->fb Z= .ok (.bl q)):F7 fa fb Z= .ok (.bl (p||q)):=by
 cases p with
 | true=>rw[DD h];rfl
 | false=>rw[DE h,h2 rfl];rfl
theorem DF {k:Bool}(h:fa Z= .ok (.bl k)):o1 um fa Z= .ok (.bl (!k)):=Gs h rfl
theorem wJ {p:Bool}(h:b Z= .ok p):DS b fa fb Z=if p then fa Z else fb Z:=by unfold DS;rw[h];rfl
theorem bM {g:T->En->Rs En}(h:f Z= .ok t)(hg:g t Z= .ok Z'):cI f g Z= .ok (.nx Z'):=by unfold cI;rw[h];show(match g t Z with | .ok Z'=>Rs.ok (Fl.nx Z') | _=> .bad)=_;rw[hg]
theorem Mc {g:T->En->Rs En}{c:Str}(h:f Z= .err c):cI f g Z= .err c:=by unfold cI;rw[h];rfl
theorem aw (h:F Z= .ok (.nx Z')):aD F G Z=G Z':=by unfold aD;rw[h];rfl
theorem fB (h:F Z= .ok (.rt t)):aD F G Z= .ok (.rt t):=by unfold aD;rw[h];rfl
theorem DA (h:F Z= .ok (.ct Z')):aD F G Z= .ok (.ct Z'):=by unfold aD;rw[h];rfl
theorem jf {c:Str}(h:F Z= .err c):aD F G Z= .err c:=by unfold aD;rw[h];rfl
theorem dA (h:b Z= .ok true):gD b F G Z=F Z:=by unfold gD;rw[h];rfl
theorem dt (h:b Z= .ok false):gD b F G Z=G Z:=by unfold gD;rw[h];rfl
theorem DH {c:Str}(h:b Z= .err c):gD b F G Z= .err c:=by unfold gD;rw[h];rfl
theorem bB (h:f Z= .ok t):aW f Z= .ok (.rt t):=by unfold aW;rw[h];rfl
theorem uC {c:Str}(h:f Z= .err c):aW f Z= .err c:=by unfold aW;rw[h];rfl
theorem uF (h:f Z= .ok t):xS f Z= .ok (.nx Z):=by unfold xS;rw[h];rfl
theorem se {c:Str}(h:f Z= .err c):xS f Z= .err c:=by unfold xS;rw[h];rfl
theorem fT {fi:En->Rs (List T)}{g:T->En->Rs En}{x:Fl}(h:fi Z= .ok ts)(h2:bD g F ts Z= .ok x):d7 fi g F Z= .ok x:=by unfold d7;rw[h];show(match bD g F ts Z with | .ok f=>Rs.ok f | _=> .bad)=_;rw[h2]
theorem dM {g:T->En->Rs En}(h:g t Z= .ok Z1)(h2:F Z1= .ok (.nx Z2)):bD g F (t::ts) Z=bD g F ts Z2:=by rw[bD,h];show(F Z1 >>= _)=_;rw[h2];rfl
theorem Gv {g:T->En->Rs En}(h:g t Z= .ok Z1)(h2:F Z1= .ok (.ct Z2)):bD g F (t::ts) Z=bD g F ts Z2:=by rw[bD,h];show(F Z1 >>= _)=_;rw[h2];rfl
theorem Gu {g:T->En->Rs En}(h:g t Z= .ok Z1)(h2:F Z1= .ok (.rt r)):bD g F (t::ts) Z= .ok (.rt r):=by rw[bD,h];show(F Z1 >>= _)=_;rw[h2];rfl
theorem wC {n:Nat}(h:c Z= .ok false):cf c F (n+1) Z= .ok (.nx Z):=by unfold cf;rw[h]
theorem qv {n:Nat}(h:c Z= .ok true)(h2:F Z= .ok (.nx Z')):cf c F (n+1) Z=cf c F n Z':=by rw[cf,h];simp only[h2]
theorem Dy {n:Nat}(h:c Z= .ok true)(h2:F Z= .ok (.rt t)):cf c F (n+1) Z= .ok (.rt t):=by rw[cf,h];simp only[h2]
theorem aZ {n m:Nat}(hl:ts.length=n)(h:F (bZ m ts)= .ok (.rt t)):val n m F ts= .ok t:=by unfold val;rw[if_pos hl];unfold fo;rw[h];rfl
theorem fA {n m:Nat}{c:Str}(hl:ts.length=n)(h:F (bZ m ts)= .err c):val n m F ts= .err c:=by unfold val;rw[if_pos hl];unfold fo;rw[h];rfl
theorem yz {n m:Nat}(hl:ts.length=n)(h:F (bZ m ts)= .ok (.nx Z)):val n m F ts= .ok .non:=by unfold val;rw[if_pos hl];unfold fo;rw[h];rfl
theorem HG {h:Str->Rs T}{k:Fl}(e:F Z= .ok k):vF F h Z= .ok k:=by unfold vF;rw[e]
theorem Dz {h:Str->Rs T}{c:Str}(e:F Z= .err c)(e2:h c= .ok t):vF F h Z= .ok (.rt t):=by unfold vF;rw[e];simp only[e2]
theorem m6 {fi:En->Rs (List T)}{src:List (Option Nat)}{fe:En->Rs T}{h:T->T}(hi:fi Z= .ok ts)(hs:ts.length<=sizeLine)(hn:0<src.length)(hf:∀t∈ts,fe ((bU src Z).set 0 (.va t))= .ok (h t)) :
  d6 fi src (gN 0) bT fe Z= .ok (.lst (ts.map h)):=by
 have e:=yw (fe:=fe) (h:=h) ts (bU src Z) (by unfold bU;rw[Ob];exact hn) hf
 unfold d6;rw[hi,aH,if_pos hs,e]
theorem l7 {fi:En->Rs (List T)}{src:List (Option Nat)}{fc:En->Rs Bool}{fe:En->Rs T}{p:T->Bool}{h:T->T}(hi:fi Z= .ok ts)(hs:ts.length<=sizeLine)(hn:0<src.length)
  (hf:∀t∈ts,fc ((bU src Z).set 0 (.va t))= .ok (p t)/\(p t=true->fe ((bU src Z).set 0 (.va t))= .ok (h t))):d6 fi src (gN 0) fc fe Z= .ok (.lst ((ts.filter p).map h)):=by
 have e:=r6 (fc:=fc) (fe:=fe) (p:=p) (h:=h) ts (bU src Z) (by unfold bU;rw[Ob];exact hn) hf
 unfold d6;rw[hi,aH,if_pos hs,e]
theorem dy (h:fs Z= .ok ts)(hl:ts.length<=sizeLine):aP fs Z= .ok (.tup ts):=by unfold aP;rw[h];show k6 ts=_;unfold k6;rw[if_pos hl]
theorem jR (h:fs Z= .ok ts)(hl:ts.length<=sizeLine):dz fs Z= .ok (.lst ts):=by unfold dz;rw[h];show k7 ts=_;unfold k7;rw[if_pos hl]
theorem DG {f:En->Rs (List T)}{i:Nat}(h:f Z= .ok l)(hi:i<Z.length)(hl:l.length<=1000):jx i f Z= .ok (.nx (Z.set i (.ow (.lst l)))):=by
 unfold jx;rw[h,aH,if_pos ⟨hi,aB hl (by omega)⟩]
theorem uD {i:Nat}(hi:i<Z.length):jx i aj Z= .ok (.nx (Z.set i (.ow (.lst [])))):=DG rfl hi (Pj _)
theorem nP {i:Nat}(h:f Z= .ok t)(hi:Z[i]? =some (.ow (.lst l)))(hl:l.length<=1000):iQ i f Z= .ok (.nx (Z.set i (.ow (.lst (l++ [t]))))):=by
 unfold iQ;rw[hi];simp only[h,aH];rw[if_pos (by unfold sizeLine;omega)]
theorem DI {i:Nat}(h:f Z= .ok (.lst m))(hi:Z[i]? =some (.ow (.lst l)))(hl:l.length+m.length<=1000):pw i f Z= .ok (.nx (Z.set i (.ow (.lst (l++m))))):=by
 unfold pw;rw[hi];simp only[h,aH,Kf];rw[if_pos (by unfold sizeLine;omega)]
theorem J2 (h:f Z= .ok (.tup l)):iS f Z= .ok l:=by unfold iS;rw[h];rfl
theorem iq (h:f Z= .ok (.lst l)):iS f Z= .ok l:=by unfold iS;rw[h];rfl
theorem L7 (h:fs Z= .ok [.lst l]):iE fs Z= .ok (dN 0 l):=by unfold iE;rw[h];rfl
theorem gq {n:Nat}(e:l[n]? =some t):aU (.tup l) (.int (n:Int))= .ok t:=by show(match L2.atI l _ with | some t=>Rs.ok t | none=> .bad)=_;rw[jY e]
theorem yA {n:Nat}(e:l[n]? =some t):aU (.lst l) (.int (n:Int))= .ok t:=by show(match L2.atI l _ with | some t=>Rs.ok t | none=> .bad)=_;rw[jY e]
theorem rq {n:Nat}(h:fa Z= .ok (.tup l))(h2:fb Z= .ok (.int (n:Int)))(e:l[n]? =some t):o2 aU fa fb Z= .ok t:=ay h h2 (gq e)
theorem HI {n:Nat}(h:fa Z= .ok (.lst l))(h2:fb Z= .ok (.int (n:Int)))(e:l[n]? =some t):o2 aU fa fb Z= .ok t:=ay h h2 (yA e)
theorem wH {fe:En->Rs T}{fl fu:En->Rs (Option Int)}{lo hi:Option Int}(h:fe Z= .ok (.tup l))(h1:fl Z= .ok lo)(h2:fu Z= .ok hi):sl fe fl fu Z= .ok (.tup (og l lo hi)):=by
 unfold sl;rw[h,h1,h2];rfl
theorem wG {fe:En->Rs T}{fl fu:En->Rs (Option Int)}{lo hi:Option Int}(h:fe Z= .ok (.lst l))(h1:fl Z= .ok lo)(h2:fu Z= .ok hi):sl fe fl fu Z= .ok (.lst (og l lo hi)):=by
 unfold sl;rw[h,h1,h2];rfl
theorem qw {i:Int}(h:f Z= .ok (.int i)):pS f Z= .ok (some i):=by unfold pS;rw[h];rfl
theorem fH (l:List T)(n:Nat):og l none (some (n:Int))=l.take n:=by
 unfold og;rw[HT.sIx_none,HT.sIx_nat,List.drop_zero,SK,List.take_eq_take_iff];omega
theorem mr (l:List T)(n:Nat):og l (some (n:Int)) none=l.drop n:=by
 unfold og;rw[HT.sIx_none,HT.sIx_nat]
 by_cases h:n<=l.length
 ·rw[Nat.min_eq_left h]
  exact Su (by rw[QK];omega)
 ·rw[Nat.min_eq_right (by omega),Q1 (Ot _),Q1 (by omega),List.take_nil]
theorem DB {ms:List (List T->Rs T)}{i:Nat}{g:List T->Rs T}{x:Rs T}(h0:f Z= .ok (.int (i:Nat)))(hm:ms[i]? =some g)(hf:fs Z= .ok ts)(hx:g ts=x):AD ms f fs Z=x:=by
 unfold AD;rw[h0,aH];simp only[jY hm];rw[hf];exact hx
theorem J1 {i:Nat}{o:OT}(hi:Z[i]? =some (.ow o))(h:f (disown i Z)= .ok t)(hk:t.nk o.isD=true):ln i f Z= .ok t:=by
 unfold ln;rw[hi];simp only[h,aH,hk,if_true]
theorem L5 {i:Nat}{k:Bool}(h:b (disown i Z)= .ok k):JN i b Z= .ok k:=h
theorem DJ {i:Nat}{x:Rs Fl}(h:F (disown i Z)=x):nV i F Z=x:=h
end
theorem mk2 (a b:T):k6 [a,b] = .ok (.tup [a,b]):=by unfold k6;rw[if_pos (aB (k:=1000) (by simp only[Oj,UI];omega))]
theorem lO (n:Nat):(rng 0 n).length=n:=by unfold rng;rw[Ob,OU];omega
end Tr
namespace Gr
variable {ν:Type}[DecidableEq ν]
abbrev bS (ν:Type):=List (ν×ν×Int)
inductive Wk (L:bS ν):ν->ν->Int->Prop
 | nil (a:ν):Wk L a a 0
 | step {a b c:ν} {m s:Int}:(a,b,m)∈L->Wk L b c s->Wk L a c (m+s)
theorem Wk.one {L:bS ν}{a b:ν}{m:Int}(h:(a,b,m)∈L):Wk L a b m:=by
 have:=Wk.step h (Wk.nil b)
 rwa [Int.add_zero]at this
theorem Wk.app {L:bS ν}{a b c:ν}{s t:Int}(h:Wk L a b s)(k:Wk L b c t):Wk L a c (s+t):=by
 induction h with
 | nil a=>rwa [Int.zero_add]
 | step e _ ih=>rw[Int.add_assoc];exact .step e (ih k)
theorem Wk.mono {L M:bS ν}(h:∀x∈L,x∈M){a b:ν}{s:Int}(w:Wk L a b s):Wk M a b s:=by
 induction w with
 | nil a=>exact .nil a
 | step e _ ih=>exact .step (h _ e) ih
def Holds (L:bS ν)(t:ν->Int):Prop:=∀a b m,(a,b,m)∈L->t b - t a<=m
theorem Holds.walk {L:bS ν}{t:ν->Int}(h:Holds L t){a b:ν}{s:Int}(w:Wk L a b s):t b - t a<=s:=by
 induction w with
 | nil a=>omega
 | step e _ ih=>have:=h _ _ _ e;omega
def NoNeg (L:bS ν):Prop:=∀a s,Wk L a a s->0<=s
theorem Holds.Nx {L:bS ν}{t:ν->Int}(h:Holds L t):NoNeg L:=λa s w=>by have:=h.walk w;omega
theorem NoNeg.mono {L M:bS ν}(h:∀x∈L,x∈M)(n:NoNeg M):NoNeg L:=λa s w=>n a s (w.mono h)
def Ch (L:bS ν):ν->List Nat->ν->Prop
 | a,[],b=>a=b
 | a,k::r,b=> ∃c m,L[k]? =some (a,c,m)/\Ch L c r b
def most (L:bS ν)(k:Nat):Int:=match L[k]? with
 | some x=>x.2.2
 | none=>0
def fQ (L:bS ν):List Nat->Int
 | [] =>0
 | k::r=>most L k+fQ L r
theorem mw (L:bS ν):∀(p q:List Nat),fQ L (p++q)=fQ L p+fQ L q
 | [],q=>by simp[fQ]
 | k::p,q=>by rw[WM,fQ,fQ,mw L p q];omega
theorem Ch.wk {L:bS ν}:∀{ks:List Nat} {a b:ν},Ch L a ks b->Wk L a b (fQ L ks)
 | [],a,b,h=>by cases h;exact .nil a
 | k::r,a,b,⟨c,m,e,h⟩=>by
  have:fQ L (k::r)=m+fQ L r:=by rw[fQ,most,e]
  rw[this];exact .step (Py e) h.wk
theorem Ch.app {L:bS ν}:∀{p q:List Nat} {a b c:ν},Ch L a p b->Ch L b q c->Ch L a (p++q) c
 | [],q,a,b,c,h,k=>by cases h;exact k
 | x::p,q,a,b,c,⟨d,m,e,h⟩,k=>⟨d,m,e,Ch.app h k⟩
theorem Ch.lt {L:bS ν}:∀{ks:List Nat} {a b:ν},Ch L a ks b->∀k∈ks,k<L.length
 | [],_,_,_,k,hk=>by simp at hk
 | x::r,a,b,⟨c,m,e,h⟩,k,hk=>by
  rcases Og.mp hk with rfl | hk
  ·exact(Oi.mp e).1
  ·exact h.lt k hk
theorem Ch.snoc {L:bS ν}{p:List Nat}{k:Nat}{a b c:ν}{m:Int}(h:Ch L a p b)(e:L[k]? =some (b,c,m)):Ch L a (p++ [k]) c:=h.app ⟨c,m,e,rfl⟩
def src (L:bS ν)(k:Nat):Option ν:=(L[k]?).map (·.1)
abbrev cP (ν:Type):=ν->Option (Int×List Nat)
def put (b:cP ν)(v:ν)(x:Int×List Nat):cP ν:=λu=>if u=v then some x else b u
theorem ft {b:cP ν}{v:ν}{x:Int×List Nat}:put b v x v=some x:=by unfold put;rw[if_pos rfl]
theorem lg {b:cP ν}{u v:ν}{x:Int×List Nat}(h:u≠v):put b v x u=b u:=by unfold put;rw[if_neg h]
def gi (L:bS ν)(ks:List Nat):List ν:=ks.filterMap (src L)
def fJ (b:cP ν)(v:ν)(d:Int):Bool:=match b v with
 | none=>true
 | some x=>decide (d<x.1)
def iU (L:bS ν)(b:cP ν)(k:Nat)(x:ν×ν×Int):Sum (Option (cP ν)) (List Nat):=match b x.1 with
 | none=> .inl none
 | some (d,w)=>if fJ b x.2.1 (d+x.2.2)=true then
   if x.2.1∈gi L (w++ [k])then .inr ((w++ [k]).drop ((gi L (w++ [k])).idxOf x.2.1))else .inl (some (put b x.2.1 (d+x.2.2,w++ [k])))
  else .inl none
def ju (L:bS ν):Nat->bS ν->cP ν->Bool->Sum (cP ν×Bool) (List Nat)
 | _,[],b,mv=> .inl (b,mv)
 | k,x::r,b,mv=>match iU L b k x with
  | .inr q=> .inr q
  | .inl none=>ju L (k+1) r b mv
  | .inl (some b')=>ju L (k+1) r b' true
def settle (L:bS ν):Nat->cP ν->Option (Sum (cP ν) (List Nat))
 | 0,_=>none
 | n+1,b=>match ju L 0 L b false with
  | .inr q=>some (.inr q)
  | .inl (b',true)=>settle L n b'
  | .inl (b',false)=>some (.inl b')
theorem tY (L:bS ν)(p q:List Nat):gi L (p++q)=gi L p++gi L q:=by unfold gi;rw[List.filterMap_append]
theorem tX {L:bS ν}{k:Nat}{x:ν×ν×Int}(e:L[k]? =some x):gi L [k] = [x.1]:=by unfold gi src;simp[e]
theorem Ch.M0 {L:bS ν}{k:Nat}{r:List Nat}{a b:ν}(h:Ch L a (k::r) b):gi L (k::r)=a::gi L r:=by
 obtain⟨c,m,e,_⟩:=h;rw[show k::r= [k] ++r from rfl,tY,tX e];rfl
theorem Ch.cut {L:bS ν}{v:ν}:∀{ks:List Nat} {a b:ν},Ch L a ks b->v∈gi L ks->Ch L a (ks.take ((gi L ks).idxOf v)) v/\Ch L v (ks.drop ((gi L ks).idxOf v)) b/\(gi L ks).idxOf v<ks.length
 | [],a,b,_,hv=>by simp[gi]at hv
 | k::r,a,b,h,hv=>by
  rw[h.M0]at hv ⊢
  have h0:=h;obtain⟨c,m,e,h⟩:=h
  by_cases z:a=v
  ·subst z
   rw[List.idxOf_cons_self];exact⟨rfl,h0,by simp⟩
  ·have hv':v∈gi L r:=by
    rcases Og.mp hv with q | q
    ·exact absurd q.symm z
    ·exact q
   obtain⟨h1,h2,h3⟩:=h.cut hv'
   have ei:(a::gi L r).idxOf v=(gi L r).idxOf v+1:=by
    rw[Xf]
    have:(a == v)=false:=by rw[beq_eq_false_iff_ne];exact z
    rw[this];rfl
   rw[ei];exact⟨⟨c,m,e,h1⟩,h2,by simpa using h3⟩
structure Kept (L:bS ν)(S:List ν)(b:cP ν):Prop where
 walk:∀v d w,b v=some (d,w)->∃s∈S,Ch L s w v/\fQ L w=d/\v∉gi L w/\(gi L w).Nodup/\∀p q u,w=p++q->Ch L s p u->∃d' w',b u=some (d',w')/\d'<=fQ L p
 start:∀s∈S,∃d w,b s=some (d,w)/\d<=0
theorem Kept.put {L:bS ν}{S:List ν}{b:cP ν}(K:Kept L S b){k:Nat}{a c:ν}{m d:Int}{w:List Nat}(e:L[k]? =some (a,c,m))(ha:b a=some (d,w))(hb:fJ b c (d+m)=true)(hn:c∉gi L (w++ [k])) :
  Kept L S (put b c (d+m,w++ [k])):=by
 have low:∀u d' w',b u=some (d',w')->∃d'' w'',Gr.put b c (d+m,w++ [k]) u=some (d'',w'')/\d''<=d':=λu d' w' h=>by
  by_cases z:u=c
  ·subst z
   refine⟨_,_,ft,?_⟩
   unfold fJ at hb;rw[h]at hb
   have:=of_decide_eq_true hb;omega
  ·exact⟨d',w',by rw[lg z];exact h,Qa _⟩
 obtain⟨s,hs,h1,h2,h3,h4,h5⟩:=K.walk a d w ha
 have hch:Ch L s (w++ [k]) c:=h1.snoc e
 have hcost:fQ L (w++ [k])=d+m:=by rw[mw,h2,fQ,fQ,most,e];simp
 refine⟨λv d' w' h=> ?_,λs' hs'=> ?_⟩
 ·by_cases z:v=c
  ·subst z
   rw[ft]at h;cases h;refine⟨s,hs,hch,hcost,hn,?_,λp q u hpq hp=> ?_⟩
   ·rw[tY,tX e]
    exact PU.mpr ⟨h4,by simp,λx hx y hy=>by simp at hy;subst hy;exact λz=>h3 (z▸hx)⟩
   ·by_cases hq:q= []
    ·subst hq
     rw[Pz]at hpq;subst hpq
     have:u=v:=by
      clear low hb hn h5
      have aux:∀{ks:List Nat} {x y z:ν},Ch L x ks y->Ch L x ks z->y=z:=by
       intro ks
       induction ks with
       | nil=>intro x y z h1 h2;cases h1;cases h2;rfl
       | cons k r ih=>
        rintro x y z ⟨c1,m1,e1,r1⟩ ⟨c2,m2,e2,r2⟩
        rw[e1]at e2;cases e2;exact ih r1 r2
      exact aux hp hch
     subst this;exact⟨_,_,ft,by rw[hcost];exact Qa _⟩
    ·have hw:∃q',w=p++q':=by
      refine⟨q.dropLast,?_⟩
      have:=congrArg List.dropLast hpq;rw[List.dropLast_concat,List.dropLast_append_of_ne_nil hq]at this;exact this
     obtain⟨q',hw⟩:=hw;obtain⟨d1,w1,e1,l1⟩:=h5 p q' u hw hp;obtain⟨d2,w2,e2,l2⟩:=low u d1 w1 e1;exact⟨d2,w2,e2,by omega⟩
  ·rw[lg z]at h
   obtain⟨s',hs',g1,g2,g3,g4,g5⟩:=K.walk v d' w' h;refine⟨s',hs',g1,g2,g3,g4,λp q u hpq hp=> ?_⟩
   obtain⟨d1,w1,e1,l1⟩:=g5 p q u hpq hp;obtain⟨d2,w2,e2,l2⟩:=low u d1 w1 e1;exact⟨d2,w2,e2,by omega⟩
 ·obtain⟨d1,w1,e1,l1⟩:=K.start s' hs'
  obtain⟨d2,w2,e2,l2⟩:=low s' d1 w1 e1;exact⟨d2,w2,e2,by omega⟩
def Bar (L:bS ν)(q:List Nat):Prop:=q≠ []/\(∃a,Ch L a q a)/\fQ L q<0/\(gi L q).Nodup
theorem Ch.Ng {L:bS ν}:∀{ks:List Nat} {a b:ν} (i:Nat),Ch L a ks b->gi L (ks.drop i)=(gi L ks).drop i
 | [],_,_,i,_=>by simp[gi]
 | k::r,a,b,0,_=>rfl
 | k::r,a,b,i+1,h=>by
  have:=h;obtain⟨c,m,e,h'⟩:=this;rw[h.M0,Vm,Vm,h'.Ng i]
theorem Kept.round {L:bS ν}{S:List ν}{b:cP ν}(K:Kept L S b){k:Nat}{a c:ν}{m d:Int}{w:List Nat}(e:L[k]? =some (a,c,m))(ha:b a=some (d,w))(hb:fJ b c (d+m)=true)(hn:c∈gi L (w++ [k])) :
  Bar L ((w++ [k]).drop ((gi L (w++ [k])).idxOf c)):=by
 obtain⟨s,hs,h1,h2,h3,h4,h5⟩:=K.walk a d w ha
 have hch:Ch L s (w++ [k]) c:=h1.snoc e
 have hcost:fQ L (w++ [k])=d+m:=by rw[mw,h2,fQ,fQ,most,e];simp
 obtain⟨c1,c2,c3⟩:=hch.cut hn
 generalize hi:(gi L (w++ [k])).idxOf c=i at c1 c2 c3
 refine⟨λz=> ?_,⟨c,c2⟩,?_,?_⟩
 ·have:=congrArg PB z
  rw[QK]at this
  simp at this c3
  omega
 ·have hsum:fQ L ((w++ [k]).take i)+fQ L ((w++ [k]).drop i)=d+m:=by rw[<-mw,SN,hcost]
  have hiw:i<=w.length:=by simp at c3;omega
  have ht:(w++ [k]).take i=w.take i:=by rw[List.take_append_of_le_length hiw]
  rw[ht]at c1 hsum;obtain⟨d1,w1,e1,l1⟩:=h5 (w.take i) (w.drop i) c (SN i w).symm c1;unfold fJ at hb;rw[e1]at hb
  have:=of_decide_eq_true hb;simp only at this;omega
 ·rw[hch.Ng,tY,tX e]
  refine(List.drop_sublist _ _).nodup (PU.mpr ⟨h4,by simp,λx hx y hy=> ?_⟩)
  rw[OB.mp hy];exact λz=>h3 (by have z:x=a:=z;rw[<-z];exact hx)
def size (L:bS ν):Nat:=(L.map λx=>x.2.2.natAbs).sum
theorem kW {f:Nat->Nat}:∀{ks rs:List Nat},ks.Nodup->(∀k∈ks,k∈rs)->(ks.map f).sum<=(rs.map f).sum
 | [],rs,_,_=>by simp
 | k::ks,rs,hn,hs=>by
  have hk:k∈rs:=hs k Oe;rw[OZ]at hn
  have hp:=List.perm_cons_erase hk
  have e:(rs.map f).sum=f k+((rs.erase k).map f).sum:=by
   have:=(hp.map f).sum_nat
   rwa [Oc,QN]at this
  rw[e,Oc,QN]
  have:=kW (f:=f) hn.2 λj hj=>by
   have h1:=hs j (N8 _ hj);exact(U7 (λ(z:j=k)=>hn.1 (z▸hj))).mpr h1
  omega
theorem xP (L:bS ν):size L=((On L.length).map λk=>(most L k).natAbs).sum:=by
 unfold size
 congr 1
 apply R1
 ·simp
 ·intro i h1 h2
  simp only[Rv,Tz];unfold most;rw[Of (by simpa using h1)]
theorem Ak (L:bS ν):∀(ks:List Nat),(fQ L ks).natAbs<=(ks.map λk=>(most L k).natAbs).sum
 | [] =>by simp[fQ]
 | k::r=>by
  have:=Ak L r;rw[fQ,Oc,QN];omega
theorem Ch.nodup {L:bS ν}:∀{ks:List Nat} {a b:ν},Ch L a ks b->(gi L ks).Nodup->ks.Nodup
 | [],_,_,_,_=>Rc
 | k::r,a,b,h,hn=>by
  have h0:=h;rw[h.M0,OZ]at hn;obtain⟨c,m,e,h⟩:=h;rw[OZ];refine⟨λhk=>hn.1 ?_,h.nodup hn.2⟩
  unfold gi src;exact Tv.mpr ⟨k,hk,by rw[e];rfl⟩
theorem Ch.small {L:bS ν}{ks:List Nat}{a b:ν}(h:Ch L a ks b)(hn:(gi L ks).Nodup):(fQ L ks).natAbs<=size L:=by
 rw[xP];exact OI (Ak L ks) (kW (h.nodup hn) λk hk=>OY.mpr (h.lt k hk))
def val (M:Nat)(b:cP ν)(v:ν):Nat:=match b v with
 | none=>2*M+1
 | some x=>(x.1+M).toNat
def left (M:Nat)(b:cP ν)(L:bS ν):Nat:=(L.map λx=>val M b x.2.1).sum
theorem zQ {M:Nat}{b b':cP ν}:∀{L:bS ν},(∀x∈L,val M b' x.2.1<=val M b x.2.1)->left M b' L<=left M b L
 | [],_=>by simp[left]
 | x::L,h=>by
  have h1:=h x Oe
  have h2:=zQ λy hy=>h y (N8 _ hy)
  unfold left at h2 ⊢;rw[Oc,QN,Oc,QN];omega
theorem zP {M:Nat}{b b':cP ν}{x:ν×ν×Int}:∀{L:bS ν},x∈L->(∀x∈L,val M b' x.2.1<=val M b x.2.1)->val M b' x.2.1<val M b x.2.1->left M b' L<left M b L
 | [],hx,_,_=>by simp at hx
 | y::L,hx,h,hl=>by
  have h1:=h y Oe
  have h2:=zQ λy hy=>h y (N8 _ hy)
  unfold left at h2 ⊢;rw[Oc,QN,Oc,QN];rcases Og.mp hx with rfl | hx
  ·omega
  ·have h3:=zP hx (λy hy=>h y (N8 _ hy)) hl
   unfold left at h3;omega
theorem Dl {L:bS ν}{S:List ν}{b:cP ν}(K:Kept L S b){k:Nat}{a c:ν}{m d:Int}{w:List Nat}(e:L[k]? =some (a,c,m))(ha:b a=some (d,w))(hb:fJ b c (d+m)=true)(hn:c∉gi L (w++ [k])) :
  left (size L) (put b c (d+m,w++ [k])) L<left (size L) b L:=by
 have K':=K.put e ha hb hn;obtain⟨s,hs,h1,h2,h3,h4,h5⟩:=K'.walk c (d+m) (w++ [k]) ft
 have sm:=h1.small h4;rw[h2]at sm
 have lt:val (size L) (put b c (d+m,w++ [k])) c<val (size L) b c:=by
  unfold val fJ at*;rw[ft]
  cases z:b c with
  | none=>simp only;omega
  | some y=>
   rw[z]at hb
   have hb:=of_decide_eq_true hb;simp only;omega
 refine zP (Py e) (λy _=> ?_) lt
 by_cases z:y.2.1=c
 ·rw[z];exact Qb lt
 ·unfold val;rw[lg z];exact Ot _
def EI (b:cP ν)(x:ν×ν×Int):Prop:=∀d w,b x.1=some (d,w)->∃d' w',b x.2.1=some (d',w')/\d'<=d+x.2.2
theorem B4 {b:cP ν}{x:ν×ν×Int}(h:∀d w,b x.1=some (d,w)->fJ b x.2.1 (d+x.2.2)=false):EI b x:=λd w e=>by
 have:=h d w e;unfold fJ at this
 cases z:b x.2.1 with
 | none=>rw[z]at this;cases this
 | some y=>
  rw[z]at this
  have:=of_decide_eq_false this;exact⟨y.1,y.2,rfl,by omega⟩
theorem jE {L:bS ν}{S:List ν}:∀(r:bS ν) (k:Nat) (b:cP ν) (mv:Bool),L.drop k=r->Kept L S b->match ju L k r b mv with
  | .inr q=>Bar L q
  | .inl (b',mv')=>Kept L S b'/\(mv'=false->mv=false/\b'=b/\∀x∈r,EI b x)/\left (size L) b' L<=left (size L) b L/\(mv'=true->mv=true\/left (size L) b' L<left (size L) b L)
 | [],k,b,mv,_,K=>⟨K,λh=>⟨h,rfl,λx hx=>by simp at hx⟩,Ot _,λh=> .inl h⟩
 | x::r,k,b,mv,hr,K=>by
  have e:L[k]? =some x:=by
   have:=congrArg (·[0]?) hr
   simpa using this
  have hr':L.drop (k+1)=r:=by
   have:=congrArg (List.drop 1) hr
   simpa [List.drop_drop,Wp]using this
  rw[ju];obtain⟨a,c,m⟩:=x;unfold iU
  cases z:b a with
  | none=>
   simp only[z]
   have ih:=jE r (k+1) b mv hr' K
   revert ih
   generalize ju L (k+1) r b mv=R
   cases R with
   | inr q=>exact id
   | inl p=>
    obtain⟨b',mv'⟩:=p
    rintro ⟨i1,i2,i3,i4⟩
    refine⟨i1,λh=> ?_,i3,i4⟩
    obtain⟨j1,j2,j3⟩:=i2 h;refine⟨j1,j2,λx hx=> ?_⟩
    rcases Og.mp hx with rfl | hx
    ·intro d w q;rw[z]at q;cases q
    ·exact j3 x hx
  | some y=>
   obtain⟨d,w⟩:=y;simp only[z]
   by_cases hb:fJ b c (d+m)=true
   ·rw[if_pos hb]
    by_cases hn:c∈gi L (w++ [k])
    ·rw[if_pos hn]
     exact K.round e z hb hn
    ·rw[if_neg hn]
     have K':=K.put e z hb hn
     have lt:=Dl K e z hb hn
     have ih:=jE r (k+1) (put b c (d+m,w++ [k])) true hr' K'
     revert ih
     simp only
     generalize ju L (k+1) r (put b c (d+m,w++ [k])) true=R
     cases R with
     | inr q=>exact id
     | inl p=>
      obtain⟨b',mv'⟩:=p
      rintro ⟨i1,i2,i3,i4⟩
      refine⟨i1,λh=> ?_,by omega,λ_=> .inr (by omega)⟩
      obtain⟨j1,_⟩:=i2 h;cases j1
   ·rw[if_neg hb]
    have ih:=jE r (k+1) b mv hr' K
    revert ih
    simp only
    generalize ju L (k+1) r b mv=R
    cases R with
    | inr q=>exact id
    | inl p=>
     obtain⟨b',mv'⟩:=p
     rintro ⟨i1,i2,i3,i4⟩
     refine⟨i1,λh=> ?_,i3,i4⟩
     obtain⟨j1,j2,j3⟩:=i2 h;refine⟨j1,j2,λx hx=> ?_⟩
     rcases Og.mp hx with rfl | hx
     ·refine B4 λd' w' q=> ?_
      simp only at q;rw[z]at q;cases q
      simpa using hb
     ·exact j3 x hx
structure Settled (L:bS ν)(S:List ν)(b:cP ν):Prop where
 walk:∀v d w,b v=some (d,w)->∃s∈S,Ch L s w v/\fQ L w=d/\v∉gi L w/\(gi L w).Nodup
 least:∀s∈S,∀v t,Wk L s v t->∃d w,b v=some (d,w)/\d<=t
theorem xQ {L:bS ν}{S:List ν}{b:cP ν}(K:Kept L S b)(h:∀x∈L,EI b x):Settled L S b where
 walk:=λv d w e=>by
  obtain⟨s,h1,h2,h3,h4,h5,_⟩:=K.walk v d w e;exact⟨s,h1,h2,h3,h4,h5⟩
 least:=by
  have go:∀{u v:ν} {t:Int},Wk L u v t->∀d w,b u=some (d,w)->∃d' w',b v=some (d',w')/\d'<=d+t:=by
   intro u v t hw
   induction hw with
   | nil a=>exact λd w e=>⟨d,w,e,by omega⟩
   | step e _ ih=>
    intro d w q;obtain⟨d1,w1,e1,l1⟩:=h _ e d w q;obtain⟨d2,w2,e2,l2⟩:=ih d1 w1 e1;exact⟨d2,w2,e2,by simp only at l1;omega⟩
  intro s hs v t hw;obtain⟨d,w,e,l⟩:=K.start s hs;obtain⟨d2,w2,e2,l2⟩:=go hw d w e;exact⟨d2,w2,e2,by omega⟩
theorem rM {L:bS ν}{S:List ν}:∀(n:Nat) (b:cP ν),Kept L S b->left (size L) b L<n->∃r,settle L n b=some r/\match r with
  | .inr q=>Bar L q
  | .inl b'=>Settled L S b'
 | 0,b,K,h=>by omega
 | n+1,b,K,h=>by
  have s:=jE L 0 b false rfl K;rw[settle]
  revert s
  generalize ju L 0 L b false=R
  cases R with
  | inr q=>exact λs=>⟨_,rfl,s⟩
  | inl p=>
   obtain⟨b',mv'⟩:=p
   rintro ⟨i1,i2,i3,i4⟩
   cases mv' with
   | false=>
    obtain⟨_,j2,j3⟩:=i2 rfl;subst j2
    exact⟨_,rfl,xQ i1 j3⟩
   | true=>
    rcases i4 rfl with z | z
    ·cases z
    ·exact rM n b' i1 (by omega)
def start (S:List ν):cP ν:=λv=>if v∈S then some (0,[])else none
theorem qu (L:bS ν)(S:List ν):Kept L S (start S) where
 walk:=λv d w e=>by
  unfold start at e
  split at e
  ·rename_i h
   cases e;refine⟨v,h,rfl,rfl,by simp[gi],by simp[gi],λp q u hpq hp=> ?_⟩
   obtain⟨rfl,rfl⟩:=List.append_eq_nil_iff.mp hpq.symm;cases hp;exact⟨0,[],by unfold start;rw[if_pos h],by simp[fQ]⟩
  ·cases e
 start:=λs hs=>⟨0,[],by unfold start;rw[if_pos hs],Qa _⟩
theorem Dm (L:bS ν)(S:List ν):left (size L) (start S) L<=L.length*(2*size L+1):=by
 unfold left
 have:∀M:bS ν,(M.map λx=>val (size L) (start S) x.2.1).sum<=M.length*(2*size L+1):=by
  intro M
  induction M with
  | nil=>simp
  | cons x M ih=>
   rw[Oc,QN,Oj,Nat.succ_mul]
   have:val (size L) (start S) x.2.1<=2*size L+1:=by
    unfold val start;split
    ·exact Ot _
    ·rename_i h
     split at h
     ·cases h;simp;omega
     ·cases h
   omega
 exact this L
theorem xR (L:bS ν)(S:List ν){n:Nat}(h:L.length*(2*size L+1)<n):∃r,settle L n (start S)=some r/\match r with
  | .inr q=>Bar L q
  | .inl b'=>Settled L S b':=rM n (start S) (qu L S) (RC (Dm L S) h)
theorem Bar.neg {L:bS ν}{q:List Nat}(h:Bar L q):¬ NoNeg L:=λn=>by
 obtain⟨_,⟨a,ha⟩,hc,_⟩:=h
 have:=n a _ ha.wk;omega
theorem Settled.holds {L:bS ν}{S:List ν}{b:cP ν}(h:Settled L S b)(hS:∀x∈L,x.1∈S/\x.2.1∈S){t:ν->Int}(ht:∀v∈S,∃w,b v=some (t v,w)):Holds L t:=λa c m hx=>by
 obtain⟨ha,hc⟩:=hS _ hx;obtain⟨w,e⟩:=ht a ha;obtain⟨s,hs,h1,h2,_⟩:=h.walk a _ _ e;obtain⟨d,w',e',l⟩:=h.least s hs c _ (h1.wk.app (.one hx));obtain⟨w2,e2⟩:=ht c hc;rw[e2]at e';cases e';omega
inductive Pth (L:bS ν):ν->List ν->ν->Int->Prop
 | one {a b:ν} {m:Int}:(a,b,m)∈L->Pth L a [] b m
 | cons {a x b:ν} {ms:List ν} {m s:Int}:(a,x,m)∈L->Pth L x ms b s->Pth L a (x::ms) b (m+s)
theorem Pth.cut {L:bS ν}{x:ν}{q:List ν}:∀{p:List ν} {a b:ν} {s:Int},Pth L a (p++x::q) b s->∃s1 s2,Pth L a p x s1/\Pth L x q b s2/\s=s1+s2
 | [],a,b,s,h=>by
  cases h with
  | cons e h=>exact⟨_,_,.one e,h,rfl⟩
 | y::p,a,b,s,h=>by
  cases h with
  | cons e h=>
   obtain⟨s1,s2,h1,h2,h3⟩:=Pth.cut h;exact⟨_,s2,.cons e h1,h2,by omega⟩
def KA (L:bS ν)(u v:ν)(s:Int):Prop:=(u=v/\s=0)\/(u≠v/\∃ms,Pth L u ms v s/\ms.Nodup/\u∉ms/\v∉ms)
def EL (L:bS ν):Prop:=∃x ms s,Pth L x ms x s/\ms.Nodup/\x∉ms/\s<0
theorem Wk.simple {L:bS ν}{u v:ν}{s:Int}(w:Wk L u v s):EL L\/∃s',s'<=s/\KA L u v s':=by
 induction w with
 | nil a=>exact .inr ⟨0,Qa _,.inl ⟨rfl,rfl⟩⟩
 | @step a b c m s e w ih=>
  rcases ih with ih | ⟨s',hs,ih⟩
  ·exact .inl ih
  by_cases hab:a=b
  ·subst hab
   by_cases hm:m<0
   ·exact .inl ⟨a,[],m,.one e,Rc,by simp,hm⟩
   ·exact .inr ⟨s',by omega,ih⟩
  rcases ih with⟨rfl,rfl⟩ | ⟨hbc,ms,hp,hn,hb,hc⟩
  ·exact .inr ⟨m,by omega,.inr ⟨hab,[],.one e,Rc,by simp,by simp⟩⟩
  by_cases hac:a=c
  ·subst hac
   by_cases hm:m+s'<0
   ·exact .inl ⟨a,b::ms,m+s',.cons e hp,OZ.mpr ⟨hb,hn⟩,by simp[hab,hc],hm⟩
   ·exact .inr ⟨0,by omega,.inl ⟨rfl,rfl⟩⟩
  by_cases ham:a∈ms
  ·obtain⟨p,q,rfl⟩:=VH ham
   obtain⟨s1,s2,h1,h2,h3⟩:=hp.cut;rw[PU]at hn;obtain⟨n1,n2,n3⟩:=hn;rw[OZ]at n2
   have hap:a∉p:=λz=>n3 a z a Oe rfl
   by_cases hm:m+s1<0
   ·refine .inl ⟨a,b::p,m+s1,.cons e h1,OZ.mpr ⟨λz=>hb (O8 _ z),n1⟩,by simp[hab,hap],hm⟩
   ·exact .inr ⟨s2,by omega,.inr ⟨hac,q,h2,n2.2,n2.1,λz=>hc (OK _ (N8 _ z))⟩⟩
  ·refine .inr ⟨m+s',by omega,.inr ⟨hac,b::ms,.cons e hp,OZ.mpr ⟨hb,hn⟩,by simp[hab,ham],?_⟩⟩
   simp only[Og,not_or];exact⟨λz=>hbc z.symm,hc⟩
abbrev dE (ν:Type):=ν->ν->Option Int
def jV (f:dE ν)(a b:ν)(x:Int):dE ν:=λu v=>if u=a/\v=b then some x else f u v
def n6 (f:dE ν)(a b:ν)(x:Int):dE ν:=match f a b with
 | none=>jV f a b x
 | some y=>if x<y then jV f a b x else f
def mi (mid one other:ν)(f:dE ν):dE ν:=match f one mid,f mid other with
 | some x,some y=>n6 f one other (x+y)
 | _,_=>f
def vi (P:List ν):dE ν:=λu v=>if u∈P/\u=v then some 0 else none
def BY (P:List ν)(L:bS ν):dE ν:=L.foldl (λf x=>n6 f x.1 x.2.1 x.2.2) (vi P)
def mj (mid one:ν)(P:List ν)(f:dE ν):dE ν:=P.foldl (λf other=>mi mid one other f) f
def qz (mid:ν)(Q P:List ν)(f:dE ν):dE ν:=Q.foldl (λf one=>mj mid one P f) f
def wO (M P:List ν)(f:dE ν):dE ν:=M.foldl (λf mid=>qz mid P P f) f
def table (P:List ν)(L:bS ν):dE ν:=wO P P (BY P L)
def Le (f g:dE ν):Prop:=∀u v x,g u v=some x->∃y,f u v=some y/\y<=x
theorem Le.refl (f:dE ν):Le f f:=λu v x h=>⟨x,h,Qa _⟩
theorem Le.trans {f g h:dE ν}(a:Le f g)(b:Le g h):Le f h:=λu v x e=>by
 obtain⟨y,e1,l1⟩:=b u v x e;obtain⟨z,e2,l2⟩:=a u v y e1;exact⟨z,e2,by omega⟩
theorem ng {f:dE ν}{a b:ν}{x:Int}:jV f a b x a b=some x:=by unfold jV;rw[if_pos ⟨rfl,rfl⟩]
theorem uI (f:dE ν)(a b:ν)(x:Int):Le (n6 f a b x) f:=λu v y e=>by
 unfold n6
 cases q:f a b with
 | none=>
  by_cases z:u=a/\v=b
  ·obtain⟨rfl,rfl⟩:=z;rw[q]at e;cases e
  ·exact⟨y,by simp only;unfold jV;rw[if_neg z];exact e,Qa _⟩
 | some y0=>
  simp only;split
  ·by_cases z:u=a/\v=b
   ·obtain⟨rfl,rfl⟩:=z;rw[q]at e;cases e
    exact⟨x,ng,by omega⟩
   ·exact⟨y,by unfold jV;rw[if_neg z];exact e,Qa _⟩
  ·exact⟨y,e,Qa _⟩
theorem Ad (f:dE ν)(a b:ν)(x:Int):∃y,n6 f a b x a b=some y/\y<=x:=by
 unfold n6
 cases q:f a b with
 | none=>exact⟨x,ng,Qa _⟩
 | some y0=>
  simp only;split
  ·exact⟨x,ng,Qa _⟩
  ·exact⟨y0,q,by omega⟩
theorem qD {L:bS ν}{f:dE ν}{a b:ν}{x:Int}(h:∀u v y,f u v=some y->Wk L u v y)(hx:Wk L a b x):∀u v y,n6 f a b x u v=some y->Wk L u v y:=λu v y e=>by
 have key:jV f a b x u v=some y->Wk L u v y:=λe'=>by
  unfold jV at e'
  by_cases z:u=a/\v=b
  ·rw[if_pos z]at e';injection e' with e';rw[z.1,z.2,<-e'];exact hx
  ·rw[if_neg z]at e';exact h u v y e'
 unfold n6 at e
 cases q:f a b with
 | none=>rw[q]at e;exact key e
 | some y0=>
  rw[q]at e;simp only at e
  split at e
  ·exact key e
  ·exact h u v y e
theorem wM (mid one other:ν)(f:dE ν):Le (mi mid one other f) f:=by
 unfold mi;split
 ·exact uI _ _ _ _
 ·exact Le.refl f
theorem DZ {mid one other:ν}{f:dE ν}{x y:Int}(h1:f one mid=some x)(h2:f mid other=some y):∃z,mi mid one other f one other=some z/\z<=x+y:=by
 unfold mi;rw[h1,h2];exact Ad _ _ _ _
theorem kG {α:Type}(step:dE ν->α->dE ν)(hs:∀f a,Le (step f a) f):∀(l:List α) (f:dE ν),Le (l.foldl step f) f
 | [],f=>Le.refl f
 | a::l,f=>(kG step hs l (step f a)).trans (hs f a)
theorem qy (mid one:ν)(P:List ν)(f:dE ν):Le (mj mid one P f) f:=kG _ (λf o=>wM mid one o f) P f
theorem wN (mid:ν)(Q P:List ν)(f:dE ν):Le (qz mid Q P f) f:=kG _ (λf o=>qy mid o P f) Q f
theorem D8 (M P:List ν)(f:dE ν):Le (wO M P f) f:=kG _ (λf o=>wN o P P f) M f
theorem oG {α:Type}(step:dE ν->α->dE ν)(hs:∀f a,Le (step f a) f):∀(l:List α) (f:dE ν) (a:α),a∈l->∃g,Le g f/\Le (l.foldl step f) (step g a)
 | [],f,a,h=>by simp at h
 | b::l,f,a,h=>by
  rcases Og.mp h with rfl | h
  ·exact⟨f,Le.refl f,kG step hs l (step f a)⟩
  ·obtain⟨g,h1,h2⟩:=oG step hs l (step f b) a h
   exact⟨g,h1.trans (hs f b),h2⟩
theorem D7 {mid u v:ν}{P:List ν}{f:dE ν}{x y:Int}(hu:u∈P)(hv:v∈P)(h1:f u mid=some x)(h2:f mid v=some y):∃z,qz mid P P f u v=some z/\z<=x+y:=by
 obtain⟨g,g1,g2⟩:=oG (λf one=>mj mid one P f) (λf o=>qy mid o P f) P f u hu
 obtain⟨g',g3,g4⟩:=oG (λf other=>mi mid u other f) (λf o=>wM mid u o f) P g v hv
 have l:Le g' f:=g3.trans g1;obtain⟨x',e1,l1⟩:=l _ _ _ h1;obtain⟨y',e2,l2⟩:=l _ _ _ h2;obtain⟨z,e3,l3⟩:=DZ e1 e2;obtain⟨z',e4,l4⟩:=(g2.trans g4) _ _ _ e3;exact⟨z',e4,by omega⟩
def Up (L:bS ν)(M:List ν)(f:dE ν):Prop:=∀u v ms s,Pth L u ms v s->ms.Nodup->(∀x∈ms,x∈M)->∃y,f u v=some y/\y<=s
theorem Pth.ends {L:bS ν}{P:List ν}(hL:∀x∈L,x.1∈P/\x.2.1∈P){u v:ν}{ms:List ν}{s:Int}(h:Pth L u ms v s):u∈P/\v∈P/\∀x∈ms,x∈P:=by
 induction h with
 | one e=>exact⟨(hL _ e).1,(hL _ e).2,by simp⟩
 | cons e _ ih=>exact⟨(hL _ e).1,ih.2.1,λx hx=>by
   rcases Og.mp hx with rfl | hx
   ·exact ih.1
   ·exact ih.2.2 x hx⟩
theorem Up.mid {L:bS ν}{P M:List ν}{f:dE ν}(hL:∀x∈L,x.1∈P/\x.2.1∈P)(h:Up L M f)(k:ν):Up L (k::M) (qz k P P f):=λu v ms s hp hn hm=>by
 by_cases hk:k∈ms
 ·obtain⟨p,q,rfl⟩:=VH hk
  obtain⟨s1,s2,h1,h2,h3⟩:=hp.cut;rw[PU]at hn;obtain⟨n1,n2,n3⟩:=hn;rw[OZ]at n2
  have hp':∀x∈p,x∈M:=λx hx=>by
   rcases Og.mp (hm x (O8 _ hx))with rfl | z
   ·exact absurd rfl (n3 x hx x Oe)
   ·exact z
  have hq':∀x∈q,x∈M:=λx hx=>by
   rcases Og.mp (hm x (OK _ (N8 _ hx)))with rfl | z
   ·exact absurd hx n2.1
   ·exact z
  obtain⟨y1,e1,l1⟩:=h u k p s1 h1 n1 hp';obtain⟨y2,e2,l2⟩:=h k v q s2 h2 n2.2 hq';obtain⟨z,e3,l3⟩:=D7 (h1.ends hL).1 (h2.ends hL).2.1 e1 e2;exact⟨z,e3,by omega⟩
 ·obtain⟨y,e,l⟩:=h u v ms s hp hn λx hx=>by
   rcases Og.mp (hm x hx)with rfl | z
   ·exact absurd hx hk
   ·exact z
  obtain⟨z,e2,l2⟩:=wN k P P f u v y e;exact⟨z,e2,by omega⟩
theorem Up.NQ {L:bS ν}{P:List ν}(hL:∀x∈L,x.1∈P/\x.2.1∈P):∀(Q M:List ν) (f:dE ν),Up L M f->∃M',(∀x,x∈Q\/x∈M->x∈M')/\Up L M' (wO Q P f)
 | [],M,f,h=>⟨M,λx hx=>hx.elim (λz=>by simp at z) id,h⟩
 | k::Q,M,f,h=>by
  obtain⟨M',h1,h2⟩:=Up.NQ hL Q (k::M) (qz k P P f) (h.mid hL k);refine⟨M',λx hx=>h1 x ?_,h2⟩
  rcases hx with hx | hx
  ·rcases Og.mp hx with rfl | hx
   ·exact .inr Oe
   ·exact .inl hx
  ·exact .inr (N8 _ hx)
theorem E9 {P:List ν}{L:bS ν}:Up L [] (BY P L):=λu v ms s hp hn hm=>by
 have:ms= []:=by
  cases ms with
  | nil=>rfl
  | cons x r=>exact absurd (hm x Oe) (by simp)
 subst this
 cases hp with
 | one e=>
  obtain⟨g,h1,h2⟩:=oG (λ(f:dE ν) (x:ν×ν×Int)=>n6 f x.1 x.2.1 x.2.2) (λf x=>uI f _ _ _) L (vi P) _ e
  obtain⟨y,e1,l1⟩:=Ad g u v s;obtain⟨z,e2,l2⟩:=h2 u v y e1;exact⟨z,e2,by omega⟩
theorem gZ {α:Type}{L:bS ν}(step:dE ν->α->dE ν):∀(l:List α) (f:dE ν),(∀f,∀a∈l,(∀u v y,f u v=some y->Wk L u v y)->∀u v y,step f a u v=some y->Wk L u v y)->(∀u v y,f u v=some y->Wk L u v y)->∀u v y,l.foldl step f u v=some y->Wk L u v y
 | [],f,_,h=>h
 | a::l,f,hs,h=>gZ step l (step f a) (λf b hb=>hs f b (N8 _ hb)) (hs f a Oe h)
theorem nv (P:List ν)(L:bS ν):∀u v y,table P L u v=some y->Wk L u v y:=by
 unfold table wO;refine gZ _ P _ (λf m _ h=> ?_) ?_
 ·unfold qz
  refine gZ _ P _ (λf o _ h=> ?_) h
  unfold mj;refine gZ _ P _ (λf v _ h=> ?_) h
  unfold mi
  cases e1:f o m with
  | none=>exact h
  | some x=>
   cases e2:f m v with
   | none=>exact h
   | some y=>exact qD h ((h _ _ _ e1).app (h _ _ _ e2))
 ·unfold BY
  refine gZ _ L _ (λf x hx h=>qD h (.one hx)) λu v y e=> ?_
  unfold vi at e
  split at e
  ·rename_i z;obtain⟨_,rfl⟩:=z;cases e;exact .nil u
  ·cases e
theorem vh {P:List ν}{L:bS ν}(hL:∀x∈L,x.1∈P/\x.2.1∈P):∀u v ms s,Pth L u ms v s->ms.Nodup->∃y,table P L u v=some y/\y<=s:=λu v ms s hp hn=>by
 obtain⟨M',h1,h2⟩:=Up.NQ hL P [] (BY P L) E9;exact h2 u v ms s hp hn λx hx=>h1 x (.inl ((hp.ends hL).2.2 x hx))
theorem oU {P:List ν}{L:bS ν}{u:ν}(hu:u∈P):∃y,table P L u u=some y/\y<=0:=by
 have h0:vi P u u=some 0:=by unfold vi;rw[if_pos ⟨hu,rfl⟩]
 have h1:Le (table P L) (vi P):=(D8 P P _).trans (kG _ (λf x=>uI f _ _ _) L _)
 exact h1 u u 0 h0
structure Least (L:bS ν)(P:List ν)(f:dE ν):Prop where
 is:∀u v d,f u v=some d->Wk L u v d
 le:∀u∈P,∀v t,Wk L u v t->∃d,f u v=some d/\d<=t
theorem rH {P:List ν}{L:bS ν}{u:ν}{y:Int}(h:table P L u u=some y)(hy:y<0):¬ NoNeg L:=λn=>by
 have:=n u y (nv P L u u y h);omega
theorem ny {P:List ν}{L:bS ν}(hL:∀x∈L,x.1∈P/\x.2.1∈P)(h:∀u∈P,∀y,table P L u u=some y->0<=y):NoNeg L/\Least L P (table P L):=by
 have nc:¬ EL L:=λ⟨x,ms,s,hp,hn,_,hs⟩=>by
  obtain⟨y,e,l⟩:=vh hL x x ms s hp hn
  have:=h x (hp.ends hL).1 y e;omega
 have le:∀u∈P,∀v t,Wk L u v t->∃d,table P L u v=some d/\d<=t:=λu hu v t w=>by
  rcases w.simple with z | ⟨s',hs,z⟩
  ·exact absurd z nc
  ·rcases z with⟨rfl,rfl⟩ | ⟨_,ms,hp,hn,_⟩
   ·obtain⟨y,e,l⟩:=oU hu
    exact⟨y,e,by omega⟩
   ·obtain⟨y,e,l⟩:=vh hL u v ms s' hp hn
    exact⟨y,e,by omega⟩
 refine⟨λa s w=> ?_,λu v d e=>nv P L u v d e,le⟩
 by_cases ha:a∈P
 ·obtain⟨d,e,l⟩:=le a ha a s w
  have:=h a ha d e;omega
 ·cases w with
  | nil=>exact Qa _
  | step e _=>exact absurd (hL _ e).1 ha
theorem Least.uniq {L:bS ν}{P:List ν}{f g:dE ν}(hf:Least L P f)(hg:Least L P g){u v:ν}(hu:u∈P):f u v=g u v:=by
 cases e:f u v with
 | none=>
  cases e2:g u v with
  | none=>rfl
  | some d=>
   obtain⟨d',q,_⟩:=hf.le u hu v d (hg.is u v d e2)
   rw[e]at q;cases q
 | some d=>
  obtain⟨d',q,l⟩:=hg.le u hu v d (hf.is u v d e);obtain⟨d2,q2,l2⟩:=hf.le u hu v d' (hg.is u v d' q);rw[e]at q2;cases q2;rw[q]
  congr 1
  omega
end Gr
namespace G
open PySem Tr
def isI:T->Bool
 | .int _=>true
 | _=>false
theorem GH (t:T)(h:t.pl=true):jb [t] = .ok (.bl (isI t)):=by
 cases t <;> first | rfl | (simp[T.pl]at h;done)
def aX (t:T)(a b:Int):Bool:=match t with
 | .int i=>decide (a<=i)&&decide (i<=b)
 | _=>false
theorem fG (t:T)(a b:Int)(h:t.pl=true):bq [t,.int a,.int b] = .ok (.bl (aX t a b)):=by
 refine Eq.trans (?_:_= .ok (.bl (isI t&&aX t a b))) (by cases t <;> rfl)
 refine aZ rfl (bB (l8 (aE (ts:=[t]) rfl (GH t h)) λq=> ?_))
 cases t with
 | int i=>
  show(match T.bl (decide (a<=i))with | .bl true=>Rs.ok (T.bl (decide (i<=b))) | .bl false=> .ok (.bl false) | _=> .bad)=Rs.ok (T.bl (decide (a<=i)&&decide (i<=b)))
  cases decide (a<=i) <;> rfl
 | _=>cases q
def eK (t:T)(a b:Nat):Bool:=match t with
 | .tup l=>decide (a<=l.length)&&decide (l.length<=b)
 | _=>false
theorem lA (t:T)(a b:Nat)(h:t.pl=true):aR [t,.int a,.int b] = .ok (.bl (eK t a b)):=by
 cases t with
 | tup l=>
  simp[aR,val,fo,sQ,bZ,aW,dO,o1,vr,Gz,T.ty,zX,ch,cl,ae,aj,cz,T.items,Bs,eK]
  cases decide (a<=l.length) <;> rfl
 | scr _=>simp[T.pl]at h
 | dct _ _=>simp[T.pl]at h
 | _=>rfl
def mQ (x y:T):Bool:=aX x 1 9&&(match x with
 | .int i=>aX y i 9
 | _=>false)
theorem Kj (x y:T)(hx:x.pl=true)(hy:y.pl=true):kB [x,y] = .ok (.bl (mQ x y)):=
 aZ rfl (bB (l8 (aE (ts:=[x,.int 1,.int 9]) rfl (fG x 1 9 hx)) λq=>by
  cases x with
  | int i=>exact aE (ts:=[y,.int i,.int 9]) rfl (fG y i 9 hy)
  | _=>cases q))
def my:List Int->Bool
 | a::b::r=>decide (a<b)&&my (b::r)
 | _=>true
theorem AG (a b:Int)(r:List Int):my (a::b::r)=(decide (a<b)&&my (b::r)):=rfl
theorem uW {fe:En->Rs T}{p:T->Bool}{l:List T}{fi:En->Rs (List T)}{src:List (Option Nat)}{Z:En}(hi:fi Z= .ok l)(hs:l.length<=sizeLine)(hn:0<src.length)(hf:∀t∈l,fe ((bU src Z).set 0 (.va t))= .ok (.bl (p t))) :
  cl rA (ae (d6 fi src (gN 0) bT fe) aj) Z= .ok (.bl (l.all p)):=by
 have e:=yw l (bU src Z) (by unfold bU;rw[Ob];exact hn) hf
 simp only[cl,ae,aj,d6,hi,aH,if_pos hs,e,all_map]
def mZ (l:List T):T->Bool
 | .int k=>match L2.atI l k,L2.atI l (k+1)with
  | some (.int a),some (.int b)=>decide (a<b)
  | _,_=>false
 | _=>false
theorem tN {t:T}{j:Int}(h:t∈rng 0 j):∃k:Nat,t= .int k/\(k:Int)<j:=by
 unfold rng at h;obtain⟨k,hk,e⟩:=Oq.mp h;rw[OY]at hk;exact⟨k,by rw[<-e];simp,by omega⟩
theorem IA:(l:List Int)->l.length<=4->(rng 0 ((l.length:Int) - 1)).all (mZ (l.map .int))=my l
 | [],_=>rfl
 | [a],_=>rfl
 | [a,b],_=>by simp[rng,Te,mZ,L2.atI,L2.ixN,my]
 | [a,b,c],_=>by simp[rng,Te,mZ,L2.atI,L2.ixN,my]
 | [a,b,c,d],_=>by simp[rng,Te,mZ,L2.atI,L2.ixN,my,Bool.and_assoc]
 | a::b::c::d::e::r,h=>absurd h (by simp only[Oj];omega)
theorem GK (l:List Int)(h:l.length<=4):kx [.tup (l.map .int)] = .ok (.bl (my l)):=by
 have hr:iR (ae (o2 fM (cl cz (ae (vr 0) aj)) (cn (.int 1))) aj) [.va (.tup (l.map .int))] = .ok (rng 0 ((l.length:Int) - 1)):=by
  have:mf ((l.length:Int) - 1)=true:=by unfold mf;rw[N9];exact⟨decide_eq_true (by omega),decide_eq_true (by omega)⟩
  simp[iR,ae,aj,o2,cl,vr,cn,cz,T.items,fM,this]
 have hs:(rng 0 ((l.length:Int) - 1)).length<=sizeLine:=by
  unfold rng sizeLine;rw[Ob,OU];omega
 have e:=uW (fe:=o2 wy (o2 aU (vr 1) (vr 0)) (o2 aU (vr 1) (o2 aV (vr 0) (cn (.int 1))))) (p:=mZ (l.map .int)) (src:=[none,some 0]) hr hs (by decide) (λt ht=>by
  obtain⟨k,rfl,hk⟩:=tN ht
  have h1:(l.map T.int)[k]? =some (.int (l[k]'(by omega))):=by simp
  have h2:(l.map T.int)[k+1]? =some (.int (l[k+1]'(by omega))):=by rw[Ov,Of (by omega)];rfl
  have g1:=jY h1
  have g2:L2.atI (l.map T.int) ((k:Int)+1)=some (.int (l[k+1]'(by omega))):=jY h2
  simp[o2,vr,bU,cn,aV,aU,T.items,g1,g2,Bs,mZ])
 rw[IA l h]at e;simp only[kx,val,QH,if_true,As,fo,aW,bZ]
 show(do let f <-(do let t <-cl rA _ [.va (.tup (l.map .int))];Rs.ok (Fl.rt t));_)=_
 rw[e]
 rfl
def nums:List T->Option (List Int)
 | [] =>some []
 | .int i::l=>match nums l with
  | some m=>some (i::m)
  | none=>none
 | _::_=>none
def cC (t:T):Bool:=eK t 1 4&&(match t with
 | .tup l=>l.all (λu=>aX u 0 99)&&(match nums l with | some m=>my m | none=>false)
 | _=>false)
theorem pW:∀{l:List T} {m:List Int},nums l=some m->l=m.map .int
 | [],m,h=>by cases h;rfl
 | t::l,m,h=>by
  cases t with
  | int i=>
   unfold nums at h
   cases q:nums l with
   | none=>rw[q]at h;cases h
   | some m'=>rw[q]at h;cases h;rw[Oc,<-pW q]
  | _=>cases h
theorem uj:∀{l:List T} {a b:Int},(l.all λu=>aX u a b)=true->∃m,nums l=some m
 | [],_,_,_=>⟨[],rfl⟩
 | t::l,a,b,h=>by
  rw[List.all_cons,N9]at h
  cases t with
  | int i=>
   obtain⟨m,e⟩:=uj h.2
   exact⟨i::m,by unfold nums;rw[e]⟩
  | _=>exact absurd h.1 (by simp[aX])
theorem dW {t:T}{a b:Nat}(h:eK t a b=true):∃l,t= .tup l/\a<=l.length/\l.length<=b:=by
 cases t with
 | tup l=>unfold eK at h;rw[N9]at h;exact⟨l,rfl,of_decide_eq_true h.1,of_decide_eq_true h.2⟩
 | _=>cases h
theorem small {n k:Nat}(h:n<=k)(hk:autoParam (k<=1000) s_):n<=sizeLine:=by unfold sizeLine;omega
theorem yH (t:T)(h:t.pl=true):cv [t] = .ok (.bl (cC t)):=by
 have w:aR [t,.int 1,.int 4] = .ok (.bl (eK t 1 4)):=lA t 1 4 h;unfold cC
 cases q:eK t 1 4 with
 | false=>rw[q]at w;simp[cv,val,fo,fL,bZ,aD,gD,fO,tb,sN,aW,cl,vr,cn,ae,aj,w]
 | true=>
  rw[q]at w;obtain⟨l,rfl,h1,h2⟩:=dW q
  have hp:∀u∈l,u.pl=true:=λu hu=>lS (by unfold T.pl at h;exact h) hu
  have e:=uW (fe:=cl bq (ae (vr 0) (ae (cn (.int 0)) (ae (cn (.int 99)) aj)))) (p:=λu=>aX u 0 99) (src:=[none]) (fi:=iS (vr 0)) (Z:=[.va (.tup l)]) rfl (small h2) (by decide) (λu hu=>by
   simp[cl,ae,aj,vr,cn,bU,fG u 0 99 (hp u hu)])
  have w':cl aR (ae (vr 0) (ae (cn (.int 1)) (ae (cn (.int 4)) aj))) [.va (.tup l)] = .ok (.bl true):=w
  show cv _= .ok (.bl (true&&(l.all (λu=>aX u 0 99)&&(match nums l with | some m=>my m | none=>false))))
  cases qa:l.all λu=>aX u 0 99 with
  | false=>
   rw[qa]at e
   simp[cv,val,fo,fL,bZ,aD,gD,fO,tb,sN,aW,dO,e,w']
  | true=>
   rw[qa]at e;obtain⟨m,em⟩:=uj qa
   have el:=pW em
   have er:=GK m (by rw[el,Ob]at h2;exact h2)
   rw[<-el]at er
   have er':cl kx (ae (vr 0) aj) [.va (.tup l)] = .ok (.bl (my m)):=er;simp[cv,val,fo,fL,bZ,aD,gD,fO,tb,sN,aW,dO,e,w',er',em]
def at_ (t:T)(k:Nat):T:=match t.items with
 | some l=>l.getD k .non
 | none=> .non
def bJ (t:T):Bool:=eK t 3 3&&(match t with
 | .tup [x,y,r] =>mQ x y&&cC r
 | _=>false)
theorem GP (t:T)(h:t.pl=true):dS [t] = .ok (.bl (bJ t)):=by
 have w:aR [t,.int 3,.int 3] = .ok (.bl (eK t 3 3)):=lA t 3 3 h;unfold bJ
 cases q:eK t 3 3 with
 | false=>rw[q]at w;simp[dS,val,fo,jl,bZ,aW,dO,cl,vr,cn,ae,aj,w]
 | true=>
  rw[q]at w;obtain⟨l,rfl,h1,h2⟩:=dW q
  match l,h1,h2 with
  | [x,y,r],_,_=>
   simp[T.pl,plS]at h;obtain⟨px,py,pr⟩:=h
   have g0:aU (.tup [x,y,r]) (.int 0)= .ok x:=rfl
   have g1:aU (.tup [x,y,r]) (.int 1)= .ok y:=rfl
   have g2:aU (.tup [x,y,r]) (.int 2)= .ok r:=rfl
   have ep:=Kj x y px py
   have er:=yH r pr
   cases qp:mQ x y with
   | false=>rw[qp]at ep;simp[dS,val,fo,jl,bZ,aW,dO,cl,vr,cn,ae,aj,o2,w,g0,g1,ep,qp]
   | true=>rw[qp]at ep;simp[dS,val,fo,jl,bZ,aW,dO,cl,vr,cn,ae,aj,o2,w,g0,g1,g2,ep,er,qp]
def bp (t:T):Bool:=eK t 1 4&&(match t with
 | .tup l=>l.all bJ
 | _=>false)
theorem Ek (t:T)(h:t.pl=true):eh [t] = .ok (.bl (bp t)):=by
 have w:aR [t,.int 1,.int 4] = .ok (.bl (eK t 1 4)):=lA t 1 4 h;unfold bp
 cases q:eK t 1 4 with
 | false=>rw[q]at w;simp[eh,val,fo,jm,bZ,aW,dO,cl,vr,cn,ae,aj,w]
 | true=>
  rw[q]at w;obtain⟨l,rfl,h1,h2⟩:=dW q
  have hp:∀u∈l,u.pl=true:=λu hu=>lS (by unfold T.pl at h;exact h) hu
  have e:=uW (fe:=cl dS (ae (vr 0) aj)) (p:=bJ) (src:=[none]) (fi:=iS (vr 0)) (Z:=[.va (.tup l)]) rfl (small h2) (by decide) (λu hu=>by
   simp[cl,ae,aj,vr,cn,bU,GP u (hp u hu)])
  have w':cl aR (ae (vr 0) (ae (cn (.int 1)) (ae (cn (.int 4)) aj))) [.va (.tup l)] = .ok (.bl true):=w;simp[eh,val,fo,jm,bZ,aW,dO,e,w']
def eZ (x y:T):Bool:=aX x 0 999&&(match x,y with
 | _,.non=>true
 | .int i,_=>aX y i 999
 | _,_=>false)
theorem GO (x y:T)(hx:x.pl=true)(hy:y.pl=true):jc [x,y] = .ok (.bl (eZ x y)):=
 aZ rfl (bB (l8 (aE (ts:=[x,.int 0,.int 999]) rfl (fG x 0 999 hx)) λq=>by
  cases x with
  | int i=>
   refine Eq.trans (JZ (p:=y.isN) (q:=aX y i 999) (ay (t:=y) (u:=.non) rfl rfl rfl) λ_=>aE (ts:=[y,.int i,.int 999]) rfl (fG y i 999 hy)) ?_
   cases y <;> rfl
  | _=>cases q))
def reads (cs:List T)(c:Int):Nat:=if 0<=c then(match cs[c.toNat]? with
 | some (.tup [_,_,.tup r])=>r.length
 | _=>0)else 0
def bh (cs:List T)(t:T):Bool:=match t with
 | .tup [.int c,.int k] =>decide (0<=c)&&decide (c<cs.length)&&(decide (0<=k)&&decide (k<reads cs c))
 | _=>false
theorem nS {t:T}(h:bJ t=true):∃x y r,t= .tup [x,y,.tup r]:=by
 unfold bJ at h;rw[N9]at h;obtain⟨h1,h2⟩:=h;obtain⟨l,rfl,h3,h4⟩:=dW h1
 match l,h3,h4,h2 with
 | [x,y,r],_,_,h2=>
  simp only[N9]at h2;obtain⟨_,h5⟩:=h2;unfold cC at h5;rw[N9]at h5;obtain⟨m,rfl,_⟩:=dW h5.1;exact⟨x,y,m,rfl⟩
theorem dq {t:T}{a b:Int}(h:aX t a b=true):∃i,t= .int i/\a<=i/\i<=b:=by
 cases t with
 | int i=>unfold aX at h;rw[N9]at h;exact⟨i,rfl,of_decide_eq_true h.1,of_decide_eq_true h.2⟩
 | _=>cases h
theorem Ag (cs:List T)(t:T)(hc:bp (.tup cs)=true)(h:t.pl=true):gV [.tup cs,t] = .ok (.bl (bh cs t)):=by
 have w:aR [t,.int 2,.int 2] = .ok (.bl (eK t 2 2)):=lA t 2 2 h
 cases q:eK t 2 2 with
 | false=>
  rw[q]at w
  have:bh cs t=false:=by
   unfold bh;split
   ·cases q
   ·rfl
  rw[this]
  exact aZ rfl (fB ((dA (wI (dX (k:=false) (bx (aE (ts:=[t,.int 2,.int 2]) rfl w))))).trans rfl))
 | true=>
  rw[q]at w;obtain⟨l,rfl,h1,h2⟩:=dW q
  match l,h1,h2 with
  | [x,y],_,_=>
   simp[T.pl,plS]at h;obtain⟨px,py⟩:=h
   have g0:aU (.tup [x,y]) (.int 0)= .ok x:=rfl
   have g1:aU (.tup [x,y]) (.int 1)= .ok y:=rfl
   have gl:cz [.tup cs] = .ok (.int cs.length):=rfl
   have e1:=fG x 0 ((cs.length:Int) - 1) px
   cases q1:aX x 0 ((cs.length:Int) - 1)with
   | false=>
    rw[q1]at e1
    have:bh cs (.tup [x,y])=false:=by
     cases x with
     | int c=>
      cases y with
      | int k=>
       simp only[aX,UL,decide_eq_false_iff_not]at q1;simp only[bh,UL,decide_eq_false_iff_not]
       omega
      | _=>rfl
     | _=>rfl
    rw[this]
    exact aZ rfl (fB ((dA (l6 (dX (k:=true) (bx (aE (ts:=[.tup [x,y],.int 2,.int 2]) rfl w))) (dX (k:=false) (bx (aE (ts:=[x,.int 0,.int ((cs.length:Int) - 1)]) rfl e1))))).trans rfl))
   | true=>
    rw[q1]at e1;obtain⟨c,rfl,c1,c2⟩:=dq q1;obtain⟨n,rfl⟩:=Pv c1
    have hn:n<cs.length:=by omega
    have hcl:bJ cs[n] =true:=by
     unfold bp at hc;rw[N9]at hc;exact OG.mp hc.2 _ (PQ hn)
    obtain⟨a,b,r,er⟩:=nS hcl
    have g2:aU (.tup cs) (.int (n:Int))= .ok (.tup [a,b,.tup r]):=by
     simp only[aU,T.items];rw[jY (Of hn),er]
    have g3:aU (.tup [a,b,.tup r]) (.int 2)= .ok (.tup r):=rfl
    have gr:cz [.tup r] = .ok (.int r.length):=rfl
    have e2:=fG y 0 ((r.length:Int) - 1) py
    have:bh cs (.tup [.int n,y])=aX y 0 ((r.length:Int) - 1):=by
     have er2:reads cs (n:Int)=r.length:=by
      unfold reads;rw[if_pos c1,PC,Of hn,er]
     cases y with
     | int k=>
      simp only[bh,aX,er2];rw[decide_eq_true c1,decide_eq_true (show(n:Int)<cs.length by omega)]
      simp only[Rt]
      congr 1
      exact decide_eq_decide.mpr (by omega)
     | _=>rfl
    rw[this];exact aZ rfl ((aw ((dt (l6 (dX (k:=true) (bx (aE (ts:=[.tup [.int n,y],.int 2,.int 2]) rfl w))) (dX (k:=true) (bx (aE (ts:=[.int n,.int 0,.int ((cs.length:Int) - 1)]) rfl e1))))).trans rfl)).trans (bB (aE (ts:=[y,.int 0,.int ((r.length:Int) - 1)]) (ar rfl (ar rfl (ar (ay (t:=.int (r.length:Nat)) (u:=.int 1) (aE (ts:=[.tup r]) (ar (ay (t:=.tup [a,b,.tup r]) (u:=.int 2) (ay (t:=.tup cs) (u:=.int n) rfl rfl g2) rfl g3) rfl) rfl) rfl rfl) rfl))) e2)))
def bN (cs:List T)(t:T):Bool:=match t with
 | .tup [a,b,x,y] =>eZ x y&&(bh cs a&&(bh cs b&& !aS a b))
 | _=>false
theorem cN {cs:List T}{t:T}(h:bh cs t=true):∃c k:Int,t= .tup [.int c,.int k]:=by
 unfold bh at h
 split at h
 ·exact⟨_,_,rfl⟩
 ·cases h
theorem Eh (cs:List T)(t:T)(hc:bp (.tup cs)=true)(h:t.pl=true):gm [.tup cs,t] = .ok (.bl (bN cs t)):=by
 have w:aR [t,.int 4,.int 4] = .ok (.bl (eK t 4 4)):=lA t 4 4 h
 cases q:eK t 4 4 with
 | false=>
  rw[q]at w
  have:bN cs t=false:=by
   unfold bN;split
   ·cases q
   ·rfl
  rw[this]
  exact aZ rfl (fB ((dA (wI (dX (k:=false) (bx (aE (ts:=[t,.int 4,.int 4]) rfl w))))).trans rfl))
 | true=>
  rw[q]at w;obtain⟨l,rfl,h1,h2⟩:=dW q
  match l,h1,h2 with
  | [a,b,x,y],_,_=>
   simp[T.pl,plS]at h;obtain⟨pa,pb,px,py⟩:=h
   have e1:=GO x y px py
   have w':=dX (k:=true) (bx (aE (g:=aR) (ts:=[.tup [a,b,x,y],.int 4,.int 4]) (fs:=ae (vr 1) (ae (cn (.int 4)) (ae (cn (.int 4)) aj))) (Z:=[.va (.tup cs),.va (.tup [a,b,x,y])]) rfl w))
   show _=Rs.ok (T.bl (eZ x y&&(bh cs a&&(bh cs b&& !aS a b))))
   cases q1:eZ x y with
   | false=>
    rw[q1]at e1
    exact aZ rfl (fB ((dA (l6 w' (dX (k:=false) (bx (aE (ts:=[x,y]) rfl e1))))).trans rfl))
   | true=>
    rw[q1]at e1;rw[Rt];refine aZ rfl ((aw ((dt (l6 w' (dX (k:=true) (bx (aE (ts:=[x,y]) rfl e1))))).trans rfl)).trans (bB (l8 (aE (ts:=[.tup cs,a]) rfl (Ag cs a hc pa)) λq2=>l8 (aE (ts:=[.tup cs,b]) rfl (Ag cs b hc pb)) λ_=>ay (t:=a) (u:=b) rfl rfl ?_)))
    obtain⟨c,k,rfl⟩:=cN q2;unfold qe;rw[if_pos (g8 (by simp[T.dep,deps]) rfl (T.KB _ pb))]
def kD (cs:List T)(t:T):Bool:=eK t 0 8&&(match t with
 | .tup l=>l.all (bN cs)
 | _=>false)
theorem Bg (cs:List T)(t:T)(hc:bp (.tup cs)=true)(h:t.pl=true):dH [.tup cs,t] = .ok (.bl (kD cs t)):=by
 have w:aR [t,.int 0,.int 8] = .ok (.bl (eK t 0 8)):=lA t 0 8 h;unfold kD
 cases q:eK t 0 8 with
 | false=>rw[q]at w;simp[dH,val,fo,iG,bZ,aW,dO,cl,vr,cn,ae,aj,w]
 | true=>
  rw[q]at w;obtain⟨l,rfl,h1,h2⟩:=dW q
  have hp:∀u∈l,u.pl=true:=λu hu=>lS (by unfold T.pl at h;exact h) hu
  have e:=uW (fe:=cl gm (ae (vr 1) (ae (vr 0) aj))) (p:=bN cs) (src:=[none,some 0]) (fi:=iS (vr 1)) (Z:=[.va (.tup cs),.va (.tup l)]) rfl (small h2) (by decide) (λu hu=>by
   simp[cl,ae,aj,vr,cn,bU,Eh cs u hc (hp u hu)])
  have w':cl aR (ae (vr 1) (ae (cn (.int 0)) (ae (cn (.int 8)) aj))) [.va (.tup cs),.va (.tup l)] = .ok (.bl true):=w;simp[dH,val,fo,iG,bZ,aW,dO,e,w']
def gu (t:T):Bool:=match t with
 | .tup [.tup cs,ls] =>bp (.tup cs)&&kD cs ls
 | _=>false
theorem wW (t:T)(h:t.pl=true):ij [t] = .ok (.bl (gu t)):=by
 have w:aR [t,.int 2,.int 2] = .ok (.bl (eK t 2 2)):=lA t 2 2 h
 cases q:eK t 2 2 with
 | false=>
  rw[q]at w
  have:gu t=false:=by
   unfold gu;split
   ·cases q
   ·rfl
  rw[this]
  exact aZ rfl (bB (l9 (aE (ts:=[t,.int 2,.int 2]) rfl w)))
 | true=>
  rw[q]at w;obtain⟨l,rfl,h1,h2⟩:=dW q
  match l,h1,h2 with
  | [x,y],_,_=>
   simp[T.pl,plS]at h;obtain⟨px,py⟩:=h
   have g0:aU (.tup [x,y]) (.int 0)= .ok x:=rfl
   have g1:aU (.tup [x,y]) (.int 1)= .ok y:=rfl
   have e1:=Ek x px
   cases q1:bp x with
   | false=>
    rw[q1]at e1
    have:gu (.tup [x,y])=false:=by
     cases x with
     | tup cs=>show(bp (.tup cs)&&_)=false;rw[q1];rfl
     | _=>rfl
    rw[this]
    exact aZ rfl (bB ((jg (aE (ts:=[.tup [x,y],.int 2,.int 2]) rfl w)).trans (l9 (aE (ts:=[x]) rfl e1))))
   | true=>
    rw[q1]at e1
    cases x with
    | tup cs=>
     have e2:=Bg cs y q1 py
     have:gu (.tup [.tup cs,y])=kD cs y:=by show(bp (.tup cs)&&_)=_;rw[q1];rfl
     rw[this]
     exact aZ rfl (bB ((jg (aE (ts:=[.tup [.tup cs,y],.int 2,.int 2]) rfl w)).trans ((jg (aE (ts:=[.tup cs]) rfl e1)).trans (aE (ts:=[.tup cs,y]) rfl e2))))
    | _=>cases q1
theorem gI:∀m:List Int,deps (m.map .int)=0
 | [] =>rfl
 | a::m=>by rw[Oc,deps,gI m];rfl
def n8 (i n:Nat):List T:=(rng 0 n).map λt=>T.tup [.int i,t]
def IC:T->Nat
 | .tup [_,_,.tup r] =>r.length
 | _=>0
def fP:Nat->List T->List T
 | _,[] => []
 | i,c::r=>n8 i (IC c)++fP (i+1) r
theorem iu {t:T}(h:bJ t=true):∃x y r,t= .tup [x,y,.tup r]/\1<=r.length/\r.length<=4:=by
 obtain⟨x,y,r,rfl⟩:=nS h
 have:cC (.tup r)=true:=by
  have h':(mQ x y&&cC (.tup r))=true:=h;rw[N9]at h';exact h'.2
 unfold cC at this;rw[N9]at this;obtain⟨l,e,h1,h2⟩:=dW this.1;cases e;exact⟨x,y,r,rfl,h1,h2⟩
theorem jW (i n:Nat):(n8 i n).length=n:=by unfold n8;rw[Ob,lO]
abbrev evF:En->Rs Fl:=cI (o2 aV (vr 1) (d6 (iR (ae (cl cz (ae (o2 aU (vr 3) (cn (.int 2))) aj)) aj)) [none,some 2] (gN 0) bT (aP (ae (vr 1) (ae (vr 0) aj))))) (gN 1)
abbrev evG:T->En->Rs En:=gT 2 (iX (gN 2) (iX (gN 3) u7))
theorem HL {f:En->Rs (List T)}{Z:En}{j:Int}(h:f Z= .ok [.int j])(h0:0<=j)(h1:j<=100000):iR f Z= .ok (rng 0 j):=by
 have e:mf j=true:=by unfold mf;rw[N9];exact⟨decide_eq_true (by omega),decide_eq_true (by omega)⟩
 unfold iR;rw[h]
 show(if mf j=true then _ else _)=_
 rw[e];rfl
theorem oN (l m:List T)(h:(l++m).length<=1000):aV (.lst l) (.lst m)= .ok (.lst (l++m)):=by
 show k7 (l++m)=_
 unfold k7;rw[if_pos (aB h)]
theorem uX (l m:List T)(h:(l++m).length<=1000):aV (.tup l) (.tup m)= .ok (.tup (l++m)):=by
 show k6 (l++m)=_
 unfold k6;rw[if_pos (aB h)]
theorem Mo (c0 acc x y:T)(r:List T)(i:Nat)(h:r.length<=4) :
  d6 (iR (ae (cl cz (ae (o2 aU (vr 3) (cn (.int 2))) aj)) aj)) [none,some 2] (gN 0) bT (aP (ae (vr 1) (ae (vr 0) aj))) [.va c0,.va acc,.va (.int i),.va (.tup [x,y,.tup r])] = .ok (.lst (n8 i r.length)):=
 m6 (HL rfl (by omega) (by omega)) (aB (by rw[lO];exact h)) (by simp) λt _=>mk2 _ _
theorem GF (c0 x y:T)(acc r:List T)(i:Nat)(h:r.length<=4)(ha:acc.length<=100):evF [.va c0,.va (.lst acc),.va (.int i),.va (.tup [x,y,.tup r])] = .ok (.nx [.va c0,.va (.lst (acc++n8 i r.length)),.va (.int i),.va (.tup [x,y,.tup r])]):=
 bM (ay rfl (Mo c0 (.lst acc) x y r i h) (oN _ _ (by rw[Om,jW];omega))) rfl
theorem Ae:∀(cs:List T) (c0:T) (acc:List T) (i:Nat) (s2 s3:Sl),(∀c∈cs,bJ c=true)->acc.length+4*cs.length<=100 →
  ∃y2 y3,bD evG evF (dN i cs) [.va c0,.va (.lst acc),s2,s3] = .ok (.nx [.va c0,.va (.lst (acc++fP i cs)),y2,y3])
 | [],c0,acc,i,s2,s3,_,_=>⟨s2,s3,by simp[dN,bD,fP]⟩
 | c::cs,c0,acc,i,s2,s3,hc,hl=>by
  obtain⟨x,y,r,rfl,r1,r2⟩:=iu (hc c Oe);rw[Oj]at hl;obtain⟨z2,z3,ih⟩:=Ae cs c0 (acc++n8 i r.length) (i+1) (.va (.int i)) (.va (.tup [x,y,.tup r])) (λc h=>hc c (N8 _ h)) (by rw[Om,jW];omega)
  refine⟨z2,z3,?_⟩
  rw[dN,dM rfl (GF c0 x y acc r i r2 (by omega)),ih,fP,OS]
  rfl
theorem cj {cs:List T}(hc:bp (.tup cs)=true):(∀c∈cs,bJ c=true)/\1<=cs.length/\cs.length<=4:=by
 unfold bp at hc;rw[N9]at hc;obtain⟨l,e,h1,h2⟩:=dW hc.1;cases e;exact⟨λc h=>OG.mp hc.2 c h,h1,h2⟩
theorem qF (cs:List T)(hc:bp (.tup cs)=true):bf [.tup cs] = .ok (.lst (fP 0 cs)):=by
 obtain⟨ha,h1,h2⟩:=cj hc;obtain⟨y2,y3,e⟩:=Ae cs (.tup cs) [] 0 .em .em ha (by simp;omega)
 rw[P4]at e;refine aZ rfl ?_
 unfold la;rw[aw (Z':=[.va (.tup cs),.va (.lst []),.em,.em]) rfl,aw ((fT rfl e))]
 rfl
theorem Gg {n k:Nat}(h:k<n):T.int (k:Int)∈rng 0 (n:Int):=by
 unfold rng;exact Oq.mpr ⟨k,OY.mpr (by omega),by simp⟩
theorem rO (cs:List T)(c:Nat):reads cs (c:Int)=IC (cs.getD c .non):=by
 unfold reads;rw[if_pos (by omega),PC,O5]
 cases cs[c]? with
 | none=>rfl
 | some t=>
  cases t with
  | tup l=>
   match l with
   | [] =>rfl
   | [_] =>rfl
   | [_,_] =>rfl
   | [_,_,z] =>cases z <;> rfl
   | _::_::z::_::_=>cases z <;> rfl
  | _=>rfl
mutual
def sm (n:Nat):T->Bool
 | .dct _ _=>false
 | .scr _=>false
 | .tup l=>decide (l.length<=n)&&sms n l
 | .lst l=>decide (l.length<=n)&&sms n l
 | _=>true
def sms (n:Nat):List T->Bool
 | [] =>true
 | t::l=>sm n t&&sms n l
end
mutual
theorem Ho {n:Nat}:∀(t:T),sm n t=true->t.pl=true
 | .scr _,h=>by simp[sm]at h
 | .dct _ _,h=>by simp[sm]at h
 | .tup l,h=>by rw[sm,N9]at h;rw[T.pl];exact sms_pl l h.2
 | .lst l,h=>by rw[sm,N9]at h;rw[T.pl];exact sms_pl l h.2
 | .non,_=>by simp[T.pl]
 | .bl _,_=>by simp[T.pl]
 | .int _,_=>by simp[T.pl]
 | .str _,_=>by simp[T.pl]
theorem sms_pl {n:Nat}:∀(l:List T),sms n l=true->plS l=true
 | [],_=>by simp[plS]
 | t::l,h=>by rw[sms,N9]at h;rw[plS,Ho t h.1,sms_pl l h.2];rfl
end
theorem zi {n:Nat}:∀{l:List T},sms n l=true↔ ∀t∈l,sm n t=true
 | [] =>by simp[sms]
 | t::l=>by rw[sms,N9,zi];simp
theorem sm_tup {n:Nat}{l:List T}:sm n (.tup l)=true↔l.length<=n/\∀t∈l,sm n t=true:=by rw[sm,N9,zi,decide_eq_true_iff]
theorem lz {i j:Int}(h:0<j):l0 (.int i) (.int j)= .ok (.int (i % j)):=by show(if _ then _ else _)=_;rw[if_pos h]
theorem oH {i j:Int}(h:0<j)(h2:j<1073741824):ml (.int i) (.int j)= .ok (.int (i / j)):=by show(if _ then _ else _)=_;rw[if_pos ⟨h,h2⟩]
theorem lZ {i j:Int}(h : -18446744073709551616<i)(h2:i<18446744073709551616):cu (.int i) (.int j)= .ok (.int (i*j)):=by
 show yj (.int i) (.int j)=_
 show(if _ then _ else _)=_
 rw[if_pos (.inl ⟨by omega,by omega⟩)]
theorem C9 {i j:Int}(h : -18446744073709551616<j)(h2:j<18446744073709551616):cu (.int i) (.int j)= .ok (.int (i*j)):=by
 show yj (.int i) (.int j)=_
 show(if _ then _ else _)=_
 rw[if_pos (.inr ⟨by omega,by omega⟩)]
theorem Kl (ns:List Int)(k:Nat)(hn:ns.length<=63):∃c,gp [.scr ns,.int k] = .ok (.int c):=by
 have e0:o2 n9 (vr 0) (dz aj) [.va (.scr ns),.va (.int k)] = .ok (.bl (k9 ns [])):=by
  refine ay rfl (jR rfl (aB (Ot _))) ?_
  unfold n9;rw[if_pos (g8 (by simp[T.dep]) rfl rfl)]
  rfl
 cases ns with
 | nil=>
  refine⟨7*k,aZ rfl ?_⟩
  unfold kf
  refine fB ((dA (bx e0)).trans (bB (ay rfl rfl (lZ (by omega) (by omega)))))
 | cons a r=>
  have hl:(0:Int)<((a::r).length:Nat):=by simp only[Oj];omega
  have hl2:(((a::r).length:Nat):Int)<1073741824:=by simp only[Oj]at hn ⊢;omega
  have hi:k % (a::r).length<(a::r).length:=Nat.mod_lt _ (by simp)
  have g0:o2 l0 (vr 1) (cl cz (ae (vr 0) aj)) [.va (.scr (a::r)),.va (.int k)] = .ok (.int ((k % (a::r).length:Nat):Int)):=by
   refine ay rfl ?_ (by rw[lz hl];rfl)
   refine aE rfl ?_
   show Rs.ok (T.int (((a::r).map T.int).length:Nat))=_
   rw[Ob]
  have g1:aU (.scr (a::r)) (.int ((k % (a::r).length:Nat):Int))= .ok (.int (a::r)[k % (a::r).length]):=by
   have e:((a::r).map T.int)[k % (a::r).length]? =some (.int (a::r)[k % (a::r).length]):=by rw[Ov,Of hi];rfl
   show(match L2.atI ((a::r).map T.int) ((k % (a::r).length:Nat):Int)with | some t=>Rs.ok t | none=> .bad)=_
   rw[jY e]
  have g2:o2 ml (vr 1) (cl cz (ae (vr 0) aj)) [.va (.scr (a::r)),.va (.int k)] = .ok (.int ((k:Int) / ((a::r).length:Nat))):=by
   refine ay rfl ?_ (oH hl hl2)
   refine aE rfl ?_
   show Rs.ok (T.int (((a::r).map T.int).length:Nat))=_
   rw[Ob]
  refine⟨(a::r)[k % (a::r).length] +6553*((k:Int) / ((a::r).length:Nat)),aZ rfl ?_⟩
  unfold kf
  show aD _ _ [.va (.scr (a::r)),.va (.int k)] =_
  refine(aw ((dt (bx e0)).trans rfl)).trans ?_
  exact bB (ay (ay rfl g0 g1) (ay rfl g2 (lZ (by omega) (by omega))) rfl)
theorem eC (ns:List Int)(k:Nat)(m:Int)(hn:ns.length<=63)(hm:0<m):∃r,aJ [.scr ns,.int k,.int m] = .ok (.int r)/\0<=r/\r<m:=by
 obtain⟨c,hc⟩:=Kl ns k hn
 have b1:∀x:Int,0<=x % 2147483563/\x % 2147483563<2147483563:=λx=>⟨UM _ (by omega),TB _ (by omega)⟩
 have b2:∀x:Int,0<=x % 2147483399/\x % 2147483399<2147483399:=λx=>⟨UM _ (by omega),TB _ (by omega)⟩
 generalize hx:(c % 2147483563*69069+104723*((k:Int)+1)) % 2147483563=x
 have hx':=b1 (c % 2147483563*69069+104723*((k:Int)+1));rw[hx]at hx'
 generalize hy:(x*x+x / 3) % 2147483399=y
 have hy':=b2 (x*x+x / 3);rw[hy]at hy';refine⟨(y*y+y / 7) % 2147483647 / 11 % m,aZ rfl ?_,UM _ (by omega),TB _ hm⟩
 show jq [.va (.scr ns),.va (.int k),.va (.int m),.em] =_
 unfold jq
 have s1:cI (o2 l0 (o2 aV (o2 cu (o2 l0 (cl gp (ae (vr 0) (ae (vr 1) aj))) (cn (.int 2147483563))) (cn (.int 69069))) (o2 cu (cn (.int 104723)) (o2 aV (vr 1) (cn (.int 1))))) (cn (.int 2147483563))) (gN 3) [.va (.scr ns),.va (.int k),.va (.int m),.em] = .ok (.nx [.va (.scr ns),.va (.int k),.va (.int m),.va (.int x)]):=by
  refine bM (ay (ay (ay (ay (aE rfl hc) rfl (lz (by omega))) rfl (C9 (by omega) (by omega))) (ay rfl rfl (lZ (by omega) (by omega))) rfl) rfl ?_) rfl
  rw[lz (by omega),hx]
 have s2:cI (o2 l0 (o2 aV (o2 cu (vr 3) (vr 3)) (o2 ml (vr 3) (cn (.int 3)))) (cn (.int 2147483399))) (gN 3) [.va (.scr ns),.va (.int k),.va (.int m),.va (.int x)] = .ok (.nx [.va (.scr ns),.va (.int k),.va (.int m),.va (.int y)]):=by
  refine bM (ay (ay (ay rfl rfl (lZ (by omega) (by omega))) (ay rfl rfl (oH (by omega) (by omega))) rfl) rfl ?_) rfl
  rw[lz (by omega),hy]
 rw[aw s1,aw s2];exact bB (ay (ay (ay (ay (ay rfl rfl (lZ (by omega) (by omega))) (ay rfl rfl (oH (by omega) (by omega))) rfl) rfl (lz (by omega))) rfl (oH (by omega) (by omega))) rfl (lz hm))
theorem eY {ns:List Int}{k:Nat}{m r:Int}{f g h:En->Rs T}{Z:En}(e:aJ [.scr ns,.int k,.int m] = .ok (.int r))(h1:f Z= .ok (.scr ns))(h2:g Z= .ok (.int k))(h3:h Z= .ok (.int m)) :
  cl aJ (ae f (ae g (ae h aj))) Z= .ok (.int r):=aE (ar h1 (ar h2 (ar h3 rfl))) e
theorem vK:∀(l:List Int) (z y:Int),my (l++ [z])=true->z<y->my (l++ [z] ++ [y])=true
 | [],z,y,_,h=>by simp[my,h]
 | [a],z,y,h,hy=>by
  simp[my]at h ⊢
  omega
 | a::b::l,z,y,h,hy=>by
  have h':my (a::b::(l++ [z]))=true:=h;rw[AG,N9]at h'
  have ih:=vK (b::l) z y h'.2 hy
  show my (a::b::(l++ [z] ++ [y]))=true
  rw[AG,h'.1];exact ih
theorem gS:∀l:List Int,nums (l.map .int)=some l
 | [] =>rfl
 | a::l=>by rw[Oc,nums,gS l]
def RdOk (l:List Int):Prop:=∃(l':List Int) (z:Int),l=l'++ [z]/\my l=true/\(∀x∈l,0<=x/\x<=5*l.length)/\z<=5*l.length
abbrev clF:En->Rs Fl:=cI (o2 aV (vr 3) (aP (ae (o2 aV (o2 aV (o2 aU (vr 3) (o1 kP (cn (.int 1)))) (cn (.int 1))) (cl aJ (ae (vr 0) (ae (o2 aV (o2 aV (vr 1) (cn (.int 3))) (vr 4)) (ae (cn (.int 5)) aj))))) aj))) (gN 3)
theorem Gx (l:List T)(z:T):aU (.tup (l++ [z])) (.int (-1))= .ok z:=by
 have e:L2.atI (l++ [z]) (-1)=some z:=by
  unfold L2.atI L2.ixN;simp;rw[if_pos (by omega)]
  have q:(-1+((l.length:Int)+1)).toNat=l.length:=by omega
  show(l++ [z])[(-1+((l.length:Int)+1)).toNat]? =some z
  rw[q];simp
 show(match L2.atI (l++ [z]) (-1)with | some t=>Rs.ok t | none=> .bad)=_
 rw[e]
theorem GZ (ns:List Int)(hn:ns.length<=63)(a j:Nat)(s:T)(l:List Int)(h:RdOk l)(hl:l.length<=3):∃l2,clF [.va (.scr ns),.va (.int a),.va s,.va (.tup (l.map .int)),.va (.int j)] = .ok (.nx [.va (.scr ns),.va (.int a),.va s,.va (.tup (l2.map .int)),.va (.int j)])/\RdOk l2/\l2.length=l.length+1:=by
 obtain⟨l',z,rfl,h1,h2,h3⟩:=h;obtain⟨d,ed,d0,d1⟩:=eC ns (a+3+j) 5 hn (by omega)
 refine⟨l'++ [z] ++ [z+1+d],?_,⟨l'++ [z],z+1+d,rfl,vK l' z _ h1 (by omega),?_,?_⟩,by simp⟩
 ·refine bM (ay rfl (dy (ar (ay (ay (t:=.int z) (ay rfl rfl ?_) rfl rfl) (eY ed rfl ?_ rfl) rfl) rfl) (aB (k:=1) (by simp))) ?_) rfl
  ·rw[PF];exact Gx _ _
  ·refine ay (ay rfl rfl rfl) rfl ?_
   show Rs.ok (T.int ((a:Int)+3+j))=_
   congr 2
  ·rw[PF (l₁:=l'++ [z])]
   exact uX _ _ (by rw[Om,Ob];simp at hl ⊢;omega)
 ·intro x hx
  rcases OR.mp hx with hx | hx
  ·have:=h2 x hx
   simp only[Om,QH]at this ⊢;omega
  ·rw[OB]at hx
   subst hx
   have hz:=h2 z (by simp)
   simp only[Om,QH]at h3 ⊢;omega
 ·simp only[Om,QH]at h3 ⊢
  omega
theorem Am (ns:List Int)(hn:ns.length<=63)(a:Nat)(s:T):∀(js:List Nat) (l:List Int) (s4:Sl),RdOk l->l.length+js.length<=4->∃l2 s5,bD (gN 4) clF (js.map λ(j:Nat)=>T.int j) [.va (.scr ns),.va (.int a),.va s,.va (.tup (l.map .int)),s4] = .ok (.nx [.va (.scr ns),.va (.int a),.va s,.va (.tup (l2.map .int)),s5])/\RdOk l2/\l2.length=l.length+js.length
 | [],l,s4,h,_=>⟨l,s4,rfl,h,rfl⟩
 | j::js,l,s4,h,hl=>by
  rw[Oj]at hl;obtain⟨l2,e2,h2,n2⟩:=GZ ns hn a j s l h (by omega)
  obtain⟨l3,s5,e3,h3,n3⟩:=Am ns hn a s js l2 (.va (.int j)) h2 (by omega)
  refine⟨l3,s5,?_,h3,by rw[n3,n2,Oj];omega⟩
  rw[Oc,dM rfl e2];exact e3
theorem i7 (n:Nat):rng 0 (n:Int)=(On n).map λ(j:Nat)=>T.int j:=by
 unfold rng;simp
theorem RdOk.reads {l:List Int}(h:RdOk l)(hl:l.length<=4):cC (.tup (l.map .int))=true:=by
 obtain⟨l',z,rfl,h1,h2,h3⟩:=h;unfold cC;rw[N9];refine⟨?_,?_⟩
 ·simp[eK];simp at hl;omega
 ·show(((l'++ [z]).map T.int).all (λu=>aX u 0 99)&&(match nums ((l'++ [z]).map T.int)with | some m=>my m | none=>false))=true
  rw[gS]
  show(_&&my (l'++ [z]))=true
  rw[h1,VI,OG];intro t ht;obtain⟨x,hx,rfl⟩:=Oq.mp ht
  have:=h2 x hx;simp only[aX,N9,decide_eq_true_eq];omega
theorem Fm (n:Nat)(l:List Int)(h:l.length<=n):sm n (.tup (l.map .int))=true:=sm_tup.mpr ⟨by rw[Ob];exact h,λt ht=>by obtain⟨x,_,rfl⟩:=Oq.mp ht;simp[sm]⟩
theorem Ej (ns:List Int)(hn:ns.length<=63)(a:Nat):∃c,dh [.scr ns,.int a] = .ok c/\bJ c=true/\sm 8 c=true:=by
 obtain⟨d1,e1,p1,q1⟩:=eC ns a 3 hn (by omega)
 obtain⟨d2,e2,p2,q2⟩:=eC ns (a+2) 6 hn (by omega)
 obtain⟨d3,e3,p3,q3⟩:=eC ns (a+1) 3 hn (by omega)
 obtain⟨d4,e4,p4,q4⟩:=eC ns (a+6) 3 hn (by omega)
 obtain⟨n3,rfl⟩:=Pv p3;obtain⟨l,s5,el,hl,nl⟩:=Am ns hn a (.int (1+d1)) (On n3) [d2] .em ⟨[],d2,rfl,rfl,λx hx=>by rw[OB]at hx;subst hx;simp;omega,by simp;omega⟩ (by simp;omega)
 have nl':l.length<=4:=by rw[nl];simp;omega
 have hr:=hl.reads nl';refine⟨.tup [.int (1+d1),.int (1+d1+d4),.tup (l.map .int)],aZ rfl ?_,?_,?_⟩
 ·show jr [.va (.scr ns),.va (.int a),.em,.em,.em] =_
  unfold jr;rw[aw (bM (ay rfl (eY e1 rfl rfl rfl) rfl) rfl)];rw[aw (bM (dy (ar (eY e2 rfl rfl rfl) rfl) (aB (k:=1) (by simp))) rfl)]
  rw[aw ((fT (HL (ar (eY e3 rfl rfl rfl) rfl) (by omega) (by omega)) (by rw[i7];exact el)))]
  exact bB (dy (ar rfl (ar (ay rfl (eY e4 rfl rfl rfl) rfl) (ar rfl rfl))) (aB (k:=3) (by simp)))
 ·show(true&&(mQ (.int (1+d1)) (.int (1+d1+d4))&&cC _))=true
  rw[hr];simp only[mQ,aX,Rt,VI,N9,decide_eq_true_eq];omega
 ·refine sm_tup.mpr ⟨by simp,λt ht=> ?_⟩
  rcases Og.mp ht with rfl | ht
  ·simp[sm]
  ·rcases Og.mp ht with rfl | ht
   ·simp[sm]
   ·rw[OB]at ht;subst ht;exact Fm 8 l (by omega)
theorem ou {y:T}:∀(cs:List T) (i:Nat),y∈fP i cs->∃c k:Nat,y= .tup [.int c,.int k]/\i<=c/\c<i+cs.length/\k<IC (cs.getD (c - i) .non)
 | [],i,h=>by cases h
 | x::cs,i,h=>by
  rw[fP]at h;rcases OR.mp h with h | h
  ·unfold n8 at h
   obtain⟨t,ht,rfl⟩:=Oq.mp h;obtain⟨j,rfl,hj⟩:=tN ht;refine⟨i,j,rfl,Ot _,by rw[Oj];omega,?_⟩
   rw[SJ]
   show j<IC x
   omega
  ·obtain⟨c,k,e,h1,h2,h3⟩:=ou cs (i+1) h
   refine⟨c,k,e,by omega,by rw[Oj];omega,?_⟩
   have:c - i=(c - (i+1))+1:=by omega
   rw[this];exact h3
theorem nQ {cs:List T}{y:T}(h:y∈fP 0 cs):bh cs y=true:=by
 obtain⟨c,k,rfl,_,h2,h3⟩:=ou cs 0 h
 show(decide ((0:Int)<=(c:Int))&&decide ((c:Int)<(cs.length:Int))&&(decide ((0:Int)<=(k:Int))&&decide ((k:Int)<(reads cs (c:Int):Int))))=true
 rw[SK]at h3;rw[rO];simp only[N9,decide_eq_true_eq];omega
theorem mV:∀(cs:List T) (i:Nat),(fP i cs).Nodup
 | [],i=>Rc
 | x::cs,i=>by
  rw[fP,PU];refine⟨?_,mV cs (i+1),?_⟩
  ·unfold n8 rng
   rw[OM];rw[Tq,Wc];refine List.nodup_range.imp ?_
   intro a b hab e
   simp at e
   exact hab (by omega)
  ·intro a ha b hb e
   subst e;unfold n8 at ha;obtain⟨t,ht,rfl⟩:=Oq.mp ha;obtain⟨c,k,e,h1,_,_⟩:=ou cs (i+1) hb
   simp at e
   omega
theorem C6 {l:List T}(h:l.Nodup){i j:Nat}(hi:i<l.length)(hj:j<l.length)(hij:i≠j):l[i] ≠l[j]:=by
 rw[Tq,RV]at h;rcases Rl i j with q | q
 ·exact h i j hi hj q
 ·exact λe=>h j i hj hi (by omega) e.symm
theorem uJ:∀(cs:List T) (i:Nat),(∀c∈cs,bJ c=true)->(fP i cs).length<=4*cs.length
 | [],i,_=>Ot _
 | x::cs,i,h=>by
  obtain⟨a,b,r,rfl,_,h2⟩:=iu (h x Oe)
  have:=uJ cs (i+1) λc hc=>h c (N8 _ hc)
  rw[fP,Om,jW,Oj]
  show r.length+_<=_
  omega
theorem D9 {cs:List T}{a b:T}(ha:bh cs a=true)(hb:bh cs b=true)(h:a≠b):aS a b=false:=by
 obtain⟨c,k,rfl⟩:=cN ha;obtain⟨c',k',rfl⟩:=cN hb;rw[Bool.eq_false_iff];intro e;simp[aS,beqTs]at e;exact h (by rw[e.1,e.2])
theorem vC {cs:List T}{a:T}(ha:bh cs a=true):sm 8 a=true:=by
 obtain⟨c,k,rfl⟩:=cN ha;simp[sm,sms]
theorem yC {l:List T}{i:Nat}(h:i<l.length):aU (.lst l) (.int (i:Int))= .ok l[i]:=by
 show(match L2.atI l (i:Int)with | some t=>Rs.ok t | none=> .bad)=_
 rw[jY (Of h)]
theorem Eb (a b:Int):n9 (.int a) (.int b)= .ok (.bl (a == b)):=by
 unfold n9;rw[if_pos (g8 (by simp[T.dep]) rfl rfl)]
 rfl
theorem Bi (ns:List Int)(hn:ns.length<=63)(a:Nat)(cs:List T)(hc:bp (.tup cs)=true):∃r,dI [.scr ns,.int a,.tup cs] = .ok r/\(r= .non\/(bN cs r=true/\sm 8 r=true)):=by
 obtain⟨ha,h1,h4⟩:=cj hc
 have hlen:=uJ cs 0 ha
 have er:=qF cs hc
 have gl:∀s4 s5 s6 s7:Sl,cl cz (ae (vr 3) aj) [.va (.scr ns),.va (.int a),.va (.tup cs),.va (.lst (fP 0 cs)),s4,s5,s6,s7] = .ok (.int ((fP 0 cs).length:Nat)):=λ_ _ _ _=>rfl
 have s1:cI (cl bf (ae (vr 2) aj)) (gN 3) [.va (.scr ns),.va (.int a),.va (.tup cs),.em,.em,.em,.em,.em] = .ok (.nx [.va (.scr ns),.va (.int a),.va (.tup cs),.va (.lst (fP 0 cs)),.em,.em,.em,.em]):=bM (aE rfl er) rfl
 have lt:o2 wy (cl cz (ae (vr 3) aj)) (cn (.int 2)) [.va (.scr ns),.va (.int a),.va (.tup cs),.va (.lst (fP 0 cs)),.em,.em,.em,.em] = .ok (.bl (decide (((fP 0 cs).length:Int)<2))):=ay (gl _ _ _ _) rfl rfl
 by_cases hs:(fP 0 cs).length<2
 ·refine⟨.non,aZ rfl ?_,.inl rfl⟩
  show eV [.va (.scr ns),.va (.int a),.va (.tup cs),.em,.em,.em,.em,.em] =_
  unfold eV;rw[aw s1];rw[decide_eq_true (by omega)]at lt
  exact fB ((dA (bx lt)).trans rfl)
 ·rw[decide_eq_false (by omega)]at lt
  generalize hN:(fP 0 cs).length=n at*
  obtain⟨d1,e1,p1,q1⟩:=eC ns a (n:Int) hn (by omega)
  obtain⟨d2,e2,p2,q2⟩:=eC ns (a+1) ((n:Int) - 1) hn (by omega)
  obtain⟨d3,e3,p3,q3⟩:=eC ns (a+2) 8 hn (by omega)
  obtain⟨d4,e4,p4,q4⟩:=eC ns (a+3) 3 hn (by omega)
  obtain⟨d5,e5,p5,q5⟩:=eC ns (a+4) 9 hn (by omega)
  obtain⟨i,rfl⟩:=Pv p1;obtain⟨d2,rfl⟩:=Pv p2
  have hi:i<(fP 0 cs).length:=by omega
  have hj:(i+1+d2) % n<(fP 0 cs).length:=by rw[hN];exact Nat.mod_lt _ (by omega)
  have hij:i≠(i+1+d2) % n:=by
   rcases Rl (i+1+d2) n with q | q
   ·rw[WQ q];omega
   ·have:(i+1+d2) % n=i+1+d2 - n:=by
     rw[Nat.mod_eq_sub_mod q,WQ (by omega)]
    rw[this];omega
  have eA:=nQ (PQ hi)
  have eB:=nQ (PQ hj)
  have eN:(fP 0 cs)[i] ≠(fP 0 cs)[(i+1+d2) % n]:=C6 (mV cs 0) hi hj hij
  generalize hA:(fP 0 cs)[i] =A at*
  generalize hB:(fP 0 cs)[(i+1+d2) % n] =B at*
  let y:T:=if d4 == 0 then .non else .int (d3+d5)
  refine⟨.tup [A,B,.int d3,y],aZ rfl ?_,.inr ⟨?_,?_⟩⟩
  ·show eV [.va (.scr ns),.va (.int a),.va (.tup cs),.em,.em,.em,.em,.em] =_
   unfold eV;rw[aw s1];rw[aw ((dt (bx lt)).trans rfl)];rw[aw (Z':=[.va (.scr ns),.va (.int a),.va (.tup cs),.va (.lst (fP 0 cs)),.va (.int (i:Nat)),.em,.em,.em]) (bM (eY e1 rfl rfl (gl _ _ _ _)) rfl)];rw[aw (bM (ay (ay rfl (eY e2 rfl rfl (ay (gl _ _ _ _) rfl rfl)) rfl) (gl _ _ _ _) (lz (by omega))) rfl)]
   rw[aw (Z':=[.va (.scr ns),.va (.int a),.va (.tup cs),.va (.lst (fP 0 cs)),.va (.int (i:Nat)),.va (.int ((i+1+d2) % n:Nat)),.va (.int d3),.em]) (bM (eY e3 rfl rfl rfl) rfl)]
   have ey:DS (tb (o2 n9 (cl aJ (ae (vr 0) (ae (o2 aV (vr 1) (cn (.int 3))) (ae (cn (.int 3)) aj)))) (cn (.int 0)))) (cn .non) (o2 aV (vr 6) (cl aJ (ae (vr 0) (ae (o2 aV (vr 1) (cn (.int 4))) (ae (cn (.int 9)) aj))))) [.va (.scr ns),.va (.int a),.va (.tup cs),.va (.lst (fP 0 cs)),.va (.int (i:Nat)),.va (.int ((i+1+d2) % n:Nat)),.va (.int d3),.em] = .ok y:=by
    rw[wJ (bx (ay (eY e4 rfl rfl rfl) rfl (Eb _ _)))]
    show _=Rs.ok (if d4 == 0 then T.non else .int (d3+d5))
    cases d4 == 0 with
    | true=>rfl
    | false=>exact ay rfl (eY e5 rfl rfl rfl) rfl
   rw[aw (bM ey rfl)];refine bB (dy (ar (ay rfl rfl ?_) (ar (ay rfl rfl ?_) (ar rfl (ar rfl rfl)))) (aB (k:=4) (by simp)))
   ·rw[<-hA];exact yC hi
   ·rw[<-hB];exact yC hj
  ·show(eZ (.int d3) y&&(bh cs A&&(bh cs B&& !aS A B)))=true
   rw[eA,eB,D9 eA eB eN]
   have:eZ (.int d3) y=true:=by
    show(aX (.int d3) 0 999&&(match(T.int d3),(if d4 == 0 then T.non else .int (d3+d5))with | _,.non=>true | .int i,_=>aX (if d4 == 0 then T.non else .int (d3+d5)) i 999 | _,_=>false))=true
    cases d4 == 0 with
    | true=>simp[aX];omega
    | false=>simp[aX];omega
   rw[this];rfl
  ·refine sm_tup.mpr ⟨by simp,λt ht=> ?_⟩
   have hy:sm 8 y=true:=by show sm 8 (if d4 == 0 then T.non else .int (d3+d5))=true;cases d4 == 0 <;> simp[sm]
   simp only[Og,Pd,or_false]at ht;rcases ht with rfl | rfl | rfl | rfl
   ·exact vC eA
   ·exact vC eB
   ·simp[sm]
   ·exact hy
def okv:Rs T->T
 | .ok t=>t
 | _=> .non
theorem uu (l:List T)(k:Int)(h : -(2 ^ 63)<=k/\k<2 ^ 63/\l.length*k.toNat<=sizeLine):cu (.lst l) (.int k)= .ok (.lst (OJ k.toNat l).flatten):=by
 show yj (.lst l) (.int k)=_
 unfold yj;exact if_pos h
theorem mul_one (x:T)(b:Bool):cu (.lst [x]) (.int (if b then 1 else 0))= .ok (.lst (if b then [x]else [])):=by
 cases b with
 | true=>exact uu [x] 1 ⟨by decide,by decide,aB (k:=1) (by simp)⟩
 | false=>exact uu [x] 0 ⟨by decide,by decide,aB (k:=1) (by simp)⟩
abbrev leF:En->Rs Fl:=aD (cI (cl dI (ae (vr 0) (ae (o2 aV (o2 aV (vr 1) (cn (.int 31))) (o2 cu (cn (.int 6)) (vr 5))) (ae (vr 3) aj)))) (gN 6)) (cI (o2 aV (vr 4) (o2 cu (dz (ae (vr 6) aj)) (cl wL (ae (o2 fS (vr 6) (cn .non)) aj)))) (gN 4))
def BD (cs ls:List T):Prop:=∀t∈ls,bN cs t=true/\sm 8 t=true
theorem Gj (ns:List Int)(hn:ns.length<=63)(a j:Nat)(m:T)(cs ls:List T)(hc:bp (.tup cs)=true)(h:BD cs ls)(hl:ls.length<=100)(s6:Sl) :
  ∃ls2 s7,leF [.va (.scr ns),.va (.int a),.va m,.va (.tup cs),.va (.lst ls),.va (.int j),s6] = .ok (.nx [.va (.scr ns),.va (.int a),.va m,.va (.tup cs),.va (.lst ls2),.va (.int j),s7])/\BD cs ls2/\ls2.length<=ls.length+1:=by
 obtain⟨r,er,hr⟩:=Bi ns hn (a+31+6*j) cs hc
 have e1:∀G,aD (cI (cl dI (ae (vr 0) (ae (o2 aV (o2 aV (vr 1) (cn (.int 31))) (o2 cu (cn (.int 6)) (vr 5))) (ae (vr 3) aj)))) (gN 6)) G [.va (.scr ns),.va (.int a),.va m,.va (.tup cs),.va (.lst ls),.va (.int j),s6] =G [.va (.scr ns),.va (.int a),.va m,.va (.tup cs),.va (.lst ls),.va (.int j),.va r]:=λG=>by
  refine aw (bM (aE (ar rfl (ar (ay rfl (ay rfl rfl (lZ (by omega) (by omega))) rfl) (ar rfl rfl))) er) rfl)
 have e2:cl wL (ae (o2 fS (vr 6) (cn .non)) aj) [.va (.scr ns),.va (.int a),.va m,.va (.tup cs),.va (.lst ls),.va (.int j),.va r] = .ok (.int (if !r.isN then 1 else 0)):=aE rfl rfl
 refine⟨ls++(if !r.isN then [r]else []),.va r,?_,?_,?_⟩
 ·refine(e1 _).trans (bM (ay rfl (ay (jR rfl (aB (k:=1) (by simp))) e2 (mul_one _ _)) (oN _ _ ?_)) rfl)
  rw[Om];cases r.isN <;> simp <;> omega
 ·intro t ht
  rcases OR.mp ht with ht | ht
  ·exact h t ht
  ·rcases hr with rfl | hr
   ·cases ht
   ·cases q:r.isN with
    | true=>rw[q]at ht;cases ht
    | false=>
     rw[q]at ht;rw[show t=r by simpa using ht]
     exact hr
 ·rw[Om]
  cases r.isN <;> simp
theorem zR (ns:List Int)(hn:ns.length<=63)(a:Nat)(m:T)(cs:List T)(hc:bp (.tup cs)=true):∀(js:List Nat) (ls:List T) (s5 s6:Sl),BD cs ls->ls.length+js.length<=100 →
  ∃ls2 t5 t6,bD (gN 5) leF (js.map λ(j:Nat)=>T.int j) [.va (.scr ns),.va (.int a),.va m,.va (.tup cs),.va (.lst ls),s5,s6] = .ok (.nx [.va (.scr ns),.va (.int a),.va m,.va (.tup cs),.va (.lst ls2),t5,t6])/\BD cs ls2/\ls2.length<=ls.length+js.length
 | [],ls,s5,s6,h,_=>⟨ls,s5,s6,rfl,h,Ot _⟩
 | j::js,ls,s5,s6,h,hl=>by
  rw[Oj]at hl;obtain⟨l2,s7,e2,h2,n2⟩:=Gj ns hn a j m cs ls hc h (by omega) s6
  obtain⟨l3,t5,t6,e3,h3,n3⟩:=zR ns hn a m cs hc js l2 (.va (.int j)) s7 h2 (by omega)
  refine⟨l3,t5,t6,?_,h3,by rw[Oj];omega⟩
  rw[Oc,dM rfl e2];exact e3
theorem Kk (ns:List Int)(hn:ns.length<=63)(a m:Nat)(hm:m<=8):∃cs ls,f9 [.scr ns,.int a,.int m] = .ok (RR cs ls)/\bp (.tup cs)=true/\cs.length<=3/\(∀c∈cs,sm 8 c=true)/\BD cs ls/\ls.length<=m:=by
 obtain⟨d1,e1,p1,q1⟩:=eC ns a 3 hn (by omega)
 obtain⟨d2,e2,p2,q2⟩:=eC ns (a+30) ((m:Int)+1) hn (by omega)
 obtain⟨d1,rfl⟩:=Pv p1;obtain⟨d2,rfl⟩:=Pv p2
 let hcl:T->T:=λt=>match t with
  | .int k=>okv (dh [.scr ns,.int ((a:Int)+1+8*k)])
  | _=> .non
 have hh:∀t∈rng 0 ((1+d1:Nat):Int),∃k:Nat,t= .int k/\dh [.scr ns,.int ((a+1+8*k:Nat):Int)] = .ok (hcl t)/\bJ (hcl t)=true/\sm 8 (hcl t)=true:=λt ht=>by
  obtain⟨k,rfl,_⟩:=tN ht;obtain⟨c,ec,h1,h2⟩:=Ej ns hn (a+1+8*k)
  have e:hcl (.int k)=c:=by
   show okv (dh [.scr ns,.int ((a+1+8*k:Nat):Int)])=c
   rw[ec];rfl
  exact⟨k,rfl,by rw[e];exact ec,by rw[e];exact h1,by rw[e];exact h2⟩
 generalize hcs:(rng 0 ((1+d1:Nat):Int)).map hcl=cs
 have lc:cs.length=1+d1:=by rw[<-hcs,Ob,lO]
 have hc:bp (.tup cs)=true:=by
  show(eK (.tup cs) 1 4&&cs.all bJ)=true
  rw[N9,OG];refine⟨by simp[eK];omega,λc h=> ?_⟩
  rw[<-hcs]at h;obtain⟨t,ht,rfl⟩:=Oq.mp h;obtain⟨_,_,_,h1,_⟩:=hh t ht;exact h1
 have hsm:∀c∈cs,sm 8 c=true:=λc h=>by
  rw[<-hcs]at h;obtain⟨t,ht,rfl⟩:=Oq.mp h;obtain⟨_,_,_,_,h1⟩:=hh t ht;exact h1
 obtain⟨ls,t5,t6,el,hl,nl⟩:=zR ns hn a (.int m) cs hc (On d2) [] .em .em (λt h=>by cases h) (by simp;omega)
 refine⟨cs,ls,aZ rfl ?_,hc,by omega,hsm,hl,by simp at nl;omega⟩
 show iI [.va (.scr ns),.va (.int a),.va (.int m),.em,.em,.em,.em] =_
 unfold iI
 have s1:cI (cl e9 (ae (d6 (iR (ae (o2 aV (cn (.int 1)) (cl aJ (ae (vr 0) (ae (vr 1) (ae (cn (.int 3)) aj))))) aj)) [none,some 0,some 1] (gN 0) bT (cl dh (ae (vr 1) (ae (o2 aV (o2 aV (vr 2) (cn (.int 1))) (o2 cu (cn (.int 8)) (vr 0))) aj)))) aj)) (gN 3) [.va (.scr ns),.va (.int a),.va (.int m),.em,.em,.em,.em] = .ok (.nx [.va (.scr ns),.va (.int a),.va (.int m),.va (.tup cs),.em,.em,.em]):=by
  refine bM (aE (ar (t:=.lst cs) ?_ rfl) rfl) rfl
  rw[<-hcs];refine m6 (HL (ar (ay rfl (eY e1 rfl rfl rfl) rfl) rfl) (by omega) (by omega)) (aB (k:=3) (by rw[lO];omega)) (by simp) λt ht=> ?_
  obtain⟨k,rfl,ek,_,_⟩:=hh t ht;refine aE (ar rfl (ar (ay rfl (ay rfl rfl (lZ (by omega) (by omega))) rfl) rfl)) ek
 rw[aw s1];rw[aw (bM (jR rfl (aB (k:=0) (by simp))) rfl)]
 rw[aw ((fT (HL (ar (eY e2 rfl rfl (ay rfl rfl rfl)) rfl) (by omega) (by omega)) (by rw[i7];exact el)))]
 exact bB (dy (ar rfl (ar rfl rfl)) (aB (k:=2) (by simp)))
theorem ez {cs:List T}{t:T}(h:bN cs t=true):∃a b x y,t= .tup [a,b,x,y]/\eZ x y=true/\bh cs a=true/\bh cs b=true/\aS a b=false:=by
 unfold bN at h
 split at h
 ·simp only[N9,TV]at h
  exact⟨_,_,_,_,rfl,h.1,h.2.1,h.2.2.1,h.2.2.2⟩
 ·cases h
theorem IB {cs ls:List T}(hc:bp (.tup cs)=true)(hs:∀c∈cs,sm 8 c=true)(hl:BD cs ls)(hn:ls.length<=8):gu (RR cs ls)=true/\sm 8 (RR cs ls)=true:=by
 refine⟨?_,?_⟩
 ·show(bp (.tup cs)&&(eK (.tup ls) 0 8&&ls.all (bN cs)))=true
  rw[hc,Rt,N9,OG];exact⟨by simp[eK];exact hn,λt ht=>(hl t ht).1⟩
 ·refine sm_tup.mpr ⟨by simp,λt ht=> ?_⟩
  simp only[Og,Pd,or_false]at ht;rcases ht with rfl | rfl
  ·exact sm_tup.mpr ⟨by have:=(cj hc).2.2;omega,hs⟩
  ·exact sm_tup.mpr ⟨hn,λt ht=>(hl t ht).2⟩
end G
namespace Tr
open PySem
section
variable {f fa fb:En->Rs T}{fs:En->Rs (List T)}{b c:En->Rs Bool}{F G:En->Rs Fl}{Z Z' Z1 Z2:En}{t u r:T}{ts l m:List T}
mutual
theorem nj:∀(t:T),t.pl=true->aS t t=true
 | .non,_=>rfl
 | .bl a,_=>by simp[aS]
 | .int a,_=>by simp[aS]
 | .str a,_=>by simp[aS]
 | .tup l,h=>by rw[aS];exact beqTs_refl l (by unfold T.pl at h;exact h)
 | .lst l,h=>by rw[aS];exact beqTs_refl l (by unfold T.pl at h;exact h)
 | .scr _,h=>by simp[T.pl]at h
theorem beqTs_refl:∀(l:List T),plS l=true->beqTs l l=true
 | [],_=>rfl
 | t::l,h=>by
  unfold plS at h;rw[N9]at h;rw[beqTs,nj t h.1,beqTs_refl l h.2];rfl
end
theorem ko (hp:t.pl=true)(hd:t.dep<=60):qe t t= .ok (.bl false):=by
 unfold qe;rw[if_pos (g8 hd (T.KB _ hp) (T.KB _ hp)),nj t hp];rfl
theorem mm (hp:t.pl=true)(hd:t.dep<=60):n9 t t= .ok (.bl true):=by
 unfold n9;rw[if_pos (g8 hd (T.KB _ hp) (T.KB _ hp)),nj t hp]
theorem gd {n:Nat}:∀{l:List T},(∀t∈l,t.dep<=n)->deps l<=n
 | [],_=>by unfold deps;omega
 | t::l,h=>by
  unfold deps
  have:=gd λu hu=>h u (N8 _ hu)
  have:=h t Oe;omega
theorem gx:∀{l:List T},(∀t∈l,t.pl=true)->plS l=true
 | [],_=>rfl
 | t::l,h=>by unfold plS;rw[h t Oe,gx λu hu=>h u (N8 _ hu)];rfl
end
end Tr
namespace G
open PySem Tr
def dr (r:List Int)(k:Nat):Int:=r.getD (k+1) 0 - r.getD k 0
def pr (n:Nat)(x y:Int)(r:List Int)(k:Nat):List T:=
 [.tup [.tup [.int n,.int k],.tup [.int n,.int ((k+1:Nat):Int)],.int (dr r k*y)],.tup [.tup [.int n,.int ((k+1:Nat):Int)],.tup [.int n,.int k],.int (-dr r k*x)]]
def cB (n:Nat)(x y:Int)(r:List Int):List T:=(On (r.length - 1)).flatMap (pr n x y r)
abbrev KO (n:Nat)(x y:Int)(r:List Int)(acc:List T)(s4 s5 s6 s7:Sl):En:=[.va (.int n),.va (.tup [.int x,.int y,.tup (r.map .int)]),.va (.tup (r.map .int)),.ow (.lst acc),s4,s5,s6,s7]
abbrev bcF:En->Rs Fl:=(aD (cI (aP (ae (vr 0) (ae (vr 4) aj))) (gN 5)) (aD (cI (aP (ae (vr 0) (ae (o2 aV (vr 4) (cn (.int 1))) aj))) (gN 6)) (aD (cI (o2 fM (o2 aU (vr 2) (o2 aV (vr 4) (cn (.int 1)))) (o2 aU (vr 2) (vr 4))) (gN 7)) (aD (iQ 3 (aP (ae (vr 5) (ae (vr 6) (ae (o2 cu (vr 7) (o2 aU (vr 1) (cn (.int 1)))) aj))))) (iQ 3 (aP (ae (vr 6) (ae (vr 5) (ae (o2 cu (o1 kP (vr 7)) (o2 aU (vr 1) (cn (.int 0)))) aj)))))))))
theorem oF {r:List Int}{k:Nat}(h:k<r.length):(r.map T.int)[k]? =some (.int (r.getD k 0)):=by
 rw[Ov,Of h]
 simp[h]
theorem G3 (n:Nat)(x y:Int)(r:List Int)(acc:List T)(k:Nat)(s5 s6 s7:Sl)(hk:k+1<r.length)(hx:0<=x/\x<=9)(hy:0<=y/\y<=9)(ha:acc.length<=100) :
  bcF (KO n x y r acc (.va (.int k)) s5 s6 s7)= .ok (.nx (KO n x y r (acc++pr n x y r k) (.va (.int k)) (.va (.tup [.int n,.int k])) (.va (.tup [.int n,.int ((k+1:Nat):Int)])) (.va (.int (dr r k))))):=by
 have h2:([T.int n,T.int k]:List T).length<=sizeLine:=aB (k:=2) (by simp)
 have ek:((k:Int)+1)=((k+1:Nat):Int):=by omega
 refine(aw (bM (dy rfl (aB (k:=2) (by simp))) rfl)).trans ?_
 refine(aw (bM (dy (ar rfl (ar (ay rfl rfl (congrArg (λz=>Rs.ok (T.int z)) ek)) rfl)) (aB (k:=2) (by simp))) rfl)).trans ?_
 refine(aw (bM (ay (rq rfl (ay rfl rfl (congrArg (λz=>Rs.ok (T.int z)) ek)) (oF hk)) (rq rfl rfl (oF (by omega))) rfl) rfl)).trans ?_
 refine(aw (nP (dy (ar rfl (ar rfl (ar (ay rfl rfl (C9 (by omega) (by omega))) rfl))) (aB (k:=3) (by simp))) rfl (by omega))).trans ?_
 refine(nP (dy (ar rfl (ar rfl (ar (ay rfl rfl (C9 (by omega) (by omega))) rfl))) (aB (k:=3) (by simp))) rfl (by rw[Om];simp;omega)).trans ?_
 rw[OS]
 rfl
theorem Aq (n:Nat)(x y:Int)(r:List Int)(hx:0<=x/\x<=9)(hy:0<=y/\y<=9):∀(js:List Nat) (acc:List T) (s4 s5 s6 s7:Sl),(∀k∈js,k+1<r.length)->acc.length+2*js.length<=100 →
  ∃t4 t5 t6 t7,bD (gN 4) bcF (js.map λ(k:Nat)=>T.int k) (KO n x y r acc s4 s5 s6 s7)= .ok (.nx (KO n x y r (acc++js.flatMap (pr n x y r)) t4 t5 t6 t7))
 | [],acc,s4,s5,s6,s7,_,_=>⟨s4,s5,s6,s7,by simp[bD]⟩
 | k::js,acc,s4,s5,s6,s7,hk,hl=>by
  rw[Oj]at hl
  have e:=G3 n x y r acc k s5 s6 s7 (hk k Oe) hx hy (by omega)
  obtain⟨t4,t5,t6,t7,ih⟩:=Aq n x y r hx hy js (acc++pr n x y r k) (.va (.int k)) (.va (.tup [.int n,.int k])) (.va (.tup [.int n,.int ((k+1:Nat):Int)])) (.va (.int (dr r k))) (λj hj=>hk j (N8 _ hj)) (by rw[Om];simp[pr];omega)
  refine⟨t4,t5,t6,t7,?_⟩
  rw[Oc,dM rfl e,ih,QR,OS]
theorem Eo (n:Nat)(x y:Int)(r:List Int)(hx:0<=x/\x<=9)(hy:0<=y/\y<=9)(h1:1<=r.length)(h4:r.length<=4):dg [.int n,.tup [.int x,.int y,.tup (r.map .int)]] = .ok (.lst (cB n x y r)):=by
 refine aZ rfl ?_
 show fK [.va (.int n),.va (.tup [.int x,.int y,.tup (r.map .int)]),.em,.em,.em,.em,.em,.em] =_
 unfold fK;rw[aw (bM rfl rfl)];rw[aw (Z':=KO n x y r [] .em .em .em .em) rfl];obtain⟨t4,t5,t6,t7,e⟩:=Aq n x y r hx hy (On (r.length - 1)) [] .em .em .em .em (λk hk=>by have:=OY.mp hk;omega) (by simp;omega)
 have e1:iR (ae (o2 fM (cl cz (ae (vr 2) aj)) (cn (.int 1))) aj) (KO n x y r [] .em .em .em .em)= .ok (rng 0 ((r.length - 1:Nat):Int)):=by
  refine HL (ar (ay (t:=.int (r.length:Nat)) (aE rfl (by show Rs.ok (T.int ((r.map T.int).length:Nat))=_;rw[Ob])) rfl (congrArg (λz=>Rs.ok (T.int z)) (by omega))) rfl) (by omega) (by omega)
 rw[aw ((fT (by rw[e1,i7]) e))]
 rfl
theorem dZ {t:T}(h:bJ t=true):∃(x y:Int) (r:List Int),t= .tup [.int x,.int y,.tup (r.map .int)]/\(0<=x/\x<=9)/\(0<=y/\y<=9)/\1<=r.length/\r.length<=4:=by
 obtain⟨x,y,r,rfl,h1,h4⟩:=iu h
 have h':(mQ x y&&cC (.tup r))=true:=h;rw[N9]at h';obtain⟨hp,hr⟩:=h';unfold mQ at hp;rw[N9]at hp;obtain⟨i,rfl,i1,i2⟩:=dq hp.1;obtain⟨j,rfl,j1,j2⟩:=dq hp.2;unfold cC at hr;rw[N9]at hr
 have hr2:((r.all λu=>aX u 0 99)&&(match nums r with | some m=>my m | none=>false))=true:=hr.2
 rw[N9]at hr2;obtain⟨m,em⟩:=uj hr2.1
 have e:=pW em;subst e;rw[Ob]at h1 h4;exact⟨i,j,m,rfl,⟨by omega,by omega⟩,⟨by omega,by omega⟩,h1,h4⟩
def xB (n:Nat)(t:T):List T:=match t with
 | .tup [.int x,.int y,.tup r] =>match nums r with
  | some m=>cB n x y m
  | none=> []
 | _=> []
def bC:Nat->List T->List T
 | _,[] => []
 | i,c::r=>xB i c++bC (i+1) r
def lB (t:T):List T:=match t with
 | .tup [a,b,.int le,mo] => .tup [b,a,.int (-le)] ::(if mo.isN then []else [.tup [a,b,mo]])
 | _=> []
def By (cs ls:List T):List T:=bC 0 cs++ls.flatMap lB
theorem oP (n:Nat)(x y:Int)(r:List Int):xB n (.tup [.int x,.int y,.tup (r.map .int)])=cB n x y r:=by
 unfold xB;simp only[gS]
theorem Ku (n:Nat)(x y:Int)(r:List Int):(cB n x y r).length=2*(r.length - 1):=by
 unfold cB;rw[List.length_flatMap]
 have:∀l:List Nat,(l.map λk=>(pr n x y r k).length).sum=2*l.length:=by
  intro l
  induction l with
  | nil=>rfl
  | cons a l ih=>rw[Oc,QN,ih,Oj];simp[pr];omega
 rw[this,OU]
theorem xF {n:Nat}{t:T}(h:bJ t=true):(xB n t).length<=6:=by
 obtain⟨x,y,r,rfl,_,_,h1,h4⟩:=dZ h;rw[oP,Ku];omega
theorem uU:∀{cs:List T} {i:Nat},(∀c∈cs,bJ c=true)->(bC i cs).length<=6*cs.length
 | [],i,_=>by simp[bC]
 | c::cs,i,h=>by
  rw[bC,Om,Oj]
  have:=xF (n:=i) (h c Oe)
  have:=uU (i:=i+1) λc hc=>h c (N8 _ hc)
  omega
theorem yy (t:T):(lB t).length<=2:=by
 unfold lB;split
 ·rename_i a b le mo
  cases mo.isN <;> simp
 ·simp
theorem zV:∀(ls:List T),(ls.flatMap lB).length<=2*ls.length
 | [] =>by simp
 | t::ls=>by
  rw[QR,Om,Oj]
  have:=yy t
  have:=zV ls;omega
theorem jQ {cs:List T}{t:T}(h:bN cs t=true):∃(a b mo:T) (le:Int),t= .tup [a,b,.int le,mo]/\bh cs a=true/\bh cs b=true:=by
 obtain⟨a,b,x,y,rfl,hd,ha,hb,_⟩:=ez h;unfold eZ at hd;rw[N9]at hd;obtain⟨i,rfl,_⟩:=dq hd.1;exact⟨a,b,y,i,rfl,ha,hb⟩
theorem Bj {cs:List T}{t:T}(h:bN cs t=true):cW [t] = .ok (.lst (lB t)):=by
 obtain⟨a,b,mo,le,rfl,_,_⟩:=jQ h;refine aZ rfl ?_
 show fh [.va (.tup [a,b,.int le,mo]),.em] =_
 unfold fh;rw[aw (Z':=[.va (.tup [a,b,.int le,mo]),.ow (.lst [.tup [b,a,.int (-le)]])]) (DG (ar (dy (ar rfl (ar rfl (ar rfl rfl))) (aB (k:=3) (by simp))) rfl) (by simp) (by simp))]
 have e:∀(Z:En) l,Z= [.va (.tup [a,b,.int le,mo]),.ow (.lst l)]->o2 fS (o2 aU (vr 0) (cn (.int 3))) (cn .non) Z= .ok (.bl (!mo.isN)):=λZ l z=>by subst z;rfl
 have e2:lB (.tup [a,b,.int le,mo])= .tup [b,a,.int (-le)] ::(if mo.isN then []else [.tup [a,b,mo]]):=rfl
 rw[e2]
 cases q:mo.isN with
 | true=>
  rw[aw ((dt (bx (by rw[e _ _ rfl,q];rfl))).trans rfl)]
  rfl
 | false=>
  rw[aw ((dA (bx (by rw[e _ _ rfl,q];rfl))).trans (nP (dy (ar rfl (ar rfl (ar rfl rfl))) (aB (k:=3) (by simp))) rfl (by simp)))]
  rfl
abbrev bdF:En->Rs Fl:=pw 1 (cl dg (ae (vr 2) (ae (vr 3) aj)))
abbrev bdG:T->En->Rs En:=gT 2 (iX (gN 2) (iX (gN 3) u7))
theorem Ap (R:T)(s4:Sl):∀(cs:List T) (acc:List T) (i:Nat) (s2 s3:Sl),(∀c∈cs,bJ c=true)->acc.length+6*cs.length<=100 →
  ∃y2 y3,bD bdG bdF (dN i cs) [.va R,.ow (.lst acc),s2,s3,s4] = .ok (.nx [.va R,.ow (.lst (acc++bC i cs)),y2,y3,s4])
 | [],acc,i,s2,s3,_,_=>⟨s2,s3,by simp[dN,bD,bC]⟩
 | c::cs,acc,i,s2,s3,hc,hl=>by
  have h0:=hc c Oe
  have hx:=xF (n:=i) h0;obtain⟨x,y,r,rfl,a1,a2,a3,a4⟩:=dZ h0;rw[Oj]at hl;rw[oP]at hx
  have st:bdF [.va R,.ow (.lst acc),.va (.int i),.va (.tup [.int x,.int y,.tup (r.map .int)]),s4] = .ok (.nx [.va R,.ow (.lst (acc++cB i x y r)),.va (.int i),.va (.tup [.int x,.int y,.tup (r.map .int)]),s4]):=
   DI (aE rfl (Eo i x y r a1 a2 a3 a4)) rfl (by omega)
  obtain⟨z2,z3,ih⟩:=Ap R s4 cs (acc++cB i x y r) (i+1) (.va (.int i)) (.va (.tup [.int x,.int y,.tup (r.map .int)])) (λc h=>hc c (N8 _ h)) (by rw[Om];omega)
  refine⟨z2,z3,?_⟩
  rw[dN,dM rfl st,ih,bC,oP,OS]
abbrev blF:En->Rs Fl:=pw 1 (cl cW (ae (vr 4) aj))
theorem An (R:T)(cs:List T)(s2 s3:Sl):∀(ls:List T) (acc:List T) (s4:Sl),(∀t∈ls,bN cs t=true)->acc.length+2*ls.length<=100 →
  ∃y4,bD (gN 4) blF ls [.va R,.ow (.lst acc),s2,s3,s4] = .ok (.nx [.va R,.ow (.lst (acc++ls.flatMap lB)),s2,s3,y4])
 | [],acc,s4,_,_=>⟨s4,by simp[bD]⟩
 | t::ls,acc,s4,hl,hn=>by
  rw[Oj]at hn
  have:=yy t
  have st:blF [.va R,.ow (.lst acc),s2,s3,.va t] = .ok (.nx [.va R,.ow (.lst (acc++lB t)),s2,s3,.va t]):=DI (aE rfl (Bj (hl t Oe))) rfl (by omega)
  obtain⟨y4,ih⟩:=An R cs s2 s3 ls (acc++lB t) (.va t) (λu h=>hl u (N8 _ h)) (by rw[Om];omega)
  refine⟨y4,?_⟩
  rw[dM rfl st,ih,QR,OS]
theorem qc {R:T}(hp:R.pl=true)(h:gu R=true):cm [R] = .ok .non:=by
 refine yz (Z:=[.va R]) rfl ?_
 show eR [.va R] =_
 unfold eR;exact(dt ((dX (k:=true) (bx (aE rfl (by rw[wW R hp,h])))))).trans rfl
theorem rW {R:T}(hp:R.pl=true)(h:gu R=false):cm [R] = .err "NoRecord":=by
 refine fA rfl ?_
 show eR [.va R] =_
 unfold eR;exact(dA ((dX (k:=false) (bx (aE rfl (by rw[wW R hp,h])))))).trans rfl
structure Good (cs ls:List T):Prop where
 c:bp (.tup cs)=true
 l:∀t∈ls,bN cs t=true
 n:ls.length<=8
 p:(RR cs ls).pl=true
theorem Good.ok {cs ls:List T}(g:Good cs ls):gu (RR cs ls)=true:=by
 show(bp (.tup cs)&&(eK (.tup ls) 0 8&&ls.all (bN cs)))=true
 rw[g.c,Rt,N9,OG];exact⟨by simp[eK];exact g.n,g.l⟩
theorem El {cs ls:List T}(g:Good cs ls):eJ [RR cs ls] = .ok (.lst (By cs ls)):=by
 obtain⟨hc,c1,c4⟩:=cj g.c
 have hn:=g.n;refine aZ rfl ?_
 show ke [.va (RR cs ls),.em,.em,.em,.em] =_
 unfold ke;rw[aw (uF (aE rfl (qc g.p g.ok)))];rw[aw (Z':=[.va (RR cs ls),.ow (.lst []),.em,.em,.em]) (uD (by simp))]
 obtain⟨y2,y3,e⟩:=Ap (RR cs ls) .em cs [] 0 .em .em hc (by simp;omega)
 rw[aw ((fT rfl e))]
 have:=uU (i:=0) hc;obtain⟨y4,e2⟩:=An (RR cs ls) cs y2 y3 ls ([] ++bC 0 cs) .em g.l (by rw[P4];omega)
 rw[aw ((fT rfl e2))]
 rfl
abbrev HD (R:T)(acc:List T)(n:Nat)(x y:Int)(r:List Int)(s6 s7 s8 s9 s10 s11:Sl):En:=[.va R,.ow (.lst acc),.va (.int n),.va (.int x),.va (.int y),.va (.tup (r.map .int)),s6,s7,s8,s9,s10,s11]
abbrev lkF:En->Rs Fl:=(aD (cI (o2 fM (o2 aU (vr 5) (vr 6)) (o2 aU (vr 5) (o2 fM (vr 6) (cn (.int 1))))) (gN 7)) (aD (iQ 1 (aP (ae (aP (ae (vr 2) (ae (o2 fM (vr 6) (cn (.int 1))) aj))) (ae (aP (ae (vr 2) (ae (vr 6) aj))) (ae (o2 cu (vr 4) (vr 7)) aj))))) (iQ 1 (aP (ae (aP (ae (vr 2) (ae (vr 6) aj))) (ae (aP (ae (vr 2) (ae (o2 fM (vr 6) (cn (.int 1))) aj))) (ae (o2 fM (cn (.int 0)) (o2 cu (vr 3) (vr 7))) aj)))))))
theorem Gi (R:T)(n:Nat)(x y:Int)(r:List Int)(acc:List T)(k:Nat)(s7 s8 s9 s10 s11:Sl)(hk:k+1<r.length)(hx:0<=x/\x<=9)(hy:0<=y/\y<=9)(ha:acc.length<=100) :
  lkF (HD R acc n x y r (.va (.int ((k+1:Nat):Int))) s7 s8 s9 s10 s11)= .ok (.nx (HD R (acc++pr n x y r k) n x y r (.va (.int ((k+1:Nat):Int))) (.va (.int (dr r k))) s8 s9 s10 s11)):=by
 have sb:∀acc s7,o2 fM (vr 6) (cn (.int 1)) (HD R acc n x y r (.va (.int ((k+1:Nat):Int))) s7 s8 s9 s10 s11)= .ok (.int k):=λacc s7=>ay rfl rfl (congrArg (λz=>Rs.ok (T.int z)) (by omega))
 refine(aw (bM (ay (rq rfl rfl (oF hk)) (rq rfl (sb acc s7) (oF (by omega))) rfl) rfl)).trans ?_
 refine(aw (nP (dy (ar (dy (ar rfl (ar (sb _ _) rfl)) (aB (k:=2) (by simp))) (ar (dy rfl (aB (k:=2) (by simp))) (ar (ay rfl rfl ((lZ (by omega) (by omega)).trans (by rw[UE]))) rfl))) (aB (k:=3) (by simp))) rfl (by omega))).trans ?_
 refine(nP (t:=.tup [.tup [.int n,.int ((k+1:Nat):Int)],.tup [.int n,.int k],.int (-dr r k*x)]) (dy (ar (dy rfl (aB (k:=2) (by simp))) (ar (dy (ar rfl (ar (sb _ _) rfl)) (aB (k:=2) (by simp))) (ar (ay rfl (ay (u:=.int (dr r k)) rfl rfl (lZ (by omega) (by omega))) (congrArg (λz=>Rs.ok (T.int z)) (by rw[Int.neg_mul,UE x,Int.zero_sub]))) rfl))) (aB (k:=3) (by simp))) rfl (by rw[Om];simp;omega)).trans ?_
 rw[OS]
 rfl
theorem zL (R:T)(n:Nat)(x y:Int)(r:List Int)(s8 s9 s10 s11:Sl)(hx:0<=x/\x<=9)(hy:0<=y/\y<=9):∀(js:List Nat) (acc:List T) (s6 s7:Sl),(∀k∈js,k+1<r.length)->acc.length+2*js.length<=100 →
  ∃t6 t7,bD (gN 6) lkF (js.map λ(k:Nat)=>T.int ((k+1:Nat):Int)) (HD R acc n x y r s6 s7 s8 s9 s10 s11)= .ok (.nx (HD R (acc++js.flatMap (pr n x y r)) n x y r t6 t7 s8 s9 s10 s11))
 | [],acc,s6,s7,_,_=>⟨s6,s7,by simp[bD]⟩
 | k::js,acc,s6,s7,hk,hl=>by
  rw[Oj]at hl
  have e:=Gi R n x y r acc k s7 s8 s9 s10 s11 (hk k Oe) hx hy (by omega)
  obtain⟨t6,t7,ih⟩:=zL R n x y r s8 s9 s10 s11 hx hy js (acc++pr n x y r k) (.va (.int ((k+1:Nat):Int))) (.va (.int (dr r k))) (λj hj=>hk j (N8 _ hj)) (by rw[Om];simp[pr];omega)
  refine⟨t6,t7,?_⟩
  rw[Oc,dM rfl e,ih,QR,OS]
theorem Fu (n:Nat)(h:1<=n):rng 1 (n:Int)=(On (n - 1)).map λ(k:Nat)=>T.int ((k+1:Nat):Int):=by
 unfold rng
 have:((n:Int) - 1).toNat=n - 1:=by omega
 rw[this];exact ON λk _=>congrArg T.int (by omega)
theorem iR2 {f:En->Rs (List T)}{Z:En}{i j:Int}(h:f Z= .ok [.int i,.int j])(h0:0<=i)(h1:i<=100000)(h2:0<=j)(h3:j<=100000):iR f Z= .ok (rng i j):=by
 unfold iR;rw[h]
 have e:(mf i&&mf j)=true:=by unfold mf;simp;omega
 show(if (mf i&&mf j)=true then _ else _)=_
 rw[e];rfl
abbrev LZ:En->Rs Fl:=(d7 (iR (ae (cn (.int 1)) (ae (cl cz (ae (vr 5) aj)) aj))) (gN 6) lkF)
abbrev lcG:T->En->Rs En:=gT 2 (iX (gN 2) (iX (gT 3 (iX (gN 3) (iX (gN 4) (iX (gN 5) u7)))) u7))
theorem zT (R:T)(s8 s9 s10 s11:Sl):∀(cs:List T) (acc:List T) (i:Nat) (s2 s3 s4 s5 s6 s7:Sl),(∀c∈cs,bJ c=true)->acc.length+6*cs.length<=90 →
  ∃y2 y3 y4 y5 y6 y7,bD lcG LZ (dN i cs) [.va R,.ow (.lst acc),s2,s3,s4,s5,s6,s7,s8,s9,s10,s11] = .ok (.nx [.va R,.ow (.lst (acc++bC i cs)),y2,y3,y4,y5,y6,y7,s8,s9,s10,s11])
 | [],acc,i,s2,s3,s4,s5,s6,s7,_,_=>⟨s2,s3,s4,s5,s6,s7,by simp[dN,bD,bC]⟩
 | c::cs,acc,i,s2,s3,s4,s5,s6,s7,hc,hl=>by
  have h0:=hc c Oe
  have hx:=xF (n:=i) h0;obtain⟨x,y,r,rfl,a1,a2,a3,a4⟩:=dZ h0;rw[Oj]at hl;rw[oP]at hx;obtain⟨t6,t7,e⟩:=zL R i x y r s8 s9 s10 s11 a1 a2 (On (r.length - 1)) acc s6 s7 (λk hk=>by have:=OY.mp hk;omega) (by rw[OU];omega)
  have e1:iR (ae (cn (.int 1)) (ae (cl cz (ae (vr 5) aj)) aj)) (HD R acc i x y r s6 s7 s8 s9 s10 s11)= .ok (rng 1 (r.length:Nat)):=
   iR2 (ar rfl (ar (aE rfl (by show Rs.ok (T.int ((r.map T.int).length:Nat))=_;rw[Ob])) rfl)) (by omega) (by omega) (by omega) (by omega)
  have st:LZ (HD R acc i x y r s6 s7 s8 s9 s10 s11)= .ok (.nx (HD R (acc++cB i x y r) i x y r t6 t7 s8 s9 s10 s11)):=(fT (by rw[e1,Fu _ a3]) e)
  obtain⟨z2,z3,z4,z5,z6,z7,ih⟩:=zT R s8 s9 s10 s11 cs (acc++cB i x y r) (i+1) (.va (.int i)) (.va (.int x)) (.va (.int y)) (.va (.tup (r.map .int))) t6 t7 (λc h=>hc c (N8 _ h)) (by rw[Om];omega)
  refine⟨z2,z3,z4,z5,z6,z7,?_⟩
  rw[dN,dM rfl st,ih,bC,oP,OS]
abbrev llF:En->Rs Fl:=(aD (iQ 1 (aP (ae (vr 9) (ae (vr 8) (ae (o2 fM (cn (.int 0)) (vr 10)) aj))))) (gD (tb (o2 fS (vr 11) (cn .non))) (iQ 1 (aP (ae (vr 8) (ae (vr 9) (ae (vr 11) aj))))) sN))
abbrev llG:T->En->Rs En:=gT 4 (iX (gN 8) (iX (gN 9) (iX (gN 10) (iX (gN 11) u7))))
theorem zK (R:T)(cs:List T)(s2 s3 s4 s5 s6 s7:Sl):∀(ls:List T) (acc:List T) (s8 s9 s10 s11:Sl),(∀t∈ls,bN cs t=true)->acc.length+2*ls.length<=100 →
  ∃y8 y9 y10 y11,bD llG llF ls [.va R,.ow (.lst acc),s2,s3,s4,s5,s6,s7,s8,s9,s10,s11] = .ok (.nx [.va R,.ow (.lst (acc++ls.flatMap lB)),s2,s3,s4,s5,s6,s7,y8,y9,y10,y11])
 | [],acc,s8,s9,s10,s11,_,_=>⟨s8,s9,s10,s11,by simp[bD]⟩
 | t::ls,acc,s8,s9,s10,s11,hl,hn=>by
  rw[Oj]at hn
  have hlb:=yy t;obtain⟨a,b,mo,le,rfl,_,_⟩:=jQ (hl t Oe)
  have e2:lB (.tup [a,b,.int le,mo])= .tup [b,a,.int (-le)] ::(if mo.isN then []else [.tup [a,b,mo]]):=rfl
  have e:∀l,o2 fS (vr 11) (cn .non) [.va R,.ow (.lst l),s2,s3,s4,s5,s6,s7,.va a,.va b,.va (.int le),.va mo] = .ok (.bl (!mo.isN)):=λl=>rfl
  have st:llF [.va R,.ow (.lst acc),s2,s3,s4,s5,s6,s7,.va a,.va b,.va (.int le),.va mo] = .ok (.nx [.va R,.ow (.lst (acc++lB (.tup [a,b,.int le,mo]))),s2,s3,s4,s5,s6,s7,.va a,.va b,.va (.int le),.va mo]):=by
   refine(aw (Z':=[.va R,.ow (.lst (acc++ [.tup [b,a,.int (-le)]])),s2,s3,s4,s5,s6,s7,.va a,.va b,.va (.int le),.va mo]) (nP (dy (ar rfl (ar rfl (ar (ay rfl rfl (congrArg (λz=>Rs.ok (T.int z)) (Int.zero_sub le))) rfl))) (aB (k:=3) (by simp))) rfl (by omega))).trans ?_
   rw[e2]
   cases q:mo.isN with
   | true=>exact(dt (bx (by rw[e,q];rfl))).trans rfl
   | false=>
    refine(dA (bx (by rw[e,q];rfl))).trans ((nP (dy (ar rfl (ar rfl (ar rfl rfl))) (aB (k:=3) (by simp))) rfl (by rw[Om];simp;omega)).trans ?_)
    rw[OS]
    rfl
  obtain⟨y8,y9,y10,y11,ih⟩:=zK R cs s2 s3 s4 s5 s6 s7 ls (acc++lB (.tup [a,b,.int le,mo])) (.va a) (.va b) (.va (.int le)) (.va mo) (λu h=>hl u (N8 _ h)) (by rw[Om];omega)
  refine⟨y8,y9,y10,y11,?_⟩
  rw[dM rfl st,ih,QR,OS]
theorem Bh {cs ls:List T}(hcs:bp (.tup cs)=true)(hls:∀t∈ls,bN cs t=true)(hn:ls.length<=8):bV [RR cs ls] = .ok (.lst (By cs ls)):=by
 obtain⟨hc,c1,c4⟩:=cj hcs;refine aZ rfl ?_
 show iJ [.va (RR cs ls),.em,.em,.em,.em,.em,.em,.em,.em,.em,.em,.em] =_
 unfold iJ;rw[aw (Z':=[.va (RR cs ls),.ow (.lst []),.em,.em,.em,.em,.em,.em,.em,.em,.em,.em]) (uD (by simp))]
 obtain⟨y2,y3,y4,y5,y6,y7,e⟩:=zT (RR cs ls) .em .em .em .em cs [] 0 .em .em .em .em .em .em hc (by simp;omega)
 rw[aw ((fT rfl e))]
 have:=uU (i:=0) hc;obtain⟨y8,y9,y10,y11,e2⟩:=zK (RR cs ls) cs y2 y3 y4 y5 y6 y7 ls ([] ++bC 0 cs) .em .em .em .em hls (by rw[P4];omega)
 rw[aw ((fT rfl e2))]
 rfl
theorem gQ {l:List T}:(T.tup l).pl=plS l:=by unfold T.pl;rfl
theorem Good.parts {cs ls:List T}(g:Good cs ls):(T.tup cs).pl=true/\∀t∈ls,t.pl=true:=by
 have:=g.p;rw[gQ]at this;unfold plS at this;rw[N9]at this
 have h2:=this.2;unfold plS at h2;rw[N9,gQ]at h2;exact⟨this.1,λt ht=>lS h2.1 ht⟩
theorem Good.sub {cs ls ms:List T}(g:Good cs ls)(hm:∀t∈ms,t∈ls)(hn:ms.length<=8):Good cs ms:=⟨g.c,λt ht=>g.l t (hm t ht),hn,by
 obtain⟨h1,h2⟩:=g.parts;rw[gQ];refine gx λt ht=> ?_
 simp only[Og,Pd,or_false]at ht;rcases ht with rfl | rfl
 ·exact h1
 ·rw[gQ];exact gx λt ht=>h2 t (hm t ht)⟩
theorem Good.take {cs ls:List T}(g:Good cs ls)(n:Nat):Good cs (ls.take n):=g.sub (λt ht=>Qn ht) (by rw[Pq];have:=g.n;omega)
theorem z8 {a:Nat}(h:a<=100):mf (a:Int)=true:=by unfold mf;simp;omega
theorem r0:m9 "NoRecord" = .ok (cM 0):=by unfold m9;rw[if_pos rfl]
theorem r1:m9 "NoEvent" = .ok (cM 1):=by unfold m9;rw[if_neg (by decide),if_pos rfl]
theorem r2:m9 "NoNumber" = .ok (cM 2):=by unfold m9;rw[if_neg (by decide),if_neg (by decide),if_pos rfl]
def fl2 (t:T):Prop:=t.pl=true/\t.dep<=5
theorem Cm (j:Nat):fl2 (cM j):=⟨rfl,by simp[cM,T.dep,deps]⟩
theorem HN {cs:List T}{y:T}(h:bh cs y=true):y.pl=true/\y.dep<=1:=by
 obtain⟨c,k,rfl⟩:=cN h;exact⟨rfl,by simp[T.dep,deps]⟩
theorem LS {cs:List T}{a b x y:T}(h:bN cs (.tup [a,b,x,y])=true):y.pl=true/\y.dep=0:=by
 obtain⟨a',b',x',y',e,hd,_⟩:=ez h;cases e;unfold eZ at hd;rw[N9]at hd;obtain⟨i,rfl,_⟩:=dq hd.1
 cases y with
 | non=>exact⟨rfl,rfl⟩
 | int j=>exact⟨rfl,rfl⟩
 | bl j=>exact⟨rfl,rfl⟩
 | str j=>exact⟨rfl,rfl⟩
 | tup j=>cases hd.2
 | lst j=>cases hd.2
 | scr j=>cases hd.2
 | dct _ _=>cases hd.2
theorem F0 {l:List T}{r:Int}(h0:0<=r)(h1:r<l.length):∃t∈l,aU (.lst l) (.int r)= .ok t:=by
 obtain⟨n,rfl⟩:=Pv h0
 have hn:n<l.length:=by omega
 exact⟨l[n],PQ hn,yC hn⟩
theorem Ge (j:Nat):qe (cM j) (cM j)= .ok (.bl false):=ko (Cm j).1 (by have:=(Cm j).2;omega)
theorem Iw {t:T}(h:sm 8 t=true):t.pl=true:=Ho t h
abbrev peF:En->Rs Fl:=pw 1 (d6 (iR (ae (cl cz (ae (o2 aU (vr 3) (cn (.int 2))) aj)) aj)) [none,some 2] (gN 0) bT (aP (ae (vr 1) (ae (vr 0) aj))))
theorem vR (c0 s1:Sl)(x y:T)(r:List T)(i:Nat)(h:r.length<=4) :
  d6 (iR (ae (cl cz (ae (o2 aU (vr 3) (cn (.int 2))) aj)) aj)) [none,some 2] (gN 0) bT (aP (ae (vr 1) (ae (vr 0) aj))) [c0,s1,.va (.int i),.va (.tup [x,y,.tup r])] = .ok (.lst (n8 i r.length)):=
 m6 (HL rfl (by omega) (by omega)) (aB (by rw[lO];exact h)) (by simp) λt _=>mk2 _ _
theorem zw:∀(cs:List T) (c0:T) (acc:List T) (i:Nat) (s2 s3:Sl),(∀c∈cs,bJ c=true)->acc.length+4*cs.length<=100 →
  ∃y2 y3,bD evG peF (dN i cs) [.va c0,.ow (.lst acc),s2,s3] = .ok (.nx [.va c0,.ow (.lst (acc++fP i cs)),y2,y3])
 | [],c0,acc,i,s2,s3,_,_=>⟨s2,s3,by simp[dN,bD,fP]⟩
 | c::cs,c0,acc,i,s2,s3,hc,hl=>by
  obtain⟨x,y,r,rfl,r1,r2⟩:=iu (hc c Oe);rw[Oj]at hl
  have st:peF [.va c0,.ow (.lst acc),.va (.int i),.va (.tup [x,y,.tup r])] = .ok (.nx [.va c0,.ow (.lst (acc++n8 i r.length)),.va (.int i),.va (.tup [x,y,.tup r])]):=DI (vR _ _ x y r i r2) rfl (by rw[jW];omega)
  obtain⟨z2,z3,ih⟩:=zw cs c0 (acc++n8 i r.length) (i+1) (.va (.int i)) (.va (.tup [x,y,.tup r])) (λc h=>hc c (N8 _ h)) (by rw[Om,jW];omega)
  refine⟨z2,z3,?_⟩
  rw[dN,dM rfl st,ih,fP,OS]
  rfl
theorem CU {cs ls:List T}(g:Good cs ls):eI [RR cs ls] = .ok (.lst (fP 0 cs)):=by
 obtain⟨hc,c1,c4⟩:=cj g.c;refine aZ rfl ?_
 show qR [.va (RR cs ls),.em,.em,.em] =_
 unfold qR;rw[aw (uF (aE rfl (qc g.p g.ok)))];rw[aw (Z':=[.va (RR cs ls),.ow (.lst []),.em,.em]) (uD (by simp))]
 obtain⟨y2,y3,e⟩:=zw cs (RR cs ls) [] 0 .em .em hc (by simp;omega)
 rw[aw ((fT rfl e))]
 rfl
theorem p2 {a b:En->Rs T}{t u:T}{Z:En}(ha:a Z= .ok t)(hb:b Z= .ok u):aP (ae a (ae b aj)) Z= .ok (.tup [t,u]):=dy (ar ha (ar hb rfl)) (aB (k:=2) (by simp))
theorem mG {l:List T}:e9 [.lst l] = .ok (.tup l):=rfl
theorem G2 {cs ls:List T}(g:Good cs ls):(By cs ls).length<=60:=by
 unfold By;rw[Om];obtain⟨hc,c1,c4⟩:=cj g.c
 have:=uU (i:=0) hc
 have:=zV ls
 have:=g.n;omega
end G
namespace G
open PySem Tr Gr
structure N2 where
 c:Int
 k:Int
deriving DecidableEq
theorem N2.ext':∀{u v:N2},u.c=v.c->u.k=v.k->u=v
 | ⟨_,_⟩,⟨_,_⟩,rfl,rfl=>rfl
def en (v:N2):T:=.tup [.int v.c,.int v.k]
def eB (x:N2×N2×Int):T:=.tup [en x.1,en x.2.1,.int x.2.2]
def eN (ks:List Nat):List T:=ks.map λk=> .int (k:Nat)
def eW (x:Int×List Nat):T:=.tup [.int x.1,.lst (eN x.2)]
def ky (v:N2):List L2.Key:=[.inl v.c,.inl v.k]
theorem bK (v:N2):keyOf (en v)=some (ky v):=rfl
theorem je {u v:N2}(h:some (ky u)=some (ky v)):u=v:=by
 injection h with h
 injection h with h1 h2
 injection h2 with h2 _
 injection h1 with h1
 injection h2 with h2
 exact N2.ext' h1 h2
theorem uL {u v:N2}(h:en u=en v):u=v:=je (by rw[<-bK u,<-bK v,h])
theorem EA (u v:N2):aS (en u) (en v)=decide (u=v):=by
 unfold en aS beqTs aS beqTs beqTs
 by_cases h:u=v
 ·subst h;simp[aS]
 ·have:¬ (u.c=v.c/\u.k=v.k):=λz=>h (N2.ext' z.1 z.2)
  simp[h,aS];exact λz=>λy=>this ⟨z,y⟩
theorem oK (g:N2->T)(v:N2):∀(ns:List N2),lC (ns.map en) (ns.map g) (ky v)=if v∈ns then some (g v)else none
 | [] =>rfl
 | u::ns=>by
  rw[Oc,Oc,lC,bK]
  by_cases h:u=v
  ·subst h;rw[if_pos rfl,if_pos Oe]
  ·rw[if_neg (λz=>h (je z)),oK g v ns]
   have:(v∈u::ns)↔v∈ns:=by rw[Og];exact⟨λz=>z.elim (λy=>absurd y.symm h) id,.inr⟩
   simp only[this]
theorem qG (x:T)(v:N2)(g:N2->T):∀(ns:List N2),v∉ns->hV (en v) x (ns.map en) (ns.map g)=(ns.map en++ [en v],ns.map g++ [x])
 | [],_=>rfl
 | u::ns,h=>by
  rw[Og,not_or]at h;rw[Oc,Oc,hV,bK,bK,if_neg (λz=>h.1 (je z).symm),qG x v g ns h.2]
  rfl
theorem uM (x:T)(v:N2)(g:N2->T):∀(ns:List N2),ns.Nodup->v∈ns->hV (en v) x (ns.map en) (ns.map g)=(ns.map en,ns.map λu=>if u=v then x else g u)
 | [],_,h=>by simp at h
 | u::ns,hn,h=>by
  rw[OZ]at hn;rw[Oc,Oc,Oc,hV,bK,bK]
  by_cases z:u=v
  ·subst z
   rw[if_pos rfl,if_pos rfl]
   congr 2
   exact ON λw hw=>by rw[if_neg (λ(y:w=u)=>hn.1 (y▸hw))]
  ·rw[if_neg (λy=>z (je y)),if_neg z]
   have h':v∈ns:=(Og.mp h).elim (λy=>absurd y.symm z) id
   rw[uM x v g ns hn.2 h']
theorem kn {α:Type}[DecidableEq α]:∀{l m:List α},l.Nodup->(∀x∈l,x∈m)->l.length<=m.length
 | [],_,_,_=>Pj _
 | x::l,m,hn,h=>by
  rw[OZ]at hn
  have hx:=h x Oe
  have:=kn hn.2 λy hy=>(U7 (λ(z:y=x)=>hn.1 (z▸hy))).mpr (h y (N8 _ hy))
  rw[List.length_erase_of_mem hx]at this
  have:0<m.length:=List.length_pos_of_mem hx;rw[Oj];omega
def oW (o:Option (Int×List Nat)):T:=match o with
 | some x=>eW x
 | none=> .non
structure DR (P ns:List N2)(b:cP N2):Prop where
 nd:ns.Nodup
 mem:∀v,v∈ns↔(b v).isSome=true
 sub:∀v∈ns,v∈P
def dV (ns:List N2)(b:cP N2):List T:=ns.map λv=>oW (b v)
theorem DR.get {P ns:List N2}{b:cP N2}(D:DR P ns b)(v:N2):lC (ns.map en) (dV ns b) (ky v)=(b v).map eW:=by
 unfold dV;rw[oK (λv=>oW (b v))]
 have:=D.mem v
 cases q:b v with
 | none=>rw[q]at this;rw[if_neg (λz=>by simpa using this.mp z)];rfl
 | some x=>rw[q]at this;rw[if_pos (this.mpr rfl)];rfl
theorem DR.put {P ns:List N2}{b:cP N2}(D:DR P ns b){v:N2}(hv:v∈P)(y:Int×List Nat):∃ns',DR P ns' (Gr.put b v y)/\hV (en v) (eW y) (ns.map en) (dV ns b)=(ns'.map en,dV ns' (Gr.put b v y)):=by
 by_cases h:v∈ns
 ·refine⟨ns,⟨D.nd,λu=> ?_,D.sub⟩,?_⟩
  ·by_cases z:u=v
   ·subst z;rw[ft];exact⟨λ_=>rfl,λ_=>h⟩
   ·rw[lg z];exact D.mem u
  ·unfold dV
   rw[uM _ _ _ _ D.nd h]
   congr 1
   refine ON λu _=> ?_
   by_cases z:u=v
   ·subst z;rw[if_pos rfl,ft];rfl
   ·rw[if_neg z,lg z]
 ·refine⟨ns++ [v],⟨?_,λu=> ?_,λu hu=> ?_⟩,?_⟩
  ·exact PU.mpr ⟨D.nd,by simp,λx hx y hy=>by simp at hy;subst hy;exact λz=>h (z▸hx)⟩
  ·rw[OR,OB]
   by_cases z:u=v
   ·subst z;rw[ft];exact⟨λ_=>rfl,λ_=> .inr rfl⟩
   ·rw[lg z,<-D.mem u];exact⟨λw=>w.elim id λy=>absurd y z,.inl⟩
  ·rcases OR.mp hu with w | w
   ·exact D.sub u w
   ·rw[OB.mp w];exact hv
  ·unfold dV
   rw[qG _ _ _ _ h,PF,PF]
   congr 1
   congr 1
   ·refine ON λu hu=> ?_
    rw[lg (λ(z:u=v)=>h (z▸hu))]
   ·simp[ft,oW]
theorem Em {P ns:List N2}{b:cP N2}(D:DR P ns b)(x:N2×N2×Int)(d:Int)(w:List Nat) :
  dU [.dct (ns.map en) (dV ns b),eB x,eW (d,w)] = .ok (.bl (fJ b x.2.1 (d+x.2.2))):=by
 refine aZ rfl ?_
 show kc [.va (.dct (ns.map en) (dV ns b)),.va (eB x),.va (eW (d,w)),.em] =_
 unfold kc
 have g:oD jA (vr 0) (o2 aU (vr 1) (cn (.int 1))) [.va (.dct (ns.map en) (dV ns b)),.va (eB x),.va (eW (d,w)),.em] = .ok (oW (b x.2.1)):=by
  refine L3 rfl rfl ?_
  unfold jA;rw[bK];simp only[D.get];cases b x.2.1 <;> rfl
 rw[aw (bM g rfl)];refine bB ?_
 unfold fJ
 cases q:b x.2.1 with
 | none=>exact DD (ay rfl rfl rfl)
 | some y=>exact(DE (ay rfl rfl rfl)).trans (ay rfl rfl rfl)
abbrev EM:En->Rs Fl:=(aD (cI (ln 2 (oD jA (vr 2) (o2 aU (vr 5) (cn (.int 0))))) (gN 6)) (aD (gD (vW (tb (o2 jh (vr 6) (cn .non))) (fO (JN 2 (tb (cl dU (ae (vr 2) (ae (vr 5) (ae (vr 6) aj)))))))) K6 sN) (aD (cI (o2 aV (o2 aU (vr 6) (cn (.int 1))) (dz (ae (vr 4) aj))) (gN 7)) (aD (cI (d6 (iS (vr 7)) [none,some 0] (gN 0) bT (o2 aU (o2 aU (vr 1) (vr 0)) (cn (.int 0)))) (gN 8)) (aD (gD (tb (o2 sg (o2 aU (vr 5) (cn (.int 1))) (vr 8))) (aW (aP (ae (cn .non) (ae (sl (vr 7) (pS (oL ik (vr 8) (o2 aU (vr 5) (cn (.int 1))))) pN) aj)))) sN) (aD (AF 2 (o2 aU (vr 5) (cn (.int 1))) (aP (ae (o2 aV (o2 aU (vr 6) (cn (.int 0))) (o2 aU (vr 5) (cn (.int 2)))) (ae (vr 7) aj)))) (cI (cn (.bl true)) (gN 3))))))))
abbrev MP:T->En->Rs En:=gT 2 (iX (gN 4) (iX (gN 5) u7))
def eL (L:bS N2):T:=.lst (L.map eB)
def B7 (L:bS N2)(t:T):T:=match t with
 | .int j=>match L[j.toNat]? with
  | some x=>en x.1
  | none=> .non
 | _=> .non
theorem zD {L:bS N2}:∀{ks:List Nat} {a b:N2},Ch L a ks b->(eN ks).map (B7 L)=(gi L ks).map en
 | [],_,_,_=>rfl
 | k::r,a,b,h=>by
  rw[h.M0];obtain⟨c,m,e,h⟩:=h
  show B7 L (.int k)::(eN r).map (B7 L)=en a::(gi L r).map en
  rw[zD h]
  congr 1
  unfold B7;simp only[PC,e]
theorem EE (v:N2):∀(l:List N2),fU (en v) (l.map en)=decide (v∈l)
 | [] =>rfl
 | u::l=>by
  have ih:=EE v l;unfold fU at ih ⊢;rw[Oc,Q6,ih,EA]
  by_cases h:u=v
  ·subst h;simp
  ·have h':¬ v=u:=λz=>h z.symm
   simp[h,h']
theorem wU (v:N2):∀(l:List N2) (n:Nat),v∈l->kI (en v) (l.map en) n=some (n+l.idxOf v)
 | [],n,h=>by simp at h
 | u::l,n,h=>by
  rw[Oc,kI,EA,Xf]
  by_cases z:u=v
  ·subst z;simp
  ·have h':v∈l:=(Og.mp h).elim (λy=>absurd y.symm z) id
   have zb:(u == v)=false:=by rw[beq_eq_false_iff_ne];exact z
   rw[zb,decide_eq_false z,if_neg OF,wU v l (n+1) h'];simp only[cond_false]
   congr 1
   omega
theorem Hz (v:N2):(en v).nd=true:=rfl
theorem ur {α:Type}(f:α->T)(h:∀a,(f a).nd=true):∀l:List α,nds (l.map f)=true
 | [] =>rfl
 | a::l=>by rw[Oc,nds,h a,ur f h l];rfl
theorem Eu (v:N2):(en v).dep<=60:=by show(T.tup [.int v.c,.int v.k]).dep<=60;simp[T.dep,deps]
theorem Mg (v:N2)(l:List N2):sg (en v) (.lst (l.map en))= .ok (.bl (decide (v∈l))):=by
 show(if (_\/_)/\_/\(T.lst (l.map en)).nd=true then _ else _)=_
 rw[if_pos ⟨.inl (Eu v),rfl,ur en Hz l⟩,EE]
theorem DP (v:N2)(l:List N2)(h:v∈l):ik (.lst (l.map en)) (en v)= .ok (.int ((l.idxOf v:Nat):Int)):=by
 unfold ik;simp only;rw[if_pos ⟨.inl (Eu v),rfl,ur en Hz l⟩,wU v l 0 h,R9]
theorem Km (p q:List Nat):eN (p++q)=eN p++eN q:=by unfold eN;rw[PF]
theorem C7 (D:Bool):∀ks:List Nat,nks D (eN ks)=true
 | [] =>rfl
 | k::r=>by show nks D (.int k::eN r)=true;unfold nks;rw[C7 D r];rfl
theorem Ch.len {L:bS N2}{ks:List Nat}{a b:N2}(h:Ch L a ks b)(hn:(gi L ks).Nodup):ks.length<=L.length:=by
 have:=kn (h.nodup hn) λk hk=>OY.mpr (h.lt k hk)
 rwa [OU]at this
abbrev sE (L:bS N2)(st:T)(o:OT)(b:Bool)(k:Nat)(x:N2×N2×Int)(s6 s7 s8:Sl):En:=[.va (eL L),.va st,.ow o,.va (.bl b),.va (.int k),.va (eB x),s6,s7,s8]
def HU (L:bS N2)(P ns:List N2)(b:cP N2)(k:Nat)(x:N2×N2×Int)(st:T)(mv:Bool)(s6 s7 s8:Sl):Sum (Option (cP N2)) (List Nat)->Prop
 | .inl none=> ∃s6' s7' s8',EM (sE L st (.dct (ns.map en) (dV ns b)) mv k x s6 s7 s8)= .ok (.ct (sE L st (.dct (ns.map en) (dV ns b)) mv k x s6' s7' s8'))
 | .inl (some b')=> ∃ns' s6' s7' s8',DR P ns' b'/\EM (sE L st (.dct (ns.map en) (dV ns b)) mv k x s6 s7 s8)= .ok (.nx (sE L st (.dct (ns'.map en) (dV ns' b')) true k x s6' s7' s8'))
 | .inr q=>EM (sE L st (.dct (ns.map en) (dV ns b)) mv k x s6 s7 s8)= .ok (.rt (.tup [.non,.lst (eN q)]))
theorem Fs {L:bS N2}{S P ns:List N2}{b:cP N2}{k:Nat}{x:N2×N2×Int}(K:Kept L S b)(D:DR P ns b)(hL:L.length<=500)(hP:P.length<1000)(e:L[k]? =some x)(hx:x.2.1∈P)(st:T)(mv:Bool)(s6 s7 s8:Sl) :
  HU L P ns b k x st mv s6 s7 s8 (iU L b k x):=by
 obtain⟨a,c,m⟩:=x;unfold HU
 generalize hks:ns.map en=ks
 generalize hvs:dV ns b=vs
 have get:∀s7 s8,ln 2 (oD jA (vr 2) (o2 aU (vr 5) (cn (.int 0)))) (sE L st (.dct ks vs) mv k (a,c,m) s6 s7 s8)= .ok (oW (b a)):=λs7 s8=>by
  refine J1 rfl (L3 rfl rfl ?_) ?_
  ·unfold jA
   rw[bK,<-hks,<-hvs];simp only[D.get];cases b a <;> rfl
  ·cases b a with
   | none=>rfl
   | some y=>show nks true [.int y.1,.lst (eN y.2)] =true;simp[nks,T.nk,C7]
 have s1:∀G,aD (cI (ln 2 (oD jA (vr 2) (o2 aU (vr 5) (cn (.int 0))))) (gN 6)) G (sE L st (.dct ks vs) mv k (a,c,m) s6 s7 s8)=G (sE L st (.dct ks vs) mv k (a,c,m) (.va (oW (b a))) s7 s8):=λG=>
  aw (bM (get s7 s8) rfl)
 cases qa:b a with
 | none=>
  rw[show iU L b k (a,c,m)= .inl none from by unfold iU;simp only[qa]]
  simp only;refine⟨.va .non,s7,s8,?_⟩
  unfold EM;rw[s1,qa]
  exact DA (dA (wI (bx (ay rfl rfl rfl))))
 | some y=>
  obtain⟨d,w⟩:=y
  have bt:∀s7 s8,JN 2 (tb (cl dU (ae (vr 2) (ae (vr 5) (ae (vr 6) aj))))) (sE L st (.dct ks vs) mv k (a,c,m) (.va (eW (d,w))) s7 s8)= .ok (fJ b c (d+m)):=λs7 s8=>by
   refine L5 (bx (aE rfl ?_))
   rw[<-hks,<-hvs];exact Em D (a,c,m) d w
  have nn:tb (o2 jh (vr 6) (cn .non)) (sE L st (.dct ks vs) mv k (a,c,m) (.va (eW (d,w))) s7 s8)= .ok false:=bx (ay rfl rfl rfl)
  have cond:=l6 nn (dX (bt s7 s8))
  have s1':∀G,aD (cI (ln 2 (oD jA (vr 2) (o2 aU (vr 5) (cn (.int 0))))) (gN 6)) G (sE L st (.dct ks vs) mv k (a,c,m) s6 s7 s8)=G (sE L st (.dct ks vs) mv k (a,c,m) (.va (eW (d,w))) s7 s8):=λG=>by rw[s1 G,qa];rfl
  cases hb:fJ b c (d+m)with
  | false=>
   rw[show iU L b k (a,c,m)= .inl none from by unfold iU;simp only[qa,hb];rfl]
   simp only;rw[hb]at cond;refine⟨.va (eW (d,w)),s7,s8,?_⟩
   unfold EM;rw[s1']
   exact DA (dA cond)
  | true=>
   rw[hb]at cond;obtain⟨s,hs,h1,h2,h3,h4,h5⟩:=K.walk a d w qa
   have hch:Ch L s (w++ [k]) c:=h1.snoc e
   have hwl:w.length<=500:=OI (Ch.len h1 h4) hL
   have s2:∀G,aD (gD (vW (tb (o2 jh (vr 6) (cn .non))) (fO (JN 2 (tb (cl dU (ae (vr 2) (ae (vr 5) (ae (vr 6) aj)))))))) K6 sN) G (sE L st (.dct ks vs) mv k (a,c,m) (.va (eW (d,w))) s7 s8)=G (sE L st (.dct ks vs) mv k (a,c,m) (.va (eW (d,w))) s7 s8):=λG=>
    aw ((dt cond).trans rfl)
   have wk:o2 aV (o2 aU (vr 6) (cn (.int 1))) (dz (ae (vr 4) aj)) (sE L st (.dct ks vs) mv k (a,c,m) (.va (eW (d,w))) s7 s8)= .ok (.lst (eN (w++ [k]))):=by
    refine ay rfl (jR rfl (aB (k:=1) (by simp))) ?_
    show k7 (eN w++eN [k])=_
    rw[<-Km];unfold k7;rw[if_pos (aB (k:=1000) (by unfold eN;rw[Ob,Om];simp;omega))]
   have s3:∀G,aD (cI (o2 aV (o2 aU (vr 6) (cn (.int 1))) (dz (ae (vr 4) aj))) (gN 7)) G (sE L st (.dct ks vs) mv k (a,c,m) (.va (eW (d,w))) s7 s8)=G (sE L st (.dct ks vs) mv k (a,c,m) (.va (eW (d,w))) (.va (.lst (eN (w++ [k])))) s8):=λG=>aw (bM wk rfl)
   have ps:d6 (iS (vr 7)) [none,some 0] (gN 0) bT (o2 aU (o2 aU (vr 1) (vr 0)) (cn (.int 0))) (sE L st (.dct ks vs) mv k (a,c,m) (.va (eW (d,w))) (.va (.lst (eN (w++ [k])))) s8)= .ok (.lst ((gi L (w++ [k])).map en)):=by
    rw[<-zD hch];refine m6 (iq rfl) (aB (k:=1000) (by unfold eN;rw[Ob,Om];simp;omega)) (by simp) λt ht=> ?_
    unfold eN at ht;obtain⟨j,hj,rfl⟩:=Oq.mp ht
    have hjl:=hch.lt j hj;refine ay (HI rfl rfl (by rw[Ov,Of hjl];rfl)) rfl ?_
    unfold B7;simp only[PC,Of hjl]
    rfl
   have s4:∀G,aD (cI (d6 (iS (vr 7)) [none,some 0] (gN 0) bT (o2 aU (o2 aU (vr 1) (vr 0)) (cn (.int 0)))) (gN 8)) G (sE L st (.dct ks vs) mv k (a,c,m) (.va (eW (d,w))) (.va (.lst (eN (w++ [k])))) s8)=G (sE L st (.dct ks vs) mv k (a,c,m) (.va (eW (d,w))) (.va (.lst (eN (w++ [k])))) (.va (.lst ((gi L (w++ [k])).map en)))):=λG=>aw (bM ps rfl)
   have inn:tb (o2 sg (o2 aU (vr 5) (cn (.int 1))) (vr 8)) (sE L st (.dct ks vs) mv k (a,c,m) (.va (eW (d,w))) (.va (.lst (eN (w++ [k])))) (.va (.lst ((gi L (w++ [k])).map en))))= .ok (decide (c∈gi L (w++ [k]))):=
    bx (ay rfl rfl (Mg c _))
   by_cases hn:c∈gi L (w++ [k])
   ·rw[show iU L b k (a,c,m)= .inr ((w++ [k]).drop ((gi L (w++ [k])).idxOf c))from by unfold iU;simp only[qa,hb,if_pos hn,if_true]]
    simp only;unfold EM;rw[s1',s2,s3,s4];rw[decide_eq_true hn]at inn;refine fB ((dA inn).trans (bB ?_))
    have sle:sl (vr 7) (pS (oL ik (vr 8) (o2 aU (vr 5) (cn (.int 1))))) pN (sE L st (.dct ks vs) mv k (a,c,m) (.va (eW (d,w))) (.va (.lst (eN (w++ [k])))) (.va (.lst ((gi L (w++ [k])).map en))))= .ok (.lst (eN ((w++ [k]).drop ((gi L (w++ [k])).idxOf c)))):=by
     rw[wG rfl (qw (k_oL rfl rfl (DP c _ hn))) rfl,mr];unfold eN;rw[VJ]
    exact(dy (ar rfl (ar sle rfl)) (aB (k:=2) (by simp)))
   ·rw[show iU L b k (a,c,m)= .inl (some (Gr.put b c (d+m,w++ [k])))from by unfold iU;simp only[qa,hb,if_neg hn,if_true]]
    simp only;rw[decide_eq_false hn]at inn;obtain⟨ns',D',hd⟩:=D.put hx (d+m,w++ [k]);refine⟨ns',.va (eW (d,w)),.va (.lst (eN (w++ [k]))),.va (.lst ((gi L (w++ [k])).map en)),D',?_⟩
    unfold EM;rw[s1',s2,s3,s4];rw[aw ((dt inn).trans rfl)]
    have pt:AF 2 (o2 aU (vr 5) (cn (.int 1))) (aP (ae (o2 aV (o2 aU (vr 6) (cn (.int 0))) (o2 aU (vr 5) (cn (.int 2)))) (ae (vr 7) aj))) (sE L st (.dct ks vs) mv k (a,c,m) (.va (eW (d,w))) (.va (.lst (eN (w++ [k])))) (.va (.lst ((gi L (w++ [k])).map en))))
      = .ok (.nx (sE L st (.dct (ns'.map en) (dV ns' (Gr.put b c (d+m,w++ [k])))) mv k (a,c,m) (.va (eW (d,w))) (.va (.lst (eN (w++ [k])))) (.va (.lst ((gi L (w++ [k])).map en))))):=by
     have ev:aP (ae (o2 aV (o2 aU (vr 6) (cn (.int 0))) (o2 aU (vr 5) (cn (.int 2)))) (ae (vr 7) aj)) (sE L st (.dct ks vs) mv k (a,c,m) (.va (eW (d,w))) (.va (.lst (eN (w++ [k])))) (.va (.lst ((gi L (w++ [k])).map en))))= .ok (eW (d+m,w++ [k])):=
      dy rfl (aB (k:=2) (by simp))
     have ek:o2 aU (vr 5) (cn (.int 1)) (sE L st (.dct ks vs) mv k (a,c,m) (.va (eW (d,w))) (.va (.lst (eN (w++ [k])))) (.va (.lst ((gi L (w++ [k])).map en))))= .ok (en c):=rfl
     show(aP _ _ >>= λv=>o2 aU (vr 5) (cn (.int 1)) _ >>= λkk=>match keyOf kk with | some _=>if ks.length<1000 then Rs.ok (Fl.nx _)else .bad | none=> .bad)=_
     rw[ev,aH,ek,aH,bK]
     have hlen:ks.length<1000:=by rw[<-hks,Ob];exact RC (kn D.nd D.sub) hP
     simp only[if_pos hlen]
     have hd1:hV (en c) (eW (d+m,w++ [k])) ks vs=(ns'.map en,dV ns' (Gr.put b c (d+m,w++ [k]))):=by rw[<-hks,<-hvs];exact hd
     rw[hd1]
     rfl
    rw[aw pt];exact bM rfl rfl
def Ci (L:bS N2)(st:T)(ns:List N2)(b:cP N2)(mv:Bool)(s4 s5 s6 s7 s8:Sl):En:=[.va (eL L),.va st,.ow (.dct (ns.map en) (dV ns b)),.va (.bl mv),s4,s5,s6,s7,s8]
def EH (L:bS N2)(P:List N2)(st:T)(X:Rs Fl):Sum (cP N2×Bool) (List Nat)->Prop
 | .inr q=>X= .ok (.rt (.tup [.non,.lst (eN q)]))
 | .inl (b',mv')=> ∃ns' s4 s5 s6 s7 s8,DR P ns' b'/\X= .ok (.nx (Ci L st ns' b' mv' s4 s5 s6 s7 s8))
theorem tL {L:bS N2}{S P:List N2}(hL:L.length<=500)(hP:P.length<1000)(hx:∀x∈L,x.2.1∈P)(st:T):∀(r:bS N2) (k:Nat) (b:cP N2) (mv:Bool) (ns:List N2) (s4 s5 s6 s7 s8:Sl),L.drop k=r->Kept L S b->DR P ns b →
  EH L P st (bD MP EM (dN k (r.map eB)) (Ci L st ns b mv s4 s5 s6 s7 s8)) (ju L k r b mv)
 | [],k,b,mv,ns,s4,s5,s6,s7,s8,_,K,D=>⟨ns,s4,s5,s6,s7,s8,D,rfl⟩
 | x::r,k,b,mv,ns,s4,s5,s6,s7,s8,hr,K,D=>by
  have e:L[k]? =some x:=by
   have:=congrArg (·[0]?) hr
   simpa using this
  have hr':L.drop (k+1)=r:=by
   have:=congrArg (List.drop 1) hr
   simpa [List.drop_drop,Wp]using this
  have tg:MP (.tup [.int k,eB x]) (Ci L st ns b mv s4 s5 s6 s7 s8)= .ok [.va (eL L),.va st,.ow (.dct (ns.map en) (dV ns b)),.va (.bl mv),.va (.int k),.va (eB x),s6,s7,s8]:=rfl
  have tn:=Fs K D hL hP e (hx x (Py e)) st mv s6 s7 s8;rw[ju,Oc,dN]
  cases q:iU L b k x with
  | inr w=>
   rw[q]at tn;simp only;unfold EH
   exact Gu tg tn
  | inl o=>
   rw[q]at tn
   cases o with
   | none=>
    obtain⟨s6',s7',s8',tn⟩:=tn;simp only;rw[Gv tg tn]
    exact tL hL hP hx st r (k+1) b mv ns _ _ _ _ _ hr' K D
   | some b'=>
    obtain⟨ns',s6',s7',s8',D',tn⟩:=tn;simp only;rw[dM tg tn];refine tL (S:=S) hL hP hx st r (k+1) b' true ns' _ _ _ _ _ hr' ?_ D'
    -- what is kept stays so
    obtain⟨a,c,m⟩:=x;unfold iU at q
    cases qa:b a with
    | none=>simp only[qa]at q;cases q
    | some y=>
     obtain⟨d,w⟩:=y;simp only[qa]at q
     split at q
     ·rename_i hb
      split at q
      ·cases q
      ·rename_i hn
       cases q;exact K.put e qa hb hn
     ·cases q
abbrev wF:En->Rs Fl:=aD (cI (cn (.bl false)) (gN 3)) (d7 (iE (ae (vr 0) aj)) MP EM)
def SetP (L:bS N2)(P:List N2)(st:T)(X:Rs Fl):Sum (cP N2) (List Nat)->Prop
 | .inr q=>X= .ok (.rt (.tup [.non,.lst (eN q)]))
 | .inl b'=> ∃ns' s4 s5 s6 s7 s8,DR P ns' b'/\X= .ok (.nx (Ci L st ns' b' false s4 s5 s6 s7 s8))
theorem vE {L:bS N2}{S P:List N2}(hL:L.length<=500)(hP:P.length<1000)(hx:∀x∈L,x.2.1∈P)(st:T):∀(n:Nat) (b:cP N2) (ns:List N2) (s4 s5 s6 s7 s8:Sl) (r:Sum (cP N2) (List Nat)),Kept L S b->DR P ns b->Gr.settle L n b=some r →
  SetP L P st (cf (tb (vr 3)) wF (n+1) (Ci L st ns b true s4 s5 s6 s7 s8)) r
 | 0,_,_,_,_,_,_,_,_,_,_,h=>by cases h
 | n+1,b,ns,s4,s5,s6,s7,s8,r,K,D,h=>by
  have sw:=tL hL hP hx st L 0 b false ns s4 s5 s6 s7 s8 rfl K D
  have ok:=jE L 0 b false rfl K
  have body:∀X,bD MP EM (dN 0 (L.map eB)) (Ci L st ns b false s4 s5 s6 s7 s8)= .ok X->wF (Ci L st ns b true s4 s5 s6 s7 s8)= .ok X:=λX hX=>by
   show aD _ _ _=_
   rw[aw (bM rfl rfl)];exact fT (L7 rfl) hX
  have tt:tb (vr 3) (Ci L st ns b true s4 s5 s6 s7 s8)= .ok true:=rfl;rw[Gr.settle]at h
  revert sw ok h
  generalize ju L 0 L b false=R
  intro h sw ok
  cases R with
  | inr q=>
   simp only at h;cases h
   exact Dy tt (body _ sw)
  | inl p=>
   obtain⟨b',mv'⟩:=p;obtain⟨ns',t4,t5,t6,t7,t8,D',sw⟩:=sw;obtain⟨K',_⟩:=ok
   cases mv' with
   | true=>
    simp only at h
    have ih:=vE hL hP hx st n b' ns' t4 t5 t6 t7 t8 r K' D' h;rw[qv tt (body _ sw)]
    exact ih
   | false=>
    simp only at h;cases h;refine⟨ns',t4,t5,t6,t7,t8,D',?_⟩
    rw[qv tt (body _ sw)];exact wC rfl
theorem i6 {c:En->Rs Bool}{F:En->Rs Fl}{x:Fl}:∀{n m:Nat} {Z:En},n<=m->cf c F n Z= .ok x->cf c F m Z= .ok x
 | 0,_,_,_,h=>by cases h
 | n+1,0,_,hl,_=>absurd hl (by omega)
 | n+1,m+1,Z,hl,h=>by
  unfold cf at h ⊢
  cases q:c Z with
  | bad=>rw[q]at h;cases h
  | err _=>rw[q]at h;cases h
  | ok k=>
   rw[q]at h
   cases k with
   | false=>exact h
   | true=>
    simp only at h ⊢
    cases q2:F Z with
    | bad=>rw[q2]at h;cases h
    | err _=>rw[q2]at h;cases h
    | ok f=>
     rw[q2]at h
     cases f with
     | nx Z'=>exact i6 (by omega) h
     | ct Z'=>exact i6 (by omega) h
     | bk Z'=>exact h
     | rt t=>exact h
theorem CG (w:T):∀S:List N2,KI (S.map λv=> .tup [en v,w])=some (S.map λv=>(en v,w))
 | [] =>rfl
 | v::S=>by rw[Oc,KI,bK,CG w S];rfl
theorem wX (w:T):∀(S ns:List N2) (g:N2->T),(ns++S).Nodup->(∀v∈S,g v=w)->jX (S.map λv=>(en v,w)) (ns.map en,ns.map g)=((ns++S).map en,(ns++S).map g)
 | [],ns,g,_,_=>by rw[Pz];rfl
 | v::S,ns,g,hn,hg=>by
  have hv:v∉ns:=λz=>by
   rw[PU]at hn;exact hn.2.2 v z v Oe rfl
  rw[Oc,jX,qG _ _ _ _ hv]
  have e1:ns.map en++ [en v] =(ns++ [v]).map en:=by rw[PF];rfl
  have e2:ns.map g++ [w] =(ns++ [v]).map g:=by rw[PF,<-hg v Oe];rfl
  rw[e1,e2,wX w S (ns++ [v]) g (by rw[OS];exact hn) λu hu=>hg u (N8 _ hu),OS]
  rfl
theorem GQ (w:T)(S:List N2)(hn:S.Nodup)(hl:S.length<=1000):Aj [.lst (S.map λv=> .tup [en v,w])] = .ok (.dct (S.map en) (S.map λ_=>w)):=by
 unfold Aj;simp only[CG];rw[if_pos (by rw[Ob];exact hl)]
 have:=wX w S [] (λ_=>w) (by simpa using hn) (λ_ _=>rfl)
 rw[P4]at this;rw[show(([]:List T),([]:List T))=(([]:List N2).map en,([]:List N2).map λ_=>w)from rfl,this]
def eS (S:List N2):T:=.lst (S.map en)
def G7 (L:bS N2)(P:List N2)(X:Rs T):Sum (cP N2) (List Nat)->Prop
 | .inr q=>X= .ok (.tup [.non,.lst (eN q)])
 | .inl b'=> ∃ns',DR P ns' b'/\X= .ok (.tup [.dct (ns'.map en) (dV ns' b'),.non])
structure KH (L:bS N2)(P:List N2):Prop where
 len:L.length<=500
 size:size L<=100000000
 ends:∀x∈L,x.1∈P/\x.2.1∈P
 pl:P.length<1000
def SOk (L:bS N2)(S:List N2):Sum (cP N2) (List Nat)->Prop
 | .inr q=>Bar L q
 | .inl b'=>Settled L S b'
theorem qE {L:bS N2}{S P:List N2}(F:KH L P)(hS:S.Nodup)(hSP:∀v∈S,v∈P):∃r,G7 L P (fz [eL L,eS S]) r/\SOk L S r:=by
 have bound:L.length*(2*size L+1)<1000000000000 - 1:=by
  have h1:=F.len
  have h2:=F.size
  have:L.length*(2*size L+1)<=500*(2*100000000+1):=Nat.mul_le_mul h1 (by omega)
  omega
 obtain⟨r,hr,ok⟩:=xR L S bound
 have ok':SOk L S r:=by cases r <;> exact ok
 refine⟨r,?_,ok'⟩
 have hSl:S.length<=1000:=OI (kn hS hSP) (by have:=F.pl;omega)
 have D0:DR P S (Gr.start S):=⟨hS,λv=>by unfold Gr.start;by_cases h:v∈S <;> simp[h],hSP⟩
 have dv0:dV S (Gr.start S)=S.map λ_=>eW (0,[]):=ON λv hv=>by unfold Gr.start;rw[if_pos hv];rfl
 have w:=vE F.len F.pl (λx hx=>(F.ends x hx).2) (eS S) _ (Gr.start S) S .em .em .em .em .em r (qu L S) D0 hr
 have lc:d6 (iS (vr 1)) [none] (gN 0) bT (aP (ae (vr 0) (ae (aP (ae (cn (.int 0)) (ae (dz aj) aj))) aj))) [.va (eL L),.va (eS S),.em,.em,.em,.em,.em,.em,.em] = .ok (.lst (S.map λv=> .tup [en v,eW (0,[])])):=by
  have:=m6 (fi:=iS (vr 1)) (src:=[none]) (fe:=aP (ae (vr 0) (ae (aP (ae (cn (.int 0)) (ae (dz aj) aj))) aj))) (Z:=[.va (eL L),.va (eS S),.em,.em,.em,.em,.em,.em,.em]) (iq rfl) (aB (by rw[Ob];exact hSl)) (by simp) λt _=>
   dy (ar rfl (ar (dy (ar rfl (ar (jR rfl (Pj _)) rfl)) (aB (k:=2) (by simp))) rfl)) (aB (k:=2) (by simp))
  rw[this,OM];rfl
 have n0:rN 2 (d6 (iS (vr 1)) [none] (gN 0) bT (aP (ae (vr 0) (ae (aP (ae (cn (.int 0)) (ae (dz aj) aj))) aj)))) [.va (eL L),.va (eS S),.em,.em,.em,.em,.em,.em,.em] = .ok (.nx [.va (eL L),.va (eS S),.ow (.dct (S.map en) (dV S (Gr.start S))),.em,.em,.em,.em,.em,.em]):=by
  unfold rN;rw[lc,aH,GQ _ S hS hSl,aH,dv0]
  rfl
 have main:∀G X,cf (tb (vr 3)) wF FU (Ci L (eS S) S (Gr.start S) true .em .em .em .em .em)= .ok X->j0 [.va (eL L),.va (eS S),.em,.em,.em,.em,.em,.em,.em] =G->(aD (cf (tb (vr 3)) wF FU) (nV 2 (aW (aP (ae (vr 2) (ae (cn .non) aj)))))) (Ci L (eS S) S (Gr.start S) true .em .em .em .em .em)=G:=λG X _ h=>by
  rw[<-h];unfold j0;rw[aw n0,aw (Z':=Ci L (eS S) S (Gr.start S) true .em .em .em .em .em) (bM rfl rfl)]
 cases r with
 | inr q=>
  have w':=i6 (m:=FU) (by unfold FU;omega) w
  refine aZ rfl ?_
  show j0 [.va (eL L),.va (eS S),.em,.em,.em,.em,.em,.em,.em] =_
  rw[<-main _ _ w' rfl]
  exact fB w'
 | inl b'=>
  obtain⟨ns',s4,s5,s6,s7,s8,D',w⟩:=w
  have w':=i6 (m:=FU) (by unfold FU;omega) w
  refine⟨ns',D',aZ rfl ?_⟩
  show j0 [.va (eL L),.va (eS S),.em,.em,.em,.em,.em,.em,.em] =_
  rw[<-main _ _ w' rfl,aw w'];exact DJ (bB (dy rfl (aB (k:=2) (by simp))))
theorem qg {α:Type}{f:α->T}{p:α->Prop}:∀{l:List T},(∀t∈l,∃x,t=f x/\p x)->∃L:List α,l=L.map f/\∀x∈L,p x
 | [],_=>⟨[],rfl,λ_ h=>nomatch h⟩
 | t::l,h=>by
  obtain⟨x,e,hx⟩:=h t Oe;obtain⟨L,e2,h2⟩:=qg λu hu=>h u (N8 _ hu)
  exact⟨x::L,by rw[e,e2];rfl,λy hy=>(Og.mp hy).elim (λz=>z▸hx) (h2 y)⟩
theorem qH {t:T}(h:bJ t=true):∃(x y:Int) (r:List Int),t= .tup [.int x,.int y,.tup (r.map .int)]/\(0<=x/\x<=9)/\(0<=y/\y<=9)/\∀k,0<=r.getD k 0/\r.getD k 0<=99:=by
 obtain⟨x,y,r,rfl,h1,h2,h3,h4⟩:=dZ h;refine⟨x,y,r,rfl,h1,h2,λk=> ?_⟩
 have h':(mQ (.int x) (.int y)&&cC (.tup (r.map .int)))=true:=h;rw[N9]at h'
 have hr:=h'.2;unfold cC at hr;rw[N9]at hr
 have hr2:(((r.map T.int).all λu=>aX u 0 99)&&(match nums (r.map .int)with | some m=>my m | none=>false))=true:=hr.2
 rw[N9]at hr2
 by_cases hk:k<r.length
 ·have:=OG.mp hr2.1 (.int r[k]) (Oq.mpr ⟨_,PQ hk,rfl⟩)
  obtain⟨i,e,a,b⟩:=dq this;cases e;simp[hk];exact⟨a,b⟩
 ·simp[hk]
theorem zH {cs:List T}{i:Nat}:∀{cs0:List T} {c k:Nat},i<=c->c<i+cs0.length->k<IC (cs0.getD (c - i) .non)->T.tup [.int c,.int k] ∈fP i cs0:=by
 intro cs0
 induction cs0 generalizing i with
 | nil=>intro c k h1 h2;simp at h2;omega
 | cons a r ih=>
  intro c k h1 h2 h3;rw[fP,OR]
  by_cases e:c=i
  ·subst e
   rw[SJ]at h3
   have h3':k<IC a:=h3;exact .inl (Oq.mpr ⟨.int k,Gg h3',rfl⟩)
  ·refine .inr (ih (by omega) (by rw[Oj]at h2;omega) ?_)
   rw[show c - i=(c - (i+1))+1 by omega]at h3
   exact h3
theorem sj {cs:List T}{t:T}(h:bh cs t=true):t∈fP 0 cs:=by
 obtain⟨c,k,rfl⟩:=cN h;unfold bh at h;simp only[N9,decide_eq_true_eq]at h;obtain⟨⟨h1,h2⟩,h3,h4⟩:=h;obtain⟨c,rfl⟩:=Pv h1;obtain⟨k,rfl⟩:=Pv h3;rw[rO]at h4;exact zH (cs:=cs) (Pj _) (by omega) (by rw[SK];omega)
theorem Ea {cs:List T}{t:T}(h:t∈fP 0 cs):∃v:N2,t=en v/\True:=by
 obtain⟨c,k,rfl,_⟩:=ou cs 0 h;exact⟨⟨c,k⟩,rfl,trivial⟩
def big (x:N2×N2×Int):Prop:=x.2.2.natAbs<=999
theorem rX {a b:Int}(ha : -99<=a/\a<=99)(hb:0<=b/\b<=9):(a*b).natAbs<=999:=by
 rw[Int.natAbs_mul]
 have h1:a.natAbs<=99:=by omega
 have h2:b.natAbs<=9:=by omega
 exact OI (Nat.mul_le_mul h1 h2) (by decide)
theorem HQ {cs0:List T}:∀{cs:List T} {i:Nat},(∀c∈cs,bJ c=true)->(∀c k:Nat,i<=c->c<i+cs.length->k<IC (cs.getD (c - i) .non)->T.tup [.int c,.int k] ∈fP 0 cs0) →
  ∀t∈bC i cs,∃x,t=eB x/\(en x.1∈fP 0 cs0/\en x.2.1∈fP 0 cs0/\big x)
 | [],_,_,_,t,h=>by simp[bC]at h
 | c::cs,i,hc,hm,t,h=>by
  rw[bC,OR]at h;rcases h with h | h
  ·obtain⟨x,y,r,rfl,hx,hy,hr⟩:=qH (hc c Oe)
   have hm0:∀k,k<r.length->T.tup [.int i,.int k] ∈fP 0 cs0:=λk hk=>hm i k (Ot _) (by simp) (by rw[SJ];show k<(r.map T.int).length;rw[Ob];exact hk)
   rw[oP]at h;unfold cB at h;obtain⟨k,hk,hp⟩:=R3.mp h
   have hk:=OY.mp hk
   have d : -99<=dr r k/\dr r k<=99:=by have:=hr k;have:=hr (k+1);unfold dr;omega
   unfold pr at hp;simp only[Og,Pd,or_false]at hp;rcases hp with rfl | rfl
   ·exact⟨(⟨i,k⟩,⟨i,((k+1:Nat):Int)⟩,dr r k*y),rfl,hm0 k (by omega),hm0 (k+1) (by omega),rX d hy⟩
   ·exact⟨(⟨i,((k+1:Nat):Int)⟩,⟨i,k⟩,-dr r k*x),rfl,hm0 (k+1) (by omega),hm0 k (by omega),rX (by omega) hx⟩
  ·exact HQ (λc h=>hc c (N8 _ h)) (λc k h1 h2 h3=>hm c k (by omega) (by rw[Oj];omega) (by rw[show c - i=(c - (i+1))+1 by omega];exact h3)) t h
theorem L0 {cs:List T}{u:T}(hu:bN cs u=true):∀t∈lB u,∃x,t=eB x/\(en x.1∈fP 0 cs/\en x.2.1∈fP 0 cs/\big x):=by
 intro t ht;obtain⟨a,b,x,y,rfl,hd,ha,hb,_⟩:=ez hu
 have ma:=sj ha
 have mb:=sj hb;obtain⟨va,rfl,_⟩:=Ea ma;obtain⟨vb,rfl,_⟩:=Ea mb;unfold eZ at hd;rw[N9]at hd;obtain⟨i,rfl,i1,i2⟩:=dq hd.1
 have e2:lB (.tup [en va,en vb,.int i,y])= .tup [en vb,en va,.int (-i)] ::(if y.isN then []else [.tup [en va,en vb,y]]):=rfl
 rw[e2]at ht;rcases Og.mp ht with rfl | ht
 ·exact⟨(vb,va,-i),rfl,mb,ma,by unfold big;simp only;omega⟩
 ·cases q:y.isN with
  | true=>rw[q]at ht;simp at ht
  | false=>
   rw[q]at ht
   have ht:t= .tup [en va,en vb,y]:=by simpa using ht
   have hw:aX y i 999=true:=by
    cases y with
    | non=>cases q
    | _=>exact hd.2
   obtain⟨j,rfl,j1,j2⟩:=dq hw;exact⟨(va,vb,j),ht,ma,mb,by unfold big;simp only;omega⟩
structure Rd (cs ls:List T)(L:bS N2)(P:List N2):Prop where
 g:Good cs ls
 b:By cs ls=L.map eB
 e:fP 0 cs=P.map en
 f:KH L P
 nd:P.Nodup
 pl:P.length<=16
 ll:L.length<=60
 bg:∀x∈L,big x
theorem zj {L:bS N2}(h:∀x∈L,big x):size L<=999*L.length:=by
 unfold size
 induction L with
 | nil=>simp
 | cons x L ih=>
  rw[Oc,QN,Oj]
  have:=ih λy hy=>h y (N8 _ hy)
  have:=h x Oe;unfold big at this;omega
theorem C5 {P:List N2}(h:(P.map en).Nodup):P.Nodup:=by
 induction P with
 | nil=>exact Rc
 | cons a r ih=>
  rw[Oc,OZ]at h;exact OZ.mpr ⟨λz=>h.1 (Oq.mpr ⟨a,z,rfl⟩),ih h.2⟩
theorem rP {cs ls:List T}(g:Good cs ls):∃L P,Rd cs ls L P:=by
 obtain⟨hc,c1,c4⟩:=cj g.c;obtain⟨P,eP,_⟩:=qg λt ht=>Ea ht
 have key:∀t∈By cs ls,∃x,t=eB x/\(en x.1∈fP 0 cs/\en x.2.1∈fP 0 cs/\big x):=λt ht=>by
  unfold By at ht;rw[OR]at ht;rcases ht with h | h
  ·exact HQ hc (λc k h1 h2 h3=>zH (cs:=cs) h1 h2 h3) t h
  ·obtain⟨u,hu,h⟩:=R3.mp h
   exact L0 (g.l u hu) t h
 obtain⟨L,eL,hL⟩:=qg key
 have mem:∀v:N2,en v∈fP 0 cs->v∈P:=λv hv=>by
  rw[eP]at hv;obtain⟨u,hu,e⟩:=Oq.mp hv;rw[<-uL e];exact hu
 have hl:=G2 g;rw[eL,Ob]at hl
 have hp:=uJ cs 0 hc;rw[eP,Ob]at hp
 have hs:=zj λx hx=>(hL x hx).2.2
 exact⟨L,P,g,eL,eP,⟨by omega,by omega,λx hx=>⟨mem _ (hL x hx).1,mem _ (hL x hx).2.1⟩,by omega⟩,C5 (eP▸mV cs 0),by omega,hl,λx hx=>(hL x hx).2.2⟩
theorem Ji {l:List T}:(T.lst l).pl=plS l:=by unfold T.pl;rfl
def run (L:bS N2):N2->List Nat->Option N2
 | a,[] =>some a
 | a,k::r=>match L[k]? with
  | some x=>if x.1=a then run L x.2.1 r else none
  | none=>none
theorem MC {L:bS N2}{k:Nat}{x:N2×N2×Int}{f g:En->Rs T}{Z:En}(hf:f Z= .ok (eL L))(hg:g Z= .ok (.int (k:Nat)))(e:L[k]? =some x):o2 aU f g Z= .ok (eB x):=
 HI hf hg (by rw[Ov,e];rfl)
theorem kl (f:Nat->Int):∀ks:List Nat,gj (ks.map λk=>T.int (f k))=some (ks.map f)
 | [] =>rfl
 | k::ks=>by rw[Oc,gj,kl f ks];rfl
section
variable {cs ls:List T}{L:bS N2}{P:List N2}
theorem Rd.bounds (R:Rd cs ls L P):eJ [RR cs ls] = .ok (eL L):=by rw[El R.g,R.b];rfl
end
theorem ql (L:bS N2){f:En->Rs T}{Z:En}(h:f Z= .ok (eL L)):cl cz (ae f aj) Z= .ok (.int (L.length:Nat)):=aE (ar h rfl) (by show Rs.ok (T.int ((L.map eB).length:Nat))=_;rw[Ob])
section
variable {cs ls:List T}{L:bS N2}{P:List N2}
theorem Rd.events (R:Rd cs ls L P):eI [RR cs ls] = .ok (eS P):=by rw[CU R.g,R.e];rfl
theorem yJ {ns:List N2}{b:cP N2}(D:DR P ns b){v:N2}{x:Int×List Nat}(e:b v=some x):bP (.dct (ns.map en) (dV ns b)) (en v)= .ok (eW x):=by
 unfold bP;simp only[bK];rw[D.get,e];rfl
theorem yL {ns:List N2}{b:cP N2}(D:DR P ns b)(v:N2):Bk (en v) (.dct (ns.map en) (dV ns b))= .ok (.bl (b v).isSome):=by
 unfold Bk;simp only[bK];rw[D.get];cases b v <;> rfl
def tmT (P:List N2)(t:N2->Int):T:=.tup (P.map λv=> .int (t v))
def MM (b:cP N2)(v:N2):Int:=match b v with
 | some x=>x.1
 | none=>0
def atT (t:N2->Int)(u:T):T:=match u with
 | .tup [.int c,.int k] => .int (t ⟨c,k⟩)
 | _=> .non
theorem Rd.NU (R:Rd cs ls L P):(¬NoNeg L/\kr [(RR cs ls)] = .ok .non)\/(NoNeg L/\∃t b,Settled L P b/\(∀v∈P,∃w,b v=some (t v,w))/\kr [(RR cs ls)] = .ok (tmT P t)):=by
 obtain⟨r,hr,ok⟩:=qE R.f R.nd (λv h=>h)
 have wrap:∀{w:T},d9 [(RR cs ls),eL L] = .ok w->kr [(RR cs ls)] = .ok w:=λ{w} e=>aZ rfl (bB (aE (ar rfl (ar (aE rfl R.bounds) rfl)) e))
 have begin_:∀{x z:T} {y:Rs Fl},fz [eL L,eS P] = .ok (.tup [x,z])->((aD (gD (tb (o2 jh (vr 3) (cn .non))) (aW (cn .non)) sN) (aW (cl e9 (ae (d6 (iS (vr 2)) [none,some 3] (gN 0) bT (o2 aU (o2 bP (vr 1) (vr 0)) (cn (.int 0)))) aj)))) [.va (RR cs ls),.va (eL L),.va (eS P),.va x] =y)->fX [.va (RR cs ls),.va (eL L),.em,.em] =y:=λ{x z y} hs hy=>by
  unfold fX;rw[aw (bM (aE rfl R.events) rfl)];rw[aw (bM (ay (aE rfl hs) rfl rfl) rfl)];exact hy
 cases r with
 | inr q=>exact .inl ⟨λn=>absurd n (Bar.neg ok),wrap (aZ rfl (begin_ hr (fB ((dA (bx (ay rfl rfl rfl))).trans rfl))))⟩
 | inl b=>
  obtain⟨ns,D,hr⟩:=hr
  have ok:Settled L P b:=ok
  have htm:∀v∈P,∃w,b v=some (MM b v,w):=λv hv=>by
   obtain⟨d,w,e,_⟩:=ok.least v hv v 0 (.nil v);exact⟨w,by unfold MM;rw[e]⟩
  refine .inr ⟨(ok.holds R.f.ends htm).Nx,MM b,b,ok,htm,wrap (aZ rfl (begin_ hr ?_))⟩
  generalize MM b=tm at htm
  have lc:d6 (iS (vr 2)) [none,some 3] (gN 0) bT (o2 aU (o2 bP (vr 1) (vr 0)) (cn (.int 0))) [.va (RR cs ls),.va (eL L),.va (eS P),.va (.dct (ns.map en) (dV ns b))] = .ok (.lst ((P.map en).map (atT tm))):=
   m6 (iq rfl) (aB (by rw[Ob];exact R.pl)) (by simp) λt ht=>by
    obtain⟨v,hv,rfl⟩:=Oq.mp ht;obtain⟨w,e⟩:=htm v hv;exact ay (ay rfl rfl (yJ D e)) rfl rfl
  rw[OM]at lc;rw[aw ((dt (bx (ay rfl rfl rfl))).trans rfl)];exact bB (aE (ar lc rfl) rfl)
theorem Rd.Nv (R:Rd cs ls L P):∃hw:Bool,aM [(RR cs ls)] = .ok (.bl hw)/\(hw=true↔NoNeg L):=by
 rcases R.NU with⟨n,e⟩ | ⟨n,t,b,_,_,e⟩
 ·exact⟨false,aZ rfl (bB (ay (aE rfl e) rfl rfl)),λz=>(by cases z),λz=>absurd z n⟩
 ·exact⟨true,aZ rfl (bB (ay (aE rfl e) rfl rfl)),λ_=>n,λ_=>rfl⟩
theorem Rd.Nm (R:Rd cs ls L P)(n:NoNeg L):bH [RR cs ls] = .ok .non:=by
 obtain⟨hw,e,i⟩:=R.Nv;rw[i.mpr n]at e;refine yz (Z:=[.va (RR cs ls)]) rfl ?_
 show dF [.va (RR cs ls)] =_
 unfold dF;exact(dt (dX (bx (aE rfl e)))).trans rfl
theorem Rd.from_ (R:Rd cs ls L P)(n:NoNeg L){a:N2}(ha:a∈P):∃b ns,Settled L [a] b/\DR P ns b/\fy [RR cs ls,en a] = .ok (.dct (ns.map en) (dV ns b)):=by
 obtain⟨r,hr,ok⟩:=qE (S:=[a]) R.f (by simp) (λv h=>by rw[OB.mp h];exact ha)
 cases r with
 | inr q=>exact absurd n (Bar.neg ok)
 | inl b=>
  obtain⟨ns,D,hr⟩:=hr;refine⟨b,ns,ok,D,aZ rfl (bB (ay (aE (ar (aE rfl R.bounds) (ar (jR rfl (aB (k:=1) (by simp))) rfl)) hr) rfl rfl))⟩
def HA (o:Option (Int×List Nat)):T:=match o with
 | some x=> .int x.1
 | none=> .non
end
def oI (o:Option Int):T:=match o with
 | some x=> .int x
 | none=> .non
def gM (P:List N2)(f:dE N2):List (List T×List T):=P.map λu=>(P.map en,P.map λv=>oI (f u v))
def nU (P:List N2)(f:dE N2):T:=.dct (P.map en) (P.map λu=> .dct (P.map en) (P.map λv=>oI (f u v)))
abbrev kL (P:List N2)(L:bS N2)(f:dE N2)(s3 s4 s5 s6 s7:Sl):En:=[.va (eS P),.va (eL L),.ow (.dd (P.map en) (gM P f)),s3,s4,s5,s6,s7]
abbrev Ii (P:List N2)(L:bS N2)(f:dE N2)(s3 s4 s5 s6 s7:Sl):En:=[.va (eS P),.va (eL L),.va (nU P f),s3,s4,s5,s6,s7]
section
variable {P:List N2}{L:bS N2}{f:dE N2}
theorem yK (s3 s4 s5 s6 s7:Sl):disown 2 (kL P L f s3 s4 s5 s6 s7)=Ii P L f s3 s4 s5 s6 s7:=by
 show [Sl.va (eS P),.va (eL L),.va (OT.view (.dd (P.map en) (gM P f))),s3,s4,s5,s6,s7] =_
 have e:OT.view (.dd (P.map en) (gM P f))=nU P f:=by
  show T.dct (P.map en) ((gM P f).map λr=>T.dct r.1 r.2)=_
  unfold gM nU;rw[OM]
  rfl
 rw[e]
theorem BX {u v:N2}{a b c:En->Rs T}{Z:En}(hc:c Z= .ok (nU P f))(ha:a Z= .ok (en u))(hb:b Z= .ok (en v))(hu:u∈P)(hv:v∈P):o2 bP (o2 bP c a) b Z= .ok (oI (f u v)):=by
 refine ay (t:=.dct (P.map en) (P.map λw=>oI (f u w))) (ay hc ha ?_) hb ?_
 ·show(match lC (P.map en) (P.map λu=>T.dct (P.map en) (P.map λv=>oI (f u v))) (ky u)with | some t=>Rs.ok t | none=> .bad)=_
  rw[oK (λu=>T.dct (P.map en) (P.map λv=>oI (f u v))),if_pos hu]
 ·show(match lC (P.map en) (P.map λw=>oI (f u w)) (ky v)with | some t=>Rs.ok t | none=> .bad)=_
  rw[oK (λw=>oI (f u w)),if_pos hv]
theorem Dj {u v:N2}{a b:En->Rs T}{s3 s4 s5 s6 s7:Sl}(ha:a (Ii P L f s3 s4 s5 s6 s7)= .ok (en u))(hb:b (Ii P L f s3 s4 s5 s6 s7)= .ok (en v))(hu:u∈P)(hv:v∈P):ln 2 (o2 bP (o2 bP (vr 2) a) b) (kL P L f s3 s4 s5 s6 s7)= .ok (oI (f u v)):=
 J1 rfl (by rw[yK];exact BX rfl ha hb hu hv) (by cases f u v <;> rfl)
theorem Cj (g:N2->List T×List T)(u:N2):∀(Q:List N2),u∈Q->rf (Q.map en) (Q.map g) (ky u)=some (g u)
 | w::Q,h=>by
  rw[Oc,Oc,rf,bK]
  by_cases e:w=u
  ·subst e;rw[if_pos rfl]
  ·rw[if_neg (λz=>e (je z)),Cj g u Q ((Og.mp h).elim (λz=>absurd z.symm e) id)]
theorem Cb (g:N2->List T×List T)(u:N2)(x:List T×List T):∀(Q:List N2),Q.Nodup->q0 (ky u) x (Q.map en) (Q.map g)=Q.map λw=>if w=u then x else g w
 | [],_=>rfl
 | w::Q,h=>by
  rw[OZ]at h;rw[Oc,Oc,q0,bK,Oc]
  by_cases e:w=u
  ·subst e
   rw[if_pos rfl,if_pos rfl]
   congr 1
   exact ON λz hz=>by rw[if_neg (λ(y:z=w)=>h.1 (y▸hz))]
  ·rw[if_neg (λz=>e (je z)),if_neg e,Cb g u x Q h.2]
theorem CA (nd:P.Nodup)(pl:P.length<1000){u v:N2}{x:Int}{a b c:En->Rs T}{s3 s4 s5 s6 s7:Sl}(ha:a (kL P L f s3 s4 s5 s6 s7)= .ok (en u))(hb:b (kL P L f s3 s4 s5 s6 s7)= .ok (en v))(hc:c (kL P L f s3 s4 s5 s6 s7)= .ok (.int x))(hu:u∈P)(hv:v∈P) :
  jw 2 a b c (kL P L f s3 s4 s5 s6 s7)= .ok (.nx (kL P L (jV f u v x) s3 s4 s5 s6 s7)):=by
 unfold jw
 show(c (kL P L f s3 s4 s5 s6 s7) >>= λw=>a (kL P L f s3 s4 s5 s6 s7) >>= λz=>match(keyOf z).bind λka=>(rf (P.map en) (gM P f) ka).map λr=>(ka,r)with
  | some (ka,r)=>b (kL P L f s3 s4 s5 s6 s7) >>= λy=>if (keyOf y).isSome=true/\r.1.length<1000 then Rs.ok (Fl.nx ((kL P L f s3 s4 s5 s6 s7).set 2 (.ow (.dd (P.map en) (q0 ka (hV y w r.1 r.2) (P.map en) (gM P f))))))else .bad
  | none=> .bad)=_
 rw[hc,aH,ha,aH,bK]
 have e1:rf (P.map en) (gM P f) (ky u)=some (P.map en,P.map λv=>oI (f u v)):=Cj (λu=>(P.map en,P.map λv=>oI (f u v))) u P hu
 simp only[Option.bind_some,e1,Xc];rw[hb,aH,bK,if_pos ⟨rfl,by rw[Ob];exact pl⟩,uM (.int x) v (λv=>oI (f u v)) P nd hv]
 have e2:=Cb (λu=>(P.map en,P.map λv=>oI (f u v))) u (P.map en,P.map λw=>if w=v then T.int x else oI (f u w)) P nd
 have e3:(P.map λw=>if w=u then(P.map en,P.map λw=>if w=v then T.int x else oI (f u w))else(P.map en,P.map λv=>oI (f w v)))=gM P (jV f u v x):=by
  unfold gM jV;refine ON λw _=> ?_
  by_cases e:w=u
  ·subst e
   rw[if_pos rfl]
   congr 1
   refine ON λz _=> ?_
   by_cases h:z=v
   ·rw[if_pos h,if_pos ⟨rfl,h⟩];rfl
   ·rw[if_neg h,if_neg (λq=>h q.2)]
  ·rw[if_neg e]
   congr 1
   exact ON λz _=>by rw[if_neg (λq=>e q.1)]
 show Rs.ok (Fl.nx [.va (eS P),.va (eL L),.ow (.dd (P.map en) (q0 (ky u) (P.map en,P.map λw=>if w=v then T.int x else oI (f u w)) (P.map en) (gM P f))),s3,s4,s5,s6,s7])=_
 rw[show q0 (ky u) (P.map en,P.map λw=>if w=v then T.int x else oI (f u w)) (P.map en) (gM P f)=gM P (jV f u v x)from e2.trans e3]
theorem DQ (nd:P.Nodup)(pl:P.length<1000){u v:N2}{x:Int}{a b c:En->Rs T}{s3 s4 s5 s6 s7:Sl}(ha:a (kL P L f s3 s4 s5 s6 s7)= .ok (en u))(hb:b (kL P L f s3 s4 s5 s6 s7)= .ok (en v))(ha':a (Ii P L f s3 s4 s5 s6 s7)= .ok (en u))(hb':b (Ii P L f s3 s4 s5 s6 s7)= .ok (en v))(hc:c (kL P L f s3 s4 s5 s6 s7)= .ok (.int x))(hu:u∈P)(hv:v∈P) :
  gD (vW (tb (o2 jh (ln 2 (o2 bP (o2 bP (vr 2) a) b)) (cn .non))) (tb (o2 wy c (ln 2 (o2 bP (o2 bP (vr 2) a) b))))) (jw 2 a b c) sN (kL P L f s3 s4 s5 s6 s7)= .ok (.nx (kL P L (n6 f u v x) s3 s4 s5 s6 s7)):=by
 have g:=Dj ha' hb' hu hv
 have p:=CA nd pl ha hb hc hu hv;unfold n6
 cases q:f u v with
 | none=>
  rw[q]at g
  exact(dA (wI (bx (ay g rfl rfl)))).trans p
 | some y=>
  rw[q]at g
  have c2:tb (o2 wy c (ln 2 (o2 bP (o2 bP (vr 2) a) b))) (kL P L f s3 s4 s5 s6 s7)= .ok (decide (x<y)):=bx (ay hc g rfl)
  by_cases h:x<y
  ·rw[decide_eq_true h]at c2
   simp only[if_pos h];exact(dA (l6 (bx (ay g rfl rfl)) c2)).trans p
  ·rw[decide_eq_false h]at c2
   simp only[if_neg h];exact(dt (l6 (bx (ay g rfl rfl)) c2)).trans rfl
end
section
variable {P:List N2}{L:bS N2}
theorem wB:∀(P:List N2),nN (P.map en)=true
 | [] =>rfl
 | u::P=>by
  have:=wB P;simp[nN,bK,this]
theorem JW (nd:P.Nodup):((P.map en).map keyOf).Nodup:=by
 rw[OM];exact nd.map _ λa b h e=>h (je e)
theorem Ig (nd:P.Nodup)(pl:P.length<=1000):pq 2 0 [.va (eS P),.va (eL L),.em,.em,.em,.em,.em,.em] = .ok (.nx (kL P L (λ_ _=>none) .em .em .em .em .em)):=by
 show(if (2:Nat)<8/\nN (P.map en)=true/\((P.map en).map keyOf).Nodup/\(P.map en).length<=1000 then Rs.ok (Fl.nx [.va (eS P),.va (eL L),.ow (.dd (P.map en) ((P.map en).map λ_=>(P.map en,(P.map en).map λ_=>T.non))),.em,.em,.em,.em,.em])else .bad)=_
 rw[if_pos ⟨by omega,wB P,JW nd,by rw[Ob];exact pl⟩,OM,OM]
 rfl
theorem Hk (nd:P.Nodup)(pl:P.length<1000):∀(Q:List N2) (f:dE N2) (s3 s4 s5 s6 s7:Sl),(∀u∈Q,u∈P)->∃s3',
  bD (gN 3) (jw 2 (vr 3) (vr 3) (cn (.int 0))) (Q.map en) (kL P L f s3 s4 s5 s6 s7)= .ok (.nx (kL P L (Q.foldl (λf u=>jV f u u 0) f) s3' s4 s5 s6 s7))
 | [],f,s3,s4,s5,s6,s7,_=>⟨s3,rfl⟩
 | u::Q,f,s3,s4,s5,s6,s7,h=>by
  have hu:=h u Oe;rw[Oc,dM rfl (CA nd pl rfl rfl rfl hu hu)];exact Hk nd pl Q _ _ _ _ _ _ λw hw=>h w (N8 _ hw)
theorem sh:∀(Q:List N2) (f:dE N2) (u v:N2),Q.foldl (λf u=>jV f u u 0) f u v=if u∈Q/\u=v then some 0 else f u v
 | [],f,u,v=>by rw[if_neg (λh=>nomatch h.1)];rfl
 | w::Q,f,u,v=>by
  rw[W3,sh Q]
  by_cases e:u=v
  ·subst e
   by_cases m:u∈Q
   ·rw[if_pos ⟨m,rfl⟩,if_pos ⟨N8 _ m,rfl⟩]
   ·rw[if_neg (λz=>m z.1)]
    unfold jV
    by_cases q:u=w
    ·subst q;rw[if_pos ⟨rfl,rfl⟩,if_pos ⟨Oe,rfl⟩]
    ·rw[if_neg (λz=>q z.1),if_neg (λz=>(Og.mp z.1).elim q m)]
  ·rw[if_neg (λz=>e z.2),if_neg (λz=>e z.2)]
   unfold jV;rw[if_neg (λz=>e (z.1.trans z.2.symm))]
theorem Bd (P:List N2):P.foldl (λf u=>jV f u u 0) (λ_ _=>none)=vi P:=by
 funext u v
 rw[sh]
 rfl
theorem Hj (nd:P.Nodup)(pl:P.length<1000):∀(M:bS N2) (f:dE N2) (s3 s4 s5 s6 s7:Sl),(∀x∈M,x.1∈P/\x.2.1∈P)->∃s3' s4' s5',
  bD (gT 3 (iX (gN 3) (iX (gN 4) (iX (gN 5) u7)))) (gD (vW (tb (o2 jh (ln 2 (o2 bP (o2 bP (vr 2) (vr 3)) (vr 4))) (cn .non))) (tb (o2 wy (vr 5) (ln 2 (o2 bP (o2 bP (vr 2) (vr 3)) (vr 4)))))) (jw 2 (vr 3) (vr 4) (vr 5)) sN) (M.map eB) (kL P L f s3 s4 s5 s6 s7)= .ok (.nx (kL P L (M.foldl (λf x=>n6 f x.1 x.2.1 x.2.2) f) s3' s4' s5' s6 s7))
 | [],f,s3,s4,s5,s6,s7,_=>⟨s3,s4,s5,rfl⟩
 | x::M,f,s3,s4,s5,s6,s7,h=>by
  have hx:=h x Oe;rw[Oc,dM rfl (DQ nd pl rfl rfl rfl rfl rfl hx.1 hx.2)];exact Hj nd pl M _ _ _ _ _ _ λw hw=>h w (N8 _ hw)
abbrev KR:En->Rs Fl:=(gD (qO (tb (o2 fS (ln 2 (o2 bP (o2 bP (vr 2) (vr 3)) (vr 6))) (cn .non))) (tb (o2 fS (ln 2 (o2 bP (o2 bP (vr 2) (vr 6)) (vr 4))) (cn .non)))) (aD (cI (o2 aV (ln 2 (o2 bP (o2 bP (vr 2) (vr 3)) (vr 6))) (ln 2 (o2 bP (o2 bP (vr 2) (vr 6)) (vr 4)))) (gN 7)) (gD (vW (tb (o2 jh (ln 2 (o2 bP (o2 bP (vr 2) (vr 3)) (vr 4))) (cn .non))) (tb (o2 wy (vr 7) (ln 2 (o2 bP (o2 bP (vr 2) (vr 3)) (vr 4)))))) (jw 2 (vr 3) (vr 4) (vr 7)) sN)) sN)
theorem E6 (nd:P.Nodup)(pl:P.length<1000){mid one other:N2}(hm:mid∈P)(h1:one∈P)(h2:other∈P)(f:dE N2)(s5 s7:Sl):∃s7',
  KR (kL P L f (.va (en one)) (.va (en other)) s5 (.va (en mid)) s7)= .ok (.nx (kL P L (mi mid one other f) (.va (en one)) (.va (en other)) s5 (.va (en mid)) s7')):=by
 have ga:∀s7,ln 2 (o2 bP (o2 bP (vr 2) (vr 3)) (vr 6)) (kL P L f (.va (en one)) (.va (en other)) s5 (.va (en mid)) s7)= .ok (oI (f one mid)):=λs7=>Dj rfl rfl h1 hm
 have gb:∀s7,ln 2 (o2 bP (o2 bP (vr 2) (vr 6)) (vr 4)) (kL P L f (.va (en one)) (.va (en other)) s5 (.va (en mid)) s7)= .ok (oI (f mid other)):=λs7=>Dj rfl rfl hm h2
 unfold mi KR
 cases qa:f one mid with
 | none=>
  have ga:=ga s7;rw[qa]at ga
  exact⟨s7,(dt (DL (bx (ay ga rfl rfl)))).trans rfl⟩
 | some x=>
  have ga:=ga s7;rw[qa]at ga
  have c1:=bx (ay (g:=fS) (fb:=cn .non) ga rfl rfl)
  cases qb:f mid other with
  | none=>
   have gb:=gb s7;rw[qb]at gb
   exact⟨s7,(dt (yB c1 (bx (ay gb rfl rfl)))).trans rfl⟩
  | some y=>
   have gb:=gb s7;rw[qb]at gb;refine⟨.va (.int (x+y)),(dA (yB c1 (bx (ay gb rfl rfl)))).trans ?_⟩
   rw[aw (bM (ay ga gb rfl) rfl)];exact DQ nd pl rfl rfl rfl rfl rfl h1 h2
theorem Hi (nd:P.Nodup)(pl:P.length<1000){mid one:N2}(hm:mid∈P)(h1:one∈P):∀(Q:List N2) (f:dE N2) (s4 s5 s7:Sl),(∀u∈Q,u∈P)->∃s4' s7',
  bD (gN 4) KR (Q.map en) (kL P L f (.va (en one)) s4 s5 (.va (en mid)) s7)= .ok (.nx (kL P L (mj mid one Q f) (.va (en one)) s4' s5 (.va (en mid)) s7'))
 | [],f,s4,s5,s7,_=>⟨s4,s7,rfl⟩
 | u::Q,f,s4,s5,s7,h=>by
  have hu:=h u Oe;obtain⟨s7',e⟩:=E6 nd pl hm h1 hu f s5 s7;rw[Oc,dM rfl e];exact Hi nd pl hm h1 Q _ _ _ _ λw hw=>h w (N8 _ hw)
theorem Hh (nd:P.Nodup)(pl:P.length<1000){mid:N2}(hm:mid∈P):∀(Q:List N2) (f:dE N2) (s3 s4 s5 s7:Sl),(∀u∈Q,u∈P)->∃s3' s4' s7',
  bD (gN 3) (d7 (iS (vr 0)) (gN 4) KR) (Q.map en) (kL P L f s3 s4 s5 (.va (en mid)) s7)= .ok (.nx (kL P L (qz mid Q P f) s3' s4' s5 (.va (en mid)) s7'))
 | [],f,s3,s4,s5,s7,_=>⟨s3,s4,s7,rfl⟩
 | u::Q,f,s3,s4,s5,s7,h=>by
  have hu:=h u Oe;obtain⟨s4',s7',e⟩:=Hi nd pl hm hu P f s4 s5 s7 λ_ z=>z
  rw[Oc,dM rfl (fT rfl e)];exact Hh nd pl hm Q _ _ _ _ _ λw hw=>h w (N8 _ hw)
theorem Hg (nd:P.Nodup)(pl:P.length<1000):∀(Q:List N2) (f:dE N2) (s3 s4 s5 s6 s7:Sl),(∀u∈Q,u∈P)->∃s3' s4' s6' s7',
  bD (gN 6) (d7 (iS (vr 0)) (gN 3) (d7 (iS (vr 0)) (gN 4) KR)) (Q.map en) (kL P L f s3 s4 s5 s6 s7)= .ok (.nx (kL P L (wO Q P f) s3' s4' s5 s6' s7'))
 | [],f,s3,s4,s5,s6,s7,_=>⟨s3,s4,s6,s7,rfl⟩
 | u::Q,f,s3,s4,s5,s6,s7,h=>by
  have hu:=h u Oe;obtain⟨s3',s4',s7',e⟩:=Hh nd pl hu P f s3 s4 s5 s7 λ_ z=>z
  rw[Oc,dM rfl (fT rfl e)];exact Hg nd pl Q _ _ _ _ _ _ λw hw=>h w (N8 _ hw)
def Hd (P:List N2)(f:dE N2):Prop:=∀u∈P,∀y,f u u=some y->0<=y
theorem Ih (hd:∀u∈P,∃y,table P L u u=some y)(pl:P.length<1000)(s3 s4 s5 s6 s7:Sl) :
  ∃t,((Hd P (table P L)/\t=nU P (table P L))\/(¬Hd P (table P L)/\t= .non))/\nV 2 (aW (DS (tb (o2 n9 (d6 (iS (vr 0)) [none,some 2] (gN 0) (tb (o2 wy (o2 bP (o2 bP (vr 1) (vr 0)) (vr 0)) (cn (.int 0)))) (vr 0)) (dz aj))) (vr 2) (cn .non))) (kL P L (table P L) s3 s4 s5 s6 s7)= .ok (.rt t):=by
 generalize hf:table P L=f
 rw[hf]at hd
 have lc:d6 (iS (vr 0)) [none,some 2] (gN 0) (tb (o2 wy (o2 bP (o2 bP (vr 1) (vr 0)) (vr 0)) (cn (.int 0)))) (vr 0) (Ii P L f s3 s4 s5 s6 s7)= .ok (.lst (((P.map en).filter λt=>P.any λu=>decide (keyOf t=some (ky u))&&(match f u u with | some y=>decide (y<0) | none=>false)).map id)):=by
  refine l7 rfl (aB (k:=1000) (by rw[Ob];omega)) (by simp) λt ht=> ?_
  obtain⟨u,hu,rfl⟩:=Oq.mp ht;obtain⟨y,hy⟩:=hd u hu;refine⟨?_,λ_=>rfl⟩
  have e:(P.any λw=>decide (keyOf (en u)=some (ky w))&&(match f w w with | some y=>decide (y<0) | none=>false))=decide (y<0):=by
   by_cases h:y<0
   ·rw[decide_eq_true h]
    exact Rw.mpr ⟨u,hu,by rw[hy];simp[h,bK]⟩
   ·rw[decide_eq_false h,TN]
    intro w hw
    by_cases q:w=u
    ·subst q;rw[hy];simp[h]
    ·rw[decide_eq_false (λz=>q (je ((bK u).symm.trans z)).symm)];simp
  rw[e]
  have g:=BX (Z:=[.va (en u),.va (nU P f)]) (c:=vr 1) (a:=vr 0) (b:=vr 0) rfl rfl rfl hu hu;rw[hy]at g;exact bx (ay g rfl rfl)
 rw[RG]at lc
 generalize hp:(λt=>P.any λu=>decide (keyOf t=some (ky u))&&(match f u u with | some y=>decide (y<0) | none=>false))=p at lc
 have pu:∀u∈P,∀y,f u u=some y->p (en u)=decide (y<0):=by
  intro u hu y hy;rw[<-hp]
  show(P.any λw=>decide (keyOf (en u)=some (ky w))&&(match f w w with | some y=>decide (y<0) | none=>false))=decide (y<0)
  by_cases h:y<0
  ·rw[decide_eq_true h]
   exact Rw.mpr ⟨u,hu,by rw[hy];simp[h,bK]⟩
  ·rw[decide_eq_false h,TN]
   intro w hw
   by_cases q:w=u
   ·subst q;rw[hy];simp[h]
   ·rw[decide_eq_false (λz=>q (je ((bK u).symm.trans z)).symm)];simp
 have iff:(P.map en).filter p= [] ↔Hd P f:=by
  rw[List.filter_eq_nil_iff]
  constructor
  ·intro h u hu y hy
   have:=h (en u) (Oq.mpr ⟨u,hu,rfl⟩);rw[pu u hu y hy]at this
   simpa using this
  ·intro h t ht
   obtain⟨u,hu,rfl⟩:=Oq.mp ht;obtain⟨y,hy⟩:=hd u hu;rw[pu u hu y hy]
   have:=h u hu y hy
   simpa using this
 have nd:nds ((P.map en).filter p)=true:=lx λt ht=>by
  obtain⟨u,_,rfl⟩:=Oq.mp (PL.mp ht).1
  rfl
 have eq:o2 n9 (d6 (iS (vr 0)) [none,some 2] (gN 0) (tb (o2 wy (o2 bP (o2 bP (vr 1) (vr 0)) (vr 0)) (cn (.int 0)))) (vr 0)) (dz aj) (Ii P L f s3 s4 s5 s6 s7)= .ok (.bl (aS (.lst ((P.map en).filter p)) (.lst []))):=
  ay lc (jR rfl (aB (k:=1) (by simp))) (by unfold n9;rw[if_pos (wQ (by simp[T.dep,deps]) (by simpa [T.nd]using nd) rfl)])
 by_cases D:Hd P f
 ·refine⟨nU P f,.inl ⟨D,rfl⟩,?_⟩
  rw[iff.mpr D]at eq;refine DJ ?_
  rw[yK];exact bB ((wJ (bx eq)).trans rfl)
 ·refine⟨.non,.inr ⟨D,rfl⟩,?_⟩
  have:(P.map en).filter p≠ []:=λz=>D (iff.mp z)
  cases q:(P.map en).filter p with
  | nil=>exact absurd q this
  | cons a l=>
   rw[q]at eq;refine DJ ?_
   rw[yK];exact bB ((wJ (p:=false) (bx (eq.trans (by simp[aS,beqTs])))).trans rfl)
theorem GI (nd:P.Nodup)(pl:P.length<1000)(hL:∀x∈L,x.1∈P/\x.2.1∈P) :
  ∃t,((NoNeg L/\Least L P (table P L)/\t=nU P (table P L))\/(¬NoNeg L/\t= .non))/\bO [eS P,eL L] = .ok t:=by
 obtain⟨a3,e1⟩:=Hk nd pl P (λ_ _=>none) .em .em .em .em .em λ_ z=>z
 rw[Bd]at e1;obtain⟨b3,b4,b5,e2⟩:=Hj nd pl L (vi P) a3 .em .em .em .em hL;obtain⟨c3,c4,c6,c7,e3⟩:=Hg nd pl P (BY P L) b3 b4 b5 .em .em λ_ z=>z
 obtain⟨t,ht,e4⟩:=Ih (λu hu=>let ⟨y,h,_⟩:=oU (L:=L) hu;⟨y,h⟩) pl c3 c4 b5 c6 c7
 refine⟨t,ht.elim (λh=> .inl ?_) (λh=> .inr ⟨λn=>h.1 λu hu y hy=> ?_,h.2⟩),aZ rfl ?_⟩
 ·have:=ny hL h.1
  exact⟨this.1,this.2,h.2⟩
 ·exact Int.not_lt.mp λz=>rH hy z n
 ·show jn [.va (eS P),.va (eL L),.em,.em,.em,.em,.em,.em] =_
  unfold jn;rw[aw (Ig nd (by omega)),aw (fT rfl e1),aw (fT rfl e2)]
  exact(aw (fT rfl e3)).trans e4
end
section
variable {cs ls:List T}{L:bS N2}{P:List N2}{ns:List Int}
theorem Gf {a:N2}{b:cP N2}{f:dE N2}(S:Settled L [a] b)(F:Least L P f)(ha:a∈P)(c:N2):HA (b c)=oI (f a c):=by
 cases q:b c with
 | none=>
  cases e:f a c with
  | none=>rfl
  | some y=>
   obtain⟨d,w,z,_⟩:=S.least a (by simp) c y (F.is a c y e)
   rw[q]at z;cases z
 | some x=>
  obtain⟨d,w⟩:=x;obtain⟨s,hs,h1,h2,_⟩:=S.walk c d w q;rw[OB.mp hs]at h1
  have wk:Wk L a c d:=h2▸h1.wk;obtain⟨y,e,hy⟩:=F.le a ha c d wk;obtain⟨d',w',z,hd⟩:=S.least a (by simp) c y (F.is a c y e)
  rw[q]at z;cases z;rw[e]
  show T.int d= .int y
  congr 1
  omega
theorem LA (o:Option Int):(oI o).pl=true:=by cases o <;> rfl
theorem yg {D:Bool}:∀{l:List T},(∀t∈l,t.nk D=true)->nks D l=true
 | [],_=>rfl
 | t::l,h=>by unfold nks;rw[h t Oe,yg λu hu=>h u (N8 _ hu)];rfl
theorem gd {k:Nat}:∀{l:List T},(∀t∈l,t.dep<=k)->deps l<=k
 | [],_=>by unfold deps;omega
 | t::l,h=>by
  unfold deps;exact Nat.max_le.mpr ⟨h t Oe,gd λu hu=>h u (N8 _ hu)⟩
def nW (P:List N2)(f:dE N2)(u:N2):T:=.tup (P.map λv=>oI (f u v))
def jB (P:List N2)(f:dE N2):T:=.tup (P.map (nW P f))
theorem Jh (P:List N2)(f:dE N2)(u:N2):(nW P f u).pl=true:=by
 unfold nW;rw[gQ];exact gx λt ht=>by obtain⟨v,_,rfl⟩:=Oq.mp ht;exact LA _
theorem CH (P:List N2)(f:dE N2):(jB P f).pl=true:=by
 unfold jB;rw[gQ];exact gx λt ht=>by obtain⟨v,_,rfl⟩:=Oq.mp ht;exact Jh _ _ _
theorem JD (D:Bool)(P:List N2)(f:dE N2):(jB P f).nk D=true:=by
 show nks D (P.map (nW P f))=true
 refine yg λt ht=> ?_
 obtain⟨u,_,rfl⟩:=Oq.mp ht
 show nks D (P.map λv=>oI (f u v))=true
 refine yg λt ht=> ?_
 obtain⟨v,_,rfl⟩:=Oq.mp ht;cases f u v <;> rfl
theorem GR (P:List N2)(f:dE N2):(jB P f).dep<=60:=by
 have h0:∀o:Option Int,(oI o).dep<=1:=λo=>by cases o <;> simp[oI,T.dep]
 have h1:∀u,(nW P f u).dep<=2:=λu=>by
  unfold nW T.dep
  have:deps (P.map λv=>oI (f u v))<=1:=gd λt ht=>by obtain⟨v,_,rfl⟩:=Oq.mp ht;exact h0 _
  omega
 unfold jB T.dep
 have:deps (P.map (nW P f))<=2:=gd λt ht=>by obtain⟨v,_,rfl⟩:=Oq.mp ht;exact h1 _
 omega
theorem Ef {b:cP N2}{ms:List N2}(D:DR P ms b)(c:N2):gH [.dct (ms.map en) (dV ms b),en c] = .ok (HA (b c)):=by
 refine aZ rfl ?_
 refine bB ((wJ (bx (ay rfl rfl (yL D c)))).trans ?_)
 cases q:b c with
 | none=>rfl
 | some x=>exact ay (ay rfl rfl (yJ D q)) rfl rfl
def deO (f:dE N2)(u:N2)(t:T):T:=match t with
 | .tup [.int c,.int k] =>oI (f u ⟨c,k⟩)
 | _=> .non
theorem GW (P:List N2)(f:dE N2)(u:N2):(P.map en).map (deO f u)=P.map λv=>oI (f u v):=by rw[OM];rfl
abbrev amF:En->Rs Fl:=(aD (cI (cl fy (ae (vr 0) (ae (vr 3) aj))) (gN 4)) (iQ 2 (cl e9 (ae (d6 (iS (vr 1)) [none,some 4] (gN 0) bT (cl gH (ae (vr 1) (ae (vr 0) aj)))) aj))))
theorem Rd.Nl (R:Rd cs ls L P)(n:NoNeg L){f:dE N2}(F:Least L P f):∀(Q:List N2) (acc:List T) (s3 s4:Sl),(∀u∈Q,u∈P)->acc.length+Q.length<=1000->∃s3' s4',
  bD (gN 3) amF (Q.map en) [.va (RR cs ls),.va (eS P),.ow (.lst acc),s3,s4] = .ok (.nx [.va (RR cs ls),.va (eS P),.ow (.lst (acc++Q.map (nW P f))),s3',s4'])
 | [],acc,s3,s4,_,_=>⟨s3,s4,by simp only[Tx,Pz];rfl⟩
 | u::Q,acc,s3,s4,h,hl=>by
  have hu:=h u Oe;rw[Oj]at hl;obtain⟨b,ms,S,D,e⟩:=R.from_ n hu
  have lc:d6 (iS (vr 1)) [none,some 4] (gN 0) bT (cl gH (ae (vr 1) (ae (vr 0) aj))) [.va (RR cs ls),.va (eS P),.ow (.lst acc),.va (en u),.va (.dct (ms.map en) (dV ms b))] = .ok (.lst ((P.map en).map (deO f u))):=
   m6 (iq rfl) (aB (by rw[Ob];exact R.pl)) (by simp) λt ht=>by
    obtain⟨v,hv,rfl⟩:=Oq.mp ht;refine(aE rfl (Ef D v)).trans ?_
    rw[Gf S F hu];rfl
  rw[GW]at lc
  have st:amF [.va (RR cs ls),.va (eS P),.ow (.lst acc),.va (en u),s4] = .ok (.nx [.va (RR cs ls),.va (eS P),.ow (.lst (acc++ [nW P f u])),.va (en u),.va (.dct (ms.map en) (dV ms b))]):=by
   refine(aw (bM (aE rfl e) rfl)).trans ?_
   exact nP (aE (ar lc rfl) mG) rfl (by omega)
  obtain⟨a,c,ih⟩:=R.Nl n F Q (acc++ [nW P f u]) (.va (en u)) (.va (.dct (ms.map en) (dV ms b))) (λw hw=>h w (N8 _ hw)) (by rw[Om];simp only[Oj,UI];omega)
  refine⟨a,c,?_⟩
  rw[Oc,dM rfl st,ih,OS]
  rfl
theorem Rd.NV (R:Rd cs ls L P)(n:NoNeg L){f:dE N2}(F:Least L P f):gW [(RR cs ls)] = .ok (jB P f):=by
 refine aZ rfl ?_
 show lE [.va (RR cs ls),.em,.em,.em,.em] =_
 unfold lE;rw[aw (uF (aE rfl (R.Nm n)))];rw[aw (bM (aE rfl R.events) rfl)];rw[aw (Z':=[.va (RR cs ls),.va (eS P),.ow (.lst []),.em,.em]) (uD (by simp))]
 obtain⟨a,c,e⟩:=R.Nl n F P [] .em .em (λ_ z=>z) (by have:=R.pl;simp;omega)
 rw[aw (fT (iq rfl) e),P4];exact bB (J1 rfl (aE rfl mG) (JD _ P f))
end
theorem wm {n:Int}{t:T}(ht:t.pl=true)(h:aX t 0 (n - 1)=true):eG [.int n,t] = .ok .non:=by
 refine yz (Z:=[.va (.int n),.va t]) rfl ?_
 show eU [.va (.int n),.va t] =_
 unfold eU;exact(dt (dX (k:=true) (bx (aE rfl (by rw[fG _ _ _ ht,h]))))).trans rfl
theorem Ep {x y:N2×N2×Int}(h:eB x=eB y):x=y:=by
 obtain⟨a,b,m⟩:=x;obtain⟨a',b',m'⟩:=y;unfold eB at h
 have h':=T.tup.inj h;simp only[W0,T.int.injEq,and_true]at h';rw[uL h'.1,uL h'.2.1,h'.2.2]
theorem zu {a b:T}(ha:a.pl=true)(hb:b.pl=true):(T.tup [a,b]).pl=true:=by simp[T.pl,plS,ha,hb]
section
variable {cs ls:List T}{L M:bS N2}{P:List N2}{f:dE N2}{ns:List Int}{t:N2->Int}
theorem Rd.same {ms:List T}{M:bS N2}{Q:List N2}(R:Rd cs ls L P)(S:Rd cs ms M Q):Q=P:=by
 have:P.map en=Q.map en:=by rw[<-R.e,<-S.e]
 clear R S
 induction P generalizing Q with
 | nil=>cases Q with
  | nil=>rfl
  | cons a Q=>simp at this
 | cons v P ih=>cases Q with
  | nil=>simp at this
  | cons a Q=>
   rw[Oc,Oc,W0]at this;rw[uL this.1,ih this.2]
theorem BP (F:Least L P f)(h1:∀x∈M,x.1∈P/\∃d,f x.1 x.2.1=some d/\d<=x.2.2){u v:N2}{s:Int}(w:Wk M u v s):u∈P->∃d,f u v=some d/\d<=s:=by
 induction w with
 | nil a=>intro ha;exact F.le a ha a 0 (.nil a)
 | @step a b c m s hx w ih=>
  intro ha;obtain⟨_,d1,e1,l1⟩:=h1 _ hx
  dsimp only at l1
  have w1:=F.is a b d1 e1
  by_cases hb:b∈P
  ·obtain⟨d2,e2,l2⟩:=ih hb
   obtain⟨d,e,l⟩:=F.le a ha c _ (w1.app (F.is b c d2 e2));exact⟨d,e,by omega⟩
  ·cases w with
   | nil _=>exact⟨d1,e1,by omega⟩
   | step hy _=>exact absurd (h1 _ hy).1 hb
theorem Ia (h2:∀x∈L,∃m,m<=x.2.2/\(x.1,x.2.1,m)∈M){u v:N2}{s:Int}(w:Wk L u v s):∃s',s'<=s/\Wk M u v s':=by
 induction w with
 | nil a=>exact⟨0,Qa _,.nil a⟩
 | @step a b c m s hx w ih=>
  obtain⟨s',l,w'⟩:=ih;obtain⟨m',l',hx'⟩:=h2 _ hx;exact⟨m'+s',by dsimp only at l';omega,.step hx' w'⟩
theorem A1 (F:Least L P f)(hL:∀x∈L,x.1∈P)(h1:∀x∈M,x.1∈P/\∃d,f x.1 x.2.1=some d/\d<=x.2.2)(h2:∀x∈L,∃m,m<=x.2.2/\(x.1,x.2.1,m)∈M):Least M P f where
 is:=λu v d e=>by
  have w:=F.is u v d e
  by_cases hu:u∈P
  ·obtain⟨s',l,w'⟩:=Ia h2 w
   obtain⟨d',e',l'⟩:=BP F h1 w' hu;rw[e]at e';cases e'
   have:s'=d:=by omega
   rw[<-this];exact w'
  ·cases w with
   | nil _=>exact .nil _
   | step hy _=>exact absurd (hL _ hy) hu
 le:=λu hu v s w=>BP F h1 w hu
theorem Mp (P:List N2):(eS P).pl=true:=by
 show(T.lst (P.map en)).pl=true
 unfold T.pl;exact gx λu hu=>by obtain⟨v,_,rfl⟩:=Oq.mp hu;rfl
theorem Kg (P:List N2):(eS P).dep<=60:=by
 show(T.lst (P.map en)).dep<=60
 have:deps (P.map en)<=5:=gd λu hu=>by obtain⟨v,_,rfl⟩:=Oq.mp hu;simp[en,T.dep,deps]
 unfold T.dep;omega
end
end G
namespace G
open PySem Tr Gr
open Classical in
def Ay (P:List N2)(L:bS N2):Option (List (Option Int)):=if NoNeg L then some (P.flatMap λu=>P.map (table P L u))else none
def AB (P:List N2)(L M:bS N2):Bool:=by classical exact decide (Ay P L=Ay P M)
theorem uH {α β:Type}{f g:α->α->β}{Q:List α}:∀{P:List α},(P.flatMap λu=>Q.map (f u))=(P.flatMap λu=>Q.map (g u))↔ ∀u∈P,∀v∈Q,f u v=g u v
 | [] =>by simp
 | u::P=>by
  rw[QR,QR]
  constructor
  ·intro e w hw v hv
   obtain⟨h1,h2⟩:=List.append_inj e (by rw[Ob,Ob])
   rcases Og.mp hw with rfl | hw
   ·exact Wg.mp h1 v hv
   ·exact(uH).mp h2 w hw v hv
  ·intro h
   rw[Wg.mpr λv hv=>h u Oe v hv,(uH).mpr λw hw v hv=>h w (N8 _ hw) v hv]
section
variable {P:List N2}{L M N:bS N2}{f g:dE N2}
theorem eO (he:∀x∈L,x.1∈P/\x.2.1∈P)(n:NoNeg L):Least L P (table P L):=(ny he λu _ y h=>Int.not_lt.mp λz=>rH h z n).2
theorem oR (n:NoNeg L):Ay P L=some (P.flatMap λu=>P.map (table P L u)):=by unfold Ay;rw[if_pos n]
theorem sY (n:¬ NoNeg L):Ay P L=none:=by unfold Ay;rw[if_neg n]
theorem zd (he:∀x∈L,x.1∈P/\x.2.1∈P)(he2:∀x∈M,x.1∈P/\x.2.1∈P)(n:NoNeg L)(m:NoNeg M)(F:Least L P f)(G:Least M P g):Ay P L=Ay P M↔ ∀u∈P,∀v∈P,f u v=g u v:=by
 rw[oR n,oR m,Sw,uH]
 constructor
 ·intro h u hu v hv
  rw[F.uniq (eO he n) hu,G.uniq (eO he2 m) hu];exact h u hu v hv
 ·intro h u hu v hv
  rw[(eO he n).uniq F hu,(eO he2 m).uniq G hu];exact h u hu v hv
theorem smB_iff:AB P L M=true↔Ay P L=Ay P M:=by unfold AB;exact decide_eq_true_iff
end
theorem Ky (a b:Option Int):aS (oI a) (oI b)=decide (a=b):=by
 cases a with
 | none=>cases b <;> simp[oI,aS]
 | some x=>
  cases b with
  | none=>simp[oI,aS]
  | some y=>simp only[oI,aS,Sw];rfl
theorem ni {α:Type}{f g:α->T}:∀(l:List α),beqTs (l.map f) (l.map g)=true↔ ∀x∈l,aS (f x) (g x)=true
 | [] =>by simp[beqTs]
 | x::l=>by rw[Oc,Oc,beqTs,N9,ni l];simp
theorem Ao (P:List N2)(f g:dE N2):aS (jB P f) (jB P g)=true↔ ∀u∈P,∀v∈P,f u v=g u v:=by
 show beqTs (P.map (nW P f)) (P.map (nW P g))=true↔_
 rw[ni];refine forall_congr' λu=>imp_congr_right λ_=> ?_
 show beqTs (P.map λv=>oI (f u v)) (P.map λv=>oI (g u v))=true↔_
 rw[ni];refine forall_congr' λv=>imp_congr_right λ_=> ?_
 rw[Ky];exact decide_eq_true_iff
theorem Kh (P:List N2)(f g:dE N2):n9 (jB P f) (jB P g)= .ok (.bl (aS (jB P f) (jB P g))):=by
 unfold n9;rw[if_pos (g8 (GR P f) (T.KB _ (CH P f)) (T.KB _ (CH P g)))]
section
variable {cs ls ms:List T}{L M:bS N2}{P:List N2}
theorem Rd.NX {ds:List T}(R:Rd cs ls L P)(S:Rd ds ms M P):ck [RR cs ls,RR ds ms] = .ok (.bl (AB P L M)):=by
 obtain⟨h1,e1,i1⟩:=R.Nv;obtain⟨h2,e2,i2⟩:=S.Nv;refine aZ rfl ?_
 show iF [.va (RR cs ls),.va (RR ds ms)] =_
 unfold iF;rw[aw ((dt (bx (ay (aE rfl R.events) (aE rfl S.events) (ko (Mp P) (Kg P))))).trans rfl)]
 have a1:tb (cl aM (ae (vr 0) aj)) [.va (RR cs ls),.va (RR ds ms)] = .ok h1:=bx (aE rfl e1)
 have a2:tb (cl aM (ae (vr 1) aj)) [.va (RR cs ls),.va (RR ds ms)] = .ok h2:=bx (aE rfl e2)
 have r1:o1 um (cl aM (ae (vr 0) aj)) [.va (RR cs ls),.va (RR ds ms)] = .ok (.bl (!h1)):=DF (aE rfl e1)
 have r2:o1 um (cl aM (ae (vr 1) aj)) [.va (RR cs ls),.va (RR ds ms)] = .ok (.bl (!h2)):=DF (aE rfl e2)
 have no:∀{b:Bool} {X:Prop},(b=true↔X)->b=false->¬ X:=λi q x=>by rw[i.mpr x]at q;cases q
 cases h1 with
 | false=>
  have n1:=no i1 rfl;refine fB ((dA (wI (dX a1))).trans (bB ((jg r1).trans (r2.trans ?_))))
  cases h2 with
  | false=>have n2:=no i2 rfl;rw[smB_iff.mpr (by rw[sY n1,sY n2])];rfl
  | true=>
   have n2:=i2.mp rfl
   cases q:AB P L M with
   | false=>rfl
   | true=>have:=smB_iff.mp q;rw[sY n1,oR n2]at this;cases this
 | true=>
  have n1:=i1.mp rfl
  cases h2 with
  | false=>
   have n2:=no i2 rfl;refine fB ((dA (l6 (dX a1) (dX a2))).trans (bB ((l9 r1).trans ?_)))
   cases q:AB P L M with
   | false=>rfl
   | true=>have:=smB_iff.mp q;rw[sY n2,oR n1]at this;cases this
  | true=>
   have n2:=i2.mp rfl;rw[aw ((dt (l6 (dX a1) (dX a2))).trans rfl)]
   have F:=eO R.f.ends n1
   have G:=eO S.f.ends n2;refine bB ((ay (aE rfl (R.NV n1 F)) (aE rfl (S.NV n2 G)) (Kh _ _ _)).trans ?_)
   have key:aS (jB P (table P L)) (jB P (table P M))=true↔AB P L M=true:=by rw[Ao,smB_iff,zd R.f.ends S.f.ends n1 n2 F G]
   cases q:AB P L M with
   | true=>rw[key.mpr q]
   | false=>
    cases q2:aS (jB P (table P L)) (jB P (table P M))with
    | false=>rfl
    | true=>have:=key.mp q2;rw[q]at this;cases this
def deB (t:T):N2×N2×Int:=match t with
 | .tup [.tup [.int a,.int b],.tup [.int c,.int d],.int m] =>(⟨a,b⟩,⟨c,d⟩,m)
 | _=>(⟨0,0⟩,⟨0,0⟩,0)
def lim (cs ls:List T):bS N2:=(By cs ls).map deB
theorem Rd.M7 (R:Rd cs ls L P):lim cs ls=L:=by
 unfold lim;rw[R.b,OM];exact(ON λx _=>show deB (eB x)=x by obtain⟨a,b,m⟩:=x;rfl).trans (RG L)
theorem Rd.sub (R:Rd cs ls L P)(h:∀u∈ms,u∈ls)(hn:ms.length<=8):Rd cs ms (lim cs ms) P:=by
 obtain⟨M,Q,S⟩:=rP (R.g.sub h hn);obtain rfl:=R.same S;rw[S.M7];exact S
theorem Rd.to (R:Rd cs ls L P)(g:Good cs ms):Rd cs ms (lim cs ms) P:=by
 obtain⟨M,Q,S⟩:=rP g;obtain rfl:=R.same S;rw[S.M7];exact S
theorem G1 (h:∀u∈ms,u∈ls):∀x∈By cs ms,x∈By cs ls:=λx hx=>by
 unfold By at hx ⊢;rcases OR.mp hx with z | z
 ·exact O8 _ z
 ·obtain⟨u,hu,z⟩:=R3.mp z
  exact OK _ (R3.mpr ⟨u,h u hu,z⟩)
theorem zM (h:∀u∈ms,u∈ls):∀x∈lim cs ms,x∈lim cs ls:=λx hx=>by
 unfold lim at hx ⊢;obtain⟨y,hy,rfl⟩:=Oq.mp hx;exact Oq.mpr ⟨y,G1 h y hy,rfl⟩
def key (P:List N2)(cs ms:List T):=Ay P (lim cs ms)
theorem Rd.NI (R:Rd cs ls L P){as bs:List T}(ga:Good cs as)(gb:Good cs bs):∃b,ck [RR cs as,RR cs bs] = .ok (.bl b)/\(b=true↔key P cs as=key P cs bs):=⟨_,(R.to ga).NX (R.to gb),smB_iff⟩
end
end G
namespace G
open PySem Tr Gr
def nI (k:Nat):T:=.int (k:Nat)
theorem sk {α:Type}(d:α):∀(l:List α) (j:Nat),((On l.length).filter λk=>k != j).map (λk=>l.getD k d)=l.eraseIdx j
 | [],j=>by simp
 | x::l,0=>by
  rw[Oj,RA,SW,Sj]
  have e:(On l.length).filter ((λk=>k != 0)∘Nat.succ)=On l.length:=List.filter_eq_self.mpr λk _=>by simp
  rw[e,if_neg (by simp),OM,List.eraseIdx_cons_zero]
  apply V5
  intro k;rw[Ov]
  by_cases h:k<l.length
  ·rw[Qs h,Of h]
   simp[h]
  ·rw[PP (by simpa using h),PP (by simpa using h)];rfl
 | x::l,j+1=>by
  rw[Oj,RA,SW,Sj,if_pos (by simp),Oc,OM,List.eraseIdx_cons_succ]
  have e:(λk=>k != j+1)∘Nat.succ=λk=>k != j:=by funext k;simp
  rw[e,<-sk d l j];simp
theorem ox {l:List T}{f:En->Rs T}{Z:En}(h:f Z= .ok (.tup l)):cl cz (ae f aj) Z= .ok (.int (l.length:Nat)):=aE (ar h rfl) rfl
theorem Ah {cs ls:List T}(h:ls.length<=8):bL [RR cs ls] = .ok (.lst ((On ls.length).map nI)):=by
 refine aZ rfl ?_
 refine bB ?_
 have hl:=ox (f:=o2 aU (vr 0) (cn (.int 1))) (Z:=[.va (RR cs ls)]) (ay rfl rfl (gq rfl))
 show lR (ae (cl cz (ae (o2 aU (vr 0) (cn (.int 1))) aj)) aj) [.va (RR cs ls)] =_
 unfold lR;rw[ar hl rfl,aH]
 show(if (mf (ls.length:Nat)&&decide (((ls.length:Nat):Int).toNat<=1000))=true then Rs.ok (T.lst (rng 0 (ls.length:Nat)))else .bad)=_
 rw[if_pos (by rw[N9];exact⟨z8 (by omega),decide_eq_true (by omega)⟩),i7]
 rfl
def jU (t:T):Nat:=match t with
 | .int k=>k.toNat
 | _=>0
theorem eQ (k:Nat):jU (nI k)=k:=by unfold jU nI;exact PC k
theorem Hy (a b:Nat):qe (nI a) (nI b)= .ok (.bl (a != b)):=by
 unfold qe nI;rw[if_pos (g8 (by simp[T.dep]) rfl rfl)]
 show Rs.ok (T.bl (!((a:Int) == (b:Int))))=_
 congr 2
 by_cases h:a=b
 ·subst h;simp
 ·have:((a:Int) == (b:Int))=false:=beq_eq_false_iff_ne.mpr (by omega)
  rw[this];simp[h]
theorem iY {q:Nat->Bool}(l:List Nat):((l.map nI).filter λt=>q (jU t)).map id=(l.filter q).map nI:=by
 rw[RG,Sj];refine congrArg _ ?_
 exact TX λk _=>by show q (jU (nI k))=q k;rw[eQ]
theorem sA {l:List Nat}{j:Nat}(h:l.length<=1000):d8 [.lst (l.map nI),nI j] = .ok (.lst ((l.filter λk=>k != j).map nI)):=by
 refine aZ rfl ?_
 refine bB ?_
 rw[<-iY]
 exact l7 (iq rfl) (aB (by rw[Ob];exact h) (by omega)) (by simp) λt ht=>by
  obtain⟨k,_,rfl⟩:=Oq.mp ht;exact⟨bx (ay rfl rfl (by rw[Hy,eQ])),λ_=>rfl⟩
theorem yI {cs ls:List T}{l:List Nat}(h:l.length<=1000)(hl:∀k∈l,k<ls.length):bR [RR cs ls,.lst (l.map nI)] = .ok (RR cs (l.map λk=>ls.getD k .non)):=by
 refine aZ rfl ?_
 refine bB ?_
 have lc:d6 (iS (vr 1)) [none,some 0] (gN 0) bT (o2 aU (o2 aU (vr 1) (cn (.int 1))) (vr 0)) [.va (RR cs ls),.va (.lst (l.map nI))] = .ok (.lst ((l.map nI).map λt=>ls.getD (jU t) .non)):=
  m6 (iq rfl) (aB (by rw[Ob];exact h) (by omega)) (by simp) λt ht=>by
   obtain⟨k,hk,rfl⟩:=Oq.mp ht
   have:=hl k hk;rw[eQ];exact rq (ay rfl rfl (gq rfl)) rfl (by rw[Of this,O5,Of this];rfl)
 rw[OM]at lc
 have e:((λt=>ls.getD (jU t) T.non)∘nI)=λk=>ls.getD k .non:=by funext k;show ls.getD (jU (nI k)) _=_;rw[eQ]
 rw[e]at lc;exact p2 (ay rfl rfl (gq rfl)) (aE (ar lc rfl) mG)
theorem Ei {cs ls:List T}(h:ls.length<=8)(j:Nat){f g:En->Rs T}{Z:En}(hf:f Z= .ok (RR cs ls))(hg:g Z= .ok (nI j))(a:En->Rs T)(ha:a Z= .ok (.lst ((On ls.length).map nI))) :
  cl bR (ae f (ae (cl d8 (ae a (ae g aj))) aj)) Z= .ok (RR cs (ls.eraseIdx j)):=by
 have e1:=sA (l:=On ls.length) (j:=j) (by rw[OU];omega)
 have hlen:((On ls.length).filter λk=>k != j).length<=1000:=OI (Q8 _ _) (by rw[OU];omega)
 have e2:=yI (cs:=cs) hlen λk hk=>OY.mp (PL.mp hk).1
 rw[sk]at e2;exact aE (ar hf (ar (aE (ar ha (ar hg rfl)) e1) rfl)) e2
section
variable {cs ls:List T}{L:bS N2}{P:List N2}
theorem uK {l:List T}{j:Nat}:∀u∈l.eraseIdx j,u∈l:=λu hu=>List.mem_of_mem_eraseIdx hu
theorem yG {l:List T}(j:Nat):(l.eraseIdx j).length<=l.length:=List.length_eraseIdx_le _ _
open Classical in
def ly (P:List N2)(cs ls:List T)(j:Nat):Bool:=decide (key P cs (ls.eraseIdx j)=key P cs ls)
theorem ndl_iff {j:Nat}:ly P cs ls j=true↔key P cs (ls.eraseIdx j)=key P cs ls:=by unfold ly;exact decide_eq_true_iff
theorem Rd.ger (R:Rd cs ls L P)(j:Nat):Good cs (ls.eraseIdx j):=R.g.sub uK (OI (yG j) R.g.n)
theorem Rd.NC (R:Rd cs ls L P)(j:Nat):ck [RR cs (ls.eraseIdx j),RR cs ls] = .ok (.bl (ly P cs ls j)):=by
 obtain⟨b,e,i⟩:=R.NI (R.ger j) R.g;rw[e]
 congr 2
 cases q:ly P cs ls j with
 | true=>exact i.mpr (ndl_iff.mp q)
 | false=>
  cases b with
  | false=>rfl
  | true=>have:=ndl_iff.mpr (i.mp rfl);rw[q]at this;cases this
theorem Rd.Nf (R:Rd cs ls L P)(n:NoNeg L):bA [RR cs ls] = .ok (.lst (((On ls.length).filter (ly P cs ls)).map nI)):=by
 refine aZ rfl ?_
 show cX [.va (RR cs ls),.em] =_
 unfold cX;rw[aw (uF (aE rfl (R.Nm n)))];rw[aw (bM (aE rfl (Ah R.g.n)) rfl)];refine bB ?_
 rw[<-iY]
 exact l7 (iq rfl) (aB (by rw[Ob,OU];exact R.g.n)) (by simp) λt ht=>by
  obtain⟨k,hk,rfl⟩:=Oq.mp ht;rw[eQ];exact⟨bx (aE (ar (Ei R.g.n k rfl rfl (vr 2) rfl) rfl) (R.NC k)),λ_=>rfl⟩
end
section
variable {cs ls ms:List T}{L M:bS N2}{P:List N2}{f:dE N2}
theorem Rd.NS (R:Rd cs ls L P)(k:Nat):KH (L.take k++L.drop (k+1)) P:=by
 have sub:∀x∈L.take k++L.drop (k+1),x∈L:=λx hx=>(OR.mp hx).elim Qn U8
 have ll:=R.ll
 have hlen:(L.take k++L.drop (k+1)).length<=60:=by rw[Om,Pq,QK];omega
 refine⟨by omega,?_,λx hx=>R.f.ends x (sub x hx),R.f.pl⟩
 have:=zj λx hx=>R.bg x (sub x hx)
 omega
end
theorem Cg:∀{r:List Int} {k:Nat},my r=true->k+1<r.length->0<=dr r k
 | [],k,_,h=>by simp at h
 | [a],k,_,h=>by simp at h
 | a::b::r,0,h,_=>by
  rw[AG,N9]at h
  have:=of_decide_eq_true h.1
  show 0<=b - a
  omega
 | a::b::r,k+1,h,hk=>by
  rw[AG,N9]at h;exact Cg (k:=k) h.2 (by simpa using hk)
theorem yP {t:T}(h:bJ t=true):∃(x y:Int) (r:List Int),t= .tup [.int x,.int y,.tup (r.map .int)]/\(0<=x/\x<=9)/\x<=y/\(∀k,0<=r.getD k 0/\r.getD k 0<=99)/\∀k,k+1<r.length->0<=dr r k:=by
 obtain⟨x,y,r,rfl,h1,h2,h3⟩:=qH h;refine⟨x,y,r,rfl,h1,?_,h3,?_⟩
 ·have h':(mQ (.int x) (.int y)&&cC (.tup (r.map .int)))=true:=h
  rw[N9]at h'
  have hp:(aX (.int x) 1 9&&aX (.int y) x 9)=true:=h'.1;rw[N9]at hp;obtain⟨i,e,a,b⟩:=dq hp.2;cases e;exact a
 ·have h':(mQ (.int x) (.int y)&&cC (.tup (r.map .int)))=true:=h
  rw[N9]at h'
  have hr:=h'.2;unfold cC at hr;rw[N9]at hr
  have hr2:(((r.map T.int).all λu=>aX u 0 99)&&(match nums (r.map .int)with | some m=>my m | none=>false))=true:=hr.2
  rw[N9,gS]at hr2;exact λk hk=>Cg hr2.2 hk
theorem EC {u:T}:∀{cs:List T} {i:Nat},u∈bC i cs->∃j c,cs[j]? =some c/\u∈xB (i+j) c
 | [],i,h=>by simp[bC]at h
 | c::cs,i,h=>by
  rw[bC,OR]at h;rcases h with h | h
  ·exact⟨0,c,rfl,h⟩
  ·obtain⟨j,d,e,hd⟩:=EC h
   exact⟨j+1,d,e,by rw[show i+(j+1)=i+1+j by omega];exact hd⟩
section
variable {cs ls:List T}{L:bS N2}{P:List N2}{i:Nat}{x y:Int}{r:List Int}
def cw (b:Bool)(cs:List T)(v:N2):Int:=match cs[v.c.toNat]? with
 | some (.tup [.int x,.int y,.tup r])=>(if b then y else x)*((nums r).getD []).getD v.k.toNat 0
 | _=>0
theorem HP (b:Bool)(e:cs[i]? =some (.tup [.int x,.int y,.tup (r.map .int)]))(k:Nat):cw b cs ⟨i,(k:Nat)⟩=(if b then y else x)*r.getD k 0:=by
 unfold cw;simp only[PC,e,gS,Option.getD_some]
theorem Rd.cw0 (R:Rd cs [] L P)(b:Bool):Holds L (cw b cs):=λu v m hx=>by
 have hb:eB (u,v,m)∈By cs []:=by rw[R.b];exact Oq.mpr ⟨_,hx,rfl⟩
 unfold By at hb;rw[List.flatMap_nil,Pz]at hb;obtain⟨j,c,hj,hu⟩:=EC hb;rw[R9]at hu;obtain⟨x,y,r,rfl,_,xy,_,dd⟩:=yP ((cj R.g.c).1 _ (Py hj));rw[oP]at hu;obtain⟨k,hk,hu⟩:=R3.mp hu
 have hk':=OY.mp hk
 have d0:=dd k (by omega)
 have c1:=HP b hj k
 have c2:=HP b hj (k+1)
 have fx:x<=(if b then y else x)/\(if b then y else x)<=y:=by cases b <;> simp[xy]
 revert fx c1 c2
 generalize (if b then y else x)=z
 intro c1 c2 fx
 have m1:=SX fx.1 d0
 have m2:=SX fx.2 d0
 have ed:z*r.getD (k+1) 0 - z*r.getD k 0=dr r k*z:=by unfold dr;rw[<-Int.mul_sub,UE]
 unfold pr at hu;simp only[Og,Pd,or_false]at hu;rcases hu with hu | hu
 ·have:=Ep (y:=(⟨j,k⟩,⟨j,((k+1:Nat):Int)⟩,dr r k*y)) hu
  cases this;rw[c1,c2];omega
 ·have:=Ep (y:=(⟨j,((k+1:Nat):Int)⟩,⟨j,k⟩,-dr r k*x)) hu
  cases this;rw[c1,c2,Int.neg_mul];omega
theorem nn0 (R:Rd cs ls L P):NoNeg (lim cs []):=by
 have g0:Good cs []:=⟨R.g.c,λt ht=>(by cases ht),by simp,zu R.g.parts.1 rfl⟩
 have S:=R.to g0;exact(S.cw0 true).Nx
end
def fN:Nat->List (List Nat)
 | 0=> [[]]
 | 1=> [[0],[]]
 | 2=> [[0,1],[0],[1],[]]
 | 3=> [[0,1,2],[0,1],[0,2],[1,2],[0],[1],[2],[]]
 | _=> [[0,1,2,3],[0,1,2],[0,1,3],[0,2,3],[1,2,3],[0,1],[0,2],[0,3],[1,2],[1,3],[2,3],[0],[1],[2],[3],[]]
def lN (l:List Nat):T:=.lst (l.map nI)
def gw:Nat->List (List Nat)
 | 0=> [[]]
 | n+1=>gw n++(gw n).map λl=>l++ [n]
theorem Ki:∀n≤4,ku [lN (On n)] = .ok (.lst ((gw n).map lN)):=by
 intro n hn
 match n,hn with
 | 0,_=>rfl
 | 1,_=>rfl
 | 2,_=>rfl
 | 3,_=>rfl
 | 4,_=>rfl
def HK (l:List Nat):List Int:=BI (l.map λk:Nat=>(k:Int))
theorem Iq:∀n≤4,((gw n).map HK).mergeSort nM=(fN n).map HK:=by
 intro n hn
 match n,hn with
 | 0,_=>exact(iO (by decide) (by decide)).symm
 | 1,_=>exact(iO (by decide) (by decide)).symm
 | 2,_=>exact(iO (by decide) (by decide)).symm
 | 3,_=>exact(iO (by decide) (by decide)).symm
 | 4,_=>exact(iO (by decide) (by decide)).symm
theorem zF:∀l:List Nat,gj (l.map nI)=some (l.map λk:Nat=>(k:Int))
 | [] =>rfl
 | k::l=>by
  show(gj (l.map nI)).map ((k:Int):: ·)=_
  rw[zF l];rfl
theorem uw:∀l:List (List Nat),jN (l.map lN)=some (l.map λm=>m.map λk:Nat=>(k:Int))
 | [] =>rfl
 | m::l=>by
  show(match gj (m.map nI),jN (l.map lN)with | some ns,some k=>some (ns::k) | _,_=>none)=_
  rw[zF,uw l];rfl
theorem Dw (l:List Nat):T.lst ((l.map λk:Nat=>(k:Int)).map T.int)=lN l:=by
 unfold lN;rw[OM];rfl
theorem pj:∀n≤4,(gw n).length<64:=by decide
theorem Ms {n:Nat}(hn:n<=4):vA [.lst ((gw n).map lN)] = .ok (.lst ((fN n).map lN)):=by
 show(match jN ((gw n).map lN)with | some k=>if k.length<64 then Rs.ok (T.lst (((k.map BI).mergeSort nM).map λr:List Int=>T.lst (r.tail.map .int)))else .bad | none=> .bad)=_
 rw[uw];simp only[Ob];rw[if_pos (pj n hn),OM,show(BI∘λm:List Nat=>m.map λk:Nat=>(k:Int))=HK from rfl,Iq n hn,OM]
 congr 2
 exact ON λl _=>Dw l
theorem zf:∀n≤4,∀l∈fN n,l.Pairwise (· < ·)/\(∀k∈l,k<n)/\l.length<=n:=by decide
theorem Ff:∀n≤4,[] ∈fN n:=by decide
theorem Fg:∀n≤4,(fN n).length<=16:=by decide
def pk (ls:List T)(l:List Nat):List T:=l.map λk=>ls.getD k .non
def nn (cs ls:List T)(l:List Nat):Bool:=@decide (NoNeg (lim cs (pk ls l))) (Ud _)
section
variable {cs ls:List T}{L:bS N2}{P:List N2}
theorem nn_iff {l:List Nat}:nn cs ls l=true↔NoNeg (lim cs (pk ls l)):=by unfold nn;exact @decide_eq_true_iff _ (Ud _)
theorem CI {l:List Nat}(hl:∀k∈l,k<ls.length):∀u∈pk ls l,u∈ls:=λu hu=>by
 obtain⟨k,hk,rfl⟩:=Oq.mp hu
 have:=hl k hk;rw[O5,Of this]
 exact PQ _
theorem Rd.pkw (R:Rd cs ls L P){l:List Nat}(hl:∀k∈l,k<ls.length)(h8:l.length<=8):aM [RR cs (pk ls l)] = .ok (.bl (nn cs ls l)):=by
 have S:=R.sub (CI hl) (by unfold pk;rw[Ob];exact h8)
 obtain⟨hw,e,i⟩:=S.Nv;rw[e]
 congr 2
 exact Pe.mpr (i.trans nn_iff.symm)
theorem Rd.N1 (R:Rd cs ls L P):nn cs ls [] =true:=nn_iff.mpr (nn0 R)
theorem Rd.kept (R:Rd cs ls L P)(h4:ls.length<=4):∃(j:Nat) (l:List Nat),(fN ls.length)[j]? =some l/\nn cs ls l=true/\(∀i<j,∀m,(fN ls.length)[i]? =some m->nn cs ls m=false)/\dR [RR cs ls] = .ok (lN l):=by
 have go:∀(k j:Nat),j+k=(fN ls.length).length->(∀i<j,∀m,(fN ls.length)[i]? =some m->nn cs ls m=false)->∀f,k<f →
   ∃(j':Nat) (l:List Nat),(fN ls.length)[j']? =some l/\nn cs ls l=true/\(∀i<j',∀m,(fN ls.length)[i]? =some m->nn cs ls m=false) ∧
    cf (fO (tb (cl aM (ae (cl bR (ae (vr 0) (ae (o2 aU (vr 1) (vr 2)) aj))) aj)))) (B9 2 (cn (.int 1))) f [.va (RR cs ls),.va (.lst ((fN ls.length).map lN)),.va (.int (j:Nat))] = .ok (.nx [.va (RR cs ls),.va (.lst ((fN ls.length).map lN)),.va (.int (j':Nat))]):=by
  intro k
  induction k with
  | zero=>
   intro j hj hf f _;obtain⟨i,hi⟩:=S1 (Ff ls.length h4)
   have:=hf i (by have:=(Oi.mp hi).1;omega) _ hi
   rw[R.N1]at this;cases this
  | succ k ih=>
   intro j hj hf f hfk
   have hlt:j<(fN ls.length).length:=by omega
   obtain⟨l,hl⟩:∃l,(fN ls.length)[j]? =some l:=⟨_,Of hlt⟩
   obtain⟨_,h2,h3⟩:=zf ls.length h4 l (Py hl)
   have c:tb (cl aM (ae (cl bR (ae (vr 0) (ae (o2 aU (vr 1) (vr 2)) aj))) aj)) [.va (RR cs ls),.va (.lst ((fN ls.length).map lN)),.va (.int (j:Nat))] = .ok (nn cs ls l):=
    bx (aE (ar (aE (ar rfl (ar (ay rfl rfl (yA (by rw[Ov,hl];rfl))) rfl)) (yI (by omega) h2)) rfl) (R.pkw h2 (by omega)))
   cases f with
   | zero=>omega
   | succ f=>
    cases q:nn cs ls l with
    | true=>
     rw[q]at c
     exact⟨j,l,hl,q,hf,wC (dX c)⟩
    | false=>
     rw[q]at c
     obtain⟨j',l',a1,a2,a3,a4⟩:=ih (j+1) (by omega) (λi hi m hm=>by
      by_cases z:i=j
      ·subst z;rw[hl]at hm;cases hm;exact q
      ·exact hf i (by omega) m hm) f (by omega)
     exact⟨j',l',a1,a2,a3,(qv (dX c) rfl).trans a4⟩
 obtain⟨j,l,a1,a2,a3,a4⟩:=go (fN ls.length).length 0 (by omega) (λi hi=>absurd hi (by omega)) FU (by have:=Fg ls.length h4;show _<1000000000000;omega)
 refine⟨j,l,a1,a2,a3,?_⟩
 refine aZ rfl ?_
 show gv [.va (RR cs ls),.em,.em] =_
 unfold gv
 have ea:=Ah (cs:=cs) (ls:=ls) (by omega)
 refine(aw (uF (aE rfl (qc R.g.p R.g.ok)))).trans ?_
 refine(aw (bM (aE (ar (aE (ar (aE rfl ea) rfl) (Ki _ h4)) rfl) (Ms h4)) rfl)).trans ?_
 refine(aw (bM rfl rfl)).trans ?_
 refine(aw a4).trans ?_
 exact bB (ay rfl rfl (yA (by rw[Ov,a1];rfl)))
end
theorem LB:∀l:List Nat,plS (l.map nI)=true:=λl=>gx λt ht=>by obtain⟨k,_,rfl⟩:=Oq.mp ht;rfl
theorem uN (l:List Nat):(lN l).dep<=60:=by
 unfold lN T.dep
 have:deps (l.map nI)<=0:=gd λt ht=>by obtain⟨k,_,rfl⟩:=Oq.mp ht;simp[nI,T.dep]
 omega
theorem rQ (l:List Nat):(lN l).pl=true:=by unfold lN;rw[Ji];exact LB l
theorem yQ (a b:Nat):aS (nI a) (nI b)=decide (a=b):=by
 show((a:Int) == (b:Int))=_
 by_cases h:a=b
 ·subst h;simp
 ·rw[decide_eq_false h];exact beq_eq_false_iff_ne.mpr (by omega)
theorem uT:∀a b:List Nat,beqTs (a.map nI) (b.map nI)=decide (a=b)
 | [],[] =>rfl
 | [],_::_=>by simp[beqTs]
 | _::_,[] =>by simp[beqTs]
 | x::a,y::b=>by
  show(aS (nI x) (nI y)&&beqTs (a.map nI) (b.map nI))=_
  rw[yQ,uT a b]
  by_cases h:x=y <;> by_cases g:a=b <;> simp[h,g]
def rm (n i:Nat):List Nat:=(On n).filter λk=>k != i
theorem Hq {n i:Nat}:∀k∈rm n i,k<n:=λk hk=>OY.mp (PL.mp hk).1
theorem Ce (n i:Nat):(rm n i).length<=n:=OI (Q8 _ _) (by rw[OU];omega)
theorem vP (ls:List T):pk ls (On ls.length)=ls:=by
 unfold pk;refine R1 (by simp) λi h1 h2=> ?_
 simp[O5,Of h2]
def told (cs ls:List T):List Nat:=if nn cs ls (On ls.length)=true then []else(On ls.length).filter λi=>nn cs ls (rm ls.length i)
section
variable {cs ls:List T}{L:bS N2}{P:List N2}
theorem Rd.hw (R:Rd cs ls L P)(h4:ls.length<=4):aM [RR cs ls] = .ok (.bl (nn cs ls (On ls.length))):=by
 have:=R.pkw (λk hk=>OY.mp hk) (by rw[OU];omega)
 rwa [vP]at this
theorem Rd.N0 (R:Rd cs ls L P)(h4:ls.length<=4):ff [RR cs ls] = .ok (lN (told cs ls)):=by
 refine aZ rfl ?_
 show g9 [.va (RR cs ls),.em] =_
 unfold g9 told
 have hw:=R.hw h4
 cases q:nn cs ls (On ls.length)with
 | true=>
  rw[q]at hw
  exact fB ((dA (bx (aE rfl hw))).trans (bB rfl))
 | false=>
  rw[q]at hw;refine(aw ((dt (bx (aE rfl hw))).trans rfl)).trans ?_
  refine(aw (bM (aE rfl (Ah (by omega))) rfl)).trans ?_
  refine bB ?_
  rw[if_neg (by decide)]
  show _=Rs.ok (T.lst (((On ls.length).filter λi=>nn cs ls (rm ls.length i)).map nI))
  rw[<-iY]
  refine l7 (iq rfl) (aB (by simp;omega) (by omega)) (by simp) λt ht=>by
   obtain⟨k,hk,rfl⟩:=Oq.mp ht;rw[eQ];exact⟨bx (aE (ar (aE (ts:=[RR cs ls,lN (rm ls.length k)]) (ar rfl (ar (aE rfl (sA (by simp;omega))) rfl)) (yI (by have:=Ce ls.length k;omega) Hq)) rfl) (R.pkw Hq (by have:=Ce ls.length k;omega))),λ_=>rfl⟩
end
end G
set_option maxHeartbeats 1000000
namespace G
open PySem Tr Gr
def Mu:T->T
 | .tup [x,y,.tup r] => .tup [x,y,.tup (r.take 2)]
 | t=>t
theorem Br {c:T}(h:bJ c=true):bJ (Mu c)=true:=by
 obtain⟨x,y,r,rfl,_⟩:=dZ h
 have h':(mQ (.int x) (.int y)&&cC (.tup (r.map .int)))=true:=h;rw[N9]at h'
 show(mQ (.int x) (.int y)&&cC (.tup ((r.map .int).take 2)))=true
 rw[h'.1,Rt]
 have hr:=h'.2;unfold cC at hr ⊢;rw[N9]at hr;obtain⟨h1,h2⟩:=hr
 have h2':(((r.map T.int).all λu=>aX u 0 99)&&(match nums (r.map .int)with | some m=>my m | none=>false))=true:=h2
 rw[N9,gS,OG]at h2'
 show(eK (.tup ((r.map T.int).take 2)) 1 4&&((((r.map T.int).take 2).all λu=>aX u 0 99)&&(match nums ((r.map .int).take 2)with | some m=>my m | none=>false)))=true
 have h1':(decide (1<=(r.map T.int).length)&&decide ((r.map T.int).length<=4))=true:=h1;rw[N9]at h1'
 have e1:=of_decide_eq_true h1'.1
 have e2:=of_decide_eq_true h1'.2
 have hl:eK (.tup ((r.map T.int).take 2)) 1 4=true:=by
  show(decide (1<=((r.map T.int).take 2).length)&&decide (((r.map T.int).take 2).length<=4))=true
  rw[Pq,N9];exact⟨decide_eq_true (by omega),decide_eq_true (by omega)⟩
 rw[hl,Rt,N9,OG,<-S5,gS];refine⟨λu hu=>h2'.1 u (by rw[S5]at hu;exact Qn hu),?_⟩
 match r,h2'.2 with
 | [],_=>rfl
 | [a],_=>rfl
 | a::b::r,q=>
  show my [a,b] =true
  have q:my (a::b::r)=true:=q;rw[AG,N9]at q;rw[AG,q.1];rfl
theorem yF {cs cs':List T}{x:T}(hx:bh cs x=true):∀{l:List T},(∀t∈l,bh cs' t=true)->fU x l=true->x∈l
 | [],_,h=>by cases h
 | t::l,hl,h=>by
  unfold fU at h;rw[Q6,Tc]at h;rcases h with h | h
  ·obtain⟨c,k,rfl⟩:=cN hx
   obtain⟨d,m,rfl⟩:=cN (hl t (.head _))
   have h':((d == c)&&((m == k)&&true))=true:=h;rw[VI,N9]at h';rw[eq_of_beq h'.1,eq_of_beq h'.2];exact .head _
  ·exact .tail _ (yF hx (λu hu=>hl u (.tail _ hu)) h)
theorem HJ {cs cs':List T}{x:T}{l:List T}(hx:bh cs x=true)(hl:∀t∈l,bh cs' t=true):sg x (.lst l)= .ok (.bl (fU x l)):=by
 obtain⟨c,k,rfl⟩:=cN hx
 show(if _ then _ else _)=_
 have:(T.lst l).nd=true:=by
  unfold T.nd;exact lx λt ht=>by obtain⟨d,m,rfl⟩:=cN (hl t ht);rfl
 rw[if_pos ⟨.inl (by simp[T.dep,deps]),rfl,this⟩]
abbrev smK (l:List T)(t:T):Bool:=match t with
 | .tup [a,b,_,_] =>fU a l&&fU b l
 | _=>false
abbrev oh (cs:List T):List T:=(cs.take 2).map Mu
abbrev ls2 (cs ls:List T):List T:=ls.filter (smK (fP 0 (oh cs)))
section
variable {cs ls:List T}
theorem Ex (h:bp (.tup cs)=true):bp (.tup (oh cs))=true:=by
 obtain⟨ha,h1,h4⟩:=cj h
 show(eK (.tup (oh cs)) 1 4&&(oh cs).all bJ)=true
 rw[N9,OG];refine⟨?_,λc hc=> ?_⟩
 ·show(decide (1<=(oh cs).length)&&decide ((oh cs).length<=4))=true
  rw[Ob,Pq,N9];exact⟨decide_eq_true (by omega),decide_eq_true (by omega)⟩
 ·obtain⟨d,hd,rfl⟩:=Oq.mp hc
  exact Br (ha d (Qn hd))
theorem JM (g:Good cs ls):∀t∈ls2 cs ls,bN (oh cs) t=true:=λt ht=>by
 obtain⟨h1,h2⟩:=PL.mp ht;obtain⟨a,b,x,y,rfl,hd,ha,hb,hn⟩:=ez (g.l t h1)
 have h2':(fU a (fP 0 (oh cs))&&fU b (fP 0 (oh cs)))=true:=h2;rw[N9]at h2'
 have e1:=nQ (yF ha (λu hu=>nQ hu) h2'.1)
 have e2:=nQ (yF hb (λu hu=>nQ hu) h2'.2)
 show(eZ x y&&(bh (oh cs) a&&(bh (oh cs) b&& !aS a b)))=true
 rw[hd,e1,e2,hn];rfl
theorem xO (g:Good cs ls):Good (oh cs) (ls2 cs ls):=by
 have hp:(RR (oh cs) (ls2 cs ls)).pl=true:=by
  refine zu ?_ (by rw[gQ];exact gx λt ht=>g.parts.2 t (PL.mp ht).1)
  rw[gQ];refine gx λt ht=> ?_
  obtain⟨d,hd,rfl⟩:=Oq.mp ht;obtain⟨x,y,r,rfl,_⟩:=dZ ((cj g.c).1 d (Qn hd))
  show(T.tup [.int x,.int y,.tup ((r.map .int).take 2)]).pl=true
  rw[<-S5,gQ]
  have:(T.tup ((r.take 2).map .int)).pl=true:=by rw[gQ];exact gx λt ht=>by obtain⟨k,_,rfl⟩:=Oq.mp ht;rfl
  exact gx λu hu=>by
   simp only[Og,Pd,or_false]at hu;rcases hu with rfl | rfl | rfl
   ·rfl
   ·rfl
   ·exact this
 exact⟨Ex g.c,JM g,OI (Q8 _ _) g.n,hp⟩
theorem GJ (g:Good cs ls):gF [RR cs ls] = .ok (RR (oh cs) (ls2 cs ls)):=by
 obtain⟨ha,h1,h4⟩:=cj g.c;refine aZ rfl ?_
 show jo [.va (RR cs ls),.em,.em] =_
 unfold jo
 have hc:d6 (iS (sl (o2 aU (vr 0) (cn (.int 0))) pN (pS (cn (.int 2))))) [none] (gN 0) bT (o2 aV (sl (vr 0) pN (pS (cn (.int 2)))) (aP (ae (sl (o2 aU (vr 0) (cn (.int 2))) pN (pS (cn (.int 2)))) aj))) [.va (RR cs ls),.em,.em] = .ok (.lst (oh cs)):=by
  refine m6 (J2 ?_) (by unfold sizeLine;rw[Pq];omega) (by simp) λc hc=> ?_
  ·rw[wH (hi:=some ((2:Nat):Int)) (rq rfl rfl rfl) rfl (qw rfl),fH]
  ·obtain⟨x,y,r,rfl,_,_,_,hr4⟩:=dZ (ha c (Qn hc))
   refine ay (t:=.tup [.int x,.int y]) ?_ (dy (ar ?_ rfl) (aB (k:=1) (by simp))) (uX _ _ (by simp))
   ·exact(wH (hi:=some ((2:Nat):Int)) rfl rfl (qw rfl)).trans (by rw[fH];rfl)
   ·rw[wH (hi:=some ((2:Nat):Int)) (rq rfl rfl rfl) rfl (qw rfl),fH]
 rw[aw (bM (aE (ar hc rfl) rfl) rfl)];rw[aw (bM (aE rfl (qF _ (Ex g.c))) rfl)]
 have hl:d6 (iS (o2 aU (vr 0) (cn (.int 1)))) [none,some 2] (gN 0) (qO (tb (o2 sg (o2 aU (vr 0) (cn (.int 0))) (vr 1))) (tb (o2 sg (o2 aU (vr 0) (cn (.int 1))) (vr 1)))) (vr 0) [.va (RR cs ls),.va (.tup (oh cs)),.va (.lst (fP 0 (oh cs)))] = .ok (.lst (ls2 cs ls)):=by
  refine(l7 (J2 (rq rfl rfl rfl)) (by have:=g.n;unfold sizeLine;omega) (by simp) λt ht=> ?_).trans (by rw[RG])
  obtain⟨a,b,x,y,rfl,hd,h1,h2,hn⟩:=ez (g.l t ht);refine⟨?_,λ_=>rfl⟩
  have c1:tb (o2 sg (o2 aU (vr 0) (cn (.int 0))) (vr 1)) [.va (.tup [a,b,x,y]),.va (.lst (fP 0 (oh cs)))] = .ok (fU a (fP 0 (oh cs))):=bx (ay (rq rfl rfl rfl) rfl (HJ h1 λu hu=>nQ hu))
  have c2:tb (o2 sg (o2 aU (vr 0) (cn (.int 1))) (vr 1)) [.va (.tup [a,b,x,y]),.va (.lst (fP 0 (oh cs)))] = .ok (fU b (fP 0 (oh cs))):=bx (ay (rq rfl rfl rfl) rfl (HJ h2 λu hu=>nQ hu))
  show(qO _ _ _)= .ok (fU a (fP 0 (oh cs))&&fU b (fP 0 (oh cs)))
  cases hq:fU a (fP 0 (oh cs))with
  | true=>rw[hq]at c1;exact yB c1 c2
  | false=>rw[hq]at c1;exact DL c1
 exact bB (dy (ar rfl (ar (aE (ar hl rfl) rfl) rfl)) (aB (k:=2) (by simp)))
end
theorem Dh {g:T->En->Rs En}{F:En->Rs Fl}(J:Nat->En->Prop):∀(ts:List T) (n:Nat) (Z:En),(∀i t,ts[i]? =some t->∀Z,J (n+i) Z->∃Z1 Z2,g t Z= .ok Z1/\F Z1= .ok (.nx Z2)/\J (n+i+1) Z2)->J n Z->∃Z',bD g F ts Z= .ok (.nx Z')/\J (n+ts.length) Z'
 | [],n,Z,_,hj=>⟨Z,rfl,hj⟩
 | t::ts,n,Z,h,hj=>by
  obtain⟨Z1,Z2,a,b,c⟩:=h 0 t rfl Z hj
  obtain⟨Z',e,j⟩:=Dh J ts (n+1) Z2 (λi u hu Z hr=>by
   have:=h (i+1) u (by simpa using hu) Z (by rw[show n+(i+1)=n+1+i by omega];exact hr)
   rwa [show n+(i+1)+1=n+1+i+1 by omega]at this) c
  refine⟨Z',by rw[dM a b];exact e,?_⟩
  rw[Oj,show n+(ts.length+1)=n+1+ts.length by omega];exact j
theorem uE {fi:En->Rs (List T)}{g:T->En->Rs En}{F H:En->Rs Fl}{Z:En}{ts:List T}{x:Rs Fl}(J:Nat->En->Prop)(hi:fi Z= .ok ts)(h:∀i t,ts[i]? =some t->∀Z,J i Z->∃Z1 Z2,g t Z= .ok Z1/\F Z1= .ok (.nx Z2)/\J (i+1) Z2)(hj:J 0 Z)(k:∀Z',J ts.length Z'->H Z'=x):aD (d7 fi g F) H Z=x:=by
 obtain⟨Z',e,j⟩:=Dh J ts 0 Z (λi t ht Z hr=>by
  rw[R9]at hr ⊢;exact h i t ht Z hr) hj
 rw[R9]at j;exact(aw (fT hi e)).trans (k Z' j)
theorem JA (o:Option Int):(oI o).dep<=0:=by cases o <;> simp[oI,T.dep]
theorem Hw (o:Option Int):(oI o).nd=true:=by cases o <;> rfl
def xV (P:List N2)(f:dE N2)(u:N2):T:=.dct (P.map en) (P.map λv=>oI (f u v))
theorem xU (P:List N2)(f g:dE N2)(u:N2):zl (xV P f u) (xV P g u)=some (beqTs (P.map λv=>oI (f u v)) (P.map λv=>oI (g u v))):=by
 unfold zl xV
 dsimp only
 rw[if_pos ⟨rfl,by simp,OI (gd λt ht=>by obtain⟨v,_,rfl⟩:=Oq.mp ht;exact JA _) (by decide),lx λt ht=>by obtain⟨v,_,rfl⟩:=Oq.mp ht;exact Hw _,lx λt ht=>by obtain⟨v,_,rfl⟩:=Oq.mp ht;exact Hw _⟩]
theorem zk (P:List N2)(f g:dE N2):∀Q:List N2,jI (Q.map (xV P f)) (Q.map (xV P g))=some (beqTs (Q.map λu=> .tup (P.map λv=>oI (f u v))) (Q.map λu=> .tup (P.map λv=>oI (g u v))))
 | [] =>rfl
 | u::Q=>by
  rw[Oc,Oc,jI,xU,zk P f g Q]
  rfl
theorem GG (P:List N2)(f g:dE N2):Bf (nU P f) (nU P g)= .ok (.bl (aS (jB P f) (jB P g))):=by
 show(if (P.map en).map keyOf=(P.map en).map keyOf then match jI (P.map (xV P f)) (P.map (xV P g))with | some b=>Rs.ok (T.bl b) | none=> .bad else .bad)=_
 rw[if_pos rfl,zk]
 rfl
def qU (P:List N2)(L:bS N2):T:=by classical exact if NoNeg L then nU P (table P L)else .non
section
variable {cs ls:List T}{L M:bS N2}{P:List N2}{f g:dE N2}
theorem E5 (n:NoNeg L):qU P L=nU P (table P L):=by unfold qU;rw[if_pos n]
theorem KQ (n:¬ NoNeg L):qU P L= .non:=by unfold qU;rw[if_neg n]
theorem ltab (nd:P.Nodup)(pl:P.length<=16)(he:∀x∈L,x.1∈P/\x.2.1∈P):bO [eS P,eL L] = .ok (qU P L):=by
 obtain⟨t,h,e⟩:=GI nd (by omega) he
 rw[e];rcases h with⟨n,_,rfl⟩ | ⟨n,rfl⟩
 ·rw[E5 n]
 ·rw[KQ n]
theorem Af (he:∀x∈L,x.1∈P/\x.2.1∈P)(he2:∀x∈M,x.1∈P/\x.2.1∈P)(n:NoNeg L)(m:NoNeg M):Bf (qU P L) (qU P M)= .ok (.bl (AB P L M)):=by
 rw[E5 n,E5 m,GG]
 congr 2
 exact Pe.mpr ((Ao P _ _).trans ((zd he he2 n m (eO he n) (eO he2 m)).symm.trans smB_iff.symm))
theorem wa (P:List N2)(L:bS N2):∃b,fS (qU P L) .non= .ok (.bl b)/\jh (qU P L) .non= .ok (.bl (!b))/\(b=true↔NoNeg L):=by
 by_cases n:NoNeg L
 ·rw[E5 n];exact⟨true,rfl,rfl,λ_=>n,λ_=>rfl⟩
 ·rw[KQ n];exact⟨false,rfl,rfl,(λh=>by cases h),λh=>absurd h n⟩
theorem Rd.Nb (R:Rd cs ls L P):bf [.tup cs] = .ok (eS P):=by rw[qF cs R.g.c,R.e];rfl
theorem Rd.M9 (R:Rd cs ls L P):bV [RR cs ls] = .ok (eL L):=by rw[Bh R.g.c R.g.l R.g.n,R.b];rfl
theorem Rd.ltab (R:Rd cs ls L P):bO [eS P,eL L] = .ok (qU P L):=G.ltab R.nd R.pl R.f.ends
theorem Mr (l:List T)(k:Nat):l.take k++l.drop (k+1)=l.eraseIdx k:=(List.eraseIdx_eq_take_drop_succ l k).symm
theorem Ma {k:Nat}{f g:En->Rs T}{Z:En}(h8:ls.length<=8)(hf:f Z= .ok (RR cs ls))(hg:g Z= .ok (.int (k:Nat))):aP (ae (o2 aU f (cn (.int 0))) (ae (o2 aV (sl (o2 aU f (cn (.int 1))) pN (pS g)) (sl (o2 aU f (cn (.int 1))) (pS (o2 aV g (cn (.int 1)))) pN)) aj)) Z= .ok (RR cs (ls.eraseIdx k)):=by
 have i1:o2 aU f (cn (.int 1)) Z= .ok (.tup ls):=ay hf rfl (gq rfl);refine p2 (ay hf rfl (gq rfl)) (ay (t:=.tup (ls.take k)) (u:=.tup (ls.drop (k+1))) ?_ ?_ ?_)
 ·rw[wH i1 rfl (qw hg),fH]
 ·rw[wH (lo:=some ((k+1:Nat):Int)) i1 (qw (ay hg rfl rfl)) rfl,mr]
 ·rw[uX _ _ (by rw[Om,Pq,QK];omega),Mr]
theorem JF (R:Rd cs ls L P)(k:Nat):AB P (lim cs (ls.eraseIdx k)) L=ly P cs ls k:=by
 refine Pe.mpr (smB_iff.trans (Iff.trans ?_ ndl_iff.symm))
 unfold key;rw[R.M7]
theorem Be (p:Nat->Bool)(i:Nat):((On (i+1)).filter p).map nI=((On i).filter p).map nI++(if p i then [nI i]else []):=by
 rw[Te,List.filter_append,PF]
 congr 1
 cases q:p i <;> simp[q]
theorem J8 (b:Bool):wL [.bl b] = .ok (.int (if b then 1 else 0)):=by cases b <;> rfl
theorem Rd.NG (R:Rd cs ls L P)(n:NoNeg L):de [RR cs ls] = .ok (lN ((On ls.length).filter (ly P cs ls))):=by
 have h8:=R.g.n;refine aZ rfl ?_
 show gz [.va (RR cs ls),.em,.em,.em,.em,.em] =_
 unfold gz;refine(aw (bM (aE (ar (ay rfl rfl (gq rfl)) rfl) R.Nb) rfl)).trans ?_
 refine(aw (bM (aE (ar rfl (ar (aE rfl R.M9) rfl)) R.ltab) rfl)).trans ?_
 refine(aw (bM rfl rfl)).trans ?_
 refine uE (λi Z=> ∃s4 s5,Z= [.va (RR cs ls),.va (eS P),.va (qU P L),.va (lN ((On i).filter (ly P cs ls))),s4,s5]) (ts:=(On ls.length).map nI) ((HL (ar (ox (ay rfl rfl (gq rfl))) rfl) (by omega) (by omega)).trans (by rw[i7];rfl)) ?_ ⟨_,_,rfl⟩ ?_
 ·intro i t ht Z hr
  obtain⟨s4,s5,rfl⟩:=hr
  have hi:i<ls.length:=by have:=(Oi.mp ht).1;simpa using this
  obtain rfl:t=nI i:=by rw[Ov,Qs hi]at ht;exact(OP ht).symm
  have S:=R.sub uK (OI (yG i) h8)
  have m:NoNeg (lim cs (ls.eraseIdx i)):=n.mono λx hx=>by have:=zM uK x hx;rwa [R.M7]at this
  have eqd:=Af S.f.ends R.f.ends m n;rw[JF R i]at eqd;refine⟨_,[.va (RR cs ls),.va (eS P),.va (qU P L),.va (lN ((On (i+1)).filter (ly P cs ls))),.va (nI i),.va (RR cs (ls.eraseIdx i))],rfl,?_,_,_,rfl⟩
  refine(aw (bM (Ma h8 rfl rfl) rfl)).trans ?_
  refine bM (ay rfl (ay (jR rfl (aB (k:=1) (by simp))) (aE (ar (ay (aE (ar rfl (ar (aE rfl S.M9) rfl)) S.ltab) rfl eqd) rfl) (J8 _)) (mul_one _ _)) ?_) rfl
  unfold lN;rw[Be];refine oN _ _ ?_
  rw[Om,Ob]
  have h1:=Q8 (ly P cs ls) (On i);rw[OU]at h1
  split <;> simp <;> omega
 ·intro Z hr
  obtain⟨s4,s5,rfl⟩:=hr;rw[Ob,OU];exact bB rfl
theorem Rd.NZ (R:Rd cs ls L P){l:List Nat}(hl:∀k∈l,k<ls.length)(h8:l.length<=8):gX [RR cs ls,lN l] = .ok (.bl (nn cs ls l)):=by
 have S:=R.sub (CI hl) (by unfold pk;rw[Ob];exact h8)
 refine aZ rfl ?_
 show lF [.va (RR cs ls),.va (lN l),.em] =_
 unfold lF
 have hc:d6 (iS (vr 1)) [none,some 0] (gN 0) bT (o2 aU (o2 aU (vr 1) (cn (.int 1))) (vr 0)) [.va (RR cs ls),.va (lN l),.em] = .ok (.lst (pk ls l)):=by
  refine(m6 (h:=λt=>ls.getD (jU t) .non) (iq rfl) (aB (by rw[Ob];exact h8)) (by simp) λt ht=> ?_).trans ?_
  ·obtain⟨k,hk,rfl⟩:=Oq.mp ht
   rw[eQ];exact ay (ay rfl rfl (gq rfl)) rfl (gq (by rw[O5,Of (hl k hk)];rfl))
  ·rw[OM];congr 2
 refine(aw (bM (p2 (ay rfl rfl (gq rfl)) (aE (ar hc rfl) rfl)) rfl)).trans ?_
 obtain⟨b,e1,_,i⟩:=wa P (lim cs (pk ls l));refine(bB (ay (aE (ar (aE (ar (ay rfl rfl (gq rfl)) rfl) R.Nb) (ar (aE rfl S.M9) rfl)) S.ltab) rfl e1)).trans ?_
 congr 3
 exact Pe.mpr (i.trans nn_iff.symm)
theorem GL:∀n≤4,gn [.int (n:Nat)] = .ok (.lst ((gw n).map lN)):=by
 intro n hn
 match n,hn with
 | 0,_=>rfl
 | 1,_=>rfl
 | 2,_=>rfl
 | 3,_=>rfl
 | 4,_=>rfl
end
theorem AU {n:Int}{t:T}(ht:t.pl=true)(h:aX t 0 (n - 1)=false):eG [.int n,t] = .err "NoNumber":=by
 refine fA rfl ?_
 show eU [.va (.int n),.va t] =_
 unfold eU;exact(dA (dX (k:=false) (bx (aE rfl (by rw[fG _ _ _ ht,h]))))).trans rfl
theorem DK {f:En->Rs T}{fs:En->Rs (List T)}{Z:En}{t:T}{c:Str}(h:f Z= .ok t)(hs:fs Z= .err c):ae f fs Z= .err c:=by unfold ae;rw[h,hs];rfl
section
variable {t u:T}
theorem qN (hp:t.pl=true)(h:gu t=false):eJ [t] = .err "NoRecord":=by
 refine fA rfl ?_
 show ke [.va t,.em,.em,.em,.em] =_
 unfold ke;exact jf (se (aE rfl (rW hp h)))
theorem w9 (hp:t.pl=true)(h:gu t=false):aM [t] = .err "NoRecord" :=
 fA rfl (uC (L4 (aE rfl (fA rfl (uC (Mb (DK rfl (Gw (aE rfl (qN hp h))))))))))
theorem sP (hp:t.pl=true)(h:gu t=false):bH [t] = .err "NoRecord":=by
 refine fA rfl ?_
 show dF [.va t] =_
 unfold dF;exact DH (J0 (HH (aE rfl (w9 hp h))))
theorem EB {c:Str}(h:bH [t] = .err c):bA [t] = .err c/\b9 [t] = .err c:=by
 constructor
 ·refine fA rfl ?_
  show cX [.va t,.em] =_
  unfold cX;exact jf (se (aE rfl h))
 ·refine fA rfl ?_
  show dG [.va t,.em,.em,.em] =_
  unfold dG;exact jf (se (aE rfl h))
theorem MA (hp:t.pl=true)(h:gu t=false):dR [t] = .err "NoRecord":=by
 refine fA rfl ?_
 show gv [.va t,.em,.em] =_
 unfold gv;exact jf (se (aE rfl (rW hp h)))
theorem Mz (hp:t.pl=true)(h:gu t=false):ff [t] = .err "NoRecord":=by
 refine fA rfl ?_
 show g9 [.va t,.em] =_
 unfold g9;exact jf (DH (HH (aE rfl (w9 hp h))))
theorem My (hp:t.pl=true)(h:gu t=false):cp [t,u] = .err "NoRecord":=by
 refine fA rfl ?_
 show cq [.va t,.va u,.em,.em,.em] =_
 unfold cq;exact jf (Mc (aE rfl (qN hp h)))
theorem mH {i:Nat}{g:List T->Rs T}{x:T}(hi:i<4)(hm:[bA,b9,dR,ff][i]? =some g)(e:g [t] = .ok x):aY [.int (i:Nat),t,u] = .ok x:=by
 refine aZ rfl ?_
 show dk [.va (.int (i:Nat)),.va t,.va u,.em] =_
 unfold dk;exact HG (fB ((dA (bx (ay rfl rfl (show Rs.ok (T.bl (decide ((i:Int)<4)))=_ by rw[decide_eq_true (by omega)])))).trans (bB (DB rfl hm rfl e))))
theorem mI {i:Nat}{g:List T->Rs T}{x:T}{c:Str}(hi:i<4)(hm:[bA,b9,dR,ff][i]? =some g)(e:g [t] = .err c)(hr:m9 c= .ok x):aY [.int (i:Nat),t,u] = .ok x:=by
 refine aZ rfl ?_
 show dk [.va (.int (i:Nat)),.va t,.va u,.em] =_
 unfold dk;exact Dz (jf ((dA (bx (ay rfl rfl (show Rs.ok (T.bl (decide ((i:Int)<4)))=_ by rw[decide_eq_true (by omega)])))).trans (uC (DB rfl hm rfl e)))) hr
theorem Ic {x:T}(e:cp [t,u] = .ok x):aY [.int 4,t,u] = .ok x:=by
 refine aZ rfl ?_
 show dk [.va (.int 4),.va t,.va u,.em] =_
 unfold dk;exact HG ((aw ((dt (bx (ay rfl rfl rfl))).trans rfl)).trans (bB (aE rfl e)))
theorem sX {x:T}{c:Str}(e:cp [t,u] = .err c)(hr:m9 c= .ok x):aY [.int 4,t,u] = .ok x:=by
 refine aZ rfl ?_
 show dk [.va (.int 4),.va t,.va u,.em] =_
 unfold dk;exact Dz ((aw ((dt (bx (ay rfl rfl rfl))).trans rfl)).trans (uC (aE rfl e))) hr
theorem r3:m9 "NoWorld" = .ok (cM 3):=by unfold m9;rw[if_neg (by decide),if_neg (by decide),if_neg (by decide),if_pos rfl]
end
section
variable {cs ls:List T}{L M:bS N2}{P:List N2}{f g:dE N2}
theorem Rd.Ny (R:Rd cs ls L P)(n:¬ NoNeg L):bH [RR cs ls] = .err "NoWorld":=by
 obtain⟨hw,e,i⟩:=R.Nv
 cases hw with
 | true=>exact absurd (i.mp rfl) n
 | false=>
  refine fA rfl ?_
  show dF [.va (RR cs ls)] =_
  unfold dF;exact(dA (dX (bx (aE rfl e)))).trans rfl
theorem Rd.odd (R:Rd cs ls L P){t:T}(ht:t.pl=true)(h:aX t 0 ((L.length:Int) - 1)=false):cp [RR cs ls,t] = .err "NoNumber":=by
 refine fA rfl ?_
 show cq [.va (RR cs ls),.va t,.em,.em,.em] =_
 unfold cq;rw[aw (bM (aE rfl R.bounds) rfl)];exact jf (se (aE (ar (ql L rfl) rfl) (AU ht h)))
theorem Rd.NW (R:Rd cs ls L P)(n:¬ NoNeg L){k:Nat}(hk:k<L.length):cp [RR cs ls,.int (k:Nat)] = .err "NoWorld":=by
 refine fA rfl ?_
 show cq [.va (RR cs ls),.va (.int (k:Nat)),.em,.em,.em] =_
 unfold cq;rw[aw (bM (aE rfl R.bounds) rfl)]
 have w1:aX (.int (k:Nat)) 0 ((L.length:Int) - 1)=true:=by unfold aX;simp;omega
 rw[aw (uF (aE (ar (ql L rfl) rfl) (wm rfl w1)))];exact jf (se (aE rfl (R.Ny n)))
abbrev jC (L:bS N2)(k:Nat):bS N2:=L.take k++L.drop (k+1)
theorem kj {k:Nat}:∀x∈jC L k,x∈L:=λx hx=>(OR.mp hx).elim Qn U8
theorem CW {k:Nat}{y:N2×N2×Int}(e:L[k]? =some y):∀x∈L,x=y\/x∈jC L k:=λx hx=>by
 obtain⟨hk,e⟩:=Oi.mp e
 have:L=L.take k++(y::L.drop (k+1)):=by rw[<-e,List.getElem_cons_drop,SN]
 rw[this]at hx;rcases OR.mp hx with h | h
 ·exact .inr (O8 _ h)
 ·rcases Og.mp h with h | h
  ·exact .inl h
  ·exact .inr (OK _ h)
theorem EG (ll:L.length<=60)(k:Nat):aV (.lst ((L.take k).map eB)) (.lst ((L.drop (k+1)).map eB))= .ok (eL (jC L k)):=by
 rw[oN _ _ (by rw[Om,Ob,Ob,Pq,QK];omega),<-PF];rfl
theorem Ie (he:∀x∈L,x.1∈P/\x.2.1∈P)(n:NoNeg L){k:Nat}{a b:N2}{m:Int}(e:L[k]? =some (a,b,m)):Ay P (jC L k)=Ay P L↔ ∃d,Wk (jC L k) a b d/\d<=m:=by
 have he':∀x∈jC L k,x.1∈P/\x.2.1∈P:=λx hx=>he x (kj x hx)
 have n':NoNeg (jC L k):=n.mono kj
 have F:=eO he n
 have F':=eO he' n'
 have mem:(a,b,m)∈L:=Py e
 have hab:=he _ mem
 constructor
 ·intro z
  have q:=(zd he' he n' n F' F).mp z a hab.1 b hab.2;obtain⟨d,e1,e2⟩:=F.le a hab.1 b m (Wk.one mem);rw[<-q]at e1;exact⟨d,F'.is a b d e1,e2⟩
 ·rintro ⟨d,w,hd⟩
  have G':Least L P (table P (jC L k)):=A1 F' (λx hx=>(he' x hx).1) (λx hx=>⟨(he x hx).1,by
   rcases CW e x hx with rfl | hx'
   ·obtain⟨d',e1,e2⟩:=F'.le a hab.1 b d w
    exact⟨d',e1,by show d'<=m;omega⟩
   ·exact F'.le x.1 (he x hx).1 x.2.1 x.2.2 (Wk.one hx')⟩) λx hx=>⟨x.2.2,Qa _,kj x hx⟩
  exact(zd he' he n' n F' G').mpr λu _ v _=>rfl
theorem Rd.ND (R:Rd cs ls L P)(n:NoNeg L){k:Nat}(hk:k<L.length):cp [RR cs ls,.int (k:Nat)] = .ok (.bl (AB P (jC L k) L)):=by
 obtain⟨⟨a,b,m⟩,e⟩:∃y,L[k]? =some y:=⟨_,Of hk⟩
 have ll:=R.ll
 have ha:a∈P:=(R.f.ends _ (Py e)).1
 have to:=Ie R.f.ends n e;obtain⟨r,hr,ok⟩:=qE (S:=[a]) (R.NS k) (by simp) (λv h=>by rw[OB.mp h];exact ha)
 cases r with
 | inr q=>exact absurd (n.mono kj) (Bar.neg ok)
 | inl bb=>
  obtain⟨ms,D,hr⟩:=hr
  have ok:Settled (jC L k) [a] bb:=ok;refine aZ rfl ?_
  show cq [.va (RR cs ls),.va (.int (k:Nat)),.em,.em,.em] =_
  unfold cq;rw[aw (bM (aE rfl R.bounds) rfl)]
  have w1:aX (.int (k:Nat)) 0 ((L.length:Int) - 1)=true:=by unfold aX;simp;omega
  rw[aw (uF (aE (ar (ql L rfl) rfl) (wm rfl w1)))];rw[aw (uF (aE rfl (R.Nm n)))];rw[aw (Z':=[.va (RR cs ls),.va (.int (k:Nat)),.va (eL L),.va (eB (a,b,m)),.em]) (bM (MC rfl rfl e) rfl)]
  have c1:sl (vr 2) pN (pS (vr 1)) [.va (RR cs ls),.va (.int (k:Nat)),.va (eL L),.va (eB (a,b,m)),.em] = .ok (.lst ((L.take k).map eB)):=by rw[wG rfl rfl (qw rfl),fH,S5]
  have c2:sl (vr 2) (pS (o2 aV (vr 1) (cn (.int 1)))) pN [.va (RR cs ls),.va (.int (k:Nat)),.va (eL L),.va (eB (a,b,m)),.em] = .ok (.lst ((L.drop (k+1)).map eB)):=by rw[wG (lo:=some ((k+1:Nat):Int)) rfl (qw (ay rfl rfl rfl)) rfl,mr,VJ]
  rw[aw (bM (ay (aE (ar (ay c1 c2 (EG ll k)) (ar (jR (ar (ay rfl rfl rfl) rfl) (aB (k:=1) (by simp))) rfl)) hr) rfl rfl) rfl)]
  have i1:o2 aU (vr 3) (cn (.int 1)) [.va (RR cs ls),.va (.int (k:Nat)),.va (eL L),.va (eB (a,b,m)),.va (.dct (ms.map en) (dV ms bb))] = .ok (en b):=ay rfl rfl rfl
  have fin:∀c:Bool,(c=true↔ ∃d,Wk (jC L k) a b d/\d<=m)->c=AB P (jC L k) L:=λc h=>Pe.mpr (h.trans (to.symm.trans smB_iff.symm))
  refine bB ?_
  cases eb:bb b with
  | none=>
   rw[<-fin false ⟨λz=>(by cases z),λ⟨d,w,_⟩=>by
    obtain⟨d',w',e',_⟩:=ok.least a (by simp) b d w
    rw[eb]at e';cases e'⟩]
   exact l9 (ay i1 rfl (by rw[yL D b,eb];rfl))
  | some y=>
   obtain⟨d',w⟩:=y;rw[<-fin (decide (d'<=m)) ⟨λz=> ?_,λ⟨d,w2,hd⟩=>decide_eq_true ?_⟩]
   ·exact(jg (ay i1 rfl (by rw[yL D b,eb];rfl))).trans (ay (ay (ay rfl i1 (yJ D eb)) rfl rfl) (ay rfl rfl rfl) rfl)
   ·obtain⟨s,hs,hc,hcost,_⟩:=ok.walk b d' w eb
    rw[OB.mp hs]at hc;exact⟨d',by rw[<-hcost];exact hc.wk,of_decide_eq_true z⟩
   ·obtain⟨d2,w',e',h2⟩:=ok.least a (by simp) b d w2
    rw[eb]at e';cases e';omega
end
def vN (P:List N2)(cs:List T):Nat->List T->List T
 | 0,cur=>cur
 | m+1,cur=>vN P cs m (if ly P cs cur m=true then cur.eraseIdx m else cur)
structure Ri (P:List N2)(cs ls:List T)(m:Nat)(cur:List T):Prop where
 sub:∀u∈cur,u∈ls
 len:cur.length<=ls.length
 ge:m<=cur.length
 same:key P cs cur=key P cs ls
 fin:vN P cs m cur=vN P cs ls.length ls
section
variable {cs ls:List T}{L M:bS N2}{P:List N2}{f g:dE N2}
theorem Ri.start:Ri P cs ls ls.length ls:=⟨λ_ h=>h,Ot _,Ot _,rfl,rfl⟩
theorem Ri.next {m:Nat}{cur:List T}(I:Ri P cs ls (m+1) cur):Ri P cs ls m (if ly P cs cur m=true then cur.eraseIdx m else cur):=by
 have hf:vN P cs m (if ly P cs cur m=true then cur.eraseIdx m else cur)=vN P cs ls.length ls:=I.fin
 have hg:=I.ge
 cases q:ly P cs cur m with
 | true=>
  rw[q]at hf;rw[if_pos rfl]at hf ⊢
  exact⟨λu hu=>I.sub u (uK u hu),OI (yG m) I.len,by rw[List.length_eraseIdx];split <;> omega,(ndl_iff.mp q).trans I.same,hf⟩
 | false=>
  rw[q]at hf;rw[if_neg (by decide)]at hf ⊢
  exact⟨I.sub,I.len,by omega,I.same,hf⟩
theorem Rd.Nq (R:Rd cs ls L P){m:Nat}{cur:List T}(I:Ri P cs ls (m+1) cur):ck [RR cs (cur.eraseIdx m),RR cs ls] = .ok (.bl (ly P cs cur m)):=by
 have h8:=R.g.n
 have hl:=I.len
 have S:=R.sub I.sub (by omega)
 obtain⟨b,e,i⟩:=R.NI (S.ger m) R.g;rw[e]
 congr 2
 exact Pe.mpr (i.trans (Iff.trans (by rw[I.same]) ndl_iff.symm))
theorem Ai {n i:Nat}{t:T}(ht:((On n).map λ(k:Nat)=>T.int ((n:Int) - 1 - (k:Int)))[i]? =some t):∃m,n - i=m+1/\n - (i+1)=m/\t=nI m:=by
 have hi:i<n:=by have:=(Oi.mp ht).1;simpa using this
 rw[Ov,Qs hi]at ht
 refine⟨n - i - 1,by omega,by omega,?_⟩
 rw[<-OP ht]
 show T.int _=T.int _
 congr 1
 omega
theorem Rd.Nr (R:Rd cs ls L P)(n:NoNeg L):b9 [RR cs ls] = .ok (RR cs (vN P cs ls.length ls)):=by
 refine aZ rfl ?_
 show dG [.va (RR cs ls),.em,.em,.em] =_
 unfold dG;rw[aw (uF (aE rfl (R.Nm n)))];rw[aw (bM rfl rfl)]
 have h8:=R.g.n
 have hr:Mh (ae (o2 fM (cl cz (ae (o2 aU (vr 0) (cn (.int 1))) aj)) (cn (.int 1))) (ae (o1 kP (cn (.int 1))) (ae (o1 kP (cn (.int 1))) aj))) [.va (RR cs ls),.va (RR cs ls),.em,.em] = .ok ((On ls.length).map λ(k:Nat)=>T.int ((ls.length:Int) - 1 - (k:Int))):=by
  unfold Mh;rw[ar (ay (ox (ay rfl rfl (gq rfl))) rfl rfl) (ar (t:=.int (-1)) (Gs (t:=.int 1) rfl rfl) (ar (t:=.int (-1)) (Gs (t:=.int 1) rfl rfl) rfl)),aH]
  show(if (mf ((ls.length:Int) - 1)&&mf (-1))=true then Rs.ok ((On ((ls.length:Int) - 1 - -1).toNat).map λ(k:Nat)=>T.int ((ls.length:Int) - 1 - (k:Int)))else .bad)=_
  have e62:mf ((ls.length:Int) - 1)=true:=by unfold mf;rw[N9];exact⟨decide_eq_true (by omega),decide_eq_true (by omega)⟩
  rw[if_pos (by rw[e62];rfl),show((ls.length:Int) - 1 - -1).toNat=ls.length by omega]
 refine uE (λi Z=> ∃cur s2 s3,Ri P cs ls (ls.length - i) cur/\Z= [.va (RR cs ls),.va (RR cs cur),s2,s3]) hr ?_ ⟨ls,_,_,Ri.start,rfl⟩ ?_
 ·intro i t ht Z hh
  obtain⟨cur,s2,s3,I,rfl⟩:=hh;obtain⟨m,e1,e2,rfl⟩:=Ai ht;rw[e1]at I;rw[e2]
  have hc:cur.length<=8:=by have:=I.len;omega
  have st:=Ei hc m (f:=vr 1) (g:=vr 2) (Z:=[.va (RR cs ls),.va (RR cs cur),.va (nI m),s3]) rfl rfl (cl bL (ae (vr 1) aj)) (aE rfl (Ah hc))
  have es:=R.Nq I
  have nx:=I.next;refine⟨_,[.va (RR cs ls),.va (RR cs (if ly P cs cur m=true then cur.eraseIdx m else cur)),.va (nI m),.va (RR cs (cur.eraseIdx m))],rfl,?_,_,_,_,nx,rfl⟩
  refine(aw (bM st rfl)).trans ?_
  cases q:ly P cs cur m with
  | true=>
   rw[q]at es
   exact(dA (bx (aE rfl es))).trans rfl
  | false=>
   rw[q]at es;exact(dt (bx (aE rfl es))).trans rfl
 ·intro Z hh
  obtain⟨cur,s2,s3,I,rfl⟩:=hh;rw[Ob,OU,SJ]at I;rw[<-I.fin];exact bB rfl
end
theorem HB:∀(l:List (List Int)) (b:List Int),gC b l∈b::l/\∀x∈b::l,cO x (gC b l)=false
 | [],b=>⟨Oe,λx h=>by rw[OB.mp h];exact iV b⟩
 | k::l,b=>by
  unfold gC;obtain⟨h1,h2⟩:=HB l (if cO k b=true then k else b)
  have h3:=h2 _ Oe
  cases q:cO k b with
  | true=>
   rw[q,if_pos rfl]at h1 h2 h3;rw[if_pos rfl];refine⟨N8 _ h1,λx hx=> ?_⟩
   obtain rfl | hx:=Og.mp hx
   ·cases z:cO x (gC k l)with
    | false=>rfl
    | true=>rw[l5 _ _ _ q z]at h3;cases h3
   ·exact h2 x hx
  | false=>
   rw[q,if_neg (by decide)]at h1 h2 h3
   rw[if_neg (by decide)]
   refine⟨(Og.mp h1).elim (λh=>by rw[h];exact Oe) λh=>N8 _ (N8 _ h),λx hx=> ?_⟩
   obtain rfl | hx:=Og.mp hx
   ·exact h3
   ·obtain rfl | hx:=Og.mp hx
    ·cases z:cO x (gC b l)with
     | false=>rfl
     | true=>
      rcases qk x b _ z with y | y
      ·rw[y]at q;cases q
      ·rw[y]at h3;cases h3
    ·exact h2 x (N8 _ hx)
theorem JI {l:List T}{rs:List (List Int)}{x:List Int}(e:jN l=some rs)(hx:x∈rs)(h:∀a∈rs,cO a x=false):wu [.lst l] = .ok (.lst (x.map .int)):=by
 show(match jN l with | some (k::ks)=>Rs.ok (T.lst ((gC k ks).map .int)) | _=> .bad)=_
 rw[e]
 cases rs with
 | nil=>cases hx
 | cons k ks=>
  obtain⟨h1,h2⟩:=HB ks k
  show Rs.ok (T.lst ((gC k ks).map .int))=_
  rw[jP _ _ (h _ h1) (h2 _ hx)]
theorem HC:∀(l:List Int) (i:Int),mY i l∈i::l/\∀a∈i::l,a<=mY i l
 | [],i=>⟨Oe,λa h=>by cases OB.mp h;exact Qa _⟩
 | j::l,i=>by
  unfold mY;obtain⟨h1,h2⟩:=HC l (if i<j then j else i)
  have h3:=h2 _ Oe
  by_cases h:i<j
  ·rw[if_pos h]at h1 h2 h3 ⊢
   refine⟨N8 _ h1,λa ha=> ?_⟩
   obtain rfl | ha:=Og.mp ha
   ·omega
   ·exact h2 a ha
  ·rw[if_neg h]at h1 h2 h3 ⊢
   refine⟨(Og.mp h1).elim (λh=>by rw[h];exact Oe) λh=>N8 _ (N8 _ h),λa ha=> ?_⟩
   obtain rfl | ha:=Og.mp ha
   ·exact h3
   ·obtain rfl | ha:=Og.mp ha
    ·omega
    ·exact h2 a (N8 _ ha)
theorem JK {l:List T}{ns:List Int}{x:Int}(e:gj l=some ns)(hx:x∈ns)(h:∀a∈ns,a<=x):Df [.lst l] = .ok (.int x):=by
 show(match gj l with | some (i::ns)=>Rs.ok (T.int (mY i ns)) | _=> .bad)=_
 rw[e]
 cases ns with
 | nil=>cases hx
 | cons i ns=>
  obtain⟨h1,h2⟩:=HC ns i
  show Rs.ok (T.int (mY i ns))=_
  have a1:=h _ h1
  have a2:=h2 _ hx;rw[show mY i ns=x by omega]
theorem tJ:∀n≤4,∀l,l∈gw n↔l∈fN n:=by
 intro n hn l
 have k1:∀n≤4,((gw n).all λl=>decide (l∈fN n))=true:=by decide
 have k2:∀n≤4,((fN n).all λl=>decide (l∈gw n))=true:=by decide
 exact⟨λh=>of_decide_eq_true (OG.mp (k1 n hn) l h),λh=>of_decide_eq_true (OG.mp (k2 n hn) l h)⟩
theorem Ip:∀n≤4,(fN n).Pairwise λa b=>nM (HK a) (HK b)=true:=by decide
theorem JQ {a b:List Nat}(h:nM (HK a) (HK b)=true):b.length<=a.length/\(b.length=a.length->cO (b.map λk:Nat=>(k:Int)) (a.map λk:Nat=>(k:Int))=false):=by
 unfold nM HK BI at h;rw[TV,cO]at h;rw[Ob,Ob]at h
 by_cases e:(-(b.length:Int))= -(a.length:Int)
 ·rw[if_pos e]at h
  exact⟨by omega,λ_=>h⟩
 ·rw[if_neg e]at h
  have:=of_decide_eq_false h;exact⟨by omega,λz=>by omega⟩
def lenV:T->T
 | .lst l=> .int (l.length:Nat)
 | t=>t
def Mj (k:Nat):T->Bool
 | .lst l=>(l.length:Int) == (k:Int)
 | _=>false
section
variable {n:Nat}{p:List Nat->Bool}{j:Nat}{l:List Nat}
theorem z9 (hn:n<=4)(hj:(fN n)[j]? =some l)(hf:∀i<j,∀m,(fN n)[i]? =some m->p m=false){m:List Nat}(hm:m∈(gw n).filter p):m.length<=l.length/\(m.length=l.length->cO (m.map λk:Nat=>(k:Int)) (l.map λk:Nat=>(k:Int))=false):=by
 obtain⟨h1,h2⟩:=PL.mp hm;obtain⟨i,hi⟩:=S1 ((tJ n hn m).mp h1)
 by_cases q:i<j
 ·rw[hf i q m hi]at h2;cases h2
 ·by_cases e:i=j
  ·subst e
   rw[hj]at hi;cases hi;exact⟨Ot _,λ_=>iV _⟩
  ·refine JQ ?_
   obtain⟨a1,a2⟩:=Oi.mp hj
   obtain⟨b1,b2⟩:=Oi.mp hi
   have:=RV.mp (Ip n hn) j i a1 b1 (by omega)
   rwa [a2,b2]at this
theorem Aa (hn:n<=4)(hj:(fN n)[j]? =some l)(ht:p l=true):l∈(gw n).filter p:=PL.mpr ⟨(tJ n hn l).mpr (Py hj),ht⟩
theorem DW (hn:n<=4)(hj:(fN n)[j]? =some l)(ht:p l=true)(hf:∀i<j,∀m,(fN n)[i]? =some m->p m=false):Df [.lst (((gw n).filter p).map λm=>T.int (m.length:Nat))] = .ok (nI l.length):=by
 refine JK (ns:=((gw n).filter p).map λm=>(m.length:Int)) ?_ (Oq.mpr ⟨l,Aa hn hj ht,rfl⟩) λa ha=> ?_
 ·have:=kl (λk=>(k:Int)) (((gw n).filter p).map PB)
  rwa [OM,OM]at this
 ·obtain⟨m,hm,rfl⟩:=Oq.mp ha
  have:=(z9 hn hj hf hm).1;omega
theorem DV (hn:n<=4)(hj:(fN n)[j]? =some l)(ht:p l=true)(hf:∀i<j,∀m,(fN n)[i]? =some m->p m=false):wu [.lst ((((gw n).filter p).map lN).filter (Mj l.length))] = .ok (lN l):=by
 rw[Sj];rw[<-Dw l];refine JI (uw _) (Oq.mpr ⟨l,PL.mpr ⟨Aa hn hj ht,?_⟩,rfl⟩) λa ha=> ?_
 ·show(((l.map nI).length:Int) == (l.length:Int))=true
  rw[Ob];exact beq_self_eq_true _
 ·obtain⟨m,hm,rfl⟩:=Oq.mp ha
  obtain⟨h1,h2⟩:=PL.mp hm
  have h2:(((m.map nI).length:Int) == (l.length:Int))=true:=h2;rw[Ob]at h2;exact(z9 hn hj hf h1).2 (by have:=eq_of_beq h2;omega)
end
theorem Mf (a:List Nat)(gs:List (List Nat)):sg (lN a) (.lst (gs.map lN))= .ok (.bl (decide (a∈gs))):=by
 show(if _ then _ else _)=_
 have h1:(T.lst (gs.map lN)).nd=true:=by
  unfold T.nd;exact lx λt ht=>by obtain⟨m,_,rfl⟩:=Oq.mp ht;exact T.KB _ (rQ m)
 rw[if_pos ⟨.inl (uN a),T.KB _ (rQ a),h1⟩]
 congr 2
 show((gs.map lN).any λy=>aS y (lN a))=_
 rw[List.any_map];refine Pe.mpr ?_
 rw[Rw,decide_eq_true_iff]
 constructor
 ·rintro ⟨m,hm,e⟩
  have e:beqTs (m.map nI) (a.map nI)=true:=e;rw[uT]at e;rw[<-of_decide_eq_true e];exact hm
 ·intro h
  refine⟨a,h,?_⟩
  show beqTs (a.map nI) (a.map nI)=true
  rw[uT];exact decide_eq_true rfl
theorem Me (k:Nat)(l:List Nat):sg (nI k) (lN l)= .ok (.bl (decide (k∈l))):=by
 show(if _ then _ else _)=_
 rw[if_pos ⟨.inl (by simp[nI,T.dep]),rfl,T.KB _ (rQ l)⟩]
 congr 2
 show((l.map nI).any λy=>aS y (nI k))=_
 rw[List.any_map];refine Pe.mpr ?_
 rw[Rw,decide_eq_true_iff]
 constructor
 ·rintro ⟨m,hm,e⟩
  have e:aS (nI m) (nI k)=true:=e;rw[yQ]at e;rw[<-of_decide_eq_true e];exact hm
 ·intro h
  refine⟨k,h,?_⟩
  show aS (nI k) (nI k)=true
  rw[yQ];exact decide_eq_true rfl
def cK:List T:=[.tup [.int 1,.int 1,.tup [.int 0,.int 1]],.tup [.int 1,.int 1,.tup [.int 0]]]
def yx:T:=.tup [en ⟨1,0⟩,en ⟨0,0⟩,.int 1,.non]
def Gp:T:=.tup [en ⟨1,0⟩,en ⟨0,1⟩,.int 2,.non]
def PK:List N2:=[⟨0,0⟩,⟨0,1⟩,⟨1,0⟩]
def LK:bS N2:=[(⟨0,0⟩,⟨0,1⟩,1),(⟨0,1⟩,⟨0,0⟩,-1),(⟨0,0⟩,⟨1,0⟩,-1),(⟨0,1⟩,⟨1,0⟩,-2)]
theorem rdK:Rd cK [yx,Gp] LK PK:=⟨⟨rfl,λt ht=>by
 simp only[Og,Pd,or_false]at ht;rcases ht with rfl | rfl <;> rfl,by decide,rfl⟩,rfl,rfl,⟨by decide,by decide,by decide,by decide⟩,by decide,by decide,by decide,by unfold big;decide⟩
theorem noK:NoNeg LK:=Holds.Nx (t:=λv=>v.k - v.c) λa b k hx=>by
 unfold LK at hx;simp only[Og,Pd,or_false,Vt]at hx;rcases hx with⟨rfl,rfl,rfl⟩ | ⟨rfl,rfl,rfl⟩ | ⟨rfl,rfl,rfl⟩ | ⟨rfl,rfl,rfl⟩ <;> simp
def tK (ms:List T):List (Option Int):=PK.flatMap λu=>PK.map (table PK (lim cK ms) u)
theorem L1 {ms:List T}(h:∀x∈lim cK ms,x∈LK):key PK cK ms=some (tK ms):=oR (noK.mono h)
theorem ndK {ms:List T}{j:Nat}(h:∀x∈lim cK ms,x∈LK)(h2:∀x∈lim cK (ms.eraseIdx j),x∈LK):ly PK cK ms j=decide (tK (ms.eraseIdx j)=tK ms):=by
 refine Pe.mpr (ndl_iff.trans ?_)
 rw[L1 h,L1 h2,Sw,decide_eq_true_iff]
theorem nd0:ly PK cK [yx,Gp] 0=true:=(ndK (by decide) (by decide)).trans (by decide)
theorem nd1:ly PK cK [yx,Gp] 1=true:=(ndK (by decide) (by decide)).trans (by decide)
theorem nd2:ly PK cK [yx] 0=false:=(ndK (by decide) (by decide)).trans (by decide)
theorem LP:bA [RR cK [yx,Gp]] = .ok (.lst [.int 0,.int 1]):=by
 rw[rdK.Nf noK]
 have:(On [yx,Gp].length).filter (ly PK cK [yx,Gp])= [0,1]:=by
  show([0,1]:List Nat).filter _=_
  rw[Si nd0,Si nd1];rfl
 rw[this];rfl
theorem JP:b9 [RR cK [yx,Gp]] = .ok (RR cK [yx]):=by
 rw[rdK.Nr noK]
 show Rs.ok (RR cK (vN PK cK 1 (if ly PK cK [yx,Gp] 1=true then [yx]else [yx,Gp])))=_
 rw[nd1,if_pos rfl]
 show Rs.ok (RR cK (if ly PK cK [yx] 0=true then []else [yx]))=_
 rw[nd2];rfl
theorem GN:dw [] = .ok (.bl true):=by
 refine aZ rfl ?_
 show fY [.em] =_
 unfold fY;refine(aw (bM rfl rfl)).trans (bB ((jg (ay (aE rfl (mH (i:=0) (by omega) rfl LP)) rfl (mm rfl (by simp[T.dep,deps])))).trans (ay (aE rfl (mH (i:=1) (by omega) rfl JP)) ?_ (mm rfl (by simp[T.dep,deps,cK,yx,en])))))
 exact p2 rfl ((wH (hi:=some ((1:Nat):Int)) rfl rfl rfl).trans (by rw[fH];rfl))
theorem oM {n:Nat}{l:List T}(h:∀t∈l,t.dep<=n):(T.tup l).dep<=n+1:=by unfold T.dep;have:=gd h;omega
theorem Bu {c:T}(h:bJ c=true):c.dep<=2:=by
 obtain⟨x,y,r,rfl,_⟩:=dZ h;refine oM λt ht=> ?_
 simp only[Og,Pd,or_false]at ht;rcases ht with rfl | rfl | rfl
 ·simp[T.dep]
 ·simp[T.dep]
 ·exact oM λt ht=>by obtain⟨i,_,rfl⟩:=Oq.mp ht;simp[T.dep]
theorem yv {cs:List T}{t:T}(h:bN cs t=true):t.dep<=2:=by
 obtain⟨a,b,x,y,rfl,hd,ha,hb,_⟩:=ez h;obtain⟨m1,m2⟩:=LS h
 have:=(HN ha).2
 have:=(HN hb).2
 have hx:x.dep<=2:=by
  unfold eZ at hd;rw[N9]at hd;obtain⟨i,rfl,_⟩:=dq hd.1;simp[T.dep]
 unfold T.dep deps deps deps deps deps;obtain⟨a',b',mo,le,e,_⟩:=jQ h;cases e;simp only[T.dep];omega
theorem Fw {cs ls:List T}(g:Good cs ls):(T.tup cs).dep<=3/\(T.tup ls).dep<=3:=⟨oM λt ht=>Bu ((cj g.c).1 t ht),oM λt ht=>yv (g.l t ht)⟩
def unL:T->List Nat
 | .lst l=>l.map jU
 | _=> []
theorem BV (l:List Nat):unL (lN l)=l:=by
 show(l.map nI).map jU=l
 rw[OM,show(jU∘nI)=id from funext eQ,RG]
abbrev Ew (ns:List Int)(a1 a2 a3 a4 a5 a6 a7 a8 a9 a10 a11 a12:Sl):En:=[.va (.scr ns),a1,a2,a3,a4,a5,a6,a7,a8,a9,a10,a11,a12]
theorem Fp {n:Nat}(hn:n<=4){l:List Nat}(h:l∈gw n):(∀k∈l,k<n)/\l.length<=n:=(zf n hn l ((tJ n hn l).mp h)).2
theorem K9 {n i:Nat}(hn:n<=4)(hi:i<n):rm n i∈gw n:=by
 have key:∀n≤4,∀i<n,rm n i∈gw n:=by decide
 exact key n hn i hi
theorem Ck (n:Nat):((On n).map nI).reverse=(On n).map λ(k:Nat)=>T.int ((n:Int) - 1 - (k:Int)):=by
 refine R1 (by simp) λi h1 h2=> ?_
 have hi:i<n:=by simpa using h2
 simp only[U4,Rv,Tz,Ob,OU,nI]
 congr 1
 omega
theorem GC {n:Nat}{f:En->Rs T}{Z:En}(h:f Z= .ok (nI n))(hn:n<=1000):iR (ae f aj) Z= .ok ((On n).map nI):=(HL (ar h rfl) (by omega) (by omega)).trans (by rw[i7];rfl)
theorem MB {n i:Nat}{t:T}(ht:((On n).map nI)[i]? =some t):i<n/\t=nI i:=by
 have hi:i<n:=by have:=(Oi.mp ht).1;simpa using this
 rw[Ov,Qs hi]at ht
 exact⟨hi,(OP ht).symm⟩
theorem GD (p:List Nat->Bool):∀gs:List (List Nat),((gs.map lN).filter λt=>p (unL t)).map id=(gs.filter p).map lN:=λgs=>by
 rw[RG,Sj]
 congr 1
 exact TX λl _=>by show p (unL (lN l))=p l;rw[BV]
section
variable {cs ls:List T}{L M:bS N2}{P:List N2}{ns:List Int}
theorem Rd.good (R:Rd cs ls L P)(h4:ls.length<=4){Z:En}(h5:vr 5 Z= .ok (nI ls.length))(hE:∀s,(bU [none,some 1] Z).set 0 s= [s,.va (RR cs ls)]):d6 (iS (cl gn (ae (vr 5) aj))) [none,some 1] (gN 0) (tb (cl gX (ae (vr 1) (ae (vr 0) aj)))) (vr 0) Z= .ok (.lst (((gw ls.length).filter (nn cs ls)).map lN)):=by
 rw[<-GD];refine l7 (iq (aE (ar h5 rfl) (GL _ h4))) (aB (k:=63) (by rw[Ob];have:=pj ls.length h4;omega)) (by simp) λt ht=> ?_
 obtain⟨l,hl,rfl⟩:=Oq.mp ht;obtain⟨h1,h2⟩:=Fp h4 hl;rw[hE,BV];exact⟨bx (aE rfl (R.NZ h1 (by omega))),λ_=>rfl⟩
theorem lens {gs:List (List Nat)}(hg:gs.length<=63){Z:En}(h6:vr 6 Z= .ok (.lst (gs.map lN)))(hE:∀s,(bU [none] Z).set 0 s= [s]):d6 (iS (vr 6)) [none] (gN 0) bT (cl cz (ae (vr 0) aj)) Z= .ok (.lst (gs.map λm=>T.int (m.length:Nat))):=by
 refine(m6 (h:=lenV) (iq h6) (aB (by rw[Ob];exact hg)) (by simp) λt ht=> ?_).trans ?_
 ·obtain⟨l,hl,rfl⟩:=Oq.mp ht
  rw[hE];exact aE rfl rfl
 ·rw[OM]
  congr 2
  exact ON λl _=>by show T.int ((l.map nI).length:Nat)=_;rw[Ob]
theorem LU {gs:List (List Nat)}{k:Nat}(hg:gs.length<=63){Z:En}(h6:vr 6 Z= .ok (.lst (gs.map lN)))(hE:∀s,(bU [none,some 7] Z).set 0 s= [s,.va (nI k)]):d6 (iS (vr 6)) [none,some 7] (gN 0) (tb (o2 n9 (cl cz (ae (vr 0) aj)) (vr 1))) (vr 0) Z= .ok (.lst ((gs.map lN).filter (Mj k))):=by
 refine(l7 (iq h6) (aB (by rw[Ob];exact hg)) (by simp) λt ht=> ?_).trans (by rw[RG])
 obtain⟨l,hl,rfl⟩:=Oq.mp ht;rw[hE];exact⟨bx (ay (aE rfl rfl) rfl (Eb _ _)),λ_=>rfl⟩
theorem MD {n:Nat}{gs:List (List Nat)}(hn:n<=4){Z:En}(h5:vr 5 Z= .ok (nI n))(hE:∀s,(bU [none,some 5,some 6] Z).set 0 s= [s,.va (nI n),.va (.lst (gs.map lN))]):d6 (iR (ae (vr 5) aj)) [none,some 5,some 6] (gN 0) (tb (o2 sg (d6 (iR (ae (vr 1) aj)) [none,some 0] (gN 0) (tb (o2 qe (vr 0) (vr 1))) (vr 0)) (vr 2))) (vr 0) Z= .ok (lN ((On n).filter λi=>decide (rm n i∈gs))):=by
 show _=Rs.ok (T.lst (((On n).filter λi=>decide (rm n i∈gs)).map nI))
 rw[<-iY];refine l7 (GC h5 (by omega)) (aB (by simpa using hn)) (by simp) λt ht=> ?_
 obtain⟨k,hk,rfl⟩:=Oq.mp ht;rw[hE,eQ];refine⟨bx (ay ?_ rfl (Mf _ _)),λ_=>rfl⟩
 show _=Rs.ok (T.lst (((On n).filter λi=>i != k).map nI))
 rw[<-iY];refine l7 (GC rfl (by omega)) (aB (by simpa using hn)) (by simp) λt ht=> ?_
 obtain⟨i,hi,rfl⟩:=Oq.mp ht;rw[eQ];exact⟨bx (ay rfl rfl (Hy _ _)),λ_=>rfl⟩
theorem LQ (h:L≠ []):qe (eL L) (.lst [])= .ok (.bl true):=by
 obtain⟨x,l,rfl⟩:=List.exists_cons_of_ne_nil h;unfold qe;rw[if_pos (wQ (by simp[T.dep,deps]) (by unfold eL T.nd;exact lx λt ht=>by obtain⟨y,_,rfl⟩:=Oq.mp ht;rfl) rfl)]
 rfl
theorem rec1 (cs ls:List T):gu (.tup [.tup cs])=false:=rfl
theorem ref5 {cs:List T}(hc:(T.tup cs).pl=true){o:T}{Z:En}(hE:∀s,(bU [none,some 1,some 9] Z).set 0 s= [s,.va (RR cs ls),.va o]):d6 (iR (ae (cn (.int 5)) aj)) [none,some 1,some 9] (gN 0) bT (cl aY (ae (vr 0) (ae (sl (vr 1) pN (pS (cn (.int 1)))) (ae (vr 2) aj)))) Z= .ok (.lst [cM 0,cM 0,cM 0,cM 0,cM 0]):=by
 refine(m6 (ts:=(On 5).map nI) (h:=λ_=>cM 0) (GC rfl (by omega)) (aB (k:=5) (by simp)) (by simp) λt ht=> ?_).trans rfl
 obtain⟨k,hk,rfl⟩:=Oq.mp ht
 have hk:=OY.mp hk;rw[hE]
 have hp:(T.tup [.tup cs]).pl=true:=by rw[gQ];exact gx λt ht=>by rw[OB.mp ht];exact hc
 have hr:gu (.tup [.tup cs])=false:=rec1 cs [];refine aE (ts:=[nI k,.tup [.tup cs],o]) (ar rfl (ar ((wH (hi:=some ((1:Nat):Int)) rfl rfl rfl).trans (by rw[fH];rfl)) rfl)) ?_
 match k,hk with
 | 0,_=>exact mI (by omega) rfl (EB (sP hp hr)).1 r0
 | 1,_=>exact mI (by omega) rfl (EB (sP hp hr)).2 r0
 | 2,_=>exact mI (by omega) rfl (MA hp hr) r0
 | 3,_=>exact mI (by omega) rfl (Mz hp hr) r0
 | 4,_=>exact sX (My hp hr) r0
theorem JG (k:Nat)(hk:k<=5)(j:Nat):cu (.lst [cM j]) (.int (k:Nat))= .ok (.lst (OJ k (cM j))):=by
 rw[uu _ _ ⟨by omega,by omega,by rw[PC];exact aB (by simpa using hk)⟩,PC]
 congr 2
 induction k with
 | zero=>rfl
 | succ k ih=>rw[P9,QQ,ih (by omega)];rfl
end
section
variable {ns:List Int}
theorem Io (hn:ns.length<=63):fZ [.scr ns] = .ok (.bl true):=by
 obtain⟨ds,ms,er,hc,c3,hs,hl,h6⟩:=Kk ns hn 0 6 (by omega)
 obtain⟨hR,mR⟩:=IB hc hs hl (by omega)
 have g0:Good ds ms:=⟨hc,λt ht=>(hl t ht).1,by omega,Iw mR⟩
 have g1:=xO g0
 have esm:=GJ g0
 generalize oh ds=cs at g1 esm
 generalize hk:ls2 ds ms=ks at g1 esm
 obtain⟨ls,hls⟩:∃ls,ls=ks.take 4:=⟨_,rfl⟩
 have g:Good cs ls:=by rw[hls];exact g1.take 4
 have h4:ls.length<=4:=by rw[hls,Pq];omega
 obtain⟨L,P,R⟩:=rP g
 have ll:=R.ll;obtain⟨j,l,a1,a2,a3,a4⟩:=R.kept h4
 have n63:((gw ls.length).filter (nn cs ls)).length<=63:=by have:=Q8 (nn cs ls) (gw ls.length);have:=pj ls.length h4;omega
 have nnw:nn cs ls (On ls.length)=true↔NoNeg L:=by rw[nn_iff,vP,R.M7]
 have al:((On ls.length).filter λi=>decide (rm ls.length i∈(gw ls.length).filter (nn cs ls)))=(On ls.length).filter λi=>nn cs ls (rm ls.length i):=TX λi hi=>by
  refine Pe.mpr ?_
  rw[decide_eq_true_iff,PL];exact⟨λh=>h.2,λh=>⟨K9 h4 (OY.mp hi),h⟩⟩
 obtain⟨r,ed,d0,d1⟩:=eC ns 80 5 hn (by omega)
 obtain⟨o,ho,eo⟩:=F0 (l:=[.int (-1),.int (L.length:Nat),.bl true,.non,.str "0"]) d0 (by simpa using d1)
 have oo:o.pl=true/\aX o 0 ((L.length:Int) - 1)=false:=by
  simp only[Og,Pd,or_false]at ho;rcases ho with rfl | rfl | rfl | rfl | rfl
  ·exact⟨rfl,by unfold aX;simp⟩
  ·exact⟨rfl,by unfold aX;simp;omega⟩
  ·exact⟨rfl,rfl⟩
  ·exact⟨rfl,rfl⟩
  ·exact⟨rfl,rfl⟩
 obtain⟨b,_,en0,ib⟩:=wa P L;refine aZ rfl ?_
 show iH (Ew ns .em .em .em .em .em .em .em .em .em .em .em .em)=_
 unfold iH;refine(aw (bM (aE (ts:=[RR ds ms]) (ar (aE (ts:=[.scr ns,.int 0,.int 6]) rfl er) rfl) esm) rfl)).trans ?_
 refine(aw (bM (p2 (ay (t:=RR cs ks) (u:=.int 0) rfl rfl (gq (n:=0) rfl)) ((wH (l:=ks) (lo:=none) (hi:=some ((4:Nat):Int)) (ay (t:=RR cs ks) (u:=.int 1) rfl rfl (gq (n:=1) rfl)) rfl (qw rfl)).trans (by rw[fH,<-hls]))) rfl)).trans ?_
 refine(aw (bM (aE (ts:=[.tup cs]) (ar (ay (t:=RR cs ls) (u:=.int 0) rfl rfl (gq (n:=0) rfl)) rfl) R.Nb) rfl)).trans ?_
 refine(aw (bM (aE (ts:=[RR cs ls]) rfl R.M9) rfl)).trans ?_
 refine(aw (bM (aE (ts:=[eS P,eL L]) rfl R.ltab) rfl)).trans ?_
 refine(aw (bM (ox (l:=ls) (ay (t:=RR cs ls) (u:=.int 1) rfl rfl (gq (n:=1) rfl))) rfl)).trans ?_
 refine(aw (bM (R.good h4 rfl λs=>rfl) rfl)).trans ?_
 have gmax:=DW h4 a1 a2 a3
 have gmin:=DV h4 a1 a2 a3
 generalize hgs:(gw ls.length).filter (nn cs ls)=gs at gmax gmin n63 al ⊢
 refine(aw (bM (aE (ar (lens n63 rfl λs=>rfl) rfl) gmax) rfl)).trans ?_
 refine(aw ((dt (bx (ay (t:=lN l) (u:=lN l) (aE (ts:=[.int 2,RR cs ls,.non]) rfl (mH (i:=2) (by omega) rfl a4)) (aE (ar (LU (k:=l.length) n63 rfl λs=>rfl) rfl) gmin) (ko (rQ l) (uN l))))).trans rfl)).trans ?_
 refine(aw (bM ((MD h4 rfl λs=>rfl).trans (by rw[al])) rfl)).trans ?_
 have e10:∀{Z:En},vr 4 Z= .ok (qU P L)->vr 8 Z= .ok (lN ((On ls.length).filter λi=>nn cs ls (rm ls.length i)))->DS (tb (o2 jh (vr 4) (cn .non))) (vr 8) (dz aj) Z= .ok (lN (told cs ls)):=λ{Z} q4 q8=>by
  refine(wJ (p:=!b) (bx (ay (t:=qU P L) (u:=.non) q4 rfl en0))).trans ?_
  unfold told
  cases b with
  | true=>rw[if_neg (by decide),if_pos (nnw.mpr (ib.mp rfl))];rfl
  | false=>rw[if_pos (by decide),q8,if_neg λz=>by have:=ib.mpr (nnw.mp z);cases this]
 refine(aw ((dt (bx (ay (t:=lN (told cs ls)) (u:=lN (told cs ls)) (aE (ts:=[.int 3,RR cs ls,.non]) rfl (mH (i:=3) (by omega) rfl (R.N0 h4))) (e10 rfl rfl) (ko (rQ _) (uN _))))).trans rfl)).trans ?_
 clear e10 al gmax gmin
 generalize lN ((On ls.length).filter λi=>nn cs ls (rm ls.length i))=A8
 refine(aw (bM (ay (t:=.lst [.int (-1),.int (L.length:Nat),.bl true,.non,.str "0"]) (u:=.int r) (jR (ar rfl (ar (ql L rfl) rfl)) (aB (k:=5) (by simp))) (aE (ts:=[.scr ns,.int 80,.int 5]) rfl ed) eo) rfl)).trans ?_
 refine(aw ((dt (bx (ay (t:=cM 2) (u:=cM 2) (aE (ts:=[.int 4,RR cs ls,o]) rfl (sX (R.odd oo.1 oo.2) r2)) rfl (Ge 2)))).trans rfl)).trans ?_
 refine(aw ((dt (bx (ay (t:=.lst [cM 0,cM 0,cM 0,cM 0,cM 0]) (u:=.lst [cM 0,cM 0,cM 0,cM 0,cM 0]) (ref5 g.parts.1 λs=>rfl) (ay (t:=.lst [cM 0]) (u:=.int ((5:Nat):Int)) rfl rfl (JG 5 (by omega) 0)) (ko rfl (by simp[T.dep,deps,cM]))))).trans rfl)).trans ?_
 clear hgs n63
 generalize T.lst (gs.map lN)=A6
 generalize nI l.length=A7
 by_cases n:NoNeg L
 ·have hb:b=true:=ib.mpr n
  subst hb;refine(aw ((dt (bx (ay (t:=qU P L) (u:=.non) rfl rfl en0))).trans rfl)).trans ?_
  refine uE (λ_ Z=> ∃s,Z=Ew ns (.va (RR cs ls)) (.va (eS P)) (.va (eL L)) (.va (qU P L)) (.va (nI ls.length)) (.va A6) (.va A7) (.va A8) (.va o) .em s .em) (ts:=(On L.length).map nI) (GC (ql L rfl) (by omega)) ?_ ⟨_,rfl⟩ ?_
  ·intro k t ht Z hr
   obtain⟨s,rfl⟩:=hr;obtain⟨hk,rfl⟩:=MB ht
   have n':NoNeg (jC L k):=n.mono kj
   have he':∀x∈jC L k,x.1∈P/\x.2.1∈P:=λx hx=>R.f.ends x (kj x hx)
   refine⟨_,_,rfl,?_,.va (nI k),rfl⟩
   refine(dt (bx (ay (t:=.bl (AB P (jC L k) L)) (u:=.bl (AB P (jC L k) L)) (aE (ts:=[.int 4,RR cs ls,.int (k:Nat)]) rfl (Ic (R.ND n hk))) (ay (t:=qU P (jC L k)) (u:=qU P L) (aE (ts:=[eS P,eL (jC L k)]) (ar rfl (ar (ay (t:=.lst ((L.take k).map eB)) (u:=.lst ((L.drop (k+1)).map eB)) ?_ ?_ (EG ll k)) rfl)) (ltab R.nd R.pl he')) rfl (Af he' R.f.ends n' n)) (ko rfl (by simp[T.dep]))))).trans rfl
   ·rw[wG (l:=L.map eB) (lo:=none) (hi:=some ((k:Nat):Int)) rfl rfl (qw rfl),fH,S5]
   ·rw[wG (l:=L.map eB) (lo:=some ((k+1:Nat):Int)) (hi:=none) rfl (qw (ay (t:=.int (k:Nat)) (u:=.int 1) rfl rfl rfl)) rfl,mr,VJ]
  ·intro Z hr
   obtain⟨s,rfl⟩:=hr;refine(aw (bM rfl rfl)).trans ?_
   refine uE (λi Z=> ∃cur s,Ri P cs ls (ls.length - i) cur/\Z=Ew ns (.va (RR cs ls)) (.va (eS P)) (.va (eL L)) (.va (qU P L)) (.va (nI ls.length)) (.va A6) (.va A7) (.va A8) (.va o) .em s (.va (RR cs cur))) (iq (l:=(On ls.length).map λ(k:Nat)=>T.int ((ls.length:Int) - 1 - (k:Int))) (Gs (t:=.lst ((On ls.length).map nI)) ?_ (by rw[<-Ck];rfl))) ?_ ⟨ls,_,Ri.start,rfl⟩ ?_
   ·show lR _ _=_
    unfold lR;rw[ar (t:=nI ls.length) rfl rfl,aH]
    show(if _ then _ else _)=_
    rw[if_pos (by rw[z8 (by omega),Rt];exact decide_eq_true (by omega)),i7]
    rfl
   ·intro i t ht Z hr
    obtain⟨cur,s,I,rfl⟩:=hr;obtain⟨m,e1,e2,rfl⟩:=Ai ht;rw[e1]at I;rw[e2]
    have hc8:cur.length<=8:=by have:=I.len;omega
    have S:=R.sub I.sub hc8
    have nc:NoNeg (lim cs cur):=n.mono λx hx=>by have:=zM I.sub x hx;rwa [R.M7]at this
    have hin:sg (nI m) (lN ((On cur.length).filter (ly P cs cur)))= .ok (.bl (ly P cs cur m)):=by
     rw[Me]
     congr 2
     refine Pe.mpr ?_
     rw[decide_eq_true_iff,PL,OY];exact⟨λh=>h.2,λh=>⟨I.ge,h⟩⟩
    refine⟨_,Ew ns (.va (RR cs ls)) (.va (eS P)) (.va (eL L)) (.va (qU P L)) (.va (nI ls.length)) (.va A6) (.va A7) (.va A8) (.va o) .em (.va (nI m)) (.va (RR cs (if ly P cs cur m=true then cur.eraseIdx m else cur))),rfl,?_,_,_,I.next,rfl⟩
    have tst:∀{Z:En},vr 11 Z= .ok (nI m)->vr 12 Z= .ok (RR cs cur)->tb (o2 sg (vr 11) (cl de (ae (vr 12) aj))) Z= .ok (ly P cs cur m):=λq1 q2=>bx (ay (t:=nI m) q1 (aE (ts:=[RR cs cur]) (ar q2 rfl) (S.NG nc)) hin)
    cases q:ly P cs cur m with
    | true=>
     rw[q]at tst
     exact(dA (tst rfl rfl)).trans (bM (Ma (k:=m) hc8 rfl rfl) rfl)
    | false=>
     rw[q]at tst;exact(dt (tst rfl rfl)).trans rfl
   ·intro Z hr
    obtain⟨cur,s,I,rfl⟩:=hr;rw[Ob,OU,SJ]at I
    have ec:cur=vN P cs ls.length ls:=I.fin
    have gc:Good cs cur:=R.g.sub I.sub (by have:=I.len;omega)
    have dc:(RR cs cur).dep<=60:=by
     have:=Fw gc;unfold T.dep
     have:deps [.tup cs,.tup cur]<=3:=gd λt ht=>by
      simp only[Og,Pd,or_false]at ht;rcases ht with rfl | rfl
      ·exact this.1
      ·exact this.2
     omega
    refine bB ((jg (ay (t:=lN ((On ls.length).filter (ly P cs ls))) (u:=lN ((On ls.length).filter (ly P cs ls))) (aE (ts:=[.int 0,RR cs ls,.non]) rfl (mH (i:=0) (by omega) rfl (R.Nf n))) (aE (ts:=[RR cs ls]) rfl (R.NG n)) (mm (rQ _) (uN _)))).trans (ay (t:=RR cs cur) (u:=RR cs cur) (aE (ts:=[.int 1,RR cs ls,.non]) rfl (mH (i:=1) (by omega) rfl (by rw[ec];exact R.Nr n))) rfl (mm gc.p dc)))
 ·have hb:b=false:=by
   cases b with
   | true=>exact absurd (ib.mp rfl) n
   | false=>rfl
  subst hb
  have hne:L≠ []:=λz=>n (λa s w=>by rw[z]at w;cases w with | nil=>exact Qa _ | step h _=>cases h)
  have hpos:0<L.length:=List.length_pos_iff.mpr hne
  have bw:=EB (R.Ny n);refine fB ((dA (bx (ay (t:=qU P L) (u:=.non) rfl rfl en0))).trans ?_)
  refine(aw (bM (ay (t:=.lst [cM 3,cM 3]) (u:=.lst [cM 3]) ?_ (ay (t:=.lst [cM 3]) (u:=.int ((1:Nat):Int)) (jR (ar (aE (ts:=[.int 4,RR cs ls,.int 0]) rfl (sX (R.NW n (k:=0) hpos) r3)) rfl) (aB (k:=1) (by simp))) (aE (ts:=[.bl true]) (ar (ay (t:=eL L) (u:=.lst []) rfl rfl (LQ hne)) rfl) rfl) (JG 1 (by omega) 3)) rfl) rfl)).trans ?_
  ·refine(m6 (ts:=[.int 0,.int 1]) (h:=λ_=>cM 3) (J2 rfl) (aB (k:=2) (by simp)) (by simp) λt ht=> ?_).trans rfl
   simp only[Og,Pd,or_false]at ht;rcases ht with rfl | rfl
   ·exact aE (ts:=[.int 0,RR cs ls,.int 0]) rfl (mI (i:=0) (by omega) rfl bw.1 r3)
   ·exact aE (ts:=[.int 1,RR cs ls,.int 0]) rfl (mI (i:=1) (by omega) rfl bw.2 r3)
  ·exact bB (ay (t:=.lst [cM 3,cM 3,cM 3]) (u:=.lst [cM 3,cM 3,cM 3]) rfl (ay (t:=.lst [cM 3]) (u:=.int ((3:Nat):Int)) rfl rfl (JG 3 (by omega) 3)) (mm rfl (by simp[T.dep,deps,cM])))
theorem pure_law (ns:List Int)(hn:ns.length<=63):m_law [.scr ns] = .ok (.bl true):=aZ rfl (bB ((jg (by show(match dw []with | .ok t=>Rs.ok t | _=> .bad)=_;rw[GN])).trans (aE (ts:=[.scr ns]) rfl (Io hn))))
end
end G
end
open PySem PySem.W PyProof.Rows
set_option maxRecDepth 100000 in
set_option maxHeartbeats 0 in
theorem PySem.Challenge.cw_farclocks_k50_needs_holds : PySem.Challenge.rw_farclocks_k50_needs.Holds := by
  w_on; o_law
  refine holds_open (q := G.vw) (loose := G.lse) (Xt := λ_ => true) (XP := λ_ _ => True) (Yf := (Tr.hookX G.asks G.top).obs) (Ya := (Tr.hookX G.asks G.top).val) (YP := (Tr.hookX G.asks G.top).says) (N := 9000) (Tr.left_of (by rfl) (by rfl) (λ_ => rfl) λw os => ?hl) (Tr.hookX G.asks G.top).of (Tr.hookX G.asks G.top).keeps (λ_ _ => trivial) (λ_ _ _ _ _ => trivial) (by rfl) (by rfl) (by rfl) (λs _ => recFacts_of (s := s) rfl) (by rfl) (by assumption) (by decide +kernel) ⟨rfl, rfl, rfl, rfl, rfl, by decide +kernel⟩ ?hw ?hc
  case hl => exact ((congrFun (congrFun (congrFun (congrFun (congrFun PySem.W.Fast.lhsz_eq w) _) _) _) os).trans (G.NT w os)).trans (congrFun PySem.W.Fast.rhsz_eq w).symm
  case hw => w_witness2
  case hc => exact Tr.walk_x (n := 63) (k := 18) (x := "_law_script") (CX := L2.CX0) (sp := λK => Tr.spP K 1 G.m_law) rfl (by decide) rfl ⟨rfl, by decide, by decide⟩ (λw K mg fa h X e L b g hf => G.all_ok X e L b g hf) (λK H a ns hl _ hS => Tr.sp_script hS (G.pure_law ns hl)) λ_ _ _ _ z => z
