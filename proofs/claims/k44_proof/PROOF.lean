import PyProof.Rows.All
import Wide.All
import OpenK.AllK
import Wide.FinOn
import Lean
import PyProof.EqAt
import PyProof.EqKinds
import PyProof.TupleCall
import PyProof.ExcClass3
import PyProof.StationsW
import PyProof.ExcBaseAll.ValueError
import PyProof.ExcArgsOwn
import PyProof.IsiBase
import PyProof.IsiH_tuple
import PyProof.ExcAttrAll.ValueError
import PyProof.Rows.RuleN_isinstance
import PyProof.MeetsSeq
import PyProof.RulesAs
import PyProof.IsiH_list
import PyProof.AttrMiss
import KE.KDictOf
import PyProof.Rows.SumAny
import PyProof.Rows.MinMaxN
import PyProof.Rows.SortShellK
import PyProof.Rows.SortWalk
import KE.KSortTup
import PyProof.ZipIter
import PyProof.WalksMore
import PyProof.DictWalks
import PyProof.AutoSeq1
import PyProof.Rows.Range3
import PyProof.CollectWalk
import PyProof.EnumMake
import PyProof.ListRange
import KE.KRevIter
import PyProof.SetScanFacts
import PyProof.SetKind
import PyProof.DictKinds
import PyProof.FactsAll.set_0
import PyProof.FactsAll.set_1
import PyProof.FactsAll.set_2
import PyProof.FactsAll.set_3
import PyProof.FactsLen
import PyProof.TupleIter
import PyProof.Rows.SetFrom
import PyProof.Rows.SortShell
import PyProof.TupleKey
import PyProof.SetRoads
import PyProof.WalkInts
import PySem.Challenge.RW_farclocks_k44_whole_knowing
noncomputable section
open PySem.Challenge renaming pw_farclocks_k44_whole_knowing→J8,rw_farclocks_k44_whole_knowing→Pr
open PyProof.Rows.F renaming plain_set_update_loop→L5,entry_set_update_loop→Nn
open PySem.Builtin.SmallTypes renaming ownedTupleHandOut→Nq,ownedTupleIsFree→KF,nextOf→Kr
open PySem.AutoListH renaming list___mul___list_int_3→Re
open PyProof.Rows renaming slot_tuple_getitem→KQ,callWith_builtin1→ME,callWith_type1→K9,subscriptTail_builtinR→Qj,entry_tuple_getitem→Q2,assignInOrder_cons→Pl,args_tuple_getitem→Rv,assignInOrder_nil→RX,KK_mirror_equal→Mf,tupleItemsOf_→Rw,subscriptTail→Rx,listUpdate_at→Ry,wpS_forRange→On,seqEpoch_at→S9,wpS_modify→R3,setPending→R4,sortedHeap→R5,SortedToK→LG,pendingOf→Nt,wpS_bind→K0,wpS_pure→LQ,failedOf→P2,SortKind→QC,IntsAre→Lj,AllBare→PY,NonIncK→Q4,wpS_get→S8,SortSt→OU,IsTup→Rn,Keyed→S7
open PySem.Builtin.Tuple renaming tupleCompareSizes→NZ,tupleItemsOf→Nl,tupleIsExact→O8,tupleHashOf→Lp,tupleExact→LY
open List.Nodup renaming length_le_of_subset→LR
open List renaming eq_nil_of_length_eq_zero→ML,getD_eq_getElem?_getD→LC,nodup_iff_pairwise_ne→Mi,getElem?_append_right→Nm,getElem?_eq_some_iff→J4,getElem?_append_left→LM,drop_eq_getElem_cons→Mr,pairwise_iff_getElem→Ms,getElem?_eq_none_iff→Pm,getElem?_eq_getElem→JU,filterMap_cons_none→PC,filterMap_cons_some→PD,length_erase_of_mem→PH,filter_cons_of_neg→Li,filter_cons_of_pos→Ly,getElem?_cons_succ→MI,getElem?_replicate→NK,getElem?_set_self→Ko,filter_eq_nil_iff→MW,drop_eq_nil_of_le→NW,take_of_length_le→NX,range_succ_eq_map→Qd,length_pos_of_mem→Qe,pairwise_lt_range→Qg,mem_append_right→Kd,length_singleton→Lb,getElem?_eq_none→M5,take_append_drop→Oj,length_filter_le→Ol,singleton_append→Qm,mem_cons_of_mem→JJ,getElem?_set_ne→Kj,mem_append_left→K6,mem_of_getElem?→L3,pairwise_append→Oz,mem_erase_of_ne→OA,map_congr_left→KO,filterMap_cons→KW,getElem_of_mem→KZ,replicate_succ→LI,mergeSort_perm→MJ,mem_map_of_mem→NA,getElem?_range→QR,drop_succ_cons→QY,length_flatMap→QZ,filter_eq_self→Q0,mem_cons_self→JO,mem_singleton→JX,length_append→JZ,mem_filterMap→NI,zip_cons_cons→NL,pairwise_cons→Ph,zip_nil_right→Rb,filterMap_map→Rc,size_toArray→J1,getElem?_map→Kk,append_assoc→KD,length_range→KR,nodup_append→LJ,flatten_cons→Mz,flatMap_cons→Nh,pairwise_map→N6,take_sublist→RH,zip_nil_left→RI,drop_sublist→RQ,getElem_drop→RS,filter_congr→RV,length_cons→JR,all_eq_true→Ka,not_mem_nil→Kp,getElem_mem→K1,lookup_cons→Le,length_take→MK,mem_flatMap→MN,length_drop→Nu,any_eq_true→Nv,getElem_map→Oq,nodup_range→P9,filter_cons→Qa,drop_length→Sq,zipIdx_cons→Sv,nil_sublist→Sz,ext_getElem→SA,length_map→JQ,mem_append→Kg,mem_filter→Kt,nodup_cons→KG,map_append→Ld,length_set→Lw,append_nil→LW,length_nil→LX,nil_append→MA,find?_cons→M6,range_succ→M8,of_mem_zip→NJ,forIn_cons→ON,foldl_cons→Ql,countP_map→Qo,length_zip→SV,zipIdx_nil→SX,idxOf_cons→S1,replicate→Ke,mem_range→Kz,nodup_nil→MP,forIn_nil→QN,map_cons→JP,mem_cons→JT,sum_cons→LP,any_cons→MH,all_cons→Rg,mem_map→J5,map_map→Lc,map_nil→Oe,toArray→Sb,length→MZ,lookup→M4,range→J2,Nodup→N3,foldl→Px,cons→MM,Perm→Tc
open PySem.F renaming args_tuple_iterator_next_1→OD,entry_tuple_iterator_next→OP,slot_tuple_iterator_next→Mh,excBase_ValueError→O9,slot_list_getattribute→MB,args_tuple_add_2→NC,plainAttrs_list→MG,entry_tuple_add→NH,args_dict_get_2→PM,plain_min_loop→Lm,plain_max_loop→Ln,slot_tuple_add→NT,entry_min_loop→NU,entry_max_loop→NV,entry_dict_get→Qc,slot_dict_get→Od,slot_enumerate_next→Qn,slot_tuple_hash→MD,args_int_rmul_2→RJ,slot_tuple_rmul→RM,args_zip_next_1→RP,plain_list_iadd→RU,slot_tuple_mul→P6,slot_int_index→Sn,entry_int_rmul→So,entry_zip_next→Sw,slot_int_rmul→OM,slot_zip_next→OQ,fills_int_mul→SO,plain_set_new→SY,slot_set_iter→S0,called_set→M9
open PySem.Builtin.Slice renaming slicePartIndex→SG,sliceApplied→O7,slicePlaces→Mq,sliceAdjust→Np
open PySem.Builtin.Frozenset renaming updateFrom→SH
open PySem.Builtin.Builtins renaming bindParams→Ma
open PySem.Builtin.List renaming listLengthHint→OJ,listExtendWith→OK,listTooLong→Mx,listSameRef→Pv
open PySem.Calls renaming Name_function_global→Pa,callWith_builtin→MT,evalArgs_plain→Mw,spliced_cons→Mj,spliced_nil→My
open Array renaming perm_iff_toList_perm→Pb,getElem?_eq_some_iff→Pc,getElem?_eq_getElem→K3,getElem?_eq_none→MV,getElem?_toList→Mm,mem_toList_iff→QF,length_toList→Kv,forIn_toList→Pj,find?_toList→Ra,toList_push→RT,toList_map→Su,replicate→NO,toList→Pe
open PySem renaming wpAny_newFunctionEnv_cells→Pd,wpAny_binaryOp_repeat_ref→Po,wpAny_callSpecial?_slot→KN,wpAny_Call_method_late→NY,wpAny_pyNext_list_item→Qh,richCompare_meets_room→Qi,builtinLookup_eq_fast→Nb,wpAny_pyNext_list_end→Qu,codeAny_call_function→Qv,wpAny_updateSeq_pair→OB,wpAny_loadName_local→QH,codeAny_call_builtin→QJ,mem_of_lookup→Mb,wpAny_setEntries_of→O6,wpAny_loadName_cell→Q1,wpAny_pyIter_tuple→LA,wpAny_Call_Name_kw→LB,wpAny_setField_rec→Mo,tupleKind_room_in1→MY,wpAny_List_spliced→Rr,call_function_tree→RB,wpAny_pyHash_tuple→RC,wpAny_eqBool_tuple→RD,wpAny_newObj_type→Kl,foldedSetIterable→KL,wpAny_truthy_bool→K5,wpAny_setState_of→LL,wpAny_pyIter_list→Nk,wpAny_assign_Name→RW,wpAny_sequenceKey→RZ,wpAny_pyIter_enum→R1,wpAny_pyIter_slot→R6,wpAny_storeSet_of→R8,wpAny_call_entry→KP,wpAny_forIn_list→Ny,wpAny_askSetting→Nz,wpAny_isInstance→Ou,noFill_tuple_add→Qb,seqSlot_of→Sr,wpAny_eqBool_int→SC,wpAny_execs_cons→SD,entryFor_of_tree→SE,wpAny_pyIter_zip→SF,codeAny_builtin→KS,wpAny_loadPart'→K2,wpAny_updateSeq→Mg,wpAny_specialOf→Na,letOwnedTupleGo→NP,wpAny_execs_nil→OV,typeLookup_type→O0,importedModules→Qt,pushCells_keeps→Qx,wpAny_passesOwn→S3,codeAny_of_tree→Ta,wpAny_seqItems→KJ,wpAny_tryCatch→L8,wpAny_setField→Ob,isSubtype_type→Oc,firstArgMember→Pq,isSubtype_stop→QP,wpAny_holding→Lk,plainId_quiet→Ll,attributeBase→Lr,wpAny_attempt→NQ,swapsWithSole→OF,swappedStores→OG,behindInMarks→PZ,wpAny_onRaise→P3,assignInOrder→Rp,wpAny_standAt→Rq,seq_tuple_add→Rt,bootBuiltins→Ky,wpAny_typeOf→NG,codeAny_mono→Om,concat_meets→Si,mainGlobals→Kw,wpAny_field→Lu,sizeLine_eq→Me,wpAny_letGo→Mv,sliceBounds→N7,richCompare→OW,excClassObj→OZ,hashByValue→O5,wpAny_of_eq→P0,subscripted→Q3,keywordEach→S5,wpAny_bind→JG,wpAny_pure→JN,assignEach→LK,wpAny_mono→L9,wpAny_rule→MR,sysModules→Nj,call_meets→N8,builtinsNs→PJ,IsTupleKey→PL,typeIs_int→Qz,typeLookup→R0,reduceHash→R7,compareOp→KC,swapsWith→Lz,cellsFrom→MO,seqItems?→OY,updateSeq→O4,tupleKind→PK,Arguments→Qs,pushCells→Qw,treeTable→Ro,pickOrder→Te,starEach→Kc,binaryOp→LZ,FuncData→L0,boot_len→Mp,NameKind→Ni,intItems→QB,GenState→SI,bindArgs→SJ,Operator→Tb,Program→J9,OsState→PX,BindsTo→RY,Keyword→S6,Shared→JL,Around→Km,IsPart→Ru,IsPair→RA,Result→S4,Paired→Td,Value→JK,World→Kx,Scope→NR
open Classical renaming byContradiction→Mt
open List.Perm renaming eq_of_pairwise→Pu,of_eq→SM
open PySem.AutoSeq1 renaming sub_tuple_tuple→Pw
open Int renaming eq_ofNat_of_zero_le→Ks,emod_lt_of_pos→Pk,toNat_natCast→Lf,emod_nonneg→Qr,ofNat_lt→Sh,le_refl→S2
open PySem.Builtin.Dict renaming updateFrom→PN
open PySem.Heap renaming get?_push_of_some→JI,get?_update_other→Kh,get?_update_self→KA,get?_push_size→JS,get?_update_ne→QX,get?_push_ne→PB,size_update→P8,NewAttrErr→SR,size_push→Ku,lt_size→JV,SameBut→MF,ExtBut→QU
open PySem.SetTable.layClean renaming free→LD
open Option renaming map_eq_some_iff→MU,isSome_some→Rf,isSome_map→RN,getD_none→P4,bind_some→Sx,some→La
open PySem.W renaming cellsFrom_some→NS,hideAll_none→QD,hideAll_get→OI,of_hideAll→Q5,callWith_K→Q6,codeRec_of→Q7,methodObj→Pt,kitx_list→RE,kitx_dict→RF,openSeen→Sj,openGood→Sk,plainGet→Sm,kia_one→Lo,topFrom→OH,instObj→Qk,hideAll→SK,keepIn→N9,lookIn→QK,codeIn→QL,mg_of→OC,Frag→JH,fnOf→NB,nsIn→ND
open PySem.Obj renaming isFreed_of_fields→Of,data_mapFields→Mk,cls_mapFields→Py,mapSeq→K8
open Bool renaming and_eq_false_iff→Qq,and_eq_true_iff→L4,false_ne_true→J3,false_eq_true→KU,not_eq_true'→PF,and_eq_true→JM,eq_iff_iff→NM,false_and→QM,true_and→LN,not_true→OE,false_or→Rh,and_true→Rm
open PySem.Around renaming under_plainId→Kq,units→Oi
open PySem.Value renaming notImplemented→Ov,builtin→Rk,isInt→PR,none→KI,bool→K7,type→LH,ref→Kb,int→LF,str→LS
open Nat renaming le_sub_one_of_lt→Ox,sub_one_lt_of_lt→Oy,lt_of_lt_of_le→JY,lt_of_le_of_lt→MX,eq_or_lt_of_le→Pg,eq_zero_or_pos→Rl,lt_succ_of_lt→Lg,le_of_lt_succ→Nf,le_of_succ_le→N4,lt_trichotomy→N5,lt_succ_self→L1,le_add_right→Nx,max_eq_right→Ot,le_of_not_lt→P5,succ_le_succ→P7,lt_of_not_le→Ss,mod_eq_of_lt→SB,le_antisymm→SS,not_lt_zero→SU,zero_lt_two→SZ,lt_irrefl→Ki,ne_of_lt→J7,le_trans→Kf,le_of_lt→LU,ne_of_gt→LV,lt_trans→L6,lt_or_ge→Ml,le_of_eq→NF,sub_self→Og,sub_zero→Oh,zero_add→Pf,add_comm→R9,mul_comm→Sa,min_self→Sd,le_refl→JW,zero_le→KY,sub_le→RO
open PySem.Heap.SameBut renaming update→Ls
open PyProof.Rows.KeyOrd renaming kle_antisymm→QV,kle_of_klt→Pz,kle_trans→Os,kle_refl→M7
open PySem.SetTable renaming layClean→Lh,insertAt→MC,gaveWay→Sy,below→J6,turns→L7,Probe→Nr,probe→Pn,bits→Lx,has→Qp
open List.Pairwise renaming nil→N0
open PySem.SetTable.probe renaming go→N1
open PySem.SetTable.below renaming go→RG
open Option.some renaming inj→KM
open List.cons renaming injEq→Lq
open ForInStep renaming yield→M0
open PySem.Expr renaming Attribute→MQ,Subscript→Oa,ListComp→NN,Constant→Ri,Compare→Se,UnaryOp→Sf,BoolOp→Mu,Name→KB,Call→Md
open PySem.NameKind renaming free→KH,cell→Lv
open Prod.mk renaming injEq→PQ,inj→SL
open PySem.Paired renaming length→PU
open PySem.Str renaming ofString→J0
open PySem.pickOrder renaming go→Sg
open PySem.Scope renaming names→OR
open PySem.Stmt renaming Assign→OS
open PySem.Pos renaming endLine→PV,line→Ng
open PySem.Data renaming fields→SN,cell→Q9
open PySem.Shared renaming heap→SQ
open PySem.Walks renaming tuple→SW
open False renaming elim→Nc
open True renaming intro→Nd
open PySem.BoolOp renaming And→Qy,Or→Rj
open PySem.Env renaming scope→Mc
open PyProof.Rows.IsTup renaming new→Q8
open Ne renaming symm→MS
open Iff renaming rfl→Oo
open Sum renaming inl→OL,inr→QQ
open Prod renaming mk→RL
set_option Elab.async false
set_option linter.all false
set_option maxRecDepth 100000
set_option maxHeartbeats 8000000
noncomputable section
abbrev nDb (x:PySem.Str):Prop:=(x == PySem.Str.ofString "__debug__")=false
theorem qr_ (h:True:=by first | exact .inl rfl | exact .inr rfl | assumption):True:=trivial
def r_:=qr_._auto_1
theorem qs_ (h:True:=by decide):True:=trivial
def s_:=qs_._auto_1
theorem qt_ (h:True:=by intro _;rfl):True:=trivial
def t_:=qt_._auto_1
theorem qu_ (h:True:=by rfl):True:=trivial
def u_:=qu_._auto_1
theorem qv_ (h:True:=by first | exact Or.inl rfl | exact Or.inr (Or.inl rfl) | exact Or.inr (Or.inr rfl)):True:=trivial
def v_:=qv_._auto_1
theorem qw_ (h:True:=by with_unfolding_all rfl):True:=trivial
def w_:=qw_._auto_1
theorem qx_ (h:True:=by intro _ _;rfl):True:=trivial
def x_:=qx_._auto_1
theorem qy_ (h:True:=by first | exact Or.inl rfl | exact Or.inr rfl):True:=trivial
def y_:=qy_._auto_1
theorem qz_ (h:True:=by decide+kernel):True:=trivial
def z_:=qz_._auto_1
theorem qa_ (h:True:=by exact fsc):True:=trivial
def a_:=qa_._auto_1
namespace L2
open PySem PySem.Spec PyProof.Rows
inductive V where
 | non | bl (b:Bool) | int (i:Int) | str (x:Str) | byt (b:Array UInt8) | flt (b:UInt64) | ref (a:Addr) | ty (n:String)
 deriving DecidableEq
def CD (s:Stmt)(j:Nat):Stmt:=match s with
 | .ClassDef _ _ _ body _ _ _ _ _ _ _=>body.getD j (.Pass ⟨0,0,0,0⟩)
 | _=> .Pass ⟨0,0,0,0⟩
def eZ (s:Stmt):Qs:=match s with
 | .FunctionDef _ a _ _ _ _ _ _ _ _=>a
 | _=> { posonlyargs:=[],args:=[],vararg:=none,kwonlyargs:=[],kw_defaults:=[],kwarg:=none,defaults:=[] }
def cf (s:Stmt):List Stmt:=match s with
 | .FunctionDef _ _ b _ _ _ _ _ _ _=>b
 | _=> []
def aA (s:Stmt):NR:=match s with
 | .FunctionDef _ _ _ _ _ _ sc _ _ _=>sc
 | _=> { kind:=.function,names:=[],isGenerator:=false,isCoroutine:=false }
end L2
namespace Tr
open PySem PySem.Spec PyProof.Rows L2
inductive T where
 | non | bl (b:Bool) | int (i:Int) | str (x:Str) | tup (l:List T) | lst (l:List T)
 /-- the law's script: a list of ints that is only read -/
 | scr (l:List Int)
 /-- a dict: its keys,its values -/
 | dct (ks vs:List T)
 /-- an instance: its class,the names of its attributes,what they are -/
 | ob (C:Str) (ns:List Str) (ts:List T)
abbrev Ow:=Addr->Prop
inductive OT where
 | lst (l:List T) | dct (ks ts:List T) | dd (ks:List T) (rows:List (List T×List T))
 /-- an instance,its attributes own lists -/
 | ob (C:Str) (ns:List Str) (ls:List (List T))
 /-- a list of own lists -/
 | ll (ls:List (List T))
def OT.view:OT->T
 | .lst l=> .lst l
 | .dct ks ts=> .dct ks ts
 | .dd ks rows=> .dct ks (rows.map λr=> .dct r.1 r.2)
 | .ob C ns ls=> .ob C ns (ls.map T.lst)
 | .ll ls=> .lst (ls.map T.lst)
abbrev Mn:=Nat->Ow
def T.ty:T->Option String
 | .non=>some "NoneType"
 | .bl _=>some "bool"
 | .int _=>some "int"
 | .str _=>some "str"
 | .tup _=>some "tuple"
 | .lst _=>some "list"
 | .scr _=>none
 | .dct _ _=>none
 | .ob _ _ _=>none
def Mn.set (M:Mn)(i:Nat)(m:Ow):Mn:=λj=>if j=i then m else M j
def calmNames:List Str:=["__init__","__getattribute__","__getattr__","__class__"]
def yz:JK->Bool
 | .str _ _=>true
 | _=>false
end Tr
namespace Tr
def a7:List Int->List Int->Bool
 | [],[] =>false
 | [],_::_=>true
 | _::_,[] =>false
 | a::l,b::m=>if a=b then a7 l m else decide (a<b)
end Tr
namespace Tr
open PySem PySem.Spec PyProof.Rows L2 PySem.W
structure RK where
 V:Heap->JK->List Int->Prop
 inj:∀{h v a b},V h v a->V h v b->a=b
 on:∀{h h':Heap} {v a},V h v a->(∀b o,h.get? b=some o->h'.get? b=some o)->V h' v a
 b:Bool
 ty:String
 hb:(LH ty != LH "tuple")=b
 ht:(LH ty == LH ty)=true
 fst:∀{h v a},V h v a->∃ad o xs n f,v= .ref ad/\h.get? ad=some o/\o.cls= .type "tuple"/\o.data= .seq xs n/\xs[0]? =some f/\∀M,Looks M h (typeOf f) (.type ty)
 lt:∀{prog w A s E x y a c} {Q:Bool->JL->Prop},A.units+60<cLine->V s.heap x a->V s.heap y c->Q (a7 a c) s->wpAny (model prog w) A (keyLt' (tuples' b) x y) Q E s
variable (R:RK)
open Classical in
def RK.key (h:Heap)(v:JK):Option (List Int):=if e:∃ns,R.V h v ns then some e.choose else none
variable {R:RK}
end Tr
namespace Tr
open PySem PySem.Spec PyProof.Rows L2 PySem.W
def sA (h:Heap):Frag:=(J2 h.objs.size).filterMap λa=>(h.get? a).map λo=>(a,o)
def obF (K:Frag)(n:Str):Option (Str×Str×Qs×FuncBody×NR×Addr×List (Str×Addr)×JK×Addr×Bool×Bool):=match nsIn K Kw n with
 | some (some (.ref f))=>match K.lookup f with
  | some ⟨_,_,.func d,_⟩=>some (d.name,d.qualname,d.params,d.body,d.scope,d.globals,d.closure,d.defaults,d.builtins,codeIn K d.code n,keepIn K (.ref f))
  | _=>none
 | _=>none
def exF (n:Str)(st:Stmt):Option (Str×Str×Qs×FuncBody×NR×Addr×List (Str×Addr)×JK×Addr×Bool×Bool):=
 some (n,n,eZ st,.stmts (cf st),aA st,Kw,[],.none,PJ,true,true)
def Hj (K:Frag)(N:Addr)(n:Str):Bool:=match nsIn K N n with | some none=>true | _=>false
def IA (K:Frag)(n:Str):Option Int:=match nsIn K Kw n with | some (some (.int i _))=>some i | _=>none
def uW:List JK->Bool
 | [.type a,.type b,.type c,.type d] =>a == "ValueError" &&b == "Exception" &&c == "BaseException" &&d == "object"
 | _=>false
def ym (D:Option Addr)(m:List JK):Bool:=match D with
 | none=>uW m
 | some D=>match m with
  | .ref E::m=>E == D&&uW m
  | _=>false
def Cm (K:Frag)(D:Option Addr)(n:Str):Option Addr:=match nsIn K Kw n with
 | some (some (.ref C))=>match K.lookup C with
  | some ⟨.type t,_,.cls c,⟨[_,_,_,_,some (.builtin b),_]⟩⟩=>match c.mro,K.lookup c.ns with
   | .ref E::m,some ⟨_,_,.dict es _,_⟩=>
    if (t == "type" &&b == "ValueError.__new__" && !c.hasDel&&(es.toList.all λe=>yz e.key)&&calmNames.all (Hj K c.ns)&&E == C&&ym D m)=true then some C else none
   | _,_=>none
  | _=>none
 | _=>none
def uJ {α:Type}:List (Option α)->Option (List α)
 | [] =>some []
 | none::_=>none
 | some a::r=>match uJ r with | some l=>some (a::l) | none=>none
def pU:List Addr->Bool
 | [] =>true
 | a::r=>(r.all λb=> !(a == b))&&pU r
def Iz (K:Frag):List Str->Bool
 | [] =>true
 | m::es=>match Cm K none m with
  | some D=>match uJ (es.map (Cm K (some D)))with | some l=>pU (l++ [D]) | none=>false
  | none=>false
structure xP where
 tab:List (Str×Nat)
 zs:List Str
 cs:List (Str×Int)
 es:List Str
def pQ (S:xP)(K:Frag):=(S.tab.map (λp=>obF K p.1),S.zs.all (Hj K Kw),S.cs.map (λc=>IA K c.1),Iz K S.es)
def oP (S:xP)(top:Nat->Stmt):=(S.tab.map (λp=>exF p.1 (top p.2)),true,S.cs.map (λc=>some c.2),true)
def obM (K:Frag)(C:Addr)(m q:Str):Option (Str×Str×Qs×FuncBody×NR×Addr×List (Str×Addr)×JK×Addr×Bool×Bool×Bool):=match findIn K (.ref C) m with
 | some (some (.ref f))=>match K.lookup f with
  | some ⟨_,_,.func d,_⟩=>some (d.name,d.qualname,d.params,d.body,d.scope,d.globals,d.closure,d.defaults,d.builtins,codeIn K d.code q,keepIn K (.ref f),isFn K (.ref f))
  | _=>none
 | _=>none
def exM (m q:Str)(st:Stmt):Option (Str×Str×Qs×FuncBody×NR×Addr×List (Str×Addr)×JK×Addr×Bool×Bool×Bool):=
 some (m,q,eZ st,.stmts (cf st),aA st,Kw,[],.none,PJ,true,true,true)
def noAt (K:Frag)(C:Addr)(f:Str):Bool:=match findIn K (.ref C) f with | some none=>true | _=>false
def saOk (K:Frag)(C:Addr):Bool:=match findIn K (.ref C) "__setattr__" with | some (some (.builtin b))=>b == "object.__setattr__" | _=>false
def Ib (K:Frag)(C:Addr)(as:List Str):Bool:=plainGet K C Str.empty&&hasDictIn K C&&plainOver K C&&saOk K C&&makesIn K C&&keepIn K (.ref C)&&as.all (noAt K C)
structure Gj where
 c:Str
 i:Nat
 as:List Str
 ms:List (Str×Str×Nat)
def obK (K:Frag)(A:Gj):=match nsIn K Kw A.c with
 | some (some (.ref C))=>some (Ib K C A.as,A.ms.map λ(m:Str×Str×Nat)=>obM K C m.1 m.2.1)
 | _=>none
def exK (top:Nat->Stmt)(A:Gj):=some (true,A.ms.map λ(m:Str×Str×Nat)=>exM m.1 m.2.1 (CD (top A.i) m.2.2))
structure tw where
 a:xP
 ks:List Gj
def zo (S:tw)(K:Frag):=(pQ S.a K,S.ks.map (obK K))
def ye (S:tw)(top:Nat->Stmt):=(oP S.a top,S.ks.map (exK top))
end Tr
namespace G
open PySem PySem.Spec PyProof.Rows L2 Tr
def top (i:Nat):Stmt:=J8.main.body.getD i (.Pass ⟨0,0,0,0⟩)
def AH:xP:=⟨([("_law_cell",58),("_law_drawn",59),("_law_events",62),("_law_letter",61),("_law_clock",60),("_law_record",63),("is_long",15),("is_whole",13),("is_within",14),("is_pace",18),("rises",16),("are_readings",17),("is_clock",19),("are_clocks",20),("is_event",21)]:List (Str×Nat))++([("is_delay",22),("is_letter",23),("are_letters",24),("is_record",25),("need_record",26),("events",29),("need_event",27),("known_at_once",31),("knows",32),("unknown_pairs",35),("if_record",55),("with_letter",56),("need_number",28),("first_to_know",34),("stamp",33)]:List (Str×Nat))++([("is_better",42),("settle",41),("greatest_world",44),("bounds_of_clock",37),("bounds_of_letter",38),("bounds",39),("world",45),("has_world",46),("need_events",49),("need_world",47),("most_of",51),("walks_from",50),("most_between",52),("least_between",53),("_law_agrees",64)]:List (Str×Nat))++([("law",65)]:List (Str×Nat)),(["all","bool","dict","enumerate","int","isinstance","len","max","min","range","set","sorted","sum","tuple","zip"]:List Str),[("MOST_CLOCKS",4),("MOST_LETTERS",8),("MOST_READINGS",4),("LAST_READING",99),("SLOWEST",9),("LONGEST",999)],["ClockError","NoRecord","NoEvent","NoNumber","NoWorld"]⟩
def asks:tw:=⟨AH,[]⟩
def vw:J9:=PySem.W.view J8 [65]
def lse:List Str:=(["ClockError","NoRecord","NoEvent","NoNumber","NoWorld","MOST_CLOCKS","MOST_LETTERS","MOST_READINGS","LAST_READING","SLOWEST","LONGEST","is_whole","is_within","is_long","rises","are_readings","is_pace","is_clock","are_clocks","is_event"]:List Str)++(["is_delay","is_letter","are_letters","is_record","need_record","need_event","need_number","events","known_at_once","knows","stamp","first_to_know","unknown_pairs","bounds_of_clock","bounds_of_letter","bounds","settle","is_better","greatest_world","world"]:List Str)++(["has_world","need_world","need_events","walks_from","most_of","most_between","least_between","if_record","with_letter","_law_cell","_law_drawn","_law_clock","_law_letter","_law_events","_law_record","_law_agrees"]:List Str)
def lhs (w:Kx)(h:Heap)(d:Drawn)(t:Nat)(os:PX):=(OH Ro J8 w 9000 ⟨h,⟨[]⟩,d,t,os⟩).map (λs=>(Sj vw lse (Qt J8.main.body) (λ_=>true) true s,zo asks (sA s.heap)))
def rhs (w:Kx):=some (Sk vw lse,ye asks top)
end G
namespace G
open PySem Tr PySem.W PyProof.Rows
def lhA (w:Kx)(h:Heap)(d:Drawn)(t:Nat)(os:PX):=(OH Ro J8 w 9000 ⟨h,⟨[]⟩,d,t,os⟩).map λs=>Sj vw lse (Qt J8.main.body) (λ_=>true) true s
def rhA (_:Kx):=some (Sk vw lse)
theorem lhA_r:lhA=lhA:=rfl
theorem rhA_r:rhA=rhA:=rfl
def lhB (w:Kx)(h:Heap)(d:Drawn)(t:Nat)(os:PX):=(OH Ro J8 w 9000 ⟨h,⟨[]⟩,d,t,os⟩).map λs=>pQ asks.a (sA s.heap)
def rhB (_:Kx):=some (oP asks.a top)
theorem lhB_r:lhB=lhB:=rfl
theorem rhB_r:rhB=rhB:=rfl
def lhC (w:Kx)(h:Heap)(d:Drawn)(t:Nat)(os:PX):=(OH Ro J8 w 9000 ⟨h,⟨[]⟩,d,t,os⟩).map λs=>asks.ks.map (obK (sA s.heap))
def rhC (_:Kx):=some (asks.ks.map (exK top))
theorem lhC_r:lhC=lhC:=rfl
theorem rhC_r:rhC=rhC:=rfl
theorem join3 {α β γ δ:Type}{o:Option α}{f:α->β}{g:α->γ}{k:α->δ}{a:β}{b:γ}{c:δ}(h1:o.map f=some a)(h2:o.map g=some b)(h3:o.map k=some c):o.map (λs=>(f s,g s,k s))=some (a,b,c):=by
 cases o with
 | none=>cases h1
 | some s=>cases h1;cases h2;cases h3;rfl
end G
lay_quick G.lhA G.rhA G.lhB G.rhB G.lhC G.rhC
name_quick lhAz for G.lhA by G.lhA_r
name_quick rhAz for G.rhA by G.rhA_r
name_quick lhBz for G.lhB by G.lhB_r
name_quick rhBz for G.rhB by G.rhB_r
name_quick lhCz for G.lhC by G.lhC_r
name_quick rhCz for G.rhC by G.rhC_r
section
open PySem PySem.W PyProof.Rows
set_option maxRecDepth 100000 in
theorem G.Jz (w:Kx)(os:PX):PySem.W.Fast.lhAz w (boot_heap w.params) boot_drawn boot_toks os=PySem.W.Fast.rhAz w:=by kernel_rfl
set_option maxRecDepth 100000 in
theorem G.Jq (w:Kx)(os:PX):PySem.W.Fast.lhBz w (boot_heap w.params) boot_drawn boot_toks os=PySem.W.Fast.rhBz w:=by kernel_rfl
set_option maxRecDepth 100000 in
theorem G.Jw (w:Kx)(os:PX):PySem.W.Fast.lhCz w (boot_heap w.params) boot_drawn boot_toks os=PySem.W.Fast.rhCz w:=by kernel_rfl
theorem G.JA (w:Kx)(os:PX):G.lhs w (boot_heap w.params) boot_drawn boot_toks os=G.rhs w:=G.join3 (((congrFun (congrFun (congrFun (congrFun (congrFun PySem.W.Fast.lhAz_eq w) _) _) _) os).trans (G.Jz w os)).trans (congrFun PySem.W.Fast.rhAz_eq w).symm) (((congrFun (congrFun (congrFun (congrFun (congrFun PySem.W.Fast.lhBz_eq w) _) _) _) os).trans (G.Jq w os)).trans (congrFun PySem.W.Fast.rhBz_eq w).symm) (((congrFun (congrFun (congrFun (congrFun (congrFun PySem.W.Fast.lhCz_eq w) _) _) _) os).trans (G.Jw w os)).trans (congrFun PySem.W.Fast.rhCz_eq w).symm)
end
namespace L2
open PySem PySem.Spec PyProof.Rows
abbrev Key:=Sum Int Str
def nW:Key->JK->Bool
 | .inl k,v=>PR k v
 | .inr x,v=>Value.isStrOf x v
def keyH (w:Kx):Key->Int
 | .inl k=>hashInt k
 | .inr x=>hashStr w x
theorem bY:∀{k:Key} {v:JK},nW k v=true->(∃i t,k=OL i/\v=LF i t)\/(∃x t,k=QQ x/\v=LS x t)
 | .inl i,v,h=>by
  obtain⟨t,e⟩:=Value.isInt_shape (k:=i) (v:=v) h
  exact .inl ⟨i,t,rfl,e⟩
 | .inr x,v,h=>by
  obtain⟨t,e⟩:=Value.isStrOf_shape (x:=x) (v:=v) h;exact .inr ⟨x,t,rfl,e⟩
theorem xj (i:Int)(t:Tok):nW (.inl i) (.int i t)=true:=by simp[nW,PR]
theorem xg (x:Str)(t:Tok):nW (.inr x) (.str x t)=true:=by simp[nW,Value.isStrOf]
theorem Fy (a b:Int):decide ((OL a:Key)=OL b)=(a == b):=by
 by_cases e:a=b
 ·subst e;simp
 ·have h:¬ (OL a:Key)=OL b:=λq=>e (OL.inj q)
  rw[decide_eq_false h];exact(beq_eq_false_iff_ne.mpr e).symm
theorem Fu (a b:Str):decide ((QQ a:Key)=QQ b)=decide (a=b):=by
 by_cases e:a=b
 ·subst e;simp
 ·have h:¬ (QQ a:Key)=QQ b:=λq=>e (QQ.inj q)
  rw[decide_eq_false h,decide_eq_false e]
theorem Fw (a:Int)(b:Str):decide ((OL a:Key)=QQ b)=false:=decide_eq_false (λq=>nomatch q)
theorem Fv (a:Str)(b:Int):decide ((QQ a:Key)=OL b)=false:=decide_eq_false (λq=>nomatch q)
def b8 (prog:J9)(w:Kx):PySem.KeyKind prog w Key where
 is:=nW
 hash:=keyH w
 inj:=λv a b ha hb=>by
  rcases bY ha with⟨i,t,rfl,rfl⟩ | ⟨x,t,rfl,rfl⟩
  ·rcases bY hb with⟨j,u,rfl,e⟩ | ⟨y,u,rfl,e⟩
   ·injection e with e1 _;rw[e1]
   ·exact nomatch e
  ·rcases bY hb with⟨j,u,rfl,e⟩ | ⟨y,u,rfl,e⟩
   ·exact nomatch e
   ·injection e with e1 _;rw[e1]
 byValue:=λk v h=>by
  rcases bY h with⟨i,t,rfl,rfl⟩ | ⟨x,t,rfl,rfl⟩ <;> rfl
 pyHash:=λhv h=>by
  rcases bY hv with⟨i,t,rfl,rfl⟩ | ⟨x,t,rfl,rfl⟩
  ·exact wpAny_pyHash_int h
  ·exact wpAny_pyHash_str h
 eqBool:=λhu hv h=>by
  rcases bY hu with⟨i,t,rfl,rfl⟩ | ⟨x,t,rfl,rfl⟩
  ·rcases bY hv with⟨j,u,rfl,rfl⟩ | ⟨y,u,rfl,rfl⟩
   ·rw[Fy]at h;exact SC h
   ·rw[Fw]at h;exact SeqAt.EqAt.int_str i t y u _ _ _ _ h
  ·rcases bY hv with⟨j,u,rfl,rfl⟩ | ⟨y,u,rfl,rfl⟩
   ·rw[Fv]at h;exact SeqAt.EqAt.str_int x t j u _ _ _ _ h
   ·rw[Fu]at h;exact wpAny_eqBool_str h
 «strs»:=λk x t v h=>by
  rcases bY h with⟨i,u,rfl,e⟩ | ⟨y,u,rfl,e⟩
  ·exact nomatch e
  ·injection e with e1 _
   subst e1;cases v <;> rfl
theorem rY (prog:J9)(w:Kx)(i:Int)(t:Tok):(b8 prog w).is (.inl i) (.int i t)=true:=xj i t
theorem rX (prog:J9)(w:Kx)(x:Str)(t:Tok):(b8 prog w).is (.inr x) (.str x t)=true:=xg x t
def RelV:V->JK->Prop
 | .non,u=>u=KI
 | .bl b,u=>u=K7 b
 | .int i,u=> ∃t,u=LF i t
 | .str x,u=> ∃t,u=LS x t
 | .byt b,u=> ∃t,u=Value.bytes b t
 | .flt b,u=> ∃t,u=Value.float b t
 | .ref a,u=>u=Kb a
 | .ty n,u=>u=LH n
abbrev Vals:List V->List JK->Prop:=Td RelV
theorem Vals.length {xs:List V}{us:List JK}(r:Vals xs us):xs.length=us.length:=PU r
theorem Vals.get:∀{xs:List V} {us:List JK} {i:Nat} {x:V},Vals xs us->xs[i]? =some x->∃u,us[i]? =some u/\RelV x u
 | _,_,_,_,.nil,e=>by simp at e
 | _,_,0,_,.cons r _,e=>by simp at e;subst e;exact⟨_,rfl,r⟩
 | _,_,i+1,x,.cons _ t,e=>by
  obtain⟨u,h1,h2⟩:=Vals.get (i:=i) (x:=x) t (by simpa using e)
  exact⟨u,by simpa using h1,h2⟩
theorem Vals.append:∀{xs ys:List V} {us ws:List JK},Vals xs us->Vals ys ws->Vals (xs++ys) (us++ws)
 | _,_,_,_,.nil,s=>s
 | _,_,_,_,.cons r t,s=> .cons r (Vals.append t s)
theorem Vals.take:∀{xs:List V} {us:List JK} (n:Nat),Vals xs us->Vals (xs.take n) (us.take n)
 | _,_,0,_=> .nil
 | _,_,_+1,.nil=> .nil
 | _,_,n+1,.cons r t=> .cons r (Vals.take n t)
theorem Vals.drop:∀{xs:List V} {us:List JK} (n:Nat),Vals xs us->Vals (xs.drop n) (us.drop n)
 | _,_,0,r=>r
 | _,_,_+1,.nil=> .nil
 | _,_,n+1,.cons _ t=>Vals.drop n t
def RelO:Option V->Option JK->Prop
 | some v,some u=>RelV v u
 | none,none=>True
 | _,_=>False
def KV {κ:Type}:List (κ×V)->List (κ×JK)->Prop:=Td λ(p:κ×V) (q:κ×JK)=>p.1=q.1/\RelV p.2 q.2
def kV:Key->V
 | .inl i=> .int i
 | .inr x=> .str x
inductive HO where
 /-- a list -/
 | lst (xs:List V)
 /-- a tuple (never changes) -/
 | tup (xs:List V)
 /-- a dict whose keys are ints and texts;one whose keys are tuples of ints and texts (the empty one is both) -/
 | dK (kvs:List (Key×V)) | dT (kvs:List (List Key×V))
 /-- a set of ints: its members,its size -/
 | set (S:Int->Bool) (n:Nat)
 /-- an instance of the class at C,its dict at dx,its attributes -/
 | ins (C dx:Addr) (fs:List (Str×V))
 /-- the dict of the instance at x -/
 | own (x:Addr)
 /-- the dict of an exception -/
 | xd (fs:List (Str×V))
 /-- a bound method,f of x -/
 | met (f x:Addr)
 /-- a range object lo,lo+1,.. below hi -/
 | rng (lo hi:Int)
 /-- a thing that is known to the object (the script;a dict while a loop walks it): read,never written while it is so -/
 | frz (o:Obj) (u:HO)
 /-- a code object's table -/
 | tbl (ps:Array JK)
 /-- any other thing,by what is true of its one object (a def of one's own: SetO a S n:=HO.ext λh=> ..) -/
 | ext (φ:Heap->Prop)
abbrev Hp:=Addr->Option HO
def upd (H:Hp)(a:Addr)(o:HO):Hp:=λb=>if b=a then some o else H b
theorem bc {H:Hp}{a:Addr}{o:HO}:upd H a o a=some o:=by unfold upd;rw[if_pos rfl]
theorem aQ {H:Hp}{a b:Addr}{o:HO}(h:b≠a):upd H a o b=H b:=by unfold upd;rw[if_neg h]
theorem oQ {H:Hp}{a:Addr}{o u:HO}:upd (upd H a o) a u=upd H a u:=by
 funext b;unfold upd;split <;> rfl
theorem rV {H:Hp}{a b:Addr}{o u:HO}(h:H a=some o)(h':H b=some u)(d:o≠u):a≠b:=by
 intro e;subst e;rw[h]at h';exact d (KM h')
theorem bO {H:Hp}{a b:Addr}{o:HO}(h:H a=some o)(h':H b=none):a≠b:=by
 intro e;subst e;rw[h]at h';cases h'
section
variable (P:J9)(w:Kx)
def ObjOk (H:Hp)(h:Heap)(a:Addr):HO->Prop
 | .lst xs=>xs.length<=sizeLine/\∃(its:List JK) (n:Nat),Vals xs its/\h.get? a=some { cls:=.type "list",data:=.seq its.toArray n }
 | .tup xs=>xs.length<=sizeLine/\∃its:List JK,Vals xs its/\Rn h a its.toArray
 | .dK kvs=>kvs.length<=sizeLine/\(a == Nj)=false/\∃vs,KV kvs vs/\h.DictOf (b8 P w) a vs
 | .dT kvs=>kvs.length<=sizeLine/\(a == Nj)=false/\∃xs:List (List Key×Addr×JK),
   Td (λ(p:List Key×V) (q:List Key×Addr×JK)=>p.1=q.1/\H q.2.1=some (.tup (p.1.map kV))/\RelV p.2 q.2.2) kvs xs ∧
   ∃o es ep,h.get? a=some o/\o.ExactDict/\o.data= .dict es ep/\es.toList=xs.map (entryOfKey (PK (b8 P w)))/\(xs.map (·.1)).Nodup
 | .set S n=>h.SetOf (intKind P w) a S n
 | .ins C dx fs=>H dx=some (.own a)/\fs.length<=1000/\dx≠a/\h.get? a=some (Qk C dx) ∧
   ∃mA,h.Ns1 dx mA/\(∀f,RelO (fs.lookup f) (mA f))/\PySem.Within mA (fs.map (·.1))
 | .own _=> ∃o,h.get? a=some o
 | .xd fs=> ∃mA,h.Ns1 a mA/\∀f,RelO (fs.lookup f) (mA f)
 | .rng lo hi=> ∃t u v,h.get? a=some { cls:=.type "range",data:=.fields #[.int lo t,.int hi u,.int 1 v] }
 | .frz o u=>h.get? a=some o/\ObjOk H h a u
 | .tbl ps=>h.get? a=some { cls:=.none,data:=.fields ps }
 | .met f x=>h.get? a=some (Pt (.ref f) (.ref x))
 | .ext φ=>φ h/\(∃o,h.get? a=some o)/\∀h1 h2:Heap,φ h1->(∀o,h1.get? a=some o->h2.get? a=some o)->φ h2
def HOk (H:Hp)(h:Heap):Prop:=∀a o,H a=some o->ObjOk P w H h a o
end
section
variable {P:J9}{w:Kx}{H H':Hp}{h h':Heap}{a:Addr}{o:HO}
theorem ObjOk.lt (x:ObjOk P w H h a o):a<h.objs.size:=by
 cases o with
 | lst xs=>obtain⟨_,_,_,_,e⟩:=x;exact JV e
 | tup xs=>obtain⟨_,_,_,p⟩:=x;exact p.lt
 | dK kvs=>obtain⟨_,_,_,_,o,_,_,e,_⟩:=x;exact JV e
 | dT kvs=>obtain⟨_,_,_,_,o,_,_,e,_⟩:=x;exact JV e
 | set S n=>obtain⟨o,_,_,_,e,_⟩:=x;exact JV e
 | ins C dx fs=>obtain⟨_,_,_,e,_⟩:=x;exact JV e
 | own y=>obtain⟨_,e⟩:=x;exact JV e
 | xd fs=>obtain⟨_,⟨_,_,_,e,_⟩,_⟩:=x;exact JV e
 | rng lo hi=>obtain⟨_,_,_,e⟩:=x;exact JV e
 | frz ob u=>obtain⟨e,_⟩:=x;exact JV e
 | tbl ps=>exact JV (show h.get? a=some _ from x)
 | met f y=>exact JV (show h.get? a=some _ from x)
 | ext φ=>obtain⟨_,⟨_,e⟩,_⟩:=x;exact JV e
theorem Paired.Jj {α β:Type}{F G:α->β->Prop}:∀{l₁:List α} {l₂:List β},Td F l₁ l₂->(∀a b,F a b->G a b)->Td G l₁ l₂
 | _,_,.nil,_=> .nil
 | _,_,.cons r t,f=> .cons (f _ _ r) (Paired.Jj t f)
theorem ObjOk.IW (x:ObjOk P w H h a o)(k:∀b u,(b=a\/H b=some (.own a))->h.get? b=some u->h'.get? b=some u)
  (ho:∀b,H b=some (.own a)->H' b=some (.own a)) (ht:∀b xs,H b=some (.tup xs)->H' b=some (.tup xs)):ObjOk P w H' h' a o:=by
 induction o with
 | lst xs=>obtain⟨z,its,n,r,e⟩:=x;exact⟨z,its,n,r,k _ _ (.inl rfl) e⟩
 | tup xs=>obtain⟨z,its,r,ob,e,c⟩:=x;exact⟨z,its,r,ob,k _ _ (.inl rfl) e,c⟩
 | dK kvs=>obtain⟨z,y,vs,r,ob,es,ep,e,c⟩:=x;exact⟨z,y,vs,r,ob,es,ep,k _ _ (.inl rfl) e,c⟩
 | dT kvs=>
  obtain⟨z,y,xs,r,ob,es,ep,e,c⟩:=x
  exact⟨z,y,xs,Paired.Jj r λp q z=>⟨z.1,ht _ _ z.2.1,z.2.2⟩,ob,es,ep,k _ _ (.inl rfl) e,c⟩
 | set S n=>obtain⟨ob,es,ep,t,e,c⟩:=x;exact⟨ob,es,ep,t,k _ _ (.inl rfl) e,c⟩
 | ins C dx fs=>
  obtain⟨d,z,ne,e,mA,⟨od,es,ep,e2,c⟩,r⟩:=x
  exact⟨ho _ d,z,ne,k _ _ (.inl rfl) e,mA,⟨od,es,ep,k _ _ (.inr d) e2,c⟩,r⟩
 | own y=>obtain⟨ob,e⟩:=x;exact⟨ob,k _ _ (.inl rfl) e⟩
 | xd fs=>obtain⟨mA,⟨od,es,ep,e,c⟩,r⟩:=x;exact⟨mA,⟨od,es,ep,k _ _ (.inl rfl) e,c⟩,r⟩
 | rng lo hi=>obtain⟨t,u,v,e⟩:=x;exact⟨t,u,v,k _ _ (.inl rfl) e⟩
 | frz ob u ih=>obtain⟨e,q⟩:=x;exact⟨k _ _ (.inl rfl) e,ih q⟩
 | tbl ps=>
  have e:h.get? a=some { cls:=.none,data:=.fields ps }:=x
  show h'.get? a=some { cls:=.none,data:=.fields ps }
  exact k a _ (.inl rfl) e
 | met f y=>
  have e:h.get? a=some (Pt (.ref f) (.ref y)):=x
  show h'.get? a=some (Pt (.ref f) (.ref y))
  exact k a _ (.inl rfl) e
 | ext φ=>obtain⟨p,⟨o,e⟩,st⟩:=x;exact⟨st _ _ p λo q=>k _ _ (.inl rfl) q,⟨o,k _ _ (.inl rfl) e⟩,st⟩
theorem HOk.lt (x:HOk P w H h)(e:H a=some o):a<h.objs.size:=(x a o e).lt
theorem HOk.fresh (x:HOk P w H h)(e:h.objs.size<=a):H a=none:=by
 cases q:H a with
 | none=>rfl
 | some u=>exact absurd (JY (x.lt q) e) (Ki _)
theorem HOk.kept (x:HOk P w H h)(k:∀b u,h.get? b=some u->h'.get? b=some u):HOk P w H h':=λa o e=>
 (x a o e).IW (λb u _ q=>k b u q) (λ_ q=>q) λ_ _ q=>q
theorem HOk.laid (x:HOk P w H h)(k:∀b u,h.get? b=some u->h'.get? b=some u)(hp:h.objs.size<=a)(new:ObjOk P w (upd H a o) h' a o):HOk P w (upd H a o) h':=λb u e=>by
 have hn:=x.fresh hp
 by_cases hb:b=a
 ·subst hb;rw[bc]at e;cases e;exact new
 ·rw[aQ hb]at e
  exact(x b u e).IW (λc v _ q=>k c v q) (λc q=>by rw[aQ (bO q hn)];exact q) λc xs q=>by rw[aQ (bO q hn)];exact q
end
def Rd (H:Hp)(a:Addr)(u:HO):Prop:=H a=some u\/∃o,H a=some (.frz o u)
theorem Rd.ok {P:J9}{w:Kx}{H:Hp}{h:Heap}{a:Addr}{u:HO}(r:Rd H a u)(x:HOk P w H h):ObjOk P w H h a u:=by
 rcases r with r | ⟨o,r⟩
 ·exact x a u r
 ·obtain⟨_,q⟩:=x a _ r
  exact q
def Ik:Option HO->Prop
 | some (.lst _)=>True
 | some (.dK _)=>True
 | some (.dT _)=>True
 | some (.set _ _)=>True
 | some (.ins _ _ _)=>True
 | some (.ext _)=>True
 | _=>False
section
variable {P:J9}{w:Kx}{H:Hp}{h h':Heap}{x e:Addr}{o':HO}
theorem HOk.write (ok:HOk P w H h)(mu:Ik (H x))(he:e=x\/H e=some (.own x))(k:∀b u,b≠e->h.get? b=some u->h'.get? b=some u)(heo:∃u,h'.get? e=some u)
  (new:ObjOk P w (upd H x o') h' x o'):HOk P w (upd H x o') h':=λb u q=>by
 have nown:∀c y,H c=some (.own y)->c≠x:=λc y r z=>by subst z;rw[r]at mu;exact mu
 have ntup:∀c xs,H c=some (.tup xs)->c≠x:=λc xs r z=>by subst z;rw[r]at mu;exact mu
 by_cases hb:b=x
 ·subst hb;rw[bc]at q;cases q;exact new
 ·rw[aQ hb]at q
  by_cases hbe:b=e
  ·have q':H b=some (.own x):=by
    rcases he with z | z
    ·exact absurd (hbe.trans z) hb
    ·rw[hbe];exact z
   rw[q]at q';cases q';obtain⟨v,hv⟩:=heo;exact⟨v,by rw[hbe];exact hv⟩
  ·refine(ok b u q).IW (λc v hc r=>k c v ?_ r) (λc r=>by rw[aQ (nown c b r)];exact r) λc xs r=>by rw[aQ (ntup c xs r)];exact r
   rcases hc with rfl | hc
   ·exact hbe
   ·rintro rfl
    rcases he with z | z
    ·exact nown c b hc z
    ·rw[hc]at z;cases z;exact hb rfl
end
structure Un (fs ex:List Addr)(H H':Hp)(h h':Heap):Prop where
 keep:∀b o,h.get? b=some o->H b=none->b∉fs->b∉ex->h'.get? b=some o
 slot:∀b o,h.get? b=some o->H b=none->b∈fs->b∉ex->∃sl,h'.get? b=some { o with slots:=sl }
 free:∀b o,h.get? b=some o->H b=none->b∉ex->H' b=none
 there:∀b o,h.get? b=some o->b∉ex->∃o',h'.get? b=some o'
 tups:∀b xs,H b=some (.tup xs)->H' b=some (.tup xs)
 frzs:∀b o u,H b=some (.frz o u)->H' b=some (.frz o u)
 tbls:∀b ps,H b=some (.tbl ps)->∃more,H' b=some (.tbl (ps++more))
section
variable {fs fs' ex ex':List Addr}{H H1 H2:Hp}{h h1 h2 h':Heap}{a x e:Addr}{o:HO}
theorem Un.any (u:Un fs ex H H1 h h1){b:Addr}{ob:Obj}(q:h.get? b=some ob)(n:H b=none)(hx:b∉ex):∃sl,h1.get? b=some { ob with slots:=sl }:=by
 by_cases hb:b∈fs
 ·exact u.slot b ob q n hb hx
 ·exact⟨ob.slots,u.keep b ob q n hb hx⟩
theorem Un.kept (k:∀b u,h.get? b=some u->h'.get? b=some u):Un fs ex H H h h':=
 ⟨λb ob q _ _ _=>k b ob q,λb ob q _ _ _=>⟨ob.slots,k b ob q⟩,λ_ _ _ n _=>n,λb ob q _=>⟨ob,k b ob q⟩,λ_ _ q=>q,λ_ _ _ q=>q,λ_ ps q=>⟨#[],by rw[q];simp⟩⟩
theorem Un.refl:Un fs ex H H h h:=Un.kept λ_ _ q=>q
theorem Un.laid (k:∀b u,h.get? b=some u->h'.get? b=some u)(hp:h.objs.size<=a)(hn:H a=none):Un fs ex H (upd H a o) h h' where
 keep:=λb u q _ _ _=>k b u q
 slot:=λb u q _ _ _=>⟨u.slots,k b u q⟩
 free:=λb u q n _=>by rw[aQ (J7 (JY (JV q) hp))];exact n
 there:=λb u q _=>⟨u,k b u q⟩
 tups:=λb xs q=>by rw[aQ (bO q hn)];exact q
 frzs:=λb u xs q=>by rw[aQ (bO q hn)];exact q
 tbls:=λb ps q=>⟨#[],by rw[aQ (bO q hn),q];simp⟩
theorem Un.write (mu:Ik (H x))(he:e=x\/H e=some (.own x))(k:∀b u,b≠e->h.get? b=some u->h'.get? b=some u)(heo:∃u,h'.get? e=some u):Un fs ex H (upd H x o) h h':=by
 have hx:∀b,H b=none->b≠x:=λb n z=>by subst z;rw[n]at mu;exact mu
 have hb:∀b,H b=none->b≠e:=λb n z=>by
  subst z;rcases he with r | r
  ·exact hx b n r
  ·rw[n]at r;cases r
 have hm:∀b u,H b=some u->¬ Ik (some u)->b≠x:=λb u q nm z=>by subst z;rw[q]at mu;exact nm mu
 refine⟨λb u q n _ _=>k b u (hb b n) q,λb u q n _ _=>⟨u.slots,k b u (hb b n) q⟩,λb u q n _=>by rw[aQ (hx b n)];exact n,λb u q _=> ?_,
  λb xs q=>by rw[aQ (hm b _ q λz=>z)];exact q,λb u xs q=>by rw[aQ (hm b _ q λz=>z)];exact q,λb ps q=>⟨#[],by rw[aQ (hm b _ q λz=>z),q];simp⟩⟩
 by_cases hbe:b=e
 ·subst hbe;exact heo
 ·exact⟨u,k b u hbe q⟩
end
def trk (h:Heap)(H:Hp):List Addr:=(J2 h.objs.size).filter λa=>(H a).isSome
def qg (h:Heap)(H:Hp):Heap:=SK h (trk h H)
theorem xv (h:Heap)(H:Hp):(qg h H).objs.size=h.objs.size:=PySem.W.hideAll_size _ _
theorem Ab {h:Heap}{H:Hp}{b:Addr}{o:Obj}(e:h.get? b=some o)(n:H b=none):(qg h H).get? b=some o:=
 OI _ e λhm=>by
  have q:(H b).isSome=true:=(Kt.mp hm).2;rw[n]at q;simp at q
theorem Ck {h:Heap}{H:Hp}{b:Addr}{o:Obj}(e:(qg h H).get? b=some o):h.get? b=some o/\H b=none:=by
 have e':h.get? b=some o:=Q5 (trk h H) e;refine⟨e',?_⟩
 cases q:H b with
 | none=>rfl
 | some x=>
  have hm:b∈trk h H:=Kt.mpr ⟨Kz.mpr (JV e'),by simp[q]⟩
  have z:(qg h H).get? b=none:=QD (trk h H) hm;rw[z]at e;cases e
def C6 (g h:Heap)(L:Addr):List (Addr×Obj):=(J2 h.objs.size).filterMap λa=>if a=L\/(g.get? a).isSome=true then none else(h.get? a).map λo=>(a,o)
def bq (g h:Heap)(L d:Addr):List (Addr×Obj):=(C6 g h L).filter λp=>decide (p.1≠d)
structure Mod (K:JH)(mg:Str->Option JK)(base:Heap):Prop where
 kin:K.In base
 glob:base.Ns Kw mg
 blt:∃mb,base.Ns PJ mb/\∀x:Str,x≠ "__name__"->mb x=Ky x
 nolimit:base.NoLimit
structure Cx where
 prog:J9
 w:Kx
 K:JH
 mg:Str->Option JK
 base:Heap
 A:Km
 N:List Str
 s₀:JL
 H₀:Hp
 env:Env
 outer:List Env
 stack:List Env
 ex:List Addr
 fn:Str->Bool
 calm:Bool
 pn:List (Addr×Obj)
 xe:JK->JL->Prop
def qh (l:List Env):List Addr:=l.filterMap (·.frame)
abbrev Cx.fs (X:Cx):List Addr:=qh X.outer
def xT (sc:NR)(x:Str):Prop:=sc.names.lookup x=some .local\/sc.names.lookup x=some .cell\/sc.names.lookup x=some .free
def Loc (sc:NR)(x:Str):Prop:=sc.names.lookup x=some .local\/sc.names.lookup x=some .cell
def Look (env:Env)(h:Heap)(m:Str->Option JK)(x:Str)(u:JK):Prop:=
 (env.kindOf x=some .local/\m x=some u)\/((env.kindOf x=some .cell\/env.kindOf x=some .free)/\∃c,env.cells.lookup x=some c/\h.IsCell c (some u))
structure Cx.Ok (X:Cx):Prop where
 mod:Mod X.K X.mg X.base
 kind:X.env.scope.kind= .function
 glob:X.env.globals=Kw
 blt:X.env.builtins=PJ
 above:X.s₀.heap.objs.size<=X.env.locals
 inj:∀x y c,X.env.cells.lookup x=some c->X.env.cells.lookup y=some c->x=y
 has:∀x,(X.env.kindOf x=some .cell\/X.env.kindOf x=some .free)->∃c,X.env.cells.lookup x=some c
 cab:∀x c,X.fn x=true->X.env.cells.lookup x=some c->X.s₀.heap.objs.size<=c
 hd:X.calm=true->X.A.handled=none
 frames:X.A.frames=some X.stack
 stk:X.stack=X.outer\/(X.stack=X.env::X.outer/\X.env.frame=some X.env.locals)
 exf:∀b∈X.ex,b≠X.env.locals/\∀x c,X.env.cells.lookup x=some c->c≠b
 bs:∀b o,X.base.get? b=some o->X.s₀.heap.get? b=some o/\X.H₀ b=none
 bsz:X.base.objs.size<=X.s₀.heap.objs.size
 noex:∀b o,X.base.get? b=some o->b∉X.ex
 exfs:∀b∈X.ex,b∉X.fs
 funs:X.s₀.heap.FunFrames X.base X.outer
 frf:∀b∈X.fs,X.H₀ b=none
structure Inv (X:Cx)(pins:List (Addr×Obj))(σ:List (Option V))(H:Hp)(s:JL):Prop where
 ok:X.Ok
 os:s.os=X.s₀.os
 bare:PY s.gens
 base:Un X.fs X.ex X.H₀ H X.s₀.heap s.heap
 loc:∃m,s.heap.Ns X.env.locals m/\∀(i:Nat) (x:Str) (v:V),X.N[i]? =some x->σ[i]? =some (some v)->xT X.env.scope x->∃u,RelV v u/\Look X.env s.heap m x u
 cell:∀x c,X.env.cells.lookup x=some c->∃v,s.heap.IsCell c v
 free:H X.env.locals=none
 freeC:∀x c,X.env.cells.lookup x=some c->H c=none
 pin:∀p∈X.pn++pins,s.heap.get? p.1=some p.2/\H p.1=none/\p.1≠X.env.locals/\p.1∉X.fs/\∀v,p.2.data≠ .cell v
 hok:HOk X.prog X.w H s.heap
 len:σ.length=X.N.length
section
variable {X:Cx}{pins:List (Addr×Obj)}{σ:List (Option V)}{H H':Hp}{s:JL}{h':Heap}
theorem Cx.Ok.JC (ok:X.Ok){b:Addr}{o:Obj}(e:X.base.get? b=some o):b∉X.fs:=λhb=>by
 have:=(ok.funs.mem hb).1;rw[e]at this;cases this
theorem Inv.bs (I:Inv X pins σ H s):∀b o,X.base.get? b=some o->s.heap.get? b=some o/\H b=none:=λb o e=>
 ⟨I.base.keep b o (I.ok.bs b o e).1 (I.ok.bs b o e).2 (I.ok.JC e) (I.ok.noex b o e),I.base.free b o (I.ok.bs b o e).1 (I.ok.bs b o e).2 (I.ok.noex b o e)⟩
theorem Inv.bk (I:Inv X pins σ H s):∀b o,X.base.get? b=some o->s.heap.get? b=some o:=λb o e=>(I.bs b o e).1
theorem Inv.mod (I:Inv X pins σ H s):Mod X.K X.mg X.base:=I.ok.mod
theorem Inv.kIn (I:Inv X pins σ H s):X.K.In s.heap:=I.ok.mod.kin.keeps I.bk
theorem Inv.lt (I:Inv X pins σ H s):X.env.locals<s.heap.objs.size:=let ⟨_,hn,_⟩:=I.loc;hn.lt
theorem Inv.sz (I:Inv X pins σ H s):X.s₀.heap.objs.size<=s.heap.objs.size:=Kf I.ok.above (LU I.lt)
theorem Inv.JD (I:Inv X pins σ H s){a:Addr}(h:s.heap.objs.size<=a):a∉X.fs:=λhb=>by
 obtain⟨_,o,ho,_⟩:=I.ok.funs.mem hb;exact absurd (JY (JV ho) (Kf I.sz h)) (Ki _)
theorem Inv.cne (I:Inv X pins σ H s):∀x c,X.env.cells.lookup x=some c->c≠X.env.locals:=λx c e z=>by
 obtain⟨v,o,ho,hd⟩:=I.cell x c e;obtain⟨m,⟨o',es,ep,ho',hd',_⟩,_⟩:=I.loc;rw[z,ho']at ho;cases ho;rw[hd']at hd;cases hd
theorem Inv.funs (I:Inv X pins σ H s):s.heap.FunFrames X.base X.outer:=by
 have all:∀(l:List Env),(∀b∈qh l,b∈X.fs)->X.s₀.heap.FunFrames X.base l->s.heap.FunFrames X.base l:=by
  intro l
  induction l with
  | nil=>intro _ _;trivial
  | cons env r ih=>
   intro hs hl;obtain⟨hk,⟨L,o,hf,hn,ho,hd⟩,hr⟩:=hl
   have hL:L∈X.fs:=hs L (by unfold qh;rw[KW,hf];exact JO)
   obtain⟨sl,e⟩:=I.base.slot L o ho (I.ok.frf L hL) hL λz=>I.ok.exfs L z hL
   exact⟨hk,⟨L,_,hf,hn,e,hd⟩,ih (λb hb=>hs b (by unfold qh;rw[KW,hf];exact JJ _ hb)) hr⟩
 exact all X.outer (λ_ hb=>hb) I.ok.funs
theorem Inv.stack (I:Inv X pins σ H s):s.heap.FunFrames X.base X.stack:=by
 rcases I.ok.stk with e | ⟨e,hf⟩
 ·rw[e];exact I.funs
 ·rw[e]
  obtain⟨m,hn,_⟩:=I.loc;refine .cons (by rw[I.ok.kind];decide) hf hn ?_ I.funs
  exact Heap.get?_none_of_le (Kf I.ok.bsz I.ok.above)
theorem Inv.Jb (I:Inv X pins σ H s):∀b∈qh X.stack,b∈X.env.locals::X.fs:=λb hb=>by
 rcases I.ok.stk with e | ⟨e,hf⟩
 ·rw[e]at hb;exact JJ _ hb
 ·rw[e]at hb
  unfold qh at hb;rw[KW,hf]at hb;exact hb
theorem Inv.IX (I:Inv X pins σ H s):∀b∈qh X.stack,H b=none:=λb hb=>by
 rcases JT.mp (I.Jb b hb)with e | hb
 ·rw[e];exact I.free
 ·obtain⟨_,o,ho,_⟩:=I.ok.funs.mem hb
  exact I.base.free b o ho (I.ok.frf b hb) λz=>I.ok.exfs b z hb
theorem Inv.step {g':Array SI}{t':Nat}{d':Drawn}{ch:List Addr}(I:Inv X pins σ H s)
  (hch:∀b∈ch,(b∈X.ex\/X.s₀.heap.objs.size<=b)/\b≠X.env.locals/\(∀x c,X.env.cells.lookup x=some c->c≠b)/\∀p∈X.pn++pins,p.1≠b)
  (keep:∀b o,b≠X.env.locals->b∉X.fs->b∉ch->s.heap.get? b=some o->H b=none->h'.get? b=some o)
  (slot:∀b o,b≠X.env.locals->b∈X.fs->b∉ch->s.heap.get? b=some o->H b=none->∃sl,h'.get? b=some { o with slots:=sl }) (free:∀b o,b∉ch->s.heap.get? b=some o->H b=none->H' b=none)
  (there:∀b o,b∉ch->s.heap.get? b=some o->∃o',h'.get? b=some o')
  (tups:∀b xs,H b=some (.tup xs)->H' b=some (.tup xs)) (frzs:∀b o u,H b=some (.frz o u)->H' b=some (.frz o u)) (tbls:∀b ps,H b=some (.tbl ps)->∃more,H' b=some (.tbl (ps++more)))
  (ns:∀m,s.heap.Ns X.env.locals m->h'.Ns X.env.locals m) (hok:HOk X.prog X.w H' h') (hg:PY g') :
  Inv X pins σ H' { s with heap:=h',gens:=g',drawn:=d',toks:=t' }:=by
 have neL:∀b o,X.s₀.heap.get? b=some o->b≠X.env.locals:=λb o e=>J7 (JY (JV e) I.ok.above)
 have neC:∀b o,X.s₀.heap.get? b=some o->b∉X.ex->b∉ch:=λb o e hx hb=>by
  rcases(hch b hb).1 with z | z
  ·exact hx z
  ·exact absurd (JY (JV e) z) (Ki _)
 have cellK:∀x c,X.env.cells.lookup x=some c->∀v,s.heap.IsCell c v->h'.IsCell c v:=λx c e v hh_=>by
  obtain⟨o,ho,hd⟩:=hh_
  have nch:c∉ch:=λz=>(hch c z).2.2.1 x c e rfl
  by_cases hc:c∈X.fs
  ·obtain⟨sl,q⟩:=slot c o (I.cne x c e) hc nch ho (I.freeC x c e)
   exact⟨_,q,hd⟩
  ·exact⟨o,keep c o (I.cne x c e) hc nch ho (I.freeC x c e),hd⟩
 refine⟨I.ok,I.os,hg,⟨λb o e n hb hx=> ?_,λb o e n hb hx=> ?_,λb o e n hx=> ?_,λb o e hx=> ?_,λb xs e=>tups b xs (I.base.tups b xs e),λb o xs e=>frzs b o xs (I.base.frzs b o xs e),λb ps e=> ?_⟩,?_,λx c e=> ?_,?_,λx c e=> ?_,λp hp=> ?_,hok,I.len⟩
 ·exact keep b o (neL b o e) hb (neC b o e hx) (I.base.keep b o e n hb hx) (I.base.free b o e n hx)
 ·obtain⟨sl,e1⟩:=I.base.slot b o e n hb hx
  obtain⟨sl',e2⟩:=slot b _ (neL b o e) hb (neC b o e hx) e1 (I.base.free b o e n hx);exact⟨sl',e2⟩
 ·obtain⟨o',e1⟩:=I.base.there b o e hx
  exact free b o' (neC b o e hx) e1 (I.base.free b o e n hx)
 ·obtain⟨o',e1⟩:=I.base.there b o e hx
  exact there b o' (neC b o e hx) e1
 ·obtain⟨m1,e1⟩:=I.base.tbls b ps e
  obtain⟨m2,e2⟩:=tbls b _ e1;exact⟨m1++m2,by rw[e2,Array.append_assoc]⟩
 ·obtain⟨m,hn,hl⟩:=I.loc
  refine⟨m,ns m hn,λi x v e1 e2 e3=> ?_⟩
  obtain⟨u,r,l⟩:=hl i x v e1 e2 e3;refine⟨u,r,?_⟩
  rcases l with l | ⟨k,c,e,z⟩
  ·exact .inl l
  ·exact .inr ⟨k,c,e,cellK x c e _ z⟩
 ·obtain⟨v,z⟩:=I.cell x c e
  exact⟨v,cellK x c e v z⟩
 ·obtain⟨m,⟨o,_,_,ho,_⟩,_⟩:=I.loc
  exact free _ o (λz=>(hch _ z).2.1 rfl) ho I.free
 ·obtain⟨v,o,ho,hd⟩:=I.cell x c e
  exact free c o (λz=>(hch c z).2.2.1 x c e rfl) ho (I.freeC x c e)
 ·obtain⟨e,n,ne,nf,d⟩:=I.pin p hp
  have nch:p.1∉ch:=λz=>(hch p.1 z).2.2.2 p hp rfl
  exact⟨keep p.1 p.2 ne nf nch e n,free p.1 p.2 nch e n,ne,nf,d⟩
theorem Inv.un {t':Nat}(I:Inv X pins σ H s)(u:Un X.fs [] H H' s.heap h')(hok:HOk X.prog X.w H' h'):Inv X pins σ H' { s with heap:=h',toks:=t' }:=by
 obtain⟨m,⟨o,es,ep,ho,r⟩,_⟩:=id I.loc;obtain⟨sl,hL⟩:=u.any ho I.free (by simp)
 exact I.step (g':=s.gens) (d':=s.drawn) (ch:=[]) (λ_ z=>nomatch z) (λb o _ hb _ e n=>u.keep b o e n hb (by simp)) (λb o _ hb _ e n=>u.slot b o e n hb (by simp)) (λb o _ e n=>u.free b o e n (by simp)) (λb o _ e=>u.there b o e (by simp)) u.tups u.frzs u.tbls (λm' hm=>by
  obtain⟨o',es',ep',ho',r'⟩:=hm;rw[ho]at ho';cases ho';exact⟨_,es',ep',hL,r'⟩) hok I.bare
theorem Inv.call {g':Array SI}{t':Nat}{d':Drawn}{ch:List Addr}(I:Inv X pins σ H s)(u:Un (qh X.stack) ch H H' s.heap h')(hok:HOk X.prog X.w H' h')(hg:PY g')
  (hch:∀b∈ch,(b∈X.ex\/X.s₀.heap.objs.size<=b)/\b≠X.env.locals/\(∀x c,X.env.cells.lookup x=some c->c≠b)/\∀p∈X.pn++pins,p.1≠b) :
  Inv X pins σ H' { s with heap:=h',gens:=g',drawn:=d',toks:=t' }:=by
 obtain⟨m,⟨o,es,ep,ho,r⟩,_⟩:=id I.loc;obtain⟨sl,hL⟩:=u.any ho I.free λz=>(hch _ z).2.1 rfl
 exact I.step (ch:=ch) hch (λb o hL hb hc e n=>u.keep b o e n (λz=>(JT.mp (I.Jb b z)).elim hL hb) hc) (λb o _ _ hc e n=>u.any e n hc) (λb o hc e n=>u.free b o e n hc) (λb o hc e=>u.there b o e hc) u.tups u.frzs u.tbls (λm' hm=>by
  obtain⟨o',es',ep',ho',r'⟩:=hm;rw[ho]at ho';cases ho';exact⟨_,es',ep',hL,r'⟩) hok hg
theorem Inv.turned {t':Nat}{it:Addr}(I:Inv X pins σ H s)(k:∀b o,b≠it->s.heap.get? b=some o->h'.get? b=some o)(hn:H it=none)(hL:it≠X.env.locals)
  (h1:it∈X.ex\/X.s₀.heap.objs.size<=it) (h2:∀x c,X.env.cells.lookup x=some c->c≠it) (h3:∀p∈X.pn++pins,p.1≠it):Inv X pins σ H { s with heap:=h',toks:=t' }:=by
 have nit:∀b u,H b=some u->b≠it:=λb u e z=>by rw[z,hn]at e;cases e
 refine I.step (g':=s.gens) (d':=s.drawn) (ch:=[it]) (λb hb=> ?_) (λb o _ _ hc e _=>k b o (λz=>hc (by simp[z])) e) (λb o _ _ hc e _=>⟨o.slots,k b o (λz=>hc (by simp[z])) e⟩) (λ_ _ _ _ n=>n)
  (λb o hc e=>⟨o,k b o (λz=>hc (by simp[z])) e⟩) (λ_ _ e=>e) (λ_ _ _ e=>e) (λb ps e=>⟨#[],by rw[e];simp⟩) (λm hm=> ?_) (λb u e=> ?_) I.bare
 ·have e:b=it:=by simpa using hb
  subst e;exact⟨h1,hL,h2,h3⟩
 ·obtain⟨o,es,ep,ho,r⟩:=hm
  exact⟨o,es,ep,k _ o (MS hL) ho,r⟩
 ·refine(I.hok b u e).IW (λc v hc q=>k c v ?_ q) (λ_ q=>q) λ_ _ q=>q
  rcases hc with z | z
  ·rw[z];exact nit b u e
  ·exact nit c _ z
theorem Inv.tok (I:Inv X pins σ H s)(t:Nat):Inv X pins σ H { s with toks:=t }:=I.un (h':=s.heap) (t':=t) Un.refl I.hok
theorem Inv.kept {t':Nat}(I:Inv X pins σ H s)(k:∀b u,s.heap.get? b=some u->h'.get? b=some u):Inv X pins σ H { s with heap:=h',toks:=t' }:=I.un (Un.kept k) (I.hok.kept k)
theorem Inv.laid {a:Addr}{o:HO}{t':Nat}(I:Inv X pins σ H s)(k:∀b u,s.heap.get? b=some u->h'.get? b=some u)(hp:s.heap.objs.size<=a)(new:ObjOk X.prog X.w (upd H a o) h' a o) :
  Inv X pins σ (upd H a o) { s with heap:=h',toks:=t' }:=I.un (Un.laid k hp (I.hok.fresh hp)) (I.hok.laid k hp new)
theorem Inv.write {x e:Addr}{o:HO}{t':Nat}(I:Inv X pins σ H s)(mu:Ik (H x))(he:e=x\/H e=some (.own x))(k:∀b u,b≠e->s.heap.get? b=some u->h'.get? b=some u)(heo:∃u,h'.get? e=some u)
  (new:ObjOk X.prog X.w (upd H x o) h' x o):Inv X pins σ (upd H x o) { s with heap:=h',toks:=t' }:=I.un (Un.write mu he k heo) (I.hok.write mu he k heo new)
theorem Inv.Jc {pins':List (Addr×Obj)}(I:Inv X pins σ H s)(h:∀p∈pins',s.heap.get? p.1=some p.2/\H p.1=none/\p.1≠X.env.locals/\p.1∉X.fs/\∀v,p.2.data≠ .cell v):Inv X pins' σ H s:=
 ⟨I.ok,I.os,I.bare,I.base,I.loc,I.cell,I.free,I.freeC,λp hp=>(Kg.mp hp).elim (λz=>I.pin p (K6 _ z)) (h p),I.hok,I.len⟩
theorem rP {N:List Str}(hN:N.Nodup){i j:Nat}{x:Str}(a:N[i]? =some x)(b:N[j]? =some x):i=j:=by
 obtain⟨h1,e1⟩:=J4.mp a
 obtain⟨h2,e2⟩:=J4.mp b
 exact(List.getElem_inj hN).mp (e1.trans e2.symm)
theorem nJ {M:Model}{A:Km}{E:JK->JL->Prop}{i:Nat}{x:Str}{v:V}{u:JK}{Q:Unit->JL->Prop}(I:Inv X pins σ H s)(hN:X.N.Nodup)(hi:X.N[i]? =some x)(hx:Loc X.env.scope x)(r:RelV v u)
  (h:∀s',Inv X pins (σ.set i (some v)) H s'->(∃a,MF a s.heap s'.heap/\(a=X.env.locals\/X.env.cells.lookup x=some a))->Q () s') (hf:autoParam (X.fn x=true\/X.env.scope.names.lookup x=some .local) r_):wpAny M A (storeName X.env x u) Q E s:=by
 obtain⟨m,hn,hl⟩:=id I.loc
 have hcls:(X.env.scope.kind == .class||(X.env.scope.kind == .module&&X.env.locals != X.env.globals))=false:=by rw[I.ok.kind];rfl
 have hiσ:i<σ.length:=by rw[I.len];exact(J4.mp hi).1
 have cne:=I.cne
 have tracked:∀{a:Addr} {h':Heap},(∃o,s.heap.get? a=some o/\H a=none)->MF a s.heap h'->HOk X.prog X.w H h':=λ{a h'} ha hs b ob e=>by
  obtain⟨_,_,hfree⟩:=ha;refine(I.hok b ob e).IW (λc w' hc q=>(hs.2 c ?_).trans q) (λ_ q=>q) λ_ _ q=>q
  rintro rfl
  rcases hc with rfl | hc
  ·rw[hfree]at e;cases e
  ·rw[hfree]at hc;cases hc
 rcases hx with hk | hk
 ·refine wpAny_storeName_local hk hn (λh' hn' hs=> ?_) hcls
  obtain⟨oL,_,_,hoL,_⟩:=id hn;refine h _ ⟨I.ok,I.os,I.bare,⟨λb o e n hb hx=> ?_,λb o e n hb hx=> ?_,I.base.free,λb o e hx=> ?_,I.base.tups,I.base.frzs,I.base.tbls⟩,⟨_,hn',λj y v' e1 e2 e3=> ?_⟩,λy c e=> ?_,I.free,I.freeC,λp hp=> ?_,tracked ⟨oL,hoL,I.free⟩ hs,by simpa using I.len⟩ ⟨_,hs,.inl rfl⟩
  ·exact(hs.2 b (J7 (JY (JV e) I.ok.above))).trans (I.base.keep b o e n hb hx)
  ·obtain⟨sl,e1⟩:=I.base.slot b o e n hb hx
   exact⟨sl,(hs.2 b (J7 (JY (JV e) I.ok.above))).trans e1⟩
  ·obtain⟨o',e1⟩:=I.base.there b o e hx
   exact⟨o',(hs.2 b (J7 (JY (JV e) I.ok.above))).trans e1⟩
  ·by_cases hj:j=i
   ·subst hj
    rw[hi]at e1;cases e1;rw[Ko hiσ]at e2
    cases e2;exact⟨u,r,.inl ⟨hk,by simp⟩⟩
   ·rw[Kj (MS hj)]at e2
    obtain⟨u',r',q⟩:=hl j y v' e1 e2 e3;refine⟨u',r',?_⟩
    rcases q with⟨k,e⟩ | ⟨k,c,e,z⟩
    ·refine .inl ⟨k,?_⟩
     have:y≠x:=λe=>hj (rP hN e1 (e▸hi))
     simp[this,e]
    ·exact .inr ⟨k,c,e,z.sameBut hs (cne y c e)⟩
  ·obtain⟨w',z⟩:=I.cell y c e
   exact⟨w',z.sameBut hs (cne y c e)⟩
  ·obtain⟨e,n,ne,nf,d⟩:=I.pin p hp
   exact⟨(hs.2 p.1 ne).trans e,n,ne,nf,d⟩
 ·have hfn:X.fn x=true:=by
   rcases hf with z | z
   ·exact z
   ·rw[z]at hk;cases hk
  obtain⟨c,hc⟩:=I.ok.has x (.inl hk);obtain⟨w',z⟩:=I.cell x c hc;refine wpAny_storeName_cell I.ok.kind hk hc z (λh' hc' hs=> ?_)
  obtain⟨oc,hoc,hocd⟩:=id z;refine h { s with heap:=h' } ⟨I.ok,I.os,I.bare,⟨λb o e n hb hx=> ?_,λb o e n hb hx=> ?_,I.base.free,λb o e hx=> ?_,I.base.tups,I.base.frzs,I.base.tbls⟩,⟨m,hn.sameBut hs (MS (cne x c hc)),λj y v' e1 e2 e3=> ?_⟩,λy c' e=> ?_,I.free,I.freeC,λp hp=> ?_,tracked ⟨oc,hoc,I.freeC x c hc⟩ hs,by simpa using I.len⟩ ⟨c,hs,.inr hc⟩
  ·exact(hs.2 b (J7 (JY (JV e) (I.ok.cab x c hfn hc)))).trans (I.base.keep b o e n hb hx)
  ·obtain⟨sl,e1⟩:=I.base.slot b o e n hb hx
   exact⟨sl,(hs.2 b (J7 (JY (JV e) (I.ok.cab x c hfn hc)))).trans e1⟩
  ·obtain⟨o',e1⟩:=I.base.there b o e hx
   exact⟨o',(hs.2 b (J7 (JY (JV e) (I.ok.cab x c hfn hc)))).trans e1⟩
  ·by_cases hj:j=i
   ·subst hj
    rw[hi]at e1;cases e1;rw[Ko hiσ]at e2
    cases e2;exact⟨u,r,.inr ⟨.inl hk,c,hc,hc'⟩⟩
   ·rw[Kj (MS hj)]at e2
    obtain⟨u',r',q⟩:=hl j y v' e1 e2 e3;refine⟨u',r',?_⟩
    rcases q with q | ⟨k,c',e,z'⟩
    ·exact .inl q
    ·refine .inr ⟨k,c',e,z'.sameBut hs ?_⟩
     rintro rfl
     exact hj (rP hN e1 (I.ok.inj _ _ _ e hc▸hi))
  ·by_cases hcc:c'=c
   ·subst hcc;exact⟨_,hc'⟩
   ·obtain⟨w2,z2⟩:=I.cell y c' e
    exact⟨w2,z2.sameBut hs hcc⟩
  ·obtain⟨e,n,ne,nf,d⟩:=I.pin p hp
   refine⟨(hs.2 p.1 ?_).trans e,n,ne,nf,d⟩
   intro q;rw[q,hoc]at e
   have q':oc=p.2:=KM e;exact d w' (by rw[<-q'];exact hocd)
theorem gR {M:Model}{A:Km}{E:JK->JL->Prop}{i:Nat}{x:Str}{v:V}{u:JK}{Q:Unit->JL->Prop}(I:Inv X pins σ H s)(hN:X.N.Nodup)(hi:X.N[i]? =some x)(hx:Loc X.env.scope x)(r:RelV v u)
  (h:∀s',Inv X pins (σ.set i (some v)) H s'->Q () s') (hf:autoParam (X.fn x=true\/X.env.scope.names.lookup x=some .local) r_):wpAny M A (storeName X.env x u) Q E s:=
 nJ I hN hi hx r (λs' I' _=>h s' I') hf
theorem Inv.Jg {s':JL}{ch:List Addr}(I:Inv X pins σ H s)(ho:s'.os=s.os)(u:Un (qh X.stack) ch H H' s.heap s'.heap)(hok:HOk X.prog X.w H' s'.heap)(hg:PY s'.gens)
  (hch:∀b∈ch,(b∈X.ex\/X.s₀.heap.objs.size<=b)/\b≠X.env.locals/\(∀x c,X.env.cells.lookup x=some c->c≠b)/\∀p∈X.pn++pins,p.1≠b):Inv X pins σ H' s':=by
 obtain⟨h',g',d',t',o'⟩:=s'
 have e:o'=s.os:=ho;subst e;exact I.call (g':=g') (t':=t') (d':=d') u hok hg hch
end
abbrev XK:=JK->Option Addr->Hp->Prop
abbrev St:=List (Option V)
abbrev VK:=V->Hp->Prop
abbrev TE:=St->Hp->VK->Prop
abbrev TT:=St->Hp->(Bool->Hp->Prop)->Prop
abbrev TA:=St->Hp->(List V->Hp->Prop)->Prop
structure qL where
 nx:St->Hp->Prop
 rt:VK
 bk:St->Hp->Prop:=λ_ _=>False
 ct:St->Hp->Prop:=λ_ _=>False
abbrev TS:=qL->St->Hp->Prop
def EP (X:Cx)(pins:List (Addr×Obj))(σ:St)(Q:VK)(u:JK)(s':JL):Prop:=∃v H',Inv X pins σ H' s'/\RelV v u/\Q v H'
def TP (X:Cx)(pins:List (Addr×Obj))(σ:St)(Q:Bool->Hp->Prop)(b:Bool)(s':JL):Prop:=∃H',Inv X pins σ H' s'/\Q b H'
def AP (X:Cx)(pins:List (Addr×Obj))(σ:St)(Q:List V->Hp->Prop)(us:List JK)(s':JL):Prop:=∃vs H',Inv X pins σ H' s'/\Vals vs us/\Q vs H'
def SP (X:Cx)(pins:List (Addr×Obj))(D:qL)(f:Flow)(s':JL):Prop:=
 match f with
 | .next=> ∃σ' H',Inv X pins σ' H' s'/\D.nx σ' H'
 | .brk=> ∃σ' H',Inv X pins σ' H' s'/\D.bk σ' H'
 | .cont=> ∃σ' H',Inv X pins σ' H' s'/\D.ct σ' H'
 | .ret u=> ∃v σ' H',Inv X pins σ' H' s'/\RelV v u/\D.rt v H'
def PE (X:Cx)(e:Expr)(t:TE):Prop:=
 ∀(pins:List (Addr×Obj)) (s:JL) (σ:St) (H:Hp) (Q:VK),Inv X pins σ H s->t σ H Q->wpAny (model X.prog X.w) X.A (eval e X.env) (EP X pins σ Q) X.xe s
def PT (X:Cx)(e:Expr)(t:TT):Prop:=
 ∀(pins:List (Addr×Obj)) (s:JL) (σ:St) (H:Hp) (Q:Bool->Hp->Prop),Inv X pins σ H s->t σ H Q->wpAny (model X.prog X.w) X.A (isTrue e X.env (eval e X.env)) (TP X pins σ Q) X.xe s
def PW (X:Cx)(e:Expr)(t:TT):Prop:=
 ∀(whole:Sem JK) (pins:List (Addr×Obj)) (s:JL) (σ:St) (H:Hp) (Q:Bool->Hp->Prop),Inv X pins σ H s->t σ H Q->wpAny (model X.prog X.w) X.A (isTrue e X.env whole) (TP X pins σ Q) X.xe s
theorem PW.pt {X:Cx}{e:Expr}{t:TT}(h:PW X e t):PT X e t:=h _
def PA (X:Cx)(es:List Expr)(t:TA):Prop:=
 ∀(pos:Pos) (pins:List (Addr×Obj)) (s:JL) (σ:St) (H:Hp) (Q:List V->Hp->Prop),Inv X pins σ H s->t σ H Q->wpAny (model X.prog X.w) X.A (spliced (backTo pos (Kc es X.env))) (AP X pins σ Q) X.xe s
def PS (X:Cx)(st:Stmt)(t:TS):Prop:=
 ∀(pins:List (Addr×Obj)) (s:JL) (σ:St) (H:Hp) (D:qL),Inv X pins σ H s->t D σ H->wpAny (model X.prog X.w) X.A (exec st X.env) (SP X pins D) X.xe s
def PSs (X:Cx)(st:List Stmt)(t:TS):Prop:=
 ∀(pins:List (Addr×Obj)) (s:JL) (σ:St) (H:Hp) (D:qL),Inv X pins σ H s->t D σ H->wpAny (model X.prog X.w) X.A (execs st X.env) (SP X pins D) X.xe s
theorem bV {α:Type}{t:Sem α}{Q Q':α->JL->Prop}{M:Model}{A:Km}{E:JK->JL->Prop}{s:JL}(h:wpAny M A t Q E s)(hQ:∀a s,Q a s->Q' a s):wpAny M A t Q' E s:=L9 h hQ λ_ _ x=>x
section
variable {X:Cx}
def tVar (i:Nat):TE:=λσ H Q=> ∃v,σ[i]? =some (some v)/\Q v H
def tC (v:V):TE:=λ_ H Q=>Q v H
theorem pC {i:Nat}{x:Str}{pos:Pos}(hN:X.N[i]? =some x)(hv:xT X.env.scope x)(hd:autoParam ((x == ("__debug__" : Str))=false) s_)(hcd:autoParam ((x == ("__classdict__" : Str))=false) s_):PE X (.Name x pos) (tVar i):=by
 intro pins s σ H Q I h;obtain⟨v,e,h⟩:=h;obtain⟨m,hn,hl⟩:=I.loc;obtain⟨u,r,l⟩:=hl i x v hN e hv
 have fin:EP X pins σ Q u s:=⟨v,H,I,r,h⟩;rcases l with⟨hk,hm⟩ | ⟨hk,c,hc,hcell⟩
 ·exact wpAny_Name (QH I.ok.kind hk hn hm fin) hd
 ·rcases hk with hk | hk
  ·exact wpAny_Name (Q1 I.ok.kind hk hc hcell fin) hd
  ·exact wpAny_Name (wpAny_loadName_free I.ok.kind hk hc hcell fin hcd) hd
theorem EX {i j pos}:PE X (.Constant (.int i) j pos) (tC (.int i)):=λ_ _ _ H _ I h=>wpAny_Constant_int ⟨.int i,H,I.tok _,⟨_,rfl⟩,h⟩
theorem Ha {b j pos}:PE X (.Constant (.bool b) j pos) (tC (.bl b)):=λ_ _ _ H _ I h=>Constant_bool ⟨.bl b,H,I,rfl,h⟩
theorem EV {j pos}:PE X (.Constant .none j pos) (tC .non):=λ_ _ _ H _ I h=>Constant_none ⟨.non,H,I,rfl,h⟩
def Gl (X:Cx)(x:Str):Prop:=X.env.kindOf x=some .globalImplicit
theorem lq {E:JK->JL->Prop}{pins:List (Addr×Obj)}{s:JL}{σ:St}{H:Hp}{x:Str}{u:JK}{pos:Pos}{Q:JK->JL->Prop}(I:Inv X pins σ H s)(hg:Gl X x)(hm:X.mg x=some u)(h:Q u s)
  (hd:autoParam ((x == ("__debug__" : Str))=false) s_):wpAny (model X.prog X.w) X.A (eval (.Name x pos) X.env) Q E s:=
 Pa I.ok.kind hg (Calls.loadGlobal_global (by rw[I.ok.glob];exact I.mod.glob.keeps I.bk) hm h) hd
theorem fQ {E:JK->JL->Prop}{pins:List (Addr×Obj)}{s:JL}{σ:St}{H:Hp}{x:Str}{u:JK}{pos:Pos}{Q:JK->JL->Prop}(I:Inv X pins σ H s)(hg:Gl X x)(hm:X.mg x=none)(hv:Ky x=some u)(h:Q u s)
  (hn:autoParam (x≠ "__name__") s_) (hd:autoParam ((x == ("__debug__" : Str))=false) s_):wpAny (model X.prog X.w) X.A (eval (.Name x pos) X.env) Q E s:=by
 obtain⟨mb,h1,h2⟩:=I.mod.blt;exact Pa I.ok.kind hg (Calls.loadGlobal_builtin (by rw[I.ok.glob];exact I.mod.glob.keeps I.bk) hm (by rw[I.ok.blt];exact h1.keeps I.bk) ((h2 x hn).trans hv) h) hd
theorem Cb {x:Str}{v:V}{u:JK}{pos:Pos}(hg:Gl X x)(hm:X.mg x=some u)(r:RelV v u)(hd:autoParam ((x == ("__debug__" : Str))=false) s_):PE X (.Name x pos) (tC v):=
 λ_ _ _ H _ I h=>lq I hg hm ⟨v,H,I,r,h⟩ hd
theorem Cd {x:Str}{v:V}{u:JK}{pos:Pos}(hg:Gl X x)(hm:X.mg x=none)(hv:Ky x=some u)(r:RelV v u)(hn:autoParam (x≠ "__name__") s_)(hd:autoParam ((x == ("__debug__" : Str))=false) s_):PE X (.Name x pos) (tC v):=
 λ_ _ _ H _ I h=>fQ I hg hm hv ⟨v,H,I,r,h⟩ hn hd
variable {a b:Expr}{ta tb:TE}{pos:Pos}
def tB (t:TE):TT:=λσ H Q=>t σ H λx H1=> ∃c,x= .bl c/\Q c H1
theorem EF {e:Expr}{t:TE}(h:PE X e t)(he:autoParam (∀whole,isTrue e X.env whole=(do let v <-whole;standAt e.pos;holding [v] (truthy v))) t_):PT X e (tB t):=by
 intro pins s σ H Q I hw;refine isTrue_plain (bV (h pins s σ H _ I hw) λv s1 ⟨x,H1,I1,r1,q1⟩=> ?_) (he _)
 obtain⟨d,rfl,q⟩:=q1;cases r1;exact K5 ⟨H1,I1,q⟩
variable {tA tB':TT}{bq:List Expr}
def tAnd (t u:TT):TT:=λσ H Q=>t σ H λc H1=>if c=true then u σ H1 Q else Q false H1
def tOr (t u:TT):TT:=λσ H Q=>t σ H λc H1=>if c=true then Q true H1 else u σ H1 Q
def tNot (t:TT):TT:=λσ H Q=>t σ H λc H1=>Q (!c) H1
theorem BW (ha:PT X a tA):PW X (.BoolOp .And [a] pos) tA:=by
 intro wh pins s σ H Q I h;refine isTrue_and (bV (ha pins s σ H Q I h) λc s1 e=> ?_)
 cases c with
 | true=>exact isTrue_and_nil e
 | false=>exact e
theorem ED (ha:PT X a tA):PW X (.BoolOp .Or [a] pos) tA:=by
 intro wh pins s σ H Q I h;refine isTrue_or (bV (ha pins s σ H Q I h) λc s1 e=> ?_)
 cases c with
 | false=>exact isTrue_or_nil e
 | true=>exact e
theorem EE (ha:PT X a tA)(hb:PW X (.BoolOp .And (b::bq) pos) tB'):PW X (.BoolOp .And (a::b::bq) pos) (tAnd tA tB'):=by
 intro wh pins s σ H Q I h;refine isTrue_and (bV (ha pins s σ H _ I h) λc s1 hh_=> ?_)
 obtain⟨H1,I1,q1⟩:=hh_
 cases c with
 | true=>exact hb wh pins s1 σ H1 Q I1 q1
 | false=>exact⟨H1,I1,q1⟩
theorem G5 (ha:PT X a tA)(hb:PW X (.BoolOp .Or (b::bq) pos) tB'):PW X (.BoolOp .Or (a::b::bq) pos) (tOr tA tB'):=by
 intro wh pins s σ H Q I h;refine isTrue_or (bV (ha pins s σ H _ I h) λc s1 hh_=> ?_)
 obtain⟨H1,I1,q1⟩:=hh_
 cases c with
 | true=>exact⟨H1,I1,q1⟩
 | false=>exact hb wh pins s1 σ H1 Q I1 q1
theorem EG (ha:PT X a tA):PT X (.UnaryOp .Not a pos) (tNot tA):=by
 intro pins s σ H Q I h;exact isTrue_not (ha pins s σ H (λc H1=>Q (!c) H1) I h)
def GD (ta tb:TE):TE:=λσ H Q=>ta σ H λx H1=> ∃c,x= .bl c/\if c=true then tb σ H1 Q else Q (.bl false) H1
def tOrV (ta tb:TE):TE:=λσ H Q=>ta σ H λx H1=> ∃c,x= .bl c/\if c=true then Q (.bl true) H1 else tb σ H1 Q
def Gu (ta:TE):TE:=λσ H Q=>ta σ H λx H1=> ∃c,x= .bl c/\Q (.bl (!c)) H1
theorem ET {op}{t:TE}(h:PE X a t):PE X (.BoolOp op [a] pos) t:=λpins s σ H Q I hw=>BoolOp_one (h pins s σ H Q I hw)
theorem EY (ha:PE X a ta)(hb:PE X (.BoolOp .And (b::bq) pos) tb):PE X (.BoolOp .And (a::b::bq) pos) (GD ta tb):=by
 intro pins s σ H Q I h;refine BoolOp_and (bV (ha pins s σ H _ I h) λv s1 hh_=> ?_)
 obtain⟨x,H1,I1,r1,q1⟩:=hh_;obtain⟨c,rfl,q1⟩:=q1;cases r1;refine K5 ?_
 cases c with
 | true=>exact hb pins s1 σ H1 Q I1 q1
 | false=>exact⟨.bl false,H1,I1,rfl,q1⟩
theorem G9 (ha:PE X a ta)(hb:PE X (.BoolOp .Or (b::bq) pos) tb):PE X (.BoolOp .Or (a::b::bq) pos) (tOrV ta tb):=by
 intro pins s σ H Q I h;refine BoolOp_or (bV (ha pins s σ H _ I h) λv s1 hh_=> ?_)
 obtain⟨x,H1,I1,r1,q1⟩:=hh_;obtain⟨c,rfl,q1⟩:=q1;cases r1;refine K5 ?_
 cases c with
 | false=>exact hb pins s1 σ H1 Q I1 q1
 | true=>exact⟨.bl true,H1,I1,rfl,q1⟩
theorem EU (ha:PE X a ta):PE X (.UnaryOp .Not a pos) (Gu ta):=by
 intro pins s σ H Q I h;refine UnaryOp_ (bV (ha pins s σ H _ I h) λv s1 hh_=> ?_)
 obtain⟨x,H1,I1,r1,q1⟩:=hh_;obtain⟨c,rfl,q1⟩:=q1;cases r1;exact not_of (K5 ⟨.bl (!c),H1,I1,rfl,q1⟩)
def tIf (t:TT)(ta tb:TE):TE:=λσ H Q=>t σ H λc H1=>if c=true then ta σ H1 Q else tb σ H1 Q
theorem zc {c:Expr}(hc:PT X c tA)(ha:PE X a ta)(hb:PE X b tb):PE X (.IfExp c a b pos) (tIf tA ta tb):=by
 intro pins s σ H Q I h;refine wpAny_IfExp (bV (hc pins s σ H _ I h) λd s1 hh_=> ?_)
 obtain⟨H1,I1,q1⟩:=hh_
 cases d with
 | true=>exact ha pins s1 σ H1 Q I1 q1
 | false=>exact hb pins s1 σ H1 Q I1 q1
end
def SqL (K:JH)(H:Hp)(a:Addr)(xs:List V):Prop:=
 Rd H a (.lst xs) ∨
  ∃(o:Obj) (its:Array JK) (n:Nat),K.lookup a=some o/\o.cls= .type "list"/\o.dict=none/\o.data= .seq its n/\its.size<=sizeLine/\Vals xs its.toList
def SqT (K:JH)(H:Hp)(a:Addr)(xs:List V):Prop:=
 Rd H a (.tup xs) ∨
  ∃(o:Obj) (its:Array JK) (n:Nat),K.lookup a=some o/\o.cls= .type "tuple"/\o.data= .seq its n/\its.size<=sizeLine/\Vals xs its.toList
def absV:JK->Option V
 | .none=>some .non
 | .bool b=>some (.bl b)
 | .int i _=>some (.int i)
 | .str x _=>some (.str x)
 | .bytes b _=>some (.byt b)
 | .float b _=>some (.flt b)
 | .ref a=>some (.ref a)
 | .type n=>some (.ty n)
 | _=>none
theorem RelV.abs {x:V}{u:JK}(r:RelV x u):absV u=some x:=by
 cases x with
 | non=>cases r;rfl
 | bl _=>cases r;rfl
 | int _=>obtain⟨t,rfl⟩:=r;rfl
 | str _=>obtain⟨t,rfl⟩:=r;rfl
 | byt _=>obtain⟨t,rfl⟩:=r;rfl
 | flt _=>obtain⟨t,rfl⟩:=r;rfl
 | ref _=>cases r;rfl
 | ty _=>cases r;rfl
theorem RelV.inj {x y:V}{u:JK}(r:RelV x u)(q:RelV y u):x=y:=KM (r.abs.symm.trans q.abs)
theorem Vals.inj:∀{xs ys:List V} {us:List JK},Vals xs us->Vals ys us->xs=ys
 | _,_,_,.nil,.nil=>rfl
 | _,_,_,.cons r t,.cons r' t'=>by rw[r.inj r',Vals.inj t t']
section
variable {X:Cx}{pins:List (Addr×Obj)}{σ:St}{H:Hp}{s:JL}{a:Addr}{xs ys:List V}
theorem SqL.of {K:JH}(h:H a=some (.lst xs)):SqL K H a xs:=.inl (.inl h)
theorem SqT.of {K:JH}(h:H a=some (.tup xs)):SqT K H a xs:=.inl (.inl h)
theorem Inv.list (I:Inv X pins σ H s)(h:SqL X.K H a xs):∃its:List JK,Vals xs its/\PlainL s.heap a its.toArray/\xs.length<=sizeLine:=by
 rcases h with h | ⟨o,its,n,hk,hc,hd,hs,hz,r⟩
 ·obtain⟨z,its,n,r,e⟩:=h.ok I.hok
  exact⟨its,r,⟨_,n,e,rfl,rfl,rfl⟩,z⟩
 ·refine⟨its.toList,r,⟨o,n,I.kIn a o hk,hc,hd,by simpa using hs⟩,?_⟩
  have e:=r.length;simp only[Kv]at e;omega
theorem Inv.tuple (I:Inv X pins σ H s)(h:SqT X.K H a xs):∃its:List JK,Vals xs its/\Rn s.heap a its.toArray/\xs.length<=sizeLine:=by
 rcases h with h | ⟨o,its,n,hk,hc,hs,hz,r⟩
 ·obtain⟨z,its,r,p⟩:=h.ok I.hok
  exact⟨its,r,p,z⟩
 ·refine⟨its.toList,r,⟨o,I.kIn a o hk,hc,n,by simpa using hs⟩,?_⟩
  have e:=r.length;simp only[Kv]at e;omega
theorem Inv.IU (I:Inv X pins σ H s)(h:SqL X.K H a xs)(h':SqL X.K H a ys):xs=ys:=by
 obtain⟨its,r,⟨o,n,e,_,_,d⟩,_⟩:=I.list h;obtain⟨its',r',⟨o',n',e',_,_,d'⟩,_⟩:=I.list h';rw[e]at e';cases e';rw[d]at d';injection d' with d1 _
 have:its=its':=by simpa using congrArg Pe d1
 subst this;exact r.inj r'
theorem Inv.IQ (I:Inv X pins σ H s)(h:SqT X.K H a xs)(h':SqT X.K H a ys):xs=ys:=by
 obtain⟨its,r,⟨o,e,_,n,d⟩,_⟩:=I.tuple h;obtain⟨its',r',⟨o',e',_,n',d'⟩,_⟩:=I.tuple h';rw[e]at e';cases e';rw[d]at d';injection d' with d1 _
 have:its=its':=by simpa using congrArg Pe d1
 subst this;exact r.inj r'
end
abbrev Cx.FM (X:Cx)(E:JK->JL->Prop):Cx:={ X with xe:=E }
abbrev Cx.nox (X:Cx):Cx:=X.FM λ_ _=>False
theorem Cx.Ok.FM {X:Cx}(ok:X.Ok)(E:JK->JL->Prop):(X.FM E).Ok:=
 ⟨ok.mod,ok.kind,ok.glob,ok.blt,ok.above,ok.inj,ok.has,ok.cab,ok.hd,ok.frames,ok.stk,ok.exf,ok.bs,ok.bsz,ok.noex,ok.exfs,ok.funs,ok.frf⟩
theorem Cx.Ok.IK {X:Cx}{E:JK->JL->Prop}(ok:(X.FM E).Ok):X.Ok:=
 ⟨ok.mod,ok.kind,ok.glob,ok.blt,ok.above,ok.inj,ok.has,ok.cab,ok.hd,ok.frames,ok.stk,ok.exf,ok.bs,ok.bsz,ok.noex,ok.exfs,ok.funs,ok.frf⟩
section
variable {X:Cx}{pins:List (Addr×Obj)}{σ:St}{H:Hp}{s:JL}{E:JK->JL->Prop}
theorem Inv.FM (I:Inv X pins σ H s)(E:JK->JL->Prop):Inv (X.FM E) pins σ H s:=⟨I.ok.FM E,I.os,I.bare,I.base,I.loc,I.cell,I.free,I.freeC,I.pin,I.hok,I.len⟩
theorem Inv.IK (I:Inv (X.FM E) pins σ H s):Inv X pins σ H s:=⟨I.ok.IK,I.os,I.bare,I.base,I.loc,I.cell,I.free,I.freeC,I.pin,I.hok,I.len⟩
theorem SP.IK {D:qL}{f:Flow}{s':JL}(h:SP (X.FM E) pins D f s'):SP X pins D f s':=by
 cases f with
 | next=>obtain⟨σ',H',I,q⟩:=h;exact⟨σ',H',I.IK,q⟩
 | brk=>obtain⟨σ',H',I,q⟩:=h;exact⟨σ',H',I.IK,q⟩
 | cont=>obtain⟨σ',H',I,q⟩:=h;exact⟨σ',H',I.IK,q⟩
 | ret u=>obtain⟨v,σ',H',I,r,q⟩:=h;exact⟨v,σ',H',I.IK,r,q⟩
theorem PSs.nox {st:List Stmt}{t:TS}(h:PSs X.nox st t):PSs X st t:=λpins s σ H D I hw=>
 L9 (h pins s σ H D (I.FM _) hw) (λ_ _ q=>q.IK) λ_ _ z=>Nc z
end
section
variable {X:Cx}{st:Stmt}{bq:List Stmt}{t u:TS}{e:Expr}{te:TE}{pos:Pos}
def Gw:TS:=λD σ H=>D.nx σ H
def tSeq (t u:TS):TS:=λD σ H=>t { D with nx:=u D } σ H
theorem BY:PSs X [] Gw:=λ_ _ σ H _ I h=>OV ⟨σ,H,I,h⟩
theorem yS (h1:PS X st t)(h2:PSs X bq u):PSs X (st::bq) (tSeq t u):=by
 intro pins s σ H D I h;refine SD (bV (h1 pins s σ H { D with nx:=u D } I h) λf s1 q=> ?_)
 cases f with
 | next=>
  obtain⟨σ',H',I',q⟩:=q
  exact h2 pins s1 σ' H' D I' q
 | ret v=>exact q
 | brk=>exact q
 | cont=>exact q
theorem BX (h1:PS X st t):PSs X [st] t:=by
 intro pins s σ H D I h;refine SD (bV (h1 pins s σ H D I h) λf s1 q=> ?_)
 cases f with
 | next=>exact OV q
 | ret v=>exact q
 | brk=>exact q
 | cont=>exact q
def GB:TS:=λD σ H=>D.ct σ H
theorem rE:PS X (.Continue pos) GB:=λ_ _ σ H _ I h=>wpAny_Continue ⟨σ,H,I,h⟩
theorem Inv.quiet {pins:List (Addr×Obj)}{σ:St}{H:Hp}{s:JL}(I:Inv X pins σ H s):interactive X.env=false:=by simp[interactive,I.ok.kind]
def Gz (te:TE):TS:=λD σ H=>te σ H λ_ H1=>D.nx σ H1
theorem pv (he:PE X e te)(hs:autoParam (Lz e none pos.line X.env=pure false) u_):PS X (.Expr e pos) (Gz te):=by
 intro pins s σ H D I h;exact wpAny_Expr_any (bV (he pins s σ H _ I h) λv s1 ⟨x,H1,I1,r1,q1⟩=>⟨σ,H1,I1,q1⟩) I.quiet hs
def tRet (te:TE):TS:=λD σ H=>te σ H D.rt
theorem EH (he:PE X e te):PS X (.Return (some e) pos) (tRet te):=by
 intro pins s σ H D I h;exact wpAny_Return_some (bV (he pins s σ H _ I h) λv s1 ⟨x,H1,I1,r1,q1⟩=>⟨x,σ,H1,I1,r1,q1⟩)
def tIfS (c:TT)(t u:TS):TS:=λD σ H=>c σ H λb H1=>if b=true then t D σ H1 else u D σ H1
theorem G6 {c:Expr}{a b:List Stmt}{tc:TT}(hc:PT X c tc)(ha:PSs X a t)(hb:PSs X b u):PS X (.If c a b pos) (tIfS tc t u):=by
 intro pins s σ H D I h;refine wpAny_If (bV (hc pins s σ H _ I h) λd s1 hh_=> ?_)
 obtain⟨H1,I1,q1⟩:=hh_
 cases d with
 | true=>exact ha pins s1 σ H1 D I1 q1
 | false=>exact hb pins s1 σ H1 D I1 q1
end
abbrev TG:=V->St->Hp->(St->Hp->Prop)->Prop
abbrev C8:=List V->St->Hp->(St->Hp->Prop)->Prop
def PG (X:Cx)(target:Expr)(t:TG):Prop:=
 ∀(pins:List (Addr×Obj)) (s:JL) (σ:St) (H:Hp) (v:V) (u:JK) (Q:St->Hp->Prop),Inv X pins σ H s->RelV v u->t v σ H Q →
  wpAny (model X.prog X.w) X.A (assign target X.env u) (λ_ s'=> ∃σ' H',Inv X pins σ' H' s'/\Q σ' H') X.xe s
def PGs (X:Cx)(ts:List Expr)(t:C8):Prop:=
 ∀(pins:List (Addr×Obj)) (s:JL) (σ:St) (H:Hp) (vs:List V) (us:List JK) (Q:St->Hp->Prop),Inv X pins σ H s->Vals vs us->t vs σ H Q →
  wpAny (model X.prog X.w) X.A (Rp ((LK ts X.env).map (·.2)) us) (λ_ s'=> ∃σ' H',Inv X pins σ' H' s'/\Q σ' H') X.xe s
abbrev ID:=V->V->Hp->VK->Prop
def PIp (X:Cx)(op:Tb)(t:ID):Prop:=
 ∀(pins:List (Addr×Obj)) (s:JL) (σ:St) (H:Hp) (x y:V) (v u:JK) (Q:VK),Inv X pins σ H s->RelV x v->RelV y u->t x y H Q →
  wpAny (model X.prog X.w) X.A (inplaceOp op v u) (EP X pins σ Q) X.xe s
section
variable {X:Cx}{pos:Pos}
def Ad (i:Nat):TG:=λv σ H Q=>Q (σ.set i (some v)) H
theorem B9 {i:Nat}{x:Str}(hN:X.N.Nodup)(hi:X.N[i]? =some x)(hx:Loc X.env.scope x)(hf:autoParam (X.fn x=true\/X.env.scope.names.lookup x=some .local) r_):PG X (.Name x pos) (Ad i):=by
 intro pins s σ H v u Q I r h;exact RW (gR I hN hi hx r (λs' I'=>⟨_,H,I',h⟩) hf)
def gNil:C8:=λvs σ H Q=>vs= []/\Q σ H
def HL (t:TG)(u:C8):C8:=λvs σ H Q=> ∃v r,vs=v::r/\t v σ H λσ' H'=>u r σ' H' Q
theorem B8:PGs X [] gNil:=by
 intro pins s σ H vs us Q I r h;obtain⟨e,h⟩:=h;subst e;cases r;exact RX ⟨σ,H,I,h⟩
theorem y8 {e:Expr}{es:List Expr}{t:TG}{u:C8}(h1:PG X e t)(h2:PGs X es u)
  (hs:autoParam ((LK (e::es) X.env).map (·.2)=assign e X.env::(LK es X.env).map (·.2)) u_):PGs X (e::es) (HL t u):=by
 intro pins s σ H vs us Q I r h;obtain⟨v,vr,e1,h⟩:=h;subst e1
 cases r with
 | cons r rr=>
  rw[hs];refine Pl (bV (h1 pins s σ H _ _ _ I r h) λ_ s1 hh_=> ?_)
  obtain⟨σ1,H1,I1,q1⟩:=hh_;exact h2 pins s1 σ1 H1 _ _ Q I1 rr q1
def gTup (K:JH)(n:Nat)(t:C8):TG:=λv σ H Q=> ∃a xs,v= .ref a/\SqT K H a xs/\xs.length=n/\t xs σ H Q
theorem ER {es:List Expr}{k:Nat}{t:C8}{n:Nat}(hc:X.calm=true)(h:PGs X es t)
  (hn:autoParam ((LK es X.env).length=n) u_) (hst:autoParam ((LK es X.env).findIdx? (·.1)=none) u_):PG X (.Tuple es k pos) (gTup X.K n t):=by
 intro pins s σ H v u Q I r hw;obtain⟨a,xs,e1,hq,hl,hw⟩:=hw;subst e1;cases r;obtain⟨its,rv,ht,hz⟩:=I.tuple hq;refine assign_Tuple_tuple (I.ok.hd hc) ht (by simp[hn,<-hl,rv.length]) hst λh' hx=> ?_
 have I1:Inv X pins σ H { s with heap:=h' }:=I.kept (t':=s.toks) λb o e=>hx b o (J7 (JV e)) e
 exact h pins _ σ H xs _ Q I1 (by simpa using rv) hw
def Bh (te:TE)(g:TG):TS:=λD σ H=>te σ H λx H1=>g x σ H1 D.nx
theorem EK {tg e:Expr}{te:TE}{g:TG}(he:PE X e te)(hg:PG X tg g)(hs:autoParam (OF [tg] e pos.line X.env=pure false) u_)(hw:autoParam (OG [tg] e X.env=pure none) u_)
  (h1:autoParam ((LK [tg] X.env).map (·.2)= [assign tg X.env]) u_):PS X (.Assign [tg] e pos) (Bh te g):=by
 intro pins s σ H D I h;refine wpAny_Assign_stores (bV (he pins s σ H _ I h) λv s1 ⟨x,H1,I1,r1,q1⟩=> ?_) hs hw
 rw[h1];exact bV (hg pins s1 σ H1 x v _ I1 r1 q1) λ_ s2 q=>q
theorem yU {i:Nat}{x:Str}{e:Expr}{te:TE}{pos':Pos}(hN:X.N.Nodup)(hi:X.N[i]? =some x)(hx:Loc X.env.scope x)(he:PE X e te)(hs:autoParam (Lz e (some (.Name x pos')) pos.line X.env=pure false) u_)(hf:autoParam (X.fn x=true\/X.env.scope.names.lookup x=some .local) r_) :
  PS X (.Assign [.Name x pos'] e pos) (Bh te (Ad i)):=by
 intro pins s σ H D I h;refine wpAny_Assign_Name (bV (he pins s σ H _ I h) λv s1 ⟨y,H1,I1,r1,q1⟩=> ?_) hs
 exact gR I1 hN hi hx r1 (λs2 I2=>⟨_,H1,I2,q1⟩) hf
def tPar (i j:Nat)(ta:TA):TS:=λD σ H=>ta σ H λvs H1=> ∃v w,vs= [v,w]/\D.nx ((σ.set i (some v)).set j (some w)) H1
theorem EI {i j:Nat}{x y:Str}{a b:Expr}{ta:TA}{px py pt:Pos}{kt k2 pt2}(hc:X.calm=true)(hN:X.N.Nodup)(hi:X.N[i]? =some x)(hj:X.N[j]? =some y)(hij:i≠j)
  (hx:X.env.scope.names.lookup x=some .local) (hy:X.env.scope.names.lookup y=some .local) (ha:PA X [a,b] ta)
  (hw:OG [.Tuple [.Name x px,.Name y py] kt pt] (.Tuple [a,b] k2 pt2) X.env=pure (some [x,y]))
  (hs:autoParam (OF [.Tuple [.Name x px,.Name y py] kt pt] (.Tuple [a,b] k2 pt2) pos.line X.env=pure false) u_) :
  PS X (.Assign [.Tuple [.Name x px,.Name y py] kt pt] (.Tuple [a,b] k2 pt2) pos) (tPar i j ta):=by
 intro pins s σ H D I h;rw[exec_Assign_arm];refine JG (Rq ?_)
 rw[hs];refine JG (JN ?_)
 rw[if_neg (by decide)]
 refine JG (Tuple_ (bV (ha _ pins s σ H _ I h) λus s1 hh_=> ?_))
 obtain⟨vs,H1,I1,r1,q1⟩:=hh_;obtain⟨v,w,e1,q1⟩:=q1;subst e1
 obtain⟨u1,u2,rfl,rv,rw'⟩:∃u1 u2,us= [u1,u2]/\RelV v u1/\RelV w u2:=by
  cases r1 with
  | cons p q=>
   cases q with
   | cons p' q'=>
    cases q';exact⟨_,_,rfl,p,p'⟩
 refine Kl ?_ (by show 2<=sizeLine;decide)
 have I2:Inv X pins σ H1 { s1 with heap:=s1.heap.push { cls:=.type "tuple",data:=.seq [u1,u2].toArray } }:=I1.kept (t':=s1.toks) λb o e=>JI _ e
 rw[hw];refine JG (JN ?_)
 show wpAny (model X.prog X.w) X.A (do rule "assign.swapped-stores";let items <-unpackItems (.ref s1.heap.objs.size) 2 none;Rp [λv=>bindName X.env y v,λv=>bindName X.env x v] items.reverse;pure Flow.next) _ _ _
 refine JG (MR (JG (unpackItems_tuple (items:=#[u1,u2]) (I.ok.hd hc) (Q8 s1.heap _) λh' hx'=> ?_)))
 have I3:=I2.kept (h':=h') (t':=s1.toks) λb o e=>hx' b o (J7 (JV e)) e
 show wpAny _ _ (Rp [λv=>bindName X.env y v,λv=>bindName X.env x v] [u2,u1] >>= λ_=>pure Flow.next) _ _ _
 refine JG (Pl (wpAny_bindName (gR I3 hN hj (.inl hy) rw' (λs2 I4=> ?_) (.inr hy))))
 refine Pl (wpAny_bindName (gR I4 hN hi (.inl hx) rv (λs3 I5=>RX (JN ?_)) (.inr hx)))
 rw[List.set_comm _ _ (MS hij)]at I5;exact⟨_,H1,I5,q1⟩
def tAug (i:Nat)(te:TE)(ti:ID):TS:=λD σ H=> ∃x,σ[i]? =some (some x)/\te σ H λy H1=>ti x y H1 λz H2=>D.nx (σ.set i (some z)) H2
theorem EJ {i:Nat}{x:Str}{e:Expr}{te:TE}{op:Tb}{ti:ID}{pos':Pos}(hN:X.N.Nodup)(hi:X.N[i]? =some x)(hx:Loc X.env.scope x)(he:PE X e te)(ho:PIp X op ti)(hf:autoParam (X.fn x=true\/X.env.scope.names.lookup x=some .local) r_) :
  PS X (.AugAssign (.Name x pos') op e pos) (tAug i te ti):=by
 intro pins s σ H D I h;obtain⟨v,e1,h⟩:=h;obtain⟨m,hn,hl⟩:=I.loc
 have vis:xT X.env.scope x:=by rcases hx with k | k;exact .inl k;exact .inr (.inl k)
 obtain⟨u,r,l⟩:=hl i x v hi e1 vis;refine wpAny_AugAssign_Name ?_
 have go:wpAny (model X.prog X.w) X.A (eval e X.env) (λw s₂=>wpAny (model X.prog X.w) X.A (inplaceOp op u w) (λr s₃=>wpAny (model X.prog X.w) X.A (storeName X.env x r) (λ_=>SP X pins D .next) X.xe s₃) X.xe s₂) X.xe s:=by
  refine bV (he pins s σ H _ I h) λw s1 hh_=> ?_
  obtain⟨y,H1,I1,r1,q1⟩:=hh_;refine bV (ho pins s1 σ H1 v y u w _ I1 r r1 q1) λz s2 hh_=> ?_
  obtain⟨zv,H2,I2,r2,q2⟩:=hh_;exact gR I2 hN hi hx r2 (λs3 I3=>⟨_,H2,I3,q2⟩) hf
 rcases l with⟨hk,hm⟩ | ⟨hk,c,hc,hcell⟩
 ·exact QH I.ok.kind hk hn hm go
 ·rcases hk with hk | hk
  ·exact Q1 I.ok.kind hk hc hcell go
  ·rcases hx with k | k
   ·have:X.env.scope.names.lookup x=some .free:=hk
    rw[k]at this;cases this
   ·have:X.env.scope.names.lookup x=some .free:=hk
    rw[k]at this;cases this
def ipI (f:Int->Int->Int):ID:=λx y H Q=> ∃i j,x= .int i/\y= .int j/\Q (.int (f i j)) H
theorem FK:PIp X .Add (ipI λi j=>i+j):=by
 intro pins s σ H x y v u Q I r1 r2 h;obtain⟨i,j,e1,e2,q⟩:=h;subst e1;subst e2;obtain⟨t,rfl⟩:=r1;obtain⟨t',rfl⟩:=r2;exact iadd_int ⟨.int _,H,I.tok _,⟨_,rfl⟩,q⟩
end
section
variable {X:Cx}{pos:Pos}
def tN (c:TT)(tb:TS):TS:=λD σ H=> ∃W:Nat->St->Hp->Prop,(∃m,W m σ H)/\∀m σ H,W m σ H →
 c σ H λb H1=>if b=true then ∃N:St->Hp->Prop,(∀σ' H',N σ' H'->∃m',m'<m/\W m' σ' H')/\tb { D with nx:=N,ct:=N,bk:=D.nx } σ H1 else D.nx σ H1
theorem yT {c:Expr}{body:List Stmt}{tc:TT}{tb:TS}(hp:PassesOwn (model X.prog X.w) X.A X.env X.xe)(hc:PT X c tc)(hb:PSs X body tb):PS X (.While c body [] pos) (tN tc tb):=by
 intro pins s σ H D I h;obtain⟨W,⟨m0,w0⟩,turn⟩:=h;refine wpAny_While (codeAny_whileLoop (λn s'=> ∃σ' H',Inv X pins σ' H' s'/\W n σ' H') ?_ m0 ⟨σ,H,I,w0⟩)
 rintro n s1 ⟨σ1,H1,I1,w1⟩
 refine S3 hp (bV (hc pins s1 σ1 H1 _ I1 (turn n σ1 H1 w1)) λb s2 hh_=> ?_)
 obtain⟨H2,I2,q2⟩:=hh_
 cases b with
 | true=>
  obtain⟨N,hN,q2⟩:=q2;rw[if_pos rfl];refine S3 hp (bV (hb pins s2 σ1 H2 _ I2 q2) λf s3 q3=> ?_)
  cases f with
  | next=>
   obtain⟨σ3,H3,I3,n3⟩:=q3;obtain⟨m',hm,w3⟩:=hN σ3 H3 n3
   exact⟨m',hm,σ3,H3,I3,w3⟩
  | cont=>
   obtain⟨σ3,H3,I3,n3⟩:=q3;obtain⟨m',hm,w3⟩:=hN σ3 H3 n3
   exact⟨m',hm,σ3,H3,I3,w3⟩
  | brk=>exact q3
  | ret v=>exact q3
 | false=>
  rw[if_neg J3];exact OV ⟨σ1,H2,I2,q2⟩
end
structure It where
 go:Nat->Hp->Prop
 yld:Nat->Hp->V->Hp->Prop
 stop:Nat->Hp->Prop
def k7 (X:Cx)(pins:List (Addr×Obj))(H:Hp)(b:Addr):Prop:=
 H b=none/\b≠X.env.locals/\b∉X.fs/\(b∈X.ex\/X.s₀.heap.objs.size<=b)/\(∀x c,X.env.cells.lookup x=some c->c≠b)/\∀p∈X.pn++pins,p.1≠b
theorem Inv.IZ {X:Cx}{pins:List (Addr×Obj)}{σ:St}{H H':Hp}{s:JL}{b:Addr}(I:Inv X pins σ H s)(hb:s.heap.objs.size<=b)(hn:H' b=none):k7 X pins H' b:=by
 refine⟨hn,LV (JY I.lt hb),I.JD hb,.inr (Kf I.sz hb),λx c e z=> ?_,λp hp z=> ?_⟩
 ·obtain⟨v,q⟩:=I.cell x c e
  exact absurd (JY q.lt (by rw[z];exact hb)) (Ki _)
 ·exact absurd (JY (JV (I.pin p hp).1) (by rw[z];exact hb)) (Ki _)
structure xM (P:J9)(w:Kx)(K:JH)(tg:Expr)(J:It)(fp:List Addr)(it:Addr)(tn:Nat->Heap->Prop):Prop where
 mem:it∈fp
 obj:∀i h,tn i h->∀b∈fp,∃o,h.get? b=some o/\∀v,o.data≠ .cell v
 keep:∀i h h',tn i h->(∀b∈fp,∀o,h.get? b=some o->h'.get? b=some o)->tn i h'
 item:∀(X:Cx),X.prog=P->X.w=w->X.K=K->X.calm=true->∀(i:Nat) (pins:List (Addr×Obj)) (s:JL) (σ:St) (H:Hp) (E:JK->JL->Prop),Inv X pins σ H s->(∀b∈fp,k7 X pins H b)->tn i s.heap->J.go i H →
  wpAny (model P w) X.A (pyNext (.ref it)) (λr s1=> ∃u,r=some u ∧
   wpAny (model P w) X.A (NP tg (.ref it) u) (λ_ s2=> ∃x H',Inv X pins σ H' s2/\RelV x u/\J.yld i H x H'/\tn (i+1) s2.heap/\∀b∈fp,H' b=none) E s1) E s
 done:∀(X:Cx),X.prog=P->X.w=w->X.K=K->X.calm=true->∀(i:Nat) (pins:List (Addr×Obj)) (s:JL) (σ:St) (H:Hp) (E:JK->JL->Prop),Inv X pins σ H s->(∀b∈fp,k7 X pins H b)->tn i s.heap->J.stop i H →
  wpAny (model P w) X.A (pyNext (.ref it)) (λr s1=>r=none/\Inv X pins σ H s1) E s
 self:∀(A:Km) (i:Nat) (s:JL) (Q:JK->JL->Prop) (E:JK->JL->Prop),tn i s.heap->Q (.ref it) s->wpAny (model P w) A (pyIter (.ref it)) Q E s
abbrev TI:=St->Hp->(It->Hp->Prop)->Prop
def PIE (X:Cx)(pins:List (Addr×Obj))(σ:St)(tg:Expr)(R:It->Hp->Prop)(itv:JK)(s2:JL):Prop:=
 ∃(it:Addr) (fp:List Addr) (tn:Nat->Heap->Prop) (J:It) (H':Hp),itv= .ref it/\Inv X pins σ H' s2/\xM X.prog X.w X.K tg J fp it tn/\tn 0 s2.heap/\(∀b∈fp,k7 X pins H' b)/\R J H'
def PI (X:Cx)(tg iter:Expr)(wi:TI):Prop:=
 ∀(pins:List (Addr×Obj)) (s:JL) (σ:St) (H:Hp) (R:It->Hp->Prop),Inv X pins σ H s->wi σ H R →
  wpAny (model X.prog X.w) X.A (eval iter X.env) (λv s1=>wpAny (model X.prog X.w) X.A (pyIter v) (PIE X pins σ tg R) X.xe s1) X.xe s
theorem Ac {M:Model}{A:Km}{E:JK->JL->Prop}{s:JL}{tg:Expr}{it:Addr}{u:JK}{o:Obj}{n:String}{vs:Array JK}{Q:Unit->JL->Prop}(ho:s.heap.get? it=some o)(hc:o.cls= .type n)(hd:o.data= .fields vs)
  (hn:["enumerate","zip","dict_itemiterator","dict_reverseitemiterator","odict_iterator","itertools.zip_longest","itertools.pairwise"].contains n=false) (hQ:Q () s):wpAny M A (NP tg (.ref it) u) Q E s:=by
 unfold NP
 cases tg <;> first
  | exact JN hQ
  | (cases u <;> first
    | exact JN hQ
    | (refine JG (wpAny_load ho ?_)
       rw[hc,hd]
       show wpAny M A (if (["enumerate","zip","dict_itemiterator","dict_reverseitemiterator","odict_iterator","itertools.zip_longest","itertools.pairwise"].contains n&&vs[0]? == some (rawInt _))=true then _ else _) Q E s
       rw[if_neg (by intro h;rw[hn,QM]at h;cases h)]
       exact JN hQ))
def Itl (K:JH)(a:Addr):It:=
 ⟨λi H=> ∃xs x,SqL K H a xs/\xs[i]? =some x,λi H x H'=>H'=H/\∀xs,SqL K H a xs->xs[i]? =some x,λi H=> ∃xs,SqL K H a xs/\xs.length<=i⟩
def Itt (K:JH)(a:Addr):It:=
 ⟨λi H=> ∃xs x,SqT K H a xs/\xs[i]? =some x,λi H x H'=>H'=H/\∀xs,SqT K H a xs->xs[i]? =some x,λi H=> ∃xs,SqT K H a xs/\xs.length<=i⟩
def Itr (lo:Int)(n:Nat):It:=⟨λi _=>i<n,λi H x H'=>H'=H/\x= .int (lo+i),λi _=>n<=i⟩
theorem wA {P:J9}{w:Kx}{K:JH}{tg:Expr}(a it:Addr):xM P w K tg (Itl K a) [it] it (λi h=>h.IsListIter it a i) where
 mem:=by simp
 obj:=λi h st b hb=>by
  have e:b=it:=by simpa using hb
  subst e;obtain⟨o,e,c,d⟩:=st;exact⟨o,e,λv z=>by rw[d]at z;cases z⟩
 keep:=λi h h' st k=>st.at λo e=>k it (by simp) o e
 item:=by
  intro X hP hw hK hc i pins s σ H E I hf st hg;subst hP hw hK;obtain⟨xs,x,hq,hx⟩:=hg;obtain⟨its,rv,p,hz⟩:=I.list hq;obtain⟨u,hu,ru⟩:=rv.get hx;obtain⟨f0,f1,f2,f3,f4,f5⟩:=hf it (by simp)
  refine Qh st p.isList (x:=u) (by simpa using hu) λh' st' sb=> ?_
  have I1:Inv X pins σ H { s with heap:=h' }:=I.turned (t':=s.toks) (λb o hb e=>(sb.2 b hb).trans e) f0 f1 f3 f4 f5
  obtain⟨o,e,c,d⟩:=id st';exact⟨u,rfl,Ac (s:={ s with heap:=h' }) e c d (by decide) ⟨x,H,I1,ru,⟨rfl,λys hy=>by rw[I.IU hy hq];exact hx⟩,st',λb hb=>(hf b hb).1⟩⟩
 done:=by
  intro X hP hw hK hc i pins s σ H E I hf st hg;subst hP hw hK;obtain⟨xs,hq,hx⟩:=hg;obtain⟨its,rv,p,hz⟩:=I.list hq;obtain⟨f0,f1,f2,f3,f4,f5⟩:=hf it (by simp)
  have hl:=rv.length;exact Qu (I.ok.hd hc) st p.isList (by simp;omega) λh' eb=>⟨rfl,I.turned (t':=s.toks) (λb o hb e=>eb b o hb e) f0 f1 f3 f4 f5⟩
 self:=λ_ _ _ _ _ st h=>wpAny_pyIter_listiter st h
theorem tL {P:J9}{w:Kx}{K:JH}{tg:Expr}(a it:Addr):xM P w K tg (Itt K a) [it] it (λi h=>h.IsTupleIter it a i) where
 mem:=by simp
 obj:=λi h st b hb=>by
  have e:b=it:=by simpa using hb
  subst e;obtain⟨o,e,c,d⟩:=st;exact⟨o,e,λv z=>by rw[d]at z;cases z⟩
 keep:=λi h h' st k=>st.at λo e=>k it (by simp) o e
 item:=by
  intro X hP hw hK hc i pins s σ H E I hf st hg;subst hP hw hK;obtain⟨xs,x,hq,hx⟩:=hg;obtain⟨its,rv,p,hz⟩:=I.tuple hq;obtain⟨u,hu,ru⟩:=rv.get hx;obtain⟨f0,f1,f2,f3,f4,f5⟩:=hf it (by simp)
  refine wpAny_pyNext_tuple_item st (show s.heap.IsTuple a its.toArray from p) (x:=u) (by simpa using hu) λh' st' sb=> ?_
  have I1:Inv X pins σ H { s with heap:=h' }:=I.turned (t':=s.toks) (λb o hb e=>(sb.2 b hb).trans e) f0 f1 f3 f4 f5
  obtain⟨o,e,c,d⟩:=id st';exact⟨u,rfl,Ac (s:={ s with heap:=h' }) e c d (by decide) ⟨x,H,I1,ru,⟨rfl,λys hy=>by rw[I.IQ hy hq];exact hx⟩,st',λb hb=>(hf b hb).1⟩⟩
 done:=by
  intro X hP hw hK hc i pins s σ H E I hf st hg;subst hP hw hK;obtain⟨xs,hq,hx⟩:=hg;obtain⟨its,rv,p,hz⟩:=I.tuple hq;obtain⟨f0,f1,f2,f3,f4,f5⟩:=hf it (by simp)
  have hl:=rv.length;exact wpAny_pyNext_tuple_end (I.ok.hd hc) st (show s.heap.IsTuple a its.toArray from p) (by simp;omega) λh' eb=>⟨rfl,I.turned (t':=s.toks) (λb o hb e=>eb b o hb e) f0 f1 f3 f4 f5⟩
 self:=λ_ _ _ _ _ st h=>wpAny_pyIter_tupleiter st h
theorem tM {P:J9}{w:Kx}{K:JH}{tg:Expr}(it:Addr)(lo:Int)(n:Nat):xM P w K tg (Itr lo n) [it] it (λi h=>IsRangeIter h it (lo+(i:Nat)*1) ((n:Int) - (i:Nat)) 1) where
 mem:=by simp
 obj:=λi h st b hb=>by
  have e:b=it:=by simpa using hb
  subst e
  exact⟨_,st,λv z=>by
   have z':SN _=Q9 v:=z;cases z'⟩
 keep:=λi h h' st k=>k it (by simp) _ st
 item:=by
  intro X hP hw hK hc i pins s σ H E I hf st hg;subst hP hw hK;obtain⟨f0,f1,f2,f3,f4,f5⟩:=hf it (by simp)
  have W:=Walks.range (prog:=X.prog) (w:=X.w) (I.ok.hd hc) it lo 1 n;refine W.item i s _ _ hg st λv h' tk hv st' kk=> ?_
  obtain⟨t,rfl⟩:=hv
  have I1:Inv X pins σ H { s with heap:=h',toks:=tk }:=I.turned (λb o hb e=>kk b o (by simpa using hb) e) f0 f1 f3 f4 f5
  refine⟨_,rfl,Ac (s:={ s with heap:=h',toks:=tk }) (n:="range_iterator") st' rfl rfl (by decide) ⟨.int (lo+i),H,I1,⟨t,?_⟩,⟨rfl,rfl⟩,st',λb hb=>(hf b hb).1⟩⟩
  rw[Int.mul_one]
 done:=by
  intro X hP hw hK hc i pins s σ H E I hf st hg;subst hP hw hK;obtain⟨f0,f1,f2,f3,f4,f5⟩:=hf it (by simp)
  exact wpAny_pyNext_range_end (I.ok.hd hc) st (by have:n<=i:=hg;omega) λh' eb=>⟨rfl,I.turned (t':=s.toks) (λb o hb e=>eb b o hb e) f0 f1 f3 f4 f5⟩
 self:=λ_ _ _ _ _ st h=>wpAny_pyIter_rangeiter st h
section
variable {X:Cx}{tg:Expr}
def HJ (K:JH)(tl:TE):TI:=λσ H R=>tl σ H λx H1=> ∃a,x= .ref a/\(∃xs,SqL K H1 a xs)/\R (Itl K a) H1
def iTup (K:JH)(tl:TE):TI:=λσ H R=>tl σ H λx H1=> ∃a,x= .ref a/\(∃xs,SqT K H1 a xs)/\R (Itt K a) H1
theorem B6 {l:Expr}{tl:TE}(hl:PE X l tl):PI X tg l (HJ X.K tl):=by
 intro pins s σ H R I h;refine bV (hl pins s σ H _ I h) λv s1 hh_=> ?_
 obtain⟨x,H1,I1,r1,q1⟩:=hh_;obtain⟨a,e,⟨xs,hq⟩,q⟩:=q1;subst e;cases r1;obtain⟨its,rv,p,hz⟩:=I1.list hq;refine Nk p.isList ?_
 refine⟨s1.heap.objs.size,[s1.heap.objs.size],_,_,H1,rfl,I1.kept (t':=s1.toks) λb o e=>JI _ e,wA a _,⟨_,JS _ rfl,rfl,rfl⟩,λb hb=> ?_,q⟩
 have e:b=s1.heap.objs.size:=by simpa using hb
 subst e;exact I1.IZ (JW _) (I1.hok.fresh (JW _))
theorem EO {l:Expr}{tl:TE}(hl:PE X l tl):PI X tg l (iTup X.K tl):=by
 intro pins s σ H R I h;refine bV (hl pins s σ H _ I h) λv s1 hh_=> ?_
 obtain⟨x,H1,I1,r1,q1⟩:=hh_;obtain⟨a,e,⟨xs,hq⟩,q⟩:=q1;subst e;cases r1;obtain⟨its,rv,p,hz⟩:=I1.tuple hq;refine LA (show s1.heap.IsTuple a its.toArray from p) ?_
 refine⟨s1.heap.objs.size,[s1.heap.objs.size],_,_,H1,rfl,I1.kept (t':=s1.toks) λb o e=>JI _ e,tL a _,⟨_,JS _ rfl,rfl,rfl⟩,λb hb=> ?_,q⟩
 have e:b=s1.heap.objs.size:=by simpa using hb
 subst e;exact I1.IZ (JW _) (I1.hok.fresh (JW _))
theorem rA {pins:List (Addr×Obj)}{σ:St}{H:Hp}{s:JL}{R:It->Hp->Prop}{E:JK->JL->Prop}{lo hi:Int}{t u v:Tok}{tk:Nat}(I:Inv X pins σ H s)(h1 : -(2 ^ 62)<=lo)(h2:lo<2 ^ 62)(h3 : -(2 ^ 62)<=hi)(h4:hi<2 ^ 62)
  (q:R (Itr lo (hi - lo).toNat) H):wpAny (model X.prog X.w) X.A (pyIter (.ref s.heap.objs.size)) (PIE X pins σ tg R) E { s with heap:=s.heap.push { cls:=.type "range",data:=.fields #[.int lo t,.int hi u,.int 1 v] },toks:=tk }:=by
 refine wpAny_pyIter_range (IsRange.new ..) (small_one h1 h2 h3 h4) ?_
 have I1:Inv X pins σ H { s with heap:=s.heap.push { cls:=.type "range",data:=.fields #[.int lo t,.int hi u,.int 1 v] },toks:=tk }:=I.kept λb o e=>JI _ e
 refine⟨(s.heap.push { cls:=.type "range",data:=.fields #[.int lo t,.int hi u,.int 1 v] }).objs.size,[(s.heap.push { cls:=.type "range",data:=.fields #[.int lo t,.int hi u,.int 1 v] }).objs.size],_,_,H,rfl,
  I1.kept (t':=tk) λb o e=>JI _ e,tM _ lo (hi - lo).toNat,?_,λb hb=> ?_,q⟩
 ·have e1:lo+((0:Nat):Int)*1=lo:=by simp
  have e2:(((hi - lo).toNat:Nat):Int) - ((0:Nat):Int)=Builtin.Range.rangeSize lo hi 1:=by rw[rangeSize_one];split <;> omega
  show IsRangeIter _ _ (lo+((0:Nat):Int)*1) ((((hi - lo).toNat:Nat):Int) - ((0:Nat):Int)) 1
  rw[e1,e2];exact JS _ rfl
 ·have e:b=(s.heap.push { cls:=.type "range",data:=.fields #[.int lo t,.int hi u,.int 1 v] }).objs.size:=by simpa using hb
  subst e;exact I1.IZ (JW _) (I1.hok.fresh (JW _))
def tFor (wi:TI)(g:TG)(tb:TS):TS:=λD σ H=>wi σ H λJ H1=> ∃W:Nat->Nat->St->Hp->Prop,(∃m,W 0 m σ H1)/\∀i m σ H,W i m σ H →
 (J.stop i H/\D.nx σ H)\/(J.go i H/\∃N:St->Hp->Prop,(∀σ' H',N σ' H'->∃m',m'<m/\W (i+1) m' σ' H')/\∀x H',J.yld i H x H'->g x σ H' λσ2 H2=>tb { D with nx:=N,ct:=N,bk:=D.nx } σ2 H2)
def lQ (fp:List Addr)(h:Heap):List (Addr×Obj):=fp.filterMap λb=>(h.get? b).map λo=>(b,o)
theorem gu {fp:List Addr}{h:Heap}{b:Addr}{o:Obj}(hb:b∈fp)(e:h.get? b=some o):(b,o)∈lQ fp h:=NI.mpr ⟨b,hb,by rw[e];rfl⟩
theorem wX {fp:List Addr}{h:Heap}{p:Addr×Obj}(hp:p∈lQ fp h):p.1∈fp/\h.get? p.1=some p.2:=by
 obtain⟨b,hb,e⟩:=NI.mp hp
 cases q:h.get? b with
 | none=>rw[q]at e;cases e
 | some o=>
  rw[q]at e
  have e':(b,o)=p:=KM e;subst e';exact⟨hb,q⟩
theorem Inv.pinned {pins:List (Addr×Obj)}{σ:St}{H:Hp}{s:JL}{fp:List Addr}(I:Inv X pins σ H s)(hf:∀b∈fp,k7 X pins H b)(ho:∀b∈fp,∃o,s.heap.get? b=some o/\∀v,o.data≠ .cell v):Inv X (pins++lQ fp s.heap) σ H s:=
 I.Jc λp hp=>(Kg.mp hp).elim (λz=>I.pin p (Kd _ z)) λz=>by
  obtain⟨hb,e⟩:=wX z;obtain⟨f0,f1,f2,_⟩:=hf p.1 hb;obtain⟨o,e',d⟩:=ho p.1 hb;rw[e]at e';cases e';exact⟨e,f0,f1,f2,d⟩
theorem Inv.IP {pins pl:List (Addr×Obj)}{σ:St}{H:Hp}{s:JL}(I:Inv X (pins++pl) σ H s):Inv X pins σ H s:=I.Jc λp hp=>I.pin p (Kd _ (K6 _ hp))
end
abbrev R2:=V->V->Hp->VK->Prop
def nF (X:Cx)(f:JK->JK->Sem JK)(r:R2):Prop:=
 ∀(pins:List (Addr×Obj)) (s:JL) (σ:St) (H:Hp) (x y:V) (v u:JK) (Q:VK),Inv X pins σ H s->RelV x v->RelV y u->r x y H Q →
  wpAny (model X.prog X.w) X.A (f v u) (EP X pins σ Q) X.xe s
def UnR (X:Cx)(f:JK->Sem JK)(r:V->Hp->VK->Prop):Prop:=
 ∀(pins:List (Addr×Obj)) (s:JL) (σ:St) (H:Hp) (x:V) (v:JK) (Q:VK),Inv X pins σ H s->RelV x v->r x H Q →
  wpAny (model X.prog X.w) X.A (f v) (EP X pins σ Q) X.xe s
def CallR (X:Cx)(f:JK)(r:List V->Hp->VK->Prop):Prop:=
 ∀(pins:List (Addr×Obj)) (s:JL) (σ:St) (H:Hp) (xs:List V) (us:List JK) (Q:VK),Inv X pins σ H s->Vals xs us->r xs H Q →
  wpAny (model X.prog X.w) X.A (call f us) (EP X pins σ Q) X.xe s
def tUn (r:V->Hp->VK->Prop)(ta:TE):TE:=λσ H Q=>ta σ H λx H1=>r x H1 Q
def rI (C:Int->Int->Prop)(g:Int->Int->V):R2:=λx y H Q=> ∃i j,x= .int i/\y= .int j/\C i j/\Q (g i j) H
def BA (g:Int->Int->V):R2:=λx y H Q=> ∃i j,x= .int i/\y= .int j/\Q (g i j) H
def rU (g:Int->V):V->Hp->VK->Prop:=λx H Q=> ∃i,x= .int i/\Q (g i) H
section
variable {X:Cx}{a b c:Expr}{ta tb tc:TE}{pos:Pos}
theorem G8 {op:UnaryOp}{r:V->Hp->VK->Prop}(ho:UnR X (unaryOp op) r)(ha:PE X a ta):PE X (.UnaryOp op a pos) (tUn r ta):=by
 intro pins s σ H Q I h;exact UnaryOp_ (bV (ha pins s σ H _ I h) λv s1 ⟨x,H1,I1,r1,q1⟩=>ho pins s1 σ H1 x v Q I1 r1 q1)
theorem opI {f:JK->JK->Sem JK}{C:Int->Int->Prop}{g:Int->Int->Int}
  (rule:∀(i j:Int) (t u:Tok) (s:JL) (Q:JK->JL->Prop) (E:JK->JL->Prop),C i j->Q (.int (g i j) s.toks) { s with toks:=s.toks+1 }->wpAny (model X.prog X.w) X.A (f (.int i t) (.int j u)) Q E s) :
  nF X f (rI C λi j=> .int (g i j)):=by
 intro pins s σ H x y v u Q I rx ry h;obtain⟨i,j,rfl,rfl,hc,q⟩:=h;obtain⟨t,rfl⟩:=rx;obtain⟨t',rfl⟩:=ry;exact rule i j t t' s _ _ hc ⟨.int (g i j),H,I.tok _,⟨_,rfl⟩,q⟩
theorem Hh {f:JK->JK->Sem JK}{g:Int->Int->Int}
  (rule:∀(i j:Int) (t u:Tok) (s:JL) (Q:JK->JL->Prop) (E:JK->JL->Prop),Q (.int (g i j) s.toks) { s with toks:=s.toks+1 }->wpAny (model X.prog X.w) X.A (f (.int i t) (.int j u)) Q E s) :
  nF X f (BA λi j=> .int (g i j)):=by
 intro pins s σ H x y v u Q I rx ry h;obtain⟨i,j,rfl,rfl,q⟩:=h;obtain⟨t,rfl⟩:=rx;obtain⟨t',rfl⟩:=ry;exact rule i j t t' s _ _ ⟨.int (g i j),H,I.tok _,⟨_,rfl⟩,q⟩
theorem Cj {f:JK->JK->Sem JK}{g:Int->Int->Bool}
  (rule:∀(i j:Int) (t u:Tok) (s:JL) (Q:JK->JL->Prop) (E:JK->JL->Prop),Q (.bool (g i j)) s->wpAny (model X.prog X.w) X.A (f (.int i t) (.int j u)) Q E s) :
  nF X f (BA λi j=> .bl (g i j)):=by
 intro pins s σ H x y v u Q I rx ry h;obtain⟨i,j,rfl,rfl,q⟩:=h;obtain⟨t,rfl⟩:=rx;obtain⟨t',rfl⟩:=ry;exact rule i j t t' s _ _ ⟨.bl (g i j),H,I,rfl,q⟩
def CDiv (i j:Int):Prop:=0<j/\j<1073741824
def CMul (i j:Int):Prop:=(-(2 ^ 64)<i/\i<2 ^ 64)\/(-(2 ^ 64)<j/\j<2 ^ 64)
theorem CMul.ok {i j:Int}(h:CMul i j):IntMulOk i j:=by
 rcases h with⟨h1,h2⟩ | ⟨h1,h2⟩
 ·exact .of_left (intBits_le_64 h1 h2)
 ·exact .of_right (intBits_le_64 h1 h2)
theorem Fe:nF X (LZ .Add) (BA λi j=> .int (i+j)):=Hh λ_ _ _ _ _ _ _ q=>add_int q
theorem E7:nF X (LZ .Sub) (BA λi j=> .int (i - j)):=Hh λ_ _ _ _ _ _ _ q=>sub_int q
theorem E9:nF X (LZ .Mult) (rI CMul λi j=> .int (i*j)):=opI λ_ _ _ _ _ _ _ hc q=>mul_int q hc.ok
theorem Cg:nF X (LZ .FloorDiv) (rI CDiv λi j=> .int (i / j)):=opI λi j _ _ _ _ _ hc q=>by
 have h1:(0:Int)<j:=hc.1
 have h2:j<1073741824:=hc.2;exact floordiv_int (by omega) (by rw[Int.fdiv_eq_ediv_of_nonneg i (by omega)];exact q) (.inl (PyProof.noPylong_small (by omega)))
theorem Fb:nF X (LZ .Mod) (rI (λ_ j=>0<j) λi j=> .int (i % j)):=opI λi j _ _ _ _ _ hc q=>by
 have h1:(0:Int)<j:=hc;exact mod_int' (by omega) (by rw[Int.fmod_eq_emod_of_nonneg i (by omega)];exact q)
theorem unI {f:JK->Sem JK}{g:Int->Int}
  (rule:∀(i:Int) (t:Tok) (s:JL) (Q:JK->JL->Prop) (E:JK->JL->Prop),Q (.int (g i) s.toks) { s with toks:=s.toks+1 }->wpAny (model X.prog X.w) X.A (f (.int i t)) Q E s) :
  UnR X f (rU λi=> .int (g i)):=by
 intro pins s σ H x v Q I rx h;obtain⟨i,rfl,q⟩:=h;obtain⟨t,rfl⟩:=rx;exact rule i t s _ _ ⟨.int (g i),H,I.tok _,⟨_,rfl⟩,q⟩
theorem DU:UnR X (unaryOp .USub) (rU λi=> .int (-i)):=unI λ_ _ _ _ _ q=>neg_int q
end
section
variable {X:Cx}{a b c:Expr}{ta tb tc:TE}{pos:Pos}
theorem Ag {pins:List (Addr×Obj)}{σ:St}{H:Hp}{s:JL}{Q:VK}{k k':Bool}(I:Inv X pins σ H s)(q:Q (.bl k) H)(e:k=k'):EP X pins σ Q (.bool k') s:=by
 subst e;exact⟨.bl k,H,I,rfl,q⟩
theorem Hd:nF X (KC .Lt) (BA λi j=> .bl (decide (i<j))):=Cj λ_ _ _ _ _ _ _ q=>lt_int q
theorem He:nF X (KC .LtE) (BA λi j=> .bl (decide (i<=j))):=Cj λ_ _ _ _ _ _ _ q=>le_int q
theorem Hf:nF X (KC .Gt) (BA λi j=> .bl (decide (j<i))):=Cj λ_ _ _ _ _ _ _ q=>gt_int q
theorem Hg:nF X (KC .GtE) (BA λi j=> .bl (decide (j<=i))):=Cj λ_ _ _ _ _ _ _ q=>ge_int q
theorem Fc:nF X (KC .Is) (λx y H Q=>y= .non/\Q (.bl (decide (x= .non))) H):=by
 intro pins s σ H x y v u Q I rx ry h;obtain⟨rfl,q⟩:=h;cases ry;refine is_none_gen (Ag I q ?_)
 cases x <;> first
  | (cases rx;rfl)
  | (obtain⟨t,rfl⟩:=rx;rfl)
theorem Cf:nF X (KC .IsNot) (λx y H Q=>y= .non/\Q (.bl (!decide (x= .non))) H):=by
 intro pins s σ H x y v u Q I rx ry h;obtain⟨rfl,q⟩:=h;cases ry;refine isnot_none_gen (Ag I q ?_)
 cases x <;> first
  | (cases rx;rfl)
  | (obtain⟨t,rfl⟩:=rx;rfl)
theorem mh:(sizeLine:Nat)<2 ^ 63:=by rw[Me];decide
theorem ud:nF X (LZ .Add) (λx y H Q=> ∃i j,x= .str i/\y= .str j/\i.length+j.length<=sizeLine/\Q (.str (i++j)) H):=by
 intro pins s σ H x y v u Q I rx ry h;obtain⟨i,j,rfl,rfl,hz,q⟩:=h;obtain⟨t,rfl⟩:=rx;obtain⟨t',rfl⟩:=ry;exact add_str (λt' tk=>⟨.str (i++j),H,I.tok _,⟨_,rfl⟩,q⟩) hz
theorem ja {x:V}{us:List JK}(r:Vals [x] us):∃u,us= [u]/\RelV x u:=by
 cases r with
 | cons r1 r2=>cases r2;exact⟨_,rfl,r1⟩
theorem Dj {x y:V}{us:List JK}(r:Vals [x,y] us):∃u w',us= [u,w']/\RelV x u/\RelV y w':=by
 cases r with
 | cons r1 r2=>
  cases r2 with
  | cons r3 r4=>cases r4;exact⟨_,_,rfl,r1,r3⟩
theorem xJ:CallR X (.type "int") (λxs H Q=>(∃i,xs= [.int i]/\Q (.int i) H)\/∃k,xs= [.bl k]/\Q (.int (if k then 1 else 0)) H):=by
 intro pins s σ H xs us Q I r h;rcases h with⟨i,rfl,q⟩ | ⟨k,rfl,q⟩
 ·obtain⟨u,rfl,t,rfl⟩:=ja r
  exact call_int_int ⟨.int i,H,I,⟨_,rfl⟩,q⟩
 ·obtain⟨u,rfl,r1⟩:=ja r
  cases r1;exact call_int_bool ⟨.int (if k then 1 else 0),H,I.tok _,⟨_,rfl⟩,q⟩
end
structure ObjM (h:Heap)(x dx C:Addr)(mA:Str->Option JK):Prop where
 obj:h.get? x=some (Qk C dx)
 ns:h.Ns1 dx mA
 ne:dx≠x
theorem xb {h:Heap}{dx:Addr}{mA:Str->Option JK}(n:h.Ns1 dx mA):∃od,h.get? dx=some od/\∀name,QK name od=some (mA name):=by
 obtain⟨o,es,ep,ho,hd,hk,_,hm⟩:=n;refine⟨o,ho,λname=> ?_⟩
 have e:=hm name;unfold nsFind findBy at e;rw[<-Ra]at e
 unfold QK;rw[hd]
 dsimp only
 split
 ·rename_i y q
  rw[q]at e;exact congrArg some e
 ·rename_i q
  rw[q]at e
  have a:es.toList.any (·.refKey)=false:=by
   rw[List.any_eq_false];intro y hy;obtain⟨z,t,hkey⟩:=hk y (QF.mp hy);simp[DictEntry.refKey,hkey]
  have a':¬ es.toList.any (·.refKey)=true:=by rw[a];exact J3
  rw[if_neg a'];exact congrArg some e
theorem ObjM.look {h:Heap}{x dx C:Addr}{mA:Str->Option JK}(I:ObjM h x dx C mA):∃od,PySem.W.InstAt h x (Qk C dx) C (some od)/\∀name,QK name od=some (mA name):=
 let ⟨od,ho,hl⟩:=xb I.ns
 ⟨od,⟨I.obj,rfl,rfl,ho⟩,hl⟩
theorem RelO.some_of {v:V}{o:Option JK}(r:RelO (some v) o):∃u,o=some u/\RelV v u:=by
 cases o with
 | none=>exact(show False from r).elim
 | some u=>exact⟨u,rfl,r⟩
section
variable {P:J9}{w:Kx}{H H':Hp}{h h':Heap}{a C dx:Addr}{fs fs':List (Str×V)}
theorem CC (hok:HOk P w H h)(e:H a=some (.ins C dx fs)):∃mA,ObjM h a dx C mA/\(∀f,RelO (fs.lookup f) (mA f))/\PySem.Within mA (fs.map (·.1))/\fs.length<=1000/\H dx=some (.own a):=by
 obtain⟨d,z,ne,ob,mA,n,r,q⟩:=(show ObjOk P w H h a (.ins C dx fs)from hok a _ e)
 exact⟨mA,⟨ob,n,ne⟩,r,q,z,d⟩
end
structure Cls (K:JH)(C:Addr):Prop where
 pg:Sm K C Str.empty=true
 hd:PySem.W.hasDictIn K C=true
 po:PySem.W.plainOver K C=true
 sa:PySem.W.findIn K (.ref C) "__setattr__" =some (some (.builtin "object.__setattr__"))
theorem Cls.get {K:JH}{C:Addr}(c:Cls K C)(f:Str):Sm K C f=true:=c.pg
section
variable {X:Cx}{pins:List (Addr×Obj)}{σ:St}{H:Hp}{s:JL}{A:Km}{E:JK->JL->Prop}{Q:JK->JL->Prop}{c:JK}{b:Bool}
inductive kD (K:JH) (H:Hp):V->JK->Prop where
 | non:kD K H .non (.type "NoneType")
 | bl (x:Bool):kD K H (.bl x) (.type "bool")
 | int (i:Int):kD K H (.int i) (.type "int")
 | str (x:Str):kD K H (.str x) (.type "str")
 | flt (x:UInt64):kD K H (.flt x) (.type "float")
 | lst {a:Addr} {xs:List V} (e:H a=some (.lst xs)):kD K H (.ref a) (.type "list")
 | frz {a:Addr} {o:Obj} {xs:List V} (e:H a=some (.frz o (.lst xs))):kD K H (.ref a) (.type "list")
 | tup {a:Addr} {xs:List V} (e:H a=some (.tup xs)):kD K H (.ref a) (.type "tuple")
 | dK {a:Addr} {kvs:List (Key×V)} (e:H a=some (.dK kvs)):kD K H (.ref a) (.type "dict")
 | dT {a:Addr} {kvs:List (List Key×V)} (e:H a=some (.dT kvs)):kD K H (.ref a) (.type "dict")
 | ins {a C dx:Addr} {fs:List (Str×V)} (e:H a=some (.ins C dx fs)) (cl:Cls K C) (ha:PySem.W.findIn K (.ref C) "__class__" =some (some (.builtin "object.__class__")))
   (hn:PySem.W.specialIn K (.builtin "object.__class__") "__get__" =some (some (.builtin "getset_descriptor.__get__"))) (htk:PySem.W.takesIn K (.builtin "object.__class__")=some true)
   (hm:PySem.W.mroIn K C (.type "object")=some true):kD K H (.ref a) (.ref C)
theorem xq {x:V}{u t:JK}(I:Inv X pins σ H s)(rx:RelV x u)(ty:kD X.K H x t)(e:PySem.W.kitOne X.K t c=some b)(h:∀tk,Q (.bool b) { s with toks:=tk }) :
  wpAny (model X.prog X.w) A (call (.builtin "isinstance") [u,c]) Q E s:=by
 cases ty with
 | non=>cases (show u=KI from rx);exact Lo PySem.W.kitx_none I.kIn Nd e (λz=>nomatch z) h
 | bl y=>cases (show u=K7 y from rx);exact Lo PySem.W.kitx_bool I.kIn Nd e (λz=>nomatch z) h
 | int i=>obtain⟨t,q⟩:=(show ∃t,u=LF i t from rx);cases q;exact Lo PySem.W.kitx_int I.kIn Nd e (λz=>nomatch z) h
 | str y=>obtain⟨t,q⟩:=(show ∃t,u=LS y t from rx);cases q;exact Lo PySem.W.kitx_str I.kIn Nd e (λz=>nomatch z) h
 | flt y=>obtain⟨t,q⟩:=(show ∃t,u=Value.float y t from rx);cases q;exact Lo PySem.W.kitx_float I.kIn Nd e (λz=>nomatch z) h
 | @lst a xs ea=>
  cases (show u=Kb a from rx)
  obtain⟨_,_,n,_,h1⟩:=(show ObjOk X.prog X.w H s.heap a (.lst xs)from I.hok a _ ea)
  exact Lo RE I.kIn ⟨_,h1,rfl⟩ e (λz=>nomatch z) h
 | @frz a ob xs ea=>
  cases (show u=Kb a from rx)
  obtain⟨_,_,_,n,_,h1⟩:=(show ObjOk X.prog X.w H s.heap a (.frz ob (.lst xs))from I.hok a _ ea)
  exact Lo RE I.kIn ⟨_,h1,rfl⟩ e (λz=>nomatch z) h
 | @tup a xs ea=>
  cases (show u=Kb a from rx)
  obtain⟨_,_,_,p⟩:=(show ObjOk X.prog X.w H s.heap a (.tup xs)from I.hok a _ ea)
  obtain⟨o,h1,h2,_⟩:=p
  exact Lo PySem.W.kitx_tuple I.kIn ⟨o,h1,h2⟩ e (λz=>nomatch z) h
 | @dK a kvs ea=>
  cases (show u=Kb a from rx)
  obtain⟨_,_,vs,_,p⟩:=(show ObjOk X.prog X.w H s.heap a (.dK kvs)from I.hok a _ ea)
  obtain⟨o,es,ep,h1,h2,_⟩:=p
  exact Lo RF I.kIn ⟨o,h1,h2.1⟩ e (λz=>nomatch z) h
 | @dT a kvs ea=>
  cases (show u=Kb a from rx)
  obtain⟨_,_,xs,_,o,es,ep,h1,h2,_⟩:=(show ObjOk X.prog X.w H s.heap a (.dT kvs)from I.hok a _ ea)
  exact Lo RF I.kIn ⟨o,h1,h2.1⟩ e (λz=>nomatch z) h
 | @ins a C dx fs ea cl ha hn htk hm=>
  cases (show u=Kb a from rx)
  obtain⟨mA,O,_⟩:=CC I.hok ea;obtain⟨od,J,_⟩:=O.look;exact Lo (PySem.W.kitx_own (cl.get _) cl.hd ha hn htk hm) I.kIn J e (λz=>nomatch z) h
end
structure Room (k:Nat)(A:Km):Prop where
 hd:A.handled=none
 dp:A.depth+3*k+5<recursionLimit
 un:A.units+16*k+200<cLine
theorem Room.mono {j k:Nat}{A:Km}(r:Room k A)(h:j<=k):Room j A:=⟨r.hd,by have:=r.dp;omega,by have:=r.un;omega⟩
theorem Room.deeper {k:Nat}{A:Km}(r:Room (k+1) A)(env:Env):Room k (A.deeper env):=
 ⟨r.hd,by have:=r.dp;show A.depth+1+3*k+5<_;omega,by have:=r.un;show A.units+3+16*k+200<_;omega⟩
theorem Room.depth {k:Nat}{A:Km}(r:Room k A):A.depth<recursionLimit:=by have:=r.dp;omega
def Gv:TA:=λ_ H Q=>Q [] H
def yx (ta:TE)(tr:TA):TA:=λσ H Q=>ta σ H λx H1=>tr σ H1 λxs H2=>Q (x::xs) H2
section
variable {X:Cx}{e:Expr}{es:List Expr}{te:TE}{t:TA}{pos:Pos}
theorem lR:PA X [] Gv:=λ_ _ _ _ H Q I h=>My ⟨[],H,I,.nil,h⟩
theorem iF (ha:PE X e te)(hr:PA X es t)(hs:autoParam (Kc (e::es) X.env=(false,eval e X.env)::Kc es X.env) u_):PA X (e::es) (yx te t):=by
 intro pos pins s σ H Q I h;rw[hs]
 show wpAny _ _ (spliced ((false,eval e X.env)::backTo pos (Kc es X.env))) _ _ s
 refine Mj (bV (ha pins s σ H _ I h) λu s1 hh_=> ?_)
 obtain⟨x,H1,I1,r1,q1⟩:=hh_;exact bV (hr pos pins s1 σ H1 _ I1 q1) λus s2 ⟨xs,H2,I2,r2,q2⟩=>⟨x::xs,H2,I2,.cons r1 r2,q2⟩
def tTup (t:TA):TE:=λσ H Q=>t σ H λxs H1=>xs.length<=sizeLine/\∀p,H1 p=none->Q (.ref p) (upd H1 p (.tup xs))
def tLst (t:TA):TE:=λσ H Q=>t σ H λxs H1=>xs.length<=sizeLine/\∀p,H1 p=none->Q (.ref p) (upd H1 p (.lst xs))
theorem ES {x1}(h:PA X es t):PE X (.Tuple es x1 pos) (tTup t):=by
 intro pins s σ H Q I hq;refine wpAny_Tuple_spliced (bV (h pos pins s σ H _ I hq) λus s1 ⟨xs,H1,I1,r,z,q⟩=>⟨by rw[<-r.length];exact z,?_⟩)
 have hf:H1 s1.heap.objs.size=none:=I1.hok.fresh (JW _);refine⟨.ref s1.heap.objs.size,upd H1 s1.heap.objs.size (.tup xs),I1.laid (t':=s1.toks) (λb u e=>JI _ e) (JW _) ?_,rfl,q _ hf⟩
 exact⟨z,us,r,⟨_,JS _ rfl,rfl,_,rfl⟩⟩
theorem EW (h:PA X es t):PE X (.List es pos) (tLst t):=by
 intro pins s σ H Q I hq;refine Rr (bV (h pos pins s σ H _ I hq) λus s1 ⟨xs,H1,I1,r,z,q⟩=>⟨by rw[<-r.length];exact z,?_⟩)
 have hf:H1 s1.heap.objs.size=none:=I1.hok.fresh (JW _);refine⟨.ref s1.heap.objs.size,upd H1 s1.heap.objs.size (.lst xs),I1.laid (t':=s1.toks) (λb u e=>JI _ e) (JW _) ?_,rfl,q _ hf⟩
 exact⟨z,us,0,r,JS _ rfl⟩
end
abbrev Sp:=List V->Hp->VK->XK->Prop
abbrev A1:=List Env->Hp->JL->XK->JK->JL->Prop
structure AW (P:J9)(w:Kx)(K:JH)(mg:Str->Option JK)(base:Heap)(A:Km)(outer:List Env)(s:JL)(H:Hp):Prop where
 frames:A.frames=some outer
 mod:Mod K mg base
 bs:∀b o,base.get? b=some o->s.heap.get? b=some o/\H b=none
 bsz:base.objs.size<=s.heap.objs.size
 funs:s.heap.FunFrames base outer
 frf:∀b∈qh outer,H b=none
 hok:HOk P w H s.heap
 bare:PY s.gens
def CE (outer:List Env)(P:J9)(w:Kx)(H:Hp)(s:JL)(Q:VK)(u:JK)(s':JL):Prop:=
 ∃v H',s'.os=s.os/\PY s'.gens/\Un (qh outer) [] H H' s.heap s'.heap/\HOk P w H' s'.heap/\RelV v u/\Q v H'
def CR (CX:A1)(outer:List Env)(P:J9)(w:Kx)(H:Hp)(s:JL)(Q:VK)(E:XK)(r:S4)(s':JL):Prop:=
 match r with
 | .ok (.ret u)=>CE outer P w H s Q u s'
 | .ok _=>False
 | .error e=>CX outer H s E e s'
structure qH (P:J9)(w:Kx)(K:JH)(mg:Str->Option JK)(base:Heap)(CX:A1)(k:Nat)(f:Addr)(fd:L0)(ps:List Str)(sp:Sp):Prop where
 len:∀vs H Q E,sp vs H Q E->vs.length=ps.length
 run:∀(A:Km) (outer:List Env) (s:JL) (H:Hp) (args:Args) (us:List JK) (vs:List V) (Q:VK) (E:XK),Room k A->AW P w K mg base A outer s H->RY s fd args (ps.zip us)->Vals vs us->sp vs H Q E →
  codeAny (model P w) A (.call (.ref f) args) (CR CX outer P w H s Q E) s
section
variable {X:Cx}{pins:List (Addr×Obj)}{σ:St}{H:Hp}{s s':JL}
theorem Inv.Ju (I:Inv X pins σ H s):AW X.prog X.w X.K X.mg X.base X.A X.stack s H:=
 ⟨I.ok.frames,I.ok.mod,I.bs,Kf I.ok.bsz I.sz,I.stack,I.IX,I.hok,I.bare⟩
theorem Inv.after {Q:VK}{u:JK}(I:Inv X pins σ H s)(h:CE X.stack X.prog X.w H s Q u s'):EP X pins σ Q u s':=by
 obtain⟨v,H',os,bare,un,hok,r,q⟩:=h;obtain⟨hh,g,d,t,os'⟩:=s';obtain rfl:os'=s.os:=os;exact⟨v,H',I.call (h':=hh) (g':=g) (d':=d) (t':=t) (ch:=[]) un hok bare (λb z=>absurd z (by simp)),r,q⟩
end
def GC (sp:Sp)(dvs:List V)(E:XK)(t:TA):TE:=λσ H Q=>t σ H λvs H1=>sp (vs++dvs) H1 Q E
def Binds (K:JH)(fd:L0)(ps:List Str)(ds:List JK):Prop:=
 ∀(s:JL) (us:List JK),K.In s.heap->(us++ds).length=ps.length->RY s fd ⟨us,[]⟩ (ps.zip (us++ds))
theorem Binds.all {K:JH}{fd:L0}{ps:List Str}(h:∀us:List JK,us.length=ps.length->SJ fd ⟨us,[]⟩=pure (ps.zip us)):Binds K fd ps []:=λs us _ hl=>by
 rw[LW]at hl ⊢;exact .of_eq (h us hl)
def uM (CX:A1)(X:Cx)(E:XK):Prop:=∀(pins:List (Addr×Obj)) (σ:St) (H:Hp) (s:JL) (e:JK) (s':JL),Inv X pins σ H s->CX X.stack H s E e s'->X.xe e s'
section
variable {X:Cx}{CX:A1}{k:Nat}{f C:Addr}{fd:L0}{ps:List Str}{sp:Sp}{dvs:List V}{ds:List JK}{E:XK}{x m:Str}{p pos apos:Pos}{e o:Expr}{es:List Expr}{ta:TE}{t:TA}
theorem D7 {pins:List (Addr×Obj)}{σ:St}{H:Hp}{s:JL}{Q:VK}{us:List JK}{vs:List V}(F:qH X.prog X.w X.K X.mg X.base CX k f fd ps sp)(hr:Room k X.A)(hb:Binds X.K fd ps ds)(hd:Vals dvs ds)(hx:uM CX X E)
  (I:Inv X pins σ H s) (r:Vals vs us) (h:sp (vs++dvs) H Q E):wpAny (model X.prog X.w) X.A (call (.ref f) us) (EP X pins σ Q) X.xe s:=by
 have r2:Vals (vs++dvs) (us++ds):=r.append hd
 have hl:(us++ds).length=ps.length:=by rw[<-r2.length];exact F.len _ _ _ _ h
 refine wpAny_call (Om (F.run X.A X.stack s H ⟨us,[]⟩ (us++ds) (vs++dvs) Q E hr I.Ju (hb s us I.kIn hl) r2 h) λr s' hq=> ?_)
 cases r with
 | error e=>exact hx pins σ H s e s' I hq
 | ok fl=>
  cases fl with
  | ret u=>exact I.after hq
  | next=>exact Nc hq
  | brk=>exact Nc hq
  | cont=>exact Nc hq
theorem vj (F:qH X.prog X.w X.K X.mg X.base CX k f fd ps sp)(hr:Room k X.A)(hg:Gl X x)(hm:X.mg x=some (.ref f))(hk:N9 X.K (.ref f)=true)(hb:Binds X.K fd ps ds)(hd:Vals dvs ds)(hx:uM CX X E)
  (ha:PA X (e::es) t) (hdb:autoParam ((x == ("__debug__" : Str))=false) s_) (he:autoParam (Kc (e::es) X.env=(false,eval e X.env)::Kc es X.env) u_) (hpl:autoParam ((backTo pos (Kc es X.env)).any (·.1)=false) u_) :
  PE X (.Call (.Name x p) (e::es) [] pos) (GC sp dvs E t):=by
 intro pins s σ H Q I h;refine LB (lq I hg hm ?_ hdb)
 refine Q6 (h₀:=X.base) I.ok.mod.kin hk (bV (ha pos pins s σ H _ I h) λus s1 ⟨vs,H1,I1,r,q⟩=>⟨I1.kIn,?_⟩) he hpl
 exact D7 F hr hb hd hx I1 r q
end
structure dG (N P:List Str)(sc:NR):Prop where
 kind:sc.kind= .function
 co:sc.isCoroutine=false
 gen:sc.isGenerator=false
 nd:N.Nodup
 pre:N.take P.length=P
 par:∀x∈P,sc.names.lookup x=some .local\/sc.names.lookup x=some .cell
 nofree:∀y∈sc.names,y.2≠ .free
theorem oB {kindOf:Str->Option Ni}{x:Str}:∀{binds:List (Str×JK)} {m:Str->Option JK},(∀v,(x,v)∉binds)->bindL kindOf binds m x=m x
 | [],_,_=>rfl
 | (n,v)::r,m,h=>by
  unfold bindL;rw[oB λw hw=>h w (JJ _ hw)]
  split
  ·have:x≠n:=by rintro rfl;exact h v JO
   simp[this]
  ·rfl
theorem oE {kindOf:Str->Option Ni}{x:Str}:∀{binds:List (Str×JK)} {m:Str->Option JK},(∀v,(x,v)∉binds)->bindC kindOf binds m x=m x
 | [],_,_=>rfl
 | (n,v)::r,m,h=>by
  unfold bindC;rw[oE λw hw=>h w (JJ _ hw)]
  split
  ·rfl
  ·have:x≠n:=by rintro rfl;exact h v JO
   simp[this]
theorem oC {kindOf:Str->Option Ni}{x:Str}{v:JK}:∀{P:List Str} {vs:List JK} {i:Nat} {m:Str->Option JK},P.Nodup->P[i]? =some x->vs[i]? =some v->kindOf x=some .local →
  bindL kindOf (P.zip vs) m x=some v
 | [],_,_,_,_,h,_,_=>by simp at h
 | _::_,[],_,_,_,_,h,_=>by simp at h
 | p::P,w::vs,0,m,nd,h1,h2,hk=>by
  simp at h1 h2;subst h1;subst h2
  show bindL kindOf ((p,w)::P.zip vs) m p=_
  unfold bindL;rw[oB λv hv=>(KG.mp nd).1 (NJ hv).1,if_pos hk]
  simp
 | p::P,w::vs,i+1,m,nd,h1,h2,hk=>by
  show bindL kindOf ((p,w)::P.zip vs) m x=_
  unfold bindL;exact oC (i:=i) (KG.mp nd).2 (by simpa using h1) (by simpa using h2) hk
theorem oF {kindOf:Str->Option Ni}{x:Str}{v:JK}:∀{P:List Str} {vs:List JK} {i:Nat} {m:Str->Option JK},P.Nodup->P[i]? =some x->vs[i]? =some v->kindOf x≠some .local →
  bindC kindOf (P.zip vs) m x=some v
 | [],_,_,_,_,h,_,_=>by simp at h
 | _::_,[],_,_,_,_,h,_=>by simp at h
 | p::P,w::vs,0,m,nd,h1,h2,hk=>by
  simp at h1 h2;subst h1;subst h2
  show bindC kindOf ((p,w)::P.zip vs) m p=_
  unfold bindC;rw[oE λv hv=>(KG.mp nd).1 (NJ hv).1,if_neg hk]
  simp
 | p::P,w::vs,i+1,m,nd,h1,h2,hk=>by
  show bindC kindOf ((p,w)::P.zip vs) m x=_
  unfold bindC;exact oF (i:=i) (KG.mp nd).2 (by simpa using h1) (by simpa using h2) hk
def start (N:List Str)(vs:List V):St:=vs.map some++Ke (N.length - vs.length) none
def jU (CX:A1)(P:J9)(w:Kx)(K:JH)(mg:Str->Option JK)(base:Heap)(N:List Str)(qual:Str)(scope:NR)(f:Addr)(cd:JK)(A:Km)(outer:List Env)(s:JL)(H:Hp)(E:XK):Cx where
 prog:=P
 w:=w
 K:=K
 mg:=mg
 base:=base
 A:=A.deeper (envOfC qual scope s.heap.objs.size f cd)
 N:=N
 s₀:=s
 H₀:=H
 env:=envOfC qual scope s.heap.objs.size f cd
 outer:=outer
 stack:=envOfC qual scope s.heap.objs.size f cd::outer
 ex:=[]
 calm:=true
 fn:=λ_=>true
 pn:=[]
 xe:=λe s'=>wpAny (model P w) (A.deeper (envOfC qual scope s.heap.objs.size f cd)) (leaving (envOfC qual scope s.heap.objs.size f cd) e) (λ_ s''=>CX outer H s E e s'') (λe' s''=>CX outer H s E e' s'') s'
theorem sW {sc:NR}{n:Nat}{x:Str}(h:sc.names.lookup x=some .cell):∃c,(MO n sc.names []).lookup x=some c:=by
 have q:=NS sc.names n [] (.inl h);exact Option.isSome_iff_exists.mp q
theorem n6 {CX:A1}{P:J9}{w:Kx}{K:JH}{mg:Str->Option JK}{base:Heap}{N ps:List Str}{qual:Str}{scope:NR}{f:Addr}{cd:JK}{A:Km}{outer:List Env}{s s1:JL}{H:Hp}{E:XK}{us:List JK}{vs:List V}
  (S:dG N ps scope) (hd:A.handled=none) (e0:AW P w K mg base A outer s H) (hl:vs.length=ps.length) (r:Vals vs us)
  (x:InCallC s s.heap.objs.size (bindL (envOfC qual scope s.heap.objs.size f cd).kindOf (ps.zip us) λ_=>none) (MO (s.heap.objs.size+1) scope.names []) (bindC (envOfC qual scope s.heap.objs.size f cd).kindOf (ps.zip us) λ_=>none) s1) :
  Inv (jU CX P w K mg base N qual scope f cd A outer s H E) [] (start N vs) H s1:=by
 have hpl:ps.length<=N.length:=by have:=congrArg MZ S.pre;rw[MK]at this;omega
 obtain⟨h1,tk,rfl,hk⟩:=x.done
 have noA:∀b:Addr,b∉(jU CX P w K mg base N qual scope f cd A outer s H E).ex:=λb z=>absurd (show b∈([]:List Addr)from z) (by simp)
 refine⟨⟨e0.mod,S.kind,rfl,rfl,JW _,λy z c h1 h2=> ?_,λy hy=> ?_,λy c _ h=> ?_,λ_=>hd,Around.frames_deeper e0.frames,.inr ⟨rfl,rfl⟩,λb z=>absurd z (noA b),e0.bs,e0.bsz,λb _ _=>noA b,λb z=>absurd z (noA b),e0.funs,e0.frf⟩,
  rfl,e0.bare,Un.kept hk,⟨_,x.toInCall.ns,λi y v h1 h2 h3=> ?_⟩,λy c h=>⟨_,x.cell y c h⟩,e0.hok.fresh (JW _),λy c h=> ?_,λp hp=>absurd (show p∈([]:List (Addr×Obj))from hp) (by simp),e0.hok.kept hk,?_⟩
 ·exact name_of_addr x.apart (Mb h1) (Mb h2)
 ·have hy:scope.names.lookup y=some .cell\/scope.names.lookup y=some .free:=hy
  rcases hy with hy | hy
  ·exact sW hy
  ·exact absurd rfl (S.nofree _ (Mb hy))
 ·exact LU (x.above y c (Mb h))
 ·have hi:i<vs.length:=by
   unfold start at h2
   by_cases hi:i<vs.length
   ·exact hi
   ·rw[Nm (by simpa using hi)]at h2
    rw[NK]at h2
    split at h2 <;> cases h2
  have ha:vs[i]? =some v:=by
   unfold start at h2;rw[LM (by simpa using hi),Kk]at h2
   cases e:vs[i]? with
   | none=>rw[e]at h2;cases h2
   | some a=>rw[e]at h2;cases h2;rfl
  obtain⟨u,hu,rv⟩:=r.get ha
  have hp:ps[i]? =some y:=by
   rw[<-S.pre,List.getElem?_take_of_lt (by omega)];exact h1
  have ndP:ps.Nodup:=by rw[<-S.pre];exact S.nd.sublist (RH _ _)
  refine⟨u,rv,?_⟩
  rcases S.par y (L3 hp)with k | k
  ·exact .inl ⟨k,oC ndP hp hu k⟩
  ·obtain⟨c,e⟩:=sW (n:=s.heap.objs.size+1) k
   refine .inr ⟨.inl k,c,e,?_⟩
   have q:=x.cell y c e;rw[oF ndP hp hu (by show scope.names.lookup y≠_;rw[k];decide)]at q
   exact q
 ·exact e0.hok.fresh (LU (x.above y c (Mb h)))
 ·unfold start
  show _=N.length
  rw[JZ,JQ,List.length_replicate];omega
theorem HR {CX:A1}{P:J9}{w:Kx}{K:JH}{mg:Str->Option JK}{base:Heap}{k:Nat}{f:Addr}{name qual:Str}{params:Qs}{body:List Stmt}{scope:NR}{dV kV doc pm cdv ct oc:JK}{an od:Option Addr}
  {osl:Array (Option JK)} {N ps:List Str} {sp:Sp} (lk:K.lookup f=some ⟨oc,od,.func (NB name qual params body scope dV kV doc pm an cdv ct),osl⟩) (hcd:QL K cdv qual=true) (S:dG N ps scope)
  (len:∀vs H Q E,sp vs H Q E->vs.length=ps.length)
  (hbody:∀(A:Km) (outer:List Env) (s:JL) (H:Hp) (vs:List V) (Q:VK) (E:XK),Room k (A.deeper (envOfC qual scope s.heap.objs.size f cdv))->sp vs H Q E →
   ∃t,PSs (jU CX P w K mg base N qual scope f cdv A outer s H E) body t/\t { nx:=λ_ H'=>Q .non H',rt:=Q } (start N vs) H) :
  qH P w K mg base CX (k+1) f (NB name qual params body scope dV kV doc pm an cdv ct) ps sp:=by
 refine⟨len,λA outer s H args us vs Q E hr e0 hb r hsp=> ?_⟩
 have hl:=len _ _ _ _ hsp
 have KX:K.In s.heap:=e0.mod.kin.keeps λb o e=>(e0.bs b o e).1
 have lim:s.heap.NoLimit:=e0.mod.nolimit.keeps λb o e=>(e0.bs b o e).1
 have hkind:∀y∈ps.zip us,scope.names.lookup y.1=some .local\/(scope.names.lookup y.1=some .cell/\((MO (s.heap.objs.size+1) scope.names []).lookup y.1).isSome=true):=λ⟨n,v⟩ hy=>by
  rcases S.par n (NJ hy).1 with q | q
  ·exact .inl q
  ·exact .inr ⟨q,NS _ _ _ (.inl q)⟩
 refine Qv hr.depth (KX _ _ lk) rfl S.co S.gen rfl (Q7 KX hcd) (hb _ _ _ _ ?_)
 refine Pd S.kind hkind λenv he s1 x=> ?_
 subst he;refine⟨lim.keeps x.toInCall.keep,codeAny_func ?_⟩
 obtain⟨t,ht,hq⟩:=hbody A outer s H vs Q E (hr.deeper _) hsp
 have I:Inv (jU CX P w K mg base N qual scope f cdv A outer s H E) [] (start N vs) H s1:=n6 S hr.hd e0 hl r x;refine L9 (ht [] s1 (start N vs) H _ I hq) (λfl s' hs=> ?_) λe s' hs=>hs
 have fin:∀{σ':St} {H':Hp} {v:V} {u:JK},Inv (jU CX P w K mg base N qual scope f cdv A outer s H E) [] σ' H' s'->RelV v u->Q v H'->CE outer P w H s Q u s':=
  λ{σ' H' v u} J rv q=>⟨v,H',J.os,J.bare,J.base,J.hok,rv,q⟩
 cases fl with
 | ret u=>
  obtain⟨v,σ',H',J,rv,q⟩:=hs
  exact fin J rv q
 | next=>
  obtain⟨σ',H',J,q⟩:=hs
  exact fin (v:=V.non) (u:=KI) J rfl q
 | brk=>
  obtain⟨_,_,_,q⟩:=hs
  exact Nc q
 | cont=>
  obtain⟨_,_,_,q⟩:=hs;exact Nc q
end L2
namespace HT
open PySem PyProof.Rows
def lexLt:List Int->List Int->Bool
 | [],[] =>false
 | [],_::_=>true
 | _::_,[] =>false
 | x::xs,y::ys=>if x=y then lexLt xs ys else decide (x<y)
theorem lexLt_cons (x y:Int)(xs ys:List Int):lexLt (x::xs) (y::ys)=if x=y then lexLt xs ys else decide (x<y):=rfl
theorem nv:lexLt [] [] =false:=rfl
theorem mj (y:Int)(ys:List Int):lexLt [] (y::ys)=true:=rfl
theorem mm (x:Int)(xs:List Int):lexLt (x::xs) [] =false:=rfl
theorem sL (A:Km)(s:JL)(a:Int)(t:Tok)(c:Int)(u:Tok):∃e,SeqAt.EqAt A s (.int a t) (.int c u) e/\(e=true↔a=c):=
 ⟨(a == c),SeqAt.EqAt.int_int a t c u,by simp⟩
theorem yJ (A:Km)(s:JL)(a:Int)(t:Tok)(c:Int)(u:Tok)(prog:J9)(w:Kx)(E:JK->JL->Prop)(Q:JK->JL->Prop)(h:Q (.bool (decide (a<c))) s) :
  wpAny (model prog w) A (OW .Lt (.int a t) (.int c u)) Q E s:=
 (PyProof.Rows.lt_int h:wpAny (model prog w) A (KC .Lt (.int a t) (.int c u)) Q E s)
section
open PySem.SeqAt
open PySem.AutoSeq1 (wpAny_loadPart')
open PySem.MeetsSeq PySem.MeetsSeq2 PySem.MeetsSeq3
theorem mW (l b:Addr)(items items2:Array JK)(n n2:Nat)(dd dd2:Option Addr)(sl sl2:Array (Option JK))(ns ms:List Int)(hi:Lj items.toList ns)(hj:Lj items2.toList ms) :
  Meets (Builtin.«tuple.__lt__» ⟨[.ref l,.ref b],[]⟩)
   (λ_ R s=>s.heap.get? l=some { cls:=.type "tuple",dict:=dd,data:=.seq items n,slots:=sl }/\s.heap.get? b=some { cls:=.type "tuple",dict:=dd2,data:=.seq items2 n2,slots:=sl2 } ∧
    R (.ok (.ret (.bool (lexLt ns ms)))) s):=
 .of_wp λprog w A R s h=>by
  obtain⟨hp,g,d,tk,os⟩:=s;obtain⟨hl,hb,h⟩:=h
  have f2:=Pw
  have z1:items.size=ns.length:=by rw[<-hi.length];simp
  have z2:items2.size=ms.length:=by rw[<-hj.length];simp
  wp_walk using K2 hl,K2 hb,Ny _ (λbq b s'=>b.1=none/\s'=⟨hp,g,d,tk,os⟩/\∃(vs ws:List JK) (ns' ms':List Int),bq=vs.zip ws ∧
   Lj vs ns'/\Lj ws ms'/\ns'.length+items2.size=ms'.length+items.size/\R (.ok (.ret (.bool (lexLt ns' ms')))) ⟨hp,g,d,tk,os⟩) _
  case turn=>
   rintro ⟨y,x⟩ bq b s' ⟨hb',rfl,vs,ws,ns',ms',hz,hvi,hwi,hlen,hR⟩
   cases hvi with
   | nil=>rw[RI]at hz;cases hz
   | cons a t hvi'=>
    cases hwi with
    | nil=>rw[Rb]at hz;cases hz
    | cons c u hwi'=>
     rw[NL]at hz;injection hz with hyx hrest
     injection hyx with hy hx
     subst hy hx;rw[lexLt_cons]at hR;simp only[JR]at hlen;obtain⟨e,he,hiff⟩:=sL A.in1 ⟨hp,g,d,tk,os⟩ a t c u;refine JG (he prog w _ _ ?_)
     cases e with
     | true=>
      rw[if_pos (hiff.mp rfl)]at hR
      wp_walk
      exact⟨rfl,rfl,_,_,_,_,hrest,hvi',hwi',by omega,hR⟩
     | false=>
      rw[if_neg (λq=>absurd (hiff.mpr q) J3)]at hR
      have hri:=yJ A.in1 ⟨hp,g,d,tk,os⟩ a t c u prog w
      wp_walk using hri
      exact⟨_,rfl,by simpa using hR⟩
  case fin=>
   rintro ⟨b1,b2⟩ s' ⟨hb',rfl,vs,ws,ns',ms',hz,hvi,hwi,hlen,hR⟩
   simp only at hb';subst hb'
   have hv:lexLt ns' ms'=decide (items.size<items2.size):=by
    cases hvi with
    | nil=>
     cases hwi with
     | nil=>
      simp only[LX]at hlen;rw[nv]
      exact(decide_eq_false (by omega)).symm
     | cons c u hw=>
      simp only[LX,JR]at hlen;rw[mj]
      exact(decide_eq_true (by omega)).symm
    | cons a t hv=>
     cases hwi with
     | nil=>
      simp only[LX,JR]at hlen;rw[mm]
      exact(decide_eq_false (by omega)).symm
     | cons c u hw=>
      rw[NL]at hz;cases hz
   rw[hv]at hR
   wp_walk
   exact⟨_,rfl,by simpa [NZ]using hR⟩
  case h=>
   exact⟨rfl,rfl,items.toList,items2.toList,ns,ms,rfl,hi,hj,by omega,h⟩
end
section
variable {prog:J9}{w:Kx}{A:Km}{E:JK->JL->Prop}{s:JL}
theorem lt_tupInts {l b:Addr}{items items2:Array JK}{ns ms:List Int}{Q:JK->JL->Prop}(hl:Rn s.heap l items)(hb:Rn s.heap b items2)(hi:Lj items.toList ns)(hj:Lj items2.toList ms)
  (hu:A.units<cLine) (h:Q (.bool (lexLt ns ms)) s):wpAny (model prog w) A (KC .Lt (.ref l) (.ref b)) Q E s:=by
 obtain⟨⟨cls,dd,data,sl⟩,ho,hc,n,hd⟩:=id hl;obtain⟨⟨cls2,dd2,data2,sl2⟩,ho2,hc2,n2,hd2⟩:=id hb;simp only at hc hd hc2 hd2;subst hc hd hc2 hd2
 exact Qi (op:=.Lt) ⟨_,ho,rfl⟩ ⟨_,ho2,rfl⟩ PySem.F.slot_tuple_lt PySem.F.entry_tuple_lt (PySem.F.args_tuple_lt_2 _ _) (mW l b items items2 n n2 dd dd2 sl sl2 ns ms hi hj)
  ⟨ho,ho2,show K7 (lexLt ns ms)≠Ov/\Q (.bool (lexLt ns ms)) s from⟨(λx=>nomatch x),h⟩⟩ hu
theorem cat_tup {t b:Addr}{vs ws:List JK}{Q:JK->JL->Prop}(ht:Rn s.heap t vs.toArray)(hb:Rn s.heap b ws.toArray)(hv:vs≠ [])
  (h1:ws= []->Q (.ref t) s) (h2:ws≠ []->Q (.ref s.heap.objs.size) { s with heap:=s.heap.push { cls:=.type "tuple",data:=.seq (vs++ws).toArray } })
  (hsz:vs.length+ws.length<=sizeLine):wpAny (model prog w) A (LZ .Add (.ref t) (.ref b)) Q E s:=by
 obtain⟨⟨cls,dd,data,sl⟩,ho,hc,n,hd⟩:=id ht;obtain⟨⟨cls2,dd2,data2,sl2⟩,ho2,hc2,n2,hd2⟩:=id hb;simp only at hc hd hc2 hd2;subst hc hd hc2 hd2
 have e:vs.toArray++ws.toArray=(vs++ws).toArray:=by simp
 by_cases hw:ws= []
 ·exact Si ⟨_,ho,rfl⟩ ⟨_,ho2,rfl⟩ Qb Rt NT NH (NC _ _)
   (tuple_addW1 t b vs.toArray ws.toArray n n2 dd dd2 sl sl2 (by simpa using hv) (by simp[hw])) ⟨ho,ho2,h1 hw⟩
 ·refine Si ⟨_,ho,rfl⟩ ⟨_,ho2,rfl⟩ Qb Rt NT NH (NC _ _)
   (tuple_addW2 t b vs.toArray ws.toArray n n2 dd dd2 sl sl2 (by simpa using hv) (by simpa using hw) (by rw[J1,J1];exact hsz)) ⟨ho,ho2,?_⟩
  rw[e];exact h2 hw
def sIx (n d:Nat):Option Int->Nat
 | none=>d
 | some v=>if v<0 then(v+(n:Int)).toNat else min v.toNat n
theorem sIx_none (n d:Nat):sIx n d none=d:=rfl
theorem sIx_nat (n d k:Nat):sIx n d (some (k:Int))=min k n:=by
 show(if (k:Int)<0 then((k:Int)+(n:Int)).toNat else min (k:Int).toNat n)=min k n
 rw[if_neg (by omega),Lf]
theorem D6 (n d:Nat)(hd:d<=n)(o:Option Int):sIx n d o<=n:=by
 cases o with
 | none=>exact hd
 | some v=>
  show(if v<0 then(v+(n:Int)).toNat else min v.toNat n)<=n
  by_cases hv:v<0
  ·rw[if_pos hv];omega
  ·rw[if_neg hv];exact Nat.min_le_right _ _
theorem v5 (v:Int)(n d:Nat):(if v<0 then max (v+(n:Int)) 0 else min v (n:Int))=((sIx n d (some v):Nat):Int):=by
 show(if v<0 then max (v+(n:Int)) 0 else min v (n:Int))=(((if v<0 then(v+(n:Int)).toNat else min v.toNat n):Nat):Int)
 by_cases hv:v<0
 ·simp only[if_pos hv];omega
 ·simp only[if_neg hv];omega
theorem uK (lo hi:Option Int)(n:Nat):Np lo hi 1 (n:Int)=(((sIx n 0 lo:Nat):Int),((sIx n n hi:Nat):Int)):=by
 have h1:¬ ((1:Int)<0):=by omega
 unfold Np;simp only[h1,if_false];refine Prod.ext ?_ ?_
 ·cases lo with
  | none=>rfl
  | some v=>exact v5 v n 0
 ·cases hi with
  | none=>rfl
  | some v=>exact v5 v n n
theorem ub (i j:Nat):Mq (i:Int) (j:Int) 1=j - i:=by
 unfold Mq
 have h1:(1:Int) > 0:=by omega
 simp only[h1,if_true,Int.ediv_one]
 split <;> omega
theorem lN {v:JK}{o:Option Int}{Q:Option Int->JL->Prop}(p:Ru v o)(h:Q o s):wpAny (model prog w) A (SG v) Q E s:=by
 cases p with
 | none=>exact slicePart_none h
 | int i t=>exact slicePart_int h
theorem f9 {sl:Addr}{vl vu:JK}{lo hi:Option Int}{n:Nat}{Q:Int×Int×Nat->JL->Prop}(hs:s.heap.IsSliceOf sl vl vu .none)(pl:Ru vl lo)(pu:Ru vu hi)
  (h:Q (((sIx n 0 lo:Nat):Int),1,sIx n n hi - sIx n 0 lo) s):wpAny (model prog w) A (O7 (.ref sl) (pure (n:Int))) Q E s:=by
 obtain⟨os,hos,hcs,hds⟩:=id hs;unfold O7 Builtin.Slice.sliceFields;refine JG (JG (Lu hos hds (x:=vl) rfl (JG (Lu hos hds (x:=vu) rfl (JG (Lu hos hds (x:=.none) rfl (JN ?_)))))))
 refine JG (slicePart_none ?_)
 show wpAny _ _ (if ((1:Int) == 0)=true then _ else _) _ _ s
 rw[if_neg (by decide)]
 refine JG (lN pl (JG (lN pu (JG (JN ?_)))))
 show wpAny _ _ (match Np lo hi 1 (n:Int)with | (lo,hi)=>pure (lo,(1:Int),Mq lo hi 1)) _ _ s
 rw[uK lo hi n]
 show wpAny _ _ (pure (((sIx n 0 lo:Nat):Int),(1:Int),Mq ((sIx n 0 lo:Nat):Int) ((sIx n n hi:Nat):Int) 1)) _ _ s
 rw[ub];exact JN h
theorem y6 (xs:Array JK)(i k:Nat):((J2 k).filterMap λ(m:Nat)=>xs[((i:Int)+(m:Int)*1).toNat]?).toArray=((xs.toList.drop i).take k).toArray:=by
 have e:(λ(m:Nat)=>xs[((i:Int)+(m:Int)*1).toNat]?)=λm=>xs[i+m]?:=by
  funext m
  have:((i:Int)+(m:Int)*1).toNat=i+m:=by omega
  rw[this]
 rw[e]
 have:=pick_run xs i k;rw[Rc]at this
 have e2:((λx=>xs[x]?)∘λx=>i+x)=λm=>xs[i+m]?:=rfl
 rw[e2]at this;rw[this]
theorem getItem_tuple_cut {t sl:Addr}{items:Array JK}{vl vu:JK}{lo hi:Option Int}{Q:JK->JL->Prop}(ht:Rn s.heap t items)(hs:s.heap.IsSliceOf sl vl vu .none)(pl:Ru vl lo)(pu:Ru vu hi)
  (hw:¬ (sIx items.size 0 lo=0/\sIx items.size items.size hi=items.size))
  (h:Q (.ref s.heap.objs.size) { s with heap:=s.heap.push { cls:=.type "tuple",data:=.seq ((items.toList.drop (sIx items.size 0 lo)).take (sIx items.size items.size hi - sIx items.size 0 lo)).toArray } })
  (hsz:items.size<=sizeLine):wpAny (model prog w) A (getItem (.ref t) (.ref sl)) Q E s:=by
 have htake:sizeOk (.seq ((items.toList.drop (sIx items.size 0 lo)).take (sIx items.size items.size hi - sIx items.size 0 lo)).toArray):=by
  show((items.toList.drop (sIx items.size 0 lo)).take (sIx items.size items.size hi - sIx items.size 0 lo)).toArray.size<=sizeLine
  rw[J1,MK,Nu,Kv];omega
 have hj:sIx items.size items.size hi<=items.size:=D6 _ _ (JW _) hi;obtain⟨os,hos,hcs,hds⟩:=id hs
 have hTs:s.TypeIs (.ref sl) "slice":=⟨os,hos,hcs⟩;unfold getItem
 try with_reducible refine Lk ?_
 first | refine JG (JN ?_) | skip
 refine JG (RZ ht.typeIs (by decide) ?_)
 refine JG (KN (name:=J0 "__getitem__") ht.typeIs KQ
  (KP KQ ht.typeIs Q2 ?_ (Rv _ _)))
 show wpAny _ _ (Nl (.ref t) >>= _) _ _ s
 refine JG (Rw ht ?_)
 refine JG (NG hTs ?_)
 rw[if_pos (by decide)]
 refine JG (f9 hs pl pu ?_)
 have hno:¬ ((((sIx items.size 0 lo:Nat):Int) == 0&&(1:Int) == 1&&(sIx items.size items.size hi - sIx items.size 0 lo) == items.size)=true):=by
  intro q;rw[JM,JM]at q
  have q1:((sIx items.size 0 lo:Nat):Int)=0:=eq_of_beq q.1.1
  have q2:sIx items.size items.size hi - sIx items.size 0 lo=items.size:=eq_of_beq q.2;exact hw ⟨by omega,by omega⟩
 show wpAny _ _ (if (((sIx items.size 0 lo:Nat):Int) == 0&&(1:Int) == 1&&(sIx items.size items.size hi - sIx items.size 0 lo) == items.size)=true then _ else _) _ _ s
 rw[if_neg hno,y6]
 first
  | exact JG (m:=LY _) (Kl (JN ⟨_,rfl,JN h⟩) htake)
  | exact JG (m:=LY _) (Kl (JG (JN (JN ⟨_,rfl,JN h⟩))) htake)
  | exact JG (JG (m:=LY _) (Kl (JN (JN ⟨_,rfl,JN h⟩)) htake))
  | exact JG (JG (m:=LY _) (Kl (JN ⟨_,rfl,JN h⟩) htake))
end
end HT
namespace L2
open PySem PySem.Spec PyProof.Rows
abbrev TO:=St->Hp->(Option Int->Hp->Prop)->Prop
def PO (X:Cx)(e:Option Expr)(t:TO):Prop:=
 ∀(pins:List (Addr×Obj)) (s:JL) (σ:St) (H:Hp) (Q:Option Int->Hp->Prop),Inv X pins σ H s->t σ H Q →
  wpAny (model X.prog X.w) X.A (evalPart e X.env) (λu s'=> ∃o H',Inv X pins σ H' s'/\Ru u o/\Q o H') X.xe s
def Bg:TO:=λ_ H Q=>Q none H
def Gs (t:TE):TO:=λσ H Q=>t σ H λx H1=> ∃i,x= .int i/\Q (some i) H1
theorem uB {ns:List Int}:∀{us:List JK},Vals (ns.map V.int) us->Lj us ns:=by
 induction ns with
 | nil=>intro us r;rw[Oe]at r;cases r;exact .nil
 | cons n ns ih=>
  intro us r;rw[JP]at r
  cases r with
  | cons r1 r2=>
   obtain⟨t,e⟩:=r1;subst e;exact .cons n t (ih r2)
section
variable {X:Cx}{e:Expr}{te:TE}{lo hi:Option Expr}{tl th:TO}{pos p2:Pos}
theorem B3:PO X none Bg:=by
 intro pins s σ H Q I h;rw[evalPart_none];exact JN ⟨none,H,I,.none,h⟩
theorem B2 (h:PE X e te):PO X (some e) (Gs te):=by
 intro pins s σ H Q I hw;rw[evalPart_some];refine bV (h pins s σ H _ I hw) λu s1 hh_=> ?_
 obtain⟨x,H1,I1,r1,q1⟩:=hh_;obtain⟨i,rfl,q⟩:=q1;obtain⟨t,rfl⟩:=r1;exact⟨some i,H1,I1,.int i t,q⟩
def SlR (X:Cx)(r:V->Option Int->Option Int->Hp->VK->Prop):Prop:=
 ∀(pins:List (Addr×Obj)) (s:JL) (σ:St) (H:Hp) (x:V) (v vl vu:JK) (lo hi:Option Int) (sl:Addr) (Q:VK),Inv X pins σ H s->RelV x v->s.heap.IsSliceOf sl vl vu .none->Ru vl lo->Ru vu hi->r x lo hi H Q →
  ∃T id,R0 (.type T) "__getitem__" =pure (some (.builtin id))/\s.TypeIs v T/\wpAny (model X.prog X.w) X.A (getItem v (.ref sl)) (EP X pins σ Q) X.xe s
theorem SlR.or {r r':V->Option Int->Option Int->Hp->VK->Prop}(h:SlR X r)(h':SlR X r'):SlR X (λx lo hi H Q=>r x lo hi H Q\/r' x lo hi H Q):=by
 intro pins s σ H x v vl vu lo hi sl Q I rx hs pl pu q;rcases q with q | q
 ·exact h pins s σ H x v vl vu lo hi sl Q I rx hs pl pu q
 ·exact h' pins s σ H x v vl vu lo hi sl Q I rx hs pl pu q
def tSl (r:V->Option Int->Option Int->Hp->VK->Prop)(te:TE)(tl th:TO):TE:=λσ H Q=>te σ H λx H1=>tl σ H1 λl H2=>th σ H2 λu H3=>r x l u H3 Q
theorem y9 {r:V->Option Int->Option Int->Hp->VK->Prop}(hr:SlR X r)(he:PE X e te)(hl:PO X lo tl)(hu:PO X hi th):PE X (.Subscript e (.Slice lo hi none p2) pos) (tSl r te tl th):=by
 intro pins s σ H Q I h;refine Subscript_ (bV (he pins s σ H _ I h) λv s1 hh_=> ?_)
 obtain⟨x,H1,I1,r1,q1⟩:=hh_;refine wpAny_Slice (bV (hl pins s1 σ H1 _ I1 q1) λvl s2 ⟨l,H2,I2,pl,q2⟩=>bV (hu pins s2 σ H2 _ I2 q2) λvu s3 hh_=> ?_)
 obtain⟨u,H3,I3,pu,q3⟩:=hh_;rw[evalPart_none];refine JN ?_
 have I4:Inv X pins σ H3 { s3 with heap:=s3.heap.push { cls:=.type "slice",data:=.fields #[vl,vu,.none] } }:=I3.kept (t':=s3.toks) λb ob q=>JI _ q
 obtain⟨T,id,hT,ht,hg⟩:=hr pins { s3 with heap:=s3.heap.push { cls:=.type "slice",data:=.fields #[vl,vu,.none] } } σ H3 x v vl vu l u s3.heap.objs.size Q I4 r1 (Heap.IsSliceOf.new ..) pl pu q3
 show wpAny (model X.prog X.w) X.A (Rx e (.Slice lo hi none p2) v (.ref s3.heap.objs.size)) (EP X pins σ Q) X.xe { s3 with heap:=s3.heap.push { cls:=.type "slice",data:=.fields #[vl,vu,.none] } }
 exact tail_any (ops:=[.ref s3.heap.objs.size,v]) ht hT hg (by with_unfolding_all rfl)
def sT (xs:List V)(lo hi:Option Int):List V:=(xs.drop (HT.sIx xs.length 0 lo)).take (HT.sIx xs.length xs.length hi - HT.sIx xs.length 0 lo)
theorem kM (xs:List V)(lo hi:Option Int):(sT xs lo hi).length<=xs.length:=by
 unfold sT;rw[MK,Nu];omega
def rSlT (K:JH):V->Option Int->Option Int->Hp->VK->Prop:=λx lo hi H Q=> ∃a xs,x= .ref a/\SqT K H a xs ∧
 ¬(HT.sIx xs.length 0 lo=0/\HT.sIx xs.length xs.length hi=xs.length)/\∀p,H p=none->Q (.ref p) (upd H p (.tup (sT xs lo hi)))
theorem sl_tup:SlR X (rSlT X.K):=by
 intro pins s σ H x v vl vu lo hi sl Q I rx hs pl pu h;obtain⟨a,xs,rfl,hx,hw,q⟩:=h;cases rx;obtain⟨its,r,ht,hz⟩:=I.tuple hx
 have hlen:its.toArray.size=xs.length:=by rw[J1];exact r.length.symm
 refine⟨"tuple",_,KQ.lookup,ht.typeIs,?_⟩
 refine HT.getItem_tuple_cut ht hs pl pu (by rw[hlen];exact hw) ?_ (by rw[hlen];exact hz)
 rw[hlen];refine⟨.ref s.heap.objs.size,_,I.laid (t':=s.toks) (o:=.tup (sT xs lo hi)) (λb ob q=>JI _ q) (JW _) ?_,rfl,q _ (I.hok.fresh (JW _))⟩
 exact⟨Kf (kM xs lo hi) hz,_,(r.drop (HT.sIx xs.length 0 lo)).take (HT.sIx xs.length xs.length hi - HT.sIx xs.length 0 lo),Q8 _ _⟩
def GK (K:JH):R2:=λx y H Q=> ∃a b xs ys,x= .ref a/\y= .ref b/\SqT K H a xs/\SqT K H b ys/\xs≠ []/\xs.length+ys.length<=sizeLine ∧
 (ys= []->Q (.ref a) H)/\(ys≠ []->∀p,H p=none->Q (.ref p) (upd H p (.tup (xs++ys))))
theorem Vals.AC {xs:List V}{us:List JK}(r:Vals xs us):us= [] ↔xs= []:=by
 cases r with
 | nil=>simp
 | cons _ _=>simp
theorem Ci:nF X (LZ .Add) (GK X.K):=by
 intro pins s σ H x y v u Q I rx ry h;obtain⟨a,b,xs,ys,rfl,rfl,ha,hb,hx,hz,q1,q2⟩:=h;cases rx;cases ry;obtain⟨its,r1,p1,_⟩:=I.tuple ha;obtain⟨its2,r2,p2,_⟩:=I.tuple hb;refine HT.cat_tup p1 p2 (λz=>hx (r1.AC.mp z)) (λz=>⟨.ref a,H,I,rfl,q1 (r2.AC.mp z)⟩) (λz=> ?_) (by rw[<-r1.length,<-r2.length];exact hz)
 refine⟨.ref s.heap.objs.size,_,I.laid (t':=s.toks) (o:=.tup (xs++ys)) (λb ob q=>JI _ q) (JW _) ?_,rfl,q2 (λw=>z (r2.AC.mpr w)) _ (I.hok.fresh (JW _))⟩
 exact⟨by rw[JZ];exact hz,_,r1.append r2,Q8 _ _⟩
end
def ixN (n:Nat)(i:Int):Option Nat:=if 0<=i then(if i<n then some i.toNat else none)else if -(n:Int)<=i then some (i+n).toNat else none
def atI {α:Type}(xs:List α)(i:Int):Option α:=(ixN xs.length i).bind λj=>xs[j]?
theorem CA {n:Nat}{i:Int}{j:Nat}(h:ixN n i=some j):seqIndex? i n=some j/\j<n/\-(n:Int)<=i/\i<n:=by
 unfold ixN at h
 by_cases h0:0<=i
 ·rw[if_pos h0]at h
  by_cases h1:i<n
  ·rw[if_pos h1]at h
   have e:i.toNat=j:=KM h;exact⟨by rw[seqIndex_of h0 h1,e],by omega,by omega,h1⟩
  ·rw[if_neg h1]at h;cases h
 ·rw[if_neg h0]at h
  by_cases h1 : -(n:Int)<=i
  ·rw[if_pos h1]at h
   have e:(i+n).toNat=j:=KM h;exact⟨by rw[seqIndex_neg (by omega) h1,e],by omega,h1,by omega⟩
  ·rw[if_neg h1]at h;cases h
theorem qC {α:Type}{xs:List α}{i:Int}{v:α}(h:atI xs i=some v):∃j,seqIndex? i xs.length=some j/\xs[j]? =some v/\j<xs.length/\-(xs.length:Int)<=i/\i<xs.length:=by
 unfold atI at h
 cases e:ixN xs.length i with
 | none=>rw[e]at h;cases h
 | some j=>
  rw[e]at h;obtain⟨h1,h2,h3,h4⟩:=CA e;exact⟨j,h1,h,h2,h3,h4⟩
def wg (b:Expr):Prop:=∀o i,Q3 b false o i=operate [o,i] (getItem o i)
def IxR (X:Cx)(r:R2):Prop:=
 ∀(value slice:Expr) (pins:List (Addr×Obj)) (s:JL) (σ:St) (H:Hp) (x y:V) (v u:JK) (Q:VK),Inv X pins σ H s->RelV x v->RelV y u->r x y H Q →
  Q3 slice false v u=operate [v,u] (getItem v u)->wpAny (model X.prog X.w) X.A (Rx value slice v u) (EP X pins σ Q) X.xe s
def MtR (X:Cx)(id:String)(r:V->List V->Hp->VK->Prop):Prop:=
 ∀(pins:List (Addr×Obj)) (s:JL) (σ:St) (H:Hp) (x:V) (xs:List V) (v:JK) (us:List JK) (Q:VK),Inv X pins σ H s->RelV x v->Vals xs us->r x xs H Q →
  wpAny (model X.prog X.w) X.A (call (.builtin id) (v::us)) (EP X pins σ Q) X.xe s
section
variable {X:Cx}{a b:Expr}{ta tb:TE}{pos:Pos}
theorem IxR.or {r r':R2}(h:IxR X r)(h':IxR X r'):IxR X (λx y H Q=>r x y H Q\/r' x y H Q):=by
 intro value slice pins s σ H x y v u Q I rx ry q hs;rcases q with q | q
 ·exact h value slice pins s σ H x y v u Q I rx ry q hs
 ·exact h' value slice pins s σ H x y v u Q I rx ry q hs
def GJ (K:JH):R2:=λx y H Q=> ∃p xs i v,x= .ref p/\y= .int i/\SqL K H p xs/\atI xs i=some v/\Q v H
def GH (K:JH):R2:=λx y H Q=> ∃p xs i v,x= .ref p/\y= .int i/\SqT K H p xs/\atI xs i=some v/\Q v H
def GI:R2:=λx y H Q=> ∃z i c,x= .str z/\y= .int i/\z.length<=sizeLine/\atI z.cps.toList i=some c/\Q (.str ⟨#[c]⟩) H
theorem ix_list:IxR X (GJ X.K):=by
 intro value slice pins s σ H x y v u Q I rx ry h hs;obtain⟨p,xs,i,z,rfl,rfl,hq,he,q⟩:=h;cases rx;obtain⟨t,rfl⟩:=ry;obtain⟨its,r,pl,hz⟩:=I.list hq;obtain⟨j,h1,h2,h3,h4,h5⟩:=qC he;obtain⟨w,ew,rw'⟩:=r.get h2
 have hl:=r.length
 have hn:=mh
 have fin:EP X pins σ Q w s:=⟨z,H,I,rw',q⟩
 by_cases h0:0<=i
 ·have hj:i.toNat=j:=by
   rw[seqIndex_of h0 h5]at h1;exact KM h1
  exact item_listR pl.isList h0 (by omega) (by rw[hj];simpa using ew) fin hs
 ·have hj:(i+(its.toArray.size:Int)).toNat=j:=by
   rw[seqIndex_neg (by omega) h4]at h1
   rw[J1,<-hl];exact KM h1
  exact Qj (x:=w) pl.isList.typeIs slot_list_getitem.lookup
   (wpAny_getItem_list_neg (Q:=λr s'=>r=w/\EP X pins σ Q r s') pl.isList (by omega) (by rw[J1] <;> omega) (by omega) (by rw[hj];simpa using ew) ⟨rfl,fin⟩) hs
theorem ix_tup:IxR X (GH X.K):=by
 intro value slice pins s σ H x y v u Q I rx ry h hs;obtain⟨p,xs,i,z,rfl,rfl,hq,he,q⟩:=h;cases rx;obtain⟨t,rfl⟩:=ry;obtain⟨its,r,pl,hz⟩:=I.tuple hq;obtain⟨j,h1,h2,h3,h4,h5⟩:=qC he;obtain⟨w,ew,rw'⟩:=r.get h2
 have hl:=r.length
 have hn:=mh
 have fin:EP X pins σ Q w s:=⟨z,H,I,rw',q⟩
 exact Qj (x:=w) pl.typeIs slot_tuple_getitem.lookup
  (getItem_tuple (j:=j) (Q:=λr s'=>r=w/\EP X pins σ Q r s') pl (by omega) (by omega) (by rw[J1,<-hl];exact h1) (by simpa using ew) ⟨rfl,fin⟩) hs
theorem FG:IxR X GI:=by
 intro value slice pins s σ H x y v u Q I rx ry h hs;obtain⟨z,i,c,rfl,rfl,hz,he,q⟩:=h;obtain⟨t,rfl⟩:=rx;obtain⟨t',rfl⟩:=ry;obtain⟨j,h1,h2,h3,h4,h5⟩:=qC he
 have hl:z.cps.toList.length=z.length:=by simp[Str.length]
 rw[hl]at h1 h4 h5
 have hn:=mh
 exact tail_any (typeIs_str s z t) slot_str_getitem.lookup (getItem_str (c:=c) (by
  have e1:decide (i< -(2 ^ 63:Int))=false:=decide_eq_false (by omega)
  have e2:decide (i ≥ 2 ^ 63)=false:=decide_eq_false (by omega)
  rw[e1,e2,Bool.or_false]) (by rw[h1];simpa using h2) ⟨.str ⟨#[c]⟩,H,I.tok _,⟨_,rfl⟩,q⟩) hs
def rIx (K:JH):R2:=λx y H Q=>GJ K x y H Q\/GH K x y H Q\/GI x y H Q
theorem FH:IxR X (rIx X.K):=ix_list.or (ix_tup.or FG)
theorem o9 (lo hi:Option Int)(n:Nat):(N7 lo hi none n).1=((HT.sIx n 0 lo:Nat):Int)/\(N7 lo hi none n).2.1=((HT.sIx n n hi:Nat):Int)/\(N7 lo hi none n).2.2=1:=by
 refine⟨?_,?_,rfl⟩
 ·cases lo with
  | none=>simp[N7,HT.sIx]
  | some i=>
   simp only[N7,HT.sIx,P4,show(1:Int) > 0 by decide,if_true]
   by_cases h:i<0
   ·simp only[h,if_true] <;> omega
   ·simp only[h,if_false] <;> omega
 ·cases hi with
  | none=>simp[N7,HT.sIx]
  | some i=>
   simp only[N7,HT.sIx,P4,show(1:Int) > 0 by decide,if_true]
   by_cases h:i<0
   ·simp only[h,if_true] <;> omega
   ·simp only[h,if_false] <;> omega
theorem m7 (its:List JK)(lo hi:Option Int):slicePick its.toArray lo hi none=((its.drop (HT.sIx its.length 0 lo)).take (HT.sIx its.length its.length hi - HT.sIx its.length 0 lo)).toArray:=by
 obtain⟨h1,h2,h3⟩:=o9 lo hi its.toArray.size;unfold slicePick;rw[h1,h2,h3];simp only[sliceRange_one,pick_run,J1] <;> rfl
def rSlL (K:JH):V->Option Int->Option Int->Hp->VK->Prop:=λx lo hi H Q=> ∃a xs,x= .ref a/\SqL K H a xs/\∀p,H p=none->Q (.ref p) (upd H p (.lst (sT xs lo hi)))
theorem Br:SlR X (rSlL X.K):=by
 intro pins s σ H x v vl vu lo hi sl Q I rx hs pl pu h;obtain⟨a,xs,rfl,hx,q⟩:=h;cases rx;obtain⟨its,r,ht,hz⟩:=I.list hx
 have hlen:=r.length;refine⟨"list",_,slot_list_getitem.lookup,ht.isList.typeIs,?_⟩
 refine wpAny_getItem_list_slice ht.isList hs pl pu .none (by simp) ?_ (by rw[J1] <;> omega)
 rw[m7,<-hlen];refine⟨.ref s.heap.objs.size,_,I.laid (t':=s.toks) (o:=.lst (sT xs lo hi)) (λb ob q=>JI _ q) (JW _) ?_,rfl,q _ (I.hok.fresh (JW _))⟩
 exact⟨Kf (kM xs lo hi) hz,_,0,(r.drop (HT.sIx xs.length 0 lo)).take (HT.sIx xs.length xs.length hi - HT.sIx xs.length 0 lo),JS _ rfl⟩
theorem call_len_seq:CallR X (.builtin "len") (λxs H Q=> ∃p ys,xs= [.ref p]/\(SqL X.K H p ys\/SqT X.K H p ys)/\Q (.int ys.length) H):=by
 intro pins s σ H xs us Q I r h;obtain⟨p,ys,rfl,hq,q⟩:=h;obtain⟨u,rfl,rx⟩:=ja r;cases rx
 have hn:=mh;rcases hq with hq | hq
 ·obtain⟨its,r',pl,hz⟩:=I.list hq
  have hlen:=r'.length;exact Calls.call_len_list pl.isList (by simp only[J1] <;> omega) ⟨.int ys.length,H,I.tok _,⟨s.toks+1,by rw[J1,hlen]⟩,q⟩
 ·obtain⟨its,r',pl,hz⟩:=I.tuple hq
  have hlen:=r'.length;exact len_tuple pl (by simp only[J1] <;> omega) ⟨.int ys.length,H,I.tok _,⟨s.toks+1,by rw[J1,hlen]⟩,q⟩
theorem qy:CallR X (.builtin "len") (λxs H Q=> ∃z,xs= [.str z]/\z.length<=sizeLine/\Q (.int z.length) H):=by
 intro pins s σ H xs us Q I r h;obtain⟨z,rfl,hz,q⟩:=h;obtain⟨u,rfl,t,rfl⟩:=ja r
 have hn:=mh;exact len_str (by omega) ⟨.int z.length,H,I.tok _,⟨_,rfl⟩,q⟩
theorem CallR.or {f:JK}{r r':List V->Hp->VK->Prop}(h:CallR X f r)(h':CallR X f r'):CallR X f (λxs H Q=>r xs H Q\/r' xs H Q):=by
 intro pins s σ H xs us Q I rs q;rcases q with q | q
 ·exact h pins s σ H xs us Q I rs q
 ·exact h' pins s σ H xs us Q I rs q
theorem nB:CallR X (.type "tuple") (λxs H Q=> ∃p ys,xs= [.ref p]/\((SqL X.K H p ys/\∀l,H l=none->Q (.ref l) (upd H l (.tup ys)))\/(SqT X.K H p ys/\Q (.ref p) H))):=by
 intro pins s σ H xs us Q I r h;obtain⟨p,ys,rfl,h⟩:=h;obtain⟨u,rfl,rx⟩:=ja r;cases rx;rcases h with⟨hq,q⟩ | ⟨hq,q⟩
 ·obtain⟨its,r',pl,hz⟩:=I.list hq
  have hlen:=r'.length;refine call_tuple_list pl.isList (λh' kp=> ?_) (by simp only[J1] <;> omega)
  have I1:Inv X pins σ H { s with heap:=h' }:=I.kept (t':=s.toks) kp
  have I2:Inv X pins σ (upd H h'.objs.size (.tup ys)) { s with heap:=h'.push { cls:=.type "tuple",data:=.seq its.toArray } }:=
   I1.laid (t':=s.toks) (λb o e=>JI _ e) (JW _) (show ObjOk X.prog X.w _ _ _ (.tup ys)from⟨hz,its,r',Q8 _ _⟩)
  exact⟨.ref h'.objs.size,_,I2,rfl,q _ (I1.hok.fresh (JW _))⟩
 ·obtain⟨its,r',pl,hz⟩:=I.tuple hq
  exact call_tuple_same pl ⟨.ref p,H,I,rfl,q⟩
def tyV (K:JH)(T:String)(x:V)(H:Hp):Prop:=match x with
 | .str _=>T= "str"
 | .int _=>T= "int"
 | .ref p=>(T= "list"/\∃xs,SqL K H p xs)\/(T= "tuple"/\∃o,K.lookup p=some o/\o.cls= .type "tuple"/\o.dict=none) ∨
   (T= "dict"/\((∃kvs,H p=some (.dK kvs))\/∃kvs,H p=some (.dT kvs)))\/(T= "set"/\∃S n,H p=some (.set S n))
 | _=>False
theorem tK {pins:List (Addr×Obj)}{σ:St}{H:Hp}{s:JL}{T:String}{x:V}{v:JK}(I:Inv X pins σ H s)(r:RelV x v)(ty:tyV X.K T x H) :
  s.TypeIs v T/\∀a,v= .ref a->∃ob,s.heap.get? a=some ob/\ob.dict=none:=by
 cases x with
 | str z=>
  obtain⟨t,rfl⟩:=r;cases (show T= "str" from ty)
  exact⟨typeIs_str s z t,λ_ e=>nomatch e⟩
 | int i=>
  obtain⟨t,rfl⟩:=r;cases (show T= "int" from ty)
  exact⟨Qz s i t,λ_ e=>nomatch e⟩
 | ref p=>
  cases r;rcases ty with⟨rfl,xs,hq⟩ | ⟨rfl,o,hk,hc,hd⟩ | ⟨rfl,hk⟩ | ⟨rfl,S,n,hk⟩
  ·obtain⟨its,_,pl,_⟩:=I.list hq
   refine⟨pl.isList.typeIs,λa e=> ?_⟩
   cases e;obtain⟨o,n,e,c,hd,_⟩:=pl;exact⟨o,e,hd⟩
  ·refine⟨⟨o,I.kIn p o hk,hc⟩,λa e=> ?_⟩
   cases e;exact⟨o,I.kIn _ o hk,hd⟩
  ·have z:∃o,s.heap.get? p=some o/\o.ExactDict:=by
    rcases hk with⟨kvs,hk⟩ | ⟨kvs,hk⟩
    ·obtain⟨_,_,_,_,o,_,_,e,ex,_⟩:=I.hok p _ hk
     exact⟨o,e,ex⟩
    ·obtain⟨_,_,_,_,o,_,_,e,ex,_⟩:=I.hok p _ hk
     exact⟨o,e,ex⟩
   obtain⟨o,e,ex⟩:=z;refine⟨⟨o,e,ex.1⟩,λa e2=> ?_⟩
   cases e2;exact⟨o,e,ex.2.1⟩
  ·obtain⟨o,_,_,_,e,ex,_⟩:=I.hok p _ hk
   refine⟨⟨o,e,ex.1⟩,λa e2=> ?_⟩
   cases e2
   exact⟨o,e,ex.2.1⟩
 | _=>exact Nc ty
def tBM (K:JH)(T:String)(r:V->List V->Hp->VK->Prop)(to:TE)(t:TA):TE:=λσ H Q=>to σ H λx H1=>tyV K T x H1/\t σ H1 λxs H2=>r x xs H2 Q
variable {o e:Expr}{es:List Expr}{to:TE}{t:TA}{name:Str}{apos cpos:Pos}{T id:String}{r:V->List V->Hp->VK->Prop}
theorem Dt (pa:PlainAttrs T)(slot:Slot T name id)(hty:typeOf (.builtin id)=pure (.type "method_descriptor"))(hm:MtR X id r)(ho:PE X o to)(ha:PA X (e::es) t)
  (hbase:autoParam (Lr o name X.env (eval o X.env)=eval o X.env) u_)
  (hfew:((backTo cpos (Kc (e::es) X.env)).all (λx=> !x.1)&&(backToKw cpos (S5 [] X.env)).all (λx=>x.1.isSome)
   &&decide ((e::es).length+([]:List S6).length+(if ([]:List S6).isEmpty then 0 else 1)<30))=true:=by rfl)
  (hline:autoParam ((apos.endLine == cpos.line)=true) u_) (hs:autoParam (Kc (e::es) X.env=(false,eval e X.env)::Kc es X.env) u_) (hplain:autoParam ((backTo cpos (Kc es X.env)).any (·.1)=false) u_) :
  PE X (.Call (.Attribute o name apos) (e::es) [] cpos) (tBM X.K T r to t):=by
 intro pins s σ H Q I h;refine NY hbase hfew hline rfl (bV (ho pins s σ H _ I h) λv s1 hh_=> ?_)
 obtain⟨x,H1,I1,r1,ty,q1⟩:=hh_;obtain⟨h1,h2⟩:=tK I1 r1 ty;refine⟨T,id,pa,slot,hty,h1,h2,?_⟩
 have hA:=ha cpos pins s1 σ H1 _ I1 q1;rw[hs]at hA ⊢;refine MT (by show(false||(backTo cpos (Kc es X.env)).any (·.1))=false;rw[hplain] <;> rfl) (Mw ?_)
 exact bV hA λus s2 ⟨vs,H2,I2,r2,q2⟩=>hm pins s2 σ H2 x vs v us Q I2 r1 r2 q2
end
def MtM (X:Cx)(id:String)(r:V->List V->Hp->VK->Prop):Prop:=
 ∀(pins:List (Addr×Obj)) (s:JL) (σ:St) (H:Hp) (x:V) (xs:List V) (v:JK) (us:List JK) (Q:VK),Inv X pins σ H s->RelV x v->Vals xs us->r x xs H Q →
  wpAny (model X.prog X.w) X.A (call (.builtin id) (v::us)) (EP X pins σ Q) X.xe s
theorem Vals.one:∀{x:V} {us:List JK},Vals [x] us->∃u,us= [u]/\RelV x u
 | _,_,.cons r .nil=>⟨_,rfl,r⟩
theorem Vals.rep {xs:List V}{us:List JK}(h:Vals xs us):∀k:Nat,Vals (Ke k xs).flatten (Ke k us).flatten
 | 0=> .nil
 | k+1=>by
  rw[LI,LI,Mz,Mz];exact Vals.append h (Vals.rep h k)
theorem foldl_rep (its:List JK):∀(k:Nat) (acc:List JK),
  Px (λx1 x2=>x1++x2) acc.toArray (Ke k its.toArray)=(acc++(Ke k its).flatten).toArray
 | 0,acc=>by simp
 | k+1,acc=>by
  have e:acc.toArray++its.toArray=(acc++its).toArray:=by simp
  have e2:(acc++its)++(Ke k its).flatten=acc++(Ke (k+1) its).flatten:=by
   rw[LI,Mz,KD]
  rw[<-e2,<-foldl_rep its k (acc++its),<-e,LI,Ql]
section
variable {X:Cx}{pins:List (Addr×Obj)}{σ:St}{H:Hp}{s:JL}{l b:Addr}{xs ys zs:List V}
theorem Inv.Js {its its':List JK}{n:Nat}{f:Array JK->Array JK}{t':Nat}(I:Inv X pins σ H s)(hH:H l=some (.lst xs))
  (e:s.heap.get? l=some { cls:=.type "list",data:=.seq its.toArray n }) (hf:f its.toArray=its'.toArray) (hv:Vals ys its') (hz:ys.length<=sizeLine) :
  Inv X pins σ (upd H l (.lst ys)) { s with heap:=s.heap.update l (K8 f),toks:=t' }:=by
 have q:=PySem.IsL.update e f;rw[hf]at q;refine I.write (x:=l) (e:=l) (by rw[hH];exact trivial) (.inl rfl) (λb' u hb hu=>(Kh s.heap (K8 f) (MS hb)).trans hu) ⟨_,q⟩ ?_
 exact⟨hz,its',_,hv,q⟩
theorem Inv.Jk {its:List JK}{t':Nat}(I:Inv X pins σ H s)(hv:Vals ys its)(hz:ys.length<=sizeLine) :
  Inv X pins σ (upd H s.heap.objs.size (.lst ys)) { s with heap:=s.heap.push { cls:=.type "list",data:=.seq its.toArray },toks:=t' }:=
 I.laid (λ_ _ q=>JI _ q) (JW _) ⟨hz,its,0,hv,JS _ rfl⟩
theorem Inv.fresh (I:Inv X pins σ H s):H s.heap.objs.size=none:=I.hok.fresh (JW _)
theorem Inv.IT (I:Inv X pins σ H s)(hH:H l=some (.lst xs)):xs.length<=sizeLine/\∃(its:List JK) (n:Nat),Vals xs its/\xs.length=its.length/\s.heap.get? l=some { cls:=.type "list",data:=.seq its.toArray n }:=by
 obtain⟨z,its,n,r,e⟩:=I.hok l _ hH;exact⟨z,its,n,r,r.length,e⟩
theorem rO {n:Nat}(h:n<=sizeLine):Mx n=false:=by
 unfold Mx;exact decide_eq_false (by omega)
end
section
variable {X:Cx}
def BC:V->List V->Hp->VK->Prop:=λx vs H Q=> ∃l xs y,x= .ref l/\vs= [y]/\H l=some (.lst xs)/\xs.length<sizeLine/\Q .non (upd H l (.lst (xs++ [y])))
theorem nS:MtM X "list.append" BC:=by
 intro pins s σ H x vs v us Q I rx rv h;obtain⟨l,xs,y,rfl,rfl,hH,hz,q⟩:=h;cases rx;obtain⟨u,rfl,ru⟩:=rv.one;obtain⟨z,its,n,r,hl,e⟩:=I.IT hH;refine N8 F.slot_list_append ⟨_,e,rfl⟩ F.entry_list_append (F.args_list_append_2 _ _) (PySem.list_append l its.toArray n u (by rw[J1];omega)) ⟨e,?_⟩
 refine⟨.non,_,I.Js (its':=its++ [u]) hH e (by simp) (r.append (.cons ru .nil)) ?_,rfl,q⟩
 rw[JZ,Lb];omega
def BB:V->List V->Hp->VK->Prop:=λx vs H Q=> ∃l b xs zs,x= .ref l/\vs= [.ref b]/\H l=some (.lst xs)/\H b=some (.lst zs)/\xs.length+zs.length<=sizeLine/\Q .non (upd H l (.lst (xs++zs)))
theorem w8:MtM X "list.extend" BB:=by
 intro pins s σ H x vs v us Q I rx rv h;obtain⟨l,b,xs,zs,rfl,rfl,hH,hB,hz,q⟩:=h;cases rx;obtain⟨u,rfl,ru⟩:=rv.one;cases ru;obtain⟨z,its,n,r,hl,e⟩:=I.IT hH;obtain⟨z2,its2,n2,r2,hl2,e2⟩:=I.IT hB
 have hsz:its.toArray.size+its2.toArray.size<=sizeLine:=by rw[J1,J1];omega
 have hlong:¬ (!its.toArray.isEmpty&&Mx (its.toArray.size+its2.toArray.size))=true:=by
  rw[rO hsz,Bool.and_false];exact J3
 refine N8 F.slot_list_extend ⟨_,e,rfl⟩ F.entry_list_extend (F.args_list_extend_2 _ _)
  (AutoSeq1.list_extend_list_list_0 l its.toArray n b its2.toArray n2 hlong (by rw[J1];omega) (by omega)) ⟨e,e2,?_⟩
 refine⟨.non,_,I.Js (its':=its++its2) hH e (by simp) (r.append r2) ?_,rfl,q⟩
 rw[JZ];omega
def rCat:R2:=λx y H Q=> ∃l b xs zs,x= .ref l/\y= .ref b/\H l=some (.lst xs)/\H b=some (.lst zs)/\xs.length+zs.length<=sizeLine/\∀p,H p=none->Q (.ref p) (upd H p (.lst (xs++zs)))
theorem Fd:nF X (LZ .Add) rCat:=by
 intro pins s σ H x y v u Q I rx ry h;obtain⟨l,b,xs,zs,rfl,rfl,hH,hB,hz,q⟩:=h;cases rx;cases ry;obtain⟨z,its,n,r,hl,e⟩:=I.IT hH;obtain⟨z2,its2,n2,r2,hl2,e2⟩:=I.IT hB;refine PySem.P.add_list e e2 ?_ (by rw[J1,J1];omega)
 have ea:its.toArray++its2.toArray=(its++its2).toArray:=by simp
 rw[ea];exact⟨.ref _,_,I.Jk (t':=s.toks) (r.append r2) (by rw[JZ];omega),rfl,q _ I.fresh⟩
def rRep:R2:=λx y H Q=> ∃l k xs,x= .ref l/\y= .int k/\H l=some (.lst xs)/\-(2 ^ 63)<=k/\k<2 ^ 63/\xs.length*k.toNat<=sizeLine ∧
 ∀p,H p=none->Q (.ref p) (upd H p (.lst (Ke k.toNat xs).flatten))
theorem len_rep {α:Type}(xs:List α)(k:Nat):(Ke k xs).flatten.length=k*xs.length:=by
 induction k with
 | zero=>simp
 | succ k ih=>rw[LI,Mz,JZ,ih,Nat.succ_mul,R9]
theorem E8:nF X (LZ .Mult) rRep:=by
 intro pins s σ H x y v u Q I rx ry h;obtain⟨l,k,xs,rfl,rfl,hH,h1,h2,hz,q⟩:=h;cases rx;obtain⟨t,rfl⟩:=ry;obtain⟨z,its,n,r,hl,e⟩:=I.IT hH
 have hlen:its.toArray.size*k.toNat<=sizeLine:=by rw[J1,<-hl];exact hz
 have hcap:¬ its.toArray.size*k.toNat > (2 ^ 63 - 1) / 8:=by
  have:(sizeLine:Nat)<=(2 ^ 63 - 1) / 8:=by decide
  omega
 have hfit:¬ (!Builtin.List.listFitsIndex k)=true:=by
  rw[fitsIndex_both h1 h2];exact J3
 have hlong:¬ Mx (its.toArray.size*k.toNat)=true:=by
  rw[rO hlen];exact J3
 have hnew:Px (λx1 x2=>x1++x2) #[] (Ke (if its.toArray.isEmpty=true then 0 else k.toNat) its.toArray)=(Ke k.toNat its).flatten.toArray:=by
  have f0:∀m:Nat,Px (λx1 x2=>x1++x2) #[] (Ke m its.toArray)=(Ke m its).flatten.toArray:=λm=>by
   have:=foldl_rep its m [];rw[MA]at this;exact this
  rw[f0]
  cases its with
  | nil=>simp
  | cons a r'=>rw[if_neg (by simp)]
 refine Po (T:="list") (U:="int") (by decide) ⟨_,e,rfl⟩ (λs'=>Qz s' k t) noFill_list_mul SO OM repeat_list Sn.lookup
  (N8 OM (Qz s k t) So (RJ _ _) (int___rmul___int_list k t l its.toArray n)
   ⟨e,rfl,⟨_,e,rfl⟩,N8 F.slot_list_mul ⟨_,e,rfl⟩ F.entry_list_mul (F.args_list_mul_2 _ _) (Re l its.toArray n k t hfit hcap hlong) ⟨e,?_⟩⟩)
 rw[hnew];exact⟨.ref _,_,I.Jk (t':=s.toks) (r.rep k.toNat) (by rw[len_rep,Sa];exact hz),rfl,q _ I.fresh⟩
end
end L2
namespace Att
open PySem PySem.W PySem.Calls PyProof.Rows
theorem kZ {P:Params}{h:Heap}:∀(ns:List Int) (vs:List JK),WellAll P h vs (ns.map WData.int)->Lj vs ns:=by
 intro ns
 induction ns with
 | nil=>
  intro vs w;rw[Oe]at w;cases w
  exact .nil
 | cons n ns ih=>
  intro vs w;rw[JP]at w
  cases w with
  | cons a b=>
   cases a;exact .cons _ _ (ih _ b)
theorem wJ {l:OpenLaw}{n:Nat}(hn:l.most=some n){P:Params}{h:Heap}{args:List WData}{vals:List JK}
  (hpre:l.row.toRowW.claim.pre args=true) (hwl:WellAll P h vals args) :
  ∃a vs ns,vals= [Kb a]/\args= [WData.list (ns.map WData.int)]/\h.get? a=some { cls:=.type "list",data:=.seq vs.toArray }/\Lj vs ns/\ns.length<=n:=by
 have hsh:WShape.hasAll [] args [.list .int] =true:=(pre_splitW hpre).1
 have hc:l.pre.holds [] { args:=args }=true:=(pre_splitW hpre).2;obtain⟨d,r,rfl,h1,h2⟩:=hasAllW_cons hsh;obtain rfl:=hasAllW_nil h2;obtain⟨xs,rfl,h3⟩:=hasW_list h1;obtain⟨ns,rfl⟩:=items_int h3
 have hlen:ns.length<=n:=by
  unfold OpenLaw.pre at hc
  have h4:(WTm.not (.lt (.lit (.int (n:Int))) (.len (.arg 0)))).holds [] { args:=[.list (ns.map .int)] }=true:=by
   have h4:=(holds_andW hc).1;rw[hn]at h4;exact h4
  have h5:=condW_of h4 (w_not (w_lt w_lit (w_len_list (w_arg rfl))));rw[JQ]at h5;refine P5 λq=> ?_
  have q':(n:Int)<((ns.length:Nat):Int):=by omega
  first
   | (rw[decide_eq_true q']at h5;exact absurd h5 (by decide))
   | (simp at h5;omega)
 cases hwl with
 | cons w1 w2=>
  cases w2
  cases w1 with
  | list ho hall=>exact⟨_,_,ns,rfl,rfl,ho,kZ ns _ hall,hlen⟩
theorem wQ (l:OpenLaw)(args:List WData):l.row.toRowW.claim.post args (.bool true) args=true:=
 postW_of (r:=l.row.toRowW) (X:=(true == true))
  (show WShape.has [] (.bool true) .bool=true by first | rfl | decide | simp[WShape.has,WShape.arms,WShape.armsAll])
  (show(WTm.eq .res (.lit (.bool true))).value [] { args:=args,res:=some (.bool true),after:=args }=some (.bool (true == true))from w_eq_bool (w_res rfl) w_lit) rfl
theorem attach_call {l:OpenLaw}{n:Nat}{q:J9}{loose:List Str}{XP:(Str->Option JK)->Heap->Prop}{YP:Kx->Heap->Prop}{d:DefRec}
  (hn:l.most=some n) (hdf:d.params.defaults= [])
  (call:∀(w:Kx) (s₀ s₁:JL) (mg mb:Str->Option JK) (fa:Addr) (o:Obj) (pm cd doc:JK) (a:Addr) (vs:List JK) (ns:List Int),
   Ground q loose [] XP w s₀ mg mb s₁.heap->YP w s₁.heap →
   s₁.heap.get? fa=some o->o.data= .func (docDef d.name d.params d.body d.scope pm cd doc)->s₁.heap.CodeRec cd d.name->mg d.name=some (.ref fa) →
   s₁.heap.get? a=some { cls:=.type "list",data:=.seq vs.toArray }->Lj vs ns->ns.length<=n->s₁.gens= #[] →
   codeAny (model l.prog w) callerA (.call (.ref fa) ⟨[.ref a],[]⟩) (λr s'=>r= .ok (.ret (.bool true))/\OldK s₁.heap s'.heap/\s'.os=s₁.os/\PY s'.gens) s₁) :
  WalkO q loose XP YP l.row.toRowW d [] (λf vs=>PySem.call f vs):=by
 intro w s₀ s₁ mg mb G Y fa o pm cd doc dV kV ho hd hcd hD hmg hg args vals as hpre hlay hrd hwl hlo;obtain rfl:dV= .none:=Dflts.none hD hdf;obtain rfl:kV= .none:=Dflts.noKw hD;obtain⟨a,vs,ns,rfl,rfl,hobj,hints,hlen⟩:=wJ hn hpre hwl;refine enter_call (Om (call w s₀ s₁ mg mb fa o pm cd doc a vs ns G Y ho (fd_plain hd) hcd hmg hobj hints hlen hg) λr s' hq=> ?_)
 obtain⟨rfl,h2,h3,h4⟩:=hq;exact⟨.inl ⟨.bool true,.bool true,[],rfl,λ_=>rfl,.bool true,wQ l _,λ_=>⟨N0,λ_ hm=>(nomatch hm)⟩⟩,h2,h3,h4⟩
end Att
namespace L2
open PySem PySem.Spec PyProof.Rows
theorem nI:∀{vs:List JK} {ns:List Int},Lj vs ns->Vals (ns.map V.int) vs
 | _,_,.nil=> .nil
 | _,_,.cons n t h=> .cons ⟨t,rfl⟩ (nI h)
def Gh (H:Hp):Prop:=∀b,H b=none\/∃o xs,H b=some (.frz o (.lst xs))
theorem zP {P:J9}{w:Kx}{K:JH}{mg mb:Str->Option JK}{CX:A1}{k:Nat}{fa a:Addr}{fd:L0}{x:Str}{sp:Sp}{s₁:JL}{vs:List JK}{ns:List Int}
  (KX:K.In s₁.heap) (hns:s₁.heap.Ns Kw mg) (hb:s₁.heap.Ns PJ mb) (hbb:∀x:Str,x≠ "__name__"->mb x=Ky x) (hlim:s₁.heap.NoLimit) (hg:s₁.gens= #[])
  (ha:s₁.heap.get? a=some { cls:=.type "list",data:=.seq vs.toArray }) (hi:Lj vs ns) (hl:ns.length<=sizeLine) (hr:Room k callerA)
  (F:∀base:Heap,K.In base->base.Ns Kw mg->qH P w K mg base CX k fa fd [x] sp) (hbind:∀(s:JL) (u:JK),RY s fd ⟨[u],[]⟩ [(x,u)])
  (hsp:∀H:Hp,Gh H->SqL K H a (ns.map V.int)->sp [.ref a] H (λv _=>v= .bl true) λ_ _ _=>False)
  (hCX:∀H e s',CX [] H s₁ (λ_ _ _=>False) e s'->False) :
  codeAny (model P w) callerA (.call (.ref fa) ⟨[.ref a],[]⟩) (λr s'=>r= .ok (.ret (.bool true))/\OldK s₁.heap s'.heap/\s'.os=s₁.os/\PY s'.gens) s₁:=by
 have rv:=nI hi
 have lenV:=hi.length
 -- from an abstract heap in which nothing but the script may be tracked
 have core:∀H:Hp,Gh H->SqL K H a (ns.map V.int)->HOk P w H s₁.heap->(∀b,H b≠none->b=a)->(H a≠none->K.lookup a=none) →
   codeAny (model P w) callerA (.call (.ref fa) ⟨[.ref a],[]⟩) (λr s'=>r= .ok (.ret (.bool true))/\OldK s₁.heap s'.heap/\s'.os=s₁.os/\PY s'.gens) s₁:=by
  intro H hO hS hok hA hK
  have base_of:∀{b:Addr} {o:Obj},s₁.heap.get? b=some o->H b=none->(qg s₁.heap H).get? b=some o:=λe n=>Ab e n
  have noA:∀{b:Addr} {o:Obj} {es:Array DictEntry} {ep:Nat},s₁.heap.get? b=some o->o.data= .dict es ep->H b=none:=λ{b o es ep} e d=>by
   cases q:H b with
   | none=>rfl
   | some u=>
    have e':b=a:=hA b (by rw[q];simp)
    subst e';rw[ha]at e;cases e
    have d':Data.seq vs.toArray _=Data.dict es ep:=d;cases d'
  have nsK:∀{b:Addr} {m:Str->Option JK},s₁.heap.Ns b m->(qg s₁.heap H).Ns b m:=λ{b m} ⟨o,es,ep,e,d,r⟩=>⟨o,es,ep,base_of e (noA e d),d,r⟩
  have hKb:K.In (qg s₁.heap H):=λb o e=>base_of (KX b o e) (by
   cases q:H b with
   | none=>rfl
   | some u=>
    have e':b=a:=hA b (by rw[q];simp)
    subst e';rw[hK (by rw[q];simp)]at e;cases e)
  have hM:Mod K mg (qg s₁.heap H):=⟨hKb,nsK hns,⟨mb,nsK hb,hbb⟩,let ⟨mc,h1,h2⟩:=hlim;⟨mc,nsK h1,h2⟩⟩
  have e0:AW P w K mg (qg s₁.heap H) callerA [] s₁ H:=⟨rfl,hM,λb o e=>Ck e,NF (xv _ _),trivial,λb hb=>absurd (show b∈([]:List Addr)from hb) (by simp),hok,.of_eq hg⟩
  refine Om ((F _ hKb (nsK hns)).run callerA [] s₁ H ⟨[.ref a],[]⟩ [.ref a] [.ref a] _ _ hr e0 (hbind s₁ (.ref a)) (.cons rfl .nil) (hsp H hO hS)) λr s' h=> ?_
  cases r with
  | error e=>exact(hCX H e s' h).elim
  | ok fl=>
   cases fl with
   | next=>exact Nc h
   | brk=>exact Nc h
   | cont=>exact Nc h
   | ret u=>
    obtain⟨v,H',os,bare,un,hok',r',q⟩:=h
    have q':v= .bl true:=q;subst q';obtain rfl:u=K7 true:=r';refine⟨rfl,OldK.of_keep λb o e=> ?_,os,bare⟩
    cases q:H b with
    | none=>exact un.keep b o e q (by intro z;exact absurd (show b∈([]:List Addr)from z) (by simp)) (by simp)
    | some u=>
     rcases hO b with z | ⟨ob,xs,z⟩
     ·rw[q]at z;cases z
     ·have z2:=un.frzs b ob _ z
      obtain⟨e1,_⟩:=hok b _ z;obtain⟨e2,_⟩:=hok' b _ z2;rw[e]at e1;cases e1;exact e2
 cases hk:K.lookup a with
 | some o=>
  -- the script is one of the module's own objects
  have e:=KX a o hk;rw[ha]at e;cases e
  refine core (λ_=>none) (λ_=> .inl rfl) (.inr ⟨_,vs.toArray,_,hk,rfl,rfl,rfl,by rw[J1,lenV];exact hl,by simpa using rv⟩) (λb u z=>by have z':(none:Option HO)=some u:=z;cases z') (λb z=>absurd rfl z) λz=>absurd rfl z
 | none=>
  refine core (λb=>if b=a then some (.frz { cls:=.type "list",data:=.seq vs.toArray } (.lst (ns.map V.int)))else none) (λb=> ?_) (.inl (.inr ⟨{ cls:=.type "list",data:=.seq vs.toArray },if_pos rfl⟩)) (λb u z=> ?_) (λb z=> ?_) λ_=>hk
  ·by_cases hb:b=a
   ·exact .inr ⟨_,_,if_pos hb⟩
   ·exact .inl (if_neg hb)
  ·by_cases hb:b=a
   ·have z':=(if_pos hb).symm.trans z
    cases z';subst hb;exact⟨ha,by rw[JQ];exact hl,vs,_,rv,ha⟩
   ·have z':=(if_neg hb).symm.trans z
    cases z'
  ·by_cases hb:b=a
   ·exact hb
   ·exact absurd (if_neg hb) z
abbrev CX0:A1:=λ_ _ _ _ _ _=>False
abbrev E0:XK:=λ_ _ _=>False
theorem Du {X:Cx}:uM CX0 X E0:=λ_ _ _ _ _ _ _ h=>h.elim
structure Fun (K:JH)(x qual:Str)(st:Stmt)(f:Addr)(fd:L0):Prop where
 ex:∃(oc:JK) (od:Option Addr) (kV doc pm:JK) (an:Option Addr) (cdv ct:JK) (osl:Array (Option JK)),
  fd=NB x qual (eZ st) (cf st) (aA st) .none kV doc pm an cdv ct/\K.lookup f=some ⟨oc,od,.func fd,osl⟩/\QL K cdv qual=true
 kp:N9 K (.ref f)=true
section
variable {P:J9}{w:Kx}{K:JH}{mg:Str->Option JK}{base:Heap}
theorem Fun.ok {x qual:Str}{st:Stmt}{f:Addr}{fd:L0}{N ps:List Str}{k:Nat}{sp:Sp}(F:Fun K x qual st f fd)(S:dG N ps (aA st))(len:∀vs H Q E,sp vs H Q E->vs.length=ps.length)
  (hbody:∀(cdv:JK) (A:Km) (outer:List Env) (s:JL) (H:Hp) (vs:List V) (Q:VK) (E:XK),Room k (A.deeper (envOfC qual (aA st) s.heap.objs.size f cdv))->sp vs H Q E →
   ∃t,PSs (jU CX0 P w K mg base N qual (aA st) f cdv A outer s H E).nox (cf st) t/\t { nx:=λ_ H'=>Q .non H',rt:=Q } (start N vs) H):qH P w K mg base CX0 (k+1) f fd ps sp:=by
 obtain⟨oc,od,kV,doc,pm,an,cdv,ct,osl,rfl,lk,hcd⟩:=F.ex;refine HR lk hcd S len λA outer s H vs Q E hr hsp=> ?_
 obtain⟨t,h,q⟩:=hbody cdv A outer s H vs Q E hr hsp;exact⟨t,h.nox,q⟩
theorem Fun.binds {x qual:Str}{st:Stmt}{f:Addr}{fd:L0}{ps:List Str}(F:Fun K x qual st f fd)
  (h:∀(kV doc pm:JK) (an:Option Addr) (cdv ct:JK) (us:List JK),us.length=ps.length->SJ (NB x qual (eZ st) (cf st) (aA st) .none kV doc pm an cdv ct) ⟨us,[]⟩=pure (ps.zip us)):Binds K fd ps []:=by
 obtain⟨oc,od,kV,doc,pm,an,cdv,ct,osl,rfl,lk,hcd⟩:=F.ex;exact .all (h kV doc pm an cdv ct)
theorem FP {x qual:Str}{st:Stmt}{f:Addr}{oc:JK}{od an:Option Addr}{osl:Array (Option JK)}{kV doc pm cdv ct:JK}(l:K.lookup f=some ⟨oc,od,.func (NB x qual (eZ st) (cf st) (aA st) .none kV doc pm an cdv ct),osl⟩)
  (c:QL K cdv qual=true) (k:N9 K (.ref f)=true):Fun K x qual st f (NB x qual (eZ st) (cf st) (aA st) .none kV doc pm an cdv ct):=⟨⟨oc,od,kV,doc,pm,an,cdv,ct,osl,rfl,l,c⟩,k⟩
end
theorem iteF {A B:Prop}(h:B):if false=true then A else B:=by
 rw[if_neg J3];exact h
theorem iteT {A B:Prop}(h:A):if true=true then A else B:=by
 rw[if_pos rfl];exact h
def Same (H H':Hp):Prop:=∀b o,H b=some o->H' b=some o
theorem Same.refl (H:Hp):Same H H:=λ_ _ h=>h
theorem Same.trans {H H1 H2:Hp}(a:Same H H1)(b:Same H1 H2):Same H H2:=λc o h=>b c o (a c o h)
theorem jw {env:Env}:∀(names:List (Str×Ni)) (acc:List (Str×Addr)),
  (∀x,(x,KH)∈names->∃c,env.cells.lookup x=some c) →
  (∀x c,acc.lookup x=some c->env.cells.lookup x=some c) →
  ∃cl,(forIn (m:=Sem) names acc (λx cs=>(if (x.2 == KH)=true then do let a <-cellOf env x.1;pure (M0 ((x.1,a)::cs))else pure (M0 cs))))=pure cl ∧
   (∀x c,cl.lookup x=some c->env.cells.lookup x=some c) ∧
   (∀x,(x,KH)∈names->∃c,cl.lookup x=some c)/\(∀x c,acc.lookup x=some c->∃c',cl.lookup x=some c')
 | [],acc,_,h=>⟨acc,rfl,h,λx hx=>by simp at hx,λx c e=>⟨c,e⟩⟩
 | (n,k)::r,acc,hf,h=>by
  by_cases hk:k=KH
  ·subst hk
   obtain⟨c,hc⟩:=hf n (by simp)
   have h':∀x c',((n,c)::acc).lookup x=some c'->env.cells.lookup x=some c':=λx c' e=>by
    rw[Le]at e
    cases q:x == n with
    | true=>
     rw[q]at e
     have e2:c=c':=KM e
     have e3:x=n:=by simpa using q
     rw[<-e2,e3];exact hc
    | false=>rw[q]at e;exact h x c' e
   obtain⟨cl,e1,e2,e3,e4⟩:=jw r ((n,c)::acc) (λx hx=>hf x (JJ _ hx)) h'
   refine⟨cl,?_,e2,λx hx=> ?_,λx c' e=> ?_⟩
   ·rw[ON]
    simp only[beq_self_eq_true,if_true,cellOf,hc,pure_bind];exact e1
   ·rcases JT.mp hx with z | z
    ·have z1:x=n:=by injection z
     subst z1;exact e4 x c (by simp[Le])
    ·exact e3 x z
   ·cases q:x == n with
    | true=>exact e4 x c (by simp[Le,q])
    | false=>exact e4 x c' (by simp[Le,q,e])
  ·have hb:(k == KH)=false:=by simpa using hk
   obtain⟨cl,e1,e2,e3,e4⟩:=jw r acc (λx hx=>hf x (JJ _ hx)) h
   refine⟨cl,?_,e2,λx hx=> ?_,e4⟩
   ·rw[ON]
    simp only[hb,KU,if_false,pure_bind];exact e1
   ·rcases JT.mp hx with z | z
    ·have z1:KH=k:=by injection z
     exact absurd z1.symm hk
    ·exact e3 x z
theorem uF {env:Env}{scope:NR}(hf:∀x,(x,KH)∈scope.names->∃c,env.cells.lookup x=some c) :
  ∃cl,closureFor scope env=pure cl/\(∀x c,cl.lookup x=some c->env.cells.lookup x=some c)/\(∀x,(x,KH)∈scope.names->∃c,cl.lookup x=some c):=by
 obtain⟨cl,e1,e2,e3,_⟩:=jw scope.names [] hf (λx c e=>by simp at e)
 refine⟨cl,?_,e2,e3⟩
 unfold closureFor;refine Eq.trans ?_ (congrArg (λz=>z >>= pure) e1|>.trans (by simp))
 rfl
theorem qw {pr:J9}{wd:Kx}{Ar:Km}{Rz:S4->JL->Prop}{s0:JL}{el tg it0:Expr}{cs:List Expr}{sc:NR}{ps:Pos}{itv av:JK}{ev:Env}(W:Nat->JL->Prop)
  (go:∀k st,W k st->wpAny (model pr wd) Ar (pyNext itv) (λr s1=>match r with
   | none=>Rz (.ok .next) s1
   | some v=>wpAny (model pr wd) Ar (NP tg itv v) (λ_ s2=>wpAny (model pr wd) Ar (assign tg ev v) (λ_ s3=>
     wpAny (model pr wd) Ar (forIn cs true λc b=>if b=true then do let z <-isTrue c ev (eval c ev);pure (M0 z)else pure (M0 b)) (λz s4=>
      if z=true then wpAny (model pr wd) Ar (eval el ev) (λy s5=>
       wpAny (model pr wd) Ar (call (.builtin "list.append") [av,y]) (λ_ s6=> ∃m,m<k/\W m s6) (λ_ _=>False) s5) (λ_ _=>False) s4
      else ∃m,m<k/\W m s4) (λ_ _=>False) s3) (λ_ _=>False) s2) (λ_ _=>False) s1) (λ_ _=>False) st)
  (k:Nat) (hk:W k s0):codeAny (model pr wd) Ar (.compLoop (.ListComp el [⟨tg,it0,cs,0⟩] sc ps) 0 itv av ev) Rz s0:=by
 refine codeAny_loop rfl W (λk st hw=> ?_) k hk
 show wpAny (model pr wd) Ar ((compTurn (.ListComp el [⟨tg,it0,cs,0⟩] sc ps) 0 itv av ev).onRaise (λz=>do noteFrame z ev;theTreesLotGoes z)) _ _ st
 refine wpAny_noted ?_
 rw[compTurn_list]
 have no:∀{α:Type} {t:Sem α} {Q Q':α->JL->Prop} {E':JK->JL->Prop} {x:JL},wpAny (model pr wd) Ar t Q (λ_ _=>False) x->(∀y z,Q y z->Q' y z)->wpAny (model pr wd) Ar t Q' E' x:=λh f=>L9 h f λ_ _ z=>z.elim
 refine JG (Rq (JG (no (go k st hw) λr s1 g1=> ?_)))
 cases r with
 | none=>exact JN g1
 | some v=>
  refine JG (no g1 λ_ s2 g2=>JG (no g2 λ_ s3 g3=>JG (no g3 λz s4 g4=> ?_)))
  cases z with
  | false=>exact JN (And.intro rfl g4)
  | true=>exact JG (JG (no g4 λy s5 g5=>JG (no g5 λ_ s6 g6=>JN (JN (And.intro rfl g6)))))
def bw (X:Cx)(scope:NR)(cl:List (Str×Addr))(N':List Str)(C:Addr)(s₀:JL)(H₀:Hp)(fp:List Addr):Cx:=
 { X with N:=N',s₀:=s₀,H₀:=H₀,env:=compEnvC scope cl C X.env,outer:=X.stack,stack:=X.stack,ex:=fp,fn:=λx=>scope.names.lookup x == some .cell,xe:=λ_ _=>False }
def eY (src:List (Option Nat))(σ:St):St:=src.map λo=>match o with
 | some i=>(σ[i]?).join
 | none=>none
theorem hW {env:Env}:∀{names:List (Str×Ni)} {x:Str} {k:Ni},
  (names.map λ(n,k)=>if (k == KH&&env.scope.kind == .function&&env.kindOf n == some .cell)then(n,Lv)else(n,k)).lookup x=some k →
  ∃k',names.lookup x=some k'/\(k=k'\/k'= .free)
 | [],_,_,h=>by simp at h
 | (n,k0)::r,x,k,h=>by
  have ih:=@hW env r x k
  have h':M4 x ((if (k0 == KH&&env.scope.kind == .function&&env.kindOf n == some .cell)=true then(n,Lv)else(n,k0))::(r.map λ(n,k)=>if (k == KH&&env.scope.kind == .function&&env.kindOf n == some .cell)then(n,Lv)else(n,k)))=some k:=h
  by_cases hc:(k0 == KH&&env.scope.kind == .function&&env.kindOf n == some .cell)=true
  ·rw[if_pos hc]at h'
   rw[Le]at h' ⊢
   cases hx:x == n with
   | true=>
    refine⟨k0,rfl,.inr ?_⟩
    have:=L4.mp hc|>.1
    have:=L4.mp this|>.1
    simpa using this
   | false=>rw[hx]at h';exact ih h'
  ·rw[if_neg hc]at h'
   rw[Le]at h' ⊢
   cases hx:x == n with
   | true=>rw[hx]at h';exact⟨k0,rfl,.inl (KM h').symm⟩
   | false=>rw[hx]at h';exact ih h'
theorem iK {names:List (Str×Ni)}{x:Str}{k:Ni}(h:names.lookup x=some k):(x,k)∈names:=Mb h
theorem gM {env:Env}:∀{names:List (Str×Ni)} {x:Str},names.lookup x=some .free →
  (names.map λ(n,k)=>if (k == KH&&env.scope.kind == .function&&env.kindOf n == some .cell)then(n,Lv)else(n,k)).lookup x=some .cell ∨
  (names.map λ(n,k)=>if (k == KH&&env.scope.kind == .function&&env.kindOf n == some .cell)then(n,Lv)else(n,k)).lookup x=some .free
 | [],_,h=>by simp at h
 | (n,k0)::r,x,h=>by
  have ih:=@gM env r x
  show M4 x ((if (k0 == KH&&env.scope.kind == .function&&env.kindOf n == some .cell)=true then(n,Lv)else(n,k0))::_)=_\/M4 x ((if (k0 == KH&&env.scope.kind == .function&&env.kindOf n == some .cell)=true then(n,Lv)else(n,k0))::_)=_
  rw[Le]at h
  by_cases hc:(k0 == KH&&env.scope.kind == .function&&env.kindOf n == some .cell)=true
  ·rw[if_pos hc]
   rw[Le]
   cases hx:x == n with
   | true=>exact .inl rfl
   | false=>rw[hx]at h;exact ih h
  ·rw[if_neg hc]
   rw[Le]
   cases hx:x == n with
   | true=>rw[hx]at h;exact .inr h
   | false=>rw[hx]at h;exact ih h
section
variable {X:Cx}
structure LcScope (X:Cx)(scope:NR)(N':List Str)(src:List (Option Nat)):Prop where
 kind:scope.kind= .function
 cel:∀y∈scope.names,y.2= .cell->scope.names.lookup y.1=some .cell
 loc:∀y∈scope.names,y.2= .local->scope.names.lookup y.1=some .local
 len:src.length=N'.length
 from_:∀(j i:Nat) (x:Str),src[j]? =some (some i)->N'[j]? =some x->X.N[i]? =some x/\scope.names.lookup x=some .free
 free:∀x,(x,KH)∈scope.names->X.env.kindOf x=some .cell\/X.env.kindOf x=some .free
def Gy (K:JH)(wi:TI)(src:List (Option Nat))(g:TG)(tc:TT)(te:TE):TE:=λσ H Q=>wi σ H λJ H1=> ∀D,H1 D=none->K.lookup D=none →
 ∃W:Nat->Nat->St->List V->Hp->Prop,(∃m,W 0 m (eY src σ) [] (upd H1 D (.lst [])))/\∀i m σ ys H,W i m σ ys H->H D=some (.lst ys) ∧
  ((J.stop i H/\Q (.ref D) H)\/(J.go i H/\ys.length<sizeLine/\∀x H',J.yld i H x H'->g x σ H' λσ2 H2=>tc σ2 H2 λb H3=>
   if b=true then te σ2 H3 λv H4=>H4 D=some (.lst ys)/\∃m',m'<m/\W (i+1) m' σ2 (ys++ [v]) (upd H4 D (.lst (ys++ [v])))else ∃m',m'<m/\W (i+1) m' σ2 ys H3))
def wj (X:Cx)(ifs:List Expr)(t:TT):Prop:=
 ∀(pins:List (Addr×Obj)) (s:JL) (σ:St) (H:Hp) (Q:Bool->Hp->Prop),Inv X pins σ H s->t σ H Q →
  wpAny (model X.prog X.w) X.A (forIn ifs true λc r=>if r=true then do let ok <-isTrue c X.env (eval c X.env);pure (M0 ok)else pure (M0 r)) (TP X pins σ Q) X.xe s
def Gq:TT:=λ_ H Q=>Q true H
theorem B5:wj X [] Gq:=λ_ _ _ H _ I h=>wpAny_tests_nil ⟨H,I,h⟩
theorem B4 {c:Expr}{t:TT}(h:PT X c t):wj X [c] t:=λpins s σ H Q I q=>wpAny_tests_one (h pins s σ H Q I q)
theorem kA:∀(names:List (Str×Ni)) (h:Heap) (acc:List (Str×Addr)),(∀x y c,acc.lookup x=some c->acc.lookup y=some c->x=y)->(∀x c,acc.lookup x=some c->c<h.objs.size) →
  (∀x c,(MO h.objs.size names acc).lookup x=some c->acc.lookup x=some c\/(h.objs.size<=c/\(Qw h names).IsCell c none)) ∧
  (∀x y c,(MO h.objs.size names acc).lookup x=some c->(MO h.objs.size names acc).lookup y=some c->x=y) ∧
  (∀x,(x,Lv)∉names->(MO h.objs.size names acc).lookup x=acc.lookup x) ∧
  (∀x,((x,Lv)∈names\/∃c,acc.lookup x=some c)->∃c,(MO h.objs.size names acc).lookup x=some c) ∧
  (∀x c,(x,Lv)∈names->(MO h.objs.size names acc).lookup x=some c->h.objs.size<=c)
 | [],h,acc,hi,_=>⟨λ_ _ e=> .inl e,hi,λ_ _=>rfl,λx e=>e.elim (λz=>absurd z Kp) id,λ_ _ z=>absurd z Kp⟩
 | (n,k)::r,h,acc,hi,hl=>by
  unfold MO Qw
  by_cases hk:k= .cell
  ·subst hk
   rw[if_pos (by rfl),if_pos (by rfl)]
   have hz:(h.push { cls:=.type "cell",data:=.cell none }).objs.size=h.objs.size+1:=Ku ..
   have lk:∀x,((n,h.objs.size)::acc).lookup x=if x=n then some h.objs.size else acc.lookup x:=λx=>by
    rw[Le]
    by_cases e:x=n
    ·rw[if_pos e,beq_iff_eq.mpr e]
    ·rw[if_neg e,beq_eq_false_iff_ne.mpr e]
   obtain⟨c1,c2,c3,c4,c5⟩:=kA r (h.push { cls:=.type "cell",data:=.cell none }) ((n,h.objs.size)::acc) (λx y c e1 e2=>by
     rw[lk]at e1 e2
     by_cases q1:x=n
     ·by_cases q2:y=n
      ·rw[q1,q2]
      ·rw[if_pos q1]at e1;rw[if_neg q2]at e2
       cases e1;exact absurd (hl _ _ e2) (Ki _)
     ·rw[if_neg q1]at e1
      by_cases q2:y=n
      ·rw[if_pos q2]at e2
       cases e2;exact absurd (hl _ _ e1) (Ki _)
      ·rw[if_neg q2]at e2;exact hi x y c e1 e2) (λx c e=>by
     rw[lk]at e;rw[hz]
     by_cases q:x=n
     ·rw[if_pos q]at e;cases e;exact L1 _
     ·rw[if_neg q]at e;exact Lg (hl x c e))
   rw[hz]at c1 c2 c3 c4 c5;refine⟨λx c e=> ?_,c2,λx hx=> ?_,λx hx=> ?_,λx c hx e=> ?_⟩
   ·rcases c1 x c e with z | z
    ·rw[lk]at z
     by_cases q:x=n
     ·rw[if_pos q]at z;cases z
      exact .inr ⟨JW _,_,Qx r _ _ _ (JS _ rfl),rfl⟩
     ·rw[if_neg q]at z;exact .inl z
    ·exact .inr ⟨N4 z.1,z.2⟩
   ·rw[c3 x λz=>hx (JJ _ z),lk,if_neg λz=>hx (by rw[z];exact JO)]
   ·refine c4 x ?_
    rcases hx with hx | hx
    ·rcases JT.mp hx with z | z
     ·cases z
      exact .inr ⟨_,by rw[lk,if_pos rfl]⟩
     ·exact .inl z
    ·by_cases q:x=n
     ·exact .inr ⟨_,by rw[lk,if_pos q]⟩
     ·exact .inr (by rw[lk,if_neg q];exact hx)
   ·rcases JT.mp hx with z | z
    ·have q:x=n:=(SL z).1
     rcases c1 x c e with y | y
     ·rw[lk,if_pos q]at y;cases y;exact JW _
     ·exact N4 y.1
    ·exact N4 (c5 x c z e)
  ·have hb:¬ (k == Lv)=true:=λz=>hk (by simpa using z)
   rw[if_neg hb,if_neg hb];obtain⟨c1,c2,c3,c4,c5⟩:=kA r h acc hi hl;exact⟨c1,c2,λx hx=>c3 x λz=>hx (JJ _ z),λx hx=>c4 x (hx.imp (λz=>(JT.mp z).resolve_left λz=>hk (SL z).2.symm) id),λx c hx=>c5 x c ((JT.mp hx).resolve_left λz=>hk (SL z).2.symm)⟩
theorem wZ {M:Model}{A:Km}{E:JK->JL->Prop}{s:JL}{scope:NR}{globals:Addr}{cl:List (Str×Addr)}{qual:Str}{env:Env}{Q:Env->JL->Prop}
  (q:Q (newEnv scope s.heap.objs.size globals (MO (s.heap.objs.size+1) scope.names cl) qual none .none (some env) PJ) { s with heap:=Qw (s.heap.push { cls:=.type "dict",data:=.dict #[] }) scope.names }) :
  wpAny M A (newFunctionEnv scope globals cl [] qual none .none (some env)) Q E s:=by
 simp only[newFunctionEnv,Rf,if_true];refine JG (wpAny_alloc (JG (wpAny_layCells _ (λname kind cells=>by cases hkc:kind == Lv <;> simp[hkc]) _ _ _ _ ?_)))
 rw[show({ s with heap:=s.heap.push { cls:=.type "dict",data:=.dict #[] } }:JL).heap.objs.size=s.heap.objs.size+1 from Ku ..]
 rw[QN];exact JG (JN (JN q))
theorem vG {elt tg iter:Expr}{ifs:List Expr}{scope:NR}{pos fpos:Pos}{N':List Str}{src:List (Option Nat)}{wi:TI}{g:TG}{tc:TT}{te:TE}{use:Option (JK->Sem Unit)}{Qf:JK->JL->Prop}
  {pins:List (Addr×Obj)} {s:JL} {σ:St} {H:Hp} {Q:VK}
  (hc:X.calm=true) (S:LcScope X scope N' src) (hi:PI X tg iter wi)
  (block:∀cl C s₀ H₀ fp,PG (bw X scope cl N' C s₀ H₀ fp) tg g/\wj (bw X scope cl N' C s₀ H₀ fp) ifs tc/\PE (bw X scope cl N' C s₀ H₀ fp) elt te)
  (hs:∀x,KL iter X.env x=pure x) (I:Inv X pins σ H s) (h:Gy X.K wi src g tc te σ H Q)
  (hend:∀(D C:Addr) (H':Hp) (s':JL),(∃m,s'.heap.Ns C m)->(∀h',MF C s'.heap h'->Inv X pins σ H' { s' with heap:=h' })->(H' C=none/\C≠X.env.locals/\X.s₀.heap.objs.size<=C/\(∀x c,X.env.cells.lookup x=some c->c≠C)/\∀p∈X.pn++pins,p.1≠C)->Q (.ref D) H' →
   compPost (model X.prog X.w) X.A X.xe use Qf (.ref D) C (.ok .next) s') :
  wpAny (model X.prog X.w) X.A (comprehension (.ListComp elt [⟨tg,iter,ifs,0⟩] scope pos) scope X.env fpos (newList []) false (eval iter X.env) use) Qf X.xe s:=by
 have hcell:∀x,(x,KH)∈scope.names->∃c,X.env.cells.lookup x=some c:=λx hx=>I.ok.has x (S.free x hx)
 obtain⟨cl0,hcl,cl01,cl02⟩:=uF (env:=X.env) (scope:=scope) hcell;refine wpAny_comprehension_free (use:=use) rfl hs hcl S.kind S.loc (bV (hi pins s σ H _ I h) λv s1 h1=>bV h1 λitv s2 h2=> ?_)
 obtain⟨it,fp,tn,J,H2,e,I2,T,st2,f2,hq⟩:=h2;subst e
 -- the new list
 refine Kl ?_
 have hD:H2 s2.heap.objs.size=none:=I2.hok.fresh (JW _)
 have hDK:X.K.lookup s2.heap.objs.size=none:=by
  cases q:X.K.lookup s2.heap.objs.size with
  | none=>rfl
  | some o=>exact absurd (JV (I2.kIn _ o q)) (Ki _)
 obtain⟨W,⟨m0,w0⟩,turn⟩:=hq s2.heap.objs.size hD hDK
 have I3:=I2.Jk (its:=[]) (ys:=[]) (t':=s2.toks) .nil (KY _)
 generalize hs3:({ s2 with heap:=s2.heap.push { cls:=.type "list",data:=.seq ([]:List JK).toArray },toks:=s2.toks }:JL)=s3 at I3
 generalize hH3:upd H2 s2.heap.objs.size (.lst [])=H3 at I3 w0
 have hDsz:s2.heap.objs.size<s3.heap.objs.size:=by rw[<-hs3];simp[Ku]
 have fr3:∀b∈fp,H3 b=none:=λb hb=>by
  obtain⟨o,eo,_⟩:=T.obj _ _ st2 b hb;rw[<-hH3,aQ (J7 (JV eo))];exact(f2 b hb).1
 have st3:tn 0 s3.heap:=T.keep _ _ _ st2 λb hb o e=>by rw[<-hs3];exact JI _ e
 have f3:∀b∈fp,k7 X pins H3 b:=λb hb=>⟨fr3 b hb,(f2 b hb).2⟩
 have D3:H3 s2.heap.objs.size=some (.lst []):=by rw[<-hH3];exact bc
 generalize s2.heap.objs.size=D at*
 clear hs3 hH3 hD hDK
 -- the block's frame
 refine wZ ?_
 have old:∀b o,s3.heap.get? b=some o->(Qw (s3.heap.push { cls:=.type "dict",data:=.dict #[] }) scope.names).get? b=some o:=λb o e=>Qx _ _ b o (JI _ e)
 have hns₁:(Qw (s3.heap.push { cls:=.type "dict",data:=.dict #[] }) scope.names).Ns s3.heap.objs.size (λ_=>none):=(Heap.Ns.new s3.heap (.type "dict")).keeps (Qx _ _)
 have hz3:(s3.heap.push { cls:=.type "dict",data:=.dict #[] }).objs.size=s3.heap.objs.size+1:=Ku ..
 have lt0:∀x c,cl0.lookup x=some c->c<s3.heap.objs.size:=λx c e=>let ⟨_,ic⟩:=I3.cell x c (cl01 x c e);ic.lt
 obtain⟨c1,c2,c3,c4,c5⟩:=kA scope.names (s3.heap.push { cls:=.type "dict",data:=.dict #[] }) cl0 (λx y c e1 e2=>I3.ok.inj x y c (cl01 x c e1) (cl01 y c e2)) λx c e=>by rw[hz3];exact Lg (lt0 x c e)
 rw[hz3]at c1 c2 c3 c4 c5
 generalize hcl':MO (s3.heap.objs.size+1) scope.names cl0=cl at*
 generalize hh₁:Qw (s3.heap.push { cls:=.type "dict",data:=.dict #[] }) scope.names=h₁ at*
 have below:∀b o,s3.heap.get? b=some o->b≠s3.heap.objs.size:=λb o e=>J7 (JV e)
 -- a cell of the block's: one from around,or a new one
 have cl1:∀x c,cl.lookup x=some c->X.env.cells.lookup x=some c\/(s3.heap.objs.size<c/\h₁.IsCell c none):=λx c e=>(c1 x c e).imp (cl01 x c) id
 generalize hC:s3.heap.objs.size=C at*
 have stk:∀b,b≠X.env.locals->b∉X.fs->b∉qh X.stack:=λb h1 h2 z=>(JT.mp (I3.Jb b z)).elim h1 h2
 have apart:∀b∈fp,∀x c,cl.lookup x=some c->c≠b:=λb hb x c e=>by
  rcases cl1 x c e with z | z
  ·exact(f3 b hb).2.2.2.2.1 x c z
  ·obtain⟨o,eo,_⟩:=T.obj _ _ st3 b hb
   have h1:=JV eo;rw[hC]at h1;exact LV (L6 h1 z.1)
 have I4:Inv (bw X scope cl N' C s3 H3 fp) pins (eY src σ) H3 { s3 with heap:=h₁ }:=by
  refine⟨⟨I3.ok.mod,S.kind,I3.ok.glob,I3.ok.blt,NF hC,c2,λx hx=> ?_,λx c hx e=>LU (hC▸c5 x c (iK (beq_iff_eq.mp hx)) e),I3.ok.hd,I3.ok.frames,.inl rfl,
    λb hb=>⟨?_,λx c e=>apart b hb x c e⟩,I3.bs,Kf I3.ok.bsz I3.sz,λb o e z=> ?_,λb hb=>stk b (f3 b hb).2.1 (f3 b hb).2.2.1,I3.stack,I3.IX⟩,
   rfl,I3.bare,Un.kept old,⟨_,hns₁,λj x v e1 e2 e3=> ?_⟩,λx c e=> ?_,I3.hok.fresh (NF hC),λx c e=>(cl1 x c e).elim (I3.freeC x c) λz=>I3.hok.fresh (by rw[hC];exact LU z.1),λp hp=> ?_,I3.hok.kept old,?_⟩
  ·have key:∀k,(relabel scope X.env).names.lookup x=some k->(k= .cell\/k= .free)->∃c,cl.lookup x=some c:=λk e hk=>by
    obtain⟨k',e',z⟩:=hW e
    have hk':k'= .cell\/k'= .free:=z.elim (λz=>z▸hk) .inr
    rcases hk' with q | q
    ·exact c4 x (.inl (q▸iK e'))
    ·exact c4 x (.inr (cl02 x (q▸iK e')))
   rcases hx with hx | hx
   ·exact key _ hx (.inl rfl)
   ·exact key _ hx (.inr rfl)
  ·obtain⟨o,eo,_⟩:=T.obj _ _ st3 b hb
   show b≠C
   exact below b o eo
  ·have z':b∈fp:=z
   obtain⟨_,_,_,z1,_⟩:=f3 b z';rcases z1 with z1 | z1
   ·exact I3.ok.noex b o e z1
   ·exact absurd (JY (JV (I3.ok.bs b o e).1) z1) (Ki _)
  ·unfold eY at e2
   rw[Kk]at e2
   cases q:src[j]? with
   | none=>rw[q]at e2;simp at e2
   | some o=>
    rw[q]at e2
    cases o with
    | none=>simp at e2
    | some i=>
     have e2':(σ[i]?).join=some v:=by simpa using e2
     have e2'':σ[i]? =some (some v):=by
      cases q2:σ[i]? with
      | none=>rw[q2]at e2';simp at e2'
      | some z=>rw[q2]at e2';simp at e2';rw[e2']
     obtain⟨hN,hfree⟩:=S.from_ j i x q e1
     have hm:=iK hfree
     have hk:=S.free x hm;obtain⟨m,hn,hl⟩:=I3.loc
     have hv:xT X.env.scope x:=by
      rcases hk with z | z
      ·exact .inr (.inl z)
      ·exact .inr (.inr z)
     obtain⟨u,r,l⟩:=hl i x v hN e2'' hv;refine⟨u,r,.inr ⟨?_,?_⟩⟩
     ·exact gM hfree
     ·rcases l with⟨z,_⟩ | ⟨_,c,ec,ic⟩
      ·rcases hk with z' | z' <;> rw[z']at z <;> cases z
      ·obtain⟨c',ec0⟩:=cl02 x hm
       have ec':cl.lookup x=some c':=(c3 x λz=>by have:=S.cel _ z rfl;rw[hfree]at this;cases this).trans ec0
       have:=cl01 x c' ec0;rw[ec]at this;cases this;obtain⟨o,ho,hd⟩:=ic;exact⟨c,ec',o,old _ _ ho,hd⟩
  ·rcases cl1 x c e with z | z
   ·obtain⟨v,o,ho,hd⟩:=I3.cell x c z
    exact⟨v,o,old _ _ ho,hd⟩
   ·exact⟨none,z.2⟩
  ·obtain⟨e,n,ne,nf,d⟩:=I3.pin p hp
   exact⟨old _ _ e,n,below _ _ e,stk _ ne nf,d⟩
  ·show(eY src σ).length=N'.length
   unfold eY;rw[JQ];exact S.len
 obtain⟨bG,bI,bE⟩:=block cl C s3 H3 fp
 have stat:∀{H':Hp},(∀b∈fp,H' b=none)->∀b∈fp,k7 (bw X scope cl N' C s3 H3 fp) pins H' b:=λhn b hb=>by
  obtain⟨o,eo,_⟩:=T.obj _ _ st3 b hb;exact⟨hn b hb,below b o eo,stk b (f3 b hb).2.1 (f3 b hb).2.2.1,.inl hb,apart b hb,(f3 b hb).2.2.2.2.2⟩
 have st4:tn 0 h₁:=T.keep _ _ _ st3 λb hb o e=>old b o e
 -- behind the block
 have after:∀(H':Hp) (s':JL) (σ':St),Inv (bw X scope cl N' C s3 H3 fp) pins σ' H' s'->Q (.ref D) H' →
   compPost (model X.prog X.w) X.A X.xe use Qf (.ref D) C (.ok .next) s':=λH' s' σ' I' q=>by
  obtain⟨m,hn,_⟩:=id I'.loc
  have fC:X.s₀.heap.objs.size<=C:=by rw[<-hC];exact I3.sz
  have ltC:∀b o,s3.heap.get? b=some o->b<C:=λb o e=>by rw[<-hC];exact JV e
  refine hend D C H' s' ⟨m,hn⟩ (λh' hsb=> ?_) ⟨I'.free,?_,fC,λx c e z=> ?_,λp hp z=> ?_⟩ q
  rotate_left
  ·have:=I3.lt;rw[hC]at this;exact LV this
  ·obtain⟨v,ic⟩:=I3.cell x c e
   have:=ic.lt;rw[hC,z]at this;exact Ki _ this
  ·have:=ltC _ _ (I3.pin p hp).1;rw[z]at this;exact Ki _ this
  have u:Un (qh X.stack) fp H3 H' s3.heap s'.heap:=I'.base
  have lift:∀b o,s3.heap.get? b=some o->∀o',s'.heap.get? b=some o'->h'.get? b=some o':=λb o e o' e'=>hsb.extBut b o' (below b o e) e'
  have u':Un (qh X.stack) fp H3 H' s3.heap h':=
   ⟨λb o e n hb hx=>lift b o e o (u.keep b o e n hb hx),λb o e n hb hx=>by
     obtain⟨sl,z⟩:=u.slot b o e n hb hx;exact⟨sl,lift b o e _ z⟩,u.free,λb o e hx=>by
     obtain⟨o',z⟩:=u.there b o e hx;exact⟨o',lift b o e _ z⟩,u.tups,u.frzs,u.tbls⟩
  have hCn:H' C=none:=I'.free
  have hok':HOk X.prog X.w H' h':=λb ob e=>by
   refine(I'.hok b ob e).IW (λc w' hc' q'=>(hsb.2 c ?_).trans q') (λ_ q=>q) λ_ _ q=>q
   rintro rfl
   rcases hc' with rfl | hc'
   ·rw[hCn]at e;cases e
   ·rw[hCn]at hc';cases hc'
  have I5:Inv X pins σ H' { s' with heap:=h' }:=I3.Jg (s':={ s' with heap:=h' }) (ch:=fp) I'.os u' hok' I'.bare λb hb=>⟨(f3 b hb).2.2.2.1,(f3 b hb).2.1,(f3 b hb).2.2.2.2.1,(f3 b hb).2.2.2.2.2⟩
  exact I5
 have loop:codeAny (model X.prog X.w) X.A (.compLoop (.ListComp elt [⟨tg,iter,ifs,0⟩] scope pos) 0 (.ref it) (.ref D) (compEnvC scope cl C X.env))
   (compPost (model X.prog X.w) X.A X.xe use Qf (.ref D) C) { s3 with heap:=h₁ }:=by
  refine qw (λn s'=> ∃i σ' ys H',Inv (bw X scope cl N' C s3 H3 fp) pins σ' H' s'/\tn i s'.heap/\(∀b∈fp,H' b=none)/\W i n σ' ys H') ?_ m0 ⟨0,_,[],H3,I4,st4,fr3,w0⟩
  rintro n s5 ⟨i,σ5,ys,H5,I5,st5,fr5,w5⟩
  obtain⟨hDl,alt⟩:=turn i n σ5 ys H5 w5;rcases alt with⟨stop,qn⟩ | ⟨go,hlen,step⟩
  ·refine bV (T.done (bw X scope cl N' C s3 H3 fp) rfl rfl rfl hc i pins s5 σ5 H5 _ I5 (stat fr5) st5 stop) λr s6 ⟨hr,I6⟩=> ?_
   subst hr;exact after H5 s6 σ5 I6 qn
  ·refine bV (T.item (bw X scope cl N' C s3 H3 fp) rfl rfl rfl hc i pins s5 σ5 H5 _ I5 (stat fr5) st5 go) λr s6 ⟨u,hr,h6⟩=> ?_
   subst hr;refine bV h6 λ_ s7 hh_=> ?_
   obtain⟨x,H7,I7,r7,y7,st7,fr7⟩:=hh_
   have I7':=I7.pinned (stat fr7) (T.obj _ _ st7);refine bV (bG _ s7 σ5 H7 x u _ I7' r7 (step x H7 y7)) λ_ s8 hh_=> ?_
   obtain⟨σ8,H8,I8,q8⟩:=hh_;refine bV (bI _ s8 σ8 H8 _ I8 q8) λok s9 hh_=> ?_
   obtain⟨H9,I9,q9⟩:=hh_
   have again:∀{σx:St} {Hx:Hp} {sx:JL} {ys':List V},Inv (bw X scope cl N' C s3 H3 fp) (pins++lQ fp s7.heap) σx Hx sx->(∃m',m'<n/\W (i+1) m' σx ys' Hx) →
     ∃m,m<n/\∃i σ' ys H',Inv (bw X scope cl N' C s3 H3 fp) pins σ' H' sx/\tn i sx.heap/\(∀b∈fp,H' b=none)/\W i m σ' ys H':=λ{σx Hx sx ys'} Ix nx=>by
    obtain⟨m',hm,wx⟩:=nx;refine⟨m',hm,i+1,σx,ys',Hx,Ix.IP,T.keep _ _ _ st7 λb hb o e=>(Ix.pin (b,o) (Kd _ (Kd _ (gu hb e)))).1,λb hb=> ?_,wx⟩
    obtain⟨o,e,d⟩:=T.obj _ _ st7 b hb;exact(Ix.pin (b,o) (Kd _ (Kd _ (gu hb e)))).2.1
   cases ok with
   | false=>
    rw[if_neg J3]at q9 ⊢
    exact again I9 q9
   | true=>
    rw[if_pos rfl]at q9 ⊢;refine bV (bE _ s9 σ8 H9 _ I9 q9) λv s10 hh_=> ?_
    obtain⟨y,H10,I10,r10,hD10,q10⟩:=hh_;refine bV (nS _ s10 σ8 H10 (.ref D) [y] (.ref D) [v] (λ_ H'=>H'=upd H10 D (.lst (ys++ [y]))) I10 rfl (.cons r10 .nil) ⟨D,ys,y,rfl,rfl,hD10,hlen,rfl⟩) λ_ s11 hh_=> ?_
    obtain⟨_,H11,I11,_,e11⟩:=hh_;subst e11;exact again I11 q10
 exact codeAny_compStart_list loop (T.self _ 0 _ _ _ st4 loop)
theorem za {elt tg iter:Expr}{ifs:List Expr}{scope:NR}{pos:Pos}{N':List Str}{src:List (Option Nat)}{wi:TI}{g:TG}{tc:TT}{te:TE}
  (hc:X.calm=true) (S:LcScope X scope N' src) (hi:PI X tg iter wi)
  (block:∀cl C s₀ H₀ fp,PG (bw X scope cl N' C s₀ H₀ fp) tg g/\wj (bw X scope cl N' C s₀ H₀ fp) ifs tc/\PE (bw X scope cl N' C s₀ H₀ fp) elt te)
  (hs:autoParam (∀x,KL iter X.env x=pure x) t_) :
  PE X (.ListComp elt [⟨tg,iter,ifs,0⟩] scope pos) (Gy X.K wi src g tc te):=by
 intro pins s σ H Q I h;rw[eval_ListComp];exact vG (use:=none) hc S hi block hs I h λD C H' s' ⟨m,hn⟩ inv _ q=>⟨m,hn,λh' hsb=>⟨.ref D,H',inv h' hsb,rfl,q⟩⟩
theorem Dr {elt tg iter:Expr}{ifs:List Expr}{scope:NR}{pos py spos:Pos}{N':List Str}{src:List (Option Nat)}{wi:TI}{g:TG}{tc:TT}{te:TE}{i:Nat}{y:Str}
  (hc:X.calm=true) (S:LcScope X scope N' src) (hi:PI X tg iter wi)
  (block:∀cl C s₀ H₀ fp,PG (bw X scope cl N' C s₀ H₀ fp) tg g/\wj (bw X scope cl N' C s₀ H₀ fp) ifs tc/\PE (bw X scope cl N' C s₀ H₀ fp) elt te)
  (hN:X.N.Nodup) (hiy:X.N[i]? =some y) (hy:Loc X.env.scope y) (hsw:Lz (.ListComp elt [⟨tg,iter,ifs,0⟩] scope pos) (some (.Name y py)) spos.line X.env=pure true)
  (hf:X.fn y=true\/X.env.scope.names.lookup y=some .local) (hs:autoParam (∀x,KL iter X.env x=pure x) t_) :
  PS X (.Assign [.Name y py] (.ListComp elt [⟨tg,iter,ifs,0⟩] scope pos) spos) (Bh (Gy X.K wi src g tc te) (Ad i)):=by
 intro pins s σ H D I h;rw[exec_Assign_Name_used _ _ _ _ hsw];refine JG (Rq (JG ?_))
 show wpAny (model X.prog X.w) X.A (do let _ <-comprehension (.ListComp elt [⟨tg,iter,ifs,0⟩] scope pos) scope X.env _ (newList []) false (eval iter X.env) (some (assign (.Name y py) X.env))) _ _ s
 refine JG (bV (vG (use:=some (assign (.Name y py) X.env)) (Qf:=λ_ s'=>SP X pins D .next s') (Q:=λv H'=>D.nx (σ.set i (some v)) H') hc S hi block hs I h λL C H' s' ⟨m,hn⟩ inv ⟨c0,c1,c2,c3,c4⟩ q=> ?_) λ_ s' hq=>JN (JN hq))
 have I0:Inv X pins σ H' s':=inv s'.heap (Heap.SameBut.refl ..)
 show wpAny (model X.prog X.w) X.A (assign (.Name y py) X.env (.ref L)) _ _ s'
 refine RW (nJ I0 hN hiy hy (v:=.ref L) rfl (λs2 I2 ⟨b,sb,hb⟩=> ?_) hf)
 have hbC:C≠b:=by
  rcases hb with z | z
  ·rw[z];exact c1
  ·exact λw=>c3 y b z w.symm
 refine⟨m,hn.sameBut sb hbC,λh' hsb=> ?_⟩
 exact⟨_,H',I2.turned (t':=s2.toks) (λb' o hb' e=>(hsb.2 b' hb').trans e) c0 c1 (.inr c2) c3 c4,q⟩
end
end L2
namespace Tr
open PySem PySem.Spec PyProof.Rows L2
def Gd (K:JH)(c:Str):Addr:=match ND K Kw c with
 | some (some (.ref C))=>C
 | _=>0
def DB:T->Option Key
 | .int i=>some (.inl i)
 | .str x=>some (.inr x)
 | _=>none
def my:List T->Option (List Key)
 | [] =>some []
 | t::l=>match DB t,my l with
  | some k,some r=>some (k::r)
  | _,_=>none
def keyOf:T->Option (List Key)
 | .tup l=>my l
 | _=>none
inductive Rs (α:Type) where
 | ok (a:α) | err (c:Str) | bad
def Rs.bind {α β:Type}(x:Rs α)(f:α->Rs β):Rs β:=match x with
 | .ok a=>f a
 | .err c=> .err c
 | .bad=> .bad
instance:Monad Rs where
 pure:=Rs.ok
 bind:=Rs.bind
@[simp] theorem aB {α β:Type} (a:α) (f:α->Rs β):(Rs.ok a >>= f)=f a:=rfl
@[simp] theorem Iw {α:Type} (a:α):(pure a:Rs α)=Rs.ok a:=rfl
@[simp] theorem Ie {α β:Type} (f:α->Rs β):((Rs.bad:Rs α) >>= f)= .bad:=rfl
@[simp] theorem HX {α β:Type} (c:Str) (f:α->Rs β):((Rs.err c:Rs α) >>= f)= .err c:=rfl
def ObN (O:Ow)(H:Hp)(a dx:Addr)(fs:List (Str×V)):Prop:=(¬O a/\¬ O dx/\H dx=some (.own a))/\∃as:List Addr,fs.map (·.2)=as.map V.ref/\a∉as/\dx∉as/\dx≠a/\as.Nodup/\(fs.map (·.1)).Nodup
mutual
def Rep (K:JH)(O:Ow)(H:Hp):T->V->Prop
 | .non,v=>v= .non
 | .bl b,v=>v= .bl b
 | .int i,v=>v= .int i
 | .str x,v=>v= .str x
 | .tup l,v=> ∃a vs,v= .ref a/\¬ O a/\H a=some (.tup vs)/\Reps K O H l vs
 | .lst l,v=> ∃a vs,v= .ref a/\¬ O a/\H a=some (.lst vs)/\Reps K O H l vs
 | .scr l,v=> ∃a,v= .ref a/\¬ O a/\SqL K H a (l.map V.int)
 | .dct ks ts,v=> ∃a kvs,v= .ref a/\¬ O a/\Rd H a (.dT kvs)/\ks.map keyOf=kvs.map (λp=>some p.1)/\Reps K O H ts (kvs.map (·.2))
 | .ob C ns ts,v=> ∃a dx fs,v= .ref a/\ObN O H a dx fs/\H a=some (.ins (Gd K C) dx fs)/\fs.map (·.1)=ns/\Reps K O H ts (fs.map (·.2))
def Reps (K:JH)(O:Ow)(H:Hp):List T->List V->Prop
 | [],vs=>vs= []
 | t::r,vs=> ∃v ws,vs=v::ws/\Rep K O H t v/\Reps K O H r ws
end
def SameO (P:Ow)(H H':Hp):Prop:=∀b o,H b=some o->¬ P b->H' b=some o
theorem SameO.of {P:Ow}{H H':Hp}(h:Same H H'):SameO P H H':=λb o e _=>h b o e
theorem Rd.Jh {P:Ow}{H H':Hp}{a:Addr}{u:HO}(h:SameO P H H')(n:¬ P a)(q:Rd H a u):Rd H' a u:=q.elim (λe=> .inl (h _ _ e n)) λ⟨o,e⟩=> .inr ⟨o,h _ _ e n⟩
theorem SqL.keep {K:JH}{P:Ow}{H H':Hp}{a:Addr}{vs:List V}(h:SameO P H H')(n:¬ P a)(q:SqL K H a vs):SqL K H' a vs:=by
 rcases q with(q | ⟨o,q⟩) | q
 ·exact .inl (.inl (h _ _ q n))
 ·exact .inl (.inr ⟨o,h _ _ q n⟩)
 ·exact .inr q
mutual
theorem Rep.keep {K:JH}{O P:Ow}{H H':Hp}(h:SameO P H H')(sub:∀a,P a->O a):∀{t:T} {v:V},Rep K O H t v->Rep K O H' t v
 | .non,_,r=>by unfold Rep at r ⊢;exact r
 | .bl _,_,r=>by unfold Rep at r ⊢;exact r
 | .int _,_,r=>by unfold Rep at r ⊢;exact r
 | .str _,_,r=>by unfold Rep at r ⊢;exact r
 | .tup l,_,r=>by
  unfold Rep at r ⊢;obtain⟨a,vs,e,n,q,z⟩:=r
  exact⟨a,vs,e,n,h _ _ q (λp=>n (sub a p)),Reps.keep h sub z⟩
 | .lst l,_,r=>by
  unfold Rep at r ⊢;obtain⟨a,vs,e,n,q,z⟩:=r
  exact⟨a,vs,e,n,h _ _ q (λp=>n (sub a p)),Reps.keep h sub z⟩
 | .scr l,_,r=>by
  unfold Rep at r ⊢;obtain⟨a,e,n,q⟩:=r
  exact⟨a,e,n,SqL.keep h (λp=>n (sub a p)) q⟩
 | .dct ks ts,_,r=>by
  unfold Rep at r ⊢;obtain⟨a,kvs,e,n,q,k,z⟩:=r
  exact⟨a,kvs,e,n,Rd.Jh h (λp=>n (sub a p)) q,k,Reps.keep h sub z⟩
 | .ob C ns ts,_,r=>by
  unfold Rep at r ⊢;obtain⟨a,dx,fs,e,n,q,k,z⟩:=r;exact⟨a,dx,fs,e,⟨⟨n.1.1,n.1.2.1,h _ _ n.1.2.2 λp=>n.1.2.1 (sub dx p)⟩,n.2⟩,h _ _ q (λp=>n.1.1 (sub a p)),k,Reps.keep h sub z⟩
theorem Reps.keep {K:JH}{O P:Ow}{H H':Hp}(h:SameO P H H')(sub:∀a,P a->O a):∀{l:List T} {vs:List V},Reps K O H l vs->Reps K O H' l vs
 | [],_,r=>by unfold Reps at r ⊢;exact r
 | t::l,_,r=>by
  unfold Reps at r ⊢;obtain⟨v,ws,e,p,q⟩:=r;exact⟨v,ws,e,Rep.keep h sub p,Reps.keep h sub q⟩
end
mutual
theorem Rep.less {K:JH}{O O':Ow}{H:Hp}(sub:∀a,O' a->O a):∀{t:T} {v:V},Rep K O H t v->Rep K O' H t v
 | .non,_,r=>by unfold Rep at r ⊢;exact r
 | .bl _,_,r=>by unfold Rep at r ⊢;exact r
 | .int _,_,r=>by unfold Rep at r ⊢;exact r
 | .str _,_,r=>by unfold Rep at r ⊢;exact r
 | .tup l,_,r=>by
  unfold Rep at r ⊢;obtain⟨a,vs,e,n,q,z⟩:=r
  exact⟨a,vs,e,λp=>n (sub a p),q,Reps.less sub z⟩
 | .lst l,_,r=>by
  unfold Rep at r ⊢;obtain⟨a,vs,e,n,q,z⟩:=r
  exact⟨a,vs,e,λp=>n (sub a p),q,Reps.less sub z⟩
 | .scr l,_,r=>by
  unfold Rep at r ⊢;obtain⟨a,e,n,z⟩:=r
  exact⟨a,e,λp=>n (sub a p),z⟩
 | .dct ks ts,_,r=>by
  unfold Rep at r ⊢;obtain⟨a,kvs,e,n,q,k,z⟩:=r
  exact⟨a,kvs,e,λp=>n (sub a p),q,k,Reps.less sub z⟩
 | .ob C ns ts,_,r=>by
  unfold Rep at r ⊢;obtain⟨a,dx,fs,e,n,q,k,z⟩:=r;exact⟨a,dx,fs,e,⟨⟨λp=>n.1.1 (sub a p),λp=>n.1.2.1 (sub dx p),n.1.2.2⟩,n.2⟩,q,k,Reps.less sub z⟩
theorem Reps.less {K:JH}{O O':Ow}{H:Hp}(sub:∀a,O' a->O a):∀{l:List T} {vs:List V},Reps K O H l vs->Reps K O' H l vs
 | [],_,r=>by unfold Reps at r ⊢;exact r
 | t::l,_,r=>by
  unfold Reps at r ⊢;obtain⟨v,ws,e,p,q⟩:=r;exact⟨v,ws,e,Rep.less sub p,Reps.less sub q⟩
end
section
variable {K:JH}{O:Ow}{H H':Hp}{t:T}{v:V}{l:List T}{vs:List V}
theorem Rep.same (h:Same H H')(r:Rep K O H t v):Rep K O H' t v:=Rep.keep (P:=λ_=>False) (SameO.of h) (λ_ z=>z.elim) r
theorem Reps.same (h:Same H H')(r:Reps K O H l vs):Reps K O H' l vs:=Reps.keep (P:=λ_=>False) (SameO.of h) (λ_ z=>z.elim) r
theorem Rep.Jl:Rep K O H .non .non:=by unfold Rep;rfl
theorem Rep.bl_ (b:Bool):Rep K O H (.bl b) (.bl b):=by unfold Rep;rfl
theorem Rep.GM (i:Int):Rep K O H (.int i) (.int i):=by unfold Rep;rfl
theorem Rep.JE (x:Str):Rep K O H (.str x) (.str x):=by unfold Rep;rfl
theorem Rep.Da:Rep K O H (.tup l) v↔ ∃a vs,v= .ref a/\¬ O a/\H a=some (.tup vs)/\Reps K O H l vs:=by unfold Rep;exact Oo
theorem Rep.Fk:Rep K O H (.lst l) v↔ ∃a vs,v= .ref a/\¬ O a/\H a=some (.lst vs)/\Reps K O H l vs:=by unfold Rep;exact Oo
theorem Rep.GE {ks ts:List T}:Rep K O H (.dct ks ts) v↔ ∃a kvs,v= .ref a/\¬ O a/\Rd H a (.dT kvs)/\ks.map keyOf=kvs.map (λp=>some p.1)/\Reps K O H ts (kvs.map (·.2)):=by unfold Rep;exact Oo
theorem Rep.Jf {C:Str}{ns:List Str}{ts:List T}:Rep K O H (.ob C ns ts) v↔ ∃a dx fs,v= .ref a/\ObN O H a dx fs/\H a=some (.ins (Gd K C) dx fs)/\fs.map (·.1)=ns/\Reps K O H ts (fs.map (·.2)):=by unfold Rep;exact Oo
theorem Rep.Do {i:Int}:Rep K O H (.int i) v↔v= .int i:=by unfold Rep;exact Oo
theorem Rep.FB {b:Bool}:Rep K O H (.bl b) v↔v= .bl b:=by unfold Rep;exact Oo
theorem Rep.GT {b:Str}:Rep K O H (.str b) v↔v= .str b:=by unfold Rep;exact Oo
theorem Rep.IM:Rep K O H .non v↔v= .non:=by unfold Rep;exact Oo
theorem Reps.II:Reps K O H [] []:=by unfold Reps;rfl
theorem Reps.FS (r:Rep K O H t v)(q:Reps K O H l vs):Reps K O H (t::l) (v::vs):=by unfold Reps;exact⟨v,vs,rfl,r,q⟩
theorem Reps.AC:Reps K O H [] vs↔vs= []:=by unfold Reps;exact Oo
theorem Reps.me:Reps K O H (t::l) vs↔ ∃v ws,vs=v::ws/\Rep K O H t v/\Reps K O H l ws:=by
 constructor
 ·intro h;unfold Reps at h;exact h
 ·intro h;unfold Reps;exact h
end
section
variable {K:JH}{O:Ow}{H H':Hp}
theorem Reps.length:∀{l:List T} {vs:List V},Reps K O H l vs->l.length=vs.length
 | [],vs,r=>by rw[Reps.AC.mp r];rfl
 | t::l,vs,r=>by
  obtain⟨v,ws,rfl,_,q⟩:=Reps.me.mp r;simp[q.length]
theorem Reps.get:∀{l:List T} {vs:List V} {i:Nat} {t:T},Reps K O H l vs->l[i]? =some t->∃v,vs[i]? =some v/\Rep K O H t v
 | [],_,_,_,_,e=>by simp at e
 | t::l,vs,i,u,r,e=>by
  obtain⟨v,ws,rfl,p,q⟩:=Reps.me.mp r
  cases i with
  | zero=>simp at e;subst e;exact⟨v,rfl,p⟩
  | succ i=>
   obtain⟨z,e1,e2⟩:=q.get (i:=i) (t:=u) (by simpa using e)
   exact⟨z,by simpa using e1,e2⟩
theorem Reps.append:∀{l m:List T} {vs ws:List V},Reps K O H l vs->Reps K O H m ws->Reps K O H (l++m) (vs++ws)
 | [],_,vs,_,r,s=>by rw[Reps.AC.mp r];exact s
 | t::l,m,vs,ws,r,s=>by
  obtain⟨v,us,rfl,p,q⟩:=Reps.me.mp r;exact Reps.FS p (q.append s)
theorem Reps.take:∀{l:List T} {vs:List V} (n:Nat),Reps K O H l vs->Reps K O H (l.take n) (vs.take n)
 | _,_,0,_=>Reps.II
 | [],vs,n+1,r=>by rw[Reps.AC.mp r];exact Reps.II
 | t::l,vs,n+1,r=>by
  obtain⟨v,us,rfl,p,q⟩:=Reps.me.mp r;exact Reps.FS p (q.take n)
theorem Reps.drop:∀{l:List T} {vs:List V} (n:Nat),Reps K O H l vs->Reps K O H (l.drop n) (vs.drop n)
 | _,_,0,r=>r
 | [],vs,n+1,r=>by rw[Reps.AC.mp r];exact Reps.II
 | t::l,vs,n+1,r=>by
  obtain⟨v,us,rfl,p,q⟩:=Reps.me.mp r;exact q.drop n
theorem Reps.ints:∀{ns:List Int},Reps K O H (ns.map T.int) (ns.map V.int)
 | [] =>Reps.II
 | n::r=>Reps.FS (Rep.GM n) Reps.ints
end
def RowsR (K:JH)(O:Ow)(H:Hp):List (List T×List T)->List Addr->Prop
 | [],as=>as= []
 | r::rs,as=> ∃b bs kvs,as=b::bs/\H b=some (.dT kvs)/\r.1.map keyOf=kvs.map (λp=>some p.1)/\Reps K O H r.2 (kvs.map (·.2))/\RowsR K O H rs bs
def LsR (K:JH)(O:Ow)(H:Hp):List (List T)->List Addr->Prop
 | [],as=>as= []
 | l::ls,as=> ∃b bs vs,as=b::bs/\H b=some (.lst vs)/\Reps K O H l vs/\LsR K O H ls bs
def ORep (K:JH)(O M:Ow)(H:Hp):OT->V->Prop
 | .lst l,v=> ∃a vs,v= .ref a/\(∀b,M b↔b=a)/\H a=some (.lst vs)/\Reps K O H l vs
 | .dct ks ts,v=> ∃a kvs,v= .ref a/\(∀b,M b↔b=a)/\H a=some (.dT kvs)/\ks.map keyOf=kvs.map (λp=>some p.1)/\Reps K O H ts (kvs.map (·.2))
 | .dd ks rows,v=> ∃a kvs as,v= .ref a/\(∀b,M b↔b=a\/b∈as)/\a∉as/\as.Nodup/\H a=some (.dT kvs)/\ks.map keyOf=kvs.map (λp=>some p.1)/\kvs.map (·.2)=as.map V.ref/\RowsR K O H rows as
 | .ob C ns ls,v=> ∃a dx as,v= .ref a/\(∀b,M b↔b=a\/b=dx\/b∈as)/\(a∉as/\dx∉as/\dx≠a/\as.Nodup)/\H a=some (.ins (Gd K C) dx (ns.zip (as.map V.ref)))/\H dx=some (.own a)/\ns.length=as.length/\ns.Nodup/\LsR K O H ls as
 | .ll ls,v=> ∃a as,v= .ref a/\(∀b,M b↔b=a\/b∈as)/\a∉as/\as.Nodup/\H a=some (.lst (as.map V.ref))/\LsR K O H ls as
inductive Sl where
 | em | va (t:T) | ow (o:OT)
abbrev En:=List Sl
def Mn.u (M:Mn):Ow:=λa=> ∃i,M i a
def isO:HO->Bool
 | .ins _ _ _=>true
 | .own _=>true
 | _=>false
def Mtb (H:Hp)(a:Addr):Prop:=(∃vs,H a=some (.lst vs))\/(∃kvs,H a=some (.dT kvs))\/∃o,H a=some o/\isO o=true
theorem Mtb.some {H:Hp}{a:Addr}(h:Mtb H a):∃o,H a=some o:=by
 rcases h with⟨_,e⟩ | ⟨_,e⟩ | ⟨_,e,_⟩ <;> exact⟨_,e⟩
theorem Mtb.at {H H':Hp}{a:Addr}(s:∀o,H a=La o->H' a=La o)(h:Mtb H a):Mtb H' a:=by
 rcases h with⟨vs,e⟩ | ⟨k,e⟩ | ⟨o,e,q⟩
 ·exact .inl ⟨vs,s _ e⟩
 ·exact .inr (.inl ⟨k,s _ e⟩)
 ·exact .inr (.inr ⟨o,s _ e,q⟩)
theorem Mtb.same {H H':Hp}(s:Same H H'){a:Addr}(h:Mtb H a):Mtb H' a:=h.at λo e=>s a o e
structure EnvM (K:JH)(O:Ow)(M:Mn)(H:Hp)(Z:En)(σ:L2.St):Prop where
 len:Z.length=σ.length
 val:∀(i:Nat) (t:T),Z[i]? =some (.va t)->∃v,σ[i]? =some (some v)/\Rep K O H t v
 own:∀(i:Nat) (o:OT),Z[i]? =some (.ow o)->∃v,σ[i]? =some (some v)/\ORep K O (M i) H o v
 sub:∀(i:Nat) (a:Addr),M i a->O a
 dis:∀(i j:Nat) (a:Addr),M i a->M j a->i=j
 trk:∀(a:Addr),O a->Mtb H a
theorem RowsR.same {K:JH}{O:Ow}{H H':Hp}(h:Same H H'):∀{rs:List (List T×List T)} {as:List Addr},RowsR K O H rs as->RowsR K O H' rs as
 | [],_,r=>r
 | _::_,_,⟨b,bs,kvs,e1,e2,e3,e4,e5⟩=>⟨b,bs,kvs,e1,h _ _ e2,e3,e4.same h,e5.same h⟩
theorem LsR.same {K:JH}{O:Ow}{H H':Hp}(h:Same H H'):∀{ls:List (List T)} {as:List Addr},LsR K O H ls as->LsR K O H' ls as
 | [],_,r=>r
 | _::_,_,⟨b,bs,vs,e1,e2,e3,e4⟩=>⟨b,bs,vs,e1,h _ _ e2,e3.same h,e4.same h⟩
theorem ORep.same {K:JH}{O M:Ow}{H H':Hp}(h:Same H H'){o:OT}{v:V}(r:ORep K O M H o v):ORep K O M H' o v:=by
 cases o with
 | lst l=>obtain⟨a,vs,e1,e2,e3,e4⟩:=r;exact⟨a,vs,e1,e2,h _ _ e3,e4.same h⟩
 | dct ks ts=>obtain⟨a,kvs,e1,e2,e3,e4,e5⟩:=r;exact⟨a,kvs,e1,e2,h _ _ e3,e4,e5.same h⟩
 | dd ks rows=>obtain⟨a,kvs,as,e1,e2,e3,e4,e5,e6,e7,e8⟩:=r;exact⟨a,kvs,as,e1,e2,e3,e4,h _ _ e5,e6,e7,e8.same h⟩
 | ob C ns ls=>obtain⟨a,dx,as,e1,e2,e3,e4,e5,e6,e7,e8⟩:=r;exact⟨a,dx,as,e1,e2,e3,h _ _ e4,h _ _ e5,e6,e7,e8.same h⟩
 | ll ls=>obtain⟨a,as,e1,e2,e3,e4,e5,e6⟩:=r;exact⟨a,as,e1,e2,e3,e4,h _ _ e5,e6.same h⟩
theorem EnvM.same {K:JH}{O:Ow}{M:Mn}{H H':Hp}{Z:En}{σ:L2.St}(h:Same H H')(e:EnvM K O M H Z σ):EnvM K O M H' Z σ where
 len:=e.len
 val:=λi t q=>let ⟨v,e1,e2⟩:=e.val i t q;⟨v,e1,e2.same h⟩
 own:=λi o q=>let ⟨v,e1,e2⟩:=e.own i o q;⟨v,e1,e2.same h⟩
 sub:=e.sub
 dis:=e.dis
 trk:=λa q=>(e.trk a q).same h
def EnvO (K:JH)(O:Ow)(H:Hp)(Z:En)(σ:L2.St):Prop:=∃M,EnvM K O M H Z σ
section
variable {K:JH}{O:Ow}{H H':Hp}{Z:En}{σ:L2.St}
theorem EnvO.val (e:EnvO K O H Z σ)(i:Nat)(t:T)(q:Z[i]? =some (.va t)):∃v,σ[i]? =some (some v)/\Rep K O H t v:=e.elim λ_ e=>e.val i t q
theorem EnvO.mtb (e:EnvO K O H Z σ):∀a,O a->Mtb H a:=e.elim λ_ e=>e.trk
theorem EnvO.trk (e:EnvO K O H Z σ)(a:Addr)(z:O a):∃o,H a=some o:=(e.mtb a z).some
theorem EnvO.same (h:Same H H')(e:EnvO K O H Z σ):EnvO K O H' Z σ:=e.elim λM e=>⟨M,e.same h⟩
theorem EnvO.fresh (e:EnvO K O H Z σ){p:Addr}(h:H p=none):¬ O p:=λz=>by
 obtain⟨o,q⟩:=e.trk p z;rw[h]at q;cases q
end
def IH (h:Heap)(C e:Addr):Option Addr->Prop
 | none=> ∃oe vs,h.get? e=some oe/\oe.cls= .ref C/\oe.data= .fields vs/\vs[1]? =some .none
 | some T=>T≠e/\∃oe vs,h.get? e=some oe/\oe.cls= .ref C/\oe.data= .fields vs/\vs[1]? =some (.ref T)/\∃oT ts,h.get? T=some oT/\oT.data= .fields ts/\ts[3]? =some .none
def RzP (X:Cx)(pins:List (Addr×Obj))(P:Ow)(H:Hp)(c:Str)(ev:JK)(s':JL):Prop:=
 ∃e T C σ' H',ev= .ref e/\X.mg c=some (.ref C)/\Inv X pins σ' H' s'/\SameO P H H'/\H' e=none/\(X.ex= []->X.s₀.heap.get? e=none)/\IH s'.heap C e T/\(∀t,T=some t->H' t=none/\(X.ex= []->X.s₀.heap.get? t=none))/\∀p∈X.pn++pins,p.1≠e/\T≠some p.1
def Nw (K:JH)(H:Hp):Ow:=λa=>H a=none/\K.lookup a=none
theorem gq {K:JH}{P:Ow}{H H1:Hp}(h:SameO P H H1){a:Addr}(n:Nw K H1 a):P a\/Nw K H a:=by
 by_cases hp:P a
 ·exact .inl hp
 ·refine .inr ⟨?_,n.2⟩
  cases q:H a with
  | none=>rfl
  | some o=>have:=h a o q hp;rw[n.1]at this;cases this
theorem SameO.trans {K:JH}{P P1:Ow}{H H1 H2:Hp}(h:SameO P H H1)(h1:SameO P1 H1 H2)(sub:∀a,P1 a->P a\/Nw K H a):SameO P H H2:=λb o e n=>
 h1 b o (h b o e n) λz=>(sub b z).elim n λw=>by rw[w.1]at e;cases e
def XA (X:Cx)(P:Ow)(H:Hp)(c:Str):Prop:=∀pins ev s',RzP X pins P H c ev s'->X.xe ev s'
theorem XA.later {X:Cx}{P P1:Ow}{H H1:Hp}{c:Str}(h:XA X P H c)(s:SameO P H H1)(sub:∀a,P1 a->P a\/Nw X.K H a):XA X P1 H1 c:=λpins ev s' ⟨e,T,C,σ',H',a1,a2,a3,a4,a5⟩=>
 h pins ev s' ⟨e,T,C,σ',H',a1,a2,a3,s.trans a4 sub,a5⟩
abbrev wY:Ow:=λ_=>False
def Post {α:Type}(X:Cx)(H:Hp)(r:Rs α)(k:α->Hp->Prop):Prop:=match r with
 | .ok t=> ∀H',Same H H'->k t H'
 | .err c=>XA X wY H c
 | .bad=>False
theorem Post.mono {α:Type}{X:Cx}{H:Hp}{r:Rs α}{k k':α->Hp->Prop}(h:Post X H r k)(f:∀t H',Same H H'->k t H'->k' t H'):Post X H r k':=by
 cases r with
 | ok t=>exact λH' s=>f t H' s (h H' s)
 | err c=>exact h
 | bad=>exact h
theorem Post.later {α:Type}{X:Cx}{H H1:Hp}{r:Rs α}{k:α->Hp->Prop}(h:Post X H r k)(s:Same H H1):Post X H1 r k:=by
 cases r with
 | ok t=>exact λH' s'=>h H' (s.trans s')
 | err c=>exact XA.later h (SameO.of s) λ_ z=>z.elim
 | bad=>exact h
theorem Post.bind {α β:Type}{X:Cx}{H:Hp}{r:Rs α}{f:α->Rs β}{k:β->Hp->Prop}(h:Post X H (r >>= f) k):Post X H r λt H'=>Post X H' (f t) k:=by
 cases r with
 | ok t=>exact λH' s=>Post.later h s
 | err c=>exact h
 | bad=>exact h
def tP (X:Cx)(f:En->Rs T):TE:=λσ H Q=> ∃Z O,EnvO X.K O H Z σ/\Post X H (f Z) λt H'=> ∀v,Rep X.K O H' t v->Q v H'
def tPA (X:Cx)(f:En->Rs (List T)):TA:=λσ H Q=> ∃Z O,EnvO X.K O H Z σ/\Post X H (f Z) λt H'=> ∀v,Reps X.K O H' t v->Q v H'
def xQ (X:Cx)(f:En->Rs Bool):TT:=λσ H Q=> ∃Z O,EnvO X.K O H Z σ/\Post X H (f Z) λb H'=>Q b H'
abbrev b7 (X:Cx)(e:Expr)(f:En->Rs T):Prop:=PE X e (tP X f)
abbrev qG (X:Cx)(e:List Expr)(f:En->Rs (List T)):Prop:=PA X e (tPA X f)
abbrev tH (X:Cx)(e:Expr)(f:En->Rs Bool):Prop:=PT X e (xQ X f)
theorem PE.imp {X:Cx}{e:Expr}{t t':TE}(h:PE X e t)(w:∀σ H Q,t' σ H Q->t σ H Q):PE X e t':=λpins s σ H Q I q=>h pins s σ H Q I (w σ H Q q)
theorem PA.imp {X:Cx}{e:List Expr}{t t':TA}(h:PA X e t)(w:∀σ H Q,t' σ H Q->t σ H Q):PA X e t':=λpos pins s σ H Q I q=>h pos pins s σ H Q I (w σ H Q q)
theorem PT.imp {X:Cx}{e:Expr}{t t':TT}(h:PT X e t)(w:∀σ H Q,t' σ H Q->t σ H Q):PT X e t':=λpins s σ H Q I q=>h pins s σ H Q I (w σ H Q q)
theorem PS.imp {X:Cx}{e:Stmt}{t t':TS}(h:PS X e t)(w:∀D σ H,t' D σ H->t D σ H):PS X e t':=λpins s σ H D I q=>h pins s σ H D I (w D σ H q)
theorem PSs.imp {X:Cx}{e:List Stmt}{t t':TS}(h:PSs X e t)(w:∀D σ H,t' D σ H->t D σ H):PSs X e t':=λpins s σ H D I q=>h pins s σ H D I (w D σ H q)
section
variable {X:Cx}
theorem aW {σ:L2.St}{H:Hp}{Z:En}{O:Ow}{α:Type}{f:En->Rs T}{k:T->Rs α}{Q:α->Hp->Prop}(E:EnvO X.K O H Z σ)(h:Post X H (f Z >>= k) Q) :
  tP X f σ H λv H'=> ∃t,Rep X.K O H' t v/\Same H H'/\EnvO X.K O H' Z σ/\Post X H' (k t) Q:=
 ⟨Z,O,E,Post.mono h.bind λt H' s q v r=>⟨t,r,s,E.same s,q⟩⟩
theorem dX {σ:L2.St}{H:Hp}{Z:En}{O:Ow}{α:Type}{f:En->Rs (List T)}{k:List T->Rs α}{Q:α->Hp->Prop}(E:EnvO X.K O H Z σ)(h:Post X H (f Z >>= k) Q) :
  tPA X f σ H λv H'=> ∃t,Reps X.K O H' t v/\Same H H'/\EnvO X.K O H' Z σ/\Post X H' (k t) Q:=
 ⟨Z,O,E,Post.mono h.bind λt H' s q v r=>⟨t,r,s,E.same s,q⟩⟩
theorem jF {σ:L2.St}{H:Hp}{Z:En}{O:Ow}{α:Type}{f:En->Rs Bool}{k:Bool->Rs α}{Q:α->Hp->Prop}(E:EnvO X.K O H Z σ)(h:Post X H (f Z >>= k) Q) :
  xQ X f σ H λb H'=>Same H H'/\EnvO X.K O H' Z σ/\Post X H' (k b) Q:=
 ⟨Z,O,E,Post.mono h.bind λt H' s q=>⟨s,E.same s,q⟩⟩
noncomputable def vr (i:Nat)(Z:En):Rs T:=match Z[i]? with
 | some (.va t)=> .ok t
 | _=> .bad
def cn (t:T)(_:En):Rs T:=.ok t
theorem GR (i:Nat){x:Str}{pos:Pos}(hN:autoParam (X.N[i]? =some x) u_)(hv:autoParam (xT X.env.scope x) v_)(hd:autoParam ((x == ("__debug__" : Str))=false) s_)
  (hcd:autoParam ((x == ("__classdict__" : Str))=false) s_):b7 X (.Name x pos) (vr i):=PE.imp (pC hN hv hd hcd) λσ H Q hh_=>by
 obtain⟨Z,O,E,h⟩:=hh_;unfold vr at h
 split at h
 ·rename_i t e
  obtain⟨v,e1,e2⟩:=E.val i t e;exact⟨v,e1,h H (Same.refl H) v e2⟩
 ·exact h.elim
theorem G0 {i j pos}:b7 X (.Constant (.int i) j pos) (cn (.int i)):=PE.imp EX λσ H Q ⟨Z,O,E,h⟩=>h H (Same.refl H) _ (Rep.GM i)
theorem q_bl {i j pos}:b7 X (.Constant (.bool i) j pos) (cn (.bl i)):=PE.imp Ha λσ H Q ⟨Z,O,E,h⟩=>h H (Same.refl H) _ (Rep.bl_ i)
theorem GW {j pos}:b7 X (.Constant .none j pos) (cn .non):=PE.imp EV λσ H Q ⟨Z,O,E,h⟩=>h H (Same.refl H) _ Rep.Jl
theorem EA {x:Str}{i:Int}{u:JK}{pos:Pos}(hm:X.mg x=some u)(r:RelV (.int i) u)(hg:autoParam (Gl X x) u_)(hd:autoParam ((x == ("__debug__" : Str))=false) s_):b7 X (.Name x pos) (cn (.int i)):=
 PE.imp (Cb hg hm r hd) λσ H Q ⟨Z,O,E,h⟩=>h H (Same.refl H) _ (Rep.GM i)
def aj (_:En):Rs (List T):=.ok []
def ae (f:En->Rs T)(g:En->Rs (List T))(Z:En):Rs (List T):=do
 let t <-f Z
 let r <-g Z
 .ok (t::r)
theorem Ez:qG X [] aj:=PA.imp lR λσ H Q ⟨Z,O,E,h⟩=>h H (Same.refl H) _ Reps.II
theorem BP {e:Expr}{es:List Expr}{f:En->Rs T}{g:En->Rs (List T)}(he:b7 X e f)(hr:qG X es g)(hs:autoParam (Kc (e::es) X.env=(false,eval e X.env)::Kc es X.env) u_):qG X (e::es) (ae f g):=by
 intro pos pins s σ H Q I h;obtain⟨Z,O,E,h⟩:=h;refine iF he hr hs pos pins s σ H Q I ?_
 obtain⟨Z1,O1,E1,h1⟩:=aW E h;refine⟨Z1,O1,E1,Post.mono h1 λt H' s q v r=> ?_⟩
 obtain⟨t',r',s',E',q'⟩:=q v r;refine⟨Z,O,E',Post.mono q'.bind λts H2 s2 q2 vs rs=> ?_⟩
 exact q2 H2 (Same.refl H2) _ (Reps.FS (r'.same s2) rs)
end
section
variable {X:Cx}
def hV (l:List T):Rs T:=if l.length<=sizeLine then .ok (.tup l)else .bad
def jf (l:List T):Rs T:=if l.length<=sizeLine then .ok (.lst l)else .bad
def br (f:En->Rs (List T))(Z:En):Rs T:=f Z >>= hV
def fD (f:En->Rs (List T))(Z:En):Rs T:=f Z >>= jf
theorem aU {H:Hp}{p:Addr}(h:H p=none)(o:HO):Same H (upd H p o):=λb u q=>by rw[aQ (bO q h)];exact q
theorem fj {K:JH}{O:Ow}{H:Hp}{p:Addr}{l:List T}{vs:List V}(h:H p=none)(n:¬ O p)(r:Reps K O H l vs):Rep K O (upd H p (.tup vs)) (.tup l) (.ref p):=
 Rep.Da.mpr ⟨p,vs,rfl,n,bc,r.same (aU h _)⟩
theorem gb {K:JH}{O:Ow}{H:Hp}{p:Addr}{l:List T}{vs:List V}(h:H p=none)(n:¬ O p)(r:Reps K O H l vs):Rep K O (upd H p (.lst vs)) (.lst l) (.ref p):=
 Rep.Fk.mpr ⟨p,vs,rfl,n,bc,r.same (aU h _)⟩
theorem GS {es:List Expr}{x1:Nat}{pos:Pos}{f:En->Rs (List T)}(h:qG X es f):b7 X (.Tuple es x1 pos) (br f):=by
 intro pins s σ H Q I ⟨Z,O,E,hq⟩;refine ES h pins s σ H Q I ?_
 obtain⟨Z1,O1,E1,h1⟩:=dX E hq;refine⟨Z1,O1,E1,Post.mono h1 λts H1 s1 q vs r=> ?_⟩
 obtain⟨t',r',s',E',q'⟩:=q vs r;unfold hV at q'
 split at q'
 ·rename_i hz
  refine⟨by rw[<-r'.length];exact hz,λp hp=> ?_⟩
  exact q' _ (aU hp _) _ (fj hp (E'.fresh hp) r')
 ·exact q'.elim
theorem GY {es:List Expr}{pos:Pos}{f:En->Rs (List T)}(h:qG X es f):b7 X (.List es pos) (fD f):=by
 intro pins s σ H Q I ⟨Z,O,E,hq⟩;refine EW h pins s σ H Q I ?_
 obtain⟨Z1,O1,E1,h1⟩:=dX E hq;refine⟨Z1,O1,E1,Post.mono h1 λts H1 s1 q vs r=> ?_⟩
 obtain⟨t',r',s',E',q'⟩:=q vs r;unfold jf at q'
 split at q'
 ·rename_i hz
  refine⟨by rw[<-r'.length];exact hz,λp hp=> ?_⟩
  exact q' _ (aU hp _) _ (gb hp (E'.fresh hp) r')
 ·exact q'.elim
def OpT (X:Cx)(f:JK->JK->Sem JK)(g:T->T->Rs T):Prop:=
 ∀(pins:List (Addr×Obj)) (s:JL) (σ:L2.St) (H:Hp) (O:Ow) (x y:T) (vx vy:V) (ux uy:JK) (Q:VK),Inv X pins σ H s->(∀p,H p=none->¬ O p)->Rep X.K O H x vx->Rep X.K O H y vy->RelV vx ux->RelV vy uy →
  Post X H (g x y) (λt H'=> ∀v,Rep X.K O H' t v->Q v H')->wpAny (model X.prog X.w) X.A (f ux uy) (EP X pins σ Q) X.xe s
def o2 (g:T->T->Rs T)(fa fb:En->Rs T)(Z:En):Rs T:=do
 let x <-fa Z
 let y <-fb Z
 g x y
variable {a b c:Expr}{fa fb fc:En->Rs T}{pos:Pos}
theorem G3 {op:Tb}{g:T->T->Rs T}(ho:OpT X (LZ op) g)(ha:b7 X a fa)(hb:b7 X b fb):b7 X (.BinOp a op b pos) (o2 g fa fb):=by
 intro pins s σ H Q I ⟨Z,O,E,hq⟩
 have h1:=aW E hq;refine wpAny_BinOp (bV (ha pins s σ H _ I h1) λv s1 hh_=> ?_)
 obtain⟨x,H1,I1,r1,t,rt,s',E',q1⟩:=hh_
 have h2:=aW (f:=fb) E' q1;refine bV (hb pins s1 σ H1 _ I1 h2) λu s2 hh_=> ?_
 obtain⟨y,H2,I2,r2,t2,rt2,s'',E'',q2⟩:=hh_;exact ho pins s2 σ H2 O t t2 x y v u Q I2 (λp=>E''.fresh) (rt.same s'') rt2 r1 r2 q2
theorem G2 {op:CmpOp}{g:T->T->Rs T}(ho:OpT X (KC op) g)(ha:b7 X a fa)(hb:b7 X b fb)(hm:autoParam (PZ op b=false) u_):b7 X (.Compare a [op] [b] pos) (o2 g fa fb):=by
 intro pins s σ H Q I ⟨Z,O,E,hq⟩
 have h1:=aW E hq;refine wpAny_Compare1 (bV (ha pins s σ H _ I h1) λv s1 ⟨x,H1,I1,r1,t,rt,s',E',q1⟩=> ?_) hm
 have h2:=aW (f:=fb) E' q1;refine bV (hb pins s1 σ H1 _ I1 h2) λu s2 hh_=> ?_
 obtain⟨y,H2,I2,r2,t2,rt2,s'',E'',q2⟩:=hh_;exact ho pins s2 σ H2 O t t2 x y v u Q I2 (λp=>E''.fresh) (rt.same s'') rt2 r1 r2 q2
theorem OpT.of {f:JK->JK->Sem JK}{r:R2}(h:nF X f r){g:T->T->Rs T}
  (w:∀(H:Hp) (O:Ow) (x y:T) (vx vy:V) (Q:VK),(∀p,H p=none->¬ O p)->Rep X.K O H x vx->Rep X.K O H y vy->Post X H (g x y) (λt H'=> ∀v,Rep X.K O H' t v->Q v H')->r vx vy H Q):OpT X f g:=
 λpins s σ H O x y vx vy ux uy Q I hf rx ry r1 r2 hp=>h pins s σ H vx vy ux uy Q I r1 r2 (w H O x y vx vy Q hf rx ry hp)
def jG:T->T->Rs T
 | .int i,.int j=> .ok (.int (i - j))
 | _,_=> .bad
theorem g7:OpT X (LZ .Sub) jG:=OpT.of E7 λH O x y vx vy Q hf rx ry hp=>by
 unfold jG at hp
 split at hp
 ·exact⟨_,_,Rep.Do.mp rx,Rep.Do.mp ry,hp H (Same.refl H) _ (Rep.GM _)⟩
 ·exact hp.elim
def jR:T->T->Rs T
 | .int i,.int j=>if 0<j/\j<1073741824 then .ok (.int (i / j))else .bad
 | _,_=> .bad
def jN:T->T->Rs T
 | .int i,.int j=>if 0<j then .ok (.int (i % j))else .bad
 | _,_=> .bad
theorem la:OpT X (LZ .FloorDiv) jR:=OpT.of Cg λH O x y vx vy Q hf rx ry hp=>by
 unfold jR at hp
 split at hp
 ·split at hp
  ·rename_i h
   exact⟨_,_,Rep.Do.mp rx,Rep.Do.mp ry,h,hp H (Same.refl H) _ (Rep.GM _)⟩
  ·exact hp.elim
 ·exact hp.elim
theorem jo:OpT X (LZ .Mod) jN:=OpT.of Fb λH O x y vx vy Q hf rx ry hp=>by
 unfold jN at hp
 split at hp
 ·split at hp
  ·rename_i h
   exact⟨_,_,Rep.Do.mp rx,Rep.Do.mp ry,h,hp H (Same.refl H) _ (Rep.GM _)⟩
  ·exact hp.elim
 ·exact hp.elim
theorem zh:nF X (LZ .Add) (λx y H Q=> ∃a b ys,x= .ref a/\y= .ref b/\SqT X.K H a []/\SqT X.K H b ys/\Q (.ref b) H):=by
 intro pins s σ H x y v u Q I rx ry h;obtain⟨a,b,ys,rfl,rfl,ha,hb,q⟩:=h;cases rx;cases ry;obtain⟨its,r1,p1,_⟩:=I.tuple ha;obtain⟨its2,r2,p2,_⟩:=I.tuple hb;obtain⟨⟨cls,dd,data,sl⟩,ho,hc,n,hd⟩:=id p1;obtain⟨⟨cls2,dd2,data2,sl2⟩,ho2,hc2,n2,hd2⟩:=id p2;simp only at hc hd hc2 hd2;subst hc hd hc2 hd2
 have e:its= []:=by cases r1;rfl
 subst e;exact HT_concat0 ho ho2 ⟨.ref b,H,I,rfl,q⟩
where
 HT_concat0 {prog:J9} {w:Kx} {A:Km} {E:JK->JL->Prop} {s:JL} {t b:Addr} {ws:Array JK} {n n2:Nat} {dd dd2:Option Addr} {sl sl2:Array (Option JK)} {Q:JK->JL->Prop}
   (ho:s.heap.get? t=some { cls:=.type "tuple",dict:=dd,data:=.seq (([]:List JK).toArray) n,slots:=sl }) (ho2:s.heap.get? b=some { cls:=.type "tuple",dict:=dd2,data:=.seq ws n2,slots:=sl2 }) (h:Q (.ref b) s) :
   wpAny (model prog w) A (LZ .Add (.ref t) (.ref b)) Q E s:=
  Si ⟨_,ho,rfl⟩ ⟨_,ho2,rfl⟩ Qb Rt NT NH (NC _ _)
   (tuple_addW0 t b _ _ n n2 dd dd2 sl sl2 (by simp)) ⟨ho,ho2,h⟩
def aY:T->T->Rs T
 | .int i,.int j=> .ok (.int (i+j))
 | .str i,.str j=>if i.length+j.length<=sizeLine then .ok (.str (i++j))else .bad
 | .tup l,.tup m=>hV (l++m)
 | .lst l,.lst m=>jf (l++m)
 | _,_=> .bad
theorem aV:OpT X (LZ .Add) aY:=by
 intro pins s σ H O x y vx vy ux uy Q I hf rx ry r1 r2 hp;unfold aY at hp
 split at hp
 ·exact Fe pins s σ H vx vy ux uy Q I r1 r2 ⟨_,_,Rep.Do.mp rx,Rep.Do.mp ry,hp H (Same.refl H) _ (Rep.GM _)⟩
 ·split at hp
  ·rename_i h
   exact ud pins s σ H vx vy ux uy Q I r1 r2 ⟨_,_,Rep.GT.mp rx,Rep.GT.mp ry,h,hp H (Same.refl H) _ (Rep.JE _)⟩
  ·exact hp.elim
 ·rename_i l m
  unfold hV at hp
  split at hp
  ·rename_i h
   obtain⟨a,vs,e1,n1,q1,z1⟩:=Rep.Da.mp rx;obtain⟨b,ws,e2,n2,q2,z2⟩:=Rep.Da.mp ry
   have hl1:=z1.length
   have hl2:=z2.length;rw[JZ]at h
   cases vs with
   | nil=>
    have e:l= []:=by cases l with
     | nil=>rfl
     | cons _ _=>simp at hl1
    subst e
    exact zh pins s σ H vx vy ux uy Q I r1 r2 ⟨a,b,ws,e1,e2,SqT.of q1,SqT.of q2,hp H (Same.refl H) _ (Rep.Da.mpr ⟨b,ws,rfl,n2,q2,z2⟩)⟩
   | cons v0 vr=>
    refine Ci pins s σ H vx vy ux uy Q I r1 r2 ⟨a,b,v0::vr,ws,e1,e2,SqT.of q1,SqT.of q2,by simp,by omega,λhw=> ?_,λ_ p hpn=> ?_⟩
    ·subst hw
     have e:m= []:=by cases m with
      | nil=>rfl
      | cons _ _=>simp at hl2
     subst e;rw[LW]at hp;exact hp H (Same.refl H) _ (Rep.Da.mpr ⟨a,_,rfl,n1,q1,z1⟩)
    ·exact hp _ (aU hpn _) _ (fj hpn (hf p hpn) (z1.append z2))
  ·exact hp.elim
 ·rename_i l m
  unfold jf at hp
  split at hp
  ·rename_i h
   obtain⟨a,vs,e1,n1,q1,z1⟩:=Rep.Fk.mp rx;obtain⟨b,ws,e2,n2,q2,z2⟩:=Rep.Fk.mp ry
   have hl1:=z1.length
   have hl2:=z2.length;rw[JZ]at h;exact Fd pins s σ H vx vy ux uy Q I r1 r2 ⟨a,b,vs,ws,e1,e2,q1,q2,by omega,λp hpn=>hp _ (aU hpn _) _ (gb hpn (hf p hpn) (z1.append z2))⟩
  ·exact hp.elim
 ·exact hp.elim
def uo:T->T->Rs T
 | .int i,.int j=>if (-(2 ^ 64)<i/\i<2 ^ 64)\/(-(2 ^ 64)<j/\j<2 ^ 64)then .ok (.int (i*j))else .bad
 | .lst l,.int k=>if -(2 ^ 63)<=k/\k<2 ^ 63/\l.length*k.toNat<=sizeLine then .ok (.lst (Ke k.toNat l).flatten)else .bad
 | _,_=> .bad
theorem Reps.rep {K:JH}{O:Ow}{H:Hp}{l:List T}{vs:List V}(h:Reps K O H l vs):∀k:Nat,Reps K O H (Ke k l).flatten (Ke k vs).flatten
 | 0=>Reps.II
 | k+1=>by rw[LI,LI,Mz,Mz];exact h.append (h.rep k)
theorem EZ:OpT X (LZ .Mult) uo:=by
 intro pins s σ H O x y vx vy ux uy Q I hf rx ry r1 r2 hp;unfold uo at hp
 split at hp
 ·split at hp
  ·rename_i h
   exact E9 pins s σ H vx vy ux uy Q I r1 r2 ⟨_,_,Rep.Do.mp rx,Rep.Do.mp ry,h,hp H (Same.refl H) _ (Rep.GM _)⟩
  ·exact hp.elim
 ·split at hp
  ·rename_i l k h
   obtain⟨a,vs,e1,n1,q1,z1⟩:=Rep.Fk.mp rx
   have hl1:=z1.length;exact E8 pins s σ H vx vy ux uy Q I r1 r2 ⟨a,k,vs,e1,Rep.Do.mp ry,q1,h.1,h.2.1,by rw[<-hl1];exact h.2.2,λp hpn=>hp _ (aU hpn _) _ (gb hpn (hf p hpn) (z1.rep _))⟩
  ·exact hp.elim
 ·exact hp.elim
def pW:T->Rs T
 | .int i=> .ok (.int (-i))
 | _=> .bad
def o1 (g:T->Rs T)(fa:En->Rs T)(Z:En):Rs T:=fa Z >>= g
theorem GX (ha:b7 X a fa):b7 X (.UnaryOp .USub a pos) (o1 pW fa):=by
 intro pins s σ H Q I ⟨Z,O,E,hq⟩;refine G8 DU ha pins s σ H Q I ?_
 obtain⟨Z1,O1,E1,h1⟩:=aW E hq;refine⟨Z1,O1,E1,Post.mono h1 λts H1 s1 q vs r=> ?_⟩
 obtain⟨t',r',s',E',q'⟩:=q vs r;unfold pW at q'
 split at q'
 ·exact⟨_,Rep.Do.mp r',q' H1 (Same.refl H1) _ (Rep.GM _)⟩
 ·exact q'.elim
def sV (p:Int->Int->Bool):T->T->Rs T
 | .int i,.int j=> .ok (.bl (p i j))
 | _,_=> .bad
theorem lb {op:CmpOp}{p:Int->Int->Bool}(h:nF X (KC op) (BA λi j=> .bl (p i j))):OpT X (KC op) (sV p):=OpT.of h λH O x y vx vy Q hf rx ry hp=>by
 unfold sV at hp
 split at hp
 ·exact⟨_,_,Rep.Do.mp rx,Rep.Do.mp ry,hp H (Same.refl H) _ (Rep.bl_ _)⟩
 ·exact hp.elim
abbrev Cp:=sV λi j=>decide (i<j)
abbrev Cu:=sV λi j=>decide (i<=j)
abbrev Gm:=sV λi j=>decide (j<i)
abbrev geT:=sV λi j=>decide (j<=i)
theorem rF:OpT X (KC .Lt) Cp:=lb Hd
theorem rG:OpT X (KC .LtE) Cu:=lb He
theorem vn:OpT X (KC .Gt) Gm:=lb Hf
theorem Hb:OpT X (KC .GtE) geT:=lb Hg
def T.isN:T->Bool
 | .non=>true
 | _=>false
theorem Rep.isN {K:JH}{O:Ow}{H:Hp}{t:T}{v:V}(r:Rep K O H t v):decide (v= .non)=t.isN:=by
 cases t with
 | non=>rw[Rep.IM.mp r];rfl
 | bl _=>rw[Rep.FB.mp r];rfl
 | int _=>rw[Rep.Do.mp r];rfl
 | str _=>rw[Rep.GT.mp r];rfl
 | tup _=>obtain⟨a,vs,e,_⟩:=Rep.Da.mp r;rw[e];rfl
 | lst _=>obtain⟨a,vs,e,_⟩:=Rep.Fk.mp r;rw[e];rfl
 | scr _=>unfold Rep at r;obtain⟨a,e,_⟩:=r;rw[e];rfl
 | dct _ _=>obtain⟨a,_,e,_⟩:=Rep.GE.mp r;rw[e];rfl
 | ob _ _ _=>obtain⟨a,_,_,e,_⟩:=Rep.Jf.mp r;rw[e];rfl
def jQ:T->T->Rs T
 | x,.non=> .ok (.bl x.isN)
 | _,_=> .bad
def kH:T->T->Rs T
 | x,.non=> .ok (.bl (!x.isN))
 | _,_=> .bad
theorem lT:OpT X (KC .Is) jQ:=OpT.of Fc λH O x y vx vy Q hf rx ry hp=>by
 unfold jQ at hp
 split at hp
 ·exact⟨Rep.IM.mp ry,hp H (Same.refl H) _ (by rw[rx.isN];exact Rep.bl_ _)⟩
 ·exact hp.elim
theorem lS:OpT X (KC .IsNot) kH:=OpT.of Cf λH O x y vx vy Q hf rx ry hp=>by
 unfold kH at hp
 split at hp
 ·exact⟨Rep.IM.mp ry,hp H (Same.refl H) _ (by rw[rx.isN];exact Rep.bl_ _)⟩
 ·exact hp.elim
end
end Tr
namespace Tr
open PySem PySem.Spec PyProof.Rows L2
open PySem.SeqAt
mutual
def ReV (s:JL):T->JK->Prop
 | .non,u=>u= .none
 | .bl b,u=>u= .bool b
 | .int i,u=> ∃t,u= .int i t
 | .str x,u=> ∃t,u= .str x t
 | .tup l,u=> ∃a its,u= .ref a/\s.heap.IsTuple a (Sb its)/\ReVs s l its
 | .lst l,u=> ∃a its,u= .ref a/\s.heap.IsList a (Sb its)/\ReVs s l its
 | .scr l,u=> ∃a its,u= .ref a/\s.heap.IsList a (Sb its)/\Lj its l
 | .dct _ _,_=>False
 | .ob _ _ _,_=>False
def ReVs (s:JL):List T->List JK->Prop
 | [],us=>us= []
 | t::r,us=> ∃u ws,us=u::ws/\ReV s t u/\ReVs s r ws
end
theorem ReVs.AC {s:JL}{us:List JK}:ReVs s [] us↔us= []:=by unfold ReVs;exact Oo
theorem ReVs.me {s:JL}{t:T}{l:List T}{us:List JK}:ReVs s (t::l) us↔ ∃u ws,us=u::ws/\ReV s t u/\ReVs s l ws:=by
 constructor
 ·intro h;unfold ReVs at h;exact h
 ·intro h;unfold ReVs;exact h
theorem ReVs.length {s:JL}:∀{l:List T} {us:List JK},ReVs s l us->l.length=us.length
 | [],us,r=>by rw[ReVs.AC.mp r];rfl
 | t::l,us,r=>by
  obtain⟨v,ws,rfl,_,q⟩:=ReVs.me.mp r;simp[q.length]
theorem ReVs.get {s:JL}:∀{l:List T} {us:List JK} {i:Nat} {t:T},ReVs s l us->l[i]? =some t->∃v,us[i]? =some v/\ReV s t v
 | [],_,_,_,_,e=>by simp at e
 | t::l,vs,i,u,r,e=>by
  obtain⟨v,ws,rfl,p,q⟩:=ReVs.me.mp r
  cases i with
  | zero=>simp at e;subst e;exact⟨v,rfl,p⟩
  | succ i=>
   obtain⟨z,e1,e2⟩:=q.get (i:=i) (t:=u) (by simpa using e)
   exact⟨z,by simpa using e1,e2⟩
mutual
def T.nd:T->Bool
 | .dct _ _=>false
 | .ob _ _ _=>false
 | .tup l=>nds l
 | .lst l=>nds l
 | _=>true
def nds:List T->Bool
 | [] =>true
 | t::l=>t.nd&&nds l
end
theorem rW {t:T}{l:List T}(h:nds (t::l)=true):t.nd=true/\nds l=true:=by unfold nds at h;exact L4.mp h
section
variable {X:Cx}{pins:List (Addr×Obj)}{σ:L2.St}{H:Hp}{s:JL}{O:Ow}
mutual
theorem Rep.val (I:Inv X pins σ H s):∀{t:T} {v:V} {u:JK},t.nd=true->Rep X.K O H t v->RelV v u->ReV s t u
 | .non,v,u,hn,r,q=>by cases Rep.IM.mp r;unfold ReV;exact q
 | .bl b,v,u,hn,r,q=>by cases Rep.FB.mp r;unfold ReV;exact q
 | .int b,v,u,hn,r,q=>by cases Rep.Do.mp r;unfold ReV;exact q
 | .str b,v,u,hn,r,q=>by cases Rep.GT.mp r;unfold ReV;exact q
 | .tup l,v,u,hn,r,q=>by
  obtain⟨a,vs,rfl,_,z,w⟩:=Rep.Da.mp r;cases q;obtain⟨its,rv,p,_⟩:=I.tuple (SqT.of z);unfold ReV
  exact⟨a,its,rfl,p,Reps.val I (by unfold T.nd at hn;exact hn) w rv⟩
 | .lst l,v,u,hn,r,q=>by
  obtain⟨a,vs,rfl,_,z,w⟩:=Rep.Fk.mp r;cases q;obtain⟨its,rv,p,_⟩:=I.list (SqL.of z);unfold ReV
  exact⟨a,its,rfl,p.isList,Reps.val I (by unfold T.nd at hn;exact hn) w rv⟩
 | .scr l,v,u,hn,r,q=>by
  unfold Rep at r;obtain⟨a,rfl,_,z⟩:=r;cases q;obtain⟨its,rv,p,_⟩:=I.list z;unfold ReV
  exact⟨a,its,rfl,p.isList,uB rv⟩
 | .dct _ _,v,u,hn,r,q=>by cases hn
 | .ob _ _ _,v,u,hn,r,q=>by cases hn
theorem Reps.val (I:Inv X pins σ H s):∀{l:List T} {vs:List V} {us:List JK},nds l=true->Reps X.K O H l vs->Vals vs us->ReVs s l us
 | [],vs,us,hn,r,q=>by
  cases Reps.AC.mp r;cases q
  exact ReVs.AC.mpr rfl
 | t::l,vs,us,hn,r,q=>by
  obtain⟨v,ws,rfl,p,z⟩:=Reps.me.mp r
  cases q with
  | cons q1 q2=>exact ReVs.me.mpr ⟨_,_,rfl,Rep.val I (rW hn).1 p q1,Reps.val I (rW hn).2 z q2⟩
end
end
mutual
def T.dep:T->Nat
 | .tup l=>deps l+1
 | .lst l=>deps l+1
 | .scr _=>1
 | _=>0
def deps:List T->Nat
 | [] =>0
 | t::l=>max t.dep (deps l)
end
def C3 (i:Int):T->Bool
 | .int j=>i == j
 | .bl b=>i == (if b then 1 else 0)
 | _=>false
def ji:List Int->List T->Bool
 | [],[] =>true
 | i::r,t::l=>C3 i t&&ji r l
 | _,_=>false
mutual
def aM:T->T->Bool
 | .non,.non=>true
 | .bl a,.bl b=>a == b
 | .bl a,.int b=>(if a then 1 else 0) == b
 | .int a,.bl b=>a == (if b then 1 else 0)
 | .int a,.int b=>a == b
 | .str a,.str b=>a == b
 | .tup l,.tup m=>beqTs l m
 | .lst l,.lst m=>beqTs l m
 | .lst l,.scr m=>beqTs l (m.map .int)
 | .scr l,.lst m=>ji l m
 | .scr l,.scr m=>l == m
 | _,_=>false
def beqTs:List T->List T->Bool
 | [],[] =>true
 | t::l,u::m=>aM t u&&beqTs l m
 | _,_=>false
end
theorem mS (n:Nat)(e:Nat->Bool):(J2 (n+1)).all e=(e 0&&(J2 n).all λj=>e (j+1)):=by
 rw[Qd,Rg,List.all_map];rfl
theorem kC:∀(l m:List T) (e:Nat->Bool),(∀(j:Nat) t u,l[j]? =some t->m[j]? =some u->e j=aM t u) →
  beqTs l m=((J2 (min l.length m.length)).all e&&l.length == m.length)
 | [],[],_,_=>by simp[beqTs]
 | [],_::_,_,_=>by simp[beqTs]
 | _::_,[],_,_=>by simp[beqTs]
 | t::l,u::m,e,h=>by
  have ih:=kC l m (λj=>e (j+1)) λj t' u' h1 h2=>h (j+1) t' u' (by simpa using h1) (by simpa using h2)
  rw[beqTs,ih]
  have h0:=h 0 t u rfl rfl;simp only[JR];rw[Nat.succ_min_succ,mS,h0,Bool.and_assoc]
  congr 2
  simp
theorem oG:∀{l m:List T},l.length≠m.length->beqTs l m=false
 | [],[],h=>absurd rfl h
 | [],_::_,_=>by simp[beqTs]
 | _::_,[],_=>by simp[beqTs]
 | t::l,u::m,h=>by
  rw[beqTs,oG (l:=l) (m:=m) (by intro z;exact h (by simp[z]))]
  simp
theorem ip:∀{l:List T} {i:Nat} {t:T},l[i]? =some t->t.dep<=deps l
 | [],_,_,e=>by simp at e
 | t::l,0,u,e=>by simp at e;subst e;unfold deps;exact Nat.le_max_left _ _
 | t::l,i+1,u,e=>by
  have:=ip (l:=l) (i:=i) (t:=u) (by simpa using e)
  unfold deps;exact Kf this (Nat.le_max_right _ _)
theorem ib {s:JL}{a:Addr}{x y:List JK}(h:s.heap.IsTuple a x.toArray)(h':s.heap.IsTuple a y.toArray):x=y:=by
 obtain⟨o,e,_,n,d⟩:=h;obtain⟨o',e',_,n',d'⟩:=h';rw[e]at e';cases e';rw[d]at d';injection d' with d1 _
 simpa using congrArg Pe d1
theorem cu {s:JL}{a:Addr}{x y:List JK}(h:s.heap.IsList a x.toArray)(h':s.heap.IsList a y.toArray):x=y:=by
 obtain⟨o,e,_,n,d⟩:=h;obtain⟨o',e',_,n',d'⟩:=h';rw[e]at e';cases e';rw[d]at d';injection d' with d1 _
 simpa using congrArg Pe d1
theorem xK {s:JL}{i:Int}{t:T}{k:Tok}(r:ReV s t (.int i k)):C3 i t=true:=by
 cases t with
 | non=>unfold ReV at r;cases r
 | bl b=>unfold ReV at r;cases r
 | int j=>unfold ReV at r;obtain⟨t,e⟩:=r;injection e with e1 _;subst e1;simp[C3]
 | str x=>unfold ReV at r;obtain⟨t,e⟩:=r;cases e
 | tup l=>unfold ReV at r;obtain⟨a,its,e,_⟩:=r;cases e
 | lst l=>unfold ReV at r;obtain⟨a,its,e,_⟩:=r;cases e
 | scr l=>unfold ReV at r;obtain⟨a,its,e,_⟩:=r;cases e
 | dct _ _=>unfold ReV at r;exact r.elim
 | ob _ _ _=>unfold ReV at r;exact r.elim
theorem mQ {s:JL}:∀{ns:List Int} {us:List JK} {l:List T},Lj us ns->ReVs s l us->ji ns l=true
 | [],us,l,h,r=>by
  cases h
  cases l with
  | nil=>rfl
  | cons t l=>obtain⟨_,_,e,_⟩:=ReVs.me.mp r;cases e
 | n::ns,us,l,h,r=>by
  cases h with
  | cons a b hh=>
   cases l with
   | nil=>have:=ReVs.AC.mp r;cases this
   | cons t l=>
    obtain⟨u,ws,e,p,q⟩:=ReVs.me.mp r;injection e with e1 e2
    subst e1 e2;rw[ji,xK p,mQ hh q];rfl
theorem dk {s:JL}:∀{us:List JK} {ns:List Int},Lj us ns->ReVs s (ns.map T.int) us
 | _,_,.nil=>ReVs.AC.mpr rfl
 | _,_,.cons n t h=>ReVs.me.mpr ⟨_,_,rfl,by unfold ReV;exact⟨_,rfl⟩,dk h⟩
theorem ie:∀{us:List JK} {ns ms:List Int},Lj us ns->Lj us ms->ns=ms
 | _,_,_,.nil,.nil=>rfl
 | _,_,_,.cons n t h,.cons _ _ h'=>by rw[ie h h']
mutual
theorem ReV.refl {s:JL}:∀{t u:T} {v:JK},ReV s t v->ReV s u v->aM t u=true
 | .non,u,v,r,q=>by
  unfold ReV at r;subst r
  cases u <;> (unfold ReV at q) <;> first | rfl | (cases q;done) | (obtain⟨_,e⟩:=q;cases e;done) | (obtain⟨_,_,e,_⟩:=q;cases e;done)
 | .bl b,u,v,r,q=>by
  unfold ReV at r;subst r
  cases u <;> (unfold ReV at q) <;> first | (cases q;done) | (cases q;simp[aM];done) | (obtain⟨_,e⟩:=q;cases e;done) | (obtain⟨_,_,e,_⟩:=q;cases e;done)
 | .int b,u,v,r,q=>by
  unfold ReV at r;obtain⟨k,rfl⟩:=r
  cases u <;> (unfold ReV at q) <;> first | (cases q;done) | (obtain⟨_,e⟩:=q;cases e;simp[aM];done) | (obtain⟨_,e⟩:=q;cases e;done) | (obtain⟨_,_,e,_⟩:=q;cases e;done)
 | .str b,u,v,r,q=>by
  unfold ReV at r;obtain⟨k,rfl⟩:=r
  cases u <;> (unfold ReV at q) <;> first | (cases q;done) | (obtain⟨_,e⟩:=q;cases e;simp[aM];done) | (obtain⟨_,e⟩:=q;cases e;done) | (obtain⟨_,_,e,_⟩:=q;cases e;done)
 | .tup l,u,v,r,q=>by
  unfold ReV at r;obtain⟨a,its,rfl,h1,h2⟩:=r
  cases u with
  | non=>unfold ReV at q;cases q
  | dct _ _=>unfold ReV at q;exact q.elim
  | ob _ _ _=>unfold ReV at q;exact q.elim
  | bl _=>unfold ReV at q;cases q
  | int _=>unfold ReV at q;obtain⟨_,e⟩:=q;cases e
  | str _=>unfold ReV at q;obtain⟨_,e⟩:=q;cases e
  | tup m=>
   unfold ReV at q;obtain⟨a',its',e,h1',h2'⟩:=q;injection e with e;subst e
   have:=ib h1 h1';subst this;unfold aM
   exact ReVs.refl h2 h2'
  | lst m=>unfold ReV at q;obtain⟨a',its',e,h1',h2'⟩:=q;injection e with e;subst e;exact absurd rfl (ne_of_list_tuple h1' h1)
  | scr m=>unfold ReV at q;obtain⟨a',its',e,h1',h2'⟩:=q;injection e with e;subst e;exact absurd rfl (ne_of_list_tuple h1' h1)
 | .lst l,u,v,r,q=>by
  unfold ReV at r;obtain⟨a,its,rfl,h1,h2⟩:=r
  cases u with
  | non=>unfold ReV at q;cases q
  | dct _ _=>unfold ReV at q;exact q.elim
  | ob _ _ _=>unfold ReV at q;exact q.elim
  | bl _=>unfold ReV at q;cases q
  | int _=>unfold ReV at q;obtain⟨_,e⟩:=q;cases e
  | str _=>unfold ReV at q;obtain⟨_,e⟩:=q;cases e
  | lst m=>
   unfold ReV at q;obtain⟨a',its',e,h1',h2'⟩:=q;injection e with e;subst e
   have:=cu h1 h1';subst this;unfold aM
   exact ReVs.refl h2 h2'
  | tup m=>unfold ReV at q;obtain⟨a',its',e,h1',h2'⟩:=q;injection e with e;subst e;exact absurd rfl (ne_of_list_tuple h1 h1')
  | scr m=>
   unfold ReV at q;obtain⟨a',its',e,h1',h2'⟩:=q;injection e with e;subst e
   have:=cu h1 h1';subst this;unfold aM
   exact ReVs.refl h2 (dk h2')
 | .scr l,u,v,r,q=>by
  unfold ReV at r;obtain⟨a,its,rfl,h1,h2⟩:=r
  cases u with
  | non=>unfold ReV at q;cases q
  | dct _ _=>unfold ReV at q;exact q.elim
  | ob _ _ _=>unfold ReV at q;exact q.elim
  | bl _=>unfold ReV at q;cases q
  | int _=>unfold ReV at q;obtain⟨_,e⟩:=q;cases e
  | str _=>unfold ReV at q;obtain⟨_,e⟩:=q;cases e
  | lst m=>
   unfold ReV at q;obtain⟨a',its',e,h1',h2'⟩:=q;injection e with e;subst e
   have:=cu h1 h1';subst this;unfold aM
   exact mQ h2 h2'
  | tup m=>unfold ReV at q;obtain⟨a',its',e,h1',h2'⟩:=q;injection e with e;subst e;exact absurd rfl (ne_of_list_tuple h1 h1')
  | scr m=>
   unfold ReV at q;obtain⟨a',its',e,h1',h2'⟩:=q;injection e with e;subst e
   have:=cu h1 h1';subst this;unfold aM
   have:=ie h2 h2'
   simp[this]
 | .dct _ _,u,v,r,q=>by unfold ReV at r;exact r.elim
 | .ob _ _ _,u,v,r,q=>by unfold ReV at r;exact r.elim
theorem ReVs.refl {s:JL}:∀{l m:List T} {us:List JK},ReVs s l us->ReVs s m us->beqTs l m=true
 | [],m,us,r,q=>by
  cases ReVs.AC.mp r
  cases m with
  | nil=>simp[beqTs]
  | cons _ _=>obtain⟨_,_,e,_⟩:=ReVs.me.mp q;cases e
 | t::l,m,us,r,q=>by
  obtain⟨v,ws,rfl,p,z⟩:=ReVs.me.mp r
  cases m with
  | nil=>cases ReVs.AC.mp q
  | cons u m=>
   obtain⟨v',ws',e,p',z'⟩:=ReVs.me.mp q;injection e with e1 e2
   subst e1 e2;rw[beqTs,ReV.refl p p',ReVs.refl z z'];rfl
end
theorem mP:∀(l:List Int) (m:List T),ji l m=beqTs (l.map T.int) m
 | [],[] =>by simp[ji,beqTs]
 | [],_::_=>by simp[ji,beqTs]
 | _::_,[] =>by simp[ji,beqTs]
 | i::l,t::m=>by
  rw[ji,JP,beqTs,mP l m]
  congr 1
  cases t <;> simp[C3,aM]
theorem ph:∀(l m:List Int),(l == m)=beqTs (l.map T.int) (m.map T.int)
 | [],[] =>by simp[beqTs]
 | [],_::_=>by simp[beqTs]
 | _::_,[] =>by simp[beqTs]
 | i::l,t::m=>by
  rw[JP,JP,beqTs,<-ph l m];simp[aM]
theorem ff:∀(l:List Int),deps (l.map T.int)=0
 | [] =>rfl
 | i::l=>by rw[JP,deps,ff l];simp[T.dep]
def iH:T->T->Prop
 | .tup _,.tup _=>False
 | .lst _,.lst _=>False
 | .lst _,.scr _=>False
 | .scr _,.lst _=>False
 | .scr _,.scr _=>False
 | _,_=>True
theorem sJ (A:Km)(s:JL)(x y:T)(u v:JK)(hn:iH x y)(hu:A.units<cLine)(rx:ReV s x u)(ry:ReV s y v):EqAt A s u v (aM x y)/\RcAt A s u v (aM x y)/\RcNeAt A s u v (!aM x y):=by
 match x,y,hn,rx,ry with
 | .dct _ _,_,_,rx,_=>exact(by unfold ReV at rx;exact rx:False).elim
 | .ob _ _ _,_,_,rx,_=>exact(by unfold ReV at rx;exact rx:False).elim
 | _,.dct _ _,_,_,ry=>exact(by unfold ReV at ry;exact ry:False).elim
 | _,.ob _ _ _,_,_,ry=>exact(by unfold ReV at ry;exact ry:False).elim
 | .non,.non,hn,rx,ry=>
  obtain rfl:u=KI:=by unfold ReV at rx;exact rx
  obtain rfl:v=KI:=by unfold ReV at ry;exact ry
  exact⟨EqAt.same _,RcAt.none_none ,RcNeAt.none_none ⟩
 | .non,.bl b2,hn,rx,ry=>
  obtain rfl:u=KI:=by unfold ReV at rx;exact rx
  obtain rfl:v=K7 b2:=by unfold ReV at ry;exact ry
  exact⟨EqAt.none_bool b2,RcAt.none_bool b2,RcNeAt.none_bool b2⟩
 | .non,.int i2,hn,rx,ry=>
  obtain rfl:u=KI:=by unfold ReV at rx;exact rx
  obtain⟨k2,rfl⟩:∃k,v=LF i2 k:=by unfold ReV at ry;exact ry
  exact⟨EqAt.none_int i2 k2,RcAt.none_int i2 k2,RcNeAt.none_int i2 k2⟩
 | .non,.str x2,hn,rx,ry=>
  obtain rfl:u=KI:=by unfold ReV at rx;exact rx
  obtain⟨k2,rfl⟩:∃k,v=LS x2 k:=by unfold ReV at ry;exact ry
  exact⟨EqAt.none_str x2 k2,RcAt.none_str x2 k2,RcNeAt.none_str x2 k2⟩
 | .non,.tup l2,hn,rx,ry=>
  obtain rfl:u=KI:=by unfold ReV at rx;exact rx
  unfold ReV at ry;obtain⟨a2,us2,rfl,h2,q2⟩:=ry
  exact⟨EqAt.none_tuple h2 hu,RcAt.none_tuple h2 hu,RcNeAt.none_tuple h2 hu⟩
 | .non,.lst l2,hn,rx,ry=>
  obtain rfl:u=KI:=by unfold ReV at rx;exact rx
  unfold ReV at ry;obtain⟨a2,us2,rfl,h2,q2⟩:=ry
  exact⟨EqAt.none_list h2 hu,RcAt.none_list h2 hu,RcNeAt.none_list h2 hu⟩
 | .non,.scr l2,hn,rx,ry=>
  obtain rfl:u=KI:=by unfold ReV at rx;exact rx
  unfold ReV at ry;obtain⟨a2,us2,rfl,h2,q2⟩:=ry
  exact⟨EqAt.none_list h2 hu,RcAt.none_list h2 hu,RcNeAt.none_list h2 hu⟩
 | .bl b1,.non,hn,rx,ry=>
  obtain rfl:u=K7 b1:=by unfold ReV at rx;exact rx
  obtain rfl:v=KI:=by unfold ReV at ry;exact ry
  exact⟨EqAt.bool_none b1,RcAt.bool_none b1,RcNeAt.bool_none b1⟩
 | .bl b1,.bl b2,hn,rx,ry=>
  obtain rfl:u=K7 b1:=by unfold ReV at rx;exact rx
  obtain rfl:v=K7 b2:=by unfold ReV at ry;exact ry
  exact⟨EqAt.bool_bool b1 b2,RcAt.bool_bool b1 b2,RcNeAt.bool_bool b1 b2⟩
 | .bl b1,.int i2,hn,rx,ry=>
  obtain rfl:u=K7 b1:=by unfold ReV at rx;exact rx
  obtain⟨k2,rfl⟩:∃k,v=LF i2 k:=by unfold ReV at ry;exact ry
  exact⟨EqAt.bool_int b1 i2 k2,RcAt.bool_int b1 i2 k2,RcNeAt.bool_int b1 i2 k2⟩
 | .bl b1,.str x2,hn,rx,ry=>
  obtain rfl:u=K7 b1:=by unfold ReV at rx;exact rx
  obtain⟨k2,rfl⟩:∃k,v=LS x2 k:=by unfold ReV at ry;exact ry
  exact⟨EqAt.bool_str b1 x2 k2,RcAt.bool_str b1 x2 k2,RcNeAt.bool_str b1 x2 k2⟩
 | .bl b1,.tup l2,hn,rx,ry=>
  obtain rfl:u=K7 b1:=by unfold ReV at rx;exact rx
  unfold ReV at ry;obtain⟨a2,us2,rfl,h2,q2⟩:=ry
  exact⟨EqAt.bool_tuple b1 h2 hu,RcAt.bool_tuple b1 h2 hu,RcNeAt.bool_tuple b1 h2 hu⟩
 | .bl b1,.lst l2,hn,rx,ry=>
  obtain rfl:u=K7 b1:=by unfold ReV at rx;exact rx
  unfold ReV at ry;obtain⟨a2,us2,rfl,h2,q2⟩:=ry
  exact⟨EqAt.bool_list b1 h2 hu,RcAt.bool_list b1 h2 hu,RcNeAt.bool_list b1 h2 hu⟩
 | .bl b1,.scr l2,hn,rx,ry=>
  obtain rfl:u=K7 b1:=by unfold ReV at rx;exact rx
  unfold ReV at ry;obtain⟨a2,us2,rfl,h2,q2⟩:=ry
  exact⟨EqAt.bool_list b1 h2 hu,RcAt.bool_list b1 h2 hu,RcNeAt.bool_list b1 h2 hu⟩
 | .int i1,.non,hn,rx,ry=>
  obtain⟨k1,rfl⟩:∃k,u=LF i1 k:=by unfold ReV at rx;exact rx
  obtain rfl:v=KI:=by unfold ReV at ry;exact ry
  exact⟨EqAt.int_none i1 k1,RcAt.int_none i1 k1,RcNeAt.int_none i1 k1⟩
 | .int i1,.bl b2,hn,rx,ry=>
  obtain⟨k1,rfl⟩:∃k,u=LF i1 k:=by unfold ReV at rx;exact rx
  obtain rfl:v=K7 b2:=by unfold ReV at ry;exact ry
  exact⟨EqAt.int_bool i1 k1 b2,RcAt.int_bool i1 k1 b2,RcNeAt.int_bool i1 k1 b2⟩
 | .int i1,.int i2,hn,rx,ry=>
  obtain⟨k1,rfl⟩:∃k,u=LF i1 k:=by unfold ReV at rx;exact rx
  obtain⟨k2,rfl⟩:∃k,v=LF i2 k:=by unfold ReV at ry;exact ry
  exact⟨EqAt.int_int i1 k1 i2 k2,RcAt.int_int i1 k1 i2 k2,RcNeAt.int_int i1 k1 i2 k2⟩
 | .int i1,.str x2,hn,rx,ry=>
  obtain⟨k1,rfl⟩:∃k,u=LF i1 k:=by unfold ReV at rx;exact rx
  obtain⟨k2,rfl⟩:∃k,v=LS x2 k:=by unfold ReV at ry;exact ry
  exact⟨EqAt.int_str i1 k1 x2 k2,RcAt.int_str i1 k1 x2 k2,RcNeAt.int_str i1 k1 x2 k2⟩
 | .int i1,.tup l2,hn,rx,ry=>
  obtain⟨k1,rfl⟩:∃k,u=LF i1 k:=by unfold ReV at rx;exact rx
  unfold ReV at ry;obtain⟨a2,us2,rfl,h2,q2⟩:=ry
  exact⟨EqAt.int_tuple i1 k1 h2 hu,RcAt.int_tuple i1 k1 h2 hu,RcNeAt.int_tuple i1 k1 h2 hu⟩
 | .int i1,.lst l2,hn,rx,ry=>
  obtain⟨k1,rfl⟩:∃k,u=LF i1 k:=by unfold ReV at rx;exact rx
  unfold ReV at ry;obtain⟨a2,us2,rfl,h2,q2⟩:=ry
  exact⟨EqAt.int_list i1 k1 h2 hu,RcAt.int_list i1 k1 h2 hu,RcNeAt.int_list i1 k1 h2 hu⟩
 | .int i1,.scr l2,hn,rx,ry=>
  obtain⟨k1,rfl⟩:∃k,u=LF i1 k:=by unfold ReV at rx;exact rx
  unfold ReV at ry;obtain⟨a2,us2,rfl,h2,q2⟩:=ry
  exact⟨EqAt.int_list i1 k1 h2 hu,RcAt.int_list i1 k1 h2 hu,RcNeAt.int_list i1 k1 h2 hu⟩
 | .str x1,.non,hn,rx,ry=>
  obtain⟨k1,rfl⟩:∃k,u=LS x1 k:=by unfold ReV at rx;exact rx
  obtain rfl:v=KI:=by unfold ReV at ry;exact ry
  exact⟨EqAt.str_none x1 k1,RcAt.str_none x1 k1,RcNeAt.str_none x1 k1⟩
 | .str x1,.bl b2,hn,rx,ry=>
  obtain⟨k1,rfl⟩:∃k,u=LS x1 k:=by unfold ReV at rx;exact rx
  obtain rfl:v=K7 b2:=by unfold ReV at ry;exact ry
  exact⟨EqAt.str_bool x1 k1 b2,RcAt.str_bool x1 k1 b2,RcNeAt.str_bool x1 k1 b2⟩
 | .str x1,.int i2,hn,rx,ry=>
  obtain⟨k1,rfl⟩:∃k,u=LS x1 k:=by unfold ReV at rx;exact rx
  obtain⟨k2,rfl⟩:∃k,v=LF i2 k:=by unfold ReV at ry;exact ry
  exact⟨EqAt.str_int x1 k1 i2 k2,RcAt.str_int x1 k1 i2 k2,RcNeAt.str_int x1 k1 i2 k2⟩
 | .str x1,.str x2,hn,rx,ry=>
  obtain⟨k1,rfl⟩:∃k,u=LS x1 k:=by unfold ReV at rx;exact rx
  obtain⟨k2,rfl⟩:∃k,v=LS x2 k:=by unfold ReV at ry;exact ry
  exact⟨EqAt.str_str x1 k1 x2 k2,RcAt.str_str x1 k1 x2 k2,RcNeAt.str_str x1 k1 x2 k2⟩
 | .str x1,.tup l2,hn,rx,ry=>
  obtain⟨k1,rfl⟩:∃k,u=LS x1 k:=by unfold ReV at rx;exact rx
  unfold ReV at ry;obtain⟨a2,us2,rfl,h2,q2⟩:=ry
  exact⟨EqAt.str_tuple x1 k1 h2 hu,RcAt.str_tuple x1 k1 h2 hu,RcNeAt.str_tuple x1 k1 h2 hu⟩
 | .str x1,.lst l2,hn,rx,ry=>
  obtain⟨k1,rfl⟩:∃k,u=LS x1 k:=by unfold ReV at rx;exact rx
  unfold ReV at ry;obtain⟨a2,us2,rfl,h2,q2⟩:=ry
  exact⟨EqAt.str_list x1 k1 h2 hu,RcAt.str_list x1 k1 h2 hu,RcNeAt.str_list x1 k1 h2 hu⟩
 | .str x1,.scr l2,hn,rx,ry=>
  obtain⟨k1,rfl⟩:∃k,u=LS x1 k:=by unfold ReV at rx;exact rx
  unfold ReV at ry;obtain⟨a2,us2,rfl,h2,q2⟩:=ry
  exact⟨EqAt.str_list x1 k1 h2 hu,RcAt.str_list x1 k1 h2 hu,RcNeAt.str_list x1 k1 h2 hu⟩
 | .tup l1,.non,hn,rx,ry=>
  unfold ReV at rx;obtain⟨a1,us1,rfl,h1,q1⟩:=rx;obtain rfl:v=KI:=by unfold ReV at ry;exact ry
  exact⟨EqAt.tuple_none h1 hu,RcAt.tuple_none h1 hu,RcNeAt.tuple_none h1 hu⟩
 | .tup l1,.bl b2,hn,rx,ry=>
  unfold ReV at rx;obtain⟨a1,us1,rfl,h1,q1⟩:=rx;obtain rfl:v=K7 b2:=by unfold ReV at ry;exact ry
  exact⟨EqAt.tuple_bool b2 h1 hu,RcAt.tuple_bool b2 h1 hu,RcNeAt.tuple_bool b2 h1 hu⟩
 | .tup l1,.int i2,hn,rx,ry=>
  unfold ReV at rx;obtain⟨a1,us1,rfl,h1,q1⟩:=rx;obtain⟨k2,rfl⟩:∃k,v=LF i2 k:=by unfold ReV at ry;exact ry
  exact⟨EqAt.tuple_int i2 k2 h1 hu,RcAt.tuple_int i2 k2 h1 hu,RcNeAt.tuple_int i2 k2 h1 hu⟩
 | .tup l1,.str x2,hn,rx,ry=>
  unfold ReV at rx;obtain⟨a1,us1,rfl,h1,q1⟩:=rx;obtain⟨k2,rfl⟩:∃k,v=LS x2 k:=by unfold ReV at ry;exact ry
  exact⟨EqAt.tuple_str x2 k2 h1 hu,RcAt.tuple_str x2 k2 h1 hu,RcNeAt.tuple_str x2 k2 h1 hu⟩
 | .tup _,.tup _,hn,_,_=>exact hn.elim
 | .tup l1,.lst l2,hn,rx,ry=>
  unfold ReV at rx;obtain⟨a1,us1,rfl,h1,q1⟩:=rx;unfold ReV at ry;obtain⟨a2,us2,rfl,h2,q2⟩:=ry
  exact⟨EqAt.tuple_list h1 h2 hu,RcAt.tuple_list h1 h2 hu,RcNeAt.tuple_list h1 h2 hu⟩
 | .tup l1,.scr l2,hn,rx,ry=>
  unfold ReV at rx;obtain⟨a1,us1,rfl,h1,q1⟩:=rx;unfold ReV at ry;obtain⟨a2,us2,rfl,h2,q2⟩:=ry
  exact⟨EqAt.tuple_list h1 h2 hu,RcAt.tuple_list h1 h2 hu,RcNeAt.tuple_list h1 h2 hu⟩
 | .lst l1,.non,hn,rx,ry=>
  unfold ReV at rx;obtain⟨a1,us1,rfl,h1,q1⟩:=rx;obtain rfl:v=KI:=by unfold ReV at ry;exact ry
  exact⟨EqAt.list_none h1 hu,RcAt.list_none h1 hu,RcNeAt.list_none h1 hu⟩
 | .lst l1,.bl b2,hn,rx,ry=>
  unfold ReV at rx;obtain⟨a1,us1,rfl,h1,q1⟩:=rx;obtain rfl:v=K7 b2:=by unfold ReV at ry;exact ry
  exact⟨EqAt.list_bool b2 h1 hu,RcAt.list_bool b2 h1 hu,RcNeAt.list_bool b2 h1 hu⟩
 | .lst l1,.int i2,hn,rx,ry=>
  unfold ReV at rx;obtain⟨a1,us1,rfl,h1,q1⟩:=rx;obtain⟨k2,rfl⟩:∃k,v=LF i2 k:=by unfold ReV at ry;exact ry
  exact⟨EqAt.list_int i2 k2 h1 hu,RcAt.list_int i2 k2 h1 hu,RcNeAt.list_int i2 k2 h1 hu⟩
 | .lst l1,.str x2,hn,rx,ry=>
  unfold ReV at rx;obtain⟨a1,us1,rfl,h1,q1⟩:=rx;obtain⟨k2,rfl⟩:∃k,v=LS x2 k:=by unfold ReV at ry;exact ry
  exact⟨EqAt.list_str x2 k2 h1 hu,RcAt.list_str x2 k2 h1 hu,RcNeAt.list_str x2 k2 h1 hu⟩
 | .lst l1,.tup l2,hn,rx,ry=>
  unfold ReV at rx;obtain⟨a1,us1,rfl,h1,q1⟩:=rx;unfold ReV at ry;obtain⟨a2,us2,rfl,h2,q2⟩:=ry
  exact⟨EqAt.list_tuple h1 h2 hu,RcAt.list_tuple h1 h2 hu,RcNeAt.list_tuple h1 h2 hu⟩
 | .lst _,.lst _,hn,_,_=>exact hn.elim
 | .lst _,.scr _,hn,_,_=>exact hn.elim
 | .scr l1,.non,hn,rx,ry=>
  unfold ReV at rx;obtain⟨a1,us1,rfl,h1,q1⟩:=rx;obtain rfl:v=KI:=by unfold ReV at ry;exact ry
  exact⟨EqAt.list_none h1 hu,RcAt.list_none h1 hu,RcNeAt.list_none h1 hu⟩
 | .scr l1,.bl b2,hn,rx,ry=>
  unfold ReV at rx;obtain⟨a1,us1,rfl,h1,q1⟩:=rx;obtain rfl:v=K7 b2:=by unfold ReV at ry;exact ry
  exact⟨EqAt.list_bool b2 h1 hu,RcAt.list_bool b2 h1 hu,RcNeAt.list_bool b2 h1 hu⟩
 | .scr l1,.int i2,hn,rx,ry=>
  unfold ReV at rx;obtain⟨a1,us1,rfl,h1,q1⟩:=rx;obtain⟨k2,rfl⟩:∃k,v=LF i2 k:=by unfold ReV at ry;exact ry
  exact⟨EqAt.list_int i2 k2 h1 hu,RcAt.list_int i2 k2 h1 hu,RcNeAt.list_int i2 k2 h1 hu⟩
 | .scr l1,.str x2,hn,rx,ry=>
  unfold ReV at rx;obtain⟨a1,us1,rfl,h1,q1⟩:=rx;obtain⟨k2,rfl⟩:∃k,v=LS x2 k:=by unfold ReV at ry;exact ry
  exact⟨EqAt.list_str x2 k2 h1 hu,RcAt.list_str x2 k2 h1 hu,RcNeAt.list_str x2 k2 h1 hu⟩
 | .scr l1,.tup l2,hn,rx,ry=>
  unfold ReV at rx;obtain⟨a1,us1,rfl,h1,q1⟩:=rx;unfold ReV at ry;obtain⟨a2,us2,rfl,h2,q2⟩:=ry
  exact⟨EqAt.list_tuple h1 h2 hu,RcAt.list_tuple h1 h2 hu,RcNeAt.list_tuple h1 h2 hu⟩
 | .scr _,.lst _,hn,_,_=>exact hn.elim
 | .scr _,.scr _,hn,_,_=>exact hn.elim
theorem CK:∀(n:Nat) (A:Km) (s:JL) (x y:T) (u v:JK),(x.dep<=n\/y.dep<=n)->A.units+n<cLine->ReV s x u->ReV s y v->EqAt A s u v (aM x y)/\RcAt A s u v (aM x y)/\RcNeAt A s u v (!aM x y):=by
 intro n
 induction n with
 | zero=>
  intro A s x y u v hd hu rx ry
  exact sJ A s x y u v (by cases x <;> cases y <;> simp_all [iH,T.dep]) (by omega) rx ry
 | succ n ih=>
  intro A s x y u v hd hu rx ry
  have hin:A.in1.units+n<cLine:=by show A.units+1+n<cLine;omega
  have items:∀(l m:List T) (us vs:List JK),(deps l<=n\/deps m<=n)->ReVs s l us->ReVs s m vs->∃e:Nat->Bool,(∀j (h1:j<us.toArray.size) (h2:j<vs.toArray.size),EqAt A.in1 s us.toArray[j] vs.toArray[j] (e j)) ∧
    (∀(j:Nat) t u,l[j]? =some t->m[j]? =some u->e j=aM t u):=λl m us vs hd r1 r2=>by
   refine⟨λj=>aM (l.getD j .non) (m.getD j .non),λj h1 h2=> ?_,λj t u e1 e2=>by simp[List.getD,e1,e2]⟩
   have l1:=r1.length
   have l2:=r2.length
   have h1':j<l.length:=by rw[l1];simpa using h1
   have h2':j<m.length:=by rw[l2];simpa using h2
   have e1:l[j]? =some l[j]:=by simp
   have e2:m[j]? =some m[j]:=by simp
   obtain⟨u1,z1,w1⟩:=r1.get e1;obtain⟨u2,z2,w2⟩:=r2.get e2
   have q1:us.toArray[j] =u1:=by
    have:us[j]? =some us.toArray[j]:=by simp
    rw[z1]at this;exact(KM this).symm
   have q2:vs.toArray[j] =u2:=by
    have:vs[j]? =some vs.toArray[j]:=by simp
    rw[z2]at this;exact(KM this).symm
   rw[q1,q2]
   have g1:l.getD j .non=l[j]:=by simp[List.getD,e1]
   have g2:m.getD j .non=m[j]:=by simp[List.getD,e2]
   show EqAt A.in1 s u1 u2 (aM (l.getD j .non) (m.getD j .non))
   rw[g1,g2];refine(ih A.in1 s l[j] m[j] u1 u2 ?_ hin w1 w2).1
   rcases hd with hd | hd
   ·exact .inl (Kf (ip e1) hd)
   ·exact .inr (Kf (ip e2) hd)
  have lists:∀(l m:List T) (a b:Addr) (us vs:List JK),(deps l<=n\/deps m<=n)->ReVs s l us->ReVs s m vs->s.heap.IsList a us.toArray->s.heap.IsList b vs.toArray →
    EqAt A s (.ref a) (.ref b) (beqTs l m)/\RcAt A s (.ref a) (.ref b) (beqTs l m)/\RcNeAt A s (.ref a) (.ref b) (!beqTs l m):=λl m a b us vs hd r1 r2 h1 h2=>by
   have l1:=r1.length
   have l2:=r2.length
   have key:RcAt A s (.ref a) (.ref b) (beqTs l m)/\RcNeAt A s (.ref a) (.ref b) (!beqTs l m):=by
    by_cases hl:l.length=m.length
    ·obtain⟨e,he,hb⟩:=items l m us vs hd r1 r2
     have q:=kC l m e hb
     have q2:beqTs l m=(J2 us.toArray.size).all e:=by
      rw[q,hl,Sd];simp[l2.symm,hl.symm,l1]
     rw[q2]
     have hsz:us.toArray.size=vs.toArray.size:=by simp;omega
     exact⟨RcAt.lists h1 h2 hsz (by omega) he,RcNeAt.lists h1 h2 hsz (by omega) he⟩
    ·rw[oG hl]
     have hsz:(us.toArray.size != vs.toArray.size)=true:=by simp;omega
     exact⟨RcAt.lists_lengths h1 h2 hsz (by omega),RcNeAt.lists_lengths h1 h2 hsz (by omega)⟩
   refine⟨?_,key⟩
   by_cases hab:a=b
   ·subst hab
    have:=cu h1 h2;subst this;rw[ReVs.refl r1 r2];exact EqAt.same _
   ·exact EqAt.of_refs hab key.1
  cases x with
  | tup l=>
   cases y with
   | tup m=>
    unfold ReV at rx ry;obtain⟨a,us,rfl,h1,r1⟩:=rx;obtain⟨b,vs,rfl,h2,r2⟩:=ry
    have hd':deps l<=n\/deps m<=n:=by
     simp only[T.dep]at hd;omega
    have l1:=r1.length
    have l2:=r2.length;obtain⟨e,he,hb⟩:=items l m us vs hd' r1 r2
    have q:=kC l m e hb
    have q2:beqTs l m=((J2 (min us.toArray.size vs.toArray.size)).all e&&us.toArray.size == vs.toArray.size):=by
     rw[q];simp[l1,l2]
    have key:RcAt A s (.ref a) (.ref b) (beqTs l m)/\RcNeAt A s (.ref a) (.ref b) (!beqTs l m):=by
     rw[q2];exact⟨RcAt.tuples h1 h2 (by omega) he,RcNeAt.tuples h1 h2 (by omega) he⟩
    unfold aM;refine⟨?_,key⟩
    by_cases hab:a=b
    ·subst hab
     have:=ib h1 h2;subst this;rw[ReVs.refl r1 r2];exact EqAt.same _
    ·exact EqAt.of_refs hab key.1
   | _=>exact sJ A s _ _ u v (by simp[iH]) (by omega) rx ry
  | lst l=>
   cases y with
   | lst m=>
    unfold ReV at rx ry;obtain⟨a,us,rfl,h1,r1⟩:=rx;obtain⟨b,vs,rfl,h2,r2⟩:=ry;unfold aM
    exact lists l m a b us vs (by simp only[T.dep]at hd;omega) r1 r2 h1 h2
   | scr m=>
    unfold ReV at rx ry;obtain⟨a,us,rfl,h1,r1⟩:=rx;obtain⟨b,vs,rfl,h2,r2⟩:=ry;unfold aM
    exact lists l (m.map T.int) a b us vs (by rw[ff];omega) r1 (dk r2) h1 h2
   | _=>exact sJ A s _ _ u v (by simp[iH]) (by omega) rx ry
  | scr l=>
   cases y with
   | lst m=>
    unfold ReV at rx ry;obtain⟨a,us,rfl,h1,r1⟩:=rx;obtain⟨b,vs,rfl,h2,r2⟩:=ry;unfold aM;rw[mP]
    exact lists (l.map T.int) m a b us vs (by rw[ff];omega) (dk r1) r2 h1 h2
   | scr m=>
    unfold ReV at rx ry;obtain⟨a,us,rfl,h1,r1⟩:=rx;obtain⟨b,vs,rfl,h2,r2⟩:=ry;unfold aM;rw[ph]
    exact lists (l.map T.int) (m.map T.int) a b us vs (by rw[ff];omega) (dk r1) (dk r2) h1 h2
   | _=>exact sJ A s _ _ u v (by simp[iH]) (by omega) rx ry
  | _=>exact sJ A s _ _ u v (by simp[iH]) (by omega) rx ry
mutual
def T.nf:T->T
 | .tup l=> .tup (nfs l)
 | .lst l=> .lst (nfs l)
 | .scr l=> .lst (l.map .int)
 | .non=> .non
 | .bl b=> .bl b
 | .int b=> .int b
 | .str b=> .str b
 | .dct a b=> .dct a b
 | .ob a b c=> .ob a b c
def nfs:List T->List T
 | [] => []
 | t::l=>t.nf::nfs l
end
theorem rS:∀(l:List Int),nfs (l.map T.int)=l.map T.int
 | [] =>rfl
 | i::l=>by rw[JP,nfs,rS l];simp[T.nf]
mutual
theorem jY:∀(t x:T),aM t.nf x=aM t x
 | .non,x=>by simp[T.nf]
 | .bl _,x=>by simp[T.nf]
 | .int _,x=>by simp[T.nf]
 | .str _,x=>by simp[T.nf]
 | .tup l,x=>by cases x <;> simp[T.nf,aM,beqTs_nf l]
 | .lst l,x=>by cases x <;> simp[T.nf,aM,beqTs_nf l]
 | .scr l,x=>by cases x <;> simp[T.nf,aM,mP,ph]
 | .dct _ _,x=>by simp[T.nf]
 | .ob _ _ _,x=>by simp[T.nf]
theorem beqTs_nf:∀(l m:List T),beqTs (nfs l) m=beqTs l m
 | [],m=>by simp[nfs]
 | t::l,m=>by cases m <;> simp[nfs,beqTs,jY t,beqTs_nf l]
end
theorem FL {s:JL}{t:T}{i:Int}{k:Tok}(r:ReV s t (.int i k)):t.nf= .int i:=by
 cases t with
 | non=>unfold ReV at r;cases r
 | bl b=>unfold ReV at r;cases r
 | int j=>unfold ReV at r;obtain⟨t,e⟩:=r;injection e with e1 _;subst e1;rfl
 | str x=>unfold ReV at r;obtain⟨t,e⟩:=r;cases e
 | tup l=>unfold ReV at r;obtain⟨a,its,e,_⟩:=r;cases e
 | lst l=>unfold ReV at r;obtain⟨a,its,e,_⟩:=r;cases e
 | scr l=>unfold ReV at r;obtain⟨a,its,e,_⟩:=r;cases e
 | dct _ _=>unfold ReV at r;exact r.elim
 | ob _ _ _=>unfold ReV at r;exact r.elim
theorem vM {s:JL}:∀{l:List T} {us:List JK} {ns:List Int},ReVs s l us->Lj us ns->nfs l=ns.map T.int
 | [],us,ns,r,h=>by cases ReVs.AC.mp r;cases h;rfl
 | t::l,us,ns,r,h=>by
  obtain⟨u,ws,rfl,p,q⟩:=ReVs.me.mp r
  cases h with
  | cons a b hh=>rw[nfs,FL p,vM q hh];rfl
mutual
theorem ReV.nf {s:JL}:∀{t u:T} {v:JK},ReV s t v->ReV s u v->t.nf=u.nf
 | .non,u,v,r,q=>by
  unfold ReV at r;subst r
  cases u <;> (unfold ReV at q) <;> first | rfl | (cases q;done) | (obtain⟨_,e⟩:=q;cases e;done) | (obtain⟨_,_,e,_⟩:=q;cases e;done)
 | .bl b,u,v,r,q=>by
  unfold ReV at r;subst r
  cases u <;> (unfold ReV at q) <;> first | (cases q;done) | (cases q;rfl) | (obtain⟨_,e⟩:=q;cases e;done) | (obtain⟨_,_,e,_⟩:=q;cases e;done)
 | .int b,u,v,r,q=>by
  unfold ReV at r;obtain⟨k,rfl⟩:=r
  cases u <;> (unfold ReV at q) <;> first | (cases q;done) | (obtain⟨_,e⟩:=q;cases e;done) | (obtain⟨_,e⟩:=q;cases e;rfl) | (obtain⟨_,_,e,_⟩:=q;cases e;done)
 | .str b,u,v,r,q=>by
  unfold ReV at r;obtain⟨k,rfl⟩:=r
  cases u <;> (unfold ReV at q) <;> first | (cases q;done) | (obtain⟨_,e⟩:=q;cases e;done) | (obtain⟨_,e⟩:=q;cases e;rfl) | (obtain⟨_,_,e,_⟩:=q;cases e;done)
 | .tup l,u,v,r,q=>by
  unfold ReV at r;obtain⟨a,its,rfl,h1,h2⟩:=r
  cases u with
  | non=>unfold ReV at q;cases q
  | dct _ _=>unfold ReV at q;exact q.elim
  | ob _ _ _=>unfold ReV at q;exact q.elim
  | bl _=>unfold ReV at q;cases q
  | int _=>unfold ReV at q;obtain⟨_,e⟩:=q;cases e
  | str _=>unfold ReV at q;obtain⟨_,e⟩:=q;cases e
  | tup m=>
   unfold ReV at q;obtain⟨a',its',e,h1',h2'⟩:=q;injection e with e;subst e
   have:=ib h1 h1';subst this;unfold T.nf
   rw[ReVs.nf h2 h2']
  | lst m=>unfold ReV at q;obtain⟨a',its',e,h1',h2'⟩:=q;injection e with e;subst e;exact absurd rfl (ne_of_list_tuple h1' h1)
  | scr m=>unfold ReV at q;obtain⟨a',its',e,h1',h2'⟩:=q;injection e with e;subst e;exact absurd rfl (ne_of_list_tuple h1' h1)
 | .lst l,u,v,r,q=>by
  unfold ReV at r;obtain⟨a,its,rfl,h1,h2⟩:=r
  cases u with
  | non=>unfold ReV at q;cases q
  | dct _ _=>unfold ReV at q;exact q.elim
  | ob _ _ _=>unfold ReV at q;exact q.elim
  | bl _=>unfold ReV at q;cases q
  | int _=>unfold ReV at q;obtain⟨_,e⟩:=q;cases e
  | str _=>unfold ReV at q;obtain⟨_,e⟩:=q;cases e
  | lst m=>
   unfold ReV at q;obtain⟨a',its',e,h1',h2'⟩:=q;injection e with e;subst e
   have:=cu h1 h1';subst this;unfold T.nf
   rw[ReVs.nf h2 h2']
  | tup m=>unfold ReV at q;obtain⟨a',its',e,h1',h2'⟩:=q;injection e with e;subst e;exact absurd rfl (ne_of_list_tuple h1 h1')
  | scr m=>
   unfold ReV at q;obtain⟨a',its',e,h1',h2'⟩:=q;injection e with e;subst e
   have:=cu h1 h1';subst this;unfold T.nf
   rw[ReVs.nf h2 (dk h2'),rS]
 | .scr l,u,v,r,q=>by
  unfold ReV at r;obtain⟨a,its,rfl,h1,h2⟩:=r
  cases u with
  | non=>unfold ReV at q;cases q
  | dct _ _=>unfold ReV at q;exact q.elim
  | ob _ _ _=>unfold ReV at q;exact q.elim
  | bl _=>unfold ReV at q;cases q
  | int _=>unfold ReV at q;obtain⟨_,e⟩:=q;cases e
  | str _=>unfold ReV at q;obtain⟨_,e⟩:=q;cases e
  | lst m=>
   unfold ReV at q;obtain⟨a',its',e,h1',h2'⟩:=q;injection e with e;subst e
   have:=cu h1 h1';subst this
   have z:=vM h2' h2;unfold T.nf
   rw[z]
  | tup m=>unfold ReV at q;obtain⟨a',its',e,h1',h2'⟩:=q;injection e with e;subst e;exact absurd rfl (ne_of_list_tuple h1 h1')
  | scr m=>
   unfold ReV at q;obtain⟨a',its',e,h1',h2'⟩:=q;injection e with e;subst e
   have:=cu h1 h1';subst this
   rw[ie h2 h2']
 | .dct _ _,u,v,r,q=>by unfold ReV at r;exact r.elim
 | .ob _ _ _,u,v,r,q=>by unfold ReV at r;exact r.elim
theorem ReVs.nf {s:JL}:∀{l m:List T} {us:List JK},ReVs s l us->ReVs s m us->nfs l=nfs m
 | [],m,us,r,q=>by
  cases ReVs.AC.mp r
  cases m with
  | nil=>rfl
  | cons _ _=>obtain⟨_,_,e,_⟩:=ReVs.me.mp q;cases e
 | t::l,m,us,r,q=>by
  obtain⟨v,ws,rfl,p,z⟩:=ReVs.me.mp r
  cases m with
  | nil=>cases ReVs.AC.mp q
  | cons u m=>
   obtain⟨v',ws',e,p',z'⟩:=ReVs.me.mp q;injection e with e1 e2
   subst e1 e2;rw[nfs,nfs,ReV.nf p p',ReVs.nf z z']
end
section
variable {X:Cx}{a b c:Expr}{fa fb fc:En->Rs T}{pos:Pos}
def ig (x y:T):Bool:=(decide (x.dep<=60)||decide (y.dep<=60))&&(x.nd&&y.nd)
def ql (x y:T):Rs T:=if ig x y=true then .ok (.bl (aM x y))else .bad
def kX (x y:T):Rs T:=if ig x y=true then .ok (.bl (!aM x y))else .bad
theorem gg {x y:T}(h:x.dep<=60)(hx:x.nd=true)(hy:y.nd=true):ig x y=true:=by unfold ig;rw[decide_eq_true h,hx,hy];rfl
theorem iU {x y:T}(h:ig x y=true):x.nd=true/\y.nd=true:=by
 unfold ig at h;exact L4.mp (L4.mp h).2
theorem n8 {x y:T}(h:ig x y=true):x.dep<=60\/y.dep<=60:=by
 unfold ig at h
 replace h:=(L4.mp h).1
 rcases Bool.or_eq_true_iff.mp h with h | h
 ·exact .inl (of_decide_eq_true h)
 ·exact .inr (of_decide_eq_true h)
theorem rH (hu:X.A.units+60<cLine):OpT X (KC .Eq) ql:=by
 intro pins s σ H O x y vx vy ux uy Q I hf rx ry r1 r2 hp;unfold ql at hp
 split at hp
 ·rename_i h
  have z:=CK 60 X.A s x y ux uy (n8 h) hu (Rep.val I (iU h).1 rx r1) (Rep.val I (iU h).2 ry r2);exact z.2.1 _ _ _ _ ⟨.bl _,H,I,rfl,hp H (Same.refl H) _ (Rep.bl_ _)⟩
 ·exact hp.elim
theorem jI (hu:X.A.units+60<cLine):OpT X (KC .NotEq) kX:=by
 intro pins s σ H O x y vx vy ux uy Q I hf rx ry r1 r2 hp;unfold kX at hp
 split at hp
 ·rename_i h
  have z:=CK 60 X.A s x y ux uy (n8 h) hu (Rep.val I (iU h).1 rx r1) (Rep.val I (iU h).2 ry r2);exact z.2.2 _ _ _ _ ⟨.bl _,H,I,rfl,hp H (Same.refl H) _ (Rep.bl_ _)⟩
 ·exact hp.elim
def T.items:T->Option (List T)
 | .tup l=>some l
 | .lst l=>some l
 | .scr l=>some (l.map T.int)
 | _=>none
def a0 (x:T)(l:List T):Bool:=l.any λy=>aM y x
def tE (x y:T):Rs T:=match y.items with
 | some l=>if (x.dep<=60\/deps l<=60)/\x.nd=true/\y.nd=true then .ok (.bl (a0 x l))else .bad
 | none=> .bad
def bz (x y:T):Rs T:=match y.items with
 | some l=>if (x.dep<=60\/deps l<=60)/\x.nd=true/\y.nd=true then .ok (.bl (!a0 x l))else .bad
 | none=> .bad
theorem vA {A:Km}{s:JL}{x:T}{ux:JK}(rx:ReV s x ux)(hu:A.units+60<cLine){l:List T}{us:List JK}(hd:x.dep<=60\/deps l<=60)(r:ReVs s l us) :
  ∃e:JK->Bool,(∀y∈us,EqAt A s y ux (e y))/\us.any e=a0 x l:=by
 classical
 have ex:∀y∈us,∃t∈l,ReV s t y:=λy hy=>by
  obtain⟨i,hi,rfl⟩:=KZ hy
  have hl:=r.length
  have e1:l[i]? =some l[i]:=by simp
  obtain⟨u,q1,q2⟩:=r.get e1
  have:us[i]? =some us[i]:=by simp
  rw[this]at q1;cases q1;exact⟨l[i],K1 _,q2⟩
 let e:JK->Bool:=λy=>decide (∃t∈l,ReV s t y/\aM t x=true)
 have dep:∀t∈l,t.dep<=60\/x.dep<=60:=λt ht=>by
  rcases hd with h | h
  ·exact .inr h
  ·obtain⟨i,hi,rfl⟩:=KZ ht
   exact .inl (Kf (ip (i:=i) (by simp)) h)
 have uniq:∀y t t',ReV s t y->ReV s t' y->aM t x=aM t' x:=λy t t' z z'=>by
  rw[<-jY t,<-jY t',ReV.nf z z']
 have agree:∀y t,t∈l->ReV s t y->e y=aM t x:=λy t h z=>by
  show decide (∃t∈l,ReV s t y/\aM t x=true)=aM t x
  cases q:aM t x with
  | true=>exact decide_eq_true ⟨t,h,z,q⟩
  | false=>
   refine decide_eq_false ?_
   rintro ⟨t',h',z',q'⟩
   rw[<-uniq y t t' z z',q]at q';cases q'
 refine⟨e,λy hy=> ?_,?_⟩
 ·obtain⟨t,h,z⟩:=ex y hy
  rw[agree y t h z];exact(CK 60 A s t x y ux (dep t h) hu z rx).1
 ·have go:∀(l':List T) (us':List JK),(∀t∈l',t∈l)->ReVs s l' us'->us'.any e=l'.any λy=>aM y x:=by
   intro l'
   induction l' with
   | nil=>intro us' _ r';rw[ReVs.AC.mp r'];rfl
   | cons t l' ih=>
    intro us' sub r';obtain⟨u,ws,rfl,p,q⟩:=ReVs.me.mp r';rw[MH,MH,ih ws (λt ht=>sub t (JJ _ ht)) q,agree u t (sub t JO) p]
  exact go l us (λ_ h=>h) r
theorem n4 {s:JL}{y:T}{u:JK}{l:List T}(r:ReV s y u)(h:y.items=some l):∃a us,u= .ref a/\ReVs s l us/\(s.heap.IsTuple a us.toArray\/s.heap.IsList a us.toArray):=by
 cases y with
 | tup m=>cases h;unfold ReV at r;obtain⟨a,us,e,h1,h2⟩:=r;exact⟨a,us,e,h2,.inl h1⟩
 | lst m=>cases h;unfold ReV at r;obtain⟨a,us,e,h1,h2⟩:=r;exact⟨a,us,e,h2,.inr h1⟩
 | scr m=>cases h;unfold ReV at r;obtain⟨a,us,e,h1,h2⟩:=r;exact⟨a,us,e,dk h2,.inr h1⟩
 | _=>cases h
theorem vm (hu:X.A.units+61<cLine):OpT X (KC .In) tE:=by
 intro pins s σ H O x y vx vy ux uy Q I hf rx ry r1 r2 hp;unfold tE at hp
 split at hp
 ·rename_i l hl
  split at hp
  ·rename_i hd3
   obtain⟨hd,hnx,hny⟩:=hd3;obtain⟨a,us,rfl,rs,hh⟩:=n4 (Rep.val I hny ry r2) hl;obtain⟨e,he,ha⟩:=vA (A:=X.A.in1) (Rep.val I hnx rx r1) (by show X.A.units+1+60<cLine;omega) hd rs
   have q:=hp H (Same.refl H) _ (Rep.bl_ (a0 x l))
   have he':∀y,y∈us.toArray->EqAt X.A.in1 s y ux (e y):=λy hy=>he y (by simpa using hy)
   have ha':us.toArray.any e=a0 x l:=by simpa using ha
   rcases hh with hh | hh
   ·exact in_tupleAt e hh he' (by rw[ha'];exact⟨.bl _,H,I,rfl,q⟩)
   ·exact in_listAt e hh he' (by rw[ha'];exact⟨.bl _,H,I,rfl,q⟩)
  ·exact hp.elim
 ·exact hp.elim
theorem cV (hu:X.A.units+61<cLine):OpT X (KC .NotIn) bz:=by
 intro pins s σ H O x y vx vy ux uy Q I hf rx ry r1 r2 hp;unfold bz at hp
 split at hp
 ·rename_i l hl
  split at hp
  ·rename_i hd3
   obtain⟨hd,hnx,hny⟩:=hd3;obtain⟨a,us,rfl,rs,hh⟩:=n4 (Rep.val I hny ry r2) hl;obtain⟨e,he,ha⟩:=vA (A:=X.A.in1) (Rep.val I hnx rx r1) (by show X.A.units+1+60<cLine;omega) hd rs
   have q:=hp H (Same.refl H) _ (Rep.bl_ (!a0 x l))
   have he':∀y,y∈us.toArray->EqAt X.A.in1 s y ux (e y):=λy hy=>he y (by simpa using hy)
   have ha':us.toArray.any e=a0 x l:=by simpa using ha
   rcases hh with hh | hh
   ·exact notIn_tupleAt e hh he' (by rw[ha'];exact⟨.bl _,H,I,rfl,q⟩)
   ·exact notIn_listAt e hh he' (by rw[ha'];exact⟨.bl _,H,I,rfl,q⟩)
  ·exact hp.elim
 ·exact hp.elim
def ch (g g':T->T->Rs T)(fa fb fc:En->Rs T)(Z:En):Rs T:=do
 let x <-fa Z
 let y <-fb Z
 let z <-g x y
 match z with
 | .bl true=>do
  let w <-fc Z
  g' y w
 | .bl false=> .ok (.bl false)
 | _=> .bad
theorem BR {op op':CmpOp}{g g':T->T->Rs T}(ho:OpT X (KC op) g)(ho':OpT X (KC op') g')(ha:b7 X a fa)(hb:b7 X b fb)(hc:b7 X c fc)
  (hm:autoParam (lastMarks [op,op'] [b,c] =false) w_):b7 X (.Compare a [op,op'] [b,c] pos) (ch g g' fa fb fc):=by
 intro pins s σ H Q I ⟨Z,O,E,hq⟩
 have h1:=aW E hq;refine Compare_chain (bV (ha pins s σ H _ I h1) λv s1 ⟨x,H1,I1,r1,t,rt,s',E',q1⟩=>chain_link ?_) hm
 have h2:=aW (f:=fb) E' q1;refine bV (hb pins s1 σ H1 _ I1 h2) λu s2 hh_=> ?_
 obtain⟨y,H2,I2,r2,t2,rt2,s'',E'',q2⟩:=hh_
 refine bV (ho pins s2 σ H2 O t t2 x y v u (λv' H'=> ∃t',Rep X.K O H' t' v'/\Same H2 H'/\Post X H' (match t' with
  | .bl true=>fc Z >>= λw=>g' t2 w
  | .bl false=> .ok (.bl false)
  | _=> .bad) (λt H'=> ∀v,Rep X.K O H' t v->Q v H')) I2 (λp=>E''.fresh) (rt.same s'') rt2 r1 r2 (Post.mono q2.bind λt' H' s3 q v rv=>⟨t',rv,s3,q⟩)) λd s3 ⟨z,H3,I3,r3,t3,rt3,sm3,q3⟩=> ?_
 have E3:=E''.same sm3
 split at q3
 ·cases Rep.FB.mp rt3
  cases r3;refine K5 (ite_tt (chain_last ?_))
  have h4:=aW (f:=fc) E3 q3;refine bV (hc pins s3 σ H3 _ I3 h4) λw' s4 ⟨z',H4,I4,r4,t4,rt4,s4',E4,q4⟩=> ?_
  exact ho' pins s4 σ H4 O t2 t4 y z' u w' Q I4 (λp=>E4.fresh) ((rt2.same sm3).same s4') rt4 r2 r4 q4
 ·cases Rep.FB.mp rt3
  cases r3;refine K5 (ite_ff ⟨.bl false,H3,I3,rfl,q3 H3 (Same.refl H3) _ (Rep.bl_ false)⟩)
 ·exact q3.elim
def tb (f:En->Rs T)(Z:En):Rs Bool:=do
 let x <-f Z
 match x with
 | .bl k=> .ok k
 | _=> .bad
def bt (f:En->Rs Bool)(Z:En):Rs T:=do
 let k <-f Z
 .ok (.bl k)
theorem Ed {e:Expr}{f:En->Rs T}(h:b7 X e f)(he:autoParam (∀whole,isTrue e X.env whole=(do let v <-whole;standAt e.pos;holding [v] (truthy v))) t_):tH X e (tb f):=by
 intro pins s σ H Q I ⟨Z,O,E,hq⟩;refine EF h he pins s σ H Q I ?_
 obtain⟨Z1,O1,E1,h1⟩:=aW E hq;refine⟨Z1,O1,E1,Post.mono h1 λts H1 s1 q vs r=> ?_⟩
 obtain⟨t',r',s',E',q'⟩:=q vs r
 split at q'
 ·exact⟨_,Rep.FB.mp r',q' H1 (Same.refl H1)⟩
 ·exact q'.elim
theorem Ef {op:CmpOp}{g:T->T->Rs T}(ho:OpT X (KC op) g)(ha:b7 X a fa)(hb:b7 X b fb)(hm:autoParam (PZ op b=false) u_):tH X (.Compare a [op] [b] pos) (tb (o2 g fa fb)):=by
 intro pins s σ H Q I ⟨Z,O,E,hq⟩
 have hq':Post X H (o2 g fa fb Z) λt H'=> ∀v,Rep X.K O H' t v->∃k,v= .bl k/\Q k H':=Post.mono hq.bind λt H' s' q v r=>by
  split at q
  ·exact⟨_,Rep.FB.mp r,q H' (Same.refl H')⟩
  ·exact q.elim
 have h1:=aW E hq';refine wpAny_isTrue_Compare1 (bV (ha pins s σ H _ I h1) λv s1 ⟨x,H1,I1,r1,t,rt,s',E',q1⟩=> ?_) hm
 have h2:=aW (f:=fb) E' q1;refine bV (hb pins s1 σ H1 _ I1 h2) λu s2 hh_=> ?_
 obtain⟨y,H2,I2,r2,t2,rt2,s'',E'',q2⟩:=hh_;refine bV (ho pins s2 σ H2 O t t2 x y v u _ I2 (λp=>E''.fresh) (rt.same s'') rt2 r1 r2 q2) λd s3 hh_=> ?_
 obtain⟨z,H3,I3,r3,k,e,q3⟩:=hh_;subst e;cases r3;exact K5 ⟨H3,I3,q3⟩
def ir (f g:En->Rs Bool)(Z:En):Rs Bool:=do
 let k <-f Z
 if k then g Z else .ok false
def tD (f g:En->Rs Bool)(Z:En):Rs Bool:=do
 let k <-f Z
 if k then .ok true else g Z
def eF (f:En->Rs Bool)(Z:En):Rs Bool:=do
 let k <-f Z
 .ok (!k)
variable {f g:En->Rs Bool}{bq:List Expr}
abbrev DL (X:Cx)(e:Expr)(f:En->Rs Bool):Prop:=PW X e (xQ X f)
theorem BD (ha:tH X a f):DL X (.BoolOp .And [a] pos) f:=BW ha
theorem Ea (ha:tH X a f):DL X (.BoolOp .Or [a] pos) f:=ED ha
theorem Eb (ha:tH X a f)(hb:DL X (.BoolOp .And (b::bq) pos) g):DL X (.BoolOp .And (a::b::bq) pos) (ir f g):=by
 intro wh pins s σ H Q I ⟨Z,O,E,hq⟩;refine EE ha hb wh pins s σ H Q I ?_
 obtain⟨Z1,O1,E1,h1⟩:=jF E hq;refine⟨Z1,O1,E1,Post.mono h1 λk H1 s1 q=> ?_⟩
 obtain⟨s',E',q'⟩:=q
 cases k with
 | true=>rw[if_pos rfl];exact⟨Z,O,E',by simpa using q'⟩
 | false=>rw[if_neg J3];exact q' H1 (Same.refl H1)
theorem GL (ha:tH X a f)(hb:DL X (.BoolOp .Or (b::bq) pos) g):DL X (.BoolOp .Or (a::b::bq) pos) (tD f g):=by
 intro wh pins s σ H Q I ⟨Z,O,E,hq⟩;refine G5 ha hb wh pins s σ H Q I ?_
 obtain⟨Z1,O1,E1,h1⟩:=jF E hq;refine⟨Z1,O1,E1,Post.mono h1 λk H1 s1 q=> ?_⟩
 obtain⟨s',E',q'⟩:=q
 cases k with
 | true=>rw[if_pos rfl];exact q' H1 (Same.refl H1)
 | false=>rw[if_neg J3];exact⟨Z,O,E',by simpa using q'⟩
theorem qt_w {e:Expr}(h:DL X e f):tH X e f:=h.pt
theorem Ee (ha:tH X a f):tH X (.UnaryOp .Not a pos) (eF f):=by
 intro pins s σ H Q I ⟨Z,O,E,hq⟩;refine EG ha pins s σ H Q I ?_
 obtain⟨Z1,O1,E1,h1⟩:=jF E hq;exact⟨Z1,O1,E1,Post.mono h1 λk H1 s1 ⟨s',E',q'⟩=>q' H1 (Same.refl H1)⟩
def cU (f g:En->Rs T)(Z:En):Rs T:=do
 let x <-f Z
 match x with
 | .bl true=>g Z
 | .bl false=> .ok (.bl false)
 | _=> .bad
def zg (f g:En->Rs T)(Z:En):Rs T:=do
 let x <-f Z
 match x with
 | .bl true=> .ok (.bl true)
 | .bl false=>g Z
 | _=> .bad
def uh:T->Rs T
 | .bl k=> .ok (.bl (!k))
 | _=> .bad
theorem GU {op}(h:b7 X a fa):b7 X (.BoolOp op [a] pos) fa:=ET h
theorem G4 (ha:b7 X a fa)(hb:b7 X (.BoolOp .And (b::bq) pos) fb):b7 X (.BoolOp .And (a::b::bq) pos) (cU fa fb):=by
 intro pins s σ H Q I ⟨Z,O,E,hq⟩;refine EY ha hb pins s σ H Q I ?_
 obtain⟨Z1,O1,E1,h1⟩:=aW E hq;refine⟨Z1,O1,E1,Post.mono h1 λts H1 s1 q vs r=> ?_⟩
 obtain⟨t',r',s',E',q'⟩:=q vs r
 split at q'
 ·exact⟨true,Rep.FB.mp r',by rw[if_pos rfl];exact⟨Z,O,E',q'⟩⟩
 ·exact⟨false,Rep.FB.mp r',by rw[if_neg J3];exact q' H1 (Same.refl H1) _ (Rep.bl_ false)⟩
 ·exact q'.elim
theorem q_or (ha:b7 X a fa)(hb:b7 X (.BoolOp .Or (b::bq) pos) fb):b7 X (.BoolOp .Or (a::b::bq) pos) (zg fa fb):=by
 intro pins s σ H Q I ⟨Z,O,E,hq⟩;refine G9 ha hb pins s σ H Q I ?_
 obtain⟨Z1,O1,E1,h1⟩:=aW E hq;refine⟨Z1,O1,E1,Post.mono h1 λts H1 s1 q vs r=> ?_⟩
 obtain⟨t',r',s',E',q'⟩:=q vs r
 split at q'
 ·exact⟨true,Rep.FB.mp r',by rw[if_pos rfl];exact q' H1 (Same.refl H1) _ (Rep.bl_ true)⟩
 ·exact⟨false,Rep.FB.mp r',by rw[if_neg J3];exact⟨Z,O,E',q'⟩⟩
 ·exact q'.elim
theorem GV (ha:b7 X a fa):b7 X (.UnaryOp .Not a pos) (o1 uh fa):=by
 intro pins s σ H Q I ⟨Z,O,E,hq⟩;refine EU ha pins s σ H Q I ?_
 obtain⟨Z1,O1,E1,h1⟩:=aW E hq;refine⟨Z1,O1,E1,Post.mono h1 λts H1 s1 q vs r=> ?_⟩
 obtain⟨t',r',s',E',q'⟩:=q vs r;unfold uh at q'
 split at q'
 ·exact⟨_,Rep.FB.mp r',q' H1 (Same.refl H1) _ (Rep.bl_ _)⟩
 ·exact q'.elim
def DF (f:En->Rs Bool)(fa fb:En->Rs T)(Z:En):Rs T:=do
 let k <-f Z
 if k then fa Z else fb Z
theorem q_if (hc:tH X c f)(ha:b7 X a fa)(hb:b7 X b fb):b7 X (.IfExp c a b pos) (DF f fa fb):=by
 intro pins s σ H Q I ⟨Z,O,E,hq⟩;refine zc hc ha hb pins s σ H Q I ?_
 obtain⟨Z1,O1,E1,h1⟩:=jF E hq;refine⟨Z1,O1,E1,Post.mono h1 λk H1 s1 q=> ?_⟩
 obtain⟨s',E',q'⟩:=q
 cases k with
 | true=>rw[if_pos rfl];exact⟨Z,O,E',by simpa using q'⟩
 | false=>rw[if_neg J3];exact⟨Z,O,E',by simpa using q'⟩
end
end Tr
namespace HT
open PySem PyProof.Rows
section
variable {prog:J9}{w:Kx}{A:Km}{E:JK->JL->Prop}{s:JL}
theorem jb {t:Addr}{items:Array JK}{Q:Bool->JL->Prop}(ht:Rn s.heap t items)(h:Q true s):wpAny (model prog w) A (O8 (.ref t)) Q E s:=by
 unfold O8;refine JG (NG ht.typeIs (JN ?_))
 exact h
theorem getItem_tuple_whole {t sl:Addr}{items:Array JK}{vl vu:JK}{lo hi:Option Int}{Q:JK->JL->Prop}(ht:Rn s.heap t items)(hs:s.heap.IsSliceOf sl vl vu .none)(pl:Ru vl lo)(pu:Ru vu hi)
  (hw:sIx items.size 0 lo=0/\sIx items.size items.size hi=items.size) (h:Q (.ref t) s):wpAny (model prog w) A (getItem (.ref t) (.ref sl)) Q E s:=by
 obtain⟨os,hos,hcs,hds⟩:=id hs
 have hTs:s.TypeIs (.ref sl) "slice":=⟨os,hos,hcs⟩;unfold getItem
 try with_reducible refine Lk ?_
 first | refine JG (JN ?_) | skip
 refine JG (RZ ht.typeIs (by decide) ?_)
 refine JG (KN (name:=J0 "__getitem__") ht.typeIs KQ
  (KP KQ ht.typeIs Q2 ?_ (Rv _ _)))
 show wpAny _ _ (Nl (.ref t) >>= _) _ _ s
 refine JG (Rw ht ?_)
 refine JG (NG hTs ?_)
 rw[if_pos (by decide)]
 refine JG (f9 hs pl pu ?_)
 have hyes:(((sIx items.size 0 lo:Nat):Int) == 0&&(1:Int) == 1&&(sIx items.size items.size hi - sIx items.size 0 lo) == items.size)=true:=by
  rw[hw.1,hw.2];simp
 show wpAny _ _ (if (((sIx items.size 0 lo:Nat):Int) == 0&&(1:Int) == 1&&(sIx items.size items.size hi - sIx items.size 0 lo) == items.size)=true then _ else _) _ _ s
 rw[if_pos hyes]
 first
  | refine JG (jb ht ?_)
  | refine jb ht ?_
 try rw[if_pos rfl]
 first
  | exact JG (MR (JN ⟨_,rfl,JN h⟩))
  | exact JG (MR (JG (JN (JN ⟨_,rfl,JN h⟩))))
end
end HT
namespace Tr
open PySem PySem.Spec PyProof.Rows L2
section
variable {X:Cx}{a b c:Expr}{fa fb fc:En->Rs T}{pos:Pos}
theorem Reps.atI {K:JH}{O:Ow}{H:Hp}{l:List T}{vs:List V}{i:Int}{t:T}(r:Reps K O H l vs)(e:L2.atI l i=some t):∃v,L2.atI vs i=some v/\Rep K O H t v:=by
 unfold L2.atI at e ⊢;rw[r.length]at e
 cases q:ixN vs.length i with
 | none=>rw[q]at e;cases e
 | some j=>
  rw[q]at e;obtain⟨v,e1,e2⟩:=r.get (i:=j) (t:=t) e;exact⟨v,e1,e2⟩
def aS (x y:T):Rs T:=match x.items,y with
 | some l,.int i=>match L2.atI l i with
  | some t=> .ok t
  | none=> .bad
 | _,_=> .bad
theorem q_ix (ha:b7 X a fa)(hb:b7 X b fb)(hs:autoParam (wg b) x_):b7 X (.Subscript a b pos) (o2 aS fa fb):=by
 intro pins s σ H Q I ⟨Z,O,E,hq⟩
 have h1:=aW E hq;refine Subscript_ (bV (ha pins s σ H _ I h1) λv s1 hh_=> ?_)
 obtain⟨x,H1,I1,r1,t,rt,s',E',q1⟩:=hh_
 have h2:=aW (f:=fb) E' q1;refine bV (hb pins s1 σ H1 _ I1 h2) λu s2 hh_=> ?_
 obtain⟨y,H2,I2,r2,t2,rt2,s'',E'',q2⟩:=hh_
 have rt':=rt.same s'';unfold aS at q2
 split at q2
 ·rename_i l i hl
  split at q2
  ·rename_i z hz
   have hy:=Rep.Do.mp rt2;refine FH a b pins s2 σ H2 x y v u Q I2 r1 r2 ?_ (hs _ _)
   cases t with
   | tup m=>
    cases hl;obtain⟨p,vs,e,n,q,rr⟩:=Rep.Da.mp rt';obtain⟨w,ew,rw'⟩:=rr.atI hz
    exact .inr (.inl ⟨p,vs,i,w,e,hy,SqT.of q,ew,q2 H2 (Same.refl H2) _ rw'⟩)
   | lst m=>
    cases hl;obtain⟨p,vs,e,n,q,rr⟩:=Rep.Fk.mp rt';obtain⟨w,ew,rw'⟩:=rr.atI hz
    exact .inl ⟨p,vs,i,w,e,hy,SqL.of q,ew,q2 H2 (Same.refl H2) _ rw'⟩
   | scr m=>
    cases hl;unfold Rep at rt';obtain⟨p,e,n,q⟩:=rt';obtain⟨w,ew,rw'⟩:=(Reps.ints (K:=X.K) (O:=O) (H:=H2) (ns:=m)).atI hz
    exact .inl ⟨p,_,i,w,e,hy,q,ew,q2 H2 (Same.refl H2) _ rw'⟩
   | _=>cases hl
  ·exact q2.elim
 ·exact q2.elim
def qu (l:List T)(lo hi:Option Int):List T:=(l.drop (HT.sIx l.length 0 lo)).take (HT.sIx l.length l.length hi - HT.sIx l.length 0 lo)
theorem Reps.cut {K:JH}{O:Ow}{H:Hp}{l:List T}{vs:List V}(r:Reps K O H l vs)(lo hi:Option Int):Reps K O H (qu l lo hi) (sT vs lo hi):=by
 unfold qu sT;rw[r.length];exact(r.drop _).take _
theorem xG {l:List T}{lo hi:Option Int}(h:HT.sIx l.length 0 lo=0/\HT.sIx l.length l.length hi=l.length):qu l lo hi=l:=by
 unfold qu;rw[h.1,h.2];simp
theorem sl_tup_whole:SlR X (λx lo hi H Q=> ∃a xs,x= .ref a/\SqT X.K H a xs/\(HT.sIx xs.length 0 lo=0/\HT.sIx xs.length xs.length hi=xs.length)/\Q (.ref a) H):=by
 intro pins s σ H x v vl vu lo hi sl Q I rx hs pl pu h;obtain⟨a,xs,rfl,hx,hw,q⟩:=h;cases rx;obtain⟨its,r,ht,hz⟩:=I.tuple hx
 have hlen:its.toArray.size=xs.length:=by rw[J1];exact r.length.symm
 refine⟨"tuple",_,KQ.lookup,ht.typeIs,?_⟩
 exact HT.getItem_tuple_whole ht hs pl pu (by rw[hlen];exact hw) ⟨.ref a,H,I,rfl,q⟩
def pN (_:En):Rs (Option Int):=.ok none
def pS (f:En->Rs T)(Z:En):Rs (Option Int):=do
 let x <-f Z
 match x with
 | .int i=> .ok (some i)
 | _=> .bad
def tPO (X:Cx)(f:En->Rs (Option Int)):TO:=λσ H Q=> ∃Z O,EnvO X.K O H Z σ/\Post X H (f Z) λb H'=>Q b H'
abbrev Ij (X:Cx)(e:Option Expr)(f:En->Rs (Option Int)):Prop:=PO X e (tPO X f)
theorem BJ:Ij X none pN:=by
 intro pins s σ H Q I ⟨Z,O,E,hq⟩;exact B3 pins s σ H Q I (hq H (Same.refl H))
theorem BI (ha:b7 X a fa):Ij X (some a) (pS fa):=by
 intro pins s σ H Q I ⟨Z,O,E,hq⟩;refine B2 ha pins s σ H Q I ?_
 obtain⟨Z1,O1,E1,h1⟩:=aW E hq;refine⟨Z1,O1,E1,Post.mono h1 λts H1 s1 q vs r=> ?_⟩
 obtain⟨t',r',s',E',q'⟩:=q vs r
 split at q'
 ·exact⟨_,Rep.Do.mp r',q' H1 (Same.refl H1)⟩
 ·exact q'.elim
def slT (x:T)(lo hi:Option Int):Rs T:=match x with
 | .tup l=> .ok (.tup (qu l lo hi))
 | .lst l=> .ok (.lst (qu l lo hi))
 | _=> .bad
def sl (fe:En->Rs T)(fl fu:En->Rs (Option Int))(Z:En):Rs T:=do
 let x <-fe Z
 let l <-fl Z
 let u <-fu Z
 slT x l u
theorem qS {σ:L2.St}{H:Hp}{Z:En}{O:Ow}{α:Type}{f:En->Rs (Option Int)}{k:Option Int->Rs α}{Q:α->Hp->Prop}(E:EnvO X.K O H Z σ)(h:Post X H (f Z >>= k) Q) :
  tPO X f σ H λb H'=>Same H H'/\EnvO X.K O H' Z σ/\Post X H' (k b) Q:=
 ⟨Z,O,E,Post.mono h.bind λt H' s q=>⟨s,E.same s,q⟩⟩
theorem BQ {lo hi:Option Expr}{p2:Pos}{fl fu:En->Rs (Option Int)}(ha:b7 X a fa)(hl:Ij X lo fl)(hu:Ij X hi fu):b7 X (.Subscript a (.Slice lo hi none p2) pos) (sl fa fl fu):=by
 intro pins s σ H Q I ⟨Z,O,E,hq⟩;refine y9 (sl_tup.or (sl_tup_whole.or Br)) ha hl hu pins s σ H Q I ?_
 obtain⟨Z1,O1,E1,h1⟩:=aW E hq;refine⟨Z1,O1,E1,Post.mono h1 λts H1 s1 q vs r=> ?_⟩
 obtain⟨t',r',s',E',q'⟩:=q vs r;obtain⟨Z2,O2,E2,h2⟩:=qS E' q';refine⟨Z2,O2,E2,Post.mono h2 λo1 H2 s2 q=> ?_⟩
 obtain⟨s2',E2',q2⟩:=q;obtain⟨Z3,O3,E3,h3⟩:=qS E2' q2;refine⟨Z3,O3,E3,Post.mono h3 λo2 H3 s3 q=> ?_⟩
 obtain⟨s3',E3',q3⟩:=q
 have rt:=(r'.same s2').same s3';unfold slT at q3
 split at q3
 ·rename_i l
  obtain⟨p,ws,e,n,q,rr⟩:=Rep.Da.mp rt
  have hlen:=rr.length
  by_cases hw:HT.sIx ws.length 0 o1=0/\HT.sIx ws.length ws.length o2=ws.length
  ·refine .inr (.inl ⟨p,ws,e,SqT.of q,hw,?_⟩)
   rw[<-hlen]at hw;refine q3 H3 (Same.refl H3) _ ?_
   rw[xG hw];exact Rep.Da.mpr ⟨p,ws,rfl,n,q,rr⟩
  ·exact .inl ⟨p,ws,e,SqT.of q,hw,λp' hp=>q3 _ (aU hp _) _ (fj hp (E3'.fresh hp) (rr.cut o1 o2))⟩
 ·rename_i l
  obtain⟨p,ws,e,n,q,rr⟩:=Rep.Fk.mp rt;exact .inr (.inr ⟨p,ws,e,SqL.of q,λp' hp=>q3 _ (aU hp _) _ (gb hp (E3'.fresh hp) (rr.cut o1 o2))⟩)
 ·exact q3.elim
def CallT (X:Cx)(f:JK)(g:List T->Rs T):Prop:=
 ∀(pins:List (Addr×Obj)) (s:JL) (σ:L2.St) (H:Hp) (O:Ow) (ts:List T) (vs:List V) (us:List JK) (Q:VK),Inv X pins σ H s->(∀p,H p=none->¬ O p)->Reps X.K O H ts vs->Vals vs us →
  Post X H (g ts) (λt H'=> ∀v,Rep X.K O H' t v->Q v H')->wpAny (model X.prog X.w) X.A (call f us) (EP X pins σ Q) X.xe s
theorem CallT.of {f:JK}{r:List V->Hp->VK->Prop}(h:CallR X f r){g:List T->Rs T}
  (w:∀(H:Hp) (O:Ow) (ts:List T) (vs:List V) (Q:VK),(∀p,H p=none->¬ O p)->Reps X.K O H ts vs->Post X H (g ts) (λt H'=> ∀v,Rep X.K O H' t v->Q v H')->r vs H Q):CallT X f g:=
 λpins s σ H O ts vs us Q I hf rs rv hp=>h pins s σ H vs us Q I rv (w H O ts vs Q hf rs hp)
def cl (g:List T->Rs T)(fs:En->Rs (List T))(Z:En):Rs T:=fs Z >>= g
variable {e:Expr}{es:List Expr}{fs:En->Rs (List T)}{x:Str}{p:Pos}{id:String}{g:List T->Rs T}
theorem BS (hc:CallT X (.builtin id) g)(hm:X.mg x=none)(hv:Ky x=some (.builtin id))(ha:qG X (e::es) fs)(hg:autoParam (Gl X x) u_)(hn:autoParam (x≠ "__name__") s_)(hdb:autoParam ((x == ("__debug__" : Str))=false) s_)
  (he:autoParam (Kc (e::es) X.env=(false,eval e X.env)::Kc es X.env) u_) (hpl:autoParam ((backTo pos (Kc es X.env)).any (·.1)=false) u_):b7 X (.Call (.Name x p) (e::es) [] pos) (cl g fs):=by
 intro pins s σ H Q I ⟨Z,O,E,hq⟩;refine LB (fQ I hg hm hv ?_ hn hdb)
 have h1:=dX E hq;exact ME (bV (ha pos pins s σ H _ I h1) λus s1 ⟨vs,H1,I1,r1,ts,rs,s',E',q1⟩=>hc pins s1 σ H1 O ts vs us Q I1 (λp=>E'.fresh) rs r1 q1) he hpl
theorem yQ {Ty:String}(hc:CallT X (.type Ty) g)(hm:X.mg x=none)(hv:Ky x=some (.type Ty))(ha:qG X (e::es) fs)(hg:autoParam (Gl X x) u_)(hn:autoParam (x≠ "__name__") s_)(hdb:autoParam ((x == ("__debug__" : Str))=false) s_)
  (he:autoParam (Kc (e::es) X.env=(false,eval e X.env)::Kc es X.env) u_) (hpl:autoParam ((backTo pos (Kc es X.env)).any (·.1)=false) u_):b7 X (.Call (.Name x p) (e::es) [] pos) (cl g fs):=by
 intro pins s σ H Q I ⟨Z,O,E,hq⟩;refine LB (fQ I hg hm hv ?_ hn hdb)
 have h1:=dX E hq;exact K9 (bV (ha pos pins s σ H _ I h1) λus s1 ⟨vs,H1,I1,r1,ts,rs,s',E',q1⟩=>hc pins s1 σ H1 O ts vs us Q I1 (λp=>E'.fresh) rs r1 q1) he hpl
theorem Reps.one {K:JH}{O:Ow}{H:Hp}{t:T}{vs:List V}(r:Reps K O H [t] vs):∃v,vs= [v]/\Rep K O H t v:=by
 obtain⟨v,ws,rfl,p,q⟩:=Reps.me.mp r;cases Reps.AC.mp q;exact⟨v,rfl,p⟩
theorem Rep.sq {K:JH}{O:Ow}{H:Hp}{t:T}{v:V}{l:List T}(r:Rep K O H t v)(h:t.items=some l):∃a vs,v= .ref a/\¬ O a/\Reps K O H l vs/\(SqL K H a vs\/SqT K H a vs):=by
 cases t with
 | tup m=>cases h;obtain⟨a,vs,e,n,q,z⟩:=Rep.Da.mp r;exact⟨a,vs,e,n,z,.inr (SqT.of q)⟩
 | lst m=>cases h;obtain⟨a,vs,e,n,q,z⟩:=Rep.Fk.mp r;exact⟨a,vs,e,n,z,.inl (SqL.of q)⟩
 | scr m=>cases h;unfold Rep at r;obtain⟨a,e,n,q⟩:=r;exact⟨a,_,e,n,Reps.ints,.inl q⟩
 | _=>cases h
def cH:List T->Rs T
 | [.str x] =>if x.length<=sizeLine then .ok (.int x.length)else .bad
 | [x] =>match x.items with
  | some l=> .ok (.int l.length)
  | none=> .bad
 | _=> .bad
theorem cG:CallT X (.builtin "len") cH:=CallT.of (call_len_seq.or qy) λH O ts vs Q hf rs hp=>by
 unfold cH at hp
 split at hp
 ·obtain⟨v,rfl,r⟩:=rs.one
  split at hp
  ·rename_i h
   exact .inr ⟨_,by rw[Rep.GT.mp r],h,hp H (Same.refl H) _ (Rep.GM _)⟩
  ·exact hp.elim
 ·obtain⟨v,rfl,r⟩:=rs.one
  split at hp
  ·rename_i l hl
   obtain⟨a,vs,rfl,n,z,q⟩:=r.sq hl;exact .inl ⟨a,vs,rfl,q,hp H (Same.refl H) _ (by rw[<-z.length];exact Rep.GM _)⟩
  ·exact hp.elim
 ·exact hp.elim
def gm:List T->Rs T
 | [.tup l] => .ok (.tup l)
 | [.lst l] => .ok (.tup l)
 | _=> .bad
theorem jV:CallT X (.type "tuple") gm:=CallT.of nB λH O ts vs Q hf rs hp=>by
 unfold gm at hp
 split at hp
 ·obtain⟨v,rfl,r⟩:=rs.one
  obtain⟨a,ws,rfl,n,q,z⟩:=Rep.Da.mp r;exact⟨a,ws,rfl,.inr ⟨SqT.of q,hp H (Same.refl H) _ (Rep.Da.mpr ⟨a,ws,rfl,n,q,z⟩)⟩⟩
 ·obtain⟨v,rfl,r⟩:=rs.one
  obtain⟨a,ws,rfl,n,q,z⟩:=Rep.Fk.mp r;exact⟨a,ws,rfl,.inl ⟨SqL.of q,λl hl=>hp _ (aU hl _) _ (fj hl (hf l hl) z)⟩⟩
 ·exact hp.elim
def z9:List T->Rs T
 | [.int i] => .ok (.int i)
 | [.bl k] => .ok (.int (if k then 1 else 0))
 | _=> .bad
theorem F9:CallT X (.type "int") z9:=CallT.of xJ λH O ts vs Q hf rs hp=>by
 unfold z9 at hp
 split at hp
 ·obtain⟨v,rfl,r⟩:=rs.one
  exact .inl ⟨_,by rw[Rep.Do.mp r],hp H (Same.refl H) _ (Rep.GM _)⟩
 ·obtain⟨v,rfl,r⟩:=rs.one
  exact .inr ⟨_,by rw[Rep.FB.mp r],hp H (Same.refl H) _ (Rep.GM _)⟩
 ·exact hp.elim
def mO:List T->Option (List Bool)
 | [] =>some []
 | .bl k::r=>(mO r).map (k:: ·)
 | _=>none
def nC:List T->Rs T
 | [.lst l] =>match mO l with
  | some ks=> .ok (.bl (ks.all λk=>k))
  | none=> .bad
 | _=> .bad
theorem mM {K:JH}{O:Ow}{H:Hp}:∀{l:List T} {ks:List Bool} {vs:List V} {us:List JK},mO l=some ks->Reps K O H l vs->Vals vs us->us=ks.map K7
 | [],ks,vs,us,e,r,v=>by cases e;cases Reps.AC.mp r;cases v;rfl
 | t::l,ks,vs,us,e,r,v=>by
  obtain⟨w,ws,rfl,p,q⟩:=Reps.me.mp r
  cases t with
  | bl k=>
   unfold mO at e
   cases z:mO l with
   | none=>rw[z]at e;cases e
   | some ks'=>
    rw[z]at e;cases e
    cases v with
    | cons v1 v2=>
     cases Rep.FB.mp p;cases v1
     rw[mM z q v2];rfl
  | _=>cases e
theorem qv (hc:X.calm=true):CallT X (.builtin "all") nC:=by
 intro pins s σ H O ts vs us Q I hf rs rv hp;unfold nC at hp
 split at hp
 ·obtain⟨v,rfl,r⟩:=rs.one
  split at hp
  ·rename_i ks hk
   obtain⟨a,ws,rfl,n,q,z⟩:=Rep.Fk.mp r;obtain⟨u,rfl,ru⟩:=ja rv;cases ru;obtain⟨its,r',pl,hz⟩:=I.list (SqL.of q)
   have hits:=mM hk z r';refine call_all_walk (Nk pl.isList ?_)
   have hne:a≠s.heap.objs.size:=λe=>by
    obtain⟨o,ho,_⟩:=pl.isList;rw[e]at ho;exact absurd (JV ho) (Ki _)
   refine⟨s.heap.objs.size,_,_,_,_,_,λi=>(ks[i]?).getD true,rfl,Walks.list (A:=X.A.in1) (I.ok.hd hc) s.heap.objs.size a hne its.toArray,⟨⟨_,JS _ rfl,rfl,rfl⟩,?_⟩,?_,?_⟩
   ·obtain⟨o,ho,hh⟩:=pl.isList
    exact⟨o,JI _ ho,hh⟩
   ·intro i v s' Q' E' hP hQ'
    subst hits
    dsimp only at hQ'
    have hP':(ks.map K7)[i]? =some v:=by simpa using hP
    rw[Kk]at hP'
    cases e:ks[i]? with
    | none=>rw[e]at hP';cases hP'
    | some k=>
     rw[e]at hP' hQ';cases hP';exact K5 hQ'
   ·intro h' tk hk'
    have hlen:its.toArray.size=ks.length:=by rw[hits];simp
    have e:((J2 its.toArray.size).all λi=>(ks[i]?).getD true)=(ks.all λk=>k):=by
     rw[hlen];rw[NM,Ka,Ka]
     constructor
     ·intro h x hx
      obtain⟨i,hi,rfl⟩:=KZ hx
      have:=h i (Kz.mpr hi)
      simpa [hi]using this
     ·intro h i hi
      have hi':=Kz.mp hi
      have:=h ks[i] (K1 hi')
      simpa [hi']using this
    rw[e]
    have I1:Inv X pins σ H { s with heap:=s.heap.push { cls:=.type "list_iterator",data:=.fields #[.ref a,.int 0 0] } }:=I.kept (t':=s.toks) λb o e=>JI _ e
    have I2:Inv X pins σ H { s with heap:=h',toks:=tk }:=by
     have:=I1.turned (h':=h') (t':=tk) (it:=s.heap.objs.size) (λb o hb e=>hk' b o (by simpa using hb) e) (I.hok.fresh (JW _))
      (LV I.lt) (.inr I.sz) (λx c e z=> ?_) (λp hp z=> ?_)
     ·exact this
     ·obtain⟨v,q⟩:=I.cell x c e
      exact absurd (JY q.lt (NF z.symm)) (Ki _)
     ·exact absurd (JY (JV (I.pin p hp).1) (NF z.symm)) (Ki _)
    exact⟨.bl _,H,I2,rfl,hp H (Same.refl H) _ (Rep.bl_ _)⟩
  ·exact hp.elim
 ·exact hp.elim
end
def five (i b t l s:Bool)(Ty:String):Option Bool:=match Ty with
 | "int" =>some i | "bool" =>some b | "tuple" =>some t | "list" =>some l | "str" =>some s
 | _=>none
def vL (n Ty:String):Option Bool:=match n with
 | "NoneType" =>five false false false false false Ty
 | "bool" =>five true true false false false Ty
 | "int" =>five true false false false false Ty
 | "str" =>five false false false false true Ty
 | "tuple" =>five false false true false false Ty
 | "list" =>five false false false true false Ty
 | _=>none
theorem xt (K:JH){n Ty:String}{b:Bool}(h:vL n Ty=some b):PySem.W.kitOne K (.type n) (.type Ty)=some b:=by
 unfold vL at h
 split at h <;> first | (cases h;done) | (unfold five at h;split at h <;> first | (cases h;done) | (cases h;kernel_rfl))
def CB (Ty:String)(t:T):Rs T:=match t.ty with
 | some n=>match vL n Ty with
  | some b=> .ok (.bl b)
  | none=> .bad
 | none=> .bad
theorem Rep.JB {K:JH}{O:Ow}{H:Hp}{t:T}{v:V}{n:String}(r:Rep K O H t v)(h:t.ty=some n):kD K H v (.type n):=by
 cases t with
 | non=>cases h;cases Rep.IM.mp r;exact .non
 | bl b=>cases h;cases Rep.FB.mp r;exact .bl b
 | int b=>cases h;cases Rep.Do.mp r;exact .int b
 | str b=>cases h;cases Rep.GT.mp r;exact .str b
 | tup l=>cases h;obtain⟨a,vs,rfl,_,q,_⟩:=Rep.Da.mp r;exact .tup q
 | lst l=>cases h;obtain⟨a,vs,rfl,_,q,_⟩:=Rep.Fk.mp r;exact .lst q
 | scr l=>cases h
 | dct _ _=>cases h
 | ob _ _ _=>cases h
section
variable {X:Cx}{a b c e:Expr}{es:List Expr}{fa fb fc:En->Rs T}{fs:En->Rs (List T)}{pos p p2:Pos}{x:Str}
theorem k4:Ky "isinstance" =some (.builtin "isinstance"):=by decide+kernel
theorem GZ {tn:Str}{Ty:String}(hm:X.mg "isinstance" =none)(hmt:X.mg tn=none)(hv:Ky tn=some (.type Ty))(ha:b7 X a fa)(hg:autoParam (Gl X "isinstance") u_)(hgt:autoParam (Gl X tn) u_)
  (hn:autoParam (tn≠ "__name__") s_) (hd:autoParam ((tn == ("__debug__" : Str))=false) s_)
  (he:autoParam (Kc [a,.Name tn p2] X.env=(false,eval a X.env)::Kc [.Name tn p2] X.env) u_) (hpl:autoParam ((backTo pos (Kc [.Name tn p2] X.env)).any (·.1)=false) u_)
  (hs:autoParam (Kc [.Name tn p2] X.env=(false,eval (.Name tn p2) X.env)::Kc [] X.env) u_) :
  b7 X (.Call (.Name "isinstance" p) [a,.Name tn p2] [] pos) (o1 (CB Ty) fa):=by
 intro pins s σ H Q I ⟨Z,O,E,hq⟩;refine LB (fQ I hg hm k4 ?_ (by decide) (by decide))
 have hA:PA X [a,.Name tn p2] (yx (tP X fa) (yx (tC (.ty Ty)) Gv)):=iF ha (iF (Cd (v:=.ty Ty) hgt hmt hv rfl hn hd) lR hs) he;obtain⟨Z1,O1,E1,h1⟩:=aW E hq;refine ME (bV (hA pos pins s σ H (λvs H'=> ∃v t,vs= [v,.ty Ty]/\Rep X.K O H' t v/\Post X H' (CB Ty t) (λt H'=> ∀v,Rep X.K O H' t v->Q v H')) I ?_) λus s1 ⟨vs,H1,I1,r1,v,t,e1,rt,q⟩=> ?_) he hpl
 ·refine⟨Z1,O1,E1,Post.mono h1 λts H1 s1 q vs r=> ?_⟩
  obtain⟨t',r',s',E',q'⟩:=q vs r;exact⟨vs,t',rfl,r',q'⟩
 ·subst e1
  obtain⟨u,w',rfl,ru,rw'⟩:=Dj r1;cases rw';unfold CB at q
  split at q
  ·rename_i n hn'
   split at q
   ·rename_i bb hb
    exact xq I1 ru (rt.JB hn') (xt _ hb) λtk=>⟨.bl bb,H1,I1.tok _,rfl,q H1 (Same.refl H1) _ (Rep.bl_ _)⟩
   ·exact q.elim
  ·exact q.elim
def spP (K:JH)(n:Nat)(g:List T->Rs T):Sp:=λvs H Q _=> ∃ts O,Reps K O H ts vs/\(∀a,O a->Mtb H a)/\ts.length=n ∧
 match g ts with
 | .ok t=> ∀v H',Same H H'->Rep K O H' t v->Q v H'
 | _=>False
def RzC (P:J9)(w:Kx)(mg:Str->Option JK)(outer:List Env)(H:Hp)(s:JL)(c:Str)(ev:JK)(s':JL):Prop:=
 ∃e T C H',ev= .ref e/\mg c=some (.ref C)/\s'.os=s.os/\PY s'.gens/\Un (qh outer) [] H H' s.heap s'.heap/\HOk P w H' s'.heap/\Same H H'/\H' e=none/\s.heap.get? e=none/\IH s'.heap C e (some T)/\H' T=none/\s.heap.get? T=none
def FnX (P:J9)(w:Kx)(K:JH)(mg:Str->Option JK)(base:Heap)(k:Nat)(f:Addr)(fd:L0)(ps:List Str)(n:Nat)(g:List T->Rs T):Prop:=
 ∀(A:Km) (outer:List Env) (s:JL) (H:Hp) (args:Args) (us:List JK) (vs:List V) (O:Ow) (ts:List T) (c:Str) (R:S4->JL->Prop),Room k A->AW P w K mg base A outer s H->RY s fd args (ps.zip us)->Vals vs us →
  Reps K O H ts vs->(∀a,O a->Mtb H a)->ts.length=n->g ts= .err c->(∀ev s',RzC P w mg outer H s c ev s'->R (.error ev) s')->codeAny (model P w) A (.call (.ref f) args) R s
structure Gi (P:J9)(w:Kx)(K:JH)(mg:Str->Option JK)(base:Heap)(k:Nat)(f:Addr)(fd:L0)(ps:List Str)(n:Nat)(g:List T->Rs T):Prop where
 h:qH P w K mg base CX0 k f fd ps (spP K n g)
 x:FnX P w K mg base k f fd ps n g
theorem zj {P:J9}{w:Kx}{H:Hp}{h:Heap}{a:Addr}{o:HO}(x:ObjOk P w H h a o):∃u,h.get? a=some u:=by
 cases o with
 | lst xs=>obtain⟨_,_,_,_,e⟩:=x;exact⟨_,e⟩
 | tup xs=>obtain⟨_,_,_,ob,e,_⟩:=x;exact⟨_,e⟩
 | dK kvs=>obtain⟨_,_,_,_,o,_,_,e,_⟩:=x;exact⟨_,e⟩
 | dT kvs=>obtain⟨_,_,_,_,o,_,_,e,_⟩:=x;exact⟨_,e⟩
 | set S n=>obtain⟨o,_,_,_,e,_⟩:=x;exact⟨_,e⟩
 | ins C dx fs=>obtain⟨_,_,_,e,_⟩:=x;exact⟨_,e⟩
 | own y=>obtain⟨_,e⟩:=x;exact⟨_,e⟩
 | xd fs=>obtain⟨_,⟨_,_,_,e,_⟩,_⟩:=x;exact⟨_,e⟩
 | rng lo hi=>obtain⟨_,_,_,e⟩:=x;exact⟨_,e⟩
 | frz ob u=>obtain⟨e,_⟩:=x;exact⟨_,e⟩
 | tbl ps=>exact⟨_,(show h.get? a=some _ from x)⟩
 | met f y=>exact⟨_,(show h.get? a=some _ from x)⟩
 | ext φ=>obtain⟨_,⟨_,e⟩,_⟩:=x;exact⟨_,e⟩
theorem rQ {X:Cx}{pins:List (Addr×Obj)}{σ:L2.St}{H:Hp}{s:JL}(I:Inv X pins σ H s){e:Addr}(n:s.heap.get? e=none):H e=none:=by
 cases z:H e with
 | none=>rfl
 | some o=>
  obtain⟨o',ho'⟩:=zj (I.hok e o z);rw[n]at ho';cases ho'
theorem pV {X:Cx}{pins:List (Addr×Obj)}{σ:L2.St}{H:Hp}{s:JL}(I:Inv X pins σ H s)(hex:X.ex= []){e:Addr}(n:s.heap.get? e=none):X.s₀.heap.get? e=none:=by
 cases z:X.s₀.heap.get? e with
 | none=>rfl
 | some o=>
  obtain⟨o',ho'⟩:=I.base.there e o z (by rw[hex];simp)
  rw[n]at ho';cases ho'
theorem EC {n k:Nat}{f:Addr}{fd:L0}{ps:List Str}{g:List T->Rs T}(F:Gi X.prog X.w X.K X.mg X.base k f fd ps n g)(hr:Room k X.A)(hm:X.mg x=some (.ref f))(hk:N9 X.K (.ref f)=true)(hb:Binds X.K fd ps [])(hps:ps.length=n)
  (hl:∀Z ts,fs Z= .ok ts->ts.length=n) (ha:qG X (e::es) fs) (hg:autoParam (Gl X x) u_) (hdb:autoParam ((x == ("__debug__" : Str))=false) s_) (he:autoParam (Kc (e::es) X.env=(false,eval e X.env)::Kc es X.env) u_) (hpl:autoParam ((backTo pos (Kc es X.env)).any (·.1)=false) u_) :
  b7 X (.Call (.Name x p) (e::es) [] pos) (cl g fs):=by
 intro pins s σ H Q I ⟨Z,O,E,hq⟩
 have hq':Post X H (fs Z >>= g) λt H'=> ∀v,Rep X.K O H' t v->Q v H':=hq
 cases q:fs Z with
 | bad=>rw[q]at hq';exact hq'.elim
 | err c=>
  rw[q]at hq';refine vj (E:=E0) F.h hr hg hm hk hb .nil Du ha hdb he hpl pins s σ H Q I ⟨Z,O,E,?_⟩
  rw[q]
  exact hq'
 | ok ts=>
  rw[q]at hq'
  have hq2:Post X H (g ts) λt H'=> ∀v,Rep X.K O H' t v->Q v H':=hq'
  cases q2:g ts with
  | bad=>rw[q2]at hq2;exact hq2.elim
  | ok t=>
   rw[q2]at hq2;refine vj (E:=E0) F.h hr hg hm hk hb .nil Du ha hdb he hpl pins s σ H Q I ⟨Z,O,E,?_⟩
   rw[q];intro H1 s1 vs rs;rw[LW];refine⟨ts,O,rs,(E.same s1).mtb,hl Z ts q,?_⟩
   rw[q2]
   exact λv H' s2 r=>hq2 H' (s1.trans s2) v r
  | err c=>
   rw[q2]at hq2;refine LB (lq I hg hm ?_ hdb)
   refine Q6 (h₀:=X.base) I.ok.mod.kin hk (bV (ha pos pins s σ H (λvs H'=>Same H H'/\Reps X.K O H' ts vs) I ⟨Z,O,E,?_⟩) (λus s1 ⟨vs,H1,I1,r,sm,rs⟩=>⟨I1.kIn,?_⟩)) he hpl
   ·rw[q];exact λH' sm vs rs=>⟨sm,rs⟩
   ·have hlen:us.length=ps.length:=by rw[<-r.length,<-rs.length,hl Z ts q,hps]
    have hb':=hb s1 us I1.kIn (by rw[LW];exact hlen)
    rw[LW]at hb';refine wpAny_call (Om (F.x X.A X.stack s1 H1 ⟨us,[]⟩ us vs O ts c (λr s'=>match r with | .error ev=>X.xe ev s' | _=>False) hr I1.Ju hb' r rs (E.same sm).mtb (hl Z ts q) q2 λev s' w=> ?_) λr s' hq=> ?_)
    ·obtain⟨ea,T,C,H',rfl,hmc,ho,hbare,hun,hok,sm2,hea,heo,fl,hT,hTo⟩:=w
     have I2:Inv X pins σ H' s':=I1.Jg ho hun hok hbare (λb z=>absurd z (by simp))
     exact hq2 pins _ _ ⟨ea,some T,C,σ,H',rfl,hmc,I2,λb o q _=>sm2 b o (sm b o q),hea,λhex=>pV I1 hex heo,fl,(λt zt=>by cases zt;exact⟨hT,λhex=>pV I1 hex hTo⟩),λpp hpp=>⟨λzz=>(by have:=(I1.pin pp hpp).1;rw[zz,heo]at this;cases this),λzz=>(by cases zz;have:=(I1.pin pp hpp).1;rw[hTo]at this;cases this)⟩⟩
    ·cases r with
     | error ev=>exact hq
     | ok fl=>exact hq.elim
def AX (X:Cx)(g:T->En->Rs En):TG:=λv σ H Q=> ∃Z O M t,EnvM X.K O M H Z σ/\Rep X.K O H t v/\match g t Z with
 | .ok Z'=> ∀σ',EnvM X.K O M H Z' σ'->Q σ' H
 | _=>False
abbrev Dd (X:Cx)(tg:Expr)(g:T->En->Rs En):Prop:=PG X tg (AX X g)
def tPGs (X:Cx)(g:List T->En->Rs En):C8:=λvs σ H Q=> ∃Z O M ts,EnvM X.K O M H Z σ/\Reps X.K O H ts vs/\match g ts Z with
 | .ok Z'=> ∀σ',EnvM X.K O M H Z' σ'->Q σ' H
 | _=>False
abbrev AU (X:Cx)(tg:List Expr)(g:List T->En->Rs En):Prop:=PGs X tg (tPGs X g)
theorem PG.imp {X:Cx}{e:Expr}{t t':TG}(h:PG X e t)(w:∀v σ H Q,t' v σ H Q->t v σ H Q):PG X e t':=λpins s σ H v u Q I r q=>h pins s σ H v u Q I r (w v σ H Q q)
theorem PGs.imp {X:Cx}{e:List Expr}{t t':C8}(h:PGs X e t)(w:∀v σ H Q,t' v σ H Q->t v σ H Q):PGs X e t':=λpins s σ H v u Q I r q=>h pins s σ H v u Q I r (w v σ H Q q)
def gN (i:Nat)(t:T)(Z:En):Rs En:=if i<Z.length then .ok (Z.set i (.va t))else .bad
theorem EnvM.set {K:JH}{O:Ow}{M:Mn}{H:Hp}{Z:En}{σ:L2.St}{i:Nat}{t:T}{v:V}(E:EnvM K O M H Z σ)(hi:i<Z.length)(r:Rep K O H t v):EnvM K O M H (Z.set i (.va t)) (σ.set i (some v)) where
 len:=by rw[Lw,Lw];exact E.len
 val:=λj u e=>by
  by_cases hj:i=j
  ·subst hj
   rw[Ko hi]at e
   cases e;exact⟨v,Ko (by rw[<-E.len];exact hi),r⟩
  ·rw[Kj hj]at e
   obtain⟨w,e1,e2⟩:=E.val j u e;exact⟨w,by rw[Kj hj];exact e1,e2⟩
 own:=λj o e=>by
  by_cases hj:i=j
  ·subst hj
   rw[Ko hi]at e
   cases e
  ·rw[Kj hj]at e
   obtain⟨w,e1,e2⟩:=E.own j o e;exact⟨w,by rw[Kj hj];exact e1,e2⟩
 sub:=E.sub
 dis:=E.dis
 trk:=E.trk
theorem BO (i:Nat)(hN:X.N.Nodup)(hi:autoParam (X.N[i]? =some x) u_)(hx:autoParam (Loc X.env.scope x) y_)(hf:autoParam (X.fn x=true\/X.env.scope.names.lookup x=some .local) r_):Dd X (.Name x pos) (gN i):=
 PG.imp (B9 hN hi hx hf) λv σ H Q hh_=>by
  obtain⟨Z,O,M,t,E,r,h⟩:=hh_;unfold gN at h
  split at h
  ·rename_i Z' e
   split at e
   ·rename_i hl
    cases e;exact h _ (E.set hl r)
   ·cases e
  ·exact h.elim
def sv (ts:List T)(Z:En):Rs En:=match ts with
 | [] => .ok Z
 | _=> .bad
def jy (g:T->En->Rs En)(gs:List T->En->Rs En)(ts:List T)(Z:En):Rs En:=match ts with
 | t::r=>do
  let Z1 <-g t Z
  gs r Z1
 | [] => .bad
theorem BN:AU X [] sv:=PGs.imp B8 λvs σ H Q hh_=>by
 obtain⟨Z,O,M,ts,E,r,h⟩:=hh_;unfold sv at h
 cases ts with
 | nil=>exact⟨Reps.AC.mp r,h σ E⟩
 | cons _ _=>exact h.elim
theorem yN {g:T->En->Rs En}{gs:List T->En->Rs En}(h1:Dd X e g)(h2:AU X es gs)
  (hs:autoParam ((LK (e::es) X.env).map (·.2)=assign e X.env::(LK es X.env).map (·.2)) u_):AU X (e::es) (jy g gs):=
 PGs.imp (y8 h1 h2 hs) λvs σ H Q hh_=>by
  obtain⟨Z,O,M,ts,E,r,h⟩:=hh_
  cases ts with
  | nil=>exact h.elim
  | cons t ts=>
   obtain⟨v,ws,rfl,p,q⟩:=Reps.me.mp r;refine⟨v,ws,rfl,Z,O,M,t,E,p,?_⟩
   unfold jy at h
   cases e1:g t Z with
   | bad=>simp[e1]at h
   | err c=>simp[e1]at h
   | ok Z1=>
    intro σ1 E1;refine⟨Z1,O,M,ts,E1,q,?_⟩
    simp only[e1,aB]at h
    cases e2:gs ts Z1 with
    | bad=>simp[e2]at h
    | err c=>simp[e2]at h
    | ok Z2=>
     simp only[e2]at h;exact λσ2 E2=>h σ2 E2
def gT (n:Nat)(gs:List T->En->Rs En)(t:T)(Z:En):Rs En:=match t with
 | .tup l=>if l.length=n then gs l Z else .bad
 | _=> .bad
theorem Ey {k n:Nat}{gs:List T->En->Rs En}(hc:X.calm=true)(h:AU X es gs)(hn:autoParam ((LK es X.env).length=n) u_)(hst:autoParam ((LK es X.env).findIdx? (·.1)=none) u_):Dd X (.Tuple es k pos) (gT n gs):=
 PG.imp (ER hc h hn hst) λv σ H Q hh_=>by
  obtain⟨Z,O,M,t,E,r,h⟩:=hh_;unfold gT at h
  cases t with
  | tup l=>
   obtain⟨a,vs,rfl,n',q,z⟩:=Rep.Da.mp r
   by_cases hl:l.length=n
   ·simp only[if_pos hl]at h
    exact⟨a,vs,rfl,SqT.of q,by rw[<-z.length];exact hl,Z,O,M,l,E,z,h⟩
   ·simp only[if_neg hl]at h
  | _=>exact h.elim
theorem SqL.nn {K:JH}{H:Hp}{a:Addr}{vs:List V}(q:SqL K H a vs):¬ Nw K H a:=λ⟨h1,h2⟩=>by
 rcases q with(q | ⟨o,q⟩) | ⟨o,_,_,q,_⟩
 ·rw[h1]at q;cases q
 ·rw[h1]at q;cases q
 ·rw[h2]at q;cases q
mutual
theorem Rep.more {K:JH}{O O':Ow}{H:Hp}(sub:∀a,O' a->O a\/Nw K H a):∀{t:T} {v:V},Rep K O H t v->Rep K O' H t v
 | .non,_,r=>by unfold Rep at r ⊢;exact r
 | .bl _,_,r=>by unfold Rep at r ⊢;exact r
 | .int _,_,r=>by unfold Rep at r ⊢;exact r
 | .str _,_,r=>by unfold Rep at r ⊢;exact r
 | .tup l,_,r=>by
  unfold Rep at r ⊢;obtain⟨a,vs,e,n,q,z⟩:=r
  exact⟨a,vs,e,λp=>(sub a p).elim n λw=>(by rw[w.1]at q;cases q),q,Reps.more sub z⟩
 | .lst l,_,r=>by
  unfold Rep at r ⊢;obtain⟨a,vs,e,n,q,z⟩:=r
  exact⟨a,vs,e,λp=>(sub a p).elim n λw=>(by rw[w.1]at q;cases q),q,Reps.more sub z⟩
 | .scr l,_,r=>by
  unfold Rep at r ⊢;obtain⟨a,e,n,q⟩:=r
  exact⟨a,e,λp=>(sub a p).elim n λw=>Tr.SqL.nn q w,q⟩
 | .dct ks ts,_,r=>by
  unfold Rep at r ⊢;obtain⟨a,kvs,e,n,q,k,z⟩:=r
  exact⟨a,kvs,e,λp=>(sub a p).elim n λw=>(by rcases q with q | ⟨_,q⟩ <;> rw[w.1]at q <;> cases q),q,k,Reps.more sub z⟩
 | .ob C ns ts,_,r=>by
  unfold Rep at r ⊢;obtain⟨a,dx,fs,e,n,q,k,z⟩:=r;exact⟨a,dx,fs,e,⟨⟨λp=>(sub a p).elim n.1.1 λw=>(by rw[w.1]at q;cases q),λp=>(sub dx p).elim n.1.2.1 λw=>(by have:=n.1.2.2;rw[w.1]at this;cases this),n.1.2.2⟩,n.2⟩,q,k,Reps.more sub z⟩
theorem Reps.more {K:JH}{O O':Ow}{H:Hp}(sub:∀a,O' a->O a\/Nw K H a):∀{l:List T} {vs:List V},Reps K O H l vs->Reps K O' H l vs
 | [],_,r=>by unfold Reps at r ⊢;exact r
 | t::l,_,r=>by
  unfold Reps at r ⊢;obtain⟨v,ws,e,p,q⟩:=r;exact⟨v,ws,e,Rep.more sub p,Reps.more sub q⟩
end
theorem Rep.move {K:JH}{O O' P:Ow}{H H':Hp}{t:T}{v:V}(hP:∀a,P a->O a\/Nw K H a)(hO:∀a,O' a->O a\/Nw K H a)(h:SameO P H H')(r:Rep K O H t v):Rep K O' H' t v:=
 Rep.less (O:=λa=>O' a\/P a) (λ_ z=> .inl z) (Rep.keep h (λ_ z=> .inr z) (Rep.more (λa z=>z.elim (hO a) (hP a)) r))
theorem Reps.move {K:JH}{O O' P:Ow}{H H':Hp}{t:List T}{v:List V}(hP:∀a,P a->O a\/Nw K H a)(hO:∀a,O' a->O a\/Nw K H a)(h:SameO P H H')(r:Reps K O H t v):Reps K O' H' t v:=
 Reps.less (O:=λa=>O' a\/P a) (λ_ z=> .inl z) (Reps.keep h (λ_ z=> .inr z) (Reps.more (λa z=>z.elim (hO a) (hP a)) r))
def ItT (K:JH)(O:Ow)(H:Hp)(ts:List T)(J:It):Prop:=∀(P O':Ow),(∀a,P a->O a\/Nw K H a)->(∀a,O' a->O a\/Nw K H a)->∀(i:Nat) (Hc:Hp),SameO P H Hc->(∀a,O' a->∃o,Hc a=some o) →
 (ts.length<=i->J.stop i Hc)/\(∀t,ts[i]? =some t->J.go i Hc/\∀x Hc',J.yld i Hc x Hc'->Same Hc Hc'/\Rep K O' Hc' t x)
def tPI (X:Cx)(f:En->Rs (List T)):TI:=λσ H R=> ∃Z O,EnvO X.K O H Z σ/\Post X H (f Z) λts H'=> ∀J,ItT X.K O H' ts J->R J H'
abbrev AS (X:Cx)(tg iter:Expr)(f:En->Rs (List T)):Prop:=PI X tg iter (tPI X f)
theorem PI.imp {tg iter:Expr}{t t':TI}(h:PI X tg iter t)(w:∀σ H R,t' σ H R->t σ H R):PI X tg iter t':=λpins s σ H R I q=>h pins s σ H R I (w σ H R q)
def iL (f:En->Rs T)(Z:En):Rs (List T):=do
 let x <-f Z
 match x with
 | .lst l=> .ok l
 | _=> .bad
def iT (f:En->Rs T)(Z:En):Rs (List T):=do
 let x <-f Z
 match x with
 | .tup l=> .ok l
 | _=> .bad
theorem vg {tg:Expr}(ha:b7 X a fa):AS X tg a (iL fa):=PI.imp (B6 ha) λσ H R hh_=>by
 obtain⟨Z,O,E,h⟩:=hh_;obtain⟨Z1,O1,E1,h1⟩:=aW E h;refine⟨Z1,O1,E1,Post.mono h1 λts H1 s1 q vs r=> ?_⟩
 obtain⟨t',r',s',E',q'⟩:=q vs r
 split at q'
 ·rename_i l
  obtain⟨a,ws,rfl,n,q,z⟩:=Rep.Fk.mp r';refine⟨a,rfl,⟨ws,SqL.of q⟩,q' H1 (Same.refl H1) _ λP O' hP hO i Hc hs ht=> ?_⟩
  have hnP:¬ P a:=λz=>(hP a z).elim n λw=>by rw[w.1]at q;cases q
  refine⟨λhi=>⟨ws,SqL.of (hs _ _ q hnP),by rw[<-z.length];exact hi⟩,λt ht'=> ?_⟩
  obtain⟨v,e1,e2⟩:=z.get ht';refine⟨⟨ws,v,SqL.of (hs _ _ q hnP),e1⟩,λx Hc' y=> ?_⟩
  obtain⟨e,y⟩:=y;subst e
  have:=y ws (SqL.of (hs _ _ q hnP));rw[e1]at this;cases this;exact⟨Same.refl _,e2.move hP hO hs⟩
 ·exact q'.elim
theorem Ew {tg:Expr}(ha:b7 X a fa):AS X tg a (iT fa):=PI.imp (EO ha) λσ H R hh_=>by
 obtain⟨Z,O,E,h⟩:=hh_;obtain⟨Z1,O1,E1,h1⟩:=aW E h;refine⟨Z1,O1,E1,Post.mono h1 λts H1 s1 q vs r=> ?_⟩
 obtain⟨t',r',s',E',q'⟩:=q vs r
 split at q'
 ·rename_i l
  obtain⟨a,ws,rfl,n,q,z⟩:=Rep.Da.mp r';refine⟨a,rfl,⟨ws,SqT.of q⟩,q' H1 (Same.refl H1) _ λP O' hP hO i Hc hs ht=> ?_⟩
  have hnP:¬ P a:=λz=>(hP a z).elim n λw=>by rw[w.1]at q;cases q
  refine⟨λhi=>⟨ws,SqT.of (hs _ _ q hnP),by rw[<-z.length];exact hi⟩,λt ht'=> ?_⟩
  obtain⟨v,e1,e2⟩:=z.get ht';refine⟨⟨ws,v,SqT.of (hs _ _ q hnP),e1⟩,λx Hc' y=> ?_⟩
  obtain⟨e,y⟩:=y;subst e
  have:=y ws (SqT.of (hs _ _ q hnP));rw[e1]at this;cases this;exact⟨Same.refl _,e2.move hP hO hs⟩
 ·exact q'.elim
def rng (lo hi:Int):List T:=(J2 (hi - lo).toNat).map λ(k:Nat)=>T.int (lo+(k:Int))
def A0 (i:Int):Bool:=decide (-(2 ^ 62)<=i)&&decide (i<2 ^ 62)
def iR (f:En->Rs (List T))(Z:En):Rs (List T):=do
 let x <-f Z
 match x with
 | [.int j] =>if A0 j then .ok (rng 0 j)else .bad
 | [.int i,.int j] =>if A0 i&&A0 j then .ok (rng i j)else .bad
 | _=> .bad
theorem qf {i:Int}(h:A0 i=true) : -(2 ^ 62)<=i/\i<2 ^ 62:=by
 unfold A0 at h;rw[JM]at h;exact⟨of_decide_eq_true h.1,of_decide_eq_true h.2⟩
theorem vK {K:JH}{O:Ow}{H:Hp}(lo hi:Int):ItT K O H (rng lo hi) (Itr lo (hi - lo).toNat):=λP O' hP hO i Hc hs ht=>by
 refine⟨λh=> ?_,λt h=> ?_⟩
 ·show(hi - lo).toNat<=i
  unfold rng at h;rw[JQ,KR]at h;exact h
 ·unfold rng at h
  rw[Kk]at h
  by_cases hi':i<(hi - lo).toNat
  ·rw[QR hi']at h
   cases h;refine⟨hi',λx Hc' y=> ?_⟩
   obtain⟨e,y⟩:=y;subst e y;exact⟨Same.refl _,Rep.GM _⟩
  ·rw[M5 (by simpa using hi')]at h
   cases h
theorem wM {tg:Expr}(hm:X.mg "range" =none)(ha:qG X [a] fs)(hg:autoParam (Gl X "range") u_)(hs:autoParam (Kc [a] X.env= [(false,eval a X.env)]) u_):AS X tg (.Call (.Name "range" p) [a] [] pos) (iR fs):=by
 intro pins s σ H R I ⟨Z,O,E,h⟩
 have h1:=dX E h;refine Call_ (fQ I hg hm boot_range (K9 (bV (ha pos pins s σ H _ I h1) λus s1 ⟨vs,H1,I1,r1,ts,rs,s',E',q1⟩=> ?_) hs rfl))
 split at q1
 ·obtain⟨v,rfl,r⟩:=rs.one
  split at q1
  ·rename_i j hj
   obtain⟨b1,b2⟩:=qf hj;cases Rep.Do.mp r
   cases r1 with
   | cons r rr=>
    cases rr;obtain⟨t,rfl⟩:=r;exact call_range_1 (rA I1 (by omega) (by omega) b1 b2 (q1 H1 (Same.refl H1) _ (vK 0 j)))
  ·exact q1.elim
 ·obtain⟨v,ws,rfl,p1,q⟩:=Reps.me.mp rs
  obtain⟨v2,rfl,r⟩:=q.one
  split at q1
  ·rename_i i j hj
   rw[JM]at hj;obtain⟨b1,b2⟩:=qf hj.1;obtain⟨b3,b4⟩:=qf hj.2;cases Rep.Do.mp p1;cases Rep.Do.mp r
   cases r1 with
   | cons r rr=>
    cases rr with
    | cons r' rr=>
     cases rr;obtain⟨t,rfl⟩:=r;obtain⟨t',rfl⟩:=r';exact call_range_2 (rA I1 b1 b2 b3 b4 (q1 H1 (Same.refl H1) _ (vK i j)))
  ·exact q1.elim
 ·exact q1.elim
end
section
variable {X:Cx}{a b c e:Expr}{es:List Expr}{fa fb fc:En->Rs T}{fs:En->Rs (List T)}{pos p p2:Pos}{x:Str}
def b5 (src:List (Option Nat))(Z:En):En:=src.map λo=>match o with
 | some i=>match Z[i]? with
  | some (.va t)=> .va t
  | _=> .em
 | none=> .em
def cq (tgt:T->En->Rs En)(fc:En->Rs Bool)(fe:En->Rs T):List T->En->Rs (List T)
 | [],_=> .ok []
 | t::r,Z=>do
  let Z1 <-tgt t Z
  let k <-fc Z1
  if k then do
   let y <-fe Z1
   let ys <-cq tgt fc fe r Z1
   .ok (y::ys)
  else cq tgt fc fe r Z1
def dU (fi:En->Rs (List T))(src:List (Option Nat))(tgt:T->En->Rs En)(fc:En->Rs Bool)(fe:En->Rs T)(Z:En):Rs T:=do
 let ts <-fi Z
 if ts.length<=sizeLine then match cq tgt fc fe ts (b5 src Z)with
  | .ok ys=> .ok (.lst ys)
  | _=> .bad
 else .bad
def bT (_:En):Rs Bool:=.ok true
def tP0 (K:JH)(f:En->Rs T):TE:=λσ H Q=> ∃Z O,EnvO K O H Z σ/\match f Z with
 | .ok t=> ∀H',Same H H'->∀v,Rep K O H' t v->Q v H'
 | _=>False
def tPT0 (K:JH)(f:En->Rs Bool):TT:=λσ H Q=> ∃Z O,EnvO K O H Z σ/\match f Z with
 | .ok t=> ∀H',Same H H'->Q t H'
 | _=>False
theorem tP0.up {f:En->Rs T}{σ:L2.St}{H:Hp}{Q:VK}(h:tP0 X.K f σ H Q):tP X f σ H Q:=by
 obtain⟨Z,O,E,h⟩:=h;refine⟨Z,O,E,?_⟩
 cases q:f Z with
 | ok t=>rw[q]at h;exact h
 | err c=>rw[q]at h;exact h.elim
 | bad=>rw[q]at h;exact h.elim
theorem tPT0.up {f:En->Rs Bool}{σ:L2.St}{H:Hp}{Q:Bool->Hp->Prop}(h:tPT0 X.K f σ H Q):xQ X f σ H Q:=by
 obtain⟨Z,O,E,h⟩:=h;refine⟨Z,O,E,?_⟩
 cases q:f Z with
 | ok t=>rw[q]at h;exact h
 | err c=>rw[q]at h;exact h.elim
 | bad=>rw[q]at h;exact h.elim
theorem BL:wj X [] (xQ X bT):=λpins s σ H Q I ⟨Z,O,E,h⟩=>B5 pins s σ H Q I (h H (Same.refl H))
theorem BK {f:En->Rs Bool}(h:tH X c f):wj X [c] (xQ X f):=B4 h
abbrev noM:Mn:=λ_ _=>False
theorem xf {src:List (Option Nat)}{Z:En}{j:Nat}{o:OT}(e:(b5 src Z)[j]? =some (.ow o)):False:=by
 unfold b5 at e;rw[Kk]at e
 cases q:src[j]? with
 | none=>rw[q]at e;cases e
 | some o'=>
  rw[q]at e
  cases o' with
  | none=>cases e
  | some i=>
   have e':(match Z[i]? with | some (Sl.va t)=>Sl.va t | _=>Sl.em)=Sl.ow o:=KM e
   split at e' <;> cases e'
theorem zN {K:JH}{O:Ow}{H:Hp}{Z:En}{σ:L2.St}(E:EnvO K O H Z σ)(src:List (Option Nat)):EnvM K O noM H (b5 src Z) (eY src σ) where
 len:=by unfold b5 eY;rw[JQ,JQ]
 val:=λj t e=>by
  unfold b5 at e;unfold eY;rw[Kk]at e ⊢
  cases q:src[j]? with
  | none=>rw[q]at e;cases e
  | some o=>
   rw[q]at e
   cases o with
   | none=>cases e
   | some i=>
    have e':(match Z[i]? with | some (Sl.va t)=>Sl.va t | _=>Sl.em)=Sl.va t:=KM e
    cases q2:Z[i]? with
    | none=>rw[q2]at e';cases e'
    | some z=>
     rw[q2]at e'
     cases z with
     | em=>cases e'
     | ow l=>cases e'
     | va t'=>
      cases e';obtain⟨v,e1,e2⟩:=E.val i _ q2;exact⟨v,by simp[e1],e2⟩
 own:=λj o e=>(xf e).elim
 sub:=λ_ _ z=>z.elim
 dis:=λ_ _ _ z=>z.elim
 trk:=E.mtb
theorem ORep.no {K:JH}{O:Ow}{H:Hp}{o:OT}{v:V}(r:ORep K O wY H o v):False:=by
 cases o with
 | lst l=>obtain⟨a,_,_,e,_⟩:=r;exact(e a).mpr rfl
 | dct ks ts=>obtain⟨a,_,_,e,_⟩:=r;exact(e a).mpr rfl
 | dd ks rows=>obtain⟨a,_,_,_,e,_⟩:=r;exact(e a).mpr (.inl rfl)
 | ob C ns ls=>obtain⟨a,_,_,_,e,_⟩:=r;exact(e a).mpr (.inl rfl)
 | ll ls=>obtain⟨a,_,_,e,_⟩:=r;exact(e a).mpr (.inl rfl)
theorem EnvM.move {K:JH}{O O' P:Ow}{H H':Hp}{Z:En}{σ:L2.St}(E:EnvM K O noM H Z σ)(hP:∀a,P a->O a\/Nw K H a)(hO:∀a,O' a->O a\/Nw K H a)(h:SameO P H H')(trk:∀a,O' a->Mtb H' a):EnvM K O' noM H' Z σ where
 len:=E.len
 val:=λi t e=>let ⟨v,e1,e2⟩:=E.val i t e;⟨v,e1,e2.move hP hO h⟩
 own:=λi o e=>let ⟨_,_,r⟩:=E.own i o e;r.no.elim
 sub:=λ_ _ z=>z.elim
 dis:=λ_ _ _ z=>z.elim
 trk:=trk
def Fs (fi:En->Rs (List T))(src:List (Option Nat))(tgt:T->En->Rs En)(fc:En->Rs Bool)(fe:En->Rs T)(Z:En):Rs (List T):=fi Z >>= λts=>if ts.length<=sizeLine then(match cq tgt fc fe ts (b5 src Z)with | .ok ys=>Rs.ok ys | _=> .bad)else .bad
theorem sf {src:List (Option Nat)}{fi:En->Rs (List T)}{tgt:T->En->Rs En}{fc:En->Rs Bool}{fe:En->Rs T}{Z:En}:dU fi src tgt fc fe Z=Fs fi src tgt fc fe Z >>= λl=> .ok (.lst l):=by
 unfold dU Fs
 cases fi Z with
 | bad=>rfl
 | err c=>rfl
 | ok ts=>
  rw[aB,aB]
  by_cases hz:ts.length<=sizeLine
  ·rw[if_pos hz,if_pos hz]
   cases cq tgt fc fe ts (b5 src Z) <;> rfl
  ·rw[if_neg hz,if_neg hz];rfl
abbrev LcW (K:JH)(O':Ow)(D:Addr)(H1:Hp)(ts:List T)(tgt:T->En->Rs En)(fc:En->Rs Bool)(fe:En->Rs T)(all:List T)(i m:Nat)(σ':L2.St)(ys:List V)(H':Hp):Prop:=m=ts.length - i/\i<=ts.length/\ys.length<=i/\H' D=some (.lst ys)/\SameO (λa=>a=D) (upd H1 D (.lst [])) H'/\∃Z' yts zs,EnvM K O' noM H' Z' σ'/\Reps K O' H' yts ys/\cq tgt fc fe (ts.drop i) Z'= .ok zs/\yts++zs=all
theorem LcW.use {K:JH}{O':Ow}{D:Addr}{H1 H':Hp}{ts all:List T}{tgt:T->En->Rs En}{fc:En->Rs Bool}{fe:En->Rs T}{i m:Nat}{σ':L2.St}{ys:List V}(w:LcW K O' D H1 ts tgt fc fe all i m σ' ys H'){Pp:Prop}(k:m=ts.length - i->i<=ts.length->ys.length<=i->H' D=some (.lst ys)->SameO (λa=>a=D) (upd H1 D (.lst [])) H'->∀Z' yts zs,EnvM K O' noM H' Z' σ'->Reps K O' H' yts ys->cq tgt fc fe (ts.drop i) Z'= .ok zs->yts++zs=all->Pp):Pp:=by
 obtain⟨a1,a2,a3,a4,a5,Z',yts,zs,b1,b2,b3,b4⟩:=w;exact k a1 a2 a3 a4 a5 Z' yts zs b1 b2 b3 b4
theorem se {src:List (Option Nat)}{fi:En->Rs (List T)}{tgt:T->En->Rs En}{fc:En->Rs Bool}{fe:En->Rs T}{σ:L2.St}{H:Hp}{Q:VK}{Z:En}{O:Ow}(E:EnvO X.K O H Z σ)
  (hq1:Post X H (Fs fi src tgt fc fe Z) λall H1=> ∀D ys H',Nw X.K H1 D->Same H1 H'->H' D=some (.lst ys)->Reps X.K (λa=>O a\/a=D) H' all ys->Q (.ref D) H'):Gy X.K (tPI X fi) src (AX X tgt) (tPT0 X.K fc) (tP0 X.K fe) σ H Q:=by
 unfold Fs at hq1;refine⟨Z,O,E,Post.mono hq1.bind λts H1 s1 q1 J hJ D hD hK=> ?_⟩
 have E1:=E.same s1
 by_cases hz:ts.length<=sizeLine
 ·rw[if_pos hz]at q1
  cases hall:cq tgt fc fe ts (b5 src Z)with
  | bad=>rw[hall]at q1;exact q1.elim
  | err c=>rw[hall]at q1;exact q1.elim
  | ok all=>
   rw[hall]at q1
   have q2:∀D ys H',Nw X.K H1 D->Same H1 H'->H' D=some (.lst ys)->Reps X.K (λa=>O a\/a=D) H' all ys->Q (.ref D) H':=q1 H1 (Same.refl H1)
   have nD:Nw X.K H1 D:=⟨hD,hK⟩
   let O':Ow:=λa=>O a\/a=D
   have subO:∀a,O' a->O a\/Nw X.K H1 a:=λa z=>z.elim .inl λw=> .inr (w▸nD)
   -- the walk's word
   refine⟨LcW X.K O' D H1 ts tgt fc fe all,⟨ts.length,?_⟩,?_⟩
   ·have sN:Same H1 (upd H1 D (.lst [])):=aU hD _
    refine⟨by omega,KY _,JW _,bc,λb o e _=>e,b5 src Z,[],all,?_,Reps.II,by simpa using hall,rfl⟩
    have E2:EnvM X.K O noM H1 (b5 src Z) (eY src σ):=zN E1 src
    exact E2.move (P:=λa=>a=D) (λa z=> .inr (z▸nD)) subO (λb o e _=>sN b o e) λa z=>by
     rcases z with z | z
     ·exact(E1.mtb a z).same sN
     ·rw[z];exact .inl ⟨_,bc⟩
   ·refine λi m σ' ys H' w=>w.use λe0 hi' hyl hDl hsm Z' yts zs E' ry hl hyz=> ?_
    subst e0;refine⟨hDl,?_⟩
    have sm1:SameO (λa=>a=D) H1 H':=λb o e nb=>hsm b o (by rw[aQ nb];exact e) nb
    have it:=hJ (λa=>a=D) O' (λa z=> .inr (z▸nD)) subO i H' sm1 (λa z=>(E'.trk a z).some)
    by_cases hlt:i<ts.length
    ·refine .inr ?_
     have hti:ts[i]? =some ts[i]:=by simp
     obtain⟨go,yl⟩:=it.2 ts[i] hti;refine⟨go,by omega,λxx Hc y=> ?_⟩
     obtain⟨sc,rx⟩:=yl xx Hc y
     have Ec:=E'.same sc;rw[Mr hlt]at hl;unfold cq at hl;refine⟨Z',O',noM,ts[i],Ec,rx,?_⟩
     cases e1:tgt ts[i] Z' with
     | bad=>rw[e1]at hl;cases hl
     | err cc=>rw[e1]at hl;cases hl
     | ok Z1=>
      rw[e1,aB]at hl;intro σ1 Eg;refine⟨Z1,O',⟨noM,Eg⟩,?_⟩
      cases e2:fc Z1 with
      | bad=>rw[e2]at hl;cases hl
      | err cc=>rw[e2]at hl;cases hl
      | ok k=>
       rw[e2,aB]at hl;intro H3 s3
       have E3:=Eg.same s3
       have tot:Same H' H3:=sc.trans s3
       have D3:H3 D=some (.lst ys):=tot _ _ hDl
       have sm3:SameO (λa=>a=D) (upd H1 D (.lst [])) H3:=λb o e nb=>tot _ _ (hsm b o e nb)
       cases k with
       | false=>
        refine L2.iteF ?_
        have hl':cq tgt fc fe (ts.drop (i+1)) Z1= .ok zs:=by simpa using hl
        exact⟨ts.length - (i+1),by omega,rfl,hlt,by omega,D3,sm3,Z1,yts,zs,E3,ry.same tot,hl',hyz⟩
       | true=>
        refine L2.iteT ?_
        have hl':(fe Z1 >>= λy=>cq tgt fc fe (ts.drop (i+1)) Z1 >>= λys=>Rs.ok (y::ys))= .ok zs:=by simpa using hl
        refine⟨Z1,O',⟨noM,E3⟩,?_⟩
        cases e3:fe Z1 with
        | bad=>rw[e3]at hl';cases hl'
        | err cc=>rw[e3]at hl';cases hl'
        | ok yt=>
         rw[e3,aB]at hl'
         cases e4:cq tgt fc fe (ts.drop (i+1)) Z1 with
         | bad=>rw[e4]at hl';cases hl'
         | err cc=>rw[e4]at hl';cases hl'
         | ok zs'=>
          rw[e4,aB]at hl'
          have hzs:yt::zs'=zs:=by injection hl'
          intro H4 s4 v rv
          have D4:H4 D=some (.lst ys):=s4 _ _ D3
          have E4:=E3.same s4
          have tot4:Same H' H4:=tot.trans s4
          have smD:SameO (λa=>a=D) H4 (upd H4 D (.lst (ys++ [v]))):=λb o e nb=>by rw[aQ nb];exact e
          have inO:∀a,a=D->O' a\/Nw X.K H4 a:=λa z=> .inl (.inr z)
          refine⟨D4,ts.length - (i+1),by omega,rfl,hlt,?_,bc,λb o e nb=>smD b o (s4 _ _ (sm3 b o e nb)) nb,Z1,yts++ [yt],zs',?_,?_,e4,?_⟩
          ·rw[JZ,Lb];omega
          ·exact E4.move inO (λa z=> .inl z) smD λaa z=>by
            by_cases hz:aa=D
            ·rw[hz];exact .inl ⟨_,bc⟩
            ·unfold Mtb;rw[aQ hz];exact E4.trk aa z
          ·have r1:Reps X.K O' H4 (yts++ [yt]) (ys++ [v]):=(ry.same tot4).append (Reps.FS rv Reps.II)
           exact r1.move inO (λa z=> .inl z) smD
          ·rw[KD,Qm,hzs];exact hyz
    ·refine .inl ⟨it.1 (by omega),?_⟩
     have hi2:i=ts.length:=by omega
     subst hi2;rw[Sq]at hl
     have hzs:zs= []:=by unfold cq at hl;injection hl with hl;exact hl.symm
     subst hzs;rw[LW]at hyz;subst hyz
     have sF:Same H1 H':=λb o e=>sm1 b o e λz=>by rw[z,hD]at e;cases e
     exact q2 D ys H' nD sF hDl ry
 ·rw[if_neg hz]at q1
  exact q1.elim
theorem vF {src:List (Option Nat)}{fi:En->Rs (List T)}{tgt:T->En->Rs En}{fc:En->Rs Bool}{fe:En->Rs T}{σ:L2.St}{H:Hp}{Q:VK}(h0:tP X (dU fi src tgt fc fe) σ H Q):Gy X.K (tPI X fi) src (AX X tgt) (tPT0 X.K fc) (tP0 X.K fe) σ H Q:=by
 obtain⟨Z,O,E,hq⟩:=h0;refine se E ?_
 have e:dU fi src tgt fc fe Z=Fs fi src tgt fc fe Z >>= λl=> .ok (.lst l):=sf
 rw[e]at hq
 cases q:Fs fi src tgt fc fe Z with
 | bad=>rw[q]at hq;exact hq.elim
 | err c=>rw[q]at hq;exact hq
 | ok l=>
  rw[q,aB]at hq;intro H1 s1 D ys H' nD sD eD rD;exact hq H' (s1.trans sD) _ (Rep.Fk.mpr ⟨D,ys,rfl,λz=>(E.same s1).fresh nD.1 z,eD,rD.less λa z=> .inl z⟩)
theorem q_lc {elt tg iter:Expr}{ifs:List Expr}{scope:NR}{N':List Str}{src:List (Option Nat)}{fi:En->Rs (List T)}{tgt:T->En->Rs En}{fc:En->Rs Bool}{fe:En->Rs T}
  (hc:X.calm=true) (S:LcScope X scope N' src) (hi:AS X tg iter fi)
  (block:∀cl C s₀ H₀ fp,Dd (bw X scope cl N' C s₀ H₀ fp) tg tgt/\wj (bw X scope cl N' C s₀ H₀ fp) ifs (xQ (bw X scope cl N' C s₀ H₀ fp) fc)/\b7 (bw X scope cl N' C s₀ H₀ fp) elt fe)
  (hs:autoParam (∀x,KL iter X.env x=pure x) t_) :
  b7 X (.ListComp elt [⟨tg,iter,ifs,0⟩] scope pos) (dU fi src tgt fc fe):=by
 have hPG:∀cl C s₀ H₀ fp,PG (bw X scope cl N' C s₀ H₀ fp) tg (AX X tgt):=λcl C s₀ H₀ fp=>(block cl C s₀ H₀ fp).1
 have hPI:∀cl C s₀ H₀ fp,wj (bw X scope cl N' C s₀ H₀ fp) ifs (tPT0 X.K fc):=λcl C s₀ H₀ fp pins s σ H Q I h=>(block cl C s₀ H₀ fp).2.1 pins s σ H Q I (tPT0.up (X:=bw X scope cl N' C s₀ H₀ fp) h)
 have hPE:∀cl C s₀ H₀ fp,PE (bw X scope cl N' C s₀ H₀ fp) elt (tP0 X.K fe):=λcl C s₀ H₀ fp pins s σ H Q I h=>(block cl C s₀ H₀ fp).2.2 pins s σ H Q I (tP0.up (X:=bw X scope cl N' C s₀ H₀ fp) h)
 exact PE.imp (za (g:=AX X tgt) (tc:=tPT0 X.K fc) (te:=tP0 X.K fe) hc S hi (λcl C s₀ H₀ fp=>⟨hPG cl C s₀ H₀ fp,hPI cl C s₀ H₀ fp,hPE cl C s₀ H₀ fp⟩) hs) λσ H Q h=>vF h
inductive Fl where
 | nx (Z:En) | rt (t:T) | bk (Z:En) | ct (Z:En)
def OO (B:Ow)(M:Mn):Ow:=λa=>B a\/M.u a
structure Ev (K:JH)(B:Ow)(M:Mn)(H:Hp)(Z:En)(σ:L2.St):Prop where
 env:EnvM K (OO B M) M H Z σ
 mine:∀a,M.u a->¬ B a
theorem Ev.same {K:JH}{B:Ow}{M:Mn}{H H':Hp}{Z:En}{σ:L2.St}(h:Same H H')(e:Ev K B M H Z σ):Ev K B M H' Z σ:=⟨e.env.same h,e.mine⟩
theorem Ev.o {K:JH}{B:Ow}{M:Mn}{H:Hp}{Z:En}{σ:L2.St}(e:Ev K B M H Z σ):EnvO K (OO B M) H Z σ:=⟨M,e.env⟩
def PostF (X:Cx)(B P:Ow)(H:Hp)(r:Rs Fl)(D:qL):Prop:=match r with
 | .ok (.nx Z')=> ∀σ' H' M',SameO P H H'->Ev X.K B M' H' Z' σ'->(∀a,M'.u a->P a\/Nw X.K H a)->D.nx σ' H'
 | .ok (.rt t)=> ∀v H',SameO P H H'->Rep X.K B H' t v->D.rt v H'
 | .ok (.bk Z')=> ∀σ' H' M',SameO P H H'->Ev X.K B M' H' Z' σ'->(∀a,M'.u a->P a\/Nw X.K H a)->D.bk σ' H'
 | .ok (.ct Z')=> ∀σ' H' M',SameO P H H'->Ev X.K B M' H' Z' σ'->(∀a,M'.u a->P a\/Nw X.K H a)->D.ct σ' H'
 | .err c=>XA X P H c
 | .bad=>False
def Ir (X:Cx)(F:En->Rs Fl):TS:=λD σ H=> ∃Z B M,Ev X.K B M H Z σ/\PostF X B M.u H (F Z) D
abbrev nE (X:Cx)(s:Stmt)(F:En->Rs Fl):Prop:=PS X s (Ir X F)
abbrev k6 (X:Cx)(s:List Stmt)(F:En->Rs Fl):Prop:=PSs X s (Ir X F)
theorem PostF.later {B P P1:Ow}{H H1:Hp}{r:Rs Fl}{D:qL}(h:PostF X B P H r D)(s:SameO P H H1)(sub:∀a,P1 a->P a\/Nw X.K H a):PostF X B P1 H1 r D:=by
 have back:∀a,P1 a\/Nw X.K H1 a->P a\/Nw X.K H a:=λa z=>z.elim (sub a) (gq s)
 cases r with
 | bad=>exact h
 | err c=>exact XA.later h s sub
 | ok f=>
  cases f with
  | nx Z'=>exact λσ' H' M' s' E' o'=>h σ' H' M' (s.trans s' sub) E' λa z=>back a (o' a z)
  | rt t=>exact λv H' s' r=>h v H' (s.trans s' sub) r
  | bk Z'=>exact λσ' H' M' s' E' o'=>h σ' H' M' (s.trans s' sub) E' λa z=>back a (o' a z)
  | ct Z'=>exact λσ' H' M' s' E' o'=>h σ' H' M' (s.trans s' sub) E' λa z=>back a (o' a z)
theorem PostF.xa {B P:Ow}{H:Hp}{c:Str}{D:qL}(h:PostF X B P H (.err c) D):XA X wY H c:=XA.later (P:=P) h (λ_ _ e _=>e) λ_ z=>z.elim
def sN (Z:En):Rs Fl:=.ok (.nx Z)
def ay (F G:En->Rs Fl)(Z:En):Rs Fl:=do
 let f <-F Z
 match f with
 | .nx Z'=>G Z'
 | f=> .ok f
theorem Ek:k6 X [] sN:=PSs.imp BY λD σ H ⟨Z,B,M,E,h⟩=>h σ H M (λ_ _ e _=>e) E λa z=> .inl z
theorem BH {st:Stmt}{bq:List Stmt}{F G:En->Rs Fl}(h1:nE X st F)(h2:k6 X bq G):k6 X (st::bq) (ay F G):=PSs.imp (yS h1 h2) λD σ H hh_=>by
 obtain⟨Z,B,M,E,h⟩:=hh_;refine⟨Z,B,M,E,?_⟩
 unfold ay at h
 cases q:F Z with
 | bad=>rw[q]at h;exact h.elim
 | err c=>rw[q]at h;exact h
 | ok f=>
  rw[q,aB]at h
  cases f with
  | nx Z'=>exact λσ' H' M' s' E' o'=>⟨Z',B,M',E',h.later s' o'⟩
  | rt t=>exact h
  | bk Z'=>exact h
  | ct Z'=>exact h
theorem Ej {st:Stmt}{F:En->Rs Fl}(h:nE X st F):k6 X [st] F:=BX h
def aO (f:En->Rs T)(Z:En):Rs Fl:=do
 let t <-f Z
 .ok (.rt t)
theorem Eh (ha:b7 X a fa):nE X (.Return (some a) pos) (aO fa):=PS.imp (EH ha) λD σ H hh_=>by
 obtain⟨Z,B,M,E,h⟩:=hh_;refine⟨Z,OO B M,E.o,?_⟩
 unfold aO at h
 cases q:fa Z with
 | bad=>rw[q]at h;exact h.elim
 | err c=>rw[q]at h;exact PostF.xa h
 | ok t=>
  rw[q,aB]at h;exact λH' s v r=>h v H' (SameO.of s) (r.less λ_ z=> .inl z)
def eO (f:En->Rs Bool)(F G:En->Rs Fl)(Z:En):Rs Fl:=do
 let k <-f Z
 if k then F Z else G Z
theorem GP {f:En->Rs Bool}{A B:List Stmt}{F G:En->Rs Fl}(hc:tH X c f)(ha:k6 X A F)(hb:k6 X B G):nE X (.If c A B pos) (eO f F G):=PS.imp (G6 hc ha hb) λD σ H hh_=>by
 obtain⟨Z,B,M,E,h⟩:=hh_;refine⟨Z,OO B M,E.o,?_⟩
 unfold eO at h
 cases q:f Z with
 | bad=>rw[q]at h;exact h.elim
 | err c=>rw[q]at h;exact PostF.xa h
 | ok k=>
  rw[q,aB]at h;intro H' s
  have E':Ev X.K B M H' Z σ:=E.same s
  cases k with
  | true=>refine L2.iteT ?_;exact⟨Z,B,M,E',PostF.later (by simpa using h) (SameO.of s) λa z=> .inl z⟩
  | false=>refine L2.iteF ?_;exact⟨Z,B,M,E',PostF.later (by simpa using h) (SameO.of s) λa z=> .inl z⟩
def cw (f:En->Rs T)(g:T->En->Rs En)(Z:En):Rs Fl:=do
 let t <-f Z
 match g t Z with
 | .ok Z'=> .ok (.nx Z')
 | _=> .bad
theorem yG {B:Ow}{M:Mn}{Z:En}{σ:L2.St}{H:Hp}{D:qL}{g:T->En->Rs En}{f:En->Rs T}(E:Ev X.K B M H Z σ)(h:PostF X B M.u H (cw f g Z) D):Bh (tP X f) (AX X g) D σ H:=by
 refine⟨Z,OO B M,E.o,?_⟩
 unfold cw at h
 cases q:f Z with
 | bad=>rw[q]at h;exact h.elim
 | err c=>rw[q]at h;exact PostF.xa h
 | ok t=>
  rw[q,aB]at h;intro H' s v r;refine⟨Z,OO B M,M,t,E.env.same s,r,?_⟩
  cases q2:g t Z with
  | bad=>rw[q2]at h;exact h.elim
  | err c=>rw[q2]at h;exact h.elim
  | ok Z'=>
   rw[q2]at h;exact λσ' E'=>h σ' H' M (SameO.of s) ⟨E',E.mine⟩ λa z=> .inl z
theorem Bf {f:En->Rs T}{σ:L2.St}{H:Hp}{Q Q':VK}(h:tP X f σ H Q)(w:∀v H',Q v H'->Q' v H'):tP X f σ H Q':=by
 obtain⟨Z,O,E,q⟩:=h;exact⟨Z,O,E,Post.mono q λt H' _ z v r=>w v H' (z v r)⟩
theorem GO {elt tg iter:Expr}{ifs:List Expr}{scope:NR}{spos py:Pos}{N':List Str}{src:List (Option Nat)}{fi:En->Rs (List T)}{tgt:T->En->Rs En}{fc:En->Rs Bool}{fe:En->Rs T}(i:Nat){y:Str}
  (hc:X.calm=true) (S:LcScope X scope N' src) (hi:AS X tg iter fi)
  (block:∀cl C s₀ H₀ fp,Dd (bw X scope cl N' C s₀ H₀ fp) tg tgt/\wj (bw X scope cl N' C s₀ H₀ fp) ifs (xQ (bw X scope cl N' C s₀ H₀ fp) fc)/\b7 (bw X scope cl N' C s₀ H₀ fp) elt fe)
  (hN:X.N.Nodup) (hiy:autoParam (X.N[i]? =some y) u_) (hy:autoParam (Loc X.env.scope y) y_) (hsw:autoParam (Lz (.ListComp elt [⟨tg,iter,ifs,0⟩] scope pos) (some (.Name y py)) spos.line X.env=pure true) u_)
  (hf:autoParam (X.fn y=true\/X.env.scope.names.lookup y=some .local) r_) (hs:autoParam (∀x,KL iter X.env x=pure x) t_) :
  nE X (.Assign [.Name y py] (.ListComp elt [⟨tg,iter,ifs,0⟩] scope pos) spos) (cw (dU fi src tgt fc fe) (gN i)):=by
 have hPG:∀cl C s₀ H₀ fp,PG (bw X scope cl N' C s₀ H₀ fp) tg (AX X tgt):=λcl C s₀ H₀ fp=>(block cl C s₀ H₀ fp).1
 have hPI:∀cl C s₀ H₀ fp,wj (bw X scope cl N' C s₀ H₀ fp) ifs (tPT0 X.K fc):=λcl C s₀ H₀ fp pins s σ H Q I h=>(block cl C s₀ H₀ fp).2.1 pins s σ H Q I (tPT0.up (X:=bw X scope cl N' C s₀ H₀ fp) h)
 have hPE:∀cl C s₀ H₀ fp,PE (bw X scope cl N' C s₀ H₀ fp) elt (tP0 X.K fe):=λcl C s₀ H₀ fp pins s σ H Q I h=>(block cl C s₀ H₀ fp).2.2 pins s σ H Q I (tP0.up (X:=bw X scope cl N' C s₀ H₀ fp) h)
 refine PS.imp (Dr (g:=AX X tgt) (tc:=tPT0 X.K fc) (te:=tP0 X.K fe) (i:=i) hc S hi (λcl C s₀ H₀ fp=>⟨hPG cl C s₀ H₀ fp,hPI cl C s₀ H₀ fp,hPE cl C s₀ H₀ fp⟩) hN hiy hy hsw hf hs) λD σ H ⟨Z,B,M,E,h⟩=>vF (Bf (yG E h) λv H' z=> ?_)
 obtain⟨Z',O,M',t,E',r,q⟩:=z;unfold gN at q
 split at q
 ·rename_i Z2 e
  split at e
  ·rename_i hl
   cases e;exact q _ (E'.set hl r)
  ·cases e
 ·exact q.elim
theorem Es {tg:Expr}{g:T->En->Rs En}(ha:b7 X a fa)(hg:Dd X tg g)(hs:autoParam (OF [tg] a pos.line X.env=pure false) u_)(hw:autoParam (OG [tg] a X.env=pure none) u_)
  (h1:autoParam ((LK [tg] X.env).map (·.2)= [assign tg X.env]) u_):nE X (.Assign [tg] a pos) (cw fa g):=PS.imp (EK ha hg hs hw h1) λD σ H ⟨Z,B,M,E,h⟩=>yG E h
def nc (f:En->Rs T)(Z:En):Rs Fl:=do
 let _ <-f Z
 .ok (.nx Z)
theorem BG (ha:b7 X a fa)(hs:autoParam (Lz a none pos.line X.env=pure false) u_):nE X (.Expr a pos) (nc fa):=PS.imp (pv ha hs) λD σ H hh_=>by
 obtain⟨Z,B,M,E,h⟩:=hh_;refine⟨Z,OO B M,E.o,?_⟩
 unfold nc at h
 cases q:fa Z with
 | bad=>rw[q]at h;exact h.elim
 | err c=>rw[q]at h;exact PostF.xa h
 | ok t=>
  rw[q,aB]at h;exact λH' s v r=>h σ H' M (SameO.of s) (E.same s) λa z=> .inl z
def a9 (g:T->En->Rs En)(F:En->Rs Fl):List T->En->Rs Fl
 | [],Z=> .ok (.nx Z)
 | t::r,Z=>do
  let Z1 <-g t Z
  let f <-F Z1
  match f with
  | .nx Z2=>a9 g F r Z2
  | .ct Z2=>a9 g F r Z2
  | .bk Z2=> .ok (.nx Z2)
  | .rt t=> .ok (.rt t)
def dY (fi:En->Rs (List T))(g:T->En->Rs En)(F:En->Rs Fl)(Z:En):Rs Fl:=do
 let ts <-fi Z
 match a9 g F ts Z with
 | .ok f=> .ok f
 | _=> .bad
theorem ki {α:Type}{t:Sem α}{Q:α->JL->Prop}{s:JL}{E:JK->JL->Prop}{P:J9}{w:Kx}{A:Km}(h:wpAny (model P w) A t Q (λ_ _=>False) s):wpAny (model P w) A t Q E s:=L9 h (λ_ _ q=>q) λ_ _ z=>z.elim
theorem BZ {tg iter:Expr}{body:List Stmt}{wi:TI}{g:TG}{tb:TS}{pos:Pos}(hc:X.calm=true)(hi:PI X tg iter wi)(hg:PG X.nox tg g)(hb:PSs X.nox body tb)
  (hs:autoParam (∀x,KL iter X.env x=pure x) t_):PS X (.For tg iter body [] pos) (tFor wi g tb):=by
 intro pins s σ H D I h;refine wpAny_For (bV (hi pins s σ H _ I h) λv s1 h1=>bV h1 λitv s2 h2=> ?_) hs
 obtain⟨it,fp,tn,J,H2,e,I2,T,st2,f2,W,⟨m0,w0⟩,turn⟩:=h2;subst e
 have stat:∀{H':Hp},(∀b∈fp,H' b=none)->∀b∈fp,k7 X pins H' b:=λhn b hb=>⟨hn b hb,(f2 b hb).2⟩
 refine codeAny_forLoop_any (λn s'=> ∃i σ' H',Inv X pins σ' H' s'/\tn i s'.heap/\(∀b∈fp,H' b=none)/\W i n σ' H') ?_ m0 ⟨0,σ,H2,I2,st2,λb hb=>(f2 b hb).1,w0⟩
 rintro n s3 ⟨i,σ3,H3,I3,st3,fr3,w3⟩
 rcases turn i n σ3 H3 w3 with⟨stop,qn⟩ | ⟨go,N,hN,step⟩
 ·refine ki (bV (T.done X.nox rfl rfl rfl hc i pins s3 σ3 H3 _ (I3.FM _) (stat fr3) st3 stop) λr s4 ⟨hr,I4⟩=> ?_)
  subst hr;exact OV ⟨σ3,H3,I4.FM _,qn⟩
 ·refine ki (bV (T.item X.nox rfl rfl rfl hc i pins s3 σ3 H3 _ (I3.FM _) (stat fr3) st3 go) λr s4 ⟨u,hr,h4⟩=> ?_)
  subst hr;refine ki (bV h4 λ_ s5 hh_=> ?_)
  obtain⟨x,H5,I5,r5,y5,st5,fr5⟩:=hh_
  have I5':=Inv.pinned (X:=X.nox) I5 (stat fr5) (T.obj _ _ st5);refine ki (bV (hg _ s5 σ3 H5 x u _ I5' r5 (step x H5 y5)) λ_ s6 hh_=> ?_)
  obtain⟨σ6,H6,I6,q6⟩:=hh_;refine ki (bV (hb _ s6 σ6 H6 _ I6 q6) λf s7 q7=> ?_)
  have again:∀{σ7:L2.St} {H7:Hp},Inv X.nox (pins++lQ fp s5.heap) σ7 H7 s7->N σ7 H7->∃m,m<n/\∃i σ' H',Inv X pins σ' H' s7/\tn i s7.heap/\(∀b∈fp,H' b=none)/\W i m σ' H':=λ{σ7 H7} I7 n7=>by
   obtain⟨m',hm,w7⟩:=hN σ7 H7 n7;refine⟨m',hm,i+1,σ7,H7,(Inv.IP (X:=X.nox) I7).FM _,T.keep _ _ _ st5 λb hb o e=>(I7.pin (b,o) (Kd _ (Kd _ (gu hb e)))).1,λb hb=> ?_,w7⟩
   obtain⟨o,e,d⟩:=T.obj _ _ st5 b hb;exact(I7.pin (b,o) (Kd _ (Kd _ (gu hb e)))).2.1
  cases f with
  | next=>obtain⟨σ7,H7,I7,n7⟩:=q7;exact again I7 n7
  | cont=>obtain⟨σ7,H7,I7,n7⟩:=q7;exact again I7 n7
  | brk=>obtain⟨σ7,H7,I7,q7⟩:=q7;exact⟨σ7,H7,(Inv.IP (X:=X.nox) I7).FM _,q7⟩
  | ret v=>obtain⟨x7,σ7,H7,I7,r7,q7⟩:=q7;exact⟨x7,σ7,H7,(Inv.IP (X:=X.nox) I7).FM _,r7,q7⟩
theorem Em {tg iter:Expr}{body:List Stmt}{fi:En->Rs (List T)}{g:T->En->Rs En}{F:En->Rs Fl}(hc:X.calm=true)(hi:AS X tg iter fi)(hg:Dd X.nox tg g)(hb:k6 X.nox body F)
  (hs:autoParam (∀x,KL iter X.env x=pure x) t_):nE X (.For tg iter body [] pos) (dY fi g F):=PS.imp (BZ hc hi hg hb hs) λD σ H hh_=>by
 obtain⟨Z,B,M,E,h⟩:=hh_;refine⟨Z,OO B M,E.o,?_⟩
 unfold dY at h
 cases q:fi Z with
 | bad=>rw[q]at h;exact h.elim
 | err c=>rw[q]at h;exact PostF.xa h
 | ok ts=>
  rw[q,aB]at h
  cases qq:a9 g F ts Z with
  | bad=>rw[qq]at h;exact h.elim
  | err c=>rw[qq]at h;exact h.elim
  | ok fin=>
  rw[qq]at h;intro H1 s1 J hJ
  have E1:Ev X.K B M H1 Z σ:=E.same s1
  have h1:PostF X B M.u H1 (.ok fin) D:=PostF.later h (SameO.of s1) λa z=> .inl z
  refine⟨λi m σ' H'=>m=ts.length - i/\i<=ts.length/\SameO M.u H1 H'/\∃Z' M',Ev X.K B M' H' Z' σ'/\(∀a,M'.u a->M.u a\/Nw X.K H1 a)/\a9 g F (ts.drop i) Z'= .ok fin,
   ⟨ts.length,by omega,KY _,λ_ _ e _=>e,Z,M,E1,λa z=> .inl z,by simpa using qq⟩,?_⟩
  rintro i m σ' H' ⟨rfl,hi',sm,Z',M',E',ow,hl⟩
  have it:=hJ M.u (OO B M') (λa z=> .inl (.inr z)) (λa z=>z.elim (λw=> .inl (.inl w)) λw=>(ow a w).elim (λy=> .inl (.inr y)) .inr) i H' sm (λa z=>(E'.env.trk a z).some)
  by_cases hlt:i<ts.length
  ·have hti:ts[i]? =some ts[i]:=by simp
   obtain⟨go,yl⟩:=it.2 ts[i] hti;rw[Mr hlt]at hl;unfold a9 at hl;refine .inr ⟨go,λσ2 H2=> ∃m',m'<ts.length - i/\(m'=ts.length - (i+1)/\i+1<=ts.length/\SameO M.u H1 H2/\∃Z2 M2,Ev X.K B M2 H2 Z2 σ2/\(∀a,M2.u a->M.u a\/Nw X.K H1 a)/\a9 g F (ts.drop (i+1)) Z2= .ok fin),λσ2 H2 z=>z,λx Hc y=> ?_⟩
   obtain⟨sc,rx⟩:=yl x Hc y;refine⟨Z',OO B M',M',ts[i],E'.env.same sc,rx,?_⟩
   cases e1:g ts[i] Z' with
   | bad=>rw[e1]at hl;cases hl
   | err cc=>rw[e1]at hl;cases hl
   | ok Z1=>
    rw[e1,aB]at hl;intro σ1 Eg
    have E2:Ev X.K B M' Hc Z1 σ1:=⟨Eg,E'.mine⟩;refine⟨Z1,B,M',E2,?_⟩
    have smc:SameO M.u H1 Hc:=λb o e n=>sc _ _ (sm b o e n)
    have onward:∀{σ3:L2.St} {H3:Hp} {Z3:En} {M3:Mn},SameO M'.u Hc H3->Ev X.K B M3 H3 Z3 σ3->(∀a,M3.u a->M'.u a\/Nw X.K Hc a)->a9 g F (ts.drop (i+1)) Z3= .ok fin →
      ∃m',m'<ts.length - i/\(m'=ts.length - (i+1)/\i+1<=ts.length/\SameO M.u H1 H3/\∃Z2 M2,Ev X.K B M2 H3 Z2 σ3/\(∀a,M2.u a->M.u a\/Nw X.K H1 a)/\a9 g F (ts.drop (i+1)) Z2= .ok fin):=
     λ{σ3 H3 Z3 M3} s3 E3 o3 p3=>⟨_,by omega,rfl,hlt,smc.trans s3 ow,Z3,M3,E3,λa z=>(o3 a z).elim (ow a) (gq smc),p3⟩
    cases e2:F Z1 with
    | bad=>rw[e2]at hl;cases hl
    | err cc=>rw[e2]at hl;cases hl
    | ok f=>
     rw[e2,aB]at hl
     cases f with
     | nx Z2=>exact λσ3 H3 M3 s3 E3 o3=>onward s3 E3 o3 hl
     | ct Z2=>exact λσ3 H3 M3 s3 E3 o3=>onward s3 E3 o3 hl
     | bk Z2=>
      cases hl
      exact λσ3 H3 M3 s3 E3 o3=>h1 σ3 H3 M3 (smc.trans s3 ow) E3 λa z=>(o3 a z).elim (ow a) (gq smc)
     | rt t=>
      cases hl;exact λv H3 s3 r=>h1 v H3 (smc.trans s3 ow) r
  ·refine .inl ⟨it.1 (by omega),?_⟩
   have hi2:i=ts.length:=by omega
   subst hi2;rw[Sq]at hl;cases hl;exact h1 σ' H' M' sm E' ow
def bp (c:En->Rs Bool)(F:En->Rs Fl):Nat->En->Rs Fl
 | 0,_=> .bad
 | n+1,Z=>match c Z with
  | .ok false=> .ok (.nx Z)
  | .ok true=>match F Z with
   | .ok (.nx Z')=>bp c F n Z'
   | .ok (.ct Z')=>bp c F n Z'
   | .ok (.bk Z')=> .ok (.nx Z')
   | .ok (.rt t)=> .ok (.rt t)
   | _=> .bad
  | _=> .bad
theorem yL {c:Expr}{body:List Stmt}{fc:En->Rs Bool}{F:En->Rs Fl}(n:Nat)(hc:tH X.nox c fc)(hb:k6 X.nox body F):nE X (.While c body [] pos) (bp fc F n):=by
 have base:PS X.nox (.While c body [] pos) (tN (xQ X.nox fc) (Ir X.nox F)):=yT PassesOwn.never hc hb;intro pins s σ H D I ⟨Z,B,M,E,h⟩
 cases qq:bp fc F n Z with
 | bad=>rw[qq]at h;exact h.elim
 | err c=>
  exfalso
  have:∀n Z,bp fc F n Z≠ .err c:=by
   intro n
   induction n with
   | zero=>intro Z z;cases z
   | succ n ih=>
    intro Z z;unfold bp at z
    split at z
    ·cases z
    ·split at z <;> first | exact ih _ z | cases z
    ·cases z
  exact this n Z qq
 | ok fin=>
  rw[qq]at h
  have goal:tN (xQ X.nox fc) (Ir X.nox F) D σ H:=by
   refine⟨λm σ' H'=>SameO M.u H H'/\∃Z' M',Ev X.K B M' H' Z' σ'/\(∀a,M'.u a->M.u a\/Nw X.K H a)/\bp fc F m Z'= .ok fin,⟨n,λ_ _ e _=>e,Z,M,E,λa z=> .inl z,qq⟩,?_⟩
   rintro m σ' H' ⟨sm,Z',M',E',ow,hl⟩
   cases m with
   | zero=>cases hl
   | succ m=>
    refine⟨Z',OO B M',E'.o,?_⟩
    unfold bp at hl
    cases e1:fc Z' with
    | bad=>rw[e1]at hl;cases hl
    | err cc=>rw[e1]at hl;cases hl
    | ok k=>
     rw[e1]at hl;intro H2 s2
     have E2:Ev X.K B M' H2 Z' σ':=E'.same s2
     have sm2:SameO M.u H H2:=λb o e n=>s2 _ _ (sm b o e n)
     cases k with
     | false=>
      cases hl;refine L2.iteF ?_
      exact h σ' H2 M' sm2 E2 ow
     | true=>
      refine L2.iteT ?_
      refine⟨λσ3 H3=>SameO M.u H H3/\∃Z3 M3,Ev X.K B M3 H3 Z3 σ3/\(∀a,M3.u a->M.u a\/Nw X.K H a)/\bp fc F m Z3= .ok fin,λσ3 H3 z=>⟨m,L1 m,z⟩,Z',B,M',E2,?_⟩
      have hl':(match F Z' with | .ok (.nx Z')=>bp fc F m Z' | .ok (.ct Z')=>bp fc F m Z' | .ok (.bk Z')=> .ok (.nx Z') | .ok (.rt t)=> .ok (.rt t) | _=> .bad)= .ok fin:=hl
      cases e2:F Z' with
      | bad=>rw[e2]at hl';cases hl'
      | err cc=>rw[e2]at hl';cases hl'
      | ok f=>
       rw[e2]at hl'
       cases f with
       | nx Z2=>exact λσ3 H3 M3 s3 E3 o3=>⟨sm2.trans s3 ow,Z2,M3,E3,λa z=>(o3 a z).elim (ow a) (gq sm2),hl'⟩
       | ct Z2=>exact λσ3 H3 M3 s3 E3 o3=>⟨sm2.trans s3 ow,Z2,M3,E3,λa z=>(o3 a z).elim (ow a) (gq sm2),hl'⟩
       | bk Z2=>
        cases hl'
        exact λσ3 H3 M3 s3 E3 o3=>h σ3 H3 M3 (sm2.trans s3 ow) E3 λa z=>(o3 a z).elim (ow a) (gq sm2)
       | rt t=>
        cases hl';exact λv H3 s3 r=>h v H3 (sm2.trans s3 ow) r
  refine ki (bV (base pins s σ H D (I.FM _) goal) λf s' q=> ?_)
  cases f with
  | next=>obtain⟨σ7,H7,I7,n7⟩:=q;exact⟨σ7,H7,I7.FM _,n7⟩
  | cont=>obtain⟨σ7,H7,I7,n7⟩:=q;exact⟨σ7,H7,I7.FM _,n7⟩
  | brk=>obtain⟨σ7,H7,I7,n7⟩:=q;exact⟨σ7,H7,I7.FM _,n7⟩
  | ret v=>obtain⟨x7,σ7,H7,I7,r7,q7⟩:=q;exact⟨x7,σ7,H7,I7.FM _,r7,q7⟩
def Dq (Z:En):Rs Fl:=.ok (.ct Z)
end
def dt (F:En->Rs Fl)(Z:En):Rs T:=do
 let f <-F Z
 match f with
 | .nx _=> .ok .non
 | .rt t=> .ok t
 | _=> .bad
def bh (n:Nat)(ts:List T):En:=ts.map Sl.va++Ke (n - ts.length) Sl.em
theorem wH {n:Nat}{ts:List T}{i:Nat}{o:OT}(e:(bh n ts)[i]? =some (.ow o)):False:=by
 unfold bh at e
 by_cases hi:i<ts.length
 ·rw[LM (by simpa using hi),Kk,JU hi]at e
  cases e
 ·rw[Nm (by simpa using hi),NK]at e
  split at e <;> cases e
theorem nK {K:JH}{O:Ow}{H:Hp}{N:List Str}{ts:List T}{vs:List V}(r:Reps K O H ts vs)(hl:ts.length<=N.length)(trk:∀a,O a->Mtb H a):Ev K O noM H (bh N.length ts) (start N vs):=by
 have hlen:=r.length
 have sub:∀a,OO O noM a->O a:=λa z=>z.elim id λ⟨_,w⟩=>w.elim
 refine⟨⟨by unfold bh L2.start;simp;omega,λi t e=> ?_,λi o e=>(wH e).elim,λ_ _ z=>z.elim,λ_ _ _ z=>z.elim,λa z=>trk a (sub a z)⟩,λa ⟨_,z⟩=>z.elim⟩
 unfold bh at e;unfold L2.start
 by_cases hi:i<ts.length
 ·rw[LM (by simpa using hi),Kk,JU hi]at e
  have e':ts[i] =t:=by injection e with e;injection e
  obtain⟨v,e1,e2⟩:=r.get (i:=i) (t:=t) (by rw[<-e'];simp)
  refine⟨v,?_,e2.less sub⟩
  rw[LM (by simp;omega),Kk,e1];rfl
 ·rw[Nm (by simpa using hi),NK]at e
  split at e <;> cases e
section
variable {P:J9}{w:Kx}{K:JH}{mg:Str->Option JK}{base:Heap}
theorem HQ {x qual:Str}{st:Stmt}{f:Addr}{fd:L0}{N ps:List Str}{k n:Nat}{g:List T->Rs T}(Fn:L2.Fun K x qual st f fd)(S:dG N ps (aA st))(hn:ps.length=n)
  (hbody:∀(cdv:JK) (A:Km) (outer:List Env) (s:JL) (H:Hp) (E:XK),Room k (A.deeper (envOfC qual (aA st) s.heap.objs.size f cdv)) →
   ∃F,k6 (jU CX0 P w K mg base N qual (aA st) f cdv A outer s H E).nox (cf st) F/\∀ts,ts.length=n->∀t,g ts= .ok t->dt F (bh N.length ts)= .ok t):qH P w K mg base CX0 (k+1) f fd ps (spP K n g):=by
 have hpl:ps.length<=N.length:=by have:=congrArg MZ S.pre;rw[MK]at this;omega
 refine Fn.ok S (λvs H Q E h=> ?_) (λcdv A outer s H vs Q E hr h=> ?_)
 ·obtain⟨ts,O,r,_,hl,_⟩:=h
  rw[<-r.length,hl,hn]
 ·obtain⟨ts,O,r,trk,hl,h⟩:=h
  obtain⟨F,hF,hv⟩:=hbody cdv A outer s H E hr;refine⟨_,hF,bh N.length ts,O,noM,nK r (by omega) trk,?_⟩
  have no:∀a,¬noM.u a:=λa ⟨_,z⟩=>z
  cases q:g ts with
  | bad=>rw[q]at h;exact h.elim
  | err c=>rw[q]at h;exact h.elim
  | ok t=>
   rw[q]at h
   have hb:=hv ts hl t q;unfold dt at hb
   cases q2:F (bh N.length ts)with
   | bad=>rw[q2]at hb;cases hb
   | err c=>rw[q2]at hb;cases hb
   | ok fl=>
    rw[q2,aB]at hb
    have sameOf:∀H',SameO noM.u H H'->Same H H':=λH' s b o e=>s b o e (no b)
    cases fl with
    | nx Z'=>cases hb;exact λσ' H' M' s' E' o'=>h .non H' (sameOf H' s') Rep.Jl
    | rt t'=>cases hb;exact λv H' s' r'=>h v H' (sameOf H' s') r'
    | bk Z'=>cases hb
    | ct Z'=>cases hb
end
end Tr
namespace Enu
open PySem
open AutoSeq1 (wpAny_loadPart')
section
variable {prog:J9}{w:Kx}{A:Km}{E:JK->JL->Prop}{s:JL}
theorem tupNext {it tt:Addr}{k:Nat}{its:Array JK}{x:JK}{Q:JK->JL->Prop}(hi:s.heap.IsTupleIter it tt k)(ht:s.heap.IsTuple tt its)(hx:its[k]? =some x)
  (hQ:∀h',h'.IsTupleIter it tt (k+1)->MF it s.heap h'->Q x { s with heap:=h' }):wpAny (model prog w) A (Kr (.ref it)) Q E s:=by
 obtain⟨ob,g1,g2,g3⟩:=id hi;obtain⟨ot,k1,_,m,k3⟩:=ht;unfold Kr;refine JG (KN (name:=J0 "__next__") hi.typeIs Mh (KP Mh hi.typeIs OP ?_ (OD _)))
 show wpAny (model prog w) _ (field (.ref it) 0 >>= _) _ _ s
 refine JG (Lu g1 g3 (x:=.ref tt) rfl ?_)
 show wpAny (model prog w) _ (if (Kb tt == KI)=true then _ else _) _ _ s
 rw[if_neg (show ¬((Kb tt == KI)=true)by exact J3)]
 show wpAny (model prog w) _ (field (.ref it) 1 >>= _) _ _ s
 refine JG (Lu g1 g3 (x:=.int k 0) rfl ?_)
 show wpAny (model prog w) _ (OY (.ref tt) >>= _) _ _ s
 refine JG (KJ k1 k3 ?_)
 simp only[hx,Lf];refine JG (Ob g1 g3 (by simp) (JN ⟨x,rfl,JN (hQ _ ?_ (Ls ..))⟩))
 refine⟨_,KA _ g1 (Of (Mk g3 _)),(Py ..).trans g2,?_⟩
 rw[Mk g3];simp[rawInt]
theorem tupStop {it tt:Addr}{k:Nat}{its:Array JK}{Q:JK->JL->Prop}(hh:A.handled=none)(hi:s.heap.IsTupleIter it tt k)(ht:s.heap.IsTuple tt its)(hx:its[k]? =none)
  (hE:∀h' e,QU it s.heap h'->(∃o,h'.get? e=some o/\o.cls= .type "StopIteration")->E (.ref e) { s with heap:=h' }):wpAny (model prog w) A (Kr (.ref it)) Q E s:=by
 obtain⟨ob,g1,g2,g3⟩:=id hi;obtain⟨ot,k1,_,m,k3⟩:=ht;unfold Kr;refine JG (KN (name:=J0 "__next__") hi.typeIs Mh (KP Mh hi.typeIs OP ?_ (OD _)))
 show wpAny (model prog w) _ (field (.ref it) 0 >>= _) _ _ s
 refine JG (Lu g1 g3 (x:=.ref tt) rfl ?_)
 show wpAny (model prog w) _ (if (Kb tt == KI)=true then _ else _) _ _ s
 rw[if_neg (show ¬((Kb tt == KI)=true)by exact J3)]
 show wpAny (model prog w) _ (field (.ref it) 1 >>= _) _ _ s
 refine JG (Lu g1 g3 (x:=.int k 0) rfl ?_)
 show wpAny (model prog w) _ (OY (.ref tt) >>= _) _ _ s
 refine JG (KJ k1 k3 ?_)
 simp only[hx,Lf];refine JG (MR (JG (Ob g1 g3 (by simp) ?_)))
 show wpAny (model prog w) _ (newExc (.type "StopIteration") [] >>= _) _ _ _
 refine JG ?_
 simp only[newTuple,newExc];refine JG (Kl ?_ (by size_fits))
 refine JG (m:=Pq _ _) (P0 (a:=KI) (by first | (simp only[Pq];rfl) | rfl) ?_)
 refine Kl ?_ (by size_fits)
 simp only[raiseNew];refine JG (wpAny_handled ?_)
 first | rw[hh] | rw[show A.in1.handled=none from hh]
 refine JG (JN (wpAny_throw ?_))
 refine hE _ _ (((Ls ..).extBut.push _).push _) ⟨_,JS _ rfl,rfl⟩
end
theorem tupDraws {prog:J9}{w:Kx}{A:Km}(hh:A.handled=none)(it tt:Addr)(hne:tt≠it)(its:Array JK) :
  Draws prog w A it [it,tt] its.size (λi v=>its[i]? =some v) (λi h=>h.IsTupleIter it tt i/\h.IsTuple tt its) where
 live:=λ_ _ st=>by obtain⟨o,ho,_⟩:=st.1;exact⟨o,ho⟩
 frame:=λ_ _ _ st hk=>by
  obtain⟨⟨o,e,r⟩,⟨o',e',r'⟩⟩:=st;exact⟨⟨o,hk it (by simp) o e,r⟩,⟨o',hk tt (by simp) o' e',r'⟩⟩
 item:=λi s Q E hi st hQ=>by
  refine tupNext st.1 st.2 (x:=its[i]) (by simp[hi]) λh' hit' hs'=> ?_
  obtain⟨o',e',r'⟩:=st.2;exact hQ _ h' s.toks (by simp[hi]) ⟨hit',⟨o',(hs'.2 tt hne).trans e',r'⟩⟩ hs'
 done:=λs Q E st hE=>tupStop hh st.1 st.2 (by simp) hE
theorem newT (l:Addr)(items:Array JK)(n:Nat)(dct:Option Addr)(sl:Array (Option JK)) :
  Meets (Builtin.«enumerate.__new__» ⟨[.type "enumerate",.ref l],[]⟩) (λ_ R s=>s.heap.get? l=some { cls:=.type "tuple",dict:=dct,data:=.seq items n,slots:=sl } ∧
   R (.ok (.ret (.ref (s.heap.push { cls:=.type "tuple_iterator",data:=.fields #[.ref l,.int 0 0] }).objs.size)))
    { s with heap:=(s.heap.push { cls:=.type "tuple_iterator",data:=.fields #[.ref l,.int 0 0] }).push { cls:=.type "enumerate",data:=.fields #[.none,.bool false,.ref s.heap.objs.size,rawInt 0,.none,.none] } }):=
 .of_wp λprog w A R s h=>by
  obtain⟨hp,g,d,tk,os⟩:=s;obtain⟨hl,h⟩:=h
  have hsub:=sub_enumerate
  have hT:Heap.IsTuple (SQ ⟨hp,g,d,tk,os⟩) l items:=⟨_,hl,rfl,n,rfl⟩
  wp_walk using K2 hl
  refine wpAny_stack_any λst=>JN ?_
  split
  ·rename_i c _ _ _ _ _
   cases (c == LH "enumerate")
   ·wp_walk using K2 hl,LA hT
    exact⟨_,rfl,h⟩
   ·wp_walk using K2 hl,LA hT
    exact⟨_,rfl,h⟩
  ·wp_walk using K2 hl,LA hT
   exact⟨_,rfl,h⟩
theorem callT {prog:J9}{w:Kx}{A:Km}{E:JK->JL->Prop}{s:JL}{l:Addr}{items:Array JK}{Q:JK->JL->Prop}(hL:s.heap.IsTuple l items)
  (h:∀h',IsEnum h' (s.heap.objs.size+1) s.heap.objs.size 0 .none->h'.IsTupleIter s.heap.objs.size l 0->h'.objs.size=s.heap.objs.size+2 →
   (∀b o,s.heap.get? b=some o->h'.get? b=some o)->Q (.ref (s.heap.objs.size+1)) { s with heap:=h' }):wpAny (model prog w) A (call (.type "enumerate") [.ref l]) Q E s:=by
 obtain⟨⟨cc,dc,dd,ss⟩,hl,hc,n,hd⟩:=hL
 replace hc:cc= .type "tuple":=hc
 replace hd:dd= .seq items n:=hd
 subst hc hd;refine callType_new F.called_enumerate (by decide) (F.typeCall_enumerate_1 _) (F.newCall_enumerate_1 _) (λobj=>F.args_object_init_2 obj _) F.entry_enumerate_new (newT l items n dc ss) ⟨hl,?_⟩
 have hz:(s.heap.push { cls:=.type "tuple_iterator",data:=.fields #[.ref l,.int 0 0] }).objs.size=s.heap.objs.size+1:=Ku ..
 show _/\_
 rw[hz]
 have he:IsEnum ((s.heap.push { cls:=.type "tuple_iterator",data:=.fields #[.ref l,.int 0 0] }).push
   { cls:=.type "enumerate",data:=.fields #[.none,.bool false,.ref s.heap.objs.size,rawInt 0,.none,.none] }) (s.heap.objs.size+1) s.heap.objs.size 0 .none:=by
  have q:=JS (s.heap.push { cls:=.type "tuple_iterator",data:=.fields #[.ref l,.int 0 0] })
   (o:={ cls:=.type "enumerate",data:=.fields #[.none,.bool false,.ref s.heap.objs.size,rawInt 0,.none,.none] }) rfl
  rw[hz]at q;exact q
 refine⟨⟨_,he,rfl⟩,h _ he ⟨_,JI _ (JS _ rfl),rfl,rfl⟩ (by rw[Ku,hz]) λb o x=>JI _ (JI _ x)⟩
end Enu
namespace L2
open PySem PySem.Spec PyProof.Rows
section
variable {X:Cx}{pins:List (Addr×Obj)}{σ:L2.St}{H:Hp}{s:JL}{h':Heap}
theorem Inv.Jd {t':Nat}{fp:List Addr}{Tp:Addr}{xs:List V}(I:Inv X pins σ H s)(hf:∀b∈fp,k7 X pins H b)(k:∀b o,b∉fp->s.heap.get? b=some o->h'.get? b=some o)
  (ht:∀b∈fp,∃o,h'.get? b=some o) (hT:s.heap.objs.size<=Tp) (new:ObjOk X.prog X.w (upd H Tp (.tup xs)) h' Tp (.tup xs)):Inv X pins σ (upd H Tp (.tup xs)) { s with heap:=h',toks:=t' }:=by
 have hn:H Tp=none:=I.hok.fresh hT
 have kX:∀b o,s.heap.get? b=some o->b≠Tp:=λb o e=>J7 (JY (JV e) hT)
 have nf:∀b u,H b=some u->b∉fp:=λb u e z=>by rw[(hf b z).1]at e;cases e
 refine I.step (g':=s.gens) (d':=s.drawn) (ch:=fp) (λb hb=>⟨(hf b hb).2.2.2.1,(hf b hb).2.1,(hf b hb).2.2.2.2.1,(hf b hb).2.2.2.2.2⟩) (λb o _ _ hc e _=>k b o hc e) (λb o _ _ hc e _=>⟨o.slots,k b o hc e⟩)
  (λb o _ e n=>by rw[aQ (kX b o e)];exact n) (λb o hc e=>⟨o,k b o hc e⟩) (λb ys e=>by rw[aQ (bO e hn)];exact e) (λb o u e=>by rw[aQ (bO e hn)];exact e)
  (λb ps e=>⟨#[],by rw[aQ (bO e hn),e];simp⟩) (λm hm=> ?_) (λb u e=> ?_) I.bare
 ·obtain⟨o,es,ep,ho,r⟩:=hm
  exact⟨o,es,ep,k _ o (λz=>(hf _ z).2.1 rfl) ho,r⟩
 ·by_cases hb:b=Tp
  ·subst hb;rw[bc]at e;cases e;exact new
  ·rw[aQ hb]at e
   refine(I.hok b u e).IW (λc v hc q=>k c v ?_ q) (λc q=>by rw[aQ (bO q hn)];exact q) λc ys q=>by rw[aQ (bO q hn)];exact q
   rcases hc with z | z
   ·rw[z];exact nf b u e
   ·exact nf c _ z
theorem Inv.IS {t':Nat}{fp:List Addr}(I:Inv X pins σ H s)(hf:∀b∈fp,k7 X pins H b)(k:∀b o,b∉fp->s.heap.get? b=some o->h'.get? b=some o):Inv X pins σ H { s with heap:=h',toks:=t' }:=by
 have nf:∀b u,H b=some u->b∉fp:=λb u e z=>by rw[(hf b z).1]at e;cases e
 refine I.step (g':=s.gens) (d':=s.drawn) (ch:=fp) (λb hb=>⟨(hf b hb).2.2.2.1,(hf b hb).2.1,(hf b hb).2.2.2.2.1,(hf b hb).2.2.2.2.2⟩) (λb o _ _ hc e _=>k b o hc e) (λb o _ _ hc e _=>⟨o.slots,k b o hc e⟩)
  (λb o _ e n=>n) (λb o hc e=>⟨o,k b o hc e⟩) (λb ys e=>e) (λb o u e=>e)
  (λb ps e=>⟨#[],by rw[e];simp⟩) (λm hm=> ?_) (λb u e=> ?_) I.bare
 ·obtain⟨o,es,ep,ho,r⟩:=hm
  exact⟨o,es,ep,k _ o (λz=>(hf _ z).2.1 rfl) ho,r⟩
 ·refine(I.hok b u e).IW (λc v hc q=>k c v ?_ q) (λc q=>q) λc ys q=>q
  rcases hc with z | z
  ·rw[z];exact nf b u e
  ·exact nf c _ z
end
def mT (K:JH)(H:Hp)(a:Addr)(tt:Bool)(xs:List V):Prop:=if tt then SqT K H a xs else SqL K H a xs
def IG (K:JH)(a:Addr)(tt:Bool):It:=
 ⟨λi H=> ∃xs x,mT K H a tt xs/\xs[i]? =some x,λi H x H'=> ∃p v,x= .ref p/\H p=none/\H'=upd H p (.tup [.int (i:Nat),v])/\∀xs,mT K H a tt xs->xs[i]? =some v,λi H=> ∃xs,mT K H a tt xs/\xs.length<=i⟩
def itAt (tt:Bool)(h:Heap)(it a:Addr)(i:Nat):Prop:=if tt then h.IsTupleIter it a i else h.IsListIter it a i
theorem itAt.obj {tt:Bool}{h:Heap}{it a:Addr}{i:Nat}(st:itAt tt h it a i):∃o,h.get? it=some o/\∀v,o.data≠ .cell v:=by
 cases tt with
 | true=>obtain⟨o,e,c,d⟩:=(show h.IsTupleIter it a i from st);exact⟨o,e,λv z=>by rw[d]at z;cases z⟩
 | false=>obtain⟨o,e,c,d⟩:=(show h.IsListIter it a i from st);exact⟨o,e,λv z=>by rw[d]at z;cases z⟩
theorem itAt.keep {tt:Bool}{h h':Heap}{it a:Addr}{i:Nat}(st:itAt tt h it a i)(k:∀o,h.get? it=some o->h'.get? it=some o):itAt tt h' it a i:=by
 cases tt with
 | true=>obtain⟨o,e,r⟩:=(show h.IsTupleIter it a i from st);exact(show h'.IsTupleIter it a i from⟨o,k o e,r⟩)
 | false=>obtain⟨o,e,r⟩:=(show h.IsListIter it a i from st);exact(show h'.IsListIter it a i from⟨o,k o e,r⟩)
theorem wB {P:J9}{w:Kx}{K:JH}{elts:List Expr}{kk:Nat}{pos:Pos}(tt:Bool)(a e it:Addr)(hei:e≠it) :
  xM P w K (.Tuple elts kk pos) (IG K a tt) [e,it] e (λi h=>(∃old,IsEnum h e it i old)/\itAt tt h it a i) where
 mem:=by simp
 obj:=λi h st b hb=>by
  obtain⟨⟨old,he⟩,hi⟩:=st;rcases JT.mp hb with rfl | hb
  ·exact⟨_,he,λv z=>by have z':SN _=Q9 v:=z;cases z'⟩
  ·rw[JX.mp hb];exact hi.obj
 keep:=λi h h' st k=>by
  obtain⟨⟨old,he⟩,hi⟩:=st;exact⟨⟨old,k e (by simp) _ he⟩,hi.keep λo q=>k it (by simp) o q⟩
 item:=by
  intro X hP hw hK hc i pins s σ H E I hf st hg;subst hP hw hK;obtain⟨xs,x,hq,hx⟩:=hg;obtain⟨⟨old,he⟩,hi⟩:=st
  -- by what is walked
  have key:∀(its:List JK),Vals xs its->(∀ys,mT X.K H a tt ys->ys=xs)->∀(fp0:List Addr) (St:Nat->Heap->Prop),Draws X.prog X.w X.A.in1 it fp0 its.toArray.size (λi v=>its.toArray[i]? =some v) St->e∉fp0->it∈fp0->St i s.heap →
    (∀h',St (i+1) h'->itAt tt h' it a (i+1)) →
    wpAny (model X.prog X.w) X.A (pyNext (.ref e)) (λr s1=> ∃u,r=some u/\wpAny (model X.prog X.w) X.A (NP (.Tuple elts kk pos) (.ref e) u) (λ_ s2=> ∃x' H',Inv X pins σ H' s2/\RelV x' u/\(IG X.K a tt).yld i H x' H' ∧
     ((∃old,IsEnum s2.heap e it (i+1:Nat) old)/\itAt tt s2.heap it a (i+1))/\∀b∈ [e,it],H' b=none) E s1) E s:=by
   intro its rv uniq fp0 St D hef hif hst hnext;obtain⟨u,hu,ru⟩:=rv.get hx
   have hlt:i<its.toArray.size:=by
    have:=(J4.mp hu).1
    simpa using this
   have W:=WalksT.enumerateD D e hei hef hif;refine W.item i s _ _ hlt ⟨⟨old,he⟩,hst⟩ λTp vals h1 tk hPt hTsz hTup hMid hk=>⟨.ref Tp,rfl,?_⟩
   refine W.go elts kk pos i Tp { s with heap:=h1,toks:=tk } _ _ hMid λh2 hst2 hk2=> ?_
   obtain⟨t,x',hPx,hvals⟩:=hPt;subst hvals
   have hxe:x'=u:=by
    have h1':its.toArray[i]? =some x':=hPx
    have h2':its.toArray[i]? =some u:=by simpa using hu
    rw[h1']at h2';exact KM h2'
   subst hxe
   have hTw:=W.apart i Tp h1 hMid;obtain⟨oT,eT,rT⟩:=hTup
   have eT2:h2.get? Tp=some oT:=hk2 Tp oT hTw eT
   have kAll:∀b o,b∉ [e,it]->s.heap.get? b=some o->h2.get? b=some o:=λb o hb q=>hk2 b o hb (hk b o hb q)
   obtain⟨⟨old2,he2⟩,hs2⟩:=hst2
   have hit2:=hnext h2 hs2
   have there:∀b∈ [e,it],∃o,h2.get? b=some o:=λb hb=>by
    rcases JT.mp hb with rfl | hb
    ·exact⟨_,he2⟩
    ·rw[JX.mp hb];obtain⟨o,q,_⟩:=hit2.obj;exact⟨o,q⟩
   have hn:H Tp=none:=I.hok.fresh hTsz
   have new:ObjOk X.prog X.w (upd H Tp (.tup [.int (i:Nat),x])) h2 Tp (.tup [.int (i:Nat),x]):=
    ⟨by show 2<=sizeLine;decide,[.int (i:Nat) t,x'],.cons ⟨t,rfl⟩ (.cons ru .nil),⟨oT,eT2,rT⟩⟩
   have I2:=I.Jd (t':=tk) hf kAll there hTsz new;refine⟨.ref Tp,_,I2,rfl,⟨Tp,x,rfl,hn,rfl,λys hy=>by rw[uniq ys hy];exact hx⟩,⟨⟨old2,he2⟩,hit2⟩,λb hb=> ?_⟩
   have hbT:b≠Tp:=λz=>by
    obtain⟨o,q⟩:∃o,s.heap.get? b=some o:=by
     rcases JT.mp hb with rfl | hb
     ·exact⟨_,he⟩
     ·rw[JX.mp hb];obtain⟨o,q,_⟩:=hi.obj;exact⟨o,q⟩
    exact absurd (JY (JV q) hTsz) (by rw[z];exact Ki _)
   rw[aQ hbT];exact(hf b hb).1
  have hne:∀b∈ [e,it],a≠b:=λb hb z=>by
   have hb':=(hf b hb).1;rw[<-z]at hb'
   have hbs:=hf b hb
   cases tt with
   | true=>
    have hq':SqT X.K H a xs:=hq;rcases hq' with(q | ⟨o,q⟩) | ⟨o,its,n,q,_⟩
    ·rw[hb']at q;cases q
    ·rw[hb']at q;cases q
    ·rcases hbs.2.2.2.1 with z1 | z1
     ·exact I.ok.noex a o (I.ok.mod.kin a o q) (z▸z1)
     ·exact absurd (JY (JV (I.ok.bs a o (I.ok.mod.kin a o q)).1) (z▸z1)) (Ki _)
   | false=>
    have hq':SqL X.K H a xs:=hq;rcases hq' with(q | ⟨o,q⟩) | ⟨o,its,n,q,_⟩
    ·rw[hb']at q;cases q
    ·rw[hb']at q;cases q
    ·rcases hbs.2.2.2.1 with z1 | z1
     ·exact I.ok.noex a o (I.ok.mod.kin a o q) (z▸z1)
     ·exact absurd (JY (JV (I.ok.bs a o (I.ok.mod.kin a o q)).1) (z▸z1)) (Ki _)
  have hea:e≠a:=λz=>hne e (by simp) z.symm
  have hia:it≠a:=λz=>hne it (by simp) z.symm
  cases tt with
  | true=>
   have hq':SqT X.K H a xs:=hq;obtain⟨its,rv,p,hz⟩:=I.tuple hq'
   exact key its rv (λys hy=>I.IQ hy hq') _ _ (Enu.tupDraws (A:=X.A.in1) (I.ok.hd hc) it a (MS hia) its.toArray) (by simp[hei,hea]) (by simp) ⟨hi,p⟩ λh' z=>z.1
  | false=>
   have hq':SqL X.K H a xs:=hq;obtain⟨its,rv,p,hz⟩:=I.list hq';exact key its rv (λys hy=>I.IU hy hq') _ _ (Draws.list (A:=X.A.in1) (I.ok.hd hc) it a (MS hia) its.toArray) (by simp[hei,hea]) (by simp) ⟨hi,p.isList⟩ λh' z=>z.1
 done:=by
  intro X hP hw hK hc i pins s σ H E I hf st hg;subst hP hw hK;obtain⟨xs,hq,hx⟩:=hg;obtain⟨⟨old,he⟩,hi⟩:=st
  have fin:∀h',QU it s.heap h'->(none:Option JK)=none/\Inv X pins σ H { s with heap:=h' }:=λh' eb=>⟨rfl,I.IS (t':=s.toks) hf λb o hb q=>eb b o (λz=>hb (by simp[z])) q⟩
  cases tt with
  | true=>
   have hq':SqT X.K H a xs:=hq;obtain⟨its,rv,p,hz⟩:=I.tuple hq'
   have hl:=rv.length
   have hnone:its.toArray[i]? =none:=by simp;omega
   have hT:s.TypeIs (.ref e) "enumerate":=⟨_,he,rfl⟩;unfold pyNext;refine JG (NQ (KN (name:=J0 "__next__") hT Qn (KP Qn hT F.entry_enumerate_next ?_ (F.args_enumerate_next_1 _))))
   show wpAny (model X.prog X.w) _ (field (.ref e) 2 >>= _) _ _ _
   refine JG (Lu he rfl (x:=.ref it) rfl ?_)
   refine JG (Enu.tupStop (I.ok.hd hc) hi p hnone λh' x he' hx'=> ?_)
   obtain⟨o,ho,hcl⟩:=hx'
   exact JG (Ou (T:="StopIteration") (b:=true) ⟨o,ho,hcl⟩ QP (JN (fin h' he')))
  | false=>
   have hq':SqL X.K H a xs:=hq;obtain⟨its,rv,p,hz⟩:=I.list hq'
   have hl:=rv.length
   have hnone:its.toArray[i]? =none:=by simp;omega
   exact wpAny_pyNext_enum_end (I.ok.hd hc) he hi p.isList hnone fin
 self:=λ_ _ _ _ _ st h=>by
  obtain⟨⟨old,he⟩,_⟩:=st;exact R1 he h
section
variable {X:Cx}{elts:List Expr}{kk:Nat}{tpos:Pos}
theorem mL:Ky "enumerate" =some (.type "enumerate"):=by decide+kernel
def iEnu (K:JH)(tl:TA):TI:=λσ H R=>tl σ H λvs H1=> ∃a tt,vs= [.ref a]/\(∃xs,mT K H1 a tt xs)/\R (IG K a tt) H1
theorem B7 {l:Expr}{tl:TA}{p pos:Pos}(hg:Gl X "enumerate")(hm:X.mg "enumerate" =none)(hl:PA X [l] tl)(hs:autoParam (Kc [l] X.env= [(false,eval l X.env)]) u_):PI X (.Tuple elts kk tpos) (.Call (.Name "enumerate" p) [l] [] pos) (iEnu X.K tl):=by
 intro pins s σ H R I h;refine Call_ (fQ I hg hm mL (K9 (bV (hl pos pins s σ H _ I h) λus s1 ⟨vs,H1,I1,r1,q1⟩=> ?_) hs rfl))
 obtain⟨a,tt,e,⟨xs,hq⟩,q⟩:=q1;subst e;obtain⟨u,rfl,ru⟩:=ja r1;cases ru
 have fin:∀h',IsEnum h' (s1.heap.objs.size+1) s1.heap.objs.size 0 .none->itAt tt h' s1.heap.objs.size a 0->h'.objs.size=s1.heap.objs.size+2->(∀b o,s1.heap.get? b=some o->h'.get? b=some o) →
   wpAny (model X.prog X.w) X.A (pyIter (.ref (s1.heap.objs.size+1))) (PIE X pins σ (.Tuple elts kk tpos) R) X.xe { s1 with heap:=h' }:=λh' he hi hsz hk=>by
  refine R1 he ?_
  have I2:Inv X pins σ H1 { s1 with heap:=h' }:=I1.kept (t':=s1.toks) hk
  refine⟨s1.heap.objs.size+1,[s1.heap.objs.size+1,s1.heap.objs.size],_,_,H1,rfl,I2,wB tt a (s1.heap.objs.size+1) s1.heap.objs.size (Nat.succ_ne_self _),⟨⟨_,he⟩,hi⟩,λb hb=> ?_,q⟩
  rcases JT.mp hb with rfl | hb
  ·exact I1.IZ (by omega) (I1.hok.fresh (by omega))
  ·rw[JX.mp hb];exact I1.IZ (JW _) (I1.hok.fresh (JW _))
 cases tt with
 | true=>
  have hq':SqT X.K H1 a xs:=hq;obtain⟨its,rv,pl,hz⟩:=I1.tuple hq'
  exact Enu.callT pl λh' he hi hsz hk=>fin h' he hi hsz hk
 | false=>
  have hq':SqL X.K H1 a xs:=hq;obtain⟨its,rv,pl,hz⟩:=I1.list hq';exact call_enumerate_list pl.isList λh' he hi hsz hk=>fin h' he hi hsz hk
end
end L2
namespace Tr
open PySem PySem.Spec PyProof.Rows L2
section
variable {X:Cx}{a:Expr}{fa:En->Rs T}{fs:En->Rs (List T)}{p pos:Pos}
def iS (f:En->Rs T)(Z:En):Rs (List T):=do
 let x <-f Z
 match x with
 | .lst l=> .ok l
 | .tup l=> .ok l
 | _=> .bad
theorem Ex {tg:Expr}(ha:b7 X a fa):AS X tg a (iS fa):=by
 intro pins s σ H R I ⟨Z,O,E,h⟩;unfold iS at h
 cases q:fa Z with
 | bad=>rw[q]at h;exact h.elim
 | err c=>exact vg ha pins s σ H R I ⟨Z,O,E,by unfold iL;rw[q]at h ⊢;exact h⟩
 | ok x=>
  rw[q,aB]at h
  cases x with
  | lst l=>exact vg ha pins s σ H R I ⟨Z,O,E,by unfold iL;rw[q];exact h⟩
  | tup l=>exact Ew ha pins s σ H R I ⟨Z,O,E,by unfold iT;rw[q];exact h⟩
  | _=>exact h.elim
def cA:Nat->List T->List T
 | _,[] => []
 | n,t::r=> .tup [.int n,t] ::cA (n+1) r
theorem oj:∀(l:List T) (n i:Nat),(cA n l)[i]? =(l[i]?).map λt=>T.tup [.int ((n+i:Nat):Int),t]
 | [],n,i=>by simp[cA]
 | t::l,n,0=>by simp[cA]
 | t::l,n,i+1=>by
  rw[cA,MI,oj l (n+1) i,MI]
  congr 2
  funext t
  congr 4
  omega
theorem oh:∀(l:List T) (n:Nat),(cA n l).length=l.length
 | [],n=>rfl
 | t::l,n=>by rw[cA,JR,JR,oh l]
def iE (f:En->Rs (List T))(Z:En):Rs (List T):=do
 let xs <-f Z
 match xs with
 | [x] =>match x.items with
  | some l=> .ok (cA 0 l)
  | none=> .bad
 | _=> .bad
theorem BM {elts:List Expr}{kk:Nat}{tpos:Pos}(hm:X.mg "enumerate" =none)(ha:qG X [a] fs)(hg:autoParam (Gl X "enumerate") u_)(hs:autoParam (Kc [a] X.env= [(false,eval a X.env)]) u_) :
  AS X (.Tuple elts kk tpos) (.Call (.Name "enumerate" p) [a] [] pos) (iE fs):=PI.imp (B7 hg hm ha hs) λσ H R hh_=>by
 obtain⟨Z,O,E,h⟩:=hh_;obtain⟨Z1,O1,E1,h1⟩:=dX E h;refine⟨Z1,O1,E1,Post.mono h1 λts H1 s1 q vs r=> ?_⟩
 obtain⟨t',r',s',E',q'⟩:=q vs r
 split at q'
 ·rename_i x0
  obtain⟨v,rfl,rv⟩:=r'.one
  split at q'
  ·rename_i l hl
   have main:∀(aa:Addr) (tt:Bool) (ws:List V),v= .ref aa->¬ O aa->Reps X.K O H1 l ws->mT X.K H1 aa tt ws->(∀P Hc,SameO P H1 Hc->¬ P aa->mT X.K Hc aa tt ws)->¬ Nw X.K H1 aa →
     ∃a tt,[v] = [V.ref a]/\(∃xs,mT X.K H1 a tt xs)/\R (IG X.K a tt) H1:=λaa tt ws e n z sq mv nn=>by
    refine⟨aa,tt,by rw[e],⟨ws,sq⟩,q' H1 (Same.refl H1) _ λP O' hP hO i Hc hsm htr=> ?_⟩
    have hnP:¬ P aa:=λy=>(hP aa y).elim n nn
    have sqc:=mv P Hc hsm hnP;refine⟨λhi=>⟨ws,sqc,by rw[<-z.length,<-oh l 0];exact hi⟩,λt ht=> ?_⟩
    rw[oj]at ht
    cases e1:l[i]? with
    | none=>rw[e1]at ht;cases ht
    | some t0=>
     rw[e1]at ht;cases ht;obtain⟨v0,f1,f2⟩:=z.get e1;refine⟨⟨ws,v0,sqc,f1⟩,λx Hc' y=> ?_⟩
     obtain⟨pp,vv,e2,hpn,e3,hy⟩:=y
     have:=hy ws sqc;rw[f1]at this;cases this;subst e2 e3;refine⟨aU hpn _,fj hpn (λzz=> ?_) (Reps.FS (by simpa using Rep.GM _) (Reps.FS (f2.move hP hO hsm) Reps.II))⟩
     obtain⟨o,w⟩:=htr pp zz;rw[hpn]at w;cases w
   cases x0 with
   | tup m=>
    cases hl;obtain⟨aa,ws,e,n,qq,z⟩:=Rep.Da.mp rv
    exact main aa true ws e n z (show SqT X.K H1 aa ws from SqT.of qq) (λP Hc hsm hn=>show SqT X.K Hc aa ws from SqT.of (hsm _ _ qq hn)) λw=>by rw[w.1]at qq;cases qq
   | lst m=>
    cases hl;obtain⟨aa,ws,e,n,qq,z⟩:=Rep.Fk.mp rv
    exact main aa false ws e n z (show SqL X.K H1 aa ws from SqL.of qq) (λP Hc hsm hn=>show SqL X.K Hc aa ws from SqL.of (hsm _ _ qq hn)) λw=>by rw[w.1]at qq;cases qq
   | scr m=>
    cases hl;unfold Rep at rv;obtain⟨aa,e,n,qq⟩:=rv
    exact main aa false _ e n Reps.ints (show SqL X.K H1 aa _ from qq) (λP Hc hsm hn=>show SqL X.K Hc aa _ from Tr.SqL.keep hsm hn qq) (Tr.SqL.nn qq)
   | _=>cases hl
  ·exact q'.elim
 ·exact q'.elim
end
end Tr
namespace Tm
open PySem PyProof.Rows
theorem kj:fillsNumberSlot (.type "tuple") "mul" =pure false:=
 PySem.fillsNumberSlot_seq (id:="tuple.__mul__") (r:=some (.builtin "tuple.__rmul__")) P6.lookup (by decide+kernel) RM.lookup (by decide+kernel)
theorem pj:seqRepeat? (.type "tuple")=pure (some (.builtin "tuple.__mul__")):=by
 unfold seqRepeat?;rw[Sr (T:="tuple") (name:="__mul__") (id:="tuple.__mul__") P6.lookup (by decide+kernel),Sr (T:="tuple") (name:="__rmul__") (id:="tuple.__rmul__") RM.lookup (by decide+kernel)]
 rfl
theorem ua (a:Int)(t:Tok)(l:Addr)(items:Array JK)(n:Nat)(dd:Option Addr)(sl:Array (Option JK)) :
  Meets (Builtin.«int.__rmul__» ⟨[.int a t,.ref l],[]⟩) (λ_ R s=>s.heap.get? l=some { cls:=.type "tuple",dict:=dd,data:=.seq items n,slots:=sl }/\R (.ok (.ret Ov)) s):=
 .of_wp λprog w A R s h=>by obtain⟨hp,g,d,tk,os⟩:=s;obtain⟨hl,h⟩:=h;wp_walk;exact⟨_,rfl,h⟩
open AutoSeq1 (wpAny_loadPart')
theorem zD (l:Addr)(items:Array JK)(n:Nat)(dd:Option Addr)(sl:Array (Option JK))(x:Int)(u:Tok)(h1:1<x)(h2:x<2 ^ 31)(hne:items.isEmpty=false)(hz:items.size*x.toNat<=sizeLine)
  (hz2:(Px (λa b=>a++b) #[] (Ke x.toNat items)).size<=sizeLine) :
  Meets (Builtin.«tuple.__mul__» ⟨[.ref l,.int x u],[]⟩) (λ_ R s=>s.heap.get? l=some { cls:=.type "tuple",dict:=dd,data:=.seq items n,slots:=sl } ∧
   R (.ok (.ret (Kb s.heap.objs.size))) { s with heap:=s.heap.push { cls:=LH "tuple",data:=Data.seq (Px (λa b=>a++b) #[] (Ke x.toNat items)) } }):=
 .of_wp λprog w A R s h=>by
  obtain⟨hp,g,d,tk,os⟩:=s;obtain⟨hl,h⟩:=h
  have hT:Rn hp l items:=⟨_,hl,rfl,n,rfl⟩
  have hx:((items.size:Nat):Int)*x=((items.size*x.toNat:Nat):Int):=by
   have e:x=((x.toNat:Nat):Int):=by omega
   rw[Int.natCast_mul,<-e]
  wp_walk using K2 hl
  rw[if_neg (by simp;omega)]
  refine JG (Rw (s:=⟨hp,g,d,tk,os⟩) hT ?_)
  dsimp only
  rw[if_neg (by rw[hne];simp;omega),if_neg (by rw[hne];simp;omega),hx,if_neg (by have:(sizeLine:Nat)<=1000000000:=(by decide);omega),if_neg (by unfold Builtin.Tuple.tupleTooMany;rw[decide_eq_true_iff];omega)]
  refine JG (m:=LY _) (Kl ?_ hz2)
  exact JN ⟨_,rfl,h⟩
section
variable {prog:J9}{w:Kx}{A:Km}{E:JK->JL->Prop}{s:JL}
theorem mul_tuple {t:Addr}{vs:List JK}{k:Int}{tk:Tok}{Q:JK->JL->Prop}(ht:Rn s.heap t vs.toArray)(h1:1<k)(h2:k<2 ^ 31)(hv:vs≠ [])(hz:vs.length*k.toNat<=sizeLine)
  (h:Q (.ref s.heap.objs.size) { s with heap:=s.heap.push { cls:=.type "tuple",data:=.seq (Ke k.toNat vs).flatten.toArray } }) :
  wpAny (model prog w) A (LZ .Mult (.ref t) (.int k tk)) Q E s:=by
 obtain⟨⟨cls,dd,data,sl⟩,ho,hc,n,hd⟩:=id ht;simp only at hc hd;subst hc hd
 have e:Px (λa b=>a++b) #[] (Ke k.toNat vs.toArray)=(Ke k.toNat vs).flatten.toArray:=by
  have q:=L2.foldl_rep vs k.toNat []
  simpa using q
 refine Po (T:="tuple") (U:="int") (by decide) ⟨_,ho,rfl⟩ (λs'=>Qz s' k tk) kj SO OM pj Sn.lookup
  (N8 OM (Qz s k tk) So (RJ _ _) (ua k tk t vs.toArray n dd sl)
   ⟨ho,rfl,⟨_,ho,rfl⟩,N8 P6 ⟨_,ho,rfl⟩ F.entry_tuple_mul (F.args_tuple_mul_2 _ _) (zD t vs.toArray n dd sl k tk h1 h2 (by simpa using hv) (by simpa using hz) (by rw[e,J1,L2.len_rep,Sa];exact hz)) ⟨ho,?_⟩⟩)
 rw[e];exact h
end
end Tm
namespace Tr
open PySem PySem.Spec PyProof.Rows L2
section
variable {X:Cx}
def ck (x y:T):Rs T:=match x,y with
 | .tup l,.int k=>if 1<k/\k<2 ^ 31/\l≠ []/\l.length*k.toNat<=sizeLine then .ok (.tup (Ke k.toNat l).flatten)else .bad
 | x,y=>uo x y
instance (l:List T):Decidable (l≠ []):=by cases l <;> simp <;> infer_instance
theorem dy:OpT X (LZ .Mult) ck:=by
 intro pins s σ H O x y vx vy ux uy Q I hf rx ry r1 r2 hp;unfold ck at hp
 split at hp
 ·rename_i l k
  split at hp
  ·rename_i h
   obtain⟨a,vs,e1,n1,q1,z1⟩:=Rep.Da.mp rx;subst e1;cases Rep.Do.mp ry;cases r1;obtain⟨tk,rfl⟩:=r2;obtain⟨its,rv,pl,hz⟩:=I.tuple (SqT.of q1)
   have hl1:=z1.length
   have hl2:=rv.length
   have hne:its≠ []:=λz=>h.2.2.1 (ML (by rw[hl1,hl2,z];rfl))
   refine Tm.mul_tuple pl h.1 h.2.1 hne (by rw[<-hl2,<-hl1];exact h.2.2.2) ?_
   have hn:=I.hok.fresh (JW _);refine⟨.ref _,_,I.laid (t':=s.toks) (o:=.tup (Ke k.toNat vs).flatten) (λb ob q=>JI _ q) (JW _) ?_,rfl,hp _ (aU hn _) _ (fj hn (hf _ hn) (z1.rep _))⟩
   refine⟨?_,_,rv.rep k.toNat,Q8 _ _⟩
   rw[len_rep,Sa,<-hl1];exact h.2.2.2
  ·exact hp.elim
 ·exact EZ pins s σ H O _ _ vx vy ux uy Q I hf rx ry r1 r2 hp
end
def Ft (outer:List (Str×Ni))(N:List Str)(names:List (Str×Ni))(N':List Str)(src:List (Option Nat)):Bool:=
 names.all (λy=>y.2 != .cell||names.lookup y.1 == some .cell)&&names.all (λy=>y.2 != .local||names.lookup y.1 == some .local)&&src.length == N'.length&&
 (J2 N'.length).all (λj=>match src[j]? with
  | some (some i)=>match N'[j]? with
   | some x=>N[i]? == some x&&names.lookup x == some .free
   | none=>true
  | _=>true)&&
 names.all (λy=>y.2 != .free||(outer.lookup y.1 == some .cell||outer.lookup y.1 == some .free))
theorem LcScope.by {X:Cx}{scope:NR}{N N':List Str}{src:List (Option Nat)}{names:List (Str×Ni)}(hN:X.N=N)(hs:X.env.scope.names=names)(hk:scope.kind= .function)(h:Ft names N scope.names N' src=true):LcScope X scope N' src:=by
 unfold Ft at h;simp only[JM]at h;obtain⟨⟨⟨⟨h1,h2⟩,h3⟩,h4⟩,h5⟩:=h
 have a1:=Ka.mp h1
 have a2:=Ka.mp h2
 have a4:=Ka.mp h4
 have a5:=Ka.mp h5;refine⟨hk,λy hy hl=>by have:=a1 y hy;rw[hl]at this;simpa using this,λy hy hl=> ?_,by simpa using h3,λj i x e1 e2=> ?_,λx hx=> ?_⟩
 ·have:=a2 y hy
  rw[hl]at this
  simpa using this
 ·have hj:j<N'.length:=(J4.mp e2).1
  have:=a4 j (Kz.mpr hj);rw[e1]at this;simp only[e2]at this;rw[JM]at this;rw[hN];exact⟨by simpa using this.1,by simpa using this.2⟩
 ·have:=a5 _ hx
  simp only[bne_self_eq_false,Rh,Bool.or_eq_true]at this
  show X.env.scope.names.lookup x=_\/X.env.scope.names.lookup x=_
  rw[hs];rcases this with z | z
  ·exact .inl (by simpa using z)
  ·exact .inr (by simpa using z)
def bL:Expr->Bool
 | .Starred .. =>false
 | _=>true
def ba:List Expr->Bool
 | [] =>true
 | e::r=>bL e&&ba r
theorem bf {e:Expr}{es:List Expr}{env:Env}(h:bL e=true):Kc (e::es) env=(false,eval e env)::Kc es env:=by
 cases e <;> first | rfl | cases h
theorem fg {pos:Pos}{env:Env}:∀{es:List Expr},ba es=true->(backTo pos (Kc es env)).any (·.1)=false
 | [],_=>rfl
 | e::r,h=>by
  unfold ba at h;rw[JM]at h;rw[bf h.1]
  have ih:=fg (pos:=pos) (env:=env) h.2
  show(false||(backTo pos (Kc r env)).any (·.1))=false
  rw[ih];rfl
section
variable {X:Cx}{a b e:Expr}{es:List Expr}{fa:En->Rs T}{fs:En->Rs (List T)}{pos p p2:Pos}{x:Str}
theorem qa_c {f:En->Rs T}{g:En->Rs (List T)}(he:b7 X e f)(hr:qG X es g)(hn:autoParam (bL e=true) u_):qG X (e::es) (ae f g):=BP he hr (bf hn)
theorem q_cB {id:String}{g:List T->Rs T}(hc:CallT X (.builtin id) g)(hm:X.mg x=none)(hv:Ky x=some (.builtin id))(ha:qG X (e::es) fs)(hn:autoParam (ba (e::es)=true) u_)(hg:autoParam (Gl X x) u_)(h1:autoParam (x≠ "__name__") s_)(h2:autoParam ((x == ("__debug__" : Str))=false) s_) :
  b7 X (.Call (.Name x p) (e::es) [] pos) (cl g fs):=by
 unfold ba at hn;rw[JM]at hn;exact BS hc hm hv ha hg h1 h2 (bf hn.1) (fg hn.2)
theorem q_cT {Ty:String}{g:List T->Rs T}(hc:CallT X (.type Ty) g)(hm:X.mg x=none)(hv:Ky x=some (.type Ty))(ha:qG X (e::es) fs)(hn:autoParam (ba (e::es)=true) u_)(hg:autoParam (Gl X x) u_)(h1:autoParam (x≠ "__name__") s_)(h2:autoParam ((x == ("__debug__" : Str))=false) s_) :
  b7 X (.Call (.Name x p) (e::es) [] pos) (cl g fs):=by
 unfold ba at hn;rw[JM]at hn;exact yQ hc hm hv ha hg h1 h2 (bf hn.1) (fg hn.2)
theorem q_c {n k:Nat}{f:Addr}{fd:L0}{ps:List Str}{g:List T->Rs T}(F:Gi X.prog X.w X.K X.mg X.base k f fd ps n g)(hr:Room k X.A)(hm:X.mg x=some (.ref f))(hk:N9 X.K (.ref f)=true)(hb:Binds X.K fd ps [])
  (hl:∀Z ts,fs Z= .ok ts->ts.length=n) (ha:qG X (e::es) fs) (hps:autoParam (ps.length=n) u_) (hn:autoParam (ba (e::es)=true) u_) (hg:autoParam (Gl X x) u_) (h2:autoParam ((x == ("__debug__" : Str))=false) s_):b7 X (.Call (.Name x p) (e::es) [] pos) (cl g fs):=by
 unfold ba at hn;rw[JM]at hn;exact EC F hr hm hk hb hps hl ha hg h2 (bf hn.1) (fg hn.2)
theorem q_is {tn:Str}{Ty:String}(hm:X.mg "isinstance" =none)(hmt:X.mg tn=none)(hv:Ky tn=some (.type Ty))(ha:b7 X a fa)(hn:autoParam (bL a=true) u_)(hg:autoParam (Gl X "isinstance") u_)(hgt:autoParam (Gl X tn) u_)
  (h1:autoParam (tn≠ "__name__") s_) (h2:autoParam ((tn == ("__debug__" : Str))=false) s_):b7 X (.Call (.Name "isinstance" p) [a,.Name tn p2] [] pos) (o1 (CB Ty) fa):=
 GZ hm hmt hv ha hg hgt h1 h2 (bf hn) (fg rfl) (bf rfl)
end
theorem Ii (Z:En)(ts:List T)(h:aj Z= .ok ts):ts.length=0:=by cases h;rfl
theorem Ih {n:Nat}{f:En->Rs T}{g:En->Rs (List T)}(hg:∀Z ts,g Z= .ok ts->ts.length=n)(Z:En)(ts:List T)(h:ae f g Z= .ok ts):ts.length=n+1:=by
 unfold ae at h
 cases q:f Z with
 | bad=>rw[q]at h;cases h
 | err c=>rw[q]at h;cases h
 | ok t=>
  rw[q,aB]at h
  cases q2:g Z with
  | bad=>rw[q2]at h;cases h
  | err c=>rw[q2]at h;cases h
  | ok r=>
   rw[q2,aB]at h;cases h;rw[JR,hg Z r q2]
theorem i9 {k:Nat}{A:Km}(h:Room k A):A.units+60<cLine:=by have:=h.un;omega
theorem i8 {k:Nat}{A:Km}(h:Room k A):A.units+61<cLine:=by have:=h.un;omega
structure Fn (K:JH)(mg:Str->Option JK)(x:Str)(st:Stmt)(ps:List Str)(f:Addr)(fd:L0):Prop where
 fn:L2.Fun K x x st f fd
 bd:Binds K fd ps []
 mg:mg x=some (.ref f)
def val (n m:Nat)(F:En->Rs Fl)(ts:List T):Rs T:=if ts.length=n then dt F (bh m ts)else .bad
theorem DQ {n m:Nat}{F:En->Rs Fl}{ts:List T}{t:T}(h:val n m F ts= .ok t):dt F (bh m ts)= .ok t:=by
 unfold val at h
 split at h
 ·exact h
 ·cases h
theorem sp_script {K:JH}{H:Hp}{a:Addr}{ns:List Int}{g:List T->Rs T}{E:XK}(hS:SqL K H a (ns.map V.int))(h:g [.scr ns] = .ok (.bl true)):spP K 1 g [.ref a] H (λv _=>v= .bl true) E:=by
 refine⟨[.scr ns],λ_=>False,Reps.FS ?_ Reps.II,λ_ z=>z.elim,rfl,?_⟩
 ·unfold Rep;exact⟨a,rfl,λz=>z,hS⟩
 ·rw[h];exact λv H' _ r=>Rep.FB.mp r
theorem rj {α:Type}{l:List α}{i:Nat}{z:α}(h:l[i]? =some z):l.set i z=l:=by
 obtain⟨hi,rfl⟩:=J4.mp h
 exact List.set_getElem_self hi
theorem Mn.IV {M:Mn}{i:Nat}{m:Ow}{a:Addr}(h:(M.set i m).u a):m a\/M.u a:=by
 obtain⟨j,h⟩:=h;unfold Mn.set at h
 by_cases z:j=i
 ·rw[if_pos z]at h;exact .inl h
 ·rw[if_neg z]at h;exact .inr ⟨j,h⟩
theorem Mn.Jn {M:Mn}{i:Nat}{m:Ow}:M.set i m i=m:=by unfold Mn.set;rw[if_pos rfl]
theorem Mn.Ja {M:Mn}{i j:Nat}{m:Ow}(h:j≠i):M.set i m j=M j:=by unfold Mn.set;rw[if_neg h]
theorem RowsR.move {K:JH}{O O' P:Ow}{H H':Hp}(hP:∀a,P a->O a\/Nw K H a)(hO:∀a,O' a->O a\/Nw K H a)(h:SameO P H H'):∀{rs:List (List T×List T)} {as:List Addr},(∀b∈as,¬P b)->RowsR K O H rs as->RowsR K O' H' rs as
 | [],_,_,r=>r
 | _::_,_,hb,⟨b,bs,kvs,e1,e2,e3,e4,e5⟩=>by
  subst e1;exact⟨b,bs,kvs,rfl,h _ _ e2 (hb b JO),e3,e4.move hP hO h,e5.move hP hO h λc hc=>hb c (JJ _ hc)⟩
theorem LsR.move {K:JH}{O O' P:Ow}{H H':Hp}(hP:∀a,P a->O a\/Nw K H a)(hO:∀a,O' a->O a\/Nw K H a)(h:SameO P H H'):∀{rs:List (List T)} {as:List Addr},(∀b∈as,¬P b)->LsR K O H rs as->LsR K O' H' rs as
 | [],_,_,r=>r
 | _::_,_,hb,⟨b,bs,vs,e1,e2,e4,e5⟩=>by
  subst e1;exact⟨b,bs,vs,rfl,h _ _ e2 (hb b JO),e4.move hP hO h,e5.move hP hO h λc hc=>hb c (JJ _ hc)⟩
theorem ORep.move {K:JH}{O O' P M:Ow}{H H':Hp}{o:OT}{v:V}(hP:∀a,P a->O a\/Nw K H a)(hO:∀a,O' a->O a\/Nw K H a)(h:SameO P H H')(hM:∀a,M a->¬ P a)(r:ORep K O M H o v):ORep K O' M H' o v:=by
 cases o with
 | lst l=>obtain⟨a,vs,e1,e2,e3,e4⟩:=r;exact⟨a,vs,e1,e2,h _ _ e3 (hM a ((e2 a).mpr rfl)),e4.move hP hO h⟩
 | dct ks ts=>obtain⟨a,kvs,e1,e2,e3,e4,e5⟩:=r;exact⟨a,kvs,e1,e2,h _ _ e3 (hM a ((e2 a).mpr rfl)),e4,e5.move hP hO h⟩
 | dd ks rows=>
  obtain⟨a,kvs,as,e1,e2,e3,e4,e5,e6,e7,e8⟩:=r
  exact⟨a,kvs,as,e1,e2,e3,e4,h _ _ e5 (hM a ((e2 a).mpr (.inl rfl))),e6,e7,e8.move hP hO h λb hb=>hM b ((e2 b).mpr (.inr hb))⟩
 | ob C ns ls=>
  obtain⟨a,dx,as,e1,e2,e3,e4,e5,e6,e7,e8⟩:=r
  exact⟨a,dx,as,e1,e2,e3,h _ _ e4 (hM a ((e2 a).mpr (.inl rfl))),h _ _ e5 (hM dx ((e2 dx).mpr (.inr (.inl rfl)))),e6,e7,e8.move hP hO h λb hb=>hM b ((e2 b).mpr (.inr (.inr hb)))⟩
 | ll ls=>
  obtain⟨a,as,e1,e2,e3,e4,e5,e6⟩:=r;exact⟨a,as,e1,e2,e3,e4,h _ _ e5 (hM a ((e2 a).mpr (.inl rfl))),e6.move hP hO h λb hb=>hM b ((e2 b).mpr (.inr hb))⟩
theorem RowsR.mtb {K:JH}{O:Ow}{H:Hp}:∀{rs:List (List T×List T)} {as:List Addr},RowsR K O H rs as->∀b∈as,∃kvs,H b=some (.dT kvs)
 | [],_,r,b,hb=>by unfold RowsR at r;subst r;simp at hb
 | _::_,_,⟨b0,bs,kvs,e1,e2,e3,e4,e5⟩,b,hb=>by
  subst e1;rcases JT.mp hb with rfl | hb
  ·exact⟨kvs,e2⟩
  ·exact e5.mtb b hb
theorem LsR.mtb {K:JH}{O:Ow}{H:Hp}:∀{rs:List (List T)} {as:List Addr},LsR K O H rs as->∀b∈as,∃vs,H b=some (.lst vs)
 | [],_,r,b,hb=>by unfold LsR at r;subst r;simp at hb
 | _::_,_,⟨b0,bs,kvs,e1,e2,e4,e5⟩,b,hb=>by
  subst e1;rcases JT.mp hb with rfl | hb
  ·exact⟨kvs,e2⟩
  ·exact e5.mtb b hb
def LO (H:Hp)(a:Addr):Prop:=(∃vs,H a=some (.lst vs))\/∃o,H a=some o/\isO o=true
def OT.isD:OT->Bool
 | .lst _=>false
 | .ob _ _ _=>false
 | .ll _=>false
 | _=>true
theorem ORep.kind {K:JH}{O M:Ow}{H:Hp}{o:OT}{v:V}(r:ORep K O M H o v):∀a,M a->if o.isD then ∃kvs,H a=some (.dT kvs)else LO H a:=λa z=>by
 cases o with
 | lst l=>obtain⟨b,vs,e1,e2,e3,e4⟩:=r;cases (e2 a).mp z;exact .inl ⟨vs,e3⟩
 | dct ks ts=>obtain⟨b,kvs,e1,e2,e3,e4,e5⟩:=r;cases (e2 a).mp z;exact⟨kvs,e3⟩
 | dd ks rows=>
  obtain⟨b,kvs,as,e1,e2,e3,e4,e5,e6,e7,e8⟩:=r
  rcases(e2 a).mp z with z | z
  ·cases z;exact⟨kvs,e5⟩
  ·exact e8.mtb a z
 | ob C ns ls=>
  obtain⟨b,dx,as,e1,e2,e3,e4,e5,e6,e7,e8⟩:=r
  rcases(e2 a).mp z with z | z | z
  ·cases z;exact .inr ⟨_,e4,rfl⟩
  ·cases z;exact .inr ⟨_,e5,rfl⟩
  ·exact .inl (e8.mtb a z)
 | ll ls=>
  obtain⟨b,as,e1,e2,e3,e4,e5,e6⟩:=r
  rcases(e2 a).mp z with z | z
  ·cases z;exact .inl ⟨_,e5⟩
  ·exact .inl (e6.mtb a z)
theorem ORep.mtb {K:JH}{O M:Ow}{H:Hp}{o:OT}{v:V}(r:ORep K O M H o v)(a:Addr)(z:M a):Mtb H a:=by
 have:=r.kind a z
 split at this
 ·exact .inr (.inl this)
 ·exact this.imp_right .inr
theorem ro {K:JH}{O:Ow}{H:Hp}:∀{rs:List (List T×List T)} {as:List Addr},(∀b∈as,¬O b)->RowsR K O H rs as->Reps K O H (rs.map λr=>T.dct r.1 r.2) (as.map V.ref)
 | [],_,_,r=>by unfold RowsR at r;subst r;exact Reps.II
 | _::_,_,hn,⟨b,bs,kvs,e1,e2,e3,e4,e5⟩=>by
  subst e1;exact Reps.FS (Rep.GE.mpr ⟨b,kvs,rfl,hn b JO,.inl e2,e3,e4⟩) (ro (λc hc=>hn c (JJ _ hc)) e5)
theorem RowsR.less {K:JH}{O O':Ow}{H:Hp}(sub:∀a,O' a->O a):∀{rs:List (List T×List T)} {as:List Addr},RowsR K O H rs as->RowsR K O' H rs as
 | [],_,r=>r
 | _::_,_,⟨b,bs,kvs,e1,e2,e3,e4,e5⟩=>⟨b,bs,kvs,e1,e2,e3,e4.less sub,e5.less sub⟩
theorem LsR.less {K:JH}{O O':Ow}{H:Hp}(sub:∀a,O' a->O a):∀{rs:List (List T)} {as:List Addr},LsR K O H rs as->LsR K O' H rs as
 | [],_,r=>r
 | _::_,_,⟨b,bs,kvs,e1,e2,e4,e5⟩=>⟨b,bs,kvs,e1,e2,e4.less sub,e5.less sub⟩
theorem LsR.rep {K:JH}{O:Ow}{H:Hp}:∀{rs:List (List T)} {as:List Addr},(∀b∈as,¬O b)->LsR K O H rs as->Reps K O H (rs.map T.lst) (as.map V.ref)
 | [],_,_,r=>by unfold LsR at r;subst r;exact Reps.II
 | _::_,_,hn,⟨b,bs,kvs,e1,e2,e4,e5⟩=>by
  subst e1;exact Reps.FS (Rep.Fk.mpr ⟨b,kvs,rfl,hn b JO,e2,e4⟩) (LsR.rep (λc hc=>hn c (JJ _ hc)) e5)
theorem oO {α β:Type}:∀{l:List α} {m:List β},l.length=m.length->(l.zip m).map (·.1)=l
 | [],[],_=>rfl
 | a::l,b::m,h=>by
  have h':l.length=m.length:=by simpa using h
  show a::(l.zip m).map (·.1)=_
  rw[oO h']
theorem oN {α β:Type}:∀{l:List α} {m:List β},l.length=m.length->(l.zip m).map (·.2)=m
 | [],[],_=>rfl
 | a::l,b::m,h=>by
  have h':l.length=m.length:=by simpa using h
  show b::(l.zip m).map (·.2)=_
  rw[oN h']
theorem ORep.rep {K:JH}{O O' M:Ow}{H:Hp}{o:OT}{v:V}(sub:∀a,O' a->O a)(hn:∀a,M a->¬ O' a)(r:ORep K O M H o v):Rep K O' H o.view v:=by
 cases o with
 | lst l=>obtain⟨a,vs,e1,e2,e3,e4⟩:=r;exact Rep.Fk.mpr ⟨a,vs,e1,hn a ((e2 a).mpr rfl),e3,e4.less sub⟩
 | dct ks ts=>obtain⟨a,kvs,e1,e2,e3,e4,e5⟩:=r;exact Rep.GE.mpr ⟨a,kvs,e1,hn a ((e2 a).mpr rfl),.inl e3,e4,e5.less sub⟩
 | dd ks rows=>
  obtain⟨a,kvs,as,e1,e2,e3,e4,e5,e6,e7,e8⟩:=r;refine Rep.GE.mpr ⟨a,kvs,e1,hn a ((e2 a).mpr (.inl rfl)),.inl e5,e6,?_⟩
  rw[e7]
  exact ro (λb hb=>hn b ((e2 b).mpr (.inr hb))) (e8.less sub)
 | ob C ns ls=>
  obtain⟨a,dx,as,e1,e2,e3,e4,e5,e6,e7,e8⟩:=r
  have hl:ns.length=(as.map V.ref).length:=by rw[JQ];exact e6
  refine Rep.Jf.mpr ⟨a,dx,_,e1,⟨⟨hn a ((e2 a).mpr (.inl rfl)),hn dx ((e2 dx).mpr (.inr (.inl rfl))),e5⟩,as,oN hl,e3.1,e3.2.1,e3.2.2.1,e3.2.2.2,by rw[oO hl];exact e7⟩,e4,oO hl,?_⟩
  rw[oN hl]
  exact(e8.less sub).rep λb hb=>hn b ((e2 b).mpr (.inr (.inr hb)))
 | ll ls=>
  obtain⟨a,as,e1,e2,e3,e4,e5,e6⟩:=r;exact Rep.Fk.mpr ⟨a,_,e1,hn a ((e2 a).mpr (.inl rfl)),e5,(e6.less sub).rep λb hb=>hn b ((e2 b).mpr (.inr hb))⟩
section
variable {K:JH}{B:Ow}{M:Mn}{H H':Hp}{Z:En}{σ:L2.St}{i:Nat}{o o':OT}{v:V}{m:Ow}
theorem Ev.new (E:Ev K B M H Z σ)(hl:i<Z.length)(hm:∀a,m a->Nw K H a)(s:Same H H')(r:ORep K (OO B (M.set i m)) m H' o v) :
  Ev K B (M.set i m) H' (Z.set i (.ow o)) (σ.set i (some v))/\∀a,(M.set i m).u a->M.u a\/Nw K H a:=by
 have hls:i<σ.length:=by rw[<-E.env.len];exact hl
 have sub:∀a,(M.set i m).u a->M.u a\/Nw K H a:=λa z=>(Mn.IV z).elim (λw=> .inr (hm a w)) .inl
 have subO:∀a,OO B (M.set i m) a->OO B M a\/Nw K H a:=λa z=>z.elim (λw=> .inl (.inl w)) λw=>(sub a w).elim (λy=> .inl (.inr y)) .inr
 have eF:∀a,Nw K H a->¬ OO B M a:=λa w z=>by
  obtain⟨o,e⟩:=(E.env.trk a z).some;rw[w.1]at e;cases e
 refine⟨⟨⟨by rw[Lw,Lw];exact E.env.len,λj t e=> ?_,λj o' e=> ?_,λj a z=> .inr ⟨j,z⟩,λj k a z1 z2=> ?_,λa z=> ?_⟩,λa z=> ?_⟩,sub⟩
 ·by_cases hj:i=j
  ·subst hj;rw[Ko hl]at e;cases e
  ·rw[Kj hj]at e
   obtain⟨w,e1,e2⟩:=E.env.val j t e;exact⟨w,by rw[Kj hj];exact e1,(e2.more subO).same s⟩
 ·by_cases hj:i=j
  ·subst hj
   rw[Ko hl]at e
   cases e;exact⟨v,Ko hls,by rw[Mn.Jn];exact r⟩
  ·rw[Kj hj]at e
   obtain⟨w,e1,e2⟩:=E.env.own j o' e;refine⟨w,by rw[Kj hj];exact e1,?_⟩
   rw[Mn.Ja (λz=>hj z.symm)]
   exact(e2.move (P:=wY) (λ_ z=>z.elim) subO (λb u q _=>q) λ_ _ z=>z).same s
 ·unfold Mn.set at z1 z2
  by_cases hj:j=i
  ·by_cases hk:k=i
   ·exact hj.trans hk.symm
   ·rw[if_pos hj]at z1;rw[if_neg hk]at z2
    exact(eF a (hm a z1) (.inr ⟨k,z2⟩)).elim
  ·by_cases hk:k=i
   ·rw[if_neg hj]at z1;rw[if_pos hk]at z2
    exact(eF a (hm a z2) (.inr ⟨j,z1⟩)).elim
   ·rw[if_neg hj]at z1;rw[if_neg hk]at z2
    exact E.env.dis j k a z1 z2
 ·rcases z with z | z
  ·exact(E.env.trk a (.inl z)).same s
  ·rcases Mn.IV z with w | w
   ·exact r.mtb a w
   ·exact(E.env.trk a (.inr w)).same s
 ·intro hb
  rcases Mn.IV z with w | w
  ·exact eF a (hm a w) (.inl hb)
  ·exact E.mine a w hb
theorem Ev.put (E:Ev K B M H Z σ)(hi:Z[i]? =some (.ow o))(hs:σ[i]? =some (some v))(s:SameO (M i) H H')(r:ORep K (OO B M) (M i) H' o' v):Ev K B M H' (Z.set i (.ow o')) σ/\SameO M.u H H':=by
 have hl:i<Z.length:=(J4.mp hi).1
 have inO:∀a,M i a->OO B M a\/Nw K H a:=λa z=> .inl (.inr ⟨i,z⟩)
 have idO:∀a,OO B M a->OO B M a\/Nw K H a:=λa z=> .inl z
 refine⟨⟨⟨by rw[Lw];exact E.env.len,λj t e=> ?_,λj o2 e=> ?_,E.env.sub,E.env.dis,λa z=> ?_⟩,E.mine⟩,λb u e n=>s b u e λz=>n ⟨i,z⟩⟩
 ·by_cases hj:i=j
  ·subst hj;rw[Ko hl]at e;cases e
  ·rw[Kj hj]at e
   obtain⟨w,e1,e2⟩:=E.env.val j t e;exact⟨w,e1,e2.move inO idO s⟩
 ·by_cases hj:i=j
  ·subst hj
   rw[Ko hl]at e
   cases e;exact⟨v,hs,r⟩
  ·rw[Kj hj]at e
   obtain⟨w,e1,e2⟩:=E.env.own j o2 e;exact⟨w,e1,e2.move inO idO s λa z y=>hj (E.env.dis i j a y z)⟩
 ·by_cases hz:M i a
  ·exact r.mtb a hz
  ·exact(E.env.trk a z).at λo e=>s _ _ e hz
def disown (i:Nat)(Z:En):En:=match Z[i]? with
 | some (.ow o)=>Z.set i (.va o.view)
 | _=>Z
theorem EnvM.disown {O O':Ow}{Z:En}(E:EnvM K O M H Z σ)(i:Nat)(sub:∀a,O' a->O a)(hn:∀a,M i a->¬ O' a)(hin:∀j a,j≠i->M j a->O' a):EnvM K O' (M.set i wY) H (disown i Z) σ:=by
 have base:EnvM K O' (M.set i wY) H (Z.set i (match Z[i]? with | some (.ow o)=> .va o.view | some x=>x | none=> .em)) σ:=by
  refine⟨by rw[Lw];exact E.len,λj t e=> ?_,λj o e=> ?_,λj a z=> ?_,λj k a z1 z2=> ?_,λa z=>E.trk a (sub a z)⟩
  ·by_cases hj:i=j
   ·subst hj
    by_cases hl:i<Z.length
    ·rw[Ko hl]at e
     cases q:Z[i]? with
     | none=>rw[q]at e;cases e
     | some z=>
      rw[q]at e
      cases z with
      | em=>cases e
      | va t'=>cases e;obtain⟨w,e1,e2⟩:=E.val i _ q;exact⟨w,e1,e2.less sub⟩
      | ow o=>cases e;obtain⟨w,e1,e2⟩:=E.own i _ q;exact⟨w,e1,e2.rep sub hn⟩
    ·rw[M5 (by rw[Lw];omega)]at e;cases e
   ·rw[Kj hj]at e
    obtain⟨w,e1,e2⟩:=E.val j t e;exact⟨w,e1,e2.less sub⟩
  ·by_cases hj:i=j
   ·subst hj
    by_cases hl:i<Z.length
    ·rw[Ko hl]at e
     cases q:Z[i]? with
     | none=>rw[q]at e;cases e
     | some z=>
      rw[q]at e
      cases z with
      | em=>cases e
      | va t'=>cases e
      | ow o=>cases e
    ·rw[M5 (by rw[Lw];omega)]at e;cases e
   ·rw[Kj hj]at e
    obtain⟨w,e1,e2⟩:=E.own j o e;refine⟨w,e1,?_⟩
    rw[Mn.Ja (λz=>hj z.symm)]
    exact e2.move (P:=wY) (λ_ z=>z.elim) (λa z=> .inl (sub a z)) (λb u q _=>q) λ_ _ z=>z
  ·unfold Mn.set at z
   by_cases hj:j=i
   ·rw[if_pos hj]at z;exact z.elim
   ·rw[if_neg hj]at z;exact hin j a hj z
  ·unfold Mn.set at z1 z2
   by_cases hj:j=i
   ·rw[if_pos hj]at z1;exact z1.elim
   ·by_cases hk:k=i
    ·rw[if_pos hk]at z2;exact z2.elim
    ·rw[if_neg hj]at z1;rw[if_neg hk]at z2;exact E.dis j k a z1 z2
 unfold Tr.disown
 cases q:Z[i]? with
 | none=>rw[q,List.set_eq_of_length_le (Pm.mp q)]at base;exact base
 | some z=>
  rw[q]at base
  cases z with
  | em=>rw[rj q]at base;exact base
  | va t=>rw[rj q]at base;exact base
  | ow o=>exact base
theorem Ev.disown (E:Ev K B M H Z σ)(i:Nat):Ev K B (M.set i wY) H (disown i Z) σ/\∀a,(M.set i wY).u a->M.u a:=by
 have sub:∀a,(M.set i wY).u a->M.u a:=λa z=>(Mn.IV z).elim (λw=>w.elim) id
 refine⟨⟨E.env.disown i (λa z=>z.elim .inl λw=> .inr (sub a w)) (λa z y=> ?_) λj a hj z=> .inr ⟨j,by rw[Mn.Ja hj];exact z⟩,λa z=>E.mine a (sub a z)⟩,sub⟩
 rcases y with y | ⟨j,y⟩
 ·exact E.mine a ⟨i,z⟩ y
 ·unfold Mn.set at y
  by_cases hj:j=i
  ·rw[if_pos hj]at y;exact y
  ·rw[if_neg hj]at y;exact hj (E.env.dis j i a y z)
end
section
variable {X:Cx}{a:Expr}{es:List Expr}{fa:En->Rs T}{pos p2 p3:Pos}{x:Str}
theorem Ev.subO {K:JH}{B:Ow}{M:Mn}{H:Hp}{i:Nat}{m:Ow}(hm:∀a,m a->Nw K H a)(a:Addr)(z:OO B (M.set i m) a):OO B M a\/Nw K H a:=
 z.elim (λw=> .inl (.inl w)) λw=>(Mn.IV w).elim (λy=> .inr (hm a y)) λy=> .inl (.inr y)
theorem vo {K:JH}{H H1:Hp}(s:Same H H1){a:Addr}(n:Nw K H1 a):Nw K H a:=(gq (SameO.of (P:=wY) s) n).elim (λz=>z.elim) id
def Gx (X:Cx)(t:TA):TE:=λσ H Q=>t σ H λxs H1=>xs.length<=sizeLine/\∀p,Nw X.K H1 p->Q (.ref p) (upd H1 p (.lst xs))
theorem Ca {t:TA}(h:PA X es t):PE X (.List es pos) (Gx X t):=by
 intro pins s σ H Q I hq;refine Rr (bV (h pos pins s σ H _ I hq) λus s1 ⟨xs,H1,I1,r,z,q⟩=>⟨by rw[<-r.length];exact z,?_⟩)
 have hf:H1 s1.heap.objs.size=none:=I1.hok.fresh (JW _)
 have hk:X.K.lookup s1.heap.objs.size=none:=by
  cases q:X.K.lookup s1.heap.objs.size with
  | none=>rfl
  | some o=>exact absurd (JV (I1.kIn _ o q)) (Ki _)
 refine⟨.ref s1.heap.objs.size,upd H1 s1.heap.objs.size (.lst xs),I1.laid (t':=s1.toks) (λb u e=>JI _ e) (JW _) ?_,rfl,q _ ⟨hf,hk⟩⟩
 exact⟨z,us,0,r,JS _ rfl⟩
def gK (i:Nat)(f:En->Rs (List T))(Z:En):Rs Fl:=do
 let l <-f Z
 if i<Z.length/\l.length<=sizeLine then .ok (.nx (Z.set i (.ow (.lst l))))else .bad
theorem BE (i:Nat){f:En->Rs (List T)}(hN:X.N.Nodup)(ha:qG X es f)(hi:autoParam (X.N[i]? =some x) u_)(hx:autoParam (Loc X.env.scope x) y_)(hs:autoParam (Lz (.List es p2) (some (.Name x p3)) pos.line X.env=pure false) u_)
  (hf:autoParam (X.fn x=true\/X.env.scope.names.lookup x=some .local) r_):nE X (.Assign [.Name x p3] (.List es p2) pos) (gK i f):=PS.imp (yU hN hi hx (Ca ha) hs hf) λD σ H hh_=>by
 obtain⟨Z,B,M,E,h⟩:=hh_;refine⟨Z,OO B M,E.o,?_⟩
 unfold gK at h
 cases q:f Z with
 | bad=>rw[q]at h;exact h.elim
 | err c=>rw[q]at h;exact PostF.xa h
 | ok l=>
  rw[q,aB]at h;intro H1 s1 vs rs
  by_cases hl:i<Z.length/\l.length<=sizeLine
  ·rw[if_pos hl]at h
   refine⟨by rw[<-rs.length];exact hl.2,λp hp=> ?_⟩
   have hm:∀a,a=p->Nw X.K H1 a:=λa z=>z▸hp
   obtain⟨E2,sub⟩:=(E.same s1).new (m:=λa=>a=p) (o:=.lst l) (v:=.ref p) (H':=upd H1 p (.lst vs)) hl.1 hm (aU hp.1 _) ⟨p,vs,rfl,λb=>Oo,bc,(rs.more (Ev.subO hm)).same (aU hp.1 _)⟩
   exact h _ _ _ (SameO.of (s1.trans (aU hp.1 _))) E2 λa z=>(sub a z).imp_right (vo s1)
  ·rw[if_neg hl]at h
   exact h.elim
def rn (i:Nat)(f:En->Rs T)(Z:En):Rs Fl:=do
 let t <-f Z
 match t with
 | .lst l=>if i<Z.length then .ok (.nx (Z.set i (.ow (.lst l))))else .bad
 | _=> .bad
theorem El {elt tg iter:Expr}{ifs:List Expr}{scope:NR}{spos py:Pos}{N':List Str}{src:List (Option Nat)}{fi:En->Rs (List T)}{tgt:T->En->Rs En}{fc:En->Rs Bool}{fe:En->Rs T}(i:Nat){y:Str}
  (hc:X.calm=true) (S:LcScope X scope N' src) (hi:AS X tg iter fi)
  (block:∀cl C s₀ H₀ fp,Dd (bw X scope cl N' C s₀ H₀ fp) tg tgt/\wj (bw X scope cl N' C s₀ H₀ fp) ifs (xQ (bw X scope cl N' C s₀ H₀ fp) fc)/\b7 (bw X scope cl N' C s₀ H₀ fp) elt fe)
  (hN:X.N.Nodup) (hiy:autoParam (X.N[i]? =some y) u_) (hy:autoParam (Loc X.env.scope y) y_) (hsw:autoParam (Lz (.ListComp elt [⟨tg,iter,ifs,0⟩] scope pos) (some (.Name y py)) spos.line X.env=pure true) u_)
  (hf:autoParam (X.fn y=true\/X.env.scope.names.lookup y=some .local) r_) (hs:autoParam (∀x,KL iter X.env x=pure x) t_) :
  nE X (.Assign [.Name y py] (.ListComp elt [⟨tg,iter,ifs,0⟩] scope pos) spos) (rn i (dU fi src tgt fc fe)):=by
 have hPG:∀cl C s₀ H₀ fp,PG (bw X scope cl N' C s₀ H₀ fp) tg (AX X tgt):=λcl C s₀ H₀ fp=>(block cl C s₀ H₀ fp).1
 have hPI:∀cl C s₀ H₀ fp,wj (bw X scope cl N' C s₀ H₀ fp) ifs (tPT0 X.K fc):=λcl C s₀ H₀ fp pins s σ H Q I h=>(block cl C s₀ H₀ fp).2.1 pins s σ H Q I (tPT0.up (X:=bw X scope cl N' C s₀ H₀ fp) h)
 have hPE:∀cl C s₀ H₀ fp,PE (bw X scope cl N' C s₀ H₀ fp) elt (tP0 X.K fe):=λcl C s₀ H₀ fp pins s σ H Q I h=>(block cl C s₀ H₀ fp).2.2 pins s σ H Q I (tP0.up (X:=bw X scope cl N' C s₀ H₀ fp) h)
 refine PS.imp (Dr (g:=AX X tgt) (tc:=tPT0 X.K fc) (te:=tP0 X.K fe) (i:=i) hc S hi (λcl C s₀ H₀ fp=>⟨hPG cl C s₀ H₀ fp,hPI cl C s₀ H₀ fp,hPE cl C s₀ H₀ fp⟩) hN hiy hy hsw hf hs) λD σ H ⟨Z,B,M,E,h⟩=>se E.o ?_
 unfold rn at h;rw[sf]at h
 cases q:Fs fi src tgt fc fe Z with
 | bad=>rw[q]at h;exact h.elim
 | err c=>rw[q]at h;exact PostF.xa h
 | ok l=>
  rw[q,aB,aB]at h;intro H1 s1 p ys H' nD sD eD rD
  by_cases hl:i<Z.length
  ·have h':PostF X B M.u H (.ok (.nx (Z.set i (.ow (.lst l))))) D:=by simpa [hl]using h
   have hm:∀a,a=p->Nw X.K H1 a:=λa z=>z▸nD
   obtain⟨E2,sub⟩:=(E.same s1).new (m:=λa=>a=p) (o:=.lst l) (v:=.ref p) (H':=H') hl hm sD ⟨p,ys,rfl,λb=>Oo,eD,rD.less λa z=>z.elim (λw=> .inl (.inl w)) λw=>(Mn.IV w).elim .inr λw=> .inl (.inr w)⟩
   exact h' _ _ _ (SameO.of (s1.trans sD)) E2 λa z=>(sub a z).imp_right (vo s1)
  ·have h':PostF X B M.u H (.bad:Rs Fl) D:=by simpa [hl]using h
   exact h'.elim
def jm (i:Nat)(f:En->Rs T)(Z:En):Rs Fl:=match Z[i]? with
 | some (.ow (.lst l))=>f Z >>= λt=>if l.length<sizeLine then .ok (.nx (Z.set i (.ow (.lst (l++ [t])))))else .bad
 | _=> .bad
theorem Ev.putL {K:JH}{B:Ow}{M:Mn}{H:Hp}{Z:En}{σ:L2.St}{i:Nat}{o:OT}{l':List T}{b:Addr}{vs':List V}(E:Ev K B M H Z σ)(hi:Z[i]? =some (.ow o))(hs:σ[i]? =some (some (.ref b)))(hM:∀c,M i c↔c=b)(r:Reps K (OO B M) H l' vs') :
  Ev K B M (upd H b (.lst vs')) (Z.set i (.ow (.lst l'))) σ/\SameO M.u H (upd H b (.lst vs')):=by
 have sm:SameO (M i) H (upd H b (.lst vs')):=λc u e nb=>by rw[aQ (λz=>nb ((hM c).mpr z))];exact e
 exact E.put hi hs sm ⟨b,vs',rfl,hM,bc,r.move (P:=M i) (λa z=> .inl (.inr ⟨i,z⟩)) (λa z=> .inl z) sm⟩
theorem Et (i:Nat){apos cpos:Pos}(ha:b7 X a fa)(hN:autoParam (X.N[i]? =some x) u_)(hv:autoParam (xT X.env.scope x) v_)(hn:autoParam (bL a=true) u_)
  (hbase:autoParam (Lr (.Name x p2) "append" X.env (eval (.Name x p2) X.env)=eval (.Name x p2) X.env) u_) (hline:autoParam ((apos.endLine == cpos.line)=true) u_)
  (hd:autoParam ((x == ("__debug__" : Str))=false) s_) (hcd:autoParam ((x == ("__classdict__" : Str))=false) s_)
  (hsw:autoParam (Lz (.Call (.Attribute (.Name x p2) "append" apos) [a] [] cpos) none pos.line X.env=pure false) u_):nE X (.Expr (.Call (.Attribute (.Name x p2) "append" apos) [a] [] cpos) pos) (jm i fa):=by
 have h1:Kc [a] X.env=(false,eval a X.env)::Kc [] X.env:=bf hn;refine PS.imp (pv (Dt MG PySem.F.slot_list_append PySem.F.type_list_append nS (pC hN hv hd hcd) (iF ha lR h1) hbase ?_ hline h1 rfl) hsw) λD σ H ⟨Z,B,M,E,h⟩=> ?_
 ·rw[h1];rfl
 unfold jm at h
 split at h
 ·rename_i l hl
  obtain⟨v0,e1,b,vs,rfl,hM,e3,e4⟩:=E.env.own i _ hl;refine⟨.ref b,e1,.inl ⟨rfl,vs,SqL.of e3⟩,Z,OO B M,E.o,?_⟩
  cases q:fa Z with
  | bad=>rw[q]at h;exact h.elim
  | err c=>rw[q]at h;exact PostF.xa h
  | ok t=>
   rw[q,aB]at h
   split at h
   ·rename_i hz
    intro H1 s1 v r
    have e3':=s1 _ _ e3;refine⟨b,vs,v,rfl,rfl,e3',by rw[<-e4.length];exact hz,?_⟩
    obtain⟨g1,g2⟩:=(E.same s1).putL (l':=l++ [t]) (vs':=vs++ [v]) hl e1 hM ((e4.same s1).append (Reps.FS r Reps.II));exact h σ _ M (λc o e nb=>g2 c o (s1 _ _ e) nb) g1 λc z=> .inl z
   ·exact h.elim
 ·exact h.elim
def FV (i:Nat)(l:List T)(Z:En):T->Rs Fl
 | .lst m=>if l.length+m.length<=sizeLine then .ok (.nx (Z.set i (.ow (.lst (l++m)))))else .bad
 | _=> .bad
def lP (i:Nat)(f:En->Rs T)(Z:En):Rs Fl:=match Z[i]? with
 | some (.ow (.lst l))=>f Z >>= FV i l Z
 | _=> .bad
theorem Eo (i:Nat){apos cpos:Pos}(ha:b7 X a fa)(hN:autoParam (X.N[i]? =some x) u_)(hv:autoParam (xT X.env.scope x) v_)(hn:autoParam (bL a=true) u_)
  (hbase:autoParam (Lr (.Name x p2) "extend" X.env (eval (.Name x p2) X.env)=eval (.Name x p2) X.env) u_) (hline:autoParam ((apos.endLine == cpos.line)=true) u_)
  (hd:autoParam ((x == ("__debug__" : Str))=false) s_) (hcd:autoParam ((x == ("__classdict__" : Str))=false) s_)
  (hsw:autoParam (Lz (.Call (.Attribute (.Name x p2) "extend" apos) [a] [] cpos) none pos.line X.env=pure false) u_):nE X (.Expr (.Call (.Attribute (.Name x p2) "extend" apos) [a] [] cpos) pos) (lP i fa):=by
 have h1:Kc [a] X.env=(false,eval a X.env)::Kc [] X.env:=bf hn;refine PS.imp (pv (Dt MG PySem.F.slot_list_extend PySem.F.type_list_extend w8 (pC hN hv hd hcd) (iF ha lR h1) hbase ?_ hline h1 rfl) hsw) λD σ H ⟨Z,B,M,E,h⟩=> ?_
 ·rw[h1];rfl
 unfold lP at h
 split at h
 ·rename_i l hl
  obtain⟨v0,e1,b,vs,rfl,hM,e3,e4⟩:=E.env.own i _ hl;refine⟨.ref b,e1,.inl ⟨rfl,vs,SqL.of e3⟩,Z,OO B M,E.o,?_⟩
  cases q:fa Z with
  | bad=>rw[q]at h;exact h.elim
  | err c=>rw[q]at h;exact PostF.xa h
  | ok t=>
   rw[q,aB]at h;unfold FV at h
   split at h
   ·rename_i m
    split at h
    ·rename_i hz
     intro H1 s1 v r;obtain⟨c,ws,rfl,nO,hc,rm⟩:=Rep.Fk.mp r
     have e3':=s1 _ _ e3;refine⟨b,c,vs,ws,rfl,rfl,e3',hc,by rw[<-e4.length,<-rm.length];exact hz,?_⟩
     obtain⟨g1,g2⟩:=(E.same s1).putL (l':=l++m) (vs':=vs++ws) hl e1 hM ((e4.same s1).append rm);exact h σ _ M (λc o e nb=>g2 c o (s1 _ _ e) nb) g1 λc z=> .inl z
    ·exact h.elim
   ·exact h.elim
 ·exact h.elim
def kQ (i:Nat)(F:En->Rs Fl)(Z:En):Rs Fl:=F (disown i Z)
theorem Ep (i:Nat){st:Stmt}{F:En->Rs Fl}(h:nE X st F):nE X st (kQ i F):=PS.imp h λD σ H hh_=>by
 obtain⟨Z,B,M,E,q⟩:=hh_;obtain⟨E',sub⟩:=E.disown i;exact⟨disown i Z,B,_,E',PostF.later q (λ_ _ e _=>e) λa z=> .inl (sub a z)⟩
mutual
def T.nk (D:Bool):T->Bool
 | .scr _=>false
 | .dct _ ts=> !D&&nks D ts
 | .ob _ _ _=>false
 | .lst l=>D&&nks D l
 | .tup l=>nks D l
 | _=>true
def nks (D:Bool):List T->Bool
 | [] =>true
 | t::l=>t.nk D&&nks D l
end
mutual
theorem Rep.lend {K:JH}{O O':Ow}{H:Hp}{D:Bool}(hk:∀a,O a->O' a\/if D then ∃kvs,Rd H a (.dT kvs)else LO H a):∀{t:T} {v:V},t.nk D=true->Rep K O' H t v->Rep K O H t v
 | .non,_,_,r=>by unfold Rep at r ⊢;exact r
 | .bl _,_,_,r=>by unfold Rep at r ⊢;exact r
 | .int _,_,_,r=>by unfold Rep at r ⊢;exact r
 | .str _,_,_,r=>by unfold Rep at r ⊢;exact r
 | .tup l,_,h,r=>by
  unfold Rep at r ⊢;unfold T.nk at h;obtain⟨a,vs,e,n,q,z⟩:=r;refine⟨a,vs,e,λp=>(hk a p).elim n λw=> ?_,q,Reps.lend hk h z⟩
  split at w
  ·obtain⟨_,w | ⟨_,w⟩⟩:=w <;> rw[q]at w <;> cases w
  ·rcases w with⟨_,w⟩ | ⟨_,w,y⟩ <;> rw[q]at w <;> cases w <;> cases y
 | .lst l,_,h,r=>by
  unfold Rep at r ⊢;unfold T.nk at h;rw[JM]at h;obtain⟨h1,h2⟩:=h;subst h1;obtain⟨a,vs,e,n,q,z⟩:=r;refine⟨a,vs,e,λp=>(hk a p).elim n λw=> ?_,q,Reps.lend hk h2 z⟩
  rw[if_pos rfl]at w;obtain⟨_,w | ⟨_,w⟩⟩:=w <;> rw[q]at w <;> cases w
 | .scr l,_,h,r=>by unfold T.nk at h;cases h
 | .dct ks ts,_,h,r=>by
  unfold Rep at r ⊢;unfold T.nk at h;rw[JM]at h;obtain⟨h1,h2⟩:=h
  cases D with
  | true=>cases h1
  | false=>
   obtain⟨a,kvs,e,n,q,k,z⟩:=r;refine⟨a,kvs,e,λp=>(hk a p).elim n λw=> ?_,q,k,Reps.lend hk h2 z⟩
   rw[if_neg J3]at w;rcases w with⟨_,w⟩ | ⟨_,w,y⟩ <;> rcases q with q | ⟨_,q⟩ <;> rw[q]at w <;> cases w <;> cases y
 | .ob _ _ _,_,h,r=>by unfold T.nk at h;cases h
theorem Reps.lend {K:JH}{O O':Ow}{H:Hp}{D:Bool}(hk:∀a,O a->O' a\/if D then ∃kvs,Rd H a (.dT kvs)else LO H a):∀{l:List T} {vs:List V},nks D l=true->Reps K O' H l vs->Reps K O H l vs
 | [],_,_,r=>by unfold Reps at r ⊢;exact r
 | t::l,_,h,r=>by
  unfold Reps at r ⊢;unfold nks at h;rw[JM]at h;obtain⟨v,ws,e,p,q⟩:=r;exact⟨v,ws,e,Rep.lend hk h.1 p,Reps.lend hk h.2 q⟩
end
def ln (i:Nat)(f:En->Rs T)(Z:En):Rs T:=match Z[i]? with
 | some (.ow o)=>f (disown i Z) >>= λt=>if t.nk o.isD=true then .ok t else .bad
 | _=>f Z
def AZ (i:Nat)(f:En->Rs Bool)(Z:En):Rs Bool:=f (disown i Z)
theorem oI {K:JH}{O:Ow}{M:Mn}{H:Hp}{Z:En}{σ:L2.St}(E:EnvM K O M H Z σ)(i:Nat):EnvM K (λa=>O a/\¬ M i a) (M.set i wY) H (disown i Z) σ:=
 E.disown i (λa z=>z.1) (λa z y=>y.2 z) λj a hj z=>⟨E.sub j a z,λy=>hj (E.dis j i a z y)⟩
theorem q_ln (i:Nat){e:Expr}{f:En->Rs T}(h:b7 X e f):b7 X e (ln i f):=PE.imp h λσ H Q ⟨Z,O,⟨M,E⟩,q⟩=>by
 unfold ln at q
 split at q
 ·rename_i o hi
  refine⟨disown i Z,_,⟨_,oI E i⟩,?_⟩
  obtain⟨w,e1,r⟩:=E.own i o hi;refine Post.mono (Post.bind q) λt H' s q2 v rv=> ?_
  split at q2
  ·rename_i hk
   have kd:=(r.same s).kind;refine q2 H' (Same.refl _) v (Rep.lend (λa z=> ?_) hk rv)
   by_cases hm:M i a
   ·refine .inr ?_
    have this:=kd a hm
    by_cases hD:o.isD=true
    ·rw[if_pos hD]at this ⊢;exact this.imp λ_ z=> .inl z
    ·rw[if_neg hD]at this ⊢;exact this
   ·exact .inl ⟨z,hm⟩
  ·exact q2.elim
 ·exact⟨Z,O,⟨M,E⟩,q⟩
theorem GN (i:Nat){e:Expr}{f:En->Rs Bool}(h:tH X e f):tH X e (AZ i f):=PT.imp h λσ H Q ⟨Z,O,⟨M,E⟩,q⟩=>⟨disown i Z,_,⟨_,oI E i⟩,q⟩
end
end Tr
namespace Tr
open PySem L2
def jv:List T->List T->List Key->Option T
 | k'::ks,v::vs,k=>if keyOf k'=some k then some v else jv ks vs k
 | _,_,_=>none
def fB (k v:T):List T->List T->List T×List T
 | k'::ks,v'::vs=>if keyOf k'=keyOf k then(k'::ks,v::vs)else(k'::(fB k v ks vs).1,v'::(fB k v ks vs).2)
 | _,_=>([k],[v])
def il (x y:T):Rs T:=match x,keyOf y with
 | .dct ks vs,some k=>match jv ks vs k with
  | some t=> .ok t
  | none=> .bad
 | _,_=> .bad
def gO (x y:T):Rs T:=match x,keyOf y with
 | .dct ks vs,some k=>match jv ks vs k with
  | some t=> .ok t
  | none=> .ok .non
 | _,_=> .bad
def Ax (x y:T):Rs T:=match y,keyOf x with
 | .dct ks vs,some k=> .ok (.bl (jv ks vs k).isSome)
 | _,_=> .bad
def oD (g:T->T->Rs T)(fa fb:En->Rs T)(Z:En):Rs T:=fa Z >>= λx=>match x with
 | .dct ks vs=>fb Z >>= g (.dct ks vs)
 | _=> .bad
def oL (g:T->T->Rs T)(fa fb:En->Rs T)(Z:En):Rs T:=fa Z >>= λx=>match x with
 | .lst l=>fb Z >>= g (.lst l)
 | _=> .bad
def Ds:List T->Option (List (T×T))
 | [] =>some []
 | .tup [k,v] ::l=>match keyOf k,Ds l with
  | some _,some r=>some ((k,v)::r)
  | _,_=>none
 | _=>none
def fA:List (T×T)->List T×List T->List T×List T
 | [],d=>d
 | (k,v)::r,d=>fA r (fB k v d.1 d.2)
def jS:List T->Rs T
 | [.lst l] =>match Ds l with
  | some ps=>if l.length<=1000 then .ok (.dct (fA ps ([],[])).1 (fA ps ([],[])).2)else .bad
  | none=> .bad
 | _=> .bad
def nN (i:Nat)(f:En->Rs T)(Z:En):Rs Fl:=f Z >>= λt=>jS [t] >>= λd=>match d with
 | .dct ks vs=>if i<Z.length then .ok (.nx (Z.set i (.ow (.dct ks vs))))else .bad
 | _=> .bad
def wK (i:Nat)(fk fv:En->Rs T)(Z:En):Rs Fl:=match Z[i]? with
 | some (.ow (.dct ks vs))=>fv Z >>= λv=>fk Z >>= λk=>match keyOf k with
  | some _=>if ks.length<1000 then .ok (.nx (Z.set i (.ow (.dct (fB k v ks vs).1 (fB k v ks vs).2))))else .bad
  | none=> .bad
 | _=> .bad
def eQ:List T->Option (List Int)
 | [] =>some []
 | .int i::l=>(eQ l).map (i:: ·)
 | _=>none
def tO:List T->Rs T
 | [.lst l] =>match eQ l with
  | some ns=> .ok (.int ns.sum)
  | none=> .bad
 | _=> .bad
def iV (x:T):List T->Nat->Option Nat
 | [],_=>none
 | t::l,n=>if aM t x then some n else iV x l (n+1)
def fM (y x:T):Rs T:=match y with
 | .lst l=>if (x.dep<=60\/deps l<=60)/\x.nd=true/\nds l=true then match iV x l 0 with
   | some n=> .ok (.int n)
   | none=> .bad
  else .bad
 | _=> .bad
def lr (y x:T):Rs T:=match y with
 | .lst l=>if (x.dep<=60\/deps l<=60)/\x.nd=true/\nds l=true then .ok (.int (l.countP λt=>aM t x))else .bad
 | _=> .bad
def yF (i:Nat)(f:En->Rs T)(Z:En):Rs Fl:=match Z[i]? with
 | some (.va (.int a))=>f Z >>= λy=>match y with
  | .int b=> .ok (.nx (Z.set i (.va (.int (a+b)))))
  | _=> .bad
 | _=> .bad
def iZ (f:En->Rs (List T))(Z:En):Rs (List T):=f Z >>= λx=>match x with
 | [a,b] =>match a.items,b.items with
  | some l,some m=> .ok ((l.zip m).map λp=> .tup [p.1,p.2])
  | _,_=> .bad
 | _=> .bad
def FU:Nat:=1000000000000
end Tr
namespace Tr
open PySem PySem.Spec PyProof.Rows L2
theorem jg {h b b':Heap}:∀{l:List Env},h.FunFrames b l->(∀a∈l.filterMap (·.frame),b'.get? a=none)->h.FunFrames b' l
 | [],_,_=>trivial
 | env::bq,⟨hk,⟨L,o,hf,hn,ho,hd⟩,hr⟩,q=>by
  rw[KW,hf]at q;exact⟨hk,⟨L,o,hf,q L JO,ho,hd⟩,jg hr λa ha=>q a (JJ _ ha)⟩
section
variable {M:Model}{A:Km}{E:JK->JL->Prop}{s:JL}
structure Gone (fs:List Addr)(C e:Addr)(T:Option Addr)(h h':Heap)(T':Addr):Prop where
 flt:IH h' C e (some T')
 new:T=some T'\/h.get? T'=none
 keep:∀b o,b∉fs->b≠e->T≠some b->h.get? b=some o->h'.get? b=some o
 slot:∀b o,b∈fs->h.get? b=some o->∃sl,h'.get? b=some { o with slots:=sl }
theorem Fp {base:Heap}{env:Env}{outer:List Env}{L C e:Addr}{T:Option Addr}{Q:Unit->JL->Prop}(hfr:A.frames=some (env::outer))(hl:s.heap.FunFrames base (env::outer))(hf:env.frame=some L)
  (F:IH s.heap C e T) (h:∀h' T',Gone ((env::outer).filterMap (·.frame)) C e T s.heap h' T'->Q () { s with heap:=h' }):wpAny M A (leaving env (.ref e)) Q E s:=by
 generalize hB:SK s.heap (e::(T.toList++(env::outer).filterMap (·.frame)))=B
 have bm:∀b,b∈e::(T.toList++(env::outer).filterMap (·.frame))->B.get? b=none:=λb m=>by rw[<-hB];exact QD _ m
 have hl':s.heap.FunFrames B (env::outer):=jg hl λa ha=>bm a (JJ _ (Kd _ ha))
 have hst:B.StaysIn s.heap:=λb o q=>by rw[<-hB]at q;exact Q5 _ q
 have hen:B.get? e=none:=bm e JO
 have main:∀h',Heap.Left B (env::outer) e (.ref C) s.heap h'->Q () { s with heap:=h' }:=λh' ⟨x1,x2,⟨oe,vs,T',oT,ts,he,hc,hd,h1,hnT,hTe,hT,hdT,h3⟩,x4⟩=>by
  refine h h' T' ⟨⟨hTe,oe,vs,he,hc,hd,h1,oT,ts,hT,hdT,h3⟩,?_,λb o n1 n2 n3 q=> ?_,λb o m q=> ?_⟩
  ·cases q:s.heap.get? T' with
   | none=>exact .inr rfl
   | some o=>
    left
    by_cases z:T'∈e::(T.toList++(env::outer).filterMap (·.frame))
    ·rcases JT.mp z with z | z
     ·exact absurd z hTe
     ·rcases Kg.mp z with z | z
      ·cases T with
       | none=>simp at z
       | some t=>simp at z;rw[z]
      ·obtain⟨_,o',ho',hnf⟩:=x2.mem z
       rw[hT]at ho';cases ho';exact absurd hdT (hnf ts)
    ·rw[<-hB,OI _ q z]at hnT;cases hnT
  ·refine x1 b o ?_
   rw[<-hB];refine OI _ q λz=> ?_
   rcases JT.mp z with z | z
   ·exact n2 z
   ·rcases Kg.mp z with z | z
    ·cases T with
     | none=>simp at z
     | some t=>simp at z;exact n3 (by rw[z])
    ·exact n1 z
  ·obtain⟨_,o',ho',hnf⟩:=hl.mem m
   rw[q]at ho';cases ho';exact x4 b o q hnf
 cases T with
 | none=>
  obtain⟨oe,vs,he,hc,hd,h1⟩:=F;refine wpAny_leaving_first hfr hl' hf he hst hen hd h1 λh' x=>main h' ?_
  rw[hc]at x;exact x
 | some t=>
  obtain⟨hte,oe,vs,he,hc,hd,h1,oT,ts,hT,hdT,h3⟩:=F;exact wpAny_leaving_next hfr hl' hf ⟨oe,vs,t,oT,ts,he,hc,hd,h1,bm t (JJ _ (K6 _ (by simp))),hte,hT,hdT,h3⟩ hst hen main
end
abbrev tG:List JK:=[.type "ValueError",.type "Exception",.type "BaseException",.type "object"]
structure OwnExc (K:JH)(C:Addr)(bm:List JK):Prop where
 at_:∀h:Heap,K.In h->∃nm q N bs hdct sn sub ab col dd k0 k1 k2 k3 k5 mN,h.get? C=some (OZ nm q C N bs bm hdct sn sub ab col dd k0 k1 k2 k3 k5 "ValueError.__new__")/\h.Ns N mN/\mN "__init__" =none/\OwnTail h tG bm
theorem OwnExc.base {K:JH}{C:Addr}{bm:List JK}(O:OwnExc K C bm){h:Heap}(k:K.In h):bm.contains (.type "BaseException")=true:=by
 obtain⟨_,_,_,_,_,_,_,_,_,_,_,_,_,_,_,_,_,_,_,T⟩:=O.at_ h k;exact T.hasType (by decide)
def wL (c:Str)(_:En):Rs Fl:=.err c
section
variable {X:Cx}
theorem yM {c:Str}{msg:Str}{C:Addr}{bm:List JK}{np p1 cpos pos:Pos}{j:Nat}(O:OwnExc X.K C bm)(hc:X.calm=true)(hm:X.mg c=some (.ref C))(hg:autoParam (Gl X c) u_)(hd:autoParam ((c == ("__debug__" : Str))=false) s_) :
  nE X (.Raise (some (.Call (.Name c np) [.Constant (.str msg) j p1] [] cpos)) none pos) (wL c):=by
 intro pins s σ H D I ⟨Z,B,M,E,k⟩
 have k:XA X M.u H c:=k;obtain⟨nm,q,N,bs,hdct,sn,sub,ab,col,dd,k0,k1,k2,k3,k5,mN,hC,hN,hni,T⟩:=O.at_ s.heap I.kIn;refine wpAny_Raise_call_subU (C:=C) (mN:=mN) (nm:=nm) (q:=q) (N:=N) (bs:=bs) (hdct:=hdct) (sn:=sn) (sub:=sub) (ab:=ab) (col:=col) (dd:=dd) (k0:=k0) (k1:=k1) (k2:=k2) (k3:=k3) (k5:=k5) O9 (Bn:="ValueError") (by decide) O9 (O.base I.kIn) (I.ok.hd hc) (by rfl) hni (lq I hg hm ⟨rfl,?_⟩ hd)
 show wpAny _ _ (evalArgs (.ref C) true ((false,eval (.Constant (.str msg) j p1) X.env)::backTo cpos (Kc [] X.env)) []) _ _ s
 refine Mw (Mj (Calls.Constant_str (My ?_)))
 refine⟨rfl,by show 1<=sizeLine;decide,hC,hN,T,λh' e hm'=>k pins _ _ ?_⟩
 obtain⟨t,ht,ht2,ht3⟩:=hm'.there
 have I':Inv X pins σ H { s with heap:=h',toks:=s.toks+1 }:=I.kept (t':=s.toks+1) λb o z=>hm'.keeps b o z
 refine⟨e,none,C,σ,H,rfl,hm,I',λb o z _=>z,?_,?_,⟨_,_,ht,rfl,rfl,rfl⟩,(λt z=>by cases z),λp hp=>⟨λz=> ?_,λz=>by cases z⟩⟩
 ·exact rQ I hm'.new
 ·exact λhex=>pV I hex hm'.new
 ·have:=(I.pin p hp).1
  rw[z,show s.heap.get? e=none from hm'.new]at this
  cases this
end
section
variable {P:J9}{w:Kx}{K:JH}{mg:Str->Option JK}{base:Heap}
theorem FR {x qual:Str}{st:Stmt}{f:Addr}{fd:L0}{N ps:List Str}{k n:Nat}{g:List T->Rs T}(Fn:L2.Fun K x qual st f fd)(S:dG N ps (aA st))(hn:ps.length=n)
  (hbody:∀(cdv:JK) (A:Km) (outer:List Env) (s:JL) (H:Hp) (E:XK),Room k (A.deeper (envOfC qual (aA st) s.heap.objs.size f cdv)) →
   ∃F,(∀xe,k6 ((jU CX0 P w K mg base N qual (aA st) f cdv A outer s H E).FM xe) (cf st) F)/\∀ts,ts.length=n->∀c,g ts= .err c->F (bh N.length ts)= .err c):FnX P w K mg base (k+1) f fd ps n g:=by
 intro A outer s H args us vs O ts c R hr e0 hb r rs trk hl hg hR
 have hpl:ps.length<=N.length:=by have:=congrArg MZ S.pre;rw[MK]at this;omega
 obtain⟨oc,od,kV,doc,pm,an,cdv,ct,osl,rfl,lk,hcd⟩:=Fn.ex
 have hlen:vs.length=ps.length:=by rw[<-rs.length,hl,hn]
 have KX:K.In s.heap:=e0.mod.kin.keeps λb o e=>(e0.bs b o e).1
 have lim:s.heap.NoLimit:=e0.mod.nolimit.keeps λb o e=>(e0.bs b o e).1
 have hkind:∀y∈ps.zip us,(aA st).names.lookup y.1=some .local\/((aA st).names.lookup y.1=some .cell/\((MO (s.heap.objs.size+1) (aA st).names []).lookup y.1).isSome=true):=λ⟨n,v⟩ hy=>by
  rcases S.par n (NJ hy).1 with q | q
  ·exact .inl q
  ·exact .inr ⟨q,NS _ _ _ (.inl q)⟩
 refine Qv hr.depth (KX _ _ lk) rfl S.co S.gen rfl (Q7 KX hcd) (hb _ _ _ _ ?_)
 refine Pd S.kind hkind λenv he s1 x=> ?_
 subst he;refine⟨lim.keeps x.toInCall.keep,codeAny_func ?_⟩
 obtain⟨F,hF,hv⟩:=hbody cdv A outer s H E0 (hr.deeper _)
 let xe:JK->JL->Prop:=λev s'=>wpAny (model P w) (A.deeper (envOfC qual (aA st) s.heap.objs.size f cdv)) (leaving (envOfC qual (aA st) s.heap.objs.size f cdv) ev) (λ_ s''=>R (.error ev) s'') (λe' s''=>R (.error e') s'') s'
 have I:Inv ((jU CX0 P w K mg base N qual (aA st) f cdv A outer s H E0).FM xe) [] (start N vs) H s1:=(n6 S hr.hd e0 hlen r x).FM _
 have no:∀a,¬noM.u a:=λa ⟨_,z⟩=>z
 refine L9 (hF xe [] s1 (start N vs) H { nx:=λ_ _=>False,rt:=λ_ _=>False,bk:=λ_ _=>False,ct:=λ_ _=>False } I ⟨bh N.length ts,O,noM,nK rs (by omega) trk,?_⟩) (λfl s' z=> ?_) λe s' hs=>hs
 rotate_left
 ·cases fl with
  | next=>obtain⟨_,_,_,z⟩:=z;exact z.elim
  | cont=>obtain⟨_,_,_,z⟩:=z;exact z.elim
  | brk=>obtain⟨_,_,_,z⟩:=z;exact z.elim
  | ret v=>obtain⟨_,_,_,_,_,z⟩:=z;exact z.elim
 rw[hv ts hl c hg];intro pins ev s' w'
 show wpAny _ _ _ _ _ _
 obtain⟨e,T,C,σ',H',rfl,hm,I',sm,he,heo,fl,hT,_⟩:=w'
 have heo:=heo rfl
 have hT:∀t,T=some t->H' t=none/\s.heap.get? t=none:=λt z=>⟨(hT t z).1,(hT t z).2 rfl⟩
 refine Fp (base:=base) (outer:=outer) (L:=s.heap.objs.size) I'.ok.frames I'.stack rfl fl λh' T' g=>hR _ _ ?_
 have hex:((jU CX0 P w K mg base N qual (aA st) f cdv A outer s H E0).FM xe).ex= []:=rfl
 have Tn:H' T'=none/\s.heap.get? T'=none:=by
  rcases g.new with z | z
  ·exact hT T' z
  ·exact⟨rQ I' z,pV I' hex z⟩
 have out:∀b o,s.heap.get? b=some o->b≠s.heap.objs.size:=λb o q z=>by
  have:=JV q;rw[z]at this;exact absurd this (Ki _)
 have mem:∀b,b∈qh ((envOfC qual (aA st) s.heap.objs.size f cdv)::outer)->b=s.heap.objs.size\/b∈qh outer:=λb z=>by
  have z':b∈s.heap.objs.size::qh outer:=z;exact JT.mp z'
 have ne:∀b o,s.heap.get? b=some o->b≠e/\T≠some b:=λb o q=>⟨λz=>(by subst z;rw[show s.heap.get? b=none from heo]at q;cases q),λz=>(by rw[show s.heap.get? b=none from(hT b z).2]at q;cases q)⟩
 have keepH:∀b u,H' b≠none->s'.heap.get? b=some u->h'.get? b=some u:=λb u hb q=>by
  refine g.keep b u (λz=>hb (I'.IX b z)) (λz=>hb (by rw[z];exact he)) (λz=>hb (hT b z).1) q
 refine⟨e,T',C,H',rfl,hm,I'.os,I'.bare,⟨λb o q n hb hx=> ?_,λb o q n hb hx=> ?_,λb o q n hx=>I'.base.free b o q n hx,λb o q hx=> ?_,I'.base.tups,I'.base.frzs,I'.base.tbls⟩,λa o q=> ?_,λb o q=>sm b o q (no b),he,heo,g.flt,Tn.1,Tn.2⟩
 ·exact g.keep b o (λz=>(mem b z).elim (out b o q) hb) (ne b o q).1 (ne b o q).2 (I'.base.keep b o q n hb hx)
 ·obtain⟨sl,q1⟩:=I'.base.slot b o q n hb hx
  obtain⟨sl',q2⟩:=g.slot b _ (JJ _ hb) q1;exact⟨sl',q2⟩
 ·obtain⟨o',q1⟩:=I'.base.there b o q hx
  by_cases z:b∈qh ((envOfC qual (aA st) s.heap.objs.size f cdv)::outer)
  ·obtain⟨sl,q2⟩:=g.slot b o' z q1
   exact⟨_,q2⟩
  ·exact⟨o',g.keep b o' z (ne b o q).1 (ne b o q).2 q1⟩
 ·refine(I'.hok a o q).IW (λb u hb z=>keepH b u ?_ z) (λ_ z=>z) λ_ _ z=>z
  rcases hb with rfl | hb
  ·rw[q];simp
  ·rw[hb];simp
end
theorem Bc {n m:Nat}{F:En->Rs Fl}{ts:List T}{c:Str}(h:val n m F ts= .err c):F (bh m ts)= .err c:=by
 unfold val at h
 split at h
 ·unfold dt at h
  cases z:F (bh m ts)with
  | bad=>rw[z]at h;cases h
  | err c'=>rw[z]at h;cases h;rfl
  | ok f=>
   rw[z,aB]at h;cases f <;> cases h
 ·cases h
section
variable {P:J9}{w:Kx}{K:JH}{mg:Str->Option JK}{base:Heap}
theorem FT {x qual:Str}{st:Stmt}{f:Addr}{fd:L0}{N ps:List Str}{k n:Nat}{F:En->Rs Fl}(Fn:L2.Fun K x qual st f fd)(S:dG N ps (aA st))(hn:ps.length=n)
  (hbody:∀(cdv:JK) (A:Km) (outer:List Env) (s:JL) (H:Hp) (E:XK),Room k (A.deeper (envOfC qual (aA st) s.heap.objs.size f cdv)) →
   ∀xe,k6 ((jU CX0 P w K mg base N qual (aA st) f cdv A outer s H E).FM xe) (cf st) F):Gi P w K mg base (k+1) f fd ps n (val n N.length F):=
 ⟨HQ Fn S hn λcdv A outer s H E hr=>⟨F,hbody cdv A outer s H E hr _,λts _ _ h=>DQ h⟩,FR Fn S hn λcdv A outer s H E hr=>⟨F,hbody cdv A outer s H E hr,λts _ c h=>Bc h⟩⟩
end
section
variable {X:Cx}{a:Expr}{fa:En->Rs T}{pos p:Pos}{x:Str}
theorem GQ:nE X (.Continue pos) Dq:=PS.imp rE λD σ H ⟨Z,B,M,E,h⟩=>h σ H M (λ_ _ e _=>e) E λa z=> .inl z
theorem Er (i:Nat){pos':Pos}(hN:X.N.Nodup)(ha:b7 X a fa)(hi:autoParam (X.N[i]? =some x) u_)(hx:autoParam (Loc X.env.scope x) y_)(hf:autoParam (X.fn x=true\/X.env.scope.names.lookup x=some .local) r_) :
  nE X (.AugAssign (.Name x pos') .Add a pos) (yF i fa):=PS.imp (EJ hN hi hx ha FK hf) λD σ H hh_=>by
 obtain⟨Z,B,M,E,h⟩:=hh_;unfold yF at h
 split at h
 ·rename_i n e
  obtain⟨v,e1,r⟩:=E.env.val i _ e;cases Rep.Do.mp r
  have hl:i<Z.length:=(J4.mp e).1
  refine⟨.int n,e1,Z,OO B M,E.o,?_⟩
  cases q:fa Z with
  | bad=>rw[q]at h;exact h.elim
  | err c=>rw[q]at h;exact PostF.xa h
  | ok t=>
   rw[q,aB]at h
   cases t with
   | int m=>
    intro H1 s1 v rv;cases Rep.Do.mp rv
    exact⟨n,m,rfl,rfl,h _ _ M (SameO.of s1) ⟨(E.env.same s1).set hl (Rep.GM _),E.mine⟩ λa z=> .inl z⟩
   | _=>exact h.elim
 ·exact h.elim
end
inductive OTail (h:Heap):List JK->Prop
 | base:OTail h tG
 | own {A:Addr} {c0:JK} {dd:Option Addr} {cd:ClassData} {sl:Array (Option JK)} {mA:Str->Option JK} {tl:List JK} :
   h.get? A=some { cls:=c0,dict:=dd,data:=.cls cd,slots:=sl }->h.Ns cd.ns mA->(∀n∈calmNames,mA n=none)->OTail h tl->OTail h (.ref A::tl)
theorem OTail.tail {h:Heap}{tl:List JK}(T:OTail h tl):OwnTail h tG tl:=by
 induction T with
 | base=>exact .base
 | own hA hN hq _ ih=>exact .own hA hN (hq _ (.head _)) ih
structure OX (K:JH)(C:Addr)(bm:List JK):Prop where
 at_:∀h:Heap,K.In h->∃nm q N bs hdct sn sub ab col dd k0 k1 k2 k3 k5 mN,h.get? C=some (OZ nm q C N bs bm hdct sn sub ab col dd k0 k1 k2 k3 k5 "ValueError.__new__")/\h.Ns N mN/\(∀n∈calmNames,mN n=none)/\OTail h bm
theorem OX.own {K:JH}{C:Addr}{bm:List JK}(O:OX K C bm):OwnExc K C bm:=⟨λh k=>by
 obtain⟨nm,q,N,bs,hdct,sn,sub,ab,col,dd,k0,k1,k2,k3,k5,mN,h1,h2,h3,h4⟩:=O.at_ h k;exact⟨nm,q,N,bs,hdct,sn,sub,ab,col,dd,k0,k1,k2,k3,k5,mN,h1,h2,h3 _ (.head _),h4.tail⟩⟩
theorem Hk {K:JH}{N:Addr}{ob:JK}{oe:Option Addr}{es:Array DictEntry}{n:Nat}{oz:Array (Option JK)}(r:K.lookup N=some ⟨ob,oe,.dict es n,oz⟩)(s:(es.toList.all λe=>yz e.key)=true)
  (u0:ND K N "__init__" =some none) (u1:ND K N "__getattribute__" =some none) (u2:ND K N "__getattr__" =some none) (u3:ND K N "__class__" =some none) :
  ∀h:Heap,K.In h->∃mN,h.Ns N mN/\∀n∈calmNames,mN n=none:=λh k=>by
 refine⟨nsFind es,⟨_,es,n,k _ _ r,rfl,λe he=> ?_,λ_=>rfl⟩,λx hx=> ?_⟩
 ·have:=Ka.mp s e (by simpa using he)
  cases q:e.key <;> rw[q]at this <;> first | exact⟨_,_,rfl⟩ | cases this
 ·have key:∀x,ND K N x=some none->nsFind es x=none:=λx u=>by
   unfold ND at u;rw[r]at u;simp only at u
   split at u
   ·cases u
   ·rename_i he
    unfold nsFind findBy;rw[<-Ra,he];rfl
  unfold calmNames at hx;simp only[JT,Kp,or_false]at hx;rcases hx with rfl | rfl | rfl | rfl
  ·exact key _ u0
  ·exact key _ u1
  ·exact key _ u2
  ·exact key _ u3
section
variable {K:JH}{nm q:Str}{C N:Addr}{bs:List JK}{hdct:Bool}{sn:List Str}{sub:List JK}{ab:Bool}{col:Option Bool}{dd:Option Addr}{k0 k1 k2 k3 k5:Option JK}
variable {nm' q':Str}{D N':Addr}{bs':List JK}{hdct':Bool}{sn':List Str}{sub':List JK}{ab':Bool}{col':Option Bool}{dd':Option Addr}{k0' k1' k2' k3' k5':Option JK}
theorem Ce (w:K.lookup C=some (OZ nm q C N bs tG hdct sn sub ab col dd k0 k1 k2 k3 k5 "ValueError.__new__"))(ns:∀h:Heap,K.In h->∃mN,h.Ns N mN/\∀n∈calmNames,mN n=none):OX K C tG:=⟨λh k=>by
 obtain⟨mN,h1,h2⟩:=ns h k;exact⟨nm,q,N,bs,hdct,sn,sub,ab,col,dd,k0,k1,k2,k3,k5,mN,k _ _ w,h1,h2,.base⟩⟩
theorem zf (w:K.lookup C=some (OZ nm q C N bs (.ref D::tG) hdct sn sub ab col dd k0 k1 k2 k3 k5 "ValueError.__new__"))(ns:∀h:Heap,K.In h->∃mN,h.Ns N mN/\∀n∈calmNames,mN n=none)
  (wD:K.lookup D=some (OZ nm' q' D N' bs' tG hdct' sn' sub' ab' col' dd' k0' k1' k2' k3' k5' "ValueError.__new__")) (nsD:∀h:Heap,K.In h->∃mN,h.Ns N' mN/\∀n∈calmNames,mN n=none):OX K C (.ref D::tG):=⟨λh k=>by
 obtain⟨mN,h1,h2⟩:=ns h k;obtain⟨mD,d1,d2⟩:=nsD h k;exact⟨nm,q,N,bs,hdct,sn,sub,ab,col,dd,k0,k1,k2,k3,k5,mN,k _ _ w,h1,h2,.own (k _ _ wD) d1 d2 .base⟩⟩
end
end Tr
namespace L2
open PySem PySem.Spec PyProof.Rows
section
variable {κ:Type}[DecidableEq κ]
def iY (kvs:List (κ×V))(k:κ):Option V:=(kvs.find? λkv=>decide (kv.1=k)).map (·.2)
def du (kvs:List (κ×V))(k:κ)(v:V):List (κ×V):=
 if (kvs.any λkv=>decide (kv.1=k))=true then kvs.map (λkv=>if kv.1=k then(kv.1,v)else kv)else kvs++ [(k,v)]
theorem yb {k:κ}:iY ([]:List (κ×V)) k=none:=rfl
theorem jD {p:κ×V}{r:List (κ×V)}{k:κ}(e:p.1=k):iY (p::r) k=some p.2:=by simp[iY,M6,e]
theorem jE {p:κ×V}{r:List (κ×V)}{k:κ}(e:¬ p.1=k):iY (p::r) k=iY r k:=by simp[iY,M6,e]
theorem qQ (k:κ):∀kvs:List (κ×V),(kvs.any λkv=>decide (kv.1=k))=(iY kvs k).isSome
 | [] =>rfl
 | p::r=>by
  rw[MH]
  by_cases e:p.1=k
  ·simp only[jD e,decide_eq_true e,Bool.true_or,Rf]
  ·rw[jE e,decide_eq_false e,Rh];exact qQ k r
theorem fN (kvs:List (κ×V))(k:κ)(v:V):(du kvs k v).length<=kvs.length+1:=by
 unfold du;split
 ·rw[JQ];omega
 ·rw[JZ,JR,LX];omega
theorem RelO.IR {o:Option V}{u:Option JK}(r:RelO o u):o.isSome=u.isSome:=by
 cases o with
 | none=>cases u with
  | none=>rfl
  | some _=>exact(show False from r).elim
 | some _=>cases u with
  | none=>exact(show False from r).elim
  | some _=>rfl
theorem RelO.getD {o:Option V}{u:Option JK}{d:V}{d':JK}(r:RelO o u)(rd:RelV d d'):RelV (o.getD d) (u.getD d'):=by
 cases o with
 | none=>cases u with
  | none=>exact rd
  | some _=>exact(show False from r).elim
 | some _=>cases u with
  | none=>exact(show False from r).elim
  | some _=>exact r
theorem KV.val {kvs:List (κ×V)}{vs:List (κ×JK)}(r:KV kvs vs)(k:κ):RelO (iY kvs k) (valueAt vs k):=by
 unfold KV at r
 induction r with
 | nil=>exact Nd
 | @cons p q ps qs h t ih=>
  obtain⟨h1,h2⟩:=h
  by_cases e:p.1=k
  ·have e':q.1=k:=h1.symm.trans e
   have b:valueAt (q::qs) k=some q.2:=by simp[valueAt,M6,e']
   rw[jD e,b];exact h2
  ·have e':¬ q.1=k:=λz=>e (h1.trans z)
   have b:valueAt (q::qs) k=valueAt qs k:=by simp[valueAt,M6,e']
   rw[jE e,b];exact ih
theorem KV.any {kvs:List (κ×V)}{vs:List (κ×JK)}(r:KV kvs vs)(k:κ):(kvs.any λkv=>decide (kv.1=k))=vs.any λkv=>decide (kv.1=k):=by
 unfold KV at r
 induction r with
 | nil=>rfl
 | cons h t ih=>rw[MH,MH,ih,h.1]
theorem KV.Ji {kvs:List (κ×V)}{vs:List (κ×JK)}(r:KV kvs vs)(k:κ){y:V}{u:JK}(ry:RelV y u) :
  KV (kvs.map λkv=>if kv.1=k then(kv.1,y)else kv) (vs.map λkv=>if kv.1=k then(kv.1,u)else kv):=by
 unfold KV at r ⊢
 induction r with
 | nil=>exact .nil
 | @cons p q ps qs h t ih=>
  rw[JP,JP];refine .cons ?_ ih
  obtain⟨h1,h2⟩:=h
  by_cases e:p.1=k
  ·rw[if_pos e,if_pos (h1.symm.trans e)];exact⟨h1,ry⟩
  ·rw[if_neg e,if_neg (λz=>e (h1.trans z))];exact⟨h1,h2⟩
theorem KV.put {kvs:List (κ×V)}{vs:List (κ×JK)}(r:KV kvs vs)(k:κ){y:V}{u:JK}(ry:RelV y u):KV (du kvs k y) (stored vs k u):=by
 unfold du stored;rw[r.any k]
 by_cases e:(vs.any λkv=>decide (kv.1=k))=true
 ·rw[if_pos e,if_pos e];exact r.Ji k ry
 ·rw[if_neg e,if_neg e];exact Paired.snoc r ⟨rfl,ry⟩
theorem KV.length {kvs:List (κ×V)}{vs:List (κ×JK)}(r:KV kvs vs):kvs.length=vs.length:=PU r
end
theorem sj {P:J9}{w:Kx}{k:Key}{u:JK}(r:RelV (kV k) u):(b8 P w).is k u=true:=by
 cases k with
 | inl i=>obtain⟨t,e⟩:=(show ∃t,u=LF i t from r);subst e;exact rY P w i t
 | inr x=>obtain⟨t,e⟩:=(show ∃t,u=LS x t from r);subst e;exact rX P w x t
theorem n5 {P:J9}{w:Kx}:∀{ks:List Key} {us:List JK},Vals (ks.map kV) us->ItemsAre (b8 P w) ks us
 | [],_,r=>by rw[Oe]at r;cases r;exact .nil
 | k::ks,_,r=>by
  rw[JP]at r
  cases r with
  | cons h t=>exact .cons (sj h) (n5 t)
abbrev KT (H:Hp):List (List Key×V)->List (List Key×Addr×JK)->Prop:=Td λp q=>p.1=q.1/\H q.2.1=some (.tup (p.1.map kV))/\RelV p.2 q.2.2
theorem KT.val {H:Hp}{kvs:List (List Key×V)}{xs:List (List Key×Addr×JK)}(r:KT H kvs xs)(k:List Key):RelO (iY kvs k) ((atKey xs k).map (·.2)):=by
 induction r with
 | nil=>exact Nd
 | @cons p q ps qs h t ih=>
  obtain⟨h1,_,h2⟩:=h
  by_cases e:p.1=k
  ·have e':q.1=k:=h1.symm.trans e
   have b:atKey (q::qs) k=some q.2:=by simp[atKey,M6,e']
   rw[jD e,b];exact h2
  ·have e':¬ q.1=k:=λz=>e (h1.trans z)
   have b:atKey (q::qs) k=atKey qs k:=by simp[atKey,M6,e']
   rw[jE e,b];exact ih
theorem KT.Ji {H:Hp}{kvs:List (List Key×V)}{xs:List (List Key×Addr×JK)}(r:KT H kvs xs)(k:List Key){y:V}{u:JK}(ry:RelV y u) :
  KT H (kvs.map λkv=>if kv.1=k then(kv.1,y)else kv) (xs.map (putAt k u)):=by
 induction r with
 | nil=>exact .nil
 | @cons p q ps qs h t ih=>
  rw[JP,JP];refine .cons ?_ ih
  obtain⟨h1,h2,h3⟩:=h;unfold putAt
  by_cases e:p.1=k
  ·rw[if_pos e,if_pos (h1.symm.trans e)];exact⟨h1,h2,ry⟩
  ·rw[if_neg e,if_neg (λz=>e (h1.trans z))];exact⟨h1,h2,h3⟩
theorem KT.put {H:Hp}{kvs:List (List Key×V)}{xs:List (List Key×Addr×JK)}(r:KT H kvs xs)(k:List Key){b:Addr}{y:V}{u:JK}(hb:H b=some (.tup (k.map kV)))(ry:RelV y u) :
  KT H (du kvs k y) (storedH xs k b u):=by
 have e:(kvs.any λkv=>decide (kv.1=k))=(atKey xs k).isSome:=by
  rw[qQ,(r.val k).IR,RN]
 unfold du storedH;rw[e]
 by_cases q:(atKey xs k).isSome=true
 ·rw[if_pos q,if_pos q];exact r.Ji k ry
 ·rw[if_neg q,if_neg q];exact Paired.snoc r ⟨rfl,hb,ry⟩
theorem KT.keeps {H H':Hp}{kvs:List (List Key×V)}{xs:List (List Key×Addr×JK)}(r:KT H kvs xs)(ht:∀b ys,H b=some (.tup ys)->H' b=some (.tup ys)):KT H' kvs xs:=
 Paired.Jj r λ_ _ z=>⟨z.1,ht _ _ z.2.1,z.2.2⟩
section
variable {P:J9}{w:Kx}{H:Hp}{h:Heap}{a:Addr}
theorem vf {u:HO}(ok:HOk P w H h)(e:Rd H a u):ObjOk P w H h a u:=e.ok ok
theorem ox {kvs:List (Key×V)}(ok:HOk P w H h)(e:Rd H a (.dK kvs)):kvs.length<=sizeLine/\(a == Nj)=false/\∃vs,KV kvs vs/\h.DictOf (b8 P w) a vs:=
 show ObjOk P w H h a (.dK kvs)from vf ok e
theorem HZ {kvs:List (Key×V)}(ok:HOk P w H h)(e:H a=some (.dK kvs)):kvs.length<=sizeLine/\(a == Nj)=false/\∃vs,KV kvs vs/\h.DictOf (b8 P w) a vs:=ox ok (.inl e)
theorem key_of {ks:List Key}(ok:HOk P w H h)(e:H a=some (.tup (ks.map kV))):(PK (b8 P w)).is h ks a:=by
 obtain⟨_,its,r,o,h1,h2,n,h3⟩:=(show ObjOk P w H h a (.tup (ks.map kV))from ok a _ e)
 exact⟨o,its.toArray,n,h1,h2,h3,by simpa using n5 r⟩
theorem oq {kvs:List (List Key×V)}(ok:HOk P w H h)(e:Rd H a (.dT kvs)):kvs.length<=sizeLine/\(a == Nj)=false ∧
  ∃xs,KT H kvs xs/\h.DictOfH (PK (b8 P w)) a xs:=by
 obtain⟨z,y,xs,r,o,es,ep,h1,h2,h3,h4,h5⟩:=(show ObjOk P w H h a (.dT kvs)from vf ok e)
 refine⟨z,y,xs,r,o,es,ep,h1,h2,h3,h4,λx hx=> ?_,h5⟩
 have all:∀{l:List (List Key×V)} {m:List (List Key×Addr×JK)},KT H l m->∀x∈m,(PK (b8 P w)).is h x.1 x.2.1:=by
  intro l m q
  induction q with
  | nil=>intro x hx;exact nomatch hx
  | @cons p q ps qs hq t ih=>
   intro x hx;rcases JT.mp hx with e | hx
   ·subst e
    exact key_of ok (by rw[<-hq.1];exact hq.2.1)
   ·exact ih x hx
 exact all r x hx
theorem As {kvs:List (List Key×V)}(ok:HOk P w H h)(e:H a=some (.dT kvs)):kvs.length<=sizeLine/\(a == Nj)=false ∧
  ∃xs,KT H kvs xs/\h.DictOfH (PK (b8 P w)) a xs:=oq ok (.inl e)
end
def DGet (H:Hp)(a:Addr)(y:V)(r:Option V):Prop:=
 (∃kvs k,Rd H a (.dK kvs)/\y=kV k/\r=iY kvs k)\/∃kvs k b,Rd H a (.dT kvs)/\y= .ref b/\H b=some (.tup (k.map kV))/\r=iY kvs k
def DPut (H:Hp)(a:Addr)(y v:V)(H':Hp):Prop:=
 (∃kvs k,H a=some (.dK kvs)/\y=kV k/\kvs.length<sizeLine/\H'=upd H a (.dK (du kvs k v))) ∨
 ∃kvs k b,H a=some (.dT kvs)/\y= .ref b/\H b=some (.tup (k.map kV))/\kvs.length<sizeLine/\H'=upd H a (.dT (du kvs k v))
theorem DPut.t {H:Hp}{a b:Addr}{kvs:List (List Key×V)}{k:List Key}{v:V}(e:H a=some (.dT kvs))(eb:H b=some (.tup (k.map kV)))(hl:kvs.length<sizeLine) :
  DPut H a (.ref b) v (upd H a (.dT (du kvs k v))):=.inr ⟨kvs,k,b,e,rfl,eb,hl,rfl⟩
section
variable {X:Cx}{pins:List (Addr×Obj)}{σ:St}{H:Hp}{s:JL}{a:Addr}{y v:V}{u r:JK}{o:Option V}{A:Km}{E:JK->JL->Prop}
theorem Inv.big (I:Inv X pins σ H s):Nj<s.heap.objs.size:=by
 have h:Kw<s.heap.objs.size:=(I.mod.glob.keeps I.bk).lt;exact L6 (by decide) h
theorem xF {Q:JK->JL->Prop}(hu:A.units+1<cLine)(I:Inv X pins σ H s)(g:DGet H a y (some v))(ry:RelV y u)(h:∀w' s',Inv X pins σ H s'->RelV v w'->Q w' s') :
  wpAny (model X.prog X.w) A (getItem (.ref a) u) Q E s:=by
 rcases g with⟨kvs,k,e,ey,l⟩ | ⟨kvs,k,b,e,ey,eb,l⟩
 ·subst ey
  obtain⟨z,hd,vs,rel,dd⟩:=ox I.hok e;obtain⟨w',hw,rw'⟩:=RelO.some_of (v:=v) (o:=valueAt vs k) (by rw[l];exact rel.val k)
  exact wpAny_getItem_of (sj ry) dd.mapOf hw (h w' _ (I.tok _) rw')
 ·subst ey
  cases (show u=Kb b from ry)
  obtain⟨z,hd,xs,rel,dd⟩:=oq I.hok e;obtain⟨w',hw,rw'⟩:=RelO.some_of (v:=v) (o:=(atKey xs k).map (·.2)) (by rw[l];exact rel.val k)
  obtain⟨p,hp,hp2⟩:=MU.mp hw;refine wpAny_getItem_heap (MY hu) (key_of I.hok eb) dd hp ?_
  rw[hp2];exact h w' _ (I.tok _) rw'
theorem d_in {Q:JK->JL->Prop}(hu:A.units+1<cLine)(I:Inv X pins σ H s)(g:DGet H a y o)(ry:RelV y u)(h:∀s',Inv X pins σ H s'->Q (.bool o.isSome) s') :
  wpAny (model X.prog X.w) A (KC .In u (.ref a)) Q E s:=by
 rcases g with⟨kvs,k,e,ey,l⟩ | ⟨kvs,k,b,e,ey,eb,l⟩
 ·subst ey
  obtain⟨z,hd,vs,rel,dd⟩:=ox I.hok e;refine wpAny_in_of (sj ry) hd dd.mapOf ?_
  rw[<-(rel.val k).IR,<-l];exact h _ (I.tok _)
 ·subst ey
  cases (show u=Kb b from ry)
  obtain⟨z,hd,xs,rel,dd⟩:=oq I.hok e;refine wpAny_in_heap (MY hu) (key_of I.hok eb) hd dd ?_
  have q:=(rel.val k).IR;rw[RN]at q;rw[<-q,<-l];exact h _ (I.tok _)
theorem qt {h':Heap}{t':Nat}{ob:HO}(I:Inv X pins σ H s)(mu:Ik (H a))(hs:MF a s.heap h')(he:∃q,h'.get? a=some q)(new:ObjOk X.prog X.w (upd H a ob) h' a ob) :
  Inv X pins σ (upd H a ob) { s with heap:=h',toks:=t' }:=
 I.write (x:=a) (e:=a) mu (.inl rfl) (λb q hb z=>(hs.2 b hb).trans z) he new
theorem F5 {P:J9}{w:Kx}{H':Hp}{h':Heap}{kvs:List (Key×V)}{vs:List (Key×JK)}(z:kvs.length<=sizeLine)(hd:(a == Nj)=false)(rel:KV kvs vs)(dd:h'.DictOf (b8 P w) a vs) :
  ObjOk P w H' h' a (.dK kvs):=⟨z,hd,vs,rel,dd⟩
theorem xE {H':Hp}{Q:Unit->JL->Prop}(hu:A.units+1<cLine)(I:Inv X pins σ H s)(g:DPut H a y v H')(ry:RelV y u)(rv:RelV v r)(h:∀s',Inv X pins σ H' s'->Q () s') :
  wpAny (model X.prog X.w) A (setItem (.ref a) u r) Q E s:=by
 rcases g with⟨kvs,k,e,ey,l,eH⟩ | ⟨kvs,k,b,e,ey,eb,l,eH⟩
 ·subst ey eH
  obtain⟨z,hd,vs,rel,dd⟩:=HZ I.hok e
  have hz:vs.length<=sizeLine:=by rw[<-rel.length];exact z
  have hl:(du kvs k v).length<=sizeLine:=by have:=fN kvs k v;omega
  refine wpAny_setItem_pairs (hsz:=hz) (sj ry) dd λh' dd' hs=>h _ ?_
  have he:∃q,h'.get? a=some q:=let ⟨q,_,_,hq,_⟩:=dd';⟨q,hq⟩
  exact qt I (by rw[e];exact Nd) hs he (F5 hl hd (rel.put k rv) dd')
 ·subst ey eH
  cases (show u=Kb b from ry)
  obtain⟨z,hd,xs,rel,dd⟩:=As I.hok e
  have hz:xs.length<=sizeLine:=by rw[<-PU rel];exact z
  have hl:(du kvs k v).length<=sizeLine:=by have:=fN kvs k v;omega
  refine wpAny_setItem_heap (hsz:=hz) (MY hu) (key_of I.hok eb) dd λh' dd' hs=>h _ ?_
  obtain⟨q,es,ep,hq,h2,h3,h4,_,h5⟩:=dd';refine qt I (by rw[e];exact Nd) hs ⟨q,hq⟩ ⟨hl,hd,_,(rel.put k eb rv).keeps λc ys ec=> ?_,q,es,ep,hq,h2,h3,h4,h5⟩
  rw[aQ (rV ec e (λz=>nomatch z))]
  exact ec
end
def De (i:Expr):Prop:=∀ov iv,Q3 i false ov iv=operate [ov,iv] (getItem ov iv)
theorem Bo {prog:J9}{w:Kx}{A:Km}{E:JK->JL->Prop}{s:JL}{env:Env}{value slice:Expr}{pos:Pos}{T id:String}{Q:JK->JL->Prop}
  (hl:R0 (.type T) "__getitem__" =pure (some (.builtin id))) (hs:De slice)
  (h:wpAny (model prog w) A (eval value env) (λo s₁=>wpAny (model prog w) A (eval slice env) (λi s₂=>s₂.TypeIs o T/\wpAny (model prog w) A (getItem o i) Q E s₂) E s₁) E s) :
  wpAny (model prog w) A (eval (.Subscript value slice pos) env) Q E s:=by
 refine Subscript_ (L9 h (λo s₁ h₁=>L9 h₁ (λi s₂ h₂=> ?_) λ_ _ x=>x) λ_ _ x=>x)
 obtain⟨hT,h₂⟩:=h₂;unfold Rx;refine JG ?_
 rw[getitemInPython_of_ne hT.not_modules];refine JG (Na hT hl ?_)
 have fin:wpAny (model prog w) A (Q3 slice false o i) (λr s₃=>wpAny (model prog w) A (letTemporaryGo value o r >>= λ_=>pure r) Q E s₃) E s₂:=by
  rw[hs o i];exact wpAny_operating (L9 h₂ (λr s₃ h₃=>JG (wpAny_letTemporaryGo (JN h₃))) λ_ _ x=>x)
 first
  | exact JN (JG fin)
  | exact JG (JN (JG fin))
  | exact JG fin
theorem sR {X:Cx}{pins:List (Addr×Obj)}{σ:St}{H:Hp}{s:JL}{a:Addr}{y:V}{o:Option V}(I:Inv X pins σ H s)(g:DGet H a y o):s.TypeIs (.ref a) "dict":=by
 rcases g with⟨kvs,k,e,_,_⟩ | ⟨kvs,k,b,e,_,_,_⟩
 ·obtain⟨_,_,vs,_,dd⟩:=ox I.hok e
  exact dd.typeIs
 ·obtain⟨_,_,xs,_,dd⟩:=oq I.hok e
  exact dd.typeIs
def GA (td ty:TE):TE:=λσ H Q=>td σ H λx H1=>ty σ H1 λy H2=> ∃a v,x= .ref a/\DGet H2 a y (some v)/\Q v H2
def GG (td ty tv:TE):TS:=λD σ H=>tv σ H λv H1=>td σ H1 λx H2=>ty σ H2 λy H3=> ∃a H4,x= .ref a/\DPut H3 a y v H4/\D.nx σ H4
section
variable {X:Cx}{o i e value:Expr}{pos pos' tpos:Pos}{td ty tv:TE}
theorem Cc (hu:X.A.units+1<cLine)(ho:PE X o td)(hi:PE X i ty)(hs:De i):PE X (.Subscript o i pos) (GA td ty):=by
 intro pins s σ H Q I h;refine Bo PySem.F.slot_dict_getitem.lookup hs (bV (ho pins s σ H _ I h) λu s1 ⟨x,H1,I1,rx,q1⟩=>bV (hi pins s1 σ H1 _ I1 q1) λiv s2 hh_=> ?_)
 obtain⟨y,H2,I2,ry,a,v,ex,g,q2⟩:=hh_;subst ex;obtain rfl:u=Kb a:=rx;exact⟨sR I2 g,xF hu I2 g ry λw' s3 I3 rw'=>⟨v,H2,I3,rw',q2⟩⟩
theorem B0 (hu:X.A.units+1<cLine)(ho:PE X o td)(hi:PE X i ty)(hv:PE X value tv)(hs:Lz value (some (.Subscript o i pos')) pos.line X.env=pure false) :
  PS X (.Assign [.Subscript o i pos'] value pos) (GG td ty tv):=by
 intro pins s σ H D I h;refine wpAny_Assign_Subscript (bV (hv pins s σ H _ I h) λr s1 ⟨v,H1,I1,rv,q1⟩=>bV (ho pins s1 σ H1 _ I1 q1) λu s2 ⟨x,H2,I2,rx,q2⟩=>bV (hi pins s2 σ H2 _ I2 q2) λiv s3 ⟨y,H3,I3,ry,a,H4,ex,g,q3⟩=> ?_) hs
 subst ex;obtain rfl:u=Kb a:=rx;exact xE hu I3 g ry rv λs4 I4=>⟨σ,H4,I4,q3⟩
end
theorem Au {P:J9}{w:Kx}{H:Hp}(h:Heap)(hb:Nj<h.objs.size):ObjOk P w H (h.push { cls:=.type "dict",data:=.dict #[] }) h.objs.size (.dT []):=
 ⟨KY _,beq_eq_false_iff_ne.mpr (MS (J7 hb)),[],.nil,_,#[],0,JS _ rfl,⟨rfl,rfl,rfl⟩,rfl,rfl,MP⟩
structure M1 (X:Cx)(o:Expr)(m:Str)(apos:Pos)(e:Expr)(cpos:Pos):Prop where
 base:Lr o m X.env (eval o X.env)=eval o X.env
 few:((backTo cpos (Kc [e] X.env)).all (λx=> !x.1)&&(backToKw cpos (S5 [] X.env)).all (λx=>x.1.isSome)
  &&decide (([e]:List Expr).length+([]:List S6).length+(if ([]:List S6).isEmpty then 0 else 1)<30))=true
 line:(apos.endLine == cpos.line)=true
 trees:backTo cpos (Kc [e] X.env)= [(false,eval e X.env)]
structure M2 (X:Cx)(o:Expr)(m:Str)(apos:Pos)(e f:Expr)(cpos:Pos):Prop where
 base:Lr o m X.env (eval o X.env)=eval o X.env
 few:((backTo cpos (Kc [e,f] X.env)).all (λx=> !x.1)&&(backToKw cpos (S5 [] X.env)).all (λx=>x.1.isSome)
  &&decide (([e,f]:List Expr).length+([]:List S6).length+(if ([]:List S6).isEmpty then 0 else 1)<30))=true
 line:(apos.endLine == cpos.line)=true
 trees:backTo cpos (Kc [e,f] X.env)= [(false,eval e X.env),(false,eval f X.env)]
def IsD (H:Hp)(a:Addr):Prop:=(∃kvs,Rd H a (.dK kvs))\/∃kvs,Rd H a (.dT kvs)
theorem FJ {X:Cx}{pins:List (Addr×Obj)}{σ:St}{H:Hp}{s:JL}{a:Addr}(I:Inv X pins σ H s)(d:IsD H a) :
  s.TypeIs (.ref a) "dict"/\(∀b,Kb a= .ref b->∃ob,s.heap.get? b=some ob/\ob.dict=none)/\(a == Nj)=false:=by
 rcases d with⟨kvs,e⟩ | ⟨kvs,e⟩
 ·obtain⟨_,hd,vs,_,dd⟩:=ox I.hok e
  refine⟨dd.typeIs,λb q=> ?_,hd⟩
  cases q;obtain⟨ob,_,_,h1,h2,_⟩:=dd;exact⟨ob,h1,h2.2.1⟩
 ·obtain⟨_,hd,xs,_,dd⟩:=oq I.hok e
  refine⟨dd.typeIs,λb q=> ?_,hd⟩
  cases q;obtain⟨ob,_,_,h1,h2,_⟩:=dd;exact⟨ob,h1,h2.2.1⟩
section
variable {X:Cx}{pins:List (Addr×Obj)}{σ:St}{H:Hp}{s:JL}{a:Addr}{y d:V}{u r:JK}{o:Option V}{A:Km}{E:JK->JL->Prop}
theorem F7 {Q:JK->JL->Prop}(hu:A.units+1<cLine)(I:Inv X pins σ H s)(g:DGet H a y o)(ry:RelV y u)(h:∀w' s',Inv X pins σ H s'->RelV (o.getD .non) w'->Q w' s') :
  wpAny (model X.prog X.w) A (call (.builtin "dict.get") [.ref a,u]) Q E s:=by
 rcases g with⟨kvs,k,e,ey,l⟩ | ⟨kvs,k,b,e,ey,eb,l⟩
 ·subst ey
  obtain⟨z,hd,vs,rel,dd⟩:=ox I.hok e;refine call_meetsIn Od dd.typeIs Qc (PM _ _) (meets_dict_get (b8 X.prog X.w) a (sj ry) hd) ⟨_,dd.mapOf,h _ _ (I.tok _) ?_⟩
  rw[l];exact(rel.val k).getD rfl
 ·subst ey
  cases (show u=Kb b from ry)
  obtain⟨z,hd,xs,rel,dd⟩:=oq I.hok e;refine call_meetsIn Od dd.typeIs Qc (PM _ _) (meetsH_dict_get (PK (b8 X.prog X.w)) a b hd) ⟨MY hu,k,xs,key_of I.hok eb,dd,h _ _ (I.tok _) ?_⟩
  rw[l];exact(rel.val k).getD rfl
end
def DX (td ty:TE):TE:=λσ H Q=>td σ H λx H1=> ∃a,x= .ref a/\IsD H1 a/\ty σ H1 λy H2=> ∃o,DGet H2 a y o/\Q (o.getD .non) H2
section
variable {X:Cx}{o e f:Expr}{apos cpos:Pos}{td ty tx:TE}
theorem ze (hu:X.A.units+1<cLine)(ho:PE X o td)(he:PE X e ty)(m:M1 X o "get" apos e cpos):PE X (.Call (.Attribute o "get" apos) [e] [] cpos) (DX td ty):=by
 intro pins s σ H Q I h;refine wpAny_Call_method m.base m.few m.line PySem.F.plainAttrs_dict Od PySem.F.type_dict_get (bV (ho pins s σ H _ I h) λu s1 hh_=> ?_)
 obtain⟨x,H1,I1,rx,a,ex,d,q1⟩:=hh_;subst ex;obtain rfl:u=Kb a:=rx;obtain⟨t1,t2,_⟩:=FJ I1 d;refine⟨t1,t2,?_⟩
 rw[m.trees];refine MT rfl (Mw (Mj (bV (he pins s1 σ H1 _ I1 q1) λiv s2 ⟨y,H2,I2,ry,ov,g,q2⟩=>My ?_)))
 exact F7 hu I2 g ry λw' s3 I3 rw'=>⟨_,H2,I3,rw',q2⟩
end
end L2
namespace Tr
open PySem PySem.Spec PyProof.Rows L2
theorem DGet.Jo {H:Hp}{a b:Addr}{kvs:List (List Key×V)}{k:List Key}(e:Rd H a (.dT kvs))(eb:H b=some (.tup (k.map kV))):DGet H a (.ref b) (iY kvs k):=.inr ⟨kvs,k,b,e,rfl,eb,rfl⟩
theorem DG {k:Nat}{A:Km}(h:Room k A):A.units+1<cLine:=by have:=h.un;omega
theorem mx {K:JH}{O:Ow}{H:Hp}:∀{l:List T} {vs:List V} {k:List Key},my l=some k->Reps K O H l vs->vs=k.map kV
 | [],vs,k,h,r=>by cases Reps.AC.mp r;cases h;rfl
 | t::l,vs,k,h,r=>by
  obtain⟨v,ws,rfl,p,q⟩:=Reps.me.mp r;unfold my at h
  cases e1:DB t with
  | none=>rw[e1]at h;cases h
  | some a=>
   cases e2:my l with
   | none=>rw[e1,e2]at h;cases h
   | some b=>
    rw[e1,e2]at h;cases h;rw[mx e2 q,JP]
    congr 1
    cases t with
    | int i=>cases e1;exact Rep.Do.mp p
    | str x=>cases e1;exact Rep.GT.mp p
    | _=>cases e1
theorem jO {K:JH}{O:Ow}{H:Hp}{y:T}{v:V}{k:List Key}(h:keyOf y=some k)(r:Rep K O H y v):∃b,v= .ref b/\H b=some (.tup (k.map kV)):=by
 cases y with
 | tup l=>
  obtain⟨a,vs,e1,_,e3,e4⟩:=Rep.Da.mp r;rw[mx h e4]at e3
  exact⟨a,e1,e3⟩
 | _=>cases h
theorem jT {K:JH}{O:Ow}{H:Hp}{k:List Key}:∀{ks ts:List T} {kvs:List (List Key×V)},ks.map keyOf=kvs.map (λp=>some p.1)->Reps K O H ts (kvs.map (·.2))->match jv ks ts k with
  | some t=> ∃v,iY kvs k=some v/\Rep K O H t v
  | none=>iY kvs k=none
 | [],ts,kvs,h,r=>by
  cases kvs with
  | nil=>unfold jv;exact yb
  | cons _ _=>cases h
 | k'::ks,ts,kvs,h,r=>by
  cases kvs with
  | nil=>cases h
  | cons p kvs=>
   rw[JP,JP]at h;injection h with h1 h2
   rw[JP]at r
   cases ts with
   | nil=>have:=Reps.AC.mp r;cases this
   | cons t ts=>
    obtain⟨v,ws,e,q1,q2⟩:=Reps.me.mp r;injection e with e1 e2
    subst e1 e2;unfold jv
    by_cases hk:keyOf k'=some k
    ·rw[if_pos hk]
     rw[h1]at hk;injection hk with hk
     exact⟨_,jD hk,q1⟩
    ·rw[if_neg hk]
     have hk2:¬ p.1=k:=λz=>hk (by rw[h1,z])
     rw[jE hk2];exact jT h2 q2
theorem pk {κ:Type}[DecidableEq κ]{k:κ}{p:κ×V}{r:List (κ×V)}{v:V}(h:¬ p.1=k):du (p::r) k v=p::du r k v:=by
 unfold du;rw[MH,decide_eq_false h,Rh]
 by_cases q:(r.any λkv=>decide (kv.1=k))=true
 ·rw[if_pos q,if_pos q,JP,if_neg h]
 ·rw[if_neg q,if_neg q];rfl
theorem pq {κ:Type}[DecidableEq κ]{k:κ}{p:κ×V}{r:List (κ×V)}{v:V}(h:p.1=k)(hn:∀q∈r,q.1≠k):du (p::r) k v=(p.1,v)::r:=by
 unfold du;rw[MH,decide_eq_true h,Bool.true_or,if_pos rfl,JP,if_pos h]
 congr 1
 conv=>rhs;rw[<-List.map_id r]
 exact KO λq hq=>if_neg (hn q hq)
theorem mJ {K:JH}{O:Ow}{H:Hp}{kT vT:T}{k:List Key}{v:V}(hk:keyOf kT=some k)(hv:Rep K O H vT v):∀{ks ts:List T} {kvs:List (List Key×V)},ks.map keyOf=kvs.map (λp=>some p.1)->Reps K O H ts (kvs.map (·.2))->(kvs.map (·.1)).Nodup →
  (fB kT vT ks ts).1.map keyOf=(du kvs k v).map (λp=>some p.1)/\Reps K O H (fB kT vT ks ts).2 ((du kvs k v).map (·.2))
 | [],ts,kvs,h,r,_=>by
  cases kvs with
  | nil=>
   unfold fB;refine⟨?_,Reps.FS hv Reps.II⟩
   simp[du,hk]
  | cons _ _=>cases h
 | k'::ks,ts,kvs,h,r,hn=>by
  cases kvs with
  | nil=>cases h
  | cons p kvs=>
   rw[JP,JP]at h;injection h with h1 h2
   rw[JP]at r;rw[JP]at hn;obtain⟨n1,n2⟩:=KG.mp hn
   cases ts with
   | nil=>have:=Reps.AC.mp r;cases this
   | cons t ts=>
    obtain⟨v',ws,e,q1,q2⟩:=Reps.me.mp r;injection e with e1 e2
    subst e1 e2;unfold fB
    by_cases hz:keyOf k'=keyOf kT
    ·rw[if_pos hz]
     have hp:p.1=k:=by rw[hz,hk]at h1;injection h1 with h1;exact h1.symm
     rw[pq hp λq hq z=>n1 (by rw[hp,<-z];exact NA hq)]
     exact⟨by rw[JP,JP,h1,h2],Reps.FS hv q2⟩
    ·rw[if_neg hz]
     have hp:¬ p.1=k:=λz=>hz (by rw[h1,z,hk])
     obtain⟨a1,a2⟩:=mJ hk hv h2 q2 n2;rw[pk hp];exact⟨by rw[JP,JP,h1,a1],Reps.FS q1 a2⟩
theorem Df {H:Hp}{kvs:List (List Key×V)}{xs:List (List Key×Addr×JK)}(rel:KT H kvs xs):kvs.map (·.1)=xs.map (·.1):=by
 induction rel with
 | nil=>rfl
 | cons h t ih=>rw[JP,JP,ih,h.1]
theorem AA {X:Cx}{pins:List (Addr×Obj)}{σ:L2.St}{H:Hp}{s:JL}{a:Addr}{kvs:List (List Key×V)}(I:Inv X pins σ H s)(e:H a=some (.dT kvs)):(kvs.map (·.1)).Nodup/\kvs.length<=sizeLine:=by
 obtain⟨z,_,xs,rel,_,_,_,_,_,_,_,_,hn⟩:=As I.hok e;rw[Df rel];exact⟨hn,z⟩
section
variable {X:Cx}{a b:Expr}{fa fb:En->Rs T}{pos:Pos}
theorem G1 (hu:X.A.units+1<cLine)(ha:b7 X a fa)(hb:b7 X b fb)(hs:autoParam (De b) x_):b7 X (.Subscript a b pos) (o2 il fa fb):=by
 refine PE.imp (Cc hu ha hb hs) λσ H Q ⟨Z,O,E,hq⟩=> ?_
 obtain⟨Z1,O1,E1,h1⟩:=aW E hq;refine⟨Z1,O1,E1,Post.mono h1 λt H1 s1 q v r=> ?_⟩
 obtain⟨t',r',s',E',q'⟩:=q v r;obtain⟨Z2,O2,E2,h2⟩:=aW (f:=fb) E' q';refine⟨Z2,O2,E2,Post.mono h2 λt2 H2 s2 q2 v2 r2=> ?_⟩
 obtain⟨t2',r2',s2',E2',q2'⟩:=q2 v2 r2
 have r'':=r'.same s2';unfold il at q2'
 split at q2'
 ·rename_i ks vs k hk
  split at q2'
  ·rename_i x hx
   obtain⟨a,kvs,e1,e2,e3,e4,e5⟩:=Rep.GE.mp r'';obtain⟨b,f1,f2⟩:=jO hk r2'
   have g:=jT (k:=k) e4 e5;rw[hx]at g;obtain⟨w,g1,g2⟩:=g;exact⟨a,w,e1,by rw[f1,<-g1];exact DGet.Jo e3 f2,q2' H2 (Same.refl H2) w g2⟩
  ·exact q2'.elim
 ·exact q2'.elim
end
end Tr
namespace Tr
open PySem PySem.Spec PyProof.Rows L2
open PySem.SeqAt
theorem rZ {A:Km}{s:JL}{x:T}{ux:JK}(rx:ReV s x ux)(hu:A.units+60<cLine){l:List T}{us:List JK}(hd:x.dep<=60\/deps l<=60)(r:ReVs s l us) :
  ∃e:JK->Bool,(∀y∈us,EqAt A s y ux (e y))/\us.map e=l.map λt=>aM t x:=by
 classical
 have ex:∀y∈us,∃t∈l,ReV s t y:=λy hy=>by
  obtain⟨i,hi,rfl⟩:=KZ hy
  have hl:=r.length
  have e1:l[i]? =some l[i]:=by simp
  obtain⟨u,q1,q2⟩:=r.get e1
  have:us[i]? =some us[i]:=by simp
  rw[this]at q1;cases q1;exact⟨l[i],K1 _,q2⟩
 let e:JK->Bool:=λy=>decide (∃t∈l,ReV s t y/\aM t x=true)
 have dep:∀t∈l,t.dep<=60\/x.dep<=60:=λt ht=>by
  rcases hd with h | h
  ·exact .inr h
  ·obtain⟨i,hi,rfl⟩:=KZ ht
   exact .inl (Kf (ip (i:=i) (by simp)) h)
 have uniq:∀y t t',ReV s t y->ReV s t' y->aM t x=aM t' x:=λy t t' z z'=>by
  rw[<-jY t,<-jY t',ReV.nf z z']
 have agree:∀y t,t∈l->ReV s t y->e y=aM t x:=λy t h z=>by
  show decide (∃t∈l,ReV s t y/\aM t x=true)=aM t x
  cases q:aM t x with
  | true=>exact decide_eq_true ⟨t,h,z,q⟩
  | false=>
   refine decide_eq_false ?_
   rintro ⟨t',h',z',q'⟩
   rw[<-uniq y t t' z z',q]at q';cases q'
 refine⟨e,λy hy=> ?_,?_⟩
 ·obtain⟨t,h,z⟩:=ex y hy
  rw[agree y t h z];exact(CK 60 A s t x y ux (dep t h) hu z rx).1
 ·have go:∀(l':List T) (us':List JK),(∀t∈l',t∈l)->ReVs s l' us'->us'.map e=l'.map λy=>aM y x:=by
   intro l'
   induction l' with
   | nil=>intro us' _ r';rw[ReVs.AC.mp r'];rfl
   | cons t l' ih=>
    intro us' sub r';obtain⟨u,ws,rfl,p,q⟩:=ReVs.me.mp r';rw[JP,JP,ih ws (λt ht=>sub t (JJ _ ht)) q,agree u t (sub t JO) p]
  exact go l us (λ_ h=>h) r
theorem mH {x:T}:∀{l:List T} {n k:Nat},iV x l n=some k->n<=k/\(l.map λt=>aM t x)[k - n]? =some true/\∀m,m<k - n->(l.map λt=>aM t x)[m]? =some false
 | [],n,k,h=>by cases h
 | t::l,n,k,h=>by
  unfold iV at h
  cases q:aM t x with
  | true=>
   rw[q,if_pos rfl]at h;cases h;refine⟨JW _,?_,λm hm=>by omega⟩
   rw[Og,JP,q];rfl
  | false=>
   rw[q,if_neg (by decide)]at h
   obtain⟨h1,h2,h3⟩:=mH h
   have e:k - n=(k - (n+1))+1:=by omega
   refine⟨by omega,?_,λm hm=> ?_⟩
   ·rw[e,JP,MI];exact h2
   ·cases m with
    | zero=>rw[JP,q];rfl
    | succ m=>rw[JP,MI];exact h3 m (by omega)
section
variable {X:Cx}{a b:Expr}{fa fb:En->Rs T}{pos apos cpos:Pos}
theorem yO (hu:X.A.units+61<cLine)(ha:b7 X a fa)(hb:b7 X b fb)(hn:autoParam (bL b=true) u_)
  (hbase:autoParam (Lr a "index" X.env (eval a X.env)=eval a X.env) u_) (hline:autoParam ((apos.endLine == cpos.line)=true) u_):b7 X (.Call (.Attribute a "index" apos) [b] [] cpos) (oL fM fa fb):=by
 have hs:Kc [b] X.env=(false,eval b X.env)::Kc [] X.env:=bf hn;intro pins s σ H Q I ⟨Z,O,E,hq⟩;refine NY hbase (by rw[hs];rfl) hline rfl (bV (ha pins s σ H _ I (aW E hq)) λv s1 hh_=> ?_)
 obtain⟨x,H1,I1,r1,t,rt,s',E',q1⟩:=hh_
 cases t with
 | lst l=>
  obtain⟨c,vs,e1,e2,e3,e4⟩:=Rep.Fk.mp rt;subst e1;obtain rfl:v=Kb c:=r1;obtain⟨h1,h2⟩:=tK I1 (show RelV (.ref c) (.ref c)from rfl) (.inl ⟨rfl,vs,SqL.of e3⟩)
  refine⟨_,_,MG,PySem.F.slot_list_index,PySem.F.type_list_index,h1,h2,?_⟩
  rw[hs];refine MT rfl (Mw (Mj (bV (hb pins s1 σ H1 _ I1 (aW (f:=fb) E' q1)) λu s2 ⟨y,H2,I2,r2,t2,rt2,s'',E'',q2⟩=>My ?_)))
  unfold fM at q2
  split at q2
  ·rename_i l' heq
   cases heq
   split at q2
   ·rename_i hd3
    obtain⟨hd,hnx,hny⟩:=hd3
    split at q2
    ·rename_i k hk
     have rv:=Rep.val I2 (show(T.lst l).nd=true by unfold T.nd;exact hny) (rt.same s'') (show RelV (.ref c) (.ref c)from rfl)
     unfold ReV at rv;obtain⟨c',us,ec,hl,rs⟩:=rv;cases ec;obtain⟨⟨cls,dd,data,sl⟩,ho,hc,n,hdd⟩:=id hl;simp only at hc hdd;subst hc hdd;obtain⟨e,he,ha⟩:=rZ (A:=X.A.in1) (Rep.val I2 hnx rt2 r2) (by show X.A.units+1+60<cLine;omega) hd rs
     obtain⟨_,k1,k2⟩:=mH hk;rw[Oh]at k1 k2;rw[<-ha]at k1 k2
     have hkl:k<us.length:=by have:=(J4.mp k1).1;rwa [JQ]at this
     have hz:us.length<=sizeLine:=by
      have z:=(I2.IT (s'' _ _ e3)).1
      have h3:=rs.length
      have h4:=e4.length;omega
     refine N8 F.slot_list_index ⟨_,ho,rfl⟩ F.entry_list_index (F.args_list_index_2 _ _) (list_indexAt c us.toArray n dd sl u e k (by simpa using hkl) (by rw[Me]at hz;omega) ?_ ?_) ⟨ho,λy hy=>he y (by simpa using hy),?_⟩
     ·have:=(J4.mp k1).2
      rw[Oq]at this
      simpa using this
     ·intro m hm hmk
      have:=(J4.mp (k2 m hmk)).2
      rw[Oq]at this
      simpa using this
     ·exact⟨.int _,H2,I2.tok _,⟨_,rfl⟩,q2 H2 (Same.refl H2) _ (Rep.GM _)⟩
    ·exact q2.elim
   ·exact q2.elim
  ·rename_i hno
   exact(hno l rfl).elim
 | _=>exact q1.elim
theorem yP (hu:X.A.units+61<cLine)(ha:b7 X a fa)(hb:b7 X b fb)(hn:autoParam (bL b=true) u_)
  (hbase:autoParam (Lr a "count" X.env (eval a X.env)=eval a X.env) u_) (hline:autoParam ((apos.endLine == cpos.line)=true) u_):b7 X (.Call (.Attribute a "count" apos) [b] [] cpos) (oL lr fa fb):=by
 have hs:Kc [b] X.env=(false,eval b X.env)::Kc [] X.env:=bf hn;intro pins s σ H Q I ⟨Z,O,E,hq⟩;refine NY hbase (by rw[hs];rfl) hline rfl (bV (ha pins s σ H _ I (aW E hq)) λv s1 hh_=> ?_)
 obtain⟨x,H1,I1,r1,t,rt,s',E',q1⟩:=hh_
 cases t with
 | lst l=>
  obtain⟨c,vs,e1,e2,e3,e4⟩:=Rep.Fk.mp rt;subst e1;obtain rfl:v=Kb c:=r1;obtain⟨h1,h2⟩:=tK I1 (show RelV (.ref c) (.ref c)from rfl) (.inl ⟨rfl,vs,SqL.of e3⟩)
  refine⟨_,_,MG,PySem.F.slot_list_count,PySem.F.type_list_count,h1,h2,?_⟩
  rw[hs];refine MT rfl (Mw (Mj (bV (hb pins s1 σ H1 _ I1 (aW (f:=fb) E' q1)) λu s2 ⟨y,H2,I2,r2,t2,rt2,s'',E'',q2⟩=>My ?_)))
  unfold lr at q2
  split at q2
  ·rename_i l' heq
   cases heq
   split at q2
   ·rename_i hd3
    obtain⟨hd,hnx,hny⟩:=hd3
    have rv:=Rep.val I2 (show(T.lst l).nd=true by unfold T.nd;exact hny) (rt.same s'') (show RelV (.ref c) (.ref c)from rfl)
    unfold ReV at rv;obtain⟨c',us,ec,hl,rs⟩:=rv;cases ec;obtain⟨⟨cls,dd,data,sl⟩,ho,hc,n,hdd⟩:=id hl;simp only at hc hdd;subst hc hdd;obtain⟨e,he,ha⟩:=rZ (A:=X.A.in1) (Rep.val I2 hnx rt2 r2) (by show X.A.units+1+60<cLine;omega) hd rs
    have hc:us.toArray.toList.countP e=l.countP λt=>aM t t2:=by
     have h1:(us.map e).countP id=us.countP e:=by rw[Qo];rfl
     have h2:(l.map λt=>aM t t2).countP id=l.countP λt=>aM t t2:=by rw[Qo];rfl
     rw[<-h2,<-ha,h1]
    refine N8 F.slot_list_count ⟨_,ho,rfl⟩ F.entry_list_count (F.args_list_count_2 _ _) (list_countAt c us.toArray n dd sl u e) ⟨ho,λy hy=>he y (by simpa using hy),?_⟩
    rw[hc];exact⟨.int _,H2,I2.tok _,⟨_,rfl⟩,q2 H2 (Same.refl H2) _ (Rep.GM _)⟩
   ·exact q2.elim
  ·rename_i hno
   exact(hno l rfl).elim
 | _=>exact q1.elim
theorem EB (hu:X.A.units+1<cLine)(ha:b7 X a fa)(hb:b7 X b fb)(hn:autoParam (bL b=true) u_)
  (hbase:autoParam (Lr a "get" X.env (eval a X.env)=eval a X.env) u_) (hline:autoParam ((apos.endLine == cpos.line)=true) u_):b7 X (.Call (.Attribute a "get" apos) [b] [] cpos) (oD gO fa fb):=by
 have hs:Kc [b] X.env=(false,eval b X.env)::Kc [] X.env:=bf hn;refine PE.imp (ze hu ha hb ⟨hbase,by rw[hs];rfl,hline,by rw[hs];rfl⟩) λσ H Q ⟨Z,O,E,hq⟩=> ?_
 obtain⟨Z1,O1,E1,h1⟩:=aW E hq;refine⟨Z1,O1,E1,Post.mono h1 λt H1 s1 q v r=> ?_⟩
 obtain⟨t',r',s',E',q'⟩:=q v r
 cases t' with
 | dct ks vs=>
  obtain⟨c,kvs,e1,e2,e3,e4,e5⟩:=Rep.GE.mp r';refine⟨c,e1,.inr ⟨kvs,e3⟩,?_⟩
  obtain⟨Z2,O2,E2,h2⟩:=aW (f:=fb) E' q';refine⟨Z2,O2,E2,Post.mono h2 λt2 H2 s2 q2 v2 r2=> ?_⟩
  obtain⟨t2',r2',s2',E2',q2'⟩:=q2 v2 r2;unfold gO at q2'
  split at q2'
  ·rename_i ks' vs' k heq hk
   cases heq;obtain⟨b,f1,f2⟩:=jO hk r2'
   have g:=jT (k:=k) e4 (e5.same s2');refine⟨iY kvs k,by rw[f1];exact DGet.Jo (Rd.Jh (P:=wY) (SameO.of s2') (λz=>z) e3) f2,?_⟩
   cases hx:jv ks vs k with
   | some z=>
    rw[hx]at g q2';obtain⟨w,g1,g2⟩:=g;rw[g1]
    exact q2' H2 (Same.refl H2) w g2
   | none=>
    rw[hx]at g q2';rw[g];exact q2' H2 (Same.refl H2) .non Rep.Jl
  ·exact q2'.elim
 | _=>exact q'.elim
theorem E6 (hu:X.A.units+1<cLine):OpT X (KC .In) Ax:=by
 intro pins s σ H O x y vx vy ux uy Q I hf rx ry r1 r2 hp;unfold Ax at hp
 split at hp
 ·rename_i ks vs k hk
  obtain⟨c,kvs,e1,e2,e3,e4,e5⟩:=Rep.GE.mp ry;obtain⟨b,f1,f2⟩:=jO hk rx;subst e1 f1;obtain rfl:uy=Kb c:=r2
  have g:=jT (k:=k) e4 e5
  have hsome:(jv ks vs k).isSome=(iY kvs k).isSome:=by
   cases hx:jv ks vs k with
   | some z=>rw[hx]at g;obtain⟨w,g1,_⟩:=g;rw[g1];rfl
   | none=>rw[hx]at g;rw[g];rfl
  refine d_in hu I (DGet.Jo e3 f2) r1 λs' I'=>⟨.bl _,H,I',rfl,?_⟩
  rw[<-hsome];exact hp H (Same.refl H) _ (Rep.bl_ _)
 ·exact hp.elim
end
end Tr
namespace Tr
open PySem PySem.Spec PyProof.Rows L2
section
variable {X:Cx}{a b c:Expr}{fa fb fc:En->Rs T}{pos p2 p3 p4:Pos}{x:Str}
theorem Ei (i:Nat)(hu:X.A.units+1<cLine)(hb:b7 X b fb)(hc:b7 X c fc)(hN:autoParam (X.N[i]? =some x) u_)(hv:autoParam (xT X.env.scope x) v_)
  (hd:autoParam ((x == ("__debug__" : Str))=false) s_) (hcd:autoParam ((x == ("__classdict__" : Str))=false) s_)
  (hs:autoParam (Lz c (some (.Subscript (.Name x p2) b p3)) pos.line X.env=pure false) u_):nE X (.Assign [.Subscript (.Name x p2) b p3] c pos) (wK i fb fc):=by
 intro pins s σ H D I ⟨Z,B,M,E,h⟩;refine B0 hu (pC hN hv hd hcd) hb hc hs pins s σ H D I ?_
 unfold wK at h
 split at h
 ·rename_i ks vs hl
  obtain⟨v0,e1,d,kvs,rfl,hM,e3,e4,e5⟩:=E.env.own i _ hl;obtain⟨nd,nz⟩:=AA I e3;refine⟨Z,OO B M,E.o,?_⟩
  cases q:fc Z with
  | bad=>rw[q]at h;exact h.elim
  | err c=>rw[q]at h;exact PostF.xa h
  | ok vT=>
   rw[q,aB]at h;intro H1 s1 v r;refine⟨.ref d,e1,Z,OO B M,(E.same s1).o,?_⟩
   have h1:=h.later (SameO.of s1) (P1:=M.u) λa z=> .inl z
   cases q2:fb Z with
   | bad=>rw[q2]at h1;exact h1.elim
   | err c=>rw[q2]at h1;exact PostF.xa h1
   | ok kT=>
    rw[q2,aB]at h1;intro H2 s2 y ry
    cases q3:keyOf kT with
    | none=>rw[q3]at h1;exact h1.elim
    | some k=>
     rw[q3]at h1
     have h2:=h1.later (SameO.of s2) (P1:=M.u) λa z=> .inl z
     have hlen:ks.length=kvs.length:=by have:=congrArg MZ e4;simpa using this
     by_cases hz:ks.length<1000
     ·simp only[if_pos hz]at h2
      obtain⟨kb,f1,f2⟩:=jO q3 ry
      have e3':=s2 _ _ (s1 _ _ e3);obtain⟨g1,g2⟩:=mJ q3 (r.same s2) e4 ((e5.same s1).same s2) nd;refine⟨d,upd H2 d (.dT (du kvs k v)),rfl,by rw[f1];exact DPut.t e3' f2 (by rw[Me];omega),?_⟩
      have sm:SameO (M i) H2 (upd H2 d (.dT (du kvs k v))):=λc u e nb=>by rw[aQ (λz=>nb ((hM c).mpr z))];exact e
      obtain⟨g3,g4⟩:=((E.same s1).same s2).put (o':=.dct (fB kT vT ks vs).1 (fB kT vT ks vs).2) hl e1 sm ⟨d,_,rfl,hM,bc,g1,g2.move (P:=M i) (λa z=> .inl (.inr ⟨i,z⟩)) (λa z=> .inl z) sm⟩
      exact h2 σ _ M g4 g3 λc z=> .inl z
     ·simp only[if_neg hz]at h2
      exact h2.elim
 ·exact h.elim
end
end Tr
namespace PySem
open Sem (wp)
namespace F
theorem lk_list_keys:R0 (.type "list") "keys" =pure none:=by rw[O0,Nb];kernel_rfl
theorem lk_list_getattr:R0 (.type "list") "__getattr__" =pure none:=by rw[O0,Nb];kernel_rfl
end F
section
variable {prog:J9}{w:Kx}{A:Km}{E:JK->JL->Prop}{h:Heap}{g:Array SI}{d:Drawn}{t:Nat}{os:PX}{a:Addr}{its:Array JK}{n:Nat}
theorem kY {tk:Tok}{Q:Fin->JL->Prop}(hx:h.get? a=some { cls:=.type "list",data:=.seq its n })(hh:A.handled=none)
  (hq:∀h' tk' e,SR h h' e (.ref a) "keys"->E (.ref e) ⟨h',g,d,tk',os⟩) :
  wpAny (model prog w) A (Builtin.«object.__getattribute__» ⟨[.ref a,.str "keys" tk],[]⟩) Q E ⟨h,g,d,t,os⟩:=by
 have hT:(⟨h,g,d,t,os⟩:JL).TypeIs (.ref a) "list":=⟨_,hx,rfl⟩
 have f4:=F.lk_list_keys
 repeat (any_goals (first | assumption | wp_step))
 exact wpAny_raiseAttrError hh (λh' tk e hx=>hq h' tk e hx) (attrMsg_fits (by decide+kernel) (by rw[Me];decide))
theorem mr {tk:Tok}{R:S4->JL->Prop}(hx:h.get? a=some { cls:=.type "list",data:=.seq its n })(hh:A.handled=none)
  (hq:∀h' tk' e,SR h h' e (.ref a) "keys"->R (.error (.ref e)) ⟨h',g,d,tk',os⟩) :
  codeAny (model prog w) A (.call (.builtin "list.__getattribute__") ⟨[.ref a,.str "keys" tk],[]⟩) R ⟨h,g,d,t,os⟩:=
 QJ MB.plain F.entry_list_ga (MB.check _ _ _ _ _ _ _ _ (show(⟨h,g,d,t,os⟩:JL).TypeIs (.ref a) "list" from⟨_,hx,rfl⟩) (F.args_list_getattribute_2 _ _) (kY hx hh hq))
theorem mw {Q:Option JK->JL->Prop}(hx:h.get? a=some { cls:=.type "list",data:=.seq its n })(hh:A.handled=none)
  (hq:∀h' tk',(∀b o,h.get? b=some o->h'.get? b=some o)->Q none ⟨h',g,d,tk',os⟩):wpAny (model prog w) A (getAttr? (.ref a) "keys") Q E ⟨h,g,d,t,os⟩:=by
 have hT:∀tk,(⟨h,g,d,tk,os⟩:JL).TypeIs (.ref a) "list":=λ_=>⟨_,hx,rfl⟩
 have f1:=sub_AttributeError
 have f2:=MB.lookup
 have f3:=MB.bind (.ref a)
 have f5:=F.lk_list_getattr;unfold getAttr? getAttrBy? getAttrBy
 repeat (any_goals (first | assumption | exact hT _ | wp_step))
 refine mr hx hh λh' tk' e hx'=> ?_
 obtain⟨t',u',he⟩:=hx'.there
 repeat (any_goals (first | assumption | exact hT _ | wp_step))
 exact hq _ _ hx'.keeps
end
end PySem
namespace PySem.F
theorem entry_dict_update_loop:entryFor table "dict.update.loop" =some Builtin.«dict.update.loop»:=SE (by kernel_rfl)
theorem plain_dict_update_loop:plainId "dict.update.loop" =true:=by decide+kernel
end PySem.F
namespace Tr
open PySem PySem.Spec PyProof.Rows L2
def gX (kvs:List (List Key×V)):List (List Key×V)->List (List Key×V)
 | [] =>kvs
 | p::ps=>gX (du kvs p.1 p.2) ps
def PairsAt (H:Hp):List V->List (List Key×V)->Prop
 | [],ps=>ps= []
 | x::xs,ps=> ∃b kb p r,ps=p::r/\x= .ref b/\H b=some (.tup [.ref kb,p.2])/\H kb=some (.tup (p.1.map kV))/\PairsAt H xs r
theorem PairsAt.upd {H:Hp}{d:Addr}{kvs:List (List Key×V)}{o:HO}(hd:H d=some (.dT kvs)):∀{xs:List V} {ps:List (List Key×V)},PairsAt H xs ps->PairsAt (L2.upd H d o) xs ps
 | [],_,h=>h
 | x::xs,_,⟨b,kb,p,r,e1,e2,e3,e4,e5⟩=>⟨b,kb,p,r,e1,e2,by rw[aQ (rV e3 hd (λz=>nomatch z))];exact e3,by rw[aQ (rV e4 hd (λz=>nomatch z))];exact e4,e5.upd hd⟩
theorem oQ {H:Hp}{d:Addr}{a b:HO}:upd (upd H d a) d b=upd H d b:=by
 funext c
 by_cases h:c=d
 ·rw[h,bc,bc]
 ·rw[aQ h,aQ h,aQ h]
section
variable {X:Cx}{pins:List (Addr×Obj)}{σ:L2.St}{A:Km}{res:JK}{R:S4->JL->Prop}{d l it:Addr}{xs:List V}
theorem xC (hh:A.handled=none)(hu:A.units+3<cLine):∀(k i:Nat) (s:JL) (H:Hp) (kvs ps:List (List Key×V)),xs.length - i=k->i<=xs.length->H l=some (.lst xs)->H d=some (.dT kvs)->kvs.length+(xs.length - i)<=1000->Inv X pins σ H s->s.heap.IsListIter it l i->k7 X pins H it->PairsAt H (xs.drop i) ps →
  (∀s',Inv X pins σ (upd H d (.dT (gX kvs ps))) s'->R (.ok (.ret res)) s')->codeAny (model X.prog X.w) A (.builtin "dict.update.loop" ⟨[.ref d,.ref it,rawInt i,res],[]⟩) R s:=by
 intro k
 induction k with
 | zero=>
  intro i s H kvs ps hk hi hl hd hz I hit hf hp hR;refine KS F.entry_dict_update_loop ?_
  rw[Kq F.plain_dict_update_loop _];obtain⟨z,its,n,r,hlen,e⟩:=I.IT hl
  have hL:s.heap.IsList l its.toArray:=⟨_,e,rfl,n,rfl⟩
  show wpAny _ A.in1 (pyNext (.ref it) >>= _) _ _ s
  refine JG (Qu hh hit hL (by simp;omega) λh' hm=> ?_)
  show wpAny _ _ (Builtin.Dict.addKeywords d [] >>= _) _ _ _
  refine JG (JN (JN ?_))
  have hnil:xs.drop i= []:=NW (by omega)
  rw[hnil]at hp;unfold PairsAt at hp;subst hp
  have e2:upd H d (.dT (gX kvs []))=H:=by
   funext b
   by_cases hb:b=d
   ·rw[hb,bc,hd];rfl
   ·rw[aQ hb]
  rw[e2]at hR
  exact hR _ (I.IS (fp:=[it]) (t':=s.toks) (λb hb=>by rw[JX.mp hb];exact hf) λb o hb eb=>hm b o (λz=>hb (by rw[z];exact JX.mpr rfl)) eb)
 | succ k ih=>
  intro i s H kvs ps hk hi hl hd hz I hit hf hp hR;refine KS F.entry_dict_update_loop ?_
  rw[Kq F.plain_dict_update_loop _];obtain⟨z,its,n,r,hlen,e⟩:=I.IT hl
  have hL:s.heap.IsList l its.toArray:=⟨_,e,rfl,n,rfl⟩
  have hlt:i<xs.length:=by omega
  have hlt':i<its.length:=by omega
  show wpAny _ A.in1 (pyNext (.ref it) >>= _) _ _ s
  refine JG (Qh hit hL (x:=its[i]) (by simp[hlt']) λh' hit' hm=> ?_)
  have I1:Inv X pins σ H { s with heap:=h' }:=I.IS (fp:=[it]) (t':=s.toks) (λb hb=>by rw[JX.mp hb];exact hf) λb o hb eb=>(hm.2 b (λz=>hb (by rw[z];exact JX.mpr rfl))).trans eb
  have hdrop:xs.drop i=xs[i] ::xs.drop (i+1):=Mr hlt;rw[hdrop]at hp;obtain⟨b,kb,p,r',rfl,ex,hb,hkb,hp'⟩:=hp
  have rx:RelV xs[i] its[i]:=by
   obtain⟨u,q1,q2⟩:=r.get (JU hlt)
   rw[JU hlt']at q1
   cases q1;exact q2
  rw[ex]at rx
  have eu:its[i] =Kb b:=rx;rw[eu];obtain⟨z2,its2,r2,ob,hob1,hob2,nb,hob3⟩:=(show ObjOk X.prog X.w H h' b (.tup [.ref kb,p.2])from I1.hok b _ hb)
  obtain⟨u1,us1,q1,rfl⟩:∃u1 us1,RelV (V.ref kb) u1/\its2=u1::us1:=by cases r2 with | cons a b=>exact⟨_,_,a,rfl⟩
  cases r2 with
  | cons ra rb=>
   obtain⟨u2,q2,rfl⟩:∃u2,RelV p.2 u2/\us1= [u2]:=by cases rb with | cons a b=>cases b;exact⟨_,a,rfl⟩
   obtain rfl:u1=Kb kb:=q1
   show wpAny _ A.in1 (holding [Kb b] _ >>= _) _ _ _
   refine JG (Lk ?_)
   refine JG (L8 ?_)
   unfold Builtin.Dict.pairItems;refine JG (NG (s:={ s with heap:=h' }) (T:="tuple") ⟨ob,hob1,hob2⟩ ?_)
   rw[if_pos (by decide)]
   refine JG (KJ (s:={ s with heap:=h' }) hob1 hob3 (JN ?_))
   show wpAny _ _ (holding [Kb kb,u2] (dictSet d (.ref kb) u2)) _ _ _
   refine Lk ?_
   obtain⟨zz,hds,xs2,rel,dd⟩:=As I1.hok hd
   have hzl:xs2.length<=sizeLine:=by rw[<-PU rel];exact zz
   have hkl:kvs.length<sizeLine:=by rw[Me];omega
   have hl2:(du kvs p.1 p.2).length<=sizeLine:=by have:=fN kvs p.1 p.2;omega
   refine wpAny_dictSet_heap (hsz:=hzl) (MY (by show A.units+1<cLine;omega)) (key_of I1.hok hkb) dd λh2 dd2 hs2=> ?_
   obtain⟨q,es,ep,hq,h22,h3,h4,_,h5⟩:=dd2
   have I2:Inv X pins σ (upd H d (.dT (du kvs p.1 p.2))) { s with heap:=h2,toks:=s.toks+(PK (b8 X.prog X.w)).draws p.1 }:=
    qt (s:={ s with heap:=h' }) I1 (by rw[hd];exact Nd) hs2 ⟨q,hq⟩ ⟨hl2,hds,_,(rel.put p.1 hkb q2).keeps λc ys ec=>by rw[aQ (rV ec hd (λz=>nomatch z))];exact ec,q,es,ep,hq,h22,h3,h4,h5⟩
   have hld:l≠d:=rV hl hd (λz=>nomatch z)
   have hitd:it≠d:=λz=>by have:=hf.1;rw[z,hd]at this;cases this
   have hcast:(i:Int)+1=((i+1:Nat):Int):=by omega
   refine JN ⟨Ll F.plain_dict_update_loop _,?_⟩
   rw[hcast];refine ih (i+1) _ (upd H d (.dT (du kvs p.1 p.2))) (du kvs p.1 p.2) r' (by omega) (by omega) (by rw[aQ hld];exact hl) bc (by have:=fN kvs p.1 p.2;omega) I2 ?_ ⟨by rw[aQ hitd];exact hf.1,hf.2⟩ (hp'.upd hd) λs' I'=> ?_
   ·obtain⟨oi,ho1,ho2,ho3⟩:=hit'
    exact⟨oi,(hs2.2 it hitd).trans ho1,ho2,ho3⟩
   ·rw[oQ]at I'
    exact hR s' I'
end
theorem PairsAt.same {H H':Hp}(s:Same H H'):∀{xs:List V} {ps:List (List Key×V)},PairsAt H xs ps->PairsAt H' xs ps
 | [],_,h=>h
 | x::xs,_,⟨b,kb,p,r,e1,e2,e3,e4,e5⟩=>⟨b,kb,p,r,e1,e2,s _ _ e3,s _ _ e4,e5.same s⟩
section
variable {X:Cx}{pins:List (Addr×Obj)}{σ:L2.St}{A:Km}{E:JK->JL->Prop}{H:Hp}{s:JL}{l:Addr}{xs:List V}{ps:List (List Key×V)}
theorem sS {Q:JK->JL->Prop}(hh:A.handled=none)(hu:A.units+8<cLine)(I:Inv X pins σ H s)(hl:H l=some (.lst xs))(hz:xs.length<=1000)(hp:PairsAt H xs ps)
  (h:∀p s',Nw X.K H p->Inv X pins σ (upd H p (.dT (gX [] ps))) s'->Q (.ref p) s'):wpAny (model X.prog X.w) A (call (.type "dict") [.ref l]) Q E s:=by
 have hk:X.K.lookup s.heap.objs.size=none:=by
  cases q:X.K.lookup s.heap.objs.size with
  | none=>rfl
  | some o=>exact absurd (JV (I.kIn _ o q)) (Ki _)
 have hn:H s.heap.objs.size=none:=I.hok.fresh (JW _)
 have hlp:l≠s.heap.objs.size:=λz=>by rw[z,hn]at hl;cases hl
 refine callType_codes (Q₁:=λobj s₁=>obj= .ref s.heap.objs.size/\s₁= { s with heap:=s.heap.push { cls:=.type "dict",data:=.dict #[] } }) F.kt_called_dict (F.kt_typeCall_dict_1 _) F.entry_dict_init (kt_code_dict_new _ ⟨rfl,rfl⟩) ?_
 rintro obj s₁ ⟨rfl,rfl⟩
 have I1:Inv X pins σ (upd H s.heap.objs.size (.dT [])) { s with heap:=s.heap.push { cls:=.type "dict",data:=.dict #[] } }:=I.laid (a:=s.heap.objs.size) (o:=.dT []) (t':=s.toks) (λ_ _ q=>JI _ q) (JW _) (Au s.heap I.big)
 have hT:({ s with heap:=s.heap.push { cls:=.type "dict",data:=.dict #[] } }:JL).TypeIs (.ref s.heap.objs.size) "dict":=⟨_,JS _ rfl,rfl⟩
 have hl1:upd H s.heap.objs.size (.dT []) l=some (.lst xs):=by rw[aQ hlp];exact hl
 obtain⟨z,its,n,r,hlen,e⟩:=I1.IT hl1;refine⟨hT,F.args_dict_init_2 _ _,?_⟩
 unfold Builtin.«dict.__init__»;refine JG ?_
 unfold Builtin.Dict.selfAndRest;refine JG (wpAny_notOrdered_dict hT ?_)
 show wpAny _ _ (pure (s.heap.objs.size,[Kb l])) _ _ _
 refine JN ?_
 show wpAny _ _ (PN "dict.__init__" s.heap.objs.size (.ref l) [] .none) _ _ _
 unfold PN;refine JG (NG (T:="list") ⟨_,e,rfl⟩ ?_)
 rw[if_pos (by decide)]
 refine JG (mw e hh λh' tk' kp=> ?_)
 have I2:Inv X pins σ (upd H s.heap.objs.size (.dT [])) { s with heap:=h',toks:=tk' }:=I1.kept (t':=tk') kp
 rw[if_pos (by rfl)]
 refine JG (MR ?_)
 have eL:({ s with heap:=h',toks:=tk' }:JL).heap.IsList l its.toArray:=⟨_,kp _ _ e,rfl,n,rfl⟩
 refine JG (Nk eL ?_)
 have I3:Inv X pins σ (upd H s.heap.objs.size (.dT [])) { s with heap:=h'.push { cls:=.type "list_iterator",data:=.fields #[.ref l,.int 0 0] },toks:=tk' }:=I2.kept (t':=tk') λb u q=>JI _ q
 have hpl:s.heap.objs.size<h'.objs.size:=JV (kp _ _ (JS _ rfl))
 have hni:upd H s.heap.objs.size (.dT []) h'.objs.size=none:=by
  rw[aQ (LV hpl)];exact I.hok.fresh (LU hpl)
 have hp1:PairsAt (upd H s.heap.objs.size (.dT [])) xs ps:=hp.same (aU hn _);refine JN ⟨Ll F.plain_dict_update_loop _,?_⟩
 refine xC (A:=A.in1) (X:=X) (pins:=pins) (σ:=σ) (l:=l) (xs:=xs) (it:=h'.objs.size) hh (by show A.units+1+3<cLine;omega) xs.length 0 _ (upd H s.heap.objs.size (.dT [])) [] ps (by omega) (KY _) hl1 bc (by simp;omega) I3 ⟨_,JS _ rfl,rfl,rfl⟩ (I2.IZ (JW _) hni) hp1 λs' I'=> ?_
 rw[oQ]at I';exact⟨rfl,h _ _ ⟨hn,hk⟩ I'⟩
end
theorem hu8 {k:Nat}{A:Km}(h:Room k A):A.units+8<cLine:=by have:=h.un;omega
theorem ui {kvs:List (List Key×V)}{k:List Key}{v:V}(h:(kvs.map (·.1)).Nodup):((du kvs k v).map (·.1)).Nodup:=by
 unfold du
 by_cases a:(kvs.any λkv=>decide (kv.1=k))=true
 ·rw[if_pos a,Lc]
  have:((λx=>x.1)∘λkv:List Key×V=>if kv.1=k then(kv.1,v)else kv)=λx=>x.1:=by
   funext x
   show(if x.1=k then(x.1,v)else x).1=x.1
   by_cases e:x.1=k
   ·rw[if_pos e]
   ·rw[if_neg e]
  rw[this];exact h
 ·rw[if_neg a,Ld,LJ]
  refine⟨h,by simp,λx hx y hy=> ?_⟩
  simp only[JP,Oe,JX]at hy;subst hy;intro z;subst z;obtain⟨p,hp,e⟩:=J5.mp hx;exact a (Nv.mpr ⟨p,hp,decide_eq_true e⟩)
def IF (K:JH)(O:Ow)(H:Hp):List (T×T)->List (List Key×V)->Prop
 | [],ps=>ps= []
 | a::l,ps=> ∃p r,ps=p::r/\keyOf a.1=some p.1/\Rep K O H a.2 p.2/\IF K O H l r
theorem kx {K:JH}{O:Ow}{H:Hp}:∀{l:List (T×T)} {ps:List (List Key×V)} {ks ts:List T} {kvs:List (List Key×V)},IF K O H l ps->ks.map keyOf=kvs.map (λp=>some p.1)->Reps K O H ts (kvs.map (·.2))->(kvs.map (·.1)).Nodup →
  (fA l (ks,ts)).1.map keyOf=(gX kvs ps).map (λp=>some p.1)/\Reps K O H (fA l (ks,ts)).2 ((gX kvs ps).map (·.2))
 | [],ps,ks,ts,kvs,h,h1,h2,hn=>by unfold IF at h;subst h;exact⟨h1,h2⟩
 | (a,b)::l,ps,ks,ts,kvs,h,h1,h2,hn=>by
  obtain⟨p,r,rfl,e1,e2,e3⟩:=h;obtain⟨g1,g2⟩:=mJ (vT:=b) e1 e2 h1 h2 hn
  show(fA l (fB a b ks ts)).1.map keyOf=(gX (du kvs p.1 p.2) r).map (λp=>some p.1)/\Reps K O H (fA l (fB a b ks ts)).2 ((gX (du kvs p.1 p.2) r).map (·.2))
  exact kx (l:=l) e3 g1 g2 (ui hn)
theorem pz {K:JH}{O:Ow}{H:Hp}:∀{l:List T} {tps:List (T×T)} {xs:List V},Ds l=some tps->Reps K O H l xs->∃ps,PairsAt H xs ps/\IF K O H tps ps
 | [],tps,xs,h,r=>by cases Reps.AC.mp r;cases h;exact⟨[],rfl,rfl⟩
 | t::l,tps,xs,h,r=>by
  obtain⟨v,ws,rfl,p,q⟩:=Reps.me.mp r;unfold Ds at h
  split at h
  ·rename_i heq;cases heq
  ·rename_i k v' l' heq
   cases heq
   split at h
   ·rename_i kk rr hk hr
    cases h;obtain⟨ps,g1,g2⟩:=pz hr q;obtain⟨b,vs,e1,e2,e3,e4⟩:=Rep.Da.mp p;obtain⟨u1,us1,rfl,f1,f2⟩:=Reps.me.mp e4;obtain⟨u2,us2,rfl,f3,f4⟩:=Reps.me.mp f2;cases Reps.AC.mp f4;obtain⟨kb,f5,f6⟩:=jO hk f1;subst f5;exact⟨(kk,u2)::ps,⟨b,kb,(kk,u2),ps,rfl,e1,e3,f6,g1⟩,⟨(kk,u2),ps,rfl,hk,f3,g2⟩⟩
   ·cases h
  ·cases h
section
variable {X:Cx}{e:Expr}{f:En->Rs T}{x y:Str}{p pos p2 p3:Pos}
theorem CY (hu:X.A.units+8<cLine)(hc:X.calm=true):CallT X (.type "dict") jS:=by
 intro pins s σ H O ts vs us Q I hf rs rv hp;unfold jS at hp
 split at hp
 ·rename_i l
  obtain⟨v,rfl,r⟩:=rs.one;obtain⟨a,xs,rfl,e2,e3,e4⟩:=Rep.Fk.mp r;obtain⟨u,rfl,ru⟩:=rv.one;obtain rfl:u=Kb a:=ru
  split at hp
  ·rename_i tps hps
   by_cases hz:l.length<=1000
   ·rw[if_pos hz]at hp
    obtain⟨ps,g1,g2⟩:=pz hps e4;refine sS (I.ok.hd hc) hu I e3 (by rw[<-e4.length];exact hz) g1 λq s' nw I'=>⟨.ref q,_,I',rfl,hp _ (aU nw.1 _) _ ?_⟩
    obtain⟨k1,k2⟩:=kx (ks:=[]) (ts:=[]) (kvs:=[]) g2 rfl Reps.II MP;exact Rep.GE.mpr ⟨q,_,rfl,hf q nw.1,.inl bc,k1,k2.same (aU nw.1 _)⟩
   ·rw[if_neg hz]at hp;exact hp.elim
  ·exact hp.elim
 ·exact hp.elim
def DW (X:Cx)(f:En->Rs T):TE:=λσ H Q=>tP X f σ H λv H'=> ∃a xs ps,v= .ref a/\H' a=some (.lst xs)/\xs.length<=1000/\PairsAt H' xs ps/\∀q,Nw X.K H' q->Q (.ref q) (upd H' q (.dT (gX [] ps)))
theorem zd (hu:X.A.units+8<cLine)(hc:X.calm=true)(hm:X.mg "dict" =none)(ha:b7 X e f)(hg:Gl X "dict")(hs:bL e=true):PE X (.Call (.Name "dict" p) [e] [] pos) (DW X f):=by
 have h1:Kc [e] X.env=(false,eval e X.env)::Kc [] X.env:=bf hs;intro pins s σ H Q I hq;refine LB (fQ I hg hm (show Ky "dict" =some (.type "dict")by decide+kernel) ?_ (by decide) (by decide))
 refine K9 (bV (iF (te:=tP X f) ha lR h1 pos pins s σ H (λxs H'=> ∃v,xs= [v]/\∃a xs ps,v= .ref a/\H' a=some (.lst xs)/\xs.length<=1000/\PairsAt H' xs ps/\∀q,Nw X.K H' q->Q (.ref q) (upd H' q (.dT (gX [] ps)))) I ?_) λus s1 hh=> ?_) h1 rfl
 ·obtain⟨Z,O,E,h⟩:=hq
  exact⟨Z,O,E,Post.mono h λt H' _ g v r=>⟨v,rfl,g v r⟩⟩
 ·obtain⟨vs,H1,I1,r1,v,rfl,a,xs,ps,ev,e1,e2,e3,e4⟩:=hh
  subst ev;obtain⟨u,rfl,ru⟩:=r1.one;obtain rfl:u=Kb a:=ru;exact sS (I1.ok.hd hc) hu I1 e1 e2 e3 λq s' nw I'=>⟨.ref q,_,I',rfl,e4 q nw⟩
theorem BF (i:Nat)(hu:X.A.units+8<cLine)(hc:X.calm=true)(hm:X.mg "dict" =none)(hN:X.N.Nodup)(ha:b7 X e f)(hst:autoParam (bL e=true) u_)(hg:autoParam (Gl X "dict") u_)(hi:autoParam (X.N[i]? =some x) u_)(hx:autoParam (Loc X.env.scope x) y_)(hs:autoParam (Lz (.Call (.Name "dict" p) [e] [] p2) (some (.Name x p3)) pos.line X.env=pure false) u_)
  (hf:autoParam (X.fn x=true\/X.env.scope.names.lookup x=some .local) r_):nE X (.Assign [.Name x p3] (.Call (.Name "dict" p) [e] [] p2) pos) (nN i f):=PS.imp (yU hN hi hx (zd hu hc hm ha hg hst) hs hf) λD σ H hh_=>by
 obtain⟨Z,B,M,E,h⟩:=hh_;refine⟨Z,OO B M,E.o,?_⟩
 unfold nN at h
 cases q:f Z with
 | bad=>rw[q]at h;exact h.elim
 | err c=>rw[q]at h;exact PostF.xa h
 | ok t=>
  rw[q,aB]at h;intro H1 s1 v r
  have h1:=h.later (SameO.of s1) (P1:=M.u) λa z=> .inl z
  cases t with
  | lst l=>
   obtain⟨a,xs,rfl,e2,e3,e4⟩:=Rep.Fk.mp r;unfold jS at h1
   split at h1
   ·rename_i l' heq
    cases heq
    split at h1
    ·rename_i tps hps
     by_cases hz:l.length<=1000
     ·rw[if_pos hz,aB]at h1
      obtain⟨ps,g1,g2⟩:=pz hps e4;refine⟨a,xs,ps,rfl,e3,by rw[<-e4.length];exact hz,g1,λnd nw=> ?_⟩
      by_cases hl:i<Z.length
      ·simp only[if_pos hl]at h1
       have hm:∀a,a=nd->Nw X.K H1 a:=λa z=>z▸nw
       obtain⟨k1,k2⟩:=kx (ks:=[]) (ts:=[]) (kvs:=[]) g2 rfl Reps.II MP;obtain⟨E2,sub⟩:=(E.same s1).new (m:=λa=>a=nd) (o:=.dct (fA tps ([],[])).1 (fA tps ([],[])).2) (v:=.ref nd) (H':=upd H1 nd (.dT (gX [] ps))) hl hm (aU nw.1 _) ⟨nd,_,rfl,λb=>Oo,bc,k1,(k2.more (Ev.subO hm)).same (aU nw.1 _)⟩
       exact h1 _ _ _ (SameO.of (aU nw.1 _)) E2 sub
      ·simp only[if_neg hl]at h1;exact h1.elim
     ·rw[if_neg hz]at h1;exact h1.elim
    ·exact h1.elim
   ·rename_i hno
    exact(hno l rfl).elim
  | _=>exact h1.elim
end
theorem cp {K:JH}{O:Ow}{H:Hp}:∀{l:List T} {ns:List Int} {xs:List V} {us:List JK},eQ l=some ns->Reps K O H l xs->Vals xs us->Lj us ns
 | [],ns,xs,us,h,r,v=>by cases Reps.AC.mp r;cases v;cases h;exact .nil
 | t::l,ns,xs,us,h,r,v=>by
  obtain⟨w,ws,rfl,p,q⟩:=Reps.me.mp r
  cases v with
  | cons v1 v2=>
   cases t with
   | int i=>
    unfold eQ at h;obtain⟨m,h1,rfl⟩:=MU.mp h;cases Rep.Do.mp p;obtain⟨k,rfl⟩:=v1
    exact .cons _ _ (cp h1 q v2)
   | _=>cases h
section
variable {X:Cx}
theorem F8 (hc:X.calm=true):CallT X (.builtin "sum") tO:=by
 intro pins s σ H O ts vs us Q I hf rs rv hp;unfold tO at hp
 split at hp
 ·rename_i l
  obtain⟨v,rfl,r⟩:=rs.one
  split at hp
  ·rename_i ns hk
   obtain⟨a,ws,rfl,n,q,z⟩:=Rep.Fk.mp r;obtain⟨u,rfl,ru⟩:=ja rv;cases ru;obtain⟨its,r',pl,hz⟩:=I.list (SqL.of q)
   have hi:=cp hk z r';obtain⟨xs,e⟩:=hi.allInts.items
   have hns:ns=xs.toList.map (·.1):=by rw[<-hi.numsOf,<-nums_intItems,<-e]
   have hl:s.heap.IsList a (QB xs):=by rw[<-e];exact pl.isList
   refine sum_intListG (I.ok.hd hc) hl λh' tk t' hk'=>⟨.int _,H,I.kept (t':=tk) hk',⟨_,rfl⟩,?_⟩
   have:preSum (numAt xs) xs.size=ns.sum:=by rw[hns,preSum_eq,NX (by simp)]
   rw[this];exact hp H (Same.refl H) _ (Rep.GM _)
  ·exact hp.elim
 ·exact hp.elim
end
end Tr
namespace Tr
def w9 (x y:T):Rs T:=match x,y with
 | .tup l,.tup m=>match eQ l,eQ m with
  | some ns,some ms=> .ok (.bl (a7 ns ms))
  | _,_=> .bad
 | x,y=>Cp x y
def rowsT:List T->Option (List (List Int))
 | [] =>some []
 | .tup l::r=>match eQ l,rowsT r with
  | some ns,some k=>if ns= []then none else some (ns::k)
  | _,_=>none
 | _=>none
def ku (a b:List Int):Bool:=!a7 b a
def q0:List T->Rs T
 | [.lst l] =>match rowsT l with
  | some k=>if k.length<64 then .ok (.lst ((k.mergeSort ku).map λns=> .tup (ns.map .int)))else .bad
  | none=> .bad
 | _=> .bad
theorem dA:∀l,a7 l l=false
 | [] =>rfl
 | a::l=>by unfold a7;rw[if_pos rfl];exact dA l
theorem gy:∀a b c,a7 a b=true->a7 b c=true->a7 a c=true
 | [],[],_,h,_=>absurd h (by simp[a7])
 | _::_,[],_,h,_=>absurd h (by simp[a7])
 | [],_::_,[],_,h=>absurd h (by simp[a7])
 | [],_::_,_::_,_,_=>rfl
 | _::_,_::_,[],_,h=>absurd h (by simp[a7])
 | x::a,y::b,z::c,h,g=>by
  unfold a7 at h g ⊢
  by_cases e:x=y
  ·subst e
   rw[if_pos rfl]at h
   by_cases e2:x=z
   ·rw[if_pos e2]at g ⊢;exact gy a b c h g
   ·rw[if_neg e2]at g ⊢;exact g
  ·rw[if_neg e]at h
   by_cases e2:y=z
   ·subst e2;rw[if_neg e];exact h
   ·rw[if_neg e2]at g
    have h1:=of_decide_eq_true h
    have h2:=of_decide_eq_true g;rw[if_neg (by omega)]
    exact decide_eq_true (by omega)
theorem ia:∀a b,a7 a b=false->a7 b a=false->a=b
 | [],[],_,_=>rfl
 | [],_::_,h,_=>absurd h (by simp[a7])
 | _::_,[],_,h=>absurd h (by simp[a7])
 | x::a,y::b,h,g=>by
  unfold a7 at h g
  by_cases e:x=y
  ·subst e
   rw[if_pos rfl]at h g;rw[ia a b h g]
  ·rw[if_neg e]at h
   rw[if_neg (λz=>e z.symm)]at g
   have h1:=of_decide_eq_false h
   have h2:=of_decide_eq_false g;omega
theorem r6 (a b c:List Int)(h:a7 a c=true):a7 a b=true\/a7 b c=true:=by
 cases h1:a7 a b with
 | true=>exact .inl rfl
 | false=>
  cases h2:a7 b a with
  | true=>exact .inr (gy _ _ _ h2 h)
  | false=>rw[<-ia _ _ h1 h2];exact .inr h
theorem Fq (a b c:List Int)(h:ku a b=true)(g:ku b c=true):ku a c=true:=by
 unfold ku at*
 cases z:a7 c a with
 | false=>rfl
 | true=>
  rcases r6 c b a z with y | y
  ·rw[y]at g;cases g
  ·rw[y]at h;cases h
theorem Cv (a b:List Int):(ku a b||ku b a)=true:=by
 unfold ku
 cases z:a7 b a with
 | false=>rfl
 | true=>
  cases y:a7 a b with
  | false=>rfl
  | true=>have:=gy _ _ _ z y;rw[dA]at this;cases this
theorem sd (a b:List Int)(h:ku a b=true)(g:ku b a=true):a=b:=by
 unfold ku at h g;refine ia a b ?_ ?_
 ·cases z:a7 a b with
  | false=>rfl
  | true=>rw[z]at g;cases g
 ·cases z:a7 b a with
  | false=>rfl
  | true=>rw[z]at h;cases h
theorem yE {k m:List (List Int)}(p:m.Perm k)(s:m.Pairwise (λa b=>ku a b=true)):m=k.mergeSort ku:=
 Pu (le:=λa b=>ku a b=true) (λa b _ _ h g=>sd a b h g) s (List.pairwise_mergeSort Fq Cv k) (p.trans (MJ k ku).symm)
end Tr
namespace Tr
open PySem PySem.Spec PyProof.Rows L2
section
variable {X:Cx}
theorem pZ:∀(l m:List Int),HT.lexLt l m=a7 l m
 | [],[] =>rfl
 | [],_::_=>rfl
 | _::_,[] =>rfl
 | a::l,b::m=>by
  rw[HT.lexLt_cons,pZ l m]
  rfl
theorem E5 (hu:X.A.units<cLine):OpT X (KC .Lt) w9:=by
 intro pins s σ H O x y vx vy ux uy Q I hf rx ry r1 r2 hp;unfold w9 at hp
 split at hp
 ·rename_i l m
  split at hp
  ·rename_i ns ms h1 h2
   obtain⟨a,vs,rfl,_,e3,e4⟩:=Rep.Da.mp rx;obtain⟨b,ws,rfl,_,g3,g4⟩:=Rep.Da.mp ry;obtain rfl:ux=Kb a:=r1;obtain rfl:uy=Kb b:=r2;obtain⟨its,v1,t1,_⟩:=I.tuple (SqT.of e3);obtain⟨its2,v2,t2,_⟩:=I.tuple (SqT.of g3);refine HT.lt_tupInts t1 t2 (by simpa using cp h1 e4 v1) (by simpa using cp h2 g4 v2) hu ⟨.bl _,H,I,rfl,?_⟩
   rw[pZ];exact hp H (Same.refl H) _ (Rep.bl_ _)
  ·exact hp.elim
 ·exact rF pins s σ H O x y vx vy ux uy Q I hf rx ry r1 r2 hp
end
structure SrtB (k0:QC)(o:Array S7)(st:OU):Prop where
 p:(arrOf st).Perm o
 k:kindOf st=k0
 f:P2 st=none
 e:Nt st= #[]
theorem SrtB.len {k0:QC}{o:Array S7}{st:OU}(b:SrtB k0 o st):(arrOf st).size=o.size:=b.p.size_eq
theorem SrtB.arr {k0:QC}{o xs:Array S7}{st:OU}(b:SrtB k0 o st)(h:xs.Perm (arrOf st)):SrtB k0 o (setArr st xs):=⟨h.trans b.p,b.k,b.f,b.e⟩
def sZ (κ:KeyKind)(k0:QC)(prog:J9)(w:Kx)(A:Km)(s:JL):Prop:=
 ∀(E:JK->JL->Prop) (x y:JK) (a b:κ.α) (Q:Bool->JL->Prop),κ.keyOf x=some a->κ.keyOf y=some b->Q (κ.blt a b) s->wpAny (model prog w) A (keyLt' k0 x y) Q E s
abbrev gk (κ:KeyKind)(st:OU)(i:Nat):κ.α:=KK κ (arrOf st) i
theorem Bd {κ:KeyKind}{xs:Array S7}{n:Nat}(h:LG κ xs n)(hl:κ.kle (KK κ xs (n - 1)) (KK κ xs n)):LG κ xs (n+1):=λi j le lt=>by
 rcases Ml j n with z | z
 ·exact h i j le z
 ·obtain rfl:j=n:=by omega
  rcases Ml i j with y | y
  ·exact Os (h i (j - 1) (by omega) (by omega)) hl
  ·rw[show i=j by omega];exact M7 _
theorem lz {κ:KeyKind}{xs:Array S7}{n:Nat}(h:Q4 κ xs n)(hl:κ.kle (KK κ xs n) (KK κ xs (n - 1))):Q4 κ xs (n+1):=λi j le lt=>by
 rcases Ml j n with z | z
 ·exact h i j le z
 ·obtain rfl:j=n:=by omega
  rcases Ml i j with y | y
  ·exact Os hl (h i (j - 1) (by omega) (by omega))
  ·rw[show i=j by omega];exact M7 _
theorem yg {κ:KeyKind}{xs:Array S7}{n:Nat}(h:n<=1):LG κ xs n:=λi j le lt=>by rw[show i=j by omega];exact M7 _
theorem F4 {κ:KeyKind}{xs:Array S7}{n:Nat}(h:n<=1):Q4 κ xs n:=λi j le lt=>by rw[show i=j by omega];exact M7 _
section
variable {prog:J9}{w:Kx}{A:Km}{E:JK->JL->Prop}{s:JL}{κ:KeyKind}{k0:QC}{o:Array S7}{st:OU}
theorem Dl (b:SrtB k0 o st)(ks:KeysOf κ o){i:Nat}(hi:i<o.size):∃z,(arrOf st)[i]? =some z/\κ.keyOf z.1=some (gk κ st i):=by
 have h1:i<(arrOf st).size:=b.len▸hi;obtain⟨a,ha⟩:=ks _ ((Pb.mp b.p).mem_iff.mp (Array.getElem_mem_toList h1))
 have e:=getElem?_pos (arrOf st) i h1
 refine⟨_,e,?_⟩
 show _=some (KK κ (arrOf st) i)
 unfold KK;rw[e,ha];simp[ha]
theorem rf (c:sZ κ k0 prog w A s)(ks:KeysOf κ o)(b:SrtB k0 o st){i j:Nat}{Q:Option Bool->OU->Prop}(hi:i<o.size)(hj:j<o.size)(q:Q (some (κ.blt (gk κ st i) (gk κ st j))) st) :
  wpS (model prog w) A E s (ltAt' i j) Q st:=by
 obtain⟨⟨x,x2⟩,e1,k1⟩:=Dl b ks hi;obtain⟨⟨y,y2⟩,e2,k2⟩:=Dl b ks hj;rw[ltAt'_eq];refine K0 (S8 ?_)
 dsimp only
 rw[elem'_eq,elem'_eq,e1,e2];refine K0 (LQ (K0 (LQ ?_)))
 rw[lt'_eq];refine K0 (S8 ?_)
 rw[b.k];exact K0 (wpS_lift (NQ (c _ x y _ _ _ k1 k2 ⟨rfl,LQ q⟩)))
theorem Dk {a m:Nat}{Q:AscSt->OU->Prop}(c:sZ κ k0 prog w A s)(ks:KeysOf κ o)(b:SrtB k0 o st)(hm:m<=o.size)(h1:1<=a)(h2:a<=m)(so:LG κ (arrOf st) a)
  (q:∀n,a<=n->n<=m->LG κ (arrOf st) n->(n≠m->κ.klt (gk κ st n) (gk κ st (n - 1)))->Q (none,n) st):wpS (model prog w) A E s (ascLoop a m) Q st:=by
 unfold ascLoop;refine On (I:=λn r st'=>r=(none,n)/\st'=st/\LG κ (arrOf st) n) (λn r st' l1 l2 hI=> ?_) (λr st' hI=> ?_) ⟨rfl,rfl,so⟩
 ·obtain⟨rfl,rfl,sn⟩:=hI
  refine K0 (rf c ks b (JY l2 hm) (MX (RO _ _) (JY l2 hm)) ?_)
  cases z:κ.blt (gk κ st' n) (gk κ st' (n - 1))with
  | true=>exact LQ (q n l1 (LU l2) sn λ_=>z)
  | false=>exact LQ ⟨rfl,rfl,Bd sn z⟩
 ·obtain⟨rfl,rfl,sn⟩:=hI
  have e:max a m=m:=Ot h2;rw[e]at sn ⊢;exact q m h2 (JW _) sn λh=>absurd rfl h
theorem o8 {i j:Nat}{Q:Unit->OU->Prop}(b:SrtB k0 o st)(q:∀st',SrtB k0 o st'->arrOf st'=mirror (arrOf st) i j ((j - i) / 2)->Q () st'):wpS (model prog w) A E s (reverseSlice' i j) Q st:=by
 rw[reverseSlice'_eq];exact R3 (q _ (b.arr (mirror_perm _ _ _ _)) rfl)
abbrev AR (κ:KeyKind)(k0:QC)(o:Array S7)(m:Nat)(Q:Option Nat->OU->Prop):Prop:=∀n st',SrtB k0 o st'->1<=n->n<=m->LG κ (arrOf st') n->Q (some n) st'
theorem uY {n m:Nat}{Q:Option Nat->OU->Prop}(c:sZ κ k0 prog w A s)(ks:KeysOf κ o)(b:SrtB k0 o st)(hm:m<=o.size)(h1:1<=n)(h2:n<=m)(dn:Q4 κ (arrOf st) n)(q:AR κ k0 o m Q) :
  wpS (model prog w) A E s (tail3 n m) Q st:=by
 unfold tail3;refine K0 (o8 b λst' b' e=>K0 (Dk c ks b' hm h1 h2 (λi j le lt=> ?_) λk l1 l2 so _=>LQ (q k st' b' (by omega) l2 so)))
 have hz:n<=(arrOf st).size:=by rw[b.len];omega
 rw[e,KK_mirror hz,KK_mirror hz,if_pos ⟨KY _,by omega⟩,if_pos ⟨KY _,by omega⟩]
 exact dn _ _ (by omega) (by omega)
theorem pH {k i:Nat}(g1:k - 1<=i)(g2:i<k):i=k - 1:=SS (Ox g2) g1
theorem GF {n m:Nat}{Q:DescSt->OU->Prop}(c:sZ κ k0 prog w A s)(ks:KeysOf κ o)(b:SrtB k0 o st)(hm:m<=o.size)(h1:1<=n)(h2:n<=m)(dn:Q4 κ (arrOf st) n)
  (q:∀k r st',SrtB k0 o st'->n<=k->k<=m->Q4 κ (arrOf st') k->r+1<=k->(∀i,k - (r+1)<=i->i<k->gk κ st' i=gk κ st' (k - 1))->Q (none,k,r) st'):wpS (model prog w) A E s (descLoop n m) Q st:=by
 unfold descLoop
 refine On (I:=λk c st'=> ∃r,c=(none,k,r)/\SrtB k0 o st'/\Q4 κ (arrOf st') k/\r+1<=k/\∀i,k - (r+1)<=i->i<k->gk κ st' i=gk κ st' (k - 1)) (λk r st' l1 l2 hI=> ?_) (λr st' hI=> ?_)
  ⟨0,rfl,b,dn,h1,λi g1 g2=>by rw[pH g1 g2]⟩
 ·obtain⟨r,rfl,b',d',hr,eq⟩:=hI
  dsimp only
  have kk:=JY l2 hm
  have kp:k - 1<o.size:=MX (RO _ _) kk
  have hz:k<=(arrOf st').size:=by rw[b'.len];exact LU kk
  refine K0 (rf c ks b' kk kp ?_)
  cases z:κ.blt (gk κ st' k) (gk κ st' (k - 1))with
  | true=>
   have d2:=lz d' (Pz z)
   show wpS _ _ _ _ (if r > 0 then _ else _) _ _
   by_cases hr0:r > 0
   ·rw[if_pos hr0]
    refine K0 (o8 b' λst2 b2 e2=>LQ ⟨0,rfl,b2,λi j le lt=> ?_,P7 (KY _),λi g1 g2=>by rw[pH g1 g2]⟩)
    rw[e2,Mf hz eq,Mf hz eq];exact d2 i j le lt
   ·rw[if_neg hr0]
    exact LQ ⟨0,rfl,b',d2,P7 (KY _),λi g1 g2=>by rw[pH g1 g2]⟩
  | false=>
   refine K0 (rf c ks b' kp kk ?_)
   cases y:κ.blt (gk κ st' (k - 1)) (gk κ st' k)with
   | true=>exact LQ (q k r st' b' l1 (LU l2) d' hr eq)
   | false=>
    refine LQ ⟨r+1,rfl,b',lz d' y,P7 hr,λi g1 g2=> ?_⟩
    have e:gk κ st' k=gk κ st' (k - 1):=QV y z;rw[Nat.add_sub_cancel];rcases Ml i k with g3 | g3
    ·rw[e];exact eq i (by rw[Nat.add_sub_add_right]at g1;exact g1) g3
    ·rw[SS (Nf g2) g3]
 ·obtain⟨r,rfl,b',d',hr,eq⟩:=hI
  have e:max n m=m:=Ot h2;rw[e]at d' hr eq ⊢;exact q m r st' b' h2 (JW _) d' hr eq
theorem uZ {n m:Nat}{Q:Option Nat->OU->Prop}(c:sZ κ k0 prog w A s)(ks:KeysOf κ o)(b:SrtB k0 o st)(hm:m<=o.size)(h2:n+1<=m)(dn:Q4 κ (arrOf st) (n+1))(q:AR κ k0 o m Q) :
  wpS (model prog w) A E s (descPart n m) Q st:=by
 unfold descPart;refine K0 (wpS_lift (MR ⟨rfl,K0 (GF c ks b hm (by omega) h2 dn λk r st' b' l1 l2 d' hr eq=> ?_)⟩))
 dsimp only
 have hz:k<=(arrOf st').size:=by rw[b'.len];omega
 by_cases hr0:r > 0
 ·rw[if_pos hr0]
  refine K0 (o8 b' λst2 b2 e2=>uY c ks b2 hm (by omega) l2 (λi j le lt=> ?_) q)
  rw[e2,Mf hz eq,Mf hz eq];exact d' i j le lt
 ·rw[if_neg hr0]
  exact uY c ks b' hm (by omega) l2 d' q
theorem DZ {m:Nat}{Q:Option Nat->OU->Prop}(c:sZ κ k0 prog w A s)(ks:KeysOf κ o)(b:SrtB k0 o st)(hm:m<=o.size)(h1:1<=m)(q:AR κ k0 o m Q):wpS (model prog w) A E s (countRun' 0 m) Q st:=by
 rw[countRun0_eq];refine K0 (Dk c ks b hm (JW 1) h1 (yg (JW 1)) λn l1 l2 so lt=> ?_)
 dsimp only
 by_cases e:n=m
 ·rw[if_pos (beq_iff_eq.mpr e)]
  exact LQ (q n st b l1 l2 so)
 rw[if_neg (λz=>e (beq_iff_eq.mp z))]
 have fall:=Pz (lt e)
 by_cases g:n > 1
 ·rw[if_pos g]
  refine K0 (rf c ks b (by omega) (by omega) ?_)
  cases z:κ.blt (gk κ st 0) (gk κ st (n - 1))with
  | true=>exact LQ (q n st b l1 l2 so)
  | false=>
   have all:∀k,0<=k->k<n->gk κ st k=gk κ st (n - 1):=λk _ hk=>
    QV (so k (n - 1) (by omega) (by omega)) (Os (show κ.kle (gk κ st (n - 1)) (gk κ st 0)from z) (so 0 k (by omega) hk))
   have hz:n<=(arrOf st).size:=by rw[b.len];omega
   refine K0 (o8 b λst2 b2 e2=>uZ c ks b2 hm (by omega) (lz (λi j le lt=> ?_) ?_) q)
   ·rw[e2,Mf hz all,Mf hz all]
    show κ.kle (gk κ st j) (gk κ st i)
    rw[all i (KY _) (by omega),all j (KY _) (by omega)]
    exact M7 _
   ·rw[e2,Mf hz all,Mf hz all]
    exact fall
 ·rw[if_neg g]
  exact uZ c ks b hm (by omega) (lz (F4 (by omega)) fall) q
theorem Fm {l u:Nat}(h:l<u):l<=(l+u) / 2/\(l+u) / 2<u:=⟨by omega,by omega⟩
theorem FN {xs:Array S7}{k l:Nat}(hk:k<xs.size)(lk:l<=k)(so:LG κ xs k)(lo:∀i,i<l->κ.kle (KK κ xs i) (KK κ xs k))(hi:∀i,l<=i->i<k->κ.klt (KK κ xs k) (KK κ xs i)):LG κ (bubble xs k (k - l)) (k+1):=λi j le lt=>by
 rw[KK_bubble hk (RO _ _),KK_bubble hk (RO _ _),Nat.sub_sub_self lk]
 have lt:=Nf lt;rcases N5 i l with i1 | i1 | i1
 ·rw[if_neg (J7 i1),if_neg λz=>Nat.lt_asymm z.1 i1]
  rcases N5 j l with j1 | j1 | j1
  ·rw[if_neg (J7 j1),if_neg λz=>Nat.lt_asymm z.1 j1];exact so _ _ le (JY j1 lk)
  ·rw[if_pos j1];exact lo i i1
  ·rw[if_neg (LV j1),if_pos ⟨j1,lt⟩];exact so _ _ (Ox (L6 i1 j1)) (JY (Oy j1) lt)
 ·rw[if_pos i1]
  rcases Nat.lt_or_eq_of_le (i1▸le:l<=j)with j1 | j1
  ·rw[if_neg (LV j1),if_pos ⟨j1,lt⟩];exact Pz (hi _ (Ox j1) (JY (Oy j1) lt))
  ·rw[if_pos j1.symm];exact M7 _
 ·have j1:=JY i1 le
  rw[if_neg (LV i1),if_pos ⟨i1,Kf le lt⟩,if_neg (LV j1),if_pos ⟨j1,lt⟩];exact so _ _ (Nat.sub_le_sub_right le 1) (JY (Oy j1) lt)
theorem D1 {n a:Nat}{Q:Bool->OU->Prop}(c:sZ κ k0 prog w A s)(ks:KeysOf κ o)(b:SrtB k0 o st)(h1:1<=n)(hn:n<=o.size)(ha:a<=n)(so:LG κ (arrOf st) a)
  (q:∀st',SrtB k0 o st'->LG κ (arrOf st') n->Q true st'):wpS (model prog w) A E s (binarySort' 0 n a) Q st:=by
 rw[binarySort'_eq];simp only[Pf];refine K0 (On (I:=λk r st'=>r=(none,())/\SrtB k0 o st'/\LG κ (arrOf st') k) (λk r st1 l1 l2 hI=> ?_) (λr st1 hI=> ?_) ⟨rfl,b,?_⟩)
 ·obtain⟨rfl,b1,so1⟩:=hI
  have hk:k<o.size:=JY l2 hn
  refine K0 (wpS_mono (On (I:=λx r st2=>st2=st1/\∃l u,r=(none,l,u)/\l<=u/\u<=k/\u<=k+l - x/\(∀i,i<l->κ.kle (gk κ st1 i) (gk κ st1 k))/\∀i,u<=i->i<k->κ.klt (gk κ st1 k) (gk κ st1 i))
   (Q:=λr st2=>st2=st1/\∃l u,r=(none,l,u)/\l<=k/\(∀i,i<l->κ.kle (gk κ st1 i) (gk κ st1 k))/\∀i,l<=i->i<k->κ.klt (gk κ st1 k) (gk κ st1 i)) (λx r st2 y1 y2 hJ=> ?stp) (λr st2 hJ=> ?fin) ⟨rfl,0,k,rfl,KY _,JW _,JW _,λi hi=>absurd hi (SU _),λi g1 g2=>absurd g2 (Nat.not_lt.mpr g1)⟩) λr st2 hJ=> ?pst)
  case stp=>
   obtain⟨rfl,l,u,rfl,lu,uk,mz,lo,hi⟩:=hJ
   dsimp only
   by_cases g:l ≥ u
   ·rw[if_pos g]
    exact LQ ⟨rfl,l,u,rfl,Kf lu uk,lo,λi g1 g2=>hi i (Kf g g1) g2⟩
   ·rw[if_neg g]
    have hm:=Fm (Ss g)
    generalize (l+u) / 2=m at hm ⊢
    have mk:m<k:=JY hm.2 uk;refine K0 (rf c ks b1 hk (L6 mk hk) ?_)
    have am:u<=k+(m+1) - (x+1)/\m<=k+l - (x+1):=by
     clear lo hi so so1 q ks c b b1 hn ha h1
     omega
    cases z:κ.blt (gk κ st2 k) (gk κ st2 m)with
    | true=>exact LQ ⟨rfl,l,m,rfl,hm.1,LU mk,am.2,lo,λi g1 g2=>KeyOrd.klt_of_klt_of_kle z (so1 _ i g1 g2)⟩
    | false=>exact LQ ⟨rfl,m+1,u,rfl,hm.2,uk,am.1,λi g1=>Os (so1 i m (Nf g1) mk) z,hi⟩
  case fin=>
   obtain⟨rfl,l,u,rfl,lu,uk,mz,lo,hi⟩:=hJ
   have e:u<=l:=by
    clear lo hi so so1 q ks c b b1 hn ha h1
    omega
   exact⟨rfl,l,u,rfl,Kf lu uk,lo,λi g1 g2=>hi i (Kf e g1) g2⟩
  case pst=>
   obtain⟨rfl,l,u,rfl,lk,lo,hi⟩:=hJ
   dsimp only
   rw[moveDown'_eq];exact K0 (R3 (LQ ⟨rfl,b1.arr (bubble_perm _ _ _),FN (by rw[b1.len];exact hk) lk so1 lo hi⟩))
 ·obtain⟨rfl,b1,so1⟩:=hI
  rw[Ot (Nat.max_le.mpr ⟨ha,h1⟩)]at so1;exact LQ (q st1 b1 so1)
 ·rcases Nat.le_total a 1 with g | g
  ·rw[Ot g];exact yg (JW 1)
  ·rw[Nat.max_eq_left g];exact so
theorem D2 {Q:Unit->OU->Prop}(c:sZ κ k0 prog w A s)(ks:KeysOf κ o)(b:SrtB k0 o st)(h2:2<=o.size)(h64:o.size<64)
  (q:∀st',(arrOf st').Perm o->P2 st'=none->LG κ (arrOf st') o.size->Q () st'):wpS (model prog w) A E s sortRuns' Q st:=by
 rw[sortRuns'_eq];refine K0 (S8 ?_)
 dsimp only
 have hmr:minRun' o.size o.size 0=o.size:=by
  cases hz:o.size with
  | zero=>omega
  | succ f=>rw[minRun'_succ,if_pos (by omega)]
 simp only[b.len,hmr]
 refine K0 (wpS_mono (On (I:=λx r st1=>(x=0/\r=(none,0)/\SrtB k0 o st1)\/(x≠0/\r=(none,o.size)/\(arrOf st1).Perm o/\P2 st1=none/\(Nt st1).size=1/\LG κ (arrOf st1) o.size))
  (Q:=λr st1=>r=(none,o.size)/\(arrOf st1).Perm o/\P2 st1=none/\(Nt st1).size=1/\LG κ (arrOf st1) o.size) (λx r st1 l1 l2 hI=> ?stp) (λr st1 hI=> ?fin) (.inl ⟨rfl,rfl,b⟩)) λr st1 hI=> ?pst)
 case stp=>
  rcases hI with⟨rfl,rfl,b1⟩ | ⟨_,rfl,hI⟩
  ·dsimp only
   rw[if_neg (by omega)]
   simp only[Oh,Sd,Pf];refine K0 (DZ c ks b1 (JW _) (by omega) λn st2 b2 n1 n2 so2=> ?_)
   dsimp only
   have fin:∀st3,SrtB k0 o st3->LG κ (arrOf st3) o.size->(arrOf (R4 st3 ((Nt st3).push (0,o.size,0)))).Perm o/\P2 (R4 st3 ((Nt st3).push (0,o.size,0)))=none ∧
     (Nt (R4 st3 ((Nt st3).push (0,o.size,0)))).size=1/\LG κ (arrOf (R4 st3 ((Nt st3).push (0,o.size,0)))) o.size:=λst3 b3 so3=>⟨b3.p,b3.f,by
    show((Nt st3).push _).size=1
    rw[b3.e];rfl,so3⟩
   by_cases g:n<o.size
   ·rw[if_pos g]
    refine K0 (wpS_lift (MR ⟨rfl,K0 (D1 c ks b2 (N4 h2) (JW _) n2 so2 λst3 b3 so3=> ?_)⟩))
    simp only[OE,KU,if_false];refine K0 (S8 ?_)
    rw[show(Nt st3).back?=none by rw[b3.e];rfl]
    exact K0 (R3 (LQ (.inr ⟨by omega,rfl,fin st3 b3 so3⟩)))
   ·rw[if_neg g]
    obtain rfl:n=o.size:=by omega
    refine K0 (S8 ?_)
    rw[show(Nt st2).back?=none by rw[b2.e];rfl]
    exact K0 (R3 (LQ (.inr ⟨by omega,rfl,fin st2 b2 so2⟩)))
  ·dsimp only
   rw[if_pos (JW _)];exact LQ ⟨rfl,hI⟩
 case fin=>
  rcases hI with⟨h,_,_⟩ | ⟨_,hI⟩
  ·omega
  ·exact hI
 case pst=>
  obtain⟨rfl,hp,hf,he,hs⟩:=hI
  dsimp only
  refine K0 (wpS_mono (On (I:=λ_ r st2=>st2=st1/\r=(none,())) (Q:=λr st2=>st2=st1/\r=(none,())) (λx r st2 _ _ hJ=> ?stp) (λ_ _ h=>h) ⟨rfl,rfl⟩) λr st2 hJ=> ?pst)
  case stp=>
   obtain⟨rfl,rfl⟩:=hJ;refine K0 (S8 ?_)
   rw[if_pos (NF he)];exact LQ ⟨rfl,rfl⟩
  case pst=>
   obtain⟨rfl,rfl⟩:=hJ;exact LQ (q _ hp hf hs)
end
def RowV (h:Heap)(v:JK)(ns:List Int):Prop:=∃a its,v= .ref a/\h.IsTuple a its/\Lj its.toList ns/\ns≠ []
theorem RowV.inj {h:Heap}{v:JK}{ns ms:List Int}(r:RowV h v ns)(q:RowV h v ms):ns=ms:=by
 obtain⟨a,its,rfl,⟨o,e,_,n,d⟩,i,_⟩:=r;obtain⟨b,jts,eb,⟨o',e',_,n',d'⟩,j,_⟩:=q;cases eb;rw[e]at e';cases e';rw[d]at d';cases d';rw[<-i.nums,<-j.nums]
def eC:JK->V
 | .ref a=> .ref a
 | _=> .non
section
variable {X:Cx}
theorem iG:∀{m:List T} {ns:List Int},eQ m=some ns->m=ns.map .int
 | [],ns,h=>by cases h;rfl
 | t::m,ns,h=>by
  cases t with
  | int i=>
   unfold eQ at h;obtain⟨k,h1,rfl⟩:=MU.mp h
   rw[iG h1];rfl
  | _=>cases h
end
end Tr
namespace Tr
open PySem PySem.Spec PyProof.Rows L2 PySem.W
variable (R:RK)
variable {R:RK}
theorem RK.key_of {h:Heap}{v:JK}{ns:List Int}(r:R.V h v ns):R.key h v=some ns:=by
 unfold RK.key
 have e:∃ns,R.V h v ns:=⟨ns,r⟩;rw[dif_pos e,R.inj e.choose_spec r]
theorem RK.Je {h:Heap}{v:JK}{ns:List Int}(e:R.key h v=some ns):R.V h v ns:=by
 unfold RK.key at e
 split at e
 ·rename_i g
  cases e;exact g.choose_spec
 ·cases e
def RK.kind (R:RK)(h:Heap):PyProof.Rows.KeyKind:={ α:=List Int,blt:=a7,irrefl:=dA,trans:=gy,negTrans:=r6,total:=ia,keyOf:=R.key h,dflt:=[] }
def RK.row (R:RK)(h:Heap)(v:JK):List Int:=(R.key h v).getD []
theorem RK.IJ {h:Heap}{v:JK}{ns:List Int}(r:R.V h v ns):R.row h v=ns:=by unfold RK.row;rw[RK.key_of r];rfl
section
variable {prog:J9}{w:Kx}{A:Km}{E:JK->JL->Prop}{s:JL}
theorem kt3 {h:Heap}:∀{vs:List JK},(∀v∈vs,∃ns,R.V h v ns)->∃fs,KatTups h vs fs/\fs.length=vs.length/\∀f∈fs,∀M,Looks M h (typeOf f) (.type R.ty)
 | [],_=>⟨[],.nil,rfl,λf hf=>nomatch hf⟩
 | v::vs,hv=>by
  obtain⟨ns,r⟩:=hv _ JO;obtain⟨a,o,xs,n,f,rfl,e,hc,d,e0,k⟩:=R.fst r;obtain⟨fs,k1,k2,k3⟩:=kt3 (vs:=vs) λv h=>hv v (JJ _ h)
  exact⟨f::fs,.cons e hc d e0 k1,congrArg (· +1) k2,λg hg=>(JT.mp hg).elim (λz=>z▸k) (k3 g)⟩
theorem kk3 {vs:List JK}{Q:QC->JL->Prop}(hv:∀v∈vs,∃ns,R.V s.heap v ns)(ne:vs≠ [])(q:Q (tuples' R.b) s):wpAny (model prog w) A (keyKind' vs.toArray) Q E s:=by
 obtain⟨fs,k1,k2,k3⟩:=kt3 hv;exact kat_kind k1 (k2▸List.length_pos_iff.mpr ne) (λf hf=>k3 f hf _) R.ht (by rw[R.hb];exact q)
theorem out3 {h:Heap}{o xs:Array S7}(hp:xs.Perm o)(hs:LG (R.kind h) xs o.size):xs.toList.Perm o.toList/\(xs.toList.map λp=>R.row h p.1).Pairwise (λa b=>ku a b=true):=by
 refine⟨Pb.mp hp,?_⟩
 rw[Ms];intro i j hi hj hij
 have hi':i<xs.size:=by simpa using hi
 have hj':j<xs.size:=by simpa using hj
 have z:a7 (KK (R.kind h) xs j) (KK (R.kind h) xs i)=false:=hs i j (LU hij) (by rw[<-hp.size_eq];exact hj')
 have g:∀k (hk:k<xs.size),KK (R.kind h) xs k=R.row h xs[k].1:=λk hk=>by unfold KK;rw[getElem?_pos xs k hk];rfl
 rw[g i hi',g j hj']at z;simp only[Oq,Array.getElem_toList];unfold ku;rw[z];rfl
theorem run3 {ks vs:List JK}{Q:OU->JL->Prop}(hu:A.units+60<cLine)(hl:ks.length=vs.length)(hk:∀v∈ks,∃ns,R.V s.heap v ns)(h2:2<=vs.length)(h64:vs.length<64)
  (q:∀st',P2 st'=none->(arrOf st').toList.Perm (ks.zip vs)->((arrOf st').toList.map λp=>R.row s.heap p.1).Pairwise (λa b=>ku a b=true)->Q st' s) :
  wpAny (model prog w) A ((sortRuns').run (SortSt.mk' (tuples' R.b) (ks.toArray.zip vs.toArray) #[] 7 none)) (λr s'=>Q r.2 s') E s:=by
 have hz:(ks.toArray.zip vs.toArray).size=vs.length:=by simp[hl]
 have hz2:(ks.toArray.zip vs.toArray).toList=ks.zip vs:=by simp
 have kso:PyProof.Rows.KeysOf (R.kind s.heap) (ks.toArray.zip vs.toArray):=λp hp=>by
  rw[hz2]at hp;obtain⟨ns,r⟩:=hk p.1 (NJ hp).1;exact⟨ns,RK.key_of r⟩
 refine L9 (D2 (κ:=R.kind s.heap) (k0:=tuples' R.b) (o:=ks.toArray.zip vs.toArray) (st:=SortSt.mk' (tuples' R.b) (ks.toArray.zip vs.toArray) #[] 7 none)
  (Q:=λ_ st'=>(arrOf st').Perm (ks.toArray.zip vs.toArray)/\P2 st'=none/\LG (R.kind s.heap) (arrOf st') (ks.toArray.zip vs.toArray).size) (λE x y a b Q hx hy q=>R.lt hu (RK.Je hx) (RK.Je hy) q) kso ⟨Array.Perm.refl _,rfl,rfl,rfl⟩
  (by rw[hz];omega) (by rw[hz];exact h64) λst' a1 a2 a3=>⟨a1,a2,a3⟩) ?_ λ_ _ e=>e
 rintro ⟨⟨⟩,st'⟩ s' ⟨rfl,hp,hf,hs⟩
 obtain⟨g1,g2⟩:=out3 hp hs;exact q st' hf (by rw[<-hz2];exact g1) g2
theorem ls3 {a:Addr}{vs:List JK}{n:Nat}{h0:Heap}{P:Fin->JL->Prop}(hu:A.units+60<cLine)(ho:s.heap.get? a=some (seqObj "list" vs.toArray n))(ext:∀b o,h0.get? b=some o->b≠a/\s.heap.get? b=some o)(hv:∀v∈vs,∃ns,R.V h0 v ns)(h64:vs.length<64)
  (q:∀out:Array JK,out.toList.Perm vs->(out.toList.map (R.row h0)).Pairwise (λa b=>ku a b=true)->P (.done (.ret .none)) { s with heap:=R5 s.heap a vs out }) :
  wpAny (model prog w) A (Builtin.«list.sort» ⟨[.ref a],[]⟩) P E s:=by
 rw[list_sort_plain]
 have ha:=JV ho;refine JG (listItems_at ho rfl (JG (Ry ho rfl ?_)))
 have ho1:=get?_update_seq ho (λ_=> #[])
 generalize hm:(if (#[]:Array JK).size == vs.toArray.size then n else n+1)=m at ho1
 refine JG (S9 ho1 rfl (JG (wpAny_newTuple (JG (wpAny_newList (Lk ?_))))))
 generalize hh:((s.heap.update a (K8 λ_=> #[])).push (seqObj "tuple" vs.toArray 0)).push (seqObj "list" #[] 0)=h6
 have old:∀b,b<s.heap.objs.size->h6.get? b=(s.heap.update a (K8 λ_=> #[])).get? b:=λb hb=>by
  rw[<-hh,PB _ _ _ (by rw[size_push',P8];exact J7 (Lg hb)),PB _ _ _ (by rw[P8];exact J7 hb)]
 have ho6:h6.get? a=some (seqObj "list" #[] m):=(old a ha).trans ho1
 have hrow:∀v ns,R.V h0 v ns->R.V h6 v ns:=λv ns r=>R.on r λb o e=>by
  obtain⟨nb,e'⟩:=ext b o e;rw[old b (JV e'),QX _ _ _ _ nb]
  exact e'
 have hv6:∀v∈vs,∃ns,R.V h6 v ns:=λv hm=>let ⟨ns,r⟩:=hv v hm;⟨ns,hrow v ns r⟩
 have hrk:∀v∈vs,R.row h6 v=R.row h0 v:=λv hm=>by
  obtain⟨ns,r⟩:=hv v hm;rw[RK.IJ r,RK.IJ (hrow v ns r)]
 have fin:∀xs:Array S7,xs.toList.Perm (vs.zip vs)->(xs.toList.map λp=>R.row h6 p.1).Pairwise (λa b=>ku a b=true)->(xs.map (·.2)).size<=sizeLine+1/\P (.done (.ret .none)) { s with heap:=h6.update a (K8 λ_=>xs.map (·.2)) }:=λxs hp hs=>by
  have e:(xs.map (·.2)).toList=xs.toList.map (·.1):=by
   rw[Su];exact KO λp hp'=>(mem_zip_self (hp.mem_iff.mp hp')).1.symm
  have g1:(xs.map (·.2)).toList.Perm vs:=by
   rw[e]
   have:=hp.map (·.1)
   rwa [List.map_fst_zip (JW _)]at this
  refine⟨?_,?_⟩
  ·have:=g1.length_eq
   rw[Kv]at this;rw[this,Me];omega
  ·have g2:((xs.map (·.2)).toList.map (R.row h0)).Pairwise (λa b=>ku a b=true):=by
    rw[KO λv hm=>(hrk v (g1.mem_iff.mp hm)).symm,e,Lc]
    exact hs
   have:=q _ g1 g2;unfold R5 at this;rw[hh]at this;exact this
 show wpAny (model prog w) A _ P E { s with heap:=h6 }
 dsimp only
 by_cases h2:vs.toArray.size<2
 ·rw[if_pos h2,if_pos h2]
  obtain⟨f1,f2⟩:=fin (pairsOf vs) (by rw[pairsOf_toList]) (by
   have:(pairsOf vs).toList.length<=1:=by rw[pairsOf_toList,SV,Sd];rw[J1]at h2;omega
   generalize (pairsOf vs).toList=l at this
   cases l with
   | nil=>exact N0
   | cons x r=>cases r with
    | nil=>exact List.pairwise_singleton _ _
    | cons y r=>simp at this)
  refine JG (JN ?_)
  rw[StateT.run_pure];refine JG (JN ?_)
  dsimp only
  refine JG (S9 ho6 rfl (JG (Ry ho6 rfl ?_ (hsz2:=f1))))
  simp only[bne_self_eq_false,KU,if_false];exact JN f2
 ·rw[if_neg h2,if_neg h2]
  rw[J1]at h2;refine JG (kk3 (R:=R) hv6 (λz=>by subst z;exact h2 (by decide)) ?_)
  refine JG (L9 (run3 (R:=R) (s:={ s with heap:=h6 }) (Q:=λst' s'=>s'= { s with heap:=h6 }/\P2 st'=none/\(arrOf st').toList.Perm (vs.zip vs)/\((arrOf st').toList.map λp=>R.row h6 p.1).Pairwise (λa b=>ku a b=true)) hu rfl hv6 (by omega) h64 λst' hf hp hs=>⟨rfl,hf,hp,hs⟩) (λr s' z=> ?_) λ_ _ e=>e)
  obtain⟨es,hf,hp,hs⟩:=z;subst es;obtain⟨f1,f2⟩:=fin _ hp hs;refine JG (S9 ho6 rfl (JG (Ry ho6 rfl ?_ (hsz2:=f1))))
  rw[hf];simp only[bne_self_eq_false,KU,if_false];exact JN f2
theorem uX {I:Addr}{Q:JK->JL->Prop}(hu:A.units+65<cLine)(hc:∀A':Km,A'.handled=A.handled->wpAny (model prog w) A' (collect (.ref I)) (λvs s1=>(∀v∈vs,∃ns,R.V s1.heap v ns)/\vs.length<64 ∧
   ∀out:Array JK,out.toList.Perm vs->(out.toList.map (R.row s1.heap)).Pairwise (λa b=>ku a b=true)->Q (.ref s1.heap.objs.size) { s1 with heap:=R5 (s1.heap.push (seqObj "list" vs.toArray 0)) s1.heap.objs.size vs out }) E s) :
  wpAny (model prog w) A (call (.builtin "sorted") [.ref I]) Q E s:=by
 refine Calls.call_function_entry kind_sorted plain_sorted entry_sorted (args_sorted1 _) ?_
 unfold Builtin.«sorted»;refine JG (m:=checkCount "sorted" 1 1 _) (JN (JG (L9 (hc _ ?_) (λvs s1 ⟨hv,h64,q⟩=>JG (wpAny_newList ?_)) λ_ _ e=>e)))
 ·rfl
 have hoL:(s1.heap.push (seqObj "list" vs.toArray 0)).get? s1.heap.objs.size=some (seqObj "list" vs.toArray 0):=JS _ rfl
 show wpAny (model prog w) _ _ _ _ { s1 with heap:=s1.heap.push (seqObj "list" vs.toArray 0) }
 refine JG (Lk (KP slot_list_sort ⟨_,hoL,rfl⟩ entry_list_sort (ls3 (R:=R) (h0:=s1.heap) (s:={ s1 with heap:=s1.heap.push (seqObj "list" vs.toArray 0) }) ?_ hoL (λb o e=>⟨J7 (JV e),JI _ e⟩) hv h64 λout g1 g2=>⟨_,rfl,?_⟩) (args_list_sort _)))
 ·show A.units+1+1+60<cLine
  omega
 exact JN ⟨_,rfl,q out g1 g2⟩
end
end Tr
namespace PySem
open Sem (wp)
abbrev zO (h:Heap)(z ti to:Addr)(f0 f1:JK):Prop:=h.get? z=some { cls:=.type "zip",dict:=none,data:=.fields #[f0,f1,.bool false,.ref ti,.ref to],slots:=#[] }
theorem lF {h h':Heap}{a:Addr}{xs:Array JK}(x:h.IsTuple a xs)(e:∀o,h.get? a=some o->h'.get? a=some o):h'.IsTuple a xs:=let ⟨o,ho,r⟩:=x;⟨o,e _ ho,r⟩
section
variable {prog:J9}{w:Kx}{A:Km}{E:JK->JL->Prop}{s:JL}{n l1 t2 k:Nat}{xs ys:Array JK}{x y:JK}
theorem dO {a b:Nat}(h:a<b\/b<a):a≠b:=by omega
end
end PySem
namespace Tr
def yy:List T->Rs T
 | [.tup l] =>tO [.lst l]
 | ts=>tO ts
end Tr
namespace PySem
section
variable {prog:J9}{w:Kx}{A:Km}{E:JK->JL->Prop}{s:JL}{l:Addr}{xs:Array (Int×Tok)}
theorem yv {Q:JK->JL->Prop}(hl:s.heap.IsTuple l (QB xs))
  (h:∀s₂:JL,s₂= { s with heap:=s.heap.push { cls:=.type "tuple_iterator",data:=.fields #[.ref l,.int 0 0] } }->(s₂.heap.IsTupleIter s.heap.objs.size l 0/\s₂.heap.IsTuple l (QB xs))->(∀b∈ [s.heap.objs.size,l],b<s₂.heap.objs.size)->l≠s.heap.objs.size->Q (.ref s.heap.objs.size) s₂) :
  wpAny (model prog w) A (pyIter (.ref l)) Q E s:=by
 have hlt:l<s.heap.objs.size:=by obtain⟨_,e,_⟩:=hl;exact JV e
 refine LA hl (h _ rfl ⟨⟨_,JS _ rfl,rfl,rfl⟩,lF hl λo e=>JI _ e⟩ (λb hb=> ?_) (J7 hlt))
 show b<(s.heap.push _).objs.size
 rw[Ku];simp only[JT,Kp,or_false]at hb;rcases hb with rfl | rfl
 ·exact L1 _
 ·exact Lg hlt
theorem yw {h':Heap}{o0:Obj}(hk:∀b o,b∉ [s.heap.objs.size]->(s.heap.push o0).get? b=some o->h'.get? b=some o):∀b o,s.heap.get? b=some o->h'.get? b=some o:=λb o e=>
 hk b o (λhm=>absurd (JX.mp hm▸JV e) (Ki _)) (JI _ e)
theorem Bi {Q:JK->JL->Prop}(hh:A.handled=none)(hl:s.heap.IsTuple l (QB xs))(h:∀h' tk t',(∀b o,s.heap.get? b=some o->h'.get? b=some o)->Q (.int (preSum (numAt xs) xs.size) t') { s with heap:=h',toks:=tk }) :
  wpAny (model prog w) A (call (.builtin "sum") [.ref l]) Q E s:=by
 refine call_sum_walkG (yv hl λs₂ e st hfp hlI=> ?_)
 subst e;refine⟨_,_,_,_,_,_,numAt xs,rfl,SW (A:=A.in1) hh _ l hlI (QB xs),st,hfp,(λ_ _=>intItems_at),λh' tk t' hk=> ?_⟩
 have:=h h' tk t' (yw hk)
 simpa [QB]using this
end
end PySem
namespace Tr
open PySem PySem.Spec PyProof.Rows L2
section
variable {X:Cx}
theorem CU (hc:X.calm=true):CallT X (.builtin "sum") yy:=by
 intro pins s σ H O ts vs us Q I hf rs rv hp;unfold yy at hp
 split at hp
 ·rename_i l
  unfold tO at hp;obtain⟨v,rfl,r⟩:=rs.one
  dsimp only at hp
  split at hp
  ·rename_i ns hk
   obtain⟨a,ws,rfl,n,q,z⟩:=Rep.Da.mp r;obtain⟨u,rfl,ru⟩:=ja rv;cases ru;obtain⟨its,r',pl,hz⟩:=I.tuple (SqT.of q)
   have hi:=cp hk z r';obtain⟨xs,e⟩:=hi.allInts.items
   have hns:ns=xs.toList.map (·.1):=by rw[<-hi.numsOf,<-nums_intItems,<-e]
   have hl:s.heap.IsTuple a (QB xs):=by rw[<-e];exact pl
   refine Bi (I.ok.hd hc) hl λh' tk t' hk'=>⟨.int _,H,I.kept (t':=tk) hk',⟨_,rfl⟩,?_⟩
   have:preSum (numAt xs) xs.size=ns.sum:=by rw[hns,preSum_eq,NX (by simp)]
   rw[this];exact hp H (Same.refl H) _ (Rep.GM _)
  ·exact hp.elim
 ·exact F8 hc pins s σ H O _ vs us Q I hf rs rv hp
end
end Tr
namespace PySem
open Sem (wp)
open L2 (itAt)
def sqAt (tt:Bool)(h:Heap)(a:Addr)(xs:Array JK):Prop:=if tt then h.IsTuple a xs else h.IsList a xs
theorem sqAt.keep {tt:Bool}{h h':Heap}{a:Addr}{xs:Array JK}(q:sqAt tt h a xs)(k:∀o,h.get? a=some o->h'.get? a=some o):sqAt tt h' a xs:=by
 cases tt with
 | true=>exact lF (show h.IsTuple a xs from q) k
 | false=>exact Heap.IsList.at (show h.IsList a xs from q) k
section
variable {prog:J9}{w:Kx}{A:Km}{E:JK->JL->Prop}{s:JL}
theorem pR {tt:Bool}{it a:Addr}{k:Nat}{xs:Array JK}{x:JK}{Q:JK->JL->Prop}(hi:itAt tt s.heap it a k)(hs:sqAt tt s.heap a xs)(hx:xs[k]? =some x)
  (hQ:∀h',itAt tt h' it a (k+1)->MF it s.heap h'->Q x { s with heap:=h' }):wpAny (model prog w) A (Kr (.ref it)) Q E s:=by
 cases tt with
 | true=>exact Enu.tupNext hi hs hx hQ
 | false=>exact wpAny_nextOf_list_item hi hs hx hQ
theorem zp {tt:Bool}{it a:Addr}{k:Nat}{xs:Array JK}{Q:JK->JL->Prop}(hh:A.handled=none)(hi:itAt tt s.heap it a k)(hs:sqAt tt s.heap a xs)(hx:xs[k]? =none)
  (hE:∀h' e,QU it s.heap h'->(∃o,h'.get? e=some o/\o.cls= .type "StopIteration")->E (.ref e) { s with heap:=h' }):wpAny (model prog w) A (Kr (.ref it)) Q E s:=by
 cases tt with
 | true=>exact Enu.tupStop hh hi hs hx hE
 | false=>exact wpAny_nextOf_list_end hh hi hs hx hE
structure Zw (h:Heap)(n a1 a2:Nat)(t1 t2:Bool)(k:Nat):Prop where
 pr:RA h (n+2) (.ref n) (.ref (n+1))
 ow:∃a b,RA h (n+3) a b
 i1:itAt t1 h n a1 k
 i2:itAt t2 h (n+1) a2 k
variable {n a1 a2 k:Nat}{t1 t2:Bool}{xs ys:Array JK}{x y:JK}
theorem Zw.keep {h h':Heap}(q:Zw h n a1 a2 t1 t2 k)(e:∀c o,n<=c->c<n+4->h.get? c=some o->h'.get? c=some o):Zw h' n a1 a2 t1 t2 k where
 pr:=e _ _ (by omega) (by omega) q.pr
 ow:=let ⟨a,b,z⟩:=q.ow;⟨a,b,e _ _ (by omega) (by omega) z⟩
 i1:=q.i1.keep λo=>e _ o (by omega) (by omega)
 i2:=q.i2.keep λo=>e _ o (by omega) (by omega)
theorem A2 {Q:JK->JL->Prop}(q:Zw s.heap n a1 a2 t1 t2 k)(kz:zO s.heap (n+4) (n+2) (n+3) .none (.bool false))(s1:sqAt t1 s.heap a1 xs)(s2:sqAt t2 s.heap a2 ys)(b1:a1<n\/n+4<a1)(b2:a2<n\/n+4<a2)(hx:xs[k]? =some x)(hy:ys[k]? =some y)
  (kq:∀h' p,s.heap.objs.size<=p->RA h' p x y->zO h' (n+4) (n+2) (n+3) (rawInt p) (.bool false)->Zw h' n a1 a2 t1 t2 (k+1)->(∀c o,c≠n->c≠n+1->c≠n+3->c≠n+4->s.heap.get? c=some o->h'.get? c=some o)->Q (.ref p) { s with heap:=h' }) :
  wpAny (model prog w) A (Builtin.«zip.__next__» ⟨[.ref (n+4)],[]⟩) (λfin s'=> ∃v,fin= .done (.ret v)/\Q v s') E s:=by
 obtain⟨oa,ob,ho⟩:=q.ow
 show wpAny _ _ (field (.ref (n+4)) 2 >>= _) _ _ _
 refine JG (Lu kz rfl (x:=.bool false) rfl ?_)
 show wpAny _ _ (field (.ref (n+4)) 3 >>= _) _ _ _
 refine JG (Lu kz rfl (x:=.ref (n+2)) rfl ?_)
 refine JG (KJ q.pr rfl ?_)
 show wpAny _ _ (KF (.ref (n+4)) >>= _) _ _ _
 have fr:wpAny (model prog w) A (KF (.ref (n+4))) (λv s'=>v=true/\s'=s) E s:=by
  unfold KF;exact JG (Lu kz rfl (x:=.none) rfl (JN ⟨rfl,rfl⟩))
 refine JG (L9 fr (λv s' hv=> ?_) λ_ _ z=>z)
 obtain⟨rfl,rfl⟩:=hv;simp only[if_true];refine JG (MR (JG (Lu kz rfl (x:=.ref (n+3)) rfl (JG (Mo kz (by simp) λh₁ kz₁ e₁=> ?_)))))
 replace kz₁:zO h₁ (n+4) (n+2) (n+3) .ellipsis (.bool false):=kz₁
 have q₁:Zw h₁ n a1 a2 t1 t2 k:=q.keep λc o _ hc g=>e₁.extBut c o (dO (by omega)) g
 simp only[Sv,SX,ON,QN];refine JG (JG (JG (P3 ?_)))
 show wpAny _ _ (Kr (.ref n) >>= _) _ _ _
 refine JG (pR q₁.i1 (s1.keep λo g=>e₁.extBut _ _ (dO (by omega)) g) hx λh₂ g₂ e₂=>JN ?_)
 have o₂:RA h₂ (n+3) oa ob:=e₂.extBut _ _ (dO (by omega)) (e₁.extBut _ _ (dO (by omega)) ho)
 refine JG (KJ o₂ rfl (JG (OB o₂ λh₃ o₃ e₃=>JG (Mv (JN ?_)))))
 replace o₃:RA h₃ (n+3) x ob:=o₃
 refine JG (JG (P3 ?_))
 show wpAny _ _ (Kr (.ref (n+1)) >>= _) _ _ _
 refine JG (pR (q₁.i2.keep λo g=>e₃.extBut _ _ (dO (by omega)) (e₂.extBut _ _ (dO (by omega)) g)) (s2.keep λo g=>e₃.extBut _ _ (dO (by omega)) (e₂.extBut _ _ (dO (by omega)) (e₁.extBut _ _ (dO (by omega)) g))) hy λh₄ g₄ e₄=>JN ?_)
 have o₄:RA h₄ (n+3) x ob:=e₄.extBut _ _ (dO (by omega)) o₃
 refine JG (KJ o₄ rfl (JG (OB o₄ λh₅ o₅ e₅=>JG (Mv (JN (JN ?_))))))
 replace o₅:RA h₅ (n+3) x y:=o₅
 refine JG (KJ o₅ rfl (JG (wpAny_newTuple ?_)))
 have z₅:h₅.objs.size=s'.heap.objs.size:=by rw[e₅.1,e₄.1,e₃.1,e₂.1,e₁.1]
 have up:∀c o,c≠n->c≠n+1->c≠n+3->h₁.get? c=some o->h₅.get? c=some o:=λc o c1 c2 c3 g=>e₅.extBut _ _ c3 (e₄.extBut _ _ c2 (e₃.extBut _ _ c3 (e₂.extBut _ _ c1 g)))
 show wpAny _ _ (Nq (.ref (n+4)) (.ref h₅.objs.size) >>= _) _ _ _
 have z5:zO (h₅.push { cls:=.type "tuple",data:=.seq #[x,y] }) (n+4) (n+2) (n+3) .ellipsis (.bool false):=JI _ (up _ _ (dO (by omega)) (dO (by omega)) (dO (by omega)) kz₁)
 have hn:n+4<h₅.objs.size:=JV (up _ _ (dO (by omega)) (dO (by omega)) (dO (by omega)) kz₁)
 refine JG ?_
 unfold Nq;refine JG (Mo z5 (by simp) λh₇ z₇ e₇=> ?_)
 replace z₇:zO h₇ (n+4) (n+2) (n+3) (rawInt h₅.objs.size) (.bool false):=z₇
 refine Mo z₇ (by simp) λh₈ z₈ e₈=>JN ⟨_,rfl,?_⟩
 replace z₈:zO h₈ (n+4) (n+2) (n+3) (rawInt h₅.objs.size) (.bool false):=z₈
 have up8:∀c o,c≠n+4->h₅.get? c=some o->h₈.get? c=some o:=λc o c1 g=>e₈.extBut _ _ c1 (e₇.extBut _ _ c1 (JI _ g))
 refine kq h₈ h₅.objs.size (NF z₅.symm) (e₈.extBut _ _ (dO (by omega)) (e₇.extBut _ _ (dO (by omega)) (JS _ rfl))) z₈ ⟨up8 _ _ (dO (by omega)) (up _ _ (dO (by omega)) (dO (by omega)) (dO (by omega)) q₁.pr),⟨x,y,up8 _ _ (dO (by omega)) o₅⟩,?_,?_⟩ λc o c1 c2 c3 c4 g=>up8 c o c4 (up c o c1 c2 c3 (e₁.extBut _ _ c4 g))
 ·exact g₂.keep λo g=>up8 _ _ (dO (by omega)) (e₅.extBut _ _ (dO (by omega)) (e₄.extBut _ _ (dO (by omega)) (e₃.extBut _ _ (dO (by omega)) g)))
 ·exact g₄.keep λo g=>up8 _ _ (dO (by omega)) (e₅.extBut _ _ (dO (by omega)) g)
theorem DM {Q:Fin->JL->Prop}(hh:A.handled=none)(q:Zw s.heap n a1 a2 t1 t2 k)(kz:zO s.heap (n+4) (n+2) (n+3) .none (.bool false))(s1:sqAt t1 s.heap a1 xs)(s2:sqAt t2 s.heap a2 ys)(b1:a1<n\/n+4<a1)(b2:a2<n\/n+4<a2)(hend:xs[k]? =none\/ys[k]? =none)
  (ke:∀h' e,(∀c o,c≠n->c≠n+1->c≠n+3->c≠n+4->s.heap.get? c=some o->h'.get? c=some o)->(∃o,h'.get? e=some o/\o.cls= .type "StopIteration")->E (.ref e) { s with heap:=h' }) :
  wpAny (model prog w) A (Builtin.«zip.__next__» ⟨[.ref (n+4)],[]⟩) Q E s:=by
 show wpAny _ _ (field (.ref (n+4)) 2 >>= _) _ _ _
 refine JG (Lu kz rfl (x:=.bool false) rfl ?_)
 show wpAny _ _ (field (.ref (n+4)) 3 >>= _) _ _ _
 refine JG (Lu kz rfl (x:=.ref (n+2)) rfl ?_)
 refine JG (KJ q.pr rfl ?_)
 show wpAny _ _ (KF (.ref (n+4)) >>= _) _ _ _
 have fr:wpAny (model prog w) A (KF (.ref (n+4))) (λv s'=>v=true/\s'=s) E s:=by
  unfold KF;exact JG (Lu kz rfl (x:=.none) rfl (JN ⟨rfl,rfl⟩))
 refine JG (L9 fr (λv s' hv=> ?_) λ_ _ z=>z)
 obtain⟨rfl,rfl⟩:=hv;simp only[if_true];refine JG (MR (JG (Lu kz rfl (x:=.ref (n+3)) rfl (JG (Mo kz (by simp) λh₁ kz₁ e₁=> ?_)))))
 replace kz₁:zO h₁ (n+4) (n+2) (n+3) .ellipsis (.bool false):=kz₁
 have q₁:Zw h₁ n a1 a2 t1 t2 k:=q.keep λc o _ hc g=>e₁.extBut c o (dO (by omega)) g
 simp only[Sv,SX,ON,QN];refine JG (JG (JG (P3 ?_)))
 show wpAny _ _ (Kr (.ref n) >>= _) _ _ _
 cases hx:xs[k]? with
 | none=>
  refine JG (zp hh q₁.i1 (s1.keep λo g=>e₁.extBut _ _ (dO (by omega)) g) hx λh₂ e e₂ he=> ?_)
  obtain⟨oe,hoe,hce⟩:=he
  have hz₂:zO h₂ (n+4) (n+2) (n+3) .ellipsis (.bool false):=e₂ _ _ (dO (by omega)) kz₁
  have hez:e≠n+4:=λx=>by subst x;rw[hz₂]at hoe;cases hoe;simp at hce
  exact Mo hz₂ (by simp) λh₃ _ hs₃=>ke h₃ e (λc o c1 c2 c3 c4 g=>hs₃.extBut _ _ c4 (e₂ _ _ c1 (e₁.extBut _ _ c4 g))) ⟨oe,hs₃.extBut _ _ hez hoe,hce⟩
 | some x=>
  have hy:ys[k]? =none:=by
   rcases hend with h | h
   ·rw[hx]at h;cases h
   ·exact h
  obtain⟨oa,ob,ho⟩:=q.ow;refine JG (pR q₁.i1 (s1.keep λo g=>e₁.extBut _ _ (dO (by omega)) g) hx λh₂ g₂ e₂=>JN ?_)
  have o₂:RA h₂ (n+3) oa ob:=e₂.extBut _ _ (dO (by omega)) (e₁.extBut _ _ (dO (by omega)) ho)
  refine JG (KJ o₂ rfl (JG (OB o₂ λh₃ o₃ e₃=>JG (Mv (JN ?_)))))
  refine JG (JG (P3 ?_))
  show wpAny _ _ (Kr (.ref (n+1)) >>= _) _ _ _
  refine JG (zp hh (q₁.i2.keep λo g=>e₃.extBut _ _ (dO (by omega)) (e₂.extBut _ _ (dO (by omega)) g)) (s2.keep λo g=>e₃.extBut _ _ (dO (by omega)) (e₂.extBut _ _ (dO (by omega)) (e₁.extBut _ _ (dO (by omega)) g))) hy λh₄ e e₄ he=> ?_)
  obtain⟨oe,hoe,hce⟩:=he
  have hz₄:zO h₄ (n+4) (n+2) (n+3) .ellipsis (.bool false):=e₄ _ _ (dO (by omega)) (e₃.extBut _ _ (dO (by omega)) (e₂.extBut _ _ (dO (by omega)) kz₁))
  have hez:e≠n+4:=λx=>by subst x;rw[hz₄]at hoe;cases hoe;simp at hce
  exact Mo hz₄ (by simp) λh₅ _ hs₅=>ke h₅ e (λc o c1 c2 c3 c4 g=>hs₅.extBut _ _ c4 (e₄ _ _ c2 (e₃.extBut _ _ c3 (e₂.extBut _ _ c1 (e₁.extBut _ _ c4 g))))) ⟨oe,hs₅.extBut _ _ hez hoe,hce⟩
abbrev DN (h:Heap)(t1:Bool)(a1:Addr):Heap:=h.push { cls:=.type (if t1 then "tuple_iterator" else "list_iterator"),data:=.fields #[.ref a1,.int 0 0] }
end
section
variable {prog:J9}{w:Kx}{A:Km}{E:JK->JL->Prop}{s:JL}
theorem z7 {tt:Bool}{a:Addr}{xs:Array JK}{Q:JK->JL->Prop}(q:sqAt tt s.heap a xs)(h:Q (.ref s.heap.objs.size) { s with heap:=DN s.heap tt a }):wpAny (model prog w) A (pyIter (.ref a)) Q E s:=by
 cases tt with
 | true=>exact LA (show s.heap.IsTuple a xs from q) h
 | false=>exact Nk (show s.heap.IsList a xs from q) h
end
abbrev Ip (h:Heap)(t1 t2:Bool)(l t:Addr):Heap:=DN (DN h t1 l) t2 t
abbrev Io (h:Heap)(t1 t2:Bool)(l t:Addr):Heap:=(Ip h t1 t2 l t).push { cls:=.type "tuple",data:=.seq #[.ref h.objs.size,.ref (DN h t1 l).objs.size] }
abbrev Im (h:Heap)(t1 t2:Bool)(l t:Addr):Heap:=(Io h t1 t2 l t).push { cls:=.type "tuple",data:=.seq #[.none,.none] }
abbrev Dh (h:Heap)(t1 t2:Bool)(l t:Addr):Heap:=(Im h t1 t2 l t).push { cls:=.type "zip",data:=.fields #[.none,.bool false,.bool false,.ref (Ip h t1 t2 l t).objs.size,.ref (Io h t1 t2 l t).objs.size] }
theorem zG (t1 t2:Bool)(l t:Addr)(xs ys:Array JK):Meets (Builtin.«zip.__new__» ⟨[.type "zip",.ref l,.ref t],[]⟩) (λ_ R s=>sqAt t1 s.heap l xs/\sqAt t2 s.heap t ys/\R (.ok (.ret (.ref (Im s.heap t1 t2 l t).objs.size))) { s with heap:=Dh s.heap t1 t2 l t }):=
 .of_wp λprog w A R s q=>by
  obtain⟨hp,g,d,tk,os⟩:=s;obtain⟨a1,a2,q⟩:=q
  have k0:=sub_zip
  have k1:sqAt t1 (SQ ⟨hp,g,d,tk,os⟩) l xs:=a1
  have k2:sqAt t2 (SQ ⟨DN hp t1 l,g,d,tk,os⟩) t ys:=sqAt.keep a2 λo e=>JI _ e
  wp_walk using z7 k1,z7 k2
  exact⟨_,rfl,q⟩
section
variable {prog:J9}{w:Kx}{A:Km}{E:JK->JL->Prop}{s:JL}
theorem A3 {t1 t2:Bool}{l t:Addr}{xs ys:Array JK}{Q:JK->JL->Prop}(a1:sqAt t1 s.heap l xs)(a2:sqAt t2 s.heap t ys)
  (q:∀h',Zw h' s.heap.objs.size l t t1 t2 0->zO h' (s.heap.objs.size+4) (s.heap.objs.size+2) (s.heap.objs.size+3) .none (.bool false)->h'.objs.size=s.heap.objs.size+5 →
   (∀c o,s.heap.get? c=some o->h'.get? c=some o)->Q (.ref (s.heap.objs.size+4)) { s with heap:=h' }) :
  wpAny (model prog w) A (call (.type "zip") [.ref l,.ref t]) Q E s:=by
 refine callType_new F.called_zip (by decide) (F.typeCall_zip_2 _ _) (F.newCall_zip_2 _ _) (λobj=>F.args_object_init_3 obj _ _) F.entry_zip_new (zG t1 t2 l t xs ys) ⟨a1,a2,?_⟩
 have z1:(DN s.heap t1 l).objs.size=s.heap.objs.size+1:=Ku ..
 have z2:(Ip s.heap t1 t2 l t).objs.size=s.heap.objs.size+2:=by rw[Ku,z1]
 have z3:(Io s.heap t1 t2 l t).objs.size=s.heap.objs.size+3:=by rw[Ku,z2]
 have z4:(Im s.heap t1 t2 l t).objs.size=s.heap.objs.size+4:=by rw[Ku,z3]
 have z5:(Dh s.heap t1 t2 l t).objs.size=s.heap.objs.size+5:=by rw[Ku,z4]
 have g5:(Dh s.heap t1 t2 l t).get? (Im s.heap t1 t2 l t).objs.size=some _:=JS _ rfl
 have g4:(Dh s.heap t1 t2 l t).get? (Io s.heap t1 t2 l t).objs.size=some _:=JI _ (JS _ rfl)
 have g3:(Dh s.heap t1 t2 l t).get? (Ip s.heap t1 t2 l t).objs.size=some _:=JI _ (JI _ (JS _ rfl))
 have g2:(Dh s.heap t1 t2 l t).get? (DN s.heap t1 l).objs.size=some _:=JI _ (JI _ (JI _ (JS _ rfl)))
 have g1:(Dh s.heap t1 t2 l t).get? s.heap.objs.size=some _:=JI _ (JI _ (JI _ (JI _ (JS _ rfl))))
 have up:∀c o,s.heap.get? c=some o->(Dh s.heap t1 t2 l t).get? c=some o:=λc o e=>JI _ (JI _ (JI _ (JI _ (JI _ e))))
 show _/\_
 rw[z2,z3,z4]at g5;rw[z1,z2]at g3;rw[z3]at g4;rw[z1]at g2;rw[z4];refine⟨⟨_,g5,rfl⟩,q _ ⟨g3,⟨_,_,g4⟩,?_,?_⟩ g5 z5 up⟩
 ·cases t1 with
  | true=>exact⟨_,g1,rfl,rfl⟩
  | false=>exact⟨_,g1,rfl,rfl⟩
 ·cases t2 with
  | true=>exact⟨_,g2,rfl,rfl⟩
  | false=>exact⟨_,g2,rfl,rfl⟩
end
end PySem
namespace L2
open PySem PySem.Spec PyProof.Rows
def Itz (K:JH)(a1 a2:Addr)(t1 t2:Bool):It:=
 ⟨λi H=> ∃xs x ys y,(mT K H a1 t1 xs/\xs[i]? =some x)/\mT K H a2 t2 ys/\ys[i]? =some y,λi H x H'=> ∃p v u,x= .ref p/\H p=none/\H'=upd H p (.tup [v,u])/\(∀xs,mT K H a1 t1 xs->xs[i]? =some v)/\∀ys,mT K H a2 t2 ys->ys[i]? =some u,
  λi H=> ∃xs ys,mT K H a1 t1 xs/\mT K H a2 t2 ys/\(xs.length<=i\/ys.length<=i)⟩
section
variable {X:Cx}{pins:List (Addr×Obj)}{σ:L2.St}{H:Hp}{s:JL}
theorem f7 {tt:Bool}{a:Addr}{xs:List V}(I:Inv X pins σ H s)(q:mT X.K H a tt xs):∃its:List JK,Vals xs its/\sqAt tt s.heap a its.toArray/\∀ys,mT X.K H a tt ys->ys=xs:=by
 cases tt with
 | true=>
  have q':SqT X.K H a xs:=q;obtain⟨its,rv,p,hz⟩:=I.tuple q'
  exact⟨its,rv,p,λys hy=>I.IQ hy q'⟩
 | false=>
  have q':SqL X.K H a xs:=q;obtain⟨its,rv,p,hz⟩:=I.list q';exact⟨its,rv,p.isList,λys hy=>I.IU hy q'⟩
theorem qZ {tt:Bool}{a b:Addr}{xs:List V}(I:Inv X pins σ H s)(q:mT X.K H a tt xs)(hb:k7 X pins H b):a≠b:=λz=>by
 have hb':=hb.1;rw[<-z]at hb'
 cases tt with
 | true=>
  have hq':SqT X.K H a xs:=q;rcases hq' with(q | ⟨o,q⟩) | ⟨o,its,n,q,_⟩
  ·rw[hb']at q;cases q
  ·rw[hb']at q;cases q
  ·rcases hb.2.2.2.1 with z1 | z1
   ·exact I.ok.noex a o (I.ok.mod.kin a o q) (z▸z1)
   ·exact absurd (JY (JV (I.ok.bs a o (I.ok.mod.kin a o q)).1) (z▸z1)) (Ki _)
 | false=>
  have hq':SqL X.K H a xs:=q;rcases hq' with(q | ⟨o,q⟩) | ⟨o,its,n,q,_⟩
  ·rw[hb']at q;cases q
  ·rw[hb']at q;cases q
  ·rcases hb.2.2.2.1 with z1 | z1
   ·exact I.ok.noex a o (I.ok.mod.kin a o q) (z▸z1)
   ·exact absurd (JY (JV (I.ok.bs a o (I.ok.mod.kin a o q)).1) (z▸z1)) (Ki _)
end
theorem five {n b:Nat}:b∈ [n+4,n,n+1,n+2,n+3] ↔n<=b/\b<n+5:=by
 simp only[JT,Kp,or_false];omega
theorem yu {P:J9}{w:Kx}{K:JH}{elts:List Expr}{kk:Nat}{pos:Pos}(t1 t2:Bool)(a1 a2 n:Nat) :
  xM P w K (.Tuple elts kk pos) (Itz K a1 a2 t1 t2) [n+4,n,n+1,n+2,n+3] (n+4) (λi h=>zO h (n+4) (n+2) (n+3) .none (.bool false)/\Zw h n a1 a2 t1 t2 i) where
 mem:=by simp
 obj:=λi h st b hb=>by
  obtain⟨kz,q⟩:=st;simp only[JT,Kp,or_false]at hb;rcases hb with rfl | rfl | rfl | rfl | rfl
  ·exact⟨_,kz,λv z=>by have z':SN _=Q9 v:=z;cases z'⟩
  ·exact q.i1.obj
  ·exact q.i2.obj
  ·exact⟨_,q.pr,λv z=>by have z':Data.seq _ _=Q9 v:=z;cases z'⟩
  ·obtain⟨a,b,e⟩:=q.ow
   exact⟨_,e,λv z=>by have z':Data.seq _ _=Q9 v:=z;cases z'⟩
 keep:=λi h h' st k=>by
  obtain⟨kz,q⟩:=st;exact⟨k _ (by simp) _ kz,q.keep λc o c1 c2 g=>k c (five.mpr ⟨c1,by omega⟩) o g⟩
 item:=by
  intro X hP hw hK hc i pins s σ H E I hf st hg;subst hP hw hK;obtain⟨xs,x,ys,y,⟨hq1,hx⟩,hq2,hy⟩:=hg;obtain⟨kz,q⟩:=st;obtain⟨its1,r1,p1,u1⟩:=f7 I hq1;obtain⟨its2,r2,p2,u2⟩:=f7 I hq2;obtain⟨v1,e1,rv1⟩:=r1.get hx;obtain⟨v2,e2,rv2⟩:=r2.get hy
  have ap:∀{tt:Bool} {a:Nat} {zs:List V},mT X.K H a tt zs->a<n\/n+4<a:=λ{tt a zs} hq=>by
   refine Mt λhh=> ?_
   exact qZ I hq (hf a (five.mpr ⟨by omega,by omega⟩)) rfl
  have hT:s.TypeIs (.ref (n+4)) "zip":=⟨_,kz,rfl⟩
  have lt:n+4<s.heap.objs.size:=JV kz;unfold pyNext;refine JG (NQ (KN (name:=J0 "__next__") hT OQ (KP OQ hT Sw (A2 q kz p1 p2 (ap hq1) (ap hq2) (by simpa using e1) (by simpa using e2) λh1 Tp hsz hTp hz1 q1 hk=>JN ⟨.ref Tp,rfl,?_⟩) (RP _))))
  refine wpAny_letOwnedTupleGo_zip (s:={ s with heap:=h1 }) hz1 λh2 hz2 hs2=> ?_
  have kAll:∀b o,b∉ [n+4,n,n+1,n+2,n+3]->s.heap.get? b=some o->h2.get? b=some o:=λb o hb g=>by
   have hb':¬ (n<=b/\b<n+5):=λz=>hb (five.mpr z)
   exact hs2.extBut _ _ (dO (by omega)) (hk b o (dO (by omega)) (dO (by omega)) (dO (by omega)) (dO (by omega)) g)
  have q2:Zw h2 n a1 a2 t1 t2 (i+1):=q1.keep λc o c1 c2 g=>hs2.extBut _ _ (dO (by omega)) g
  have hTp2:RA h2 Tp v1 v2:=hs2.extBut _ _ (dO (by omega)) hTp
  have there:∀b∈ [n+4,n,n+1,n+2,n+3],∃o,h2.get? b=some o:=λb hb=>by
   simp only[JT,Kp,or_false]at hb;rcases hb with rfl | rfl | rfl | rfl | rfl
   ·exact⟨_,hz2⟩
   ·obtain⟨o,e,_⟩:=q2.i1.obj;exact⟨o,e⟩
   ·obtain⟨o,e,_⟩:=q2.i2.obj;exact⟨o,e⟩
   ·exact⟨_,q2.pr⟩
   ·obtain⟨a,b,e⟩:=q2.ow;exact⟨_,e⟩
  have hn:H Tp=none:=I.hok.fresh hsz
  have new:ObjOk X.prog X.w (upd H Tp (.tup [x,y])) h2 Tp (.tup [x,y]):=⟨by show 2<=sizeLine;decide,[v1,v2],.cons rv1 (.cons rv2 .nil),⟨_,hTp2,rfl,_,rfl⟩⟩
  have I2:=I.Jd (t':=s.toks) hf kAll there hsz new;refine⟨.ref Tp,_,I2,rfl,⟨Tp,x,y,rfl,hn,rfl,λzs hz=>by rw[u1 zs hz];exact hx,λzs hz=>by rw[u2 zs hz];exact hy⟩,⟨hz2,q2⟩,λb hb=> ?_⟩
  have hb':=five.mp hb
  have hbT:b≠Tp:=dO (by omega)
  rw[aQ hbT];exact(hf b hb).1
 done:=by
  intro X hP hw hK hc i pins s σ H E I hf st hg;subst hP hw hK;obtain⟨xs,ys,hq1,hq2,hx⟩:=hg;obtain⟨kz,q⟩:=st;obtain⟨its1,r1,p1,u1⟩:=f7 I hq1;obtain⟨its2,r2,p2,u2⟩:=f7 I hq2
  have l1:=r1.length
  have l2:=r2.length
  have ap:∀{tt:Bool} {a:Nat} {zs:List V},mT X.K H a tt zs->a<n\/n+4<a:=λ{tt a zs} hq=>by
   refine Mt λhh=> ?_
   exact qZ I hq (hf a (five.mpr ⟨by omega,by omega⟩)) rfl
  have hT:s.TypeIs (.ref (n+4)) "zip":=⟨_,kz,rfl⟩
  have hend:its1.toArray[i]? =none\/its2.toArray[i]? =none:=by
   rcases hx with h | h
   ·left;simp;omega
   ·right;simp;omega
  unfold pyNext;refine JG (NQ (KN (name:=J0 "__next__") hT OQ (KP OQ hT Sw (DM (I.ok.hd hc) q kz p1 p2 (ap hq1) (ap hq2) hend λh' e kp he=> ?_) (RP _))))
  obtain⟨o,ho,hcl⟩:=he;refine JG (Ou (T:="StopIteration") (b:=true) ⟨o,ho,hcl⟩ QP (JN ⟨rfl,I.IS (t':=s.toks) hf λ(b:Nat) o hb g=> ?_⟩))
  have hb':¬ (n<=b/\b<n+5):=λz=>hb (five.mpr z)
  exact kp b o (dO (by omega)) (dO (by omega)) (dO (by omega)) (dO (by omega)) g
 self:=λ_ _ _ _ _ st h=>SF st.1 h
end L2
namespace L2
open PySem PySem.Spec PyProof.Rows
open Tr (ba bf fg)
section
variable {X:Cx}{elts:List Expr}{kk:Nat}{tpos:Pos}
def iZip (K:JH)(tl:TA):TI:=λσ H R=>tl σ H λvs H1=> ∃a1 a2 t1 t2,vs= [.ref a1,.ref a2]/\(∃xs,mT K H1 a1 t1 xs)/\(∃ys,mT K H1 a2 t2 ys)/\R (Itz K a1 a2 t1 t2) H1
theorem EN {l m:Expr}{tl:TA}{p pos:Pos}(hg:Gl X "zip")(hm:X.mg "zip" =none)(hl:PA X [l,m] tl)(hst:autoParam (ba [l,m] =true) u_):PI X (.Tuple elts kk tpos) (.Call (.Name "zip" p) [l,m] [] pos) (iZip X.K tl):=by
 intro pins s σ H R I h;unfold ba at hst;rw[JM]at hst;refine Call_ (fQ I hg hm (show Ky "zip" =some (.type "zip")by decide+kernel) (K9 (bV (hl pos pins s σ H _ I h) λus s1 ⟨vs,H1,I1,r1,q1⟩=> ?_) (bf hst.1) (fg hst.2)))
 obtain⟨a1,a2,t1,t2,e,⟨xs,hq1⟩,⟨ys,hq2⟩,q⟩:=q1;subst e
 cases r1 with
 | cons w1 w2=>
  obtain⟨u2,rfl,w3⟩:=Vals.one w2;cases w1;obtain rfl:u2=Kb a2:=w3;obtain⟨its1,_,p1,_⟩:=f7 I1 hq1;obtain⟨its2,_,p2,_⟩:=f7 I1 hq2;refine A3 p1 p2 λh' g1 g2 g3 g4=> ?_
  refine SF (s:={ s1 with heap:=h' }) g2 ?_
  have I2:Inv X pins σ H1 { s1 with heap:=h' }:=I1.kept (t':=s1.toks) g4
  refine⟨s1.heap.objs.size+4,[s1.heap.objs.size+4,s1.heap.objs.size,s1.heap.objs.size+1,s1.heap.objs.size+2,s1.heap.objs.size+3],_,_,H1,rfl,I2,yu t1 t2 a1 a2 s1.heap.objs.size,⟨g2,g1⟩,λb hb=> ?_,q⟩
  have hb':=five.mp hb;exact I1.IZ hb'.1 (I1.hok.fresh hb'.1)
end
end L2
namespace Tr
open PySem PySem.Spec PyProof.Rows L2
theorem Ba (l m:List T)(i:Nat):((l.zip m).map λp=>T.tup [p.1,p.2])[i]? =match l[i]?,m[i]? with
  | some a,some b=>some (T.tup [a,b])
  | _,_=>none:=by
 rw[Kk]
 unfold List.zip;rw[List.getElem?_zipWith]
 cases l[i]? <;> cases m[i]? <;> rfl
def Wk (K:JH)(O:Ow)(H1:Hp)(l:List T)(v:V):Prop:=∃(aa:Addr) (tt:Bool) (ws:List V),v= .ref aa/\¬ O aa/\Reps K O H1 l ws/\mT K H1 aa tt ws/\(∀P Hc,SameO P H1 Hc->¬ P aa->mT K Hc aa tt ws)/\¬ Nw K H1 aa
theorem Di {K:JH}{O:Ow}{H1:Hp}{x:T}{l:List T}{v:V}(hl:x.items=some l)(rv:Rep K O H1 x v):Wk K O H1 l v:=by
 cases x with
 | tup m=>
  cases hl;obtain⟨aa,ws,e,n,qq,z⟩:=Rep.Da.mp rv
  exact⟨aa,true,ws,e,n,z,(show SqT K H1 aa ws from SqT.of qq),(λP Hc hsm hn=>show SqT K Hc aa ws from SqT.of (hsm _ _ qq hn)),λw=>by rw[w.1]at qq;cases qq⟩
 | lst m=>
  cases hl;obtain⟨aa,ws,e,n,qq,z⟩:=Rep.Fk.mp rv
  exact⟨aa,false,ws,e,n,z,(show SqL K H1 aa ws from SqL.of qq),(λP Hc hsm hn=>show SqL K Hc aa ws from SqL.of (hsm _ _ qq hn)),λw=>by rw[w.1]at qq;cases qq⟩
 | scr m=>
  cases hl;unfold Rep at rv;obtain⟨aa,e,n,qq⟩:=rv
  exact⟨aa,false,_,e,n,Reps.ints,(show SqL K H1 aa _ from qq),(λP Hc hsm hn=>show SqL K Hc aa _ from Tr.SqL.keep hsm hn qq),(Tr.SqL.nn qq)⟩
 | _=>cases hl
section
variable {X:Cx}{a b:Expr}{fs:En->Rs (List T)}{p pos:Pos}
theorem Eu {elts:List Expr}{kk:Nat}{tpos:Pos}(hm:X.mg "zip" =none)(ha:qG X [a,b] fs)(hg:autoParam (Gl X "zip") u_)(hst:autoParam (ba [a,b] =true) u_) :
  AS X (.Tuple elts kk tpos) (.Call (.Name "zip" p) [a,b] [] pos) (iZ fs):=PI.imp (EN hg hm ha hst) λσ H R hh_=>by
 obtain⟨Z,O,E,h⟩:=hh_;obtain⟨Z1,O1,E1,h1⟩:=dX E h;refine⟨Z1,O1,E1,Post.mono h1 λts H1 s1 q vs r=> ?_⟩
 obtain⟨t',r',s',E',q'⟩:=q vs r
 split at q'
 ·rename_i x0 y0
  obtain⟨v,vs1,rfl,rv,rb⟩:=Reps.me.mp r';obtain⟨v2,rfl,rv2⟩:=rb.one
  split at q'
  ·rename_i l m hl hm
   obtain⟨a1,t1,w1,e1,n1,z1,sq1,mv1,nn1⟩:=Di hl rv;obtain⟨a2,t2,w2,e2,n2,z2,sq2,mv2,nn2⟩:=Di hm rv2;refine⟨a1,a2,t1,t2,by rw[e1,e2],⟨w1,sq1⟩,⟨w2,sq2⟩,q' H1 (Same.refl H1) _ λP O' hP hO i Hc hsm htr=> ?_⟩
   have sc1:=mv1 P Hc hsm λy=>(hP a1 y).elim n1 nn1
   have sc2:=mv2 P Hc hsm λy=>(hP a2 y).elim n2 nn2
   refine⟨λhi=>⟨w1,w2,sc1,sc2,?_⟩,λt ht=> ?_⟩
   ·rw[JQ,SV]at hi
    rw[<-z1.length,<-z2.length];omega
   ·rw[Ba]at ht
    split at ht
    ·rename_i t1' t2' f1 f2
     cases ht;obtain⟨v0,g1,g2⟩:=z1.get f1;obtain⟨v3,g3,g4⟩:=z2.get f2;refine⟨⟨w1,v0,w2,v3,⟨sc1,g1⟩,sc2,g3⟩,λx Hc' y=> ?_⟩
     obtain⟨pp,vv,uu,e2,hpn,e3,hy,hy2⟩:=y
     have k1:=hy w1 sc1
     have k2:=hy2 w2 sc2;rw[g1]at k1;cases k1;rw[g3]at k2;cases k2;subst e2 e3;refine⟨aU hpn _,fj hpn (λzz=> ?_) (Reps.FS (g2.move hP hO hsm) (Reps.FS (g4.move hP hO hsm) Reps.II))⟩
     obtain⟨o,w⟩:=htr pp zz;rw[hpn]at w;cases w
    ·cases ht
  ·exact q'.elim
 ·exact q'.elim
end
end Tr
namespace Tr
open PySem
def c0 (g:List T->Rs T)(_:En):Rs T:=match g []with
 | .ok t=> .ok t
 | _=> .bad
end Tr
namespace PySem
open Sem (wp)
open L2 (itAt)
structure PW (prog:J9)(w:Kx)(A:Km)(I:Addr)(T:String)(fp wr:List Addr)(n:Nat)(R:Nat->JK->JK->Prop)(St:Nat->Option Addr->Heap->Prop):Prop where
 sub:∀b∈wr,b∈fp
 ty:∀i o (s:JL),St i o s.heap->s.TypeIs (.ref I) T
 frame:∀i o h h',St i o h->(∀b∈fp,∀ob,h.get? b=some ob->h'.get? b=some ob)->St i o h'
 item:∀i o (s:JL) (Q:Option JK->JL->Prop) (E:JK->JL->Prop),i<n->St i o s.heap->(∀t,o=some t->∃ob,s.heap.get? t=some ob) →
  (∀p h' tk x y,R i x y->s.heap.objs.size<=p->RA h' p x y->St (i+1) (some (o.getD p)) h'->(∀b ob,b∉wr->s.heap.get? b=some ob->h'.get? b=some ob)->Q (some (.ref p)) { s with heap:=h',toks:=tk })->wpAny (model prog w) A (pyNext (.ref I)) Q E s
 done:∀o (s:JL) (Q:Option JK->JL->Prop) (E:JK->JL->Prop),St n o s.heap->(∀t,o=some t->∃ob,s.heap.get? t=some ob)->(∀h' tk,(∀b ob,b∉wr->s.heap.get? b=some ob->h'.get? b=some ob)->Q none { s with heap:=h',toks:=tk })->wpAny (model prog w) A (pyNext (.ref I)) Q E s
 self:∀i o (s:JL) (Q:JK->JL->Prop) (E:JK->JL->Prop),St i o s.heap->Q (.ref I) s->wpAny (model prog w) A (pyIter (.ref I)) Q E s
end PySem
namespace Tr
open PySem PySem.Spec PyProof.Rows L2 PySem.W
theorem sr {prog:J9}{w:Kx}:∀{vs:List JK} {ns:List Int},Lj vs ns->PySem.ItemsAre (intKind prog w) ns vs
 | _,_,.nil=> .nil
 | _,_,.cons n t r=> .cons (by show PR n (.int n t)=true;simp[PR]) (sr r)
theorem hZ (t u:Int)(a b:List Int):a7 (t::a) (u::b)=if t=u then a7 a b else decide (t<u):=rfl
theorem Cw {prog:J9}{w:Kx}{A:Km}{E:JK->JL->Prop}{s:JL}{a b:Int}{t u:Tok}{Q:Bool->JL->Prop}(h:Q (decide (a<b)) s):∀k,wpAny (model prog w) A (oneLt' k (.int a t) (.int b u)) Q E s
 | true=>oneLt_int h
 | false=>by
  rw[oneLt'_eq];simp only[KU,if_false];exact JG (wpAny_lt_int (show wpAny (model prog w) A (truthOfDropped (.bool (decide (a<b)))) Q E s from K5 h))
theorem uq:∀(l m:List Int),HT.lexLt l m=a7 l m
 | [],[] =>rfl
 | [],_::_=>rfl
 | _::_,[] =>rfl
 | a::l,b::m=>by
  rw[HT.lexLt_cons,uq l m]
  rfl
section
variable {prog:J9}{w:Kx}{A:Km}{E:JK->JL->Prop}{s:JL}
theorem sh {b fin:Bool}{Q:Bool->JL->Prop}:∀{xs:List JK} {ns:List Int} (_:Lj xs ns) {ys:List JK} {ms:List Int} (_:Lj ys ms) (i:Nat),fin=decide (xs.length<ys.length)->Q (a7 ns ms) s->KatLex prog w A b fin Q (xs.zip ys) i s
 | _,_,.nil,_,_,.nil,i,hf,q=>kat_nil (by subst hf;exact q)
 | _,_,.nil,_,_,.cons _ _ _,i,hf,q=>kat_nil (by rw[hf,decide_eq_true (by simp)];exact q)
 | _,_,.cons _ _ _,_,_,.nil,i,hf,q=>kat_nil (by rw[hf,decide_eq_false (by simp)];exact q)
 | _,_,.cons n t r,_,_,.cons m u r2,i,hf,q=>by
  rw[hZ]at q;refine kat_cons (SC ?_)
  by_cases z:n=m
  ·rw[beq_iff_eq.mpr z]
   rw[if_pos z]at q;exact kat_yes (sh r r2 (i+1) (by rw[hf];simp) q)
  ·rw[beq_eq_false_iff_ne.mpr z]
   rw[if_neg z]at q;exact kat_no (Cw q _)
def rkR:RK where
 V:=RowV
 inj:=RowV.inj
 b:=true
 ty:="int"
 hb:=by decide+kernel
 ht:=by decide+kernel
 on:=λ⟨a,its,e,⟨o,ho,hc⟩,i,ne⟩ up=>⟨a,its,e,⟨o,up _ _ ho,hc⟩,i,ne⟩
 fst:=λ⟨a,its,e,⟨o,ho,hc,n,hd⟩,i,ne⟩=>by
  obtain⟨xs⟩:=its
  cases i with
  | nil=>exact absurd rfl ne
  | cons m t r=>exact⟨a,o,_,n,_,e,ho,hc,hd,rfl,λ_=> .now⟩
 lt:=λ{prog w A s E x y a b Q} hu ⟨xa,xi,ex,⟨xo,xp,_,xn,xd⟩,xi',_⟩ ⟨ya,yi,ey,⟨yo,yp,_,yn,yd⟩,yi',_⟩ q=>by
  subst ex ey;exact kat_lt xp xd yp yd (sh xi' yi' 0 (by rw[Kv,Kv]) q)
end
section
variable {X:Cx}
theorem rp {pins:List (Addr×Obj)}{σ:L2.St}{H:Hp}{s:JL}{O:Ow}(I:Inv X pins σ H s):∀{l:List T} {k:List (List Int)} {vs:List V} {us:List JK},rowsT l=some k->Reps X.K O H l vs->Vals vs us →
  us.map (rkR.row s.heap)=k/\∀u∈us,RowV s.heap u (rkR.row s.heap u)/\RelV (eC u) u/\Rep X.K O H (.tup ((rkR.row s.heap u).map .int)) (eC u)
 | [],k,vs,us,h,r,v=>by
  cases Reps.AC.mp r;cases v;cases h
  exact⟨rfl,λu hu=>by cases hu⟩
 | t::l,k,vs,us,h,r,v=>by
  obtain⟨x,xs,rfl,p,q⟩:=Reps.me.mp r
  cases v with
  | @cons _ u _ us' v1 v2=>
   cases t with
   | tup m=>
    unfold rowsT at h
    split at h
    ·rename_i ns k' h1 h2
     by_cases ne:ns= []
     ·rw[if_pos ne]at h;cases h
     ·rw[if_neg ne]at h;cases h
      obtain⟨e1,e2⟩:=rp I h2 q v2;obtain⟨a,ws,rfl,_,g3,g4⟩:=Rep.Da.mp p;obtain rfl:u=Kb a:=v1;obtain⟨its,w1,t1,_⟩:=I.tuple (SqT.of g3)
      have hi:=cp h1 g4 w1;obtain⟨o,ho,hc,n,hd⟩:=t1
      have row:RowV s.heap (.ref a) ns:=⟨a,_,rfl,⟨o,ho,hc,n,hd⟩,by simpa using hi,ne⟩
      have em:m=ns.map .int:=iG h1;subst em;refine⟨by rw[JP,e1,RK.IJ (R:=rkR) row],λu hu=> ?_⟩
      rcases JT.mp hu with rfl | hu
      ·rw[RK.IJ (R:=rkR) row];exact⟨row,rfl,p⟩
      ·exact e2 u hu
    ·cases h
   | _=>cases h
theorem lC {K:JH}{O:Ow}{H:Hp}{h:Heap}:∀{us:List JK},(∀u∈us,RelV (eC u) u/\Rep K O H (.tup ((rkR.row h u).map .int)) (eC u))->Vals (us.map eC) us/\Reps K O H (us.map λu=> .tup ((rkR.row h u).map .int)) (us.map eC)
 | [],_=>⟨.nil,Reps.II⟩
 | u::us,hu=>by
  obtain⟨h1,h2⟩:=hu u JO;obtain⟨g1,g2⟩:=lC λv hv=>hu v (JJ _ hv)
  exact⟨.cons h1 g1,Reps.me.mpr ⟨_,_,rfl,h2,g2⟩⟩
theorem uE (hu:X.A.units+70<cLine):CallT X (.builtin "sorted") q0:=by
 intro pins s σ H O ts vs us Q I hf rs rv hp;unfold q0 at hp
 split at hp
 ·rename_i l
  obtain⟨v,rfl,r⟩:=rs.one
  split at hp
  ·rename_i k hk
   by_cases h64:k.length<64
   ·rw[if_pos h64]at hp
    obtain⟨a,ws,rfl,n,q,z⟩:=Rep.Fk.mp r;obtain⟨u,rfl,ru⟩:=ja rv;obtain rfl:u=Kb a:=ru;obtain⟨its,r',pl,hz⟩:=I.list (SqL.of q);obtain⟨e1,e2⟩:=rp I hk z r'
    have hz1:((s.heap.push (seqObj "list" #[] 0)).update s.heap.objs.size (K8 (· ++its.toArray))).objs.size=s.heap.objs.size+1:=by rw[P8,Ku]
    have keep:∀b o,s.heap.get? b=some o->((s.heap.push (seqObj "list" #[] 0)).update s.heap.objs.size (K8 (· ++its.toArray))).get? b=some o:=λb o e=>by
     have nb:b≠s.heap.objs.size:=J7 (JV e);rw[QX _ _ _ _ nb,PB _ _ _ nb]
     exact e
    refine uX (R:=rkR) (by omega) λA' _=>collect_list pl.isList ⟨λv hv=>⟨_,rkR.on (e2 v hv).1 keep⟩,by rw[<-JQ (rkR.row s.heap),e1];exact h64,λout g1 g2=> ?_⟩ (by rw[<-JQ (rkR.row s.heap),e1,Me];omega)
    rw[KO λv hm=>show _=rkR.row s.heap v from RK.IJ (R:=rkR) (rkR.on (e2 v (g1.mem_iff.mp hm)).1 keep)]at g2
    dsimp only
    rw[hz1]
    have g3:=yE (e1▸g1.map (rkR.row s.heap)) g2;obtain⟨k1,k2⟩:=lC (us:=out.toList) (K:=X.K) (O:=O) (H:=H) (h:=s.heap) λu hu=>(e2 u (g1.mem_iff.mp hu)).2
    obtain⟨e,he⟩:=sortedAll_at s.heap its out
    have hfr:H (s.heap.objs.size+1)=none:=I.hok.fresh (Nat.le_succ _);refine⟨.ref (s.heap.objs.size+1),_,I.laid (t':=s.toks) (λ_ _=>sortedAll_old) (Nat.le_succ _) (show ObjOk X.prog X.w _ _ _ (.lst (out.toList.map eC))from⟨?_,out.toList,e,k1,he⟩),rfl,hp _ (aU hfr _) _ ?_⟩
    ·rw[JQ,g1.length_eq,<-JQ (rkR.row s.heap),e1,Me];omega
    ·have:=gb (p:=s.heap.objs.size+1) hfr (hf _ hfr) k2
     rw[<-g3,Lc];exact this
   ·rw[if_neg h64]at hp;exact hp.elim
  ·exact hp.elim
 ·exact hp.elim
end
end Tr
namespace Tr
open PySem
inductive Fx where
 | nx (Z:En) | rt (t:T) (Z:En)
def mN (Z:En):Rs Fx:=.ok (.nx Z)
end Tr
namespace Tr
open PySem PySem.Spec PyProof.Rows L2
abbrev one (j:Nat)(m:Ow):Mn:=noM.set j m
structure QE (X:Cx)(e:Expr)(f:En->Rs T):Prop where
 h:b7 X e f
structure QA (X:Cx)(e:List Expr)(f:En->Rs (List T)):Prop where
 h:qG X e f
structure QT (X:Cx)(e:Expr)(f:En->Rs Bool):Prop where
 h:tH X e f
structure QW (X:Cx)(e:Expr)(f:En->Rs Bool):Prop where
 h:DL X e f
structure QS (X:Cx)(e:Stmt)(f:En->Rs Fl):Prop where
 h:nE X e f
structure AQ (X:Cx)(e:List Stmt)(f:En->Rs Fl):Prop where
 h:k6 X e f
structure QG (X:Cx)(e:Expr)(f:T->En->Rs En):Prop where
 h:Dd X e f
structure IE (X:Cx)(e:List Expr)(f:List T->En->Rs En):Prop where
 h:AU X e f
structure QI (X:Cx)(t e:Expr)(f:En->Rs (List T)):Prop where
 h:AS X t e f
structure QO (X:Cx)(e:Option Expr)(f:En->Rs (Option Int)):Prop where
 h:Ij X e f
structure Gn (X:Cx)(e:List Expr)(f:En->Rs Bool):Prop where
 h:wj X e (xQ X f)
theorem af {X:Cx}(i:Nat){x:Str}{pos:Pos}(hN:autoParam ((Cx.N X)[i]? =some x) u_)(hv:autoParam (xT (Mc (Cx.env X)) x) v_)(hd:autoParam ((x == J0 "__debug__")=false) s_)(hcd:autoParam ((x == J0 "__classdict__")=false) s_):QE X (KB x pos) (vr i):=
 ⟨GR (i:=i) (hN:=hN) (hv:=hv) (hd:=hd) (hcd:=hcd)⟩
theorem ak {X:Cx}{i:Int}{j:Nat}{pos:Pos}:QE X (Ri (Const.int i) j pos) (cn (T.int i)):=
 ⟨G0 ⟩
theorem dN {X:Cx}{i:Bool}{j:Nat}{pos:Pos}:QE X (Ri (Const.bool i) j pos) (cn (T.bl i)):=
 ⟨q_bl ⟩
theorem cF {X:Cx}{j:Nat}{pos:Pos}:QE X (Ri Const.none j pos) (cn T.non):=
 ⟨GW ⟩
theorem A9 {X:Cx}{x:Str}{i:Int}{u:JK}{pos:Pos}(hm:Cx.mg X x=some u)(r:L2.RelV (V.int i) u)(hg:autoParam (Gl X x) u_)(hd:autoParam ((x == J0 "__debug__")=false) s_):QE X (KB x pos) (cn (T.int i)):=
 ⟨EA (hm:=hm) (r:=r) (hg:=hg) (hd:=hd)⟩
theorem ah {X:Cx}:QA X [] aj:=
 ⟨Ez ⟩
theorem ag {X:Cx}{e:Expr}{es:List Expr}{f:En->Rs T}{g:En->Rs (List T)}(he:QE X e f)(hr:QA X es g)(hn:autoParam (bL e=true) u_):QA X (e::es) (ae f g):=
 ⟨qa_c (he:=he.h) (hr:=hr.h) (hn:=hn)⟩
theorem bK {X:Cx}{es:List Expr}{x1:Nat}{pos:Pos}{f:En->Rs (List T)}(h:QA X es f):QE X (Expr.Tuple es x1 pos) (br f):=
 ⟨GS (h:=h.h)⟩
theorem fP {X:Cx}{es:List Expr}{pos:Pos}{f:En->Rs (List T)}(h:QA X es f):QE X (Expr.List es pos) (fD f):=
 ⟨GY (h:=h.h)⟩
theorem az {X:Cx}{a b:Expr}{fa fb:En->Rs T}{pos:Pos}{op:Tb}{g:T->T->Rs T}(ho:OpT X (LZ op) g)(ha:QE X a fa)(hb:QE X b fb):QE X (Expr.BinOp a op b pos) (o2 g fa fb):=
 ⟨G3 (ho:=ho) (ha:=ha.h) (hb:=hb.h)⟩
theorem cS {X:Cx}{a b:Expr}{fa fb:En->Rs T}{pos:Pos}{op:CmpOp}{g:T->T->Rs T}(ho:OpT X (KC op) g)(ha:QE X a fa)(hb:QE X b fb)(hm:autoParam (PZ op b=false) u_):QE X (Se a [op] [b] pos) (o2 g fa fb):=
 ⟨G2 (ho:=ho) (ha:=ha.h) (hb:=hb.h) (hm:=hm)⟩
theorem oK {X:Cx}{a:Expr}{fa:En->Rs T}{pos:Pos}(ha:QE X a fa):QE X (Sf UnaryOp.USub a pos) (o1 pW fa):=
 ⟨GX (ha:=ha.h)⟩
theorem qN {X:Cx}{a b c:Expr}{fa fb fc:En->Rs T}{pos:Pos}{op op':CmpOp}{g g':T->T->Rs T}(ho:OpT X (KC op) g)(ho':OpT X (KC op') g')(ha:QE X a fa)(hb:QE X b fb)(hc:QE X c fc)(hm:autoParam (lastMarks [op,op'] [b,c] =false) w_):QE X (Se a [op,op'] [b,c] pos) (ch g g' fa fb fc):=
 ⟨BR (ho:=ho) (ho':=ho') (ha:=ha.h) (hb:=hb.h) (hc:=hc.h) (hm:=hm)⟩
theorem cO {X:Cx}{e:Expr}{f:En->Rs T}(h:QE X e f)(he:autoParam (∀(whole:Sem JK),PySem.isTrue e (Cx.env X) whole=(do let v <-whole;standAt (Expr.pos e);holding [v] (truthy v))) t_):QT X e (tb f):=
 ⟨Ed (h:=h.h) (he:=he)⟩
theorem aP {X:Cx}{a b:Expr}{fa fb:En->Rs T}{pos:Pos}{op:CmpOp}{g:T->T->Rs T}(ho:OpT X (KC op) g)(ha:QE X a fa)(hb:QE X b fb)(hm:autoParam (PZ op b=false) u_):QT X (Se a [op] [b] pos) (tb (o2 g fa fb)):=
 ⟨Ef (ho:=ho) (ha:=ha.h) (hb:=hb.h) (hm:=hm)⟩
theorem lA {X:Cx}{a:Expr}{pos:Pos}{f:En->Rs Bool}(ha:QT X a f):QW X (Mu Qy [a] pos) f:=
 ⟨BD (ha:=ha.h)⟩
theorem jz {X:Cx}{a:Expr}{pos:Pos}{f:En->Rs Bool}(ha:QT X a f):QW X (Mu Rj [a] pos) f:=
 ⟨Ea (ha:=ha.h)⟩
theorem k8 {X:Cx}{a b:Expr}{pos:Pos}{f g:En->Rs Bool}{bq:List Expr}(ha:QT X a f)(hb:QW X (Mu Qy (b::bq) pos) g):QW X (Mu Qy (a::b::bq) pos) (ir f g):=
 ⟨Eb (ha:=ha.h) (hb:=hb.h)⟩
theorem j0 {X:Cx}{a b:Expr}{pos:Pos}{f g:En->Rs Bool}{bq:List Expr}(ha:QT X a f)(hb:QW X (Mu Rj (b::bq) pos) g):QW X (Mu Rj (a::b::bq) pos) (tD f g):=
 ⟨GL (ha:=ha.h) (hb:=hb.h)⟩
theorem kE {X:Cx}{f:En->Rs Bool}{e:Expr}(h:QW X e f):QT X e f:=
 ⟨qt_w (h:=h.h)⟩
theorem dv {X:Cx}{a:Expr}{pos:Pos}{f:En->Rs Bool}(ha:QT X a f):QT X (Sf UnaryOp.Not a pos) (eF f):=
 ⟨Ee (ha:=ha.h)⟩
theorem de {X:Cx}{a:Expr}{fa:En->Rs T}{pos:Pos}{op:BoolOp}(h:QE X a fa):QE X (Mu op [a] pos) fa:=
 ⟨GU (h:=h.h)⟩
theorem df {X:Cx}{a b:Expr}{fa fb:En->Rs T}{pos:Pos}{bq:List Expr}(ha:QE X a fa)(hb:QE X (Mu Qy (b::bq) pos) fb):QE X (Mu Qy (a::b::bq) pos) (cU fa fb):=
 ⟨G4 (ha:=ha.h) (hb:=hb.h)⟩
theorem uR {X:Cx}{a b:Expr}{fa fb:En->Rs T}{pos:Pos}{bq:List Expr}(ha:QE X a fa)(hb:QE X (Mu Rj (b::bq) pos) fb):QE X (Mu Rj (a::b::bq) pos) (zg fa fb):=
 ⟨q_or (ha:=ha.h) (hb:=hb.h)⟩
theorem tJ {X:Cx}{a:Expr}{fa:En->Rs T}{pos:Pos}(ha:QE X a fa):QE X (Sf UnaryOp.Not a pos) (o1 uh fa):=
 ⟨GV (ha:=ha.h)⟩
theorem x6 {X:Cx}{a b c:Expr}{fa fb:En->Rs T}{pos:Pos}{f:En->Rs Bool}(hc:QT X c f)(ha:QE X a fa)(hb:QE X b fb):QE X (Expr.IfExp c a b pos) (DF f fa fb):=
 ⟨q_if (hc:=hc.h) (ha:=ha.h) (hb:=hb.h)⟩
theorem aC {X:Cx}{a b:Expr}{fa fb:En->Rs T}{pos:Pos}(ha:QE X a fa)(hb:QE X b fb)(hs:autoParam (wg b) x_):QE X (Oa a b pos) (o2 aS fa fb):=
 ⟨q_ix (ha:=ha.h) (hb:=hb.h) (hs:=hs)⟩
theorem xX {X:Cx}:QO X none pN:=
 ⟨BJ ⟩
theorem xW {X:Cx}{a:Expr}{fa:En->Rs T}(ha:QE X a fa):QO X (some a) (pS fa):=
 ⟨BI (ha:=ha.h)⟩
theorem xY {X:Cx}{a:Expr}{fa:En->Rs T}{pos:Pos}{lo hi:Option Expr}{p2:Pos}{fl fu:En->Rs (Option Int)}(ha:QE X a fa)(hl:QO X lo fl)(hu:QO X hi fu):QE X (Oa a (Expr.Slice lo hi none p2) pos) (sl fa fl fu):=
 ⟨BQ (ha:=ha.h) (hl:=hl.h) (hu:=hu.h)⟩
theorem cj {X:Cx}{e:Expr}{es:List Expr}{fs:En->Rs (List T)}{pos p:Pos}{x:Str}{id:String}{g:List T->Rs T}(hc:CallT X (Rk id) g)(hm:Cx.mg X x=none)(hv:Ky x=some (Rk id))(ha:QA X (e::es) fs)(hn:autoParam (ba (e::es)=true) u_)(hg:autoParam (Gl X x) u_)(h1:autoParam (x≠J0 "__name__") s_)(h2:autoParam ((x == J0 "__debug__")=false) s_):QE X (Md (KB x p) (e::es) [] pos) (cl g fs):=
 ⟨q_cB (hc:=hc) (hm:=hm) (hv:=hv) (ha:=ha.h) (hn:=hn) (hg:=hg) (h1:=h1) (h2:=h2)⟩
theorem nH {X:Cx}{e:Expr}{es:List Expr}{fs:En->Rs (List T)}{pos p:Pos}{x:Str}{Ty:String}{g:List T->Rs T}(hc:CallT X (LH Ty) g)(hm:Cx.mg X x=none)(hv:Ky x=some (LH Ty))(ha:QA X (e::es) fs)(hn:autoParam (ba (e::es)=true) u_)(hg:autoParam (Gl X x) u_)(h1:autoParam (x≠J0 "__name__") s_)(h2:autoParam ((x == J0 "__debug__")=false) s_):QE X (Md (KB x p) (e::es) [] pos) (cl g fs):=
 ⟨q_cT (hc:=hc) (hm:=hm) (hv:=hv) (ha:=ha.h) (hn:=hn) (hg:=hg) (h1:=h1) (h2:=h2)⟩
theorem zq_c {X:Cx}{e:Expr}{es:List Expr}{fs:En->Rs (List T)}{pos p:Pos}{x:Str}{n k:Nat}{f:Addr}{fd:L0}{ps:List Str}{g:List T->Rs T}(F:Gi (Cx.prog X) (Cx.w X) (Cx.K X) (Cx.mg X) (Cx.base X) k f fd ps n g)(hr:Room k (Cx.A X))(hm:Cx.mg X x=some (Kb f))(hk:W.keepIn (Cx.K X) (Kb f)=true)(hb:L2.Binds (Cx.K X) fd ps [])(hl:∀(Z:En) (ts:List T),fs Z=Rs.ok ts->MZ ts=n)(ha:QA X (e::es) fs)(hps:autoParam (MZ ps=n) u_)(hn:autoParam (ba (e::es)=true) u_)(hg:autoParam (Gl X x) u_)(h2:autoParam ((x == J0 "__debug__")=false) s_):QE X (Md (KB x p) (e::es) [] pos) (cl g fs):=
 ⟨q_c (F:=F) (hr:=hr) (hm:=hm) (hk:=hk) (hb:=hb) (hl:=hl) (ha:=ha.h) (hps:=hps) (hn:=hn) (hg:=hg) (h2:=h2)⟩
theorem x5 {X:Cx}{a:Expr}{fa:En->Rs T}{pos p p2:Pos}{tn:Str}{Ty:String}(hm:Cx.mg X (J0 "isinstance")=none)(hmt:Cx.mg X tn=none)(hv:Ky tn=some (LH Ty))(ha:QE X a fa)(hn:autoParam (bL a=true) u_)(hg:autoParam (Gl X (J0 "isinstance")) u_)(hgt:autoParam (Gl X tn) u_)(h1:autoParam (tn≠J0 "__name__") s_)(h2:autoParam ((tn == J0 "__debug__")=false) s_):QE X (Md (KB (J0 "isinstance") p) [a,KB tn p2] [] pos) (o1 (CB Ty) fa):=
 ⟨q_is (hm:=hm) (hmt:=hmt) (hv:=hv) (ha:=ha.h) (hn:=hn) (hg:=hg) (hgt:=hgt) (h1:=h1) (h2:=h2)⟩
theorem aq {X:Cx}{pos:Pos}{x:Str}(i:Nat)(hN:N3 (Cx.N X))(hi:autoParam ((Cx.N X)[i]? =some x) u_)(hx:autoParam (L2.Loc (Mc (Cx.env X)) x) y_)(hf:autoParam (Cx.fn X x=true\/M4 x (OR (Mc (Cx.env X)))=some NameKind.local) r_):QG X (KB x pos) (gN i):=
 ⟨BO (i:=i) (hN:=hN) (hi:=hi) (hx:=hx) (hf:=hf)⟩
theorem gP {X:Cx}:IE X [] sv:=
 ⟨BN ⟩
theorem cD {X:Cx}{e:Expr}{es:List Expr}{g:T->En->Rs En}{gs:List T->En->Rs En}(h1:QG X e g)(h2:IE X es gs)(hs:autoParam (List.map (λx=>Prod.snd x) (LK (e::es) (Cx.env X))=assign e (Cx.env X)::List.map (λx=>Prod.snd x) (LK es (Cx.env X))) u_):IE X (e::es) (jy g gs):=
 ⟨yN (h1:=h1.h) (h2:=h2.h) (hs:=hs)⟩
theorem jC {X:Cx}{es:List Expr}{pos:Pos}{k n:Nat}{gs:List T->En->Rs En}(hc:Cx.calm X=true)(h:IE X es gs)(hn:autoParam (MZ (LK es (Cx.env X))=n) u_)(hst:autoParam (List.findIdx? (λx=>Prod.fst x) (LK es (Cx.env X))=none) u_):QG X (Expr.Tuple es k pos) (gT n gs):=
 ⟨Ey (hc:=hc) (h:=h.h) (hn:=hn) (hst:=hst)⟩
theorem cI {X:Cx}{a:Expr}{fs:En->Rs (List T)}{pos p:Pos}{tg:Expr}(hm:Cx.mg X (J0 "range")=none)(ha:QA X [a] fs)(hg:autoParam (Gl X (J0 "range")) u_)(hs:autoParam (Kc [a] (Cx.env X)= [(false,eval a (Cx.env X))]) u_):QI X tg (Md (KB (J0 "range") p) [a] [] pos) (iR fs):=
 ⟨wM (hm:=hm) (ha:=ha.h) (hg:=hg) (hs:=hs)⟩
theorem bU {X:Cx}:Gn X [] bT:=
 ⟨BL ⟩
theorem jA {X:Cx}{c:Expr}{f:En->Rs Bool}(h:QT X c f):Gn X [c] f:=
 ⟨BK (h:=h.h)⟩
theorem Gp {X:Cx}{pos:Pos}{elt tg iter:Expr}{ifs:List Expr}{scope:NR}{N':List Str}{src:List (Option Nat)}{fi:En->Rs (List T)}{tgt:T->En->Rs En}{fc:En->Rs Bool}{fe:En->Rs T}(hc:Cx.calm X=true)(S:LcScope X scope N' src)(hi:QI X tg iter fi)(block:∀(cl:List (Str×Addr)) (C:Addr) (s₀:JL) (H₀:Hp) (fp:List Addr),QG (bw X scope cl N' C s₀ H₀ fp) tg tgt/\Gn (bw X scope cl N' C s₀ H₀ fp) ifs fc/\QE (bw X scope cl N' C s₀ H₀ fp) elt fe)(hs:autoParam (∀(x:JK),KL iter (Cx.env X) x=pure x) t_):QE X (NN elt [{ target:=tg,iter:=iter,ifs:=ifs,is_async:=0 }] scope pos) (dU fi src tgt fc fe):=
 ⟨q_lc (hc:=hc) (S:=S) (hi:=hi.h) (block:=λa1 a2 a3 a4 a5=>⟨(block a1 a2 a3 a4 a5).1.h,(block a1 a2 a3 a4 a5).2.1.h,(block a1 a2 a3 a4 a5).2.2.h⟩) (hs:=hs)⟩
theorem aZ {X:Cx}:AQ X [] sN:=
 ⟨Ek ⟩
theorem ao {X:Cx}{st:Stmt}{bq:List Stmt}{F G:En->Rs Fl}(h1:QS X st F)(h2:AQ X bq G):AQ X (st::bq) (ay F G):=
 ⟨BH (h1:=h1.h) (h2:=h2.h)⟩
theorem ar {X:Cx}{st:Stmt}{F:En->Rs Fl}(h:QS X st F):AQ X [st] F:=
 ⟨Ej (h:=h.h)⟩
theorem au {X:Cx}{a:Expr}{fa:En->Rs T}{pos:Pos}(ha:QE X a fa):QS X (Stmt.Return (some a) pos) (aO fa):=
 ⟨Eh (ha:=ha.h)⟩
theorem bo {X:Cx}{c:Expr}{pos:Pos}{f:En->Rs Bool}{A B:List Stmt}{F G:En->Rs Fl}(hc:QT X c f)(ha:AQ X A F)(hb:AQ X B G):QS X (Stmt.If c A B pos) (eO f F G):=
 ⟨GP (hc:=hc.h) (ha:=ha.h) (hb:=hb.h)⟩
theorem DO {X:Cx}{pos:Pos}{elt tg iter:Expr}{ifs:List Expr}{scope:NR}{spos py:Pos}{N':List Str}{src:List (Option Nat)}{fi:En->Rs (List T)}{tgt:T->En->Rs En}{fc:En->Rs Bool}{fe:En->Rs T}(i:Nat){y:Str}(hc:Cx.calm X=true)(S:LcScope X scope N' src)(hi:QI X tg iter fi)(block:∀(cl:List (Str×Addr)) (C:Addr) (s₀:JL) (H₀:Hp) (fp:List Addr),QG (bw X scope cl N' C s₀ H₀ fp) tg tgt/\Gn (bw X scope cl N' C s₀ H₀ fp) ifs fc/\QE (bw X scope cl N' C s₀ H₀ fp) elt fe)(hN:N3 (Cx.N X))(hiy:autoParam ((Cx.N X)[i]? =some y) u_)(hy:autoParam (L2.Loc (Mc (Cx.env X)) y) y_)(hsw:autoParam (Lz (NN elt [{ target:=tg,iter:=iter,ifs:=ifs,is_async:=0 }] scope pos) (some (KB y py)) (Ng spos) (Cx.env X)=pure true) u_)(hf:autoParam (Cx.fn X y=true\/M4 y (OR (Mc (Cx.env X)))=some NameKind.local) r_)(hs:autoParam (∀(x:JK),KL iter (Cx.env X) x=pure x) t_):QS X (OS [KB y py] (NN elt [{ target:=tg,iter:=iter,ifs:=ifs,is_async:=0 }] scope pos) spos) (cw (dU fi src tgt fc fe) (gN i)):=
 ⟨GO (i:=i) (hc:=hc) (S:=S) (hi:=hi.h) (block:=λa1 a2 a3 a4 a5=>⟨(block a1 a2 a3 a4 a5).1.h,(block a1 a2 a3 a4 a5).2.1.h,(block a1 a2 a3 a4 a5).2.2.h⟩) (hN:=hN) (hiy:=hiy) (hy:=hy) (hsw:=hsw) (hf:=hf) (hs:=hs)⟩
theorem A6 {X:Cx}{pos:Pos}{elt tg iter:Expr}{ifs:List Expr}{scope:NR}{spos py:Pos}{N':List Str}{src:List (Option Nat)}{fi:En->Rs (List T)}{tgt:T->En->Rs En}{fc:En->Rs Bool}{fe:En->Rs T}(i:Nat){y:Str}(hc:Cx.calm X=true)(S:LcScope X scope N' src)(hi:QI X tg iter fi)(block:∀(cl:List (Str×Addr)) (C:Addr) (s₀:JL) (H₀:Hp) (fp:List Addr),QG (bw X scope cl N' C s₀ H₀ fp) tg tgt/\Gn (bw X scope cl N' C s₀ H₀ fp) ifs fc/\QE (bw X scope cl N' C s₀ H₀ fp) elt fe)(hN:N3 (Cx.N X))(hiy:autoParam ((Cx.N X)[i]? =some y) u_)(hy:autoParam (L2.Loc (Mc (Cx.env X)) y) y_)(hsw:autoParam (Lz (NN elt [{ target:=tg,iter:=iter,ifs:=ifs,is_async:=0 }] scope pos) (some (KB y py)) (Ng spos) (Cx.env X)=pure true) u_)(hf:autoParam (Cx.fn X y=true\/M4 y (OR (Mc (Cx.env X)))=some NameKind.local) r_)(hs:autoParam (∀(x:JK),KL iter (Cx.env X) x=pure x) t_):QS X (OS [KB y py] (NN elt [{ target:=tg,iter:=iter,ifs:=ifs,is_async:=0 }] scope pos) spos) (rn i (dU fi src tgt fc fe)):=
 ⟨El (i:=i) (hc:=hc) (S:=S) (hi:=hi.h) (block:=λa1 a2 a3 a4 a5=>⟨(block a1 a2 a3 a4 a5).1.h,(block a1 a2 a3 a4 a5).2.1.h,(block a1 a2 a3 a4 a5).2.2.h⟩) (hN:=hN) (hiy:=hiy) (hy:=hy) (hsw:=hsw) (hf:=hf) (hs:=hs)⟩
theorem aH {X:Cx}{a:Expr}{fa:En->Rs T}{pos:Pos}{tg:Expr}{g:T->En->Rs En}(ha:QE X a fa)(hg:QG X tg g)(hs:autoParam (OF [tg] a (Ng pos) (Cx.env X)=pure false) u_)(hw:autoParam (OG [tg] a (Cx.env X)=pure none) u_)(h1:autoParam (List.map (λx=>Prod.snd x) (LK [tg] (Cx.env X))= [assign tg (Cx.env X)]) u_):QS X (OS [tg] a pos) (cw fa g):=
 ⟨Es (ha:=ha.h) (hg:=hg.h) (hs:=hs) (hw:=hw) (h1:=h1)⟩
theorem bS {X:Cx}{a:Expr}{fa:En->Rs T}{pos:Pos}(ha:QE X a fa)(hs:autoParam (Lz a none (Ng pos) (Cx.env X)=pure false) u_):QS X (Stmt.Expr a pos) (nc fa):=
 ⟨BG (ha:=ha.h) (hs:=hs)⟩
theorem cm {X:Cx}{pos:Pos}{tg iter:Expr}{body:List Stmt}{fi:En->Rs (List T)}{g:T->En->Rs En}{F:En->Rs Fl}(hc:Cx.calm X=true)(hi:QI X tg iter fi)(hg:QG (Cx.nox X) tg g)(hb:AQ (Cx.nox X) body F)(hs:autoParam (∀(x:JK),KL iter (Cx.env X) x=pure x) t_):QS X (Stmt.For tg iter body [] pos) (dY fi g F):=
 ⟨Em (hc:=hc) (hi:=hi.h) (hg:=hg.h) (hb:=hb.h) (hs:=hs)⟩
theorem nG {X:Cx}{pos:Pos}{c:Expr}{body:List Stmt}{fc:En->Rs Bool}{F:En->Rs Fl}(n:Nat)(hc:QT (Cx.nox X) c fc)(hb:AQ (Cx.nox X) body F):QS X (Stmt.While c body [] pos) (bp fc F n):=
 ⟨yL (n:=n) (hc:=hc.h) (hb:=hb.h)⟩
theorem bD {X:Cx}{a:Expr}{fa:En->Rs T}{tg:Expr}(ha:QE X a fa):QI X tg a (iS fa):=
 ⟨Ex (ha:=ha.h)⟩
theorem jB {X:Cx}{a:Expr}{fs:En->Rs (List T)}{p pos:Pos}{elts:List Expr}{kk:Nat}{tpos:Pos}(hm:Cx.mg X (J0 "enumerate")=none)(ha:QA X [a] fs)(hg:autoParam (Gl X (J0 "enumerate")) u_)(hs:autoParam (Kc [a] (Cx.env X)= [(false,eval a (Cx.env X))]) u_):QI X (Expr.Tuple elts kk tpos) (Md (KB (J0 "enumerate") p) [a] [] pos) (iE fs):=
 ⟨BM (hm:=hm) (ha:=ha.h) (hg:=hg) (hs:=hs)⟩
theorem fX {X:Cx}{es:List Expr}{pos p2 p3:Pos}{x:Str}(i:Nat){f:En->Rs (List T)}(hN:N3 (Cx.N X))(ha:QA X es f)(hi:autoParam ((Cx.N X)[i]? =some x) u_)(hx:autoParam (L2.Loc (Mc (Cx.env X)) x) y_)(hs:autoParam (Lz (Expr.List es p2) (some (KB x p3)) (Ng pos) (Cx.env X)=pure false) u_)(hf:autoParam (Cx.fn X x=true\/M4 x (OR (Mc (Cx.env X)))=some NameKind.local) r_):QS X (OS [KB x p3] (Expr.List es p2) pos) (gK i f):=
 ⟨BE (i:=i) (hN:=hN) (ha:=ha.h) (hi:=hi) (hx:=hx) (hs:=hs) (hf:=hf)⟩
theorem iz {X:Cx}{a:Expr}{fa:En->Rs T}{pos p2:Pos}{x:Str}(i:Nat){apos cpos:Pos}(ha:QE X a fa)(hN:autoParam ((Cx.N X)[i]? =some x) u_)(hv:autoParam (xT (Mc (Cx.env X)) x) v_)(hn:autoParam (bL a=true) u_)(hbase:autoParam (Lr (KB x p2) (J0 "append") (Cx.env X) (eval (KB x p2) (Cx.env X))=eval (KB x p2) (Cx.env X)) u_)(hline:autoParam ((PV apos == Ng cpos)=true) u_)(hd:autoParam ((x == J0 "__debug__")=false) s_)(hcd:autoParam ((x == J0 "__classdict__")=false) s_)(hsw:autoParam (Lz (Md (MQ (KB x p2) (J0 "append") apos) [a] [] cpos) none (Ng pos) (Cx.env X)=pure false) u_):QS X (Stmt.Expr (Md (MQ (KB x p2) (J0 "append") apos) [a] [] cpos) pos) (jm i fa):=
 ⟨Et (i:=i) (ha:=ha.h) (hN:=hN) (hv:=hv) (hn:=hn) (hbase:=hbase) (hline:=hline) (hd:=hd) (hcd:=hcd) (hsw:=hsw)⟩
theorem oJ {X:Cx}{a:Expr}{fa:En->Rs T}{pos p2:Pos}{x:Str}(i:Nat){apos cpos:Pos}(ha:QE X a fa)(hN:autoParam ((Cx.N X)[i]? =some x) u_)(hv:autoParam (xT (Mc (Cx.env X)) x) v_)(hn:autoParam (bL a=true) u_)(hbase:autoParam (Lr (KB x p2) (J0 "extend") (Cx.env X) (eval (KB x p2) (Cx.env X))=eval (KB x p2) (Cx.env X)) u_)(hline:autoParam ((PV apos == Ng cpos)=true) u_)(hd:autoParam ((x == J0 "__debug__")=false) s_)(hcd:autoParam ((x == J0 "__classdict__")=false) s_)(hsw:autoParam (Lz (Md (MQ (KB x p2) (J0 "extend") apos) [a] [] cpos) none (Ng pos) (Cx.env X)=pure false) u_):QS X (Stmt.Expr (Md (MQ (KB x p2) (J0 "extend") apos) [a] [] cpos) pos) (lP i fa):=
 ⟨Eo (i:=i) (ha:=ha.h) (hN:=hN) (hv:=hv) (hn:=hn) (hbase:=hbase) (hline:=hline) (hd:=hd) (hcd:=hcd) (hsw:=hsw)⟩
theorem fG {X:Cx}(i:Nat){st:Stmt}{F:En->Rs Fl}(h:QS X st F):QS X st (kQ i F):=
 ⟨Ep (i:=i) (h:=h.h)⟩
theorem xZ {X:Cx}(i:Nat){e:Expr}{f:En->Rs T}(h:QE X e f):QE X e (ln i f):=
 ⟨q_ln (i:=i) (h:=h.h)⟩
theorem xU {X:Cx}(i:Nat){e:Expr}{f:En->Rs Bool}(h:QT X e f):QT X e (AZ i f):=
 ⟨GN (i:=i) (h:=h.h)⟩
theorem DP {X:Cx}{pos:Pos}:QS X (Stmt.Continue pos) Dq:=
 ⟨GQ ⟩
theorem A7 {X:Cx}{a:Expr}{fa:En->Rs T}{pos:Pos}{x:Str}(i:Nat){pos':Pos}(hN:N3 (Cx.N X))(ha:QE X a fa)(hi:autoParam ((Cx.N X)[i]? =some x) u_)(hx:autoParam (L2.Loc (Mc (Cx.env X)) x) y_)(hf:autoParam (Cx.fn X x=true\/M4 x (OR (Mc (Cx.env X)))=some NameKind.local) r_):QS X (Stmt.AugAssign (KB x pos') Operator.Add a pos) (yF i fa):=
 ⟨Er (i:=i) (hN:=hN) (ha:=ha.h) (hi:=hi) (hx:=hx) (hf:=hf)⟩
theorem iy {X:Cx}{c:Str}{msg:Str}{C:Addr}{bm:List JK}{np p1 cpos pos:Pos}{j:Nat}(O:OX X.K C bm)(hm:X.mg c=some (.ref C))(hc:autoParam (X.calm=true) u_)(hg:autoParam (Gl X c) u_)(hd:autoParam ((c == ("__debug__" : Str))=false) s_) :
  QS X (.Raise (some (.Call (.Name c np) [.Constant (.str msg) j p1] [] cpos)) none pos) (wL c):=⟨yM O.own hc hm hg hd⟩
theorem uT {P:J9}{w:Kx}{K:JH}{mg:Str->Option JK}{base:Heap}{x qual:Str}{st:Stmt}{f:Addr}{fd:L0}{N ps:List Str}{k n:Nat}{F:En->Rs Fl}(Fn:L2.Fun K x qual st f fd)(S:dG N ps (aA st))(hn:ps.length=n)
  (hbody:∀(cdv:JK) (A:Km) (outer:List Env) (s:JL) (H:Hp) (E:XK),Room k (A.deeper (envOfC qual (aA st) s.heap.objs.size f cdv)) →
   ∀xe,AQ ((jU CX0 P w K mg base N qual (aA st) f cdv A outer s H E).FM xe) (cf st) F):Gi P w K mg base (k+1) f fd ps n (val n N.length F):=FT Fn S hn λcdv A outer s H E hr xe=>(hbody cdv A outer s H E hr xe).h
theorem oM {X:Cx}{a b:Expr}{fa fb:En->Rs T}{pos:Pos}(hu:Oi (Cx.A X)+1<cLine)(ha:QE X a fa)(hb:QE X b fb)(hs:autoParam (De b) x_):QE X (Oa a b pos) (o2 il fa fb):=
 ⟨G1 (hu:=hu) (ha:=ha.h) (hb:=hb.h) (hs:=hs)⟩
theorem uS {X:Cx}{a b:Expr}{fa fb:En->Rs T}{apos cpos:Pos}(hu:Oi (Cx.A X)+1<cLine)(ha:QE X a fa)(hb:QE X b fb)(hn:autoParam (bL b=true) u_)(hbase:autoParam (Lr a (J0 "get") (Cx.env X) (eval a (Cx.env X))=eval a (Cx.env X)) u_)(hline:autoParam ((PV apos == Ng cpos)=true) u_):QE X (Md (MQ a (J0 "get") apos) [b] [] cpos) (oD gO fa fb):=
 ⟨EB (hu:=hu) (ha:=ha.h) (hb:=hb.h) (hn:=hn) (hbase:=hbase) (hline:=hline)⟩
theorem wo {X:Cx}{a b:Expr}{fa fb:En->Rs T}{apos cpos:Pos}(hu:Oi (Cx.A X)+61<cLine)(ha:QE X a fa)(hb:QE X b fb)(hn:autoParam (bL b=true) u_)(hbase:autoParam (Lr a (J0 "index") (Cx.env X) (eval a (Cx.env X))=eval a (Cx.env X)) u_)(hline:autoParam ((PV apos == Ng cpos)=true) u_):QE X (Md (MQ a (J0 "index") apos) [b] [] cpos) (oL fM fa fb):=
 ⟨yO (hu:=hu) (ha:=ha.h) (hb:=hb.h) (hn:=hn) (hbase:=hbase) (hline:=hline)⟩
theorem wq {X:Cx}{a b:Expr}{fa fb:En->Rs T}{apos cpos:Pos}(hu:Oi (Cx.A X)+61<cLine)(ha:QE X a fa)(hb:QE X b fb)(hn:autoParam (bL b=true) u_)(hbase:autoParam (Lr a (J0 "count") (Cx.env X) (eval a (Cx.env X))=eval a (Cx.env X)) u_)(hline:autoParam ((PV apos == Ng cpos)=true) u_):QE X (Md (MQ a (J0 "count") apos) [b] [] cpos) (oL lr fa fb):=
 ⟨yP (hu:=hu) (ha:=ha.h) (hb:=hb.h) (hn:=hn) (hbase:=hbase) (hline:=hline)⟩
theorem xV {X:Cx}{e:Expr}{f:En->Rs T}{x:Str}{p pos p2 p3:Pos}(i:Nat)(hu:Oi (Cx.A X)+8<cLine)(hc:Cx.calm X=true)(hm:Cx.mg X (J0 "dict")=none)(hN:N3 (Cx.N X))(ha:QE X e f)(hst:autoParam (bL e=true) u_)(hg:autoParam (Gl X (J0 "dict")) u_)(hi:autoParam ((Cx.N X)[i]? =some x) u_)(hx:autoParam (L2.Loc (Mc (Cx.env X)) x) y_)(hs:autoParam (Lz (Md (KB (J0 "dict") p) [e] [] p2) (some (KB x p3)) (Ng pos) (Cx.env X)=pure false) u_)(hf:autoParam (Cx.fn X x=true\/M4 x (OR (Mc (Cx.env X)))=some NameKind.local) r_):QS X (OS [KB x p3] (Md (KB (J0 "dict") p) [e] [] p2) pos) (nN i f):=
 ⟨BF (i:=i) (hu:=hu) (hc:=hc) (hm:=hm) (hN:=hN) (ha:=ha.h) (hst:=hst) (hg:=hg) (hi:=hi) (hx:=hx) (hs:=hs) (hf:=hf)⟩
theorem A4 {X:Cx}{b c:Expr}{fb fc:En->Rs T}{pos p2 p3:Pos}{x:Str}(i:Nat)(hu:Oi (Cx.A X)+1<cLine)(hb:QE X b fb)(hc:QE X c fc)(hN:autoParam ((Cx.N X)[i]? =some x) u_)(hv:autoParam (xT (Mc (Cx.env X)) x) v_)(hd:autoParam ((x == J0 "__debug__")=false) s_)(hcd:autoParam ((x == J0 "__classdict__")=false) s_)(hs:autoParam (Lz c (some (Oa (KB x p2) b p3)) (Ng pos) (Cx.env X)=pure false) u_):QS X (OS [Oa (KB x p2) b p3] c pos) (wK i fb fc):=
 ⟨Ei (i:=i) (hu:=hu) (hb:=hb.h) (hc:=hc.h) (hN:=hN) (hv:=hv) (hd:=hd) (hcd:=hcd) (hs:=hs)⟩
end Tr
namespace Tr
open PySem PySem.Spec L2
theorem hu0 {k:Nat}{A:Km}(h:Room k A):A.units<cLine:=by have:=h.un;omega
end Tr
namespace Tr
open PySem PySem.Spec PyProof.Rows L2 PySem.W
theorem Ae (h:Heap):(sA h).In h:=by
 have key:∀(l:List Nat) (a:Addr) (o:Obj),(l.filterMap λa=>(h.get? a).map λo=>(a,o)).lookup a=some o->h.get? a=some o:=by
  intro l
  induction l with
  | nil=>intro a o e;cases e
  | cons b r ih=>
   intro a o e
   cases hb:h.get? b with
   | none=>rw[PC (by rw[hb];rfl)]at e;exact ih a o e
   | some ob=>
    rw[PD (b:=(b,ob)) (by rw[hb];rfl),Le]at e
    cases q:a == b with
    | true=>rw[q]at e;cases e;rw[eq_of_beq q];exact hb
    | false=>rw[q]at e;exact ih a o e
 exact λa o e=>key _ a o e
theorem DH {K:Frag}{n:Str}{st:Stmt}(e:obF K n=exF n st):∃f fd,nsIn K Kw n=some (some (.ref f))/\L2.Fun K n n st f fd:=by
 unfold obF at e
 split at e
 ·rename_i f hf
  split at e
  ·rename_i oc od d sl hl
   cases d;unfold exF at e;simp only[La.injEq,PQ]at e;obtain⟨h1,h2,h3,h4,h5,h6,h7,h8,h9,h10,h11⟩:=e;subst h1 h2 h3 h4 h5 h6 h7 h8 h9;exact⟨f,_,hf,FP hl h10 h11⟩
  ·cases e
 ·cases e
theorem l7 {K:Frag}{N:Addr}{n:Str}(e:Hj K N n=true):nsIn K N n=some none:=by
 unfold Hj at e
 split at e
 ·assumption
 ·cases e
theorem Fh {K:Frag}{n:Str}{i:Int}(e:IA K n=some i):∃t,nsIn K Kw n=some (some (.int i t)):=by
 unfold IA at e
 split at e
 ·rename_i i' t h;cases e;exact⟨t,h⟩
 ·cases e
theorem lG:∀{l:List JK},uW l=true->l=tG:=by
 intro l e;unfold uW at e
 split at e
 ·simp only[JM,beq_iff_eq]at e
  obtain⟨⟨⟨h1,h2⟩,h3⟩,h4⟩:=e;subst h1 h2 h3 h4;rfl
 ·cases e
theorem g8 {K:Frag}{D:Option Addr}{n:Str}{C:Addr}(e:Cm K D n=some C):nsIn K Kw n=some (some (.ref C)) ∧
  ∃nm q N bs bm hd sn su ab co dd k0 k1 k2 k3 k5,ym D bm=true/\K.lookup C=some (OZ nm q C N bs bm hd sn su ab co dd k0 k1 k2 k3 k5 "ValueError.__new__")/\∀h:Heap,K.In h->∃mN,h.Ns N mN/\∀n∈calmNames,mN n=none:=by
 unfold Cm at e
 split at e
 ·rename_i C' hC
  split at e
  ·rename_i t dd c k0 k1 k2 k3 b k5 hl
   split at e
   ·rename_i E m ob oe es ep oz hm hN
    split at e
    ·rename_i hq
     cases e;simp only[JM,beq_iff_eq,PF]at hq;obtain⟨⟨⟨⟨⟨⟨h1,h2⟩,h3⟩,h4⟩,h5⟩,h6⟩,h7⟩:=hq
     have z:=Ka.mp h5;refine⟨hC,c.name,c.qualname,c.ns,c.bases,m,c.hasDict,c.slotNames,c.subclasses,c.abstract,c.collection,dd,k0,k1,k2,k3,k5,h7,?_,Hk hN h4 (l7 (z _ (.head _))) (l7 (z _ (.tail _ (.head _)))) (l7 (z _ (.tail _ (.tail _ (.head _))))) (l7 (z _ (.tail _ (.tail _ (.tail _ (.head _))))))⟩
     rw[hl];cases c;simp only at hm h3;subst h1 h2 hm h3 h6
     rfl
    ·cases e
   ·cases e
  ·cases e
 ·cases e
theorem ox0 {K:Frag}{C:Addr}{n:Str}(e:Cm K none n=some C):OX K C tG:=by
 obtain⟨_,_,_,_,_,_,_,_,_,_,_,_,_,_,_,_,_,hu,hl,hn⟩:=g8 e;cases lG hu;exact Ce hl hn
theorem Iy {K:Frag}{C D:Addr}{n m:Str}(e:Cm K (some D) n=some C)(d:Cm K none m=some D):OX K C (.ref D::tG):=by
 obtain⟨_,_,_,_,_,bm,_,_,_,_,_,_,_,_,_,_,_,hu,hl,hn⟩:=g8 e;obtain⟨_,_,_,_,_,_,_,_,_,_,_,_,_,_,_,_,_,hu',hl',hn'⟩:=g8 d;cases lG hu';unfold ym at hu;simp only at hu
 split at hu
 ·rw[JM]at hu
  cases eq_of_beq hu.1;cases lG hu.2;exact zf hl hn hl' hn'
 ·cases hu
theorem iX {α:Type}{o:Option α}{r:List (Option α)}{l:List α}(e:uJ (o::r)=some l):∃a l',o=some a/\l=a::l'/\uJ r=some l':=by
 cases o with
 | none=>cases e
 | some a=>
  unfold uJ at e
  split at e
  ·rename_i l' h;cases e;exact⟨a,l',rfl,rfl,h⟩
  ·cases e
theorem AL {α:Type}{l:List α}(e:uJ ([]:List (Option α))=some l):l= []:=by cases e;rfl
theorem nP:∀{l:List Addr},pU l=true->l.Nodup
 | [],_=> .nil
 | a::r,h=>by
  unfold pU at h;rw[JM]at h;refine KG.mpr ⟨λhm=> ?_,nP h.2⟩
  have:=Ka.mp h.1 a hm
  simp at this
theorem Fg {K:Frag}{m:Str}{es:List Str}(e:Iz K (m::es)=true):∃D l,Cm K none m=some D/\uJ (es.map (Cm K (some D)))=some l/\(l++ [D]).Nodup:=by
 rw[Iz]at e
 split at e
 ·rename_i D hD
  split at e
  ·rename_i l hl;exact⟨D,l,hD,hl,nP e⟩
  ·cases e
 ·cases e
section
variable {S:xP}{top:Nat->Stmt}{K:Frag}{h:Heap}{mg:Str->Option JK}
theorem pY {α β:Type}{f g:α->β}:∀{l:List α} (j:Nat) {a:α},l.map f=l.map g->l[j]? =some a->f a=g a
 | [],_,_,_,q=>by cases q
 | b::l,0,a,e,q=>by cases q;exact(MM.inj e).1
 | b::l,j+1,a,e,q=>pY (l:=l) j (MM.inj e).2 q
theorem k_fn (j:Nat){n:Str}{i:Nat}{ps:List Str}(X:K.In h)(G:h.Ns Kw mg)(e:pQ S K=oP S top)(q:S.tab[j]? =some (n,i))
  (hb:∀(kV doc pm:JK) (an:Option Addr) (cdv ct:JK) (us:List JK),us.length=ps.length->SJ (fnOf n n (eZ (top i)) (cf (top i)) (aA (top i)) .none kV doc pm an cdv ct) ⟨us,[]⟩=pure (ps.zip us)) :
  ∃f fd,Fn K mg n (top i) ps f fd:=by
 obtain⟨f,fd,h1,h2⟩:=DH (pY j (congrArg (·.1) e) q)
 exact⟨f,fd,h2,h2.binds hb,mg_of X G h1⟩
theorem HA (j:Nat){n:Str}{i:Nat}{x:Str}{fa:Addr}(X:K.In h)(G:h.Ns Kw mg)(e:pQ S K=oP S top)(q:S.tab[j]? =some (n,i))(hfa:mg n=some (.ref fa))
  (hb:∀(kV doc pm:JK) (an:Option Addr) (cdv ct u:JK),SJ (fnOf n n (eZ (top i)) (cf (top i)) (aA (top i)) .none kV doc pm an cdv ct) ⟨[u],[]⟩=pure [(x,u)]) :
  ∃fd,Fn K mg n (top i) [x] fa fd/\∀(s:JL) (u:JK),RY s fd ⟨[u],[]⟩ [(x,u)]:=by
 obtain⟨f,fd,h1,h2⟩:=DH (pY j (congrArg (·.1) e) q)
 have z:=hfa.symm.trans (mg_of X G h1);cases z
 have hh:=h2;obtain⟨oc,od,kV,doc,pm,an,cdv,ct,osl,rfl,lk,hcd⟩:=hh.ex;exact⟨_,⟨h2,.all λus hl=>match us,hl with | [u],_=>hb kV doc pm an cdv ct u,mg_of X G h1⟩,λs u=> .of_eq (hb kV doc pm an cdv ct u)⟩
theorem di (j:Nat){n:Str}(X:K.In h)(G:h.Ns Kw mg)(e:pQ S K=oP S top)(q:S.zs[j]? =some n):mg n=none:=
 mg_none_of X G (l7 (Ka.mp (congrArg (·.2.1) e:S.zs.all (Hj K Kw)=true) n (L3 q)))
theorem nY (j:Nat){n:Str}{i:Int}(X:K.In h)(G:h.Ns Kw mg)(e:pQ S K=oP S top)(q:S.cs[j]? =some (n,i)):∃t,mg n=some (.int i t):=by
 obtain⟨t,ht⟩:=Fh (pY (f:=λc=>IA K c.1) (g:=λc=>some c.2) j (congrArg (·.2.2.1) e) q)
 exact⟨t,mg_of X G ht⟩
theorem HF (e:pQ S K=oP S top):Iz K S.es=true:=congrArg (·.2.2.2) e
end
theorem left_of {p q:J9}{loose:List Str}{Xt:JL->Bool}{α:Type}{Yf:JL->α}{Ya:Kx->α}{N:Nat}{g0:Bool}
  (e:opening p=plainProg p.main.scope.names) (hN:Nat.ble 600 N=true) (f:∀s,fenceModules? p s=some s)
  (h:∀(w:Kx) (os:PX),(topFrom Ro p w N ⟨boot_heap w.params,⟨[]⟩,boot_drawn,boot_toks,os⟩).map (λs=>(openSeen q loose (Qt p.main.body) Xt g0 s,Yf s))=some (openGood q loose,Ya w)) :
  LeftO p q loose Xt Yf Ya N g0:=λw=>by
 obtain⟨⟨h0,gs,d,k,os⟩,e1,e2⟩:=MU.mp (boot_open e hN f w);simp only[PQ]at e2;obtain⟨rfl,rfl,rfl,rfl⟩:=e2;unfold openEnds;rw[e1];exact h w os
structure Cl (P:J9)(w:Kx)(K:Frag)(mg:Str->Option JK)(base:Heap)(k:Nat)(x:Str)(n:Nat)(m:List T->Rs T):Prop where
 ex:∃f fd ps,mg x=some (.ref f)/\keepIn K (.ref f)=true/\Binds K fd ps []/\ps.length=n/\Gi P w K mg base k f fd ps n m
abbrev fE (K:Frag)(mg:Str->Option JK)(x:Str)(st:Stmt)(ps:List Str):Prop:=∃f fd,Fn K mg x st ps f fd
section
variable {P:J9}{w:Kx}{K:Frag}{mg:Str->Option JK}{base:Heap}{x:Str}{st:Stmt}{N ps:List Str}{k n:Nat}{F:En->Rs Fl}
theorem Ic (H:fE K mg x st ps)(S:dG N ps (aA st))(hn:ps.length=n)
  (hbody:∀(f:Addr) (cdv:JK) (A:Km) (outer:List Env) (s:JL) (H:Hp) (E:XK),Room k (A.deeper (envOfC x (aA st) s.heap.objs.size f cdv)) →
   ∀xe,AQ ((jU CX0 P w K mg base N x (aA st) f cdv A outer s H E).FM xe) (cf st) F):Cl P w K mg base (k+1) x n (val n N.length F):=by
 obtain⟨f,fd,h⟩:=H;exact⟨f,fd,ps,h.mg,h.fn.kp,h.bd,hn,uT h.fn S hn (hbody f)⟩
end
section
variable {X:Cx}{e:Expr}{es:List Expr}{fs:En->Rs (List T)}{pos p:Pos}{x:Str}{n k k':Nat}{g:List T->Rs T}
theorem aJ (c:Cl X.prog X.w X.K X.mg X.base k x n g)(hr:Room k' X.A)(ha:QA X (e::es) fs)(hk:autoParam (k<=k') s_)(hl:∀(Z:En) (ts:List T),fs Z= .ok ts->ts.length=n:=by repeat first | exact Ii | refine Ih ?_)
  (hn:autoParam (ba (e::es)=true) u_) (hg:autoParam (Gl X x) u_) (h2:autoParam ((x == J0 "__debug__")=false) s_):QE X (.Call (.Name x p) (e::es) [] pos) (cl g fs):=by
 obtain⟨f,fd,ps,h1,h3,h4,h5,h6⟩:=c.ex;exact zq_c h6 (hr.mono hk) h1 h3 h4 hl ha h5 hn hg h2
theorem qM {i:Int}(h:∃t,X.mg x=some (.int i t))(hg:autoParam (Gl X x) u_)(hd:autoParam ((x == J0 "__debug__")=false) s_):QE X (.Name x pos) (cn (.int i)):=by
 obtain⟨t,h⟩:=h;exact A9 h ⟨_,rfl⟩ hg hd
end
def hookC (S:tw)(top:Nat->Stmt):Hook:=
 ⟨_,λs=>zo S (sA s.heap),λ_=>ye S top,λ_ h=> ∃K:Frag,K.In h/\zo S K=ye S top,λ_ s e=>⟨_,Ae s.heap,e⟩,λ_ _ _ ⟨K,a,b⟩ k=>⟨K,a.keeps k,b⟩⟩
theorem walk_c {l:OpenLaw}{n k:Nat}{q:J9}{loose:List Str}{XP:(Str->Option JK)->Heap->Prop}{d:DefRec}{S:tw}{top:Nat->Stmt}{CX:A1}{sp:Frag->Sp}{x:Str}
  (hn:l.most=some n) (hn2:n<=sizeLine) (hdf:d.params.defaults= []) (hr:Room k callerA)
  (F:∀(w:Kx) (K:Frag) (mg:Str->Option JK) (fa:Addr) (h:Heap),K.In h->zo S K=ye S top->h.Ns Kw mg->mg d.name=some (.ref fa) →
   ∃fd:L0,(∀(s:JL) (u:JK),RY s fd ⟨[u],[]⟩ [(x,u)])/\∀base:Heap,K.In base->base.Ns Kw mg->qH l.prog w K mg base CX k fa fd [x] (sp K))
  (hsp:∀(K:Frag) (H:Hp) (a:Addr) (ns:List Int),ns.length<=n->Gh H->SqL K H a (ns.map V.int)->sp K [.ref a] H (λv _=>v= .bl true) λ_ _ _=>False)
  (hCX:∀(H:Hp) (s:JL) (e:JK) (s':JL),CX [] H s (λ_ _ _=>False) e s'->False) :
  WalkO q loose XP (hookC S top).says l.row.toRowW d [] (λf vs=>PySem.call f vs):=by
 refine Att.attach_call hn hdf λw s₀ s₁ mg mb fa o pm cd doc a vs ns G Y ho hd hcd hmg hobj hints hlen hg=> ?_
 obtain⟨K,KX,e⟩:=Y;obtain⟨fd,hb,hF⟩:=F w K mg fa _ KX e G.T.g hmg;exact zP KX G.T.g G.T.b G.T.builtins G.T.nolimit hg hobj hints (Kf hlen hn2) hr hF hb (λH hO hS=>hsp K H a ns hlen hO hS) λH e s'=>hCX H s₁ e s'
end Tr
namespace Tr
open PySem PySem.Spec PyProof.Rows L2
theorem A5 {X:Cx}(i j:Nat){x y:Str}{a b:Expr}{fa:En->Rs (List T)}{px py pt pos:Pos}{kt k2 pt2}(ha:QA X [a,b] fa)(hN:X.N.Nodup)(hc:autoParam (X.calm=true) u_)(hi:autoParam (X.N[i]? =some x) u_)(hj:autoParam (X.N[j]? =some y) u_)(hij:autoParam (i≠j) s_)
  (hx:autoParam (X.env.scope.names.lookup x=some .local) u_) (hy:autoParam (X.env.scope.names.lookup y=some .local) u_)
  (hw:autoParam (OG [.Tuple [.Name x px,.Name y py] kt pt] (.Tuple [a,b] k2 pt2) X.env=pure (some [x,y])) u_)
  (hs:autoParam (OF [.Tuple [.Name x px,.Name y py] kt pt] (.Tuple [a,b] k2 pt2) pos.line X.env=pure false) u_) :
  QS X (.Assign [.Tuple [.Name x px,.Name y py] kt pt] (.Tuple [a,b] k2 pt2) pos) (cw (br fa) (gT 2 (jy (gN i) (jy (gN j) sv)))):=by
 refine⟨PS.imp (EI (i:=i) (j:=j) hc hN hi hj hij hx hy ha.h hw hs) λD σ H ⟨Z,B,M,E,h⟩=> ?_⟩
 refine⟨Z,OO B M,E.o,?_⟩
 unfold cw br at h
 cases q:fa Z with
 | bad=>rw[q]at h;exact h.elim
 | err c=>rw[q]at h;exact PostF.xa h
 | ok ts=>
  rw[q,aB]at h;intro H' s vs r;unfold hV at h
  by_cases hl:ts.length<=sizeLine
  ·rw[if_pos hl,aB]at h
   unfold gT at h
   by_cases h2:ts.length=2
   ·simp only[if_pos h2]at h
    obtain⟨t,u,rfl⟩:∃t u,ts= [t,u]:=by
     match ts,h2 with
     | [t,u],_=>exact⟨t,u,rfl⟩
    obtain⟨v,ws,rfl,r1,r2⟩:=Reps.me.mp r;obtain⟨w,ws',rfl,r3,r4⟩:=Reps.me.mp r2;obtain rfl:=Reps.AC.mp r4;refine⟨v,w,rfl,?_⟩
    unfold jy gN sv at h
    by_cases hi':i<Z.length
    ·simp only[if_pos hi',aB]at h
     by_cases hj':j<(Z.set i (.va t)).length
     ·simp only[if_pos hj',aB]at h
      exact h _ H' M (SameO.of s) ⟨((E.env.same s).set hi' r1).set hj' r3,E.mine⟩ λa z=> .inl z
     ·simp only[if_neg hj']at h;exact h.elim
    ·simp only[if_neg hi']at h;exact h.elim
   ·simp only[if_neg h2]at h;exact h.elim
  ·rw[if_neg hl]at h;exact h.elim
theorem A8 {X:Cx}{a b:Expr}{fs:En->Rs (List T)}{p pos:Pos}{elts:List Expr}{kk:Nat}{tpos:Pos}(hm:X.mg "zip" =none)(ha:QA X [a,b] fs)(hg:autoParam (Gl X "zip") u_)(hst:autoParam (ba [a,b] =true) u_) :
  QI X (.Tuple elts kk tpos) (.Call (.Name "zip" p) [a,b] [] pos) (iZ fs):=⟨Eu hm ha.h hg hst⟩
theorem fsc {N P:List Str}{sc:NR}(h1:autoParam (sc.kind= .function) u_)(h2:autoParam (sc.isCoroutine=false) u_)(h3:autoParam (sc.isGenerator=false) u_)(h4:autoParam (N.Nodup) z_)(h5:autoParam (N.take P.length=P) u_)
  (h6:autoParam (∀x∈P,sc.names.lookup x=some .local\/sc.names.lookup x=some .cell) z_) (h7:autoParam (∀y∈sc.names,y.2≠ .free) z_):dG N P sc:=⟨h1,h2,h3,h4,h5,h6,h7⟩
theorem HK {k:Nat}{A:Km}(h:Room k A):A.units+70<cLine:=by have:=h.un;omega
end Tr
namespace Tr
open PySem
def tbl (pl:List Nat)(L:Bool):SetTable:={ mask:=7,place:=pl.toArray,dummies:=#[],finger:=0,led:=L,moves:=0,plain:=true }
theorem k9:∀{pl:List Nat},pl.Pairwise (· < ·)->∀{a b v u:Nat},a<b->pl[a]? =some v->pl[b]? =some u->v<u:=by
 intro pl h a b v u ab ha hb;rw[Ms]at h;obtain⟨h1,rfl⟩:=J4.mp ha
 obtain⟨h2,rfl⟩:=J4.mp hb
 exact h a b h1 h2 ab
theorem mR {pl:List Nat}(hs:pl.Pairwise (· < ·))(j:Nat):∀(fuel lo hi:Nat),hi - lo<=fuel->lo<=hi->hi<=pl.length →
  (∀i v,i<lo->pl[i]? =some v->v<j)->(∀i v,hi<=i->pl[i]? =some v->j<=v) →
  ∃r,RG pl.toArray j fuel lo hi=r/\r<=pl.length/\(∀i v,i<r->pl[i]? =some v->v<j)/\(∀i v,r<=i->pl[i]? =some v->j<=v)
 | 0,lo,hi,hf,hl,hh,h1,h2=>by
  have e:lo=hi:=by omega
  subst e
  exact⟨lo,rfl,hh,h1,h2⟩
 | fuel+1,lo,hi,hf,hl,hh,h1,h2=>by
  unfold RG
  by_cases hlt:lo<hi
  ·rw[if_pos hlt]
   have hm:(lo+hi) / 2<pl.length:=by omega
   have em:pl[(lo+hi) / 2]? =some pl[(lo+hi) / 2]:=JU hm
   have eg:pl.toArray.getD ((lo+hi) / 2) j=pl[(lo+hi) / 2]:=by simp[hm]
   dsimp only
   rw[eg]
   by_cases hc:pl[(lo+hi) / 2] <j
   ·rw[if_pos hc]
    refine mR hs j fuel _ hi (by omega) (by omega) hh ?_ h2
    intro i v hi' hv;rcases Ml i ((lo+hi) / 2)with q | q
    ·exact L6 (k9 hs q hv em) hc
    ·have:i=(lo+hi) / 2:=by omega
     subst this;rw[em]at hv;cases hv;exact hc
   ·rw[if_neg hc]
    refine mR hs j fuel lo _ (by omega) (by omega) (by omega) h1 ?_
    intro i v hi' hv;rcases Pg hi' with q | q
    ·subst q
     rw[em]at hv;cases hv;omega
    ·have:=k9 hs q em hv;omega
  ·rw[if_neg hlt]
   have e:lo=hi:=by omega
   subst e;exact⟨lo,rfl,hh,h1,h2⟩
theorem iq {pl:List Nat}(hs:pl.Pairwise (· < ·))(j:Nat) :
  J6 pl.toArray j<=pl.length/\(∀i v,i<J6 pl.toArray j->pl[i]? =some v->v<j)/\(∀i v,J6 pl.toArray j<=i->pl[i]? =some v->j<=v):=by
 obtain⟨r,h1,h2,h3,h4⟩:=mR hs j pl.length 0 pl.length (by omega) (by omega) (JW _) (λi v h=>by omega) (λi v h e=>by
  rw[M5 h]at e;cases e)
 have e:J6 pl.toArray j=r:=by unfold J6;simpa using h1
 rw[e];exact⟨h2,h3,h4⟩
theorem sX {pl:List Nat}(hs:pl.Pairwise (· < ·)):J6 pl.toArray 0=0:=by
 obtain⟨h1,h2,_⟩:=iq hs 0;rcases Rl (J6 pl.toArray 0)with e | e
 ·exact e
 ·have q:0<pl.length:=by omega
  have:=h2 0 pl[0] e (JU q)
  omega
theorem uH {pl:List Nat}(hs:pl.Pairwise (· < ·)){i v:Nat}(h:pl[i]? =some v):J6 pl.toArray (v+1)=i+1:=by
 obtain⟨h1,h2,h3⟩:=iq hs (v+1)
 have hi:=(J4.mp h).1
 rcases N5 (J6 pl.toArray (v+1)) (i+1)with q | q | q
 ·have:=h3 i v (by omega) h;omega
 ·exact q
 ·have q2:i+1<pl.length:=by omega
  have e:=JU q2
  have a:=h2 (i+1) _ q e
  have b:=k9 hs (L1 i) h e;omega
theorem tW {pl:List Nat}{L:Bool}{j:Nat}(h:j∉pl):(tbl pl L).slot j= .empty:=by
 unfold SetTable.slot tbl
 dsimp only
 have q:¬ (pl.toArray[J6 pl.toArray j]? == some j)=true:=by
  intro e;rw[beq_iff_eq,List.getElem?_toArray]at e
  exact h (L3 e)
 rw[if_neg q]
 have q2:Qp #[] j=false:=by simp[Qp]
 rw[q2];rfl
theorem qe {pl:List Nat}(hs:pl.Pairwise (· < ·)){j:Nat}(hj:j∉pl) :
  (pl.take (J6 pl.toArray j)++j::pl.drop (J6 pl.toArray j)).Pairwise (· < ·):=by
 obtain⟨h1,h2,h3⟩:=iq hs j;rw[Oz];refine⟨hs.sublist (RH _ _),?_,?_⟩
 ·rw[Ph]
  refine⟨λa ha=> ?_,hs.sublist (RQ _ _)⟩
  obtain⟨i,hi,e⟩:=KZ ha;rw[RS]at e
  have hlt:J6 pl.toArray j+i<pl.length:=by simp at hi;omega
  have:=h3 (J6 pl.toArray j+i) a (by omega) (by rw[JU hlt,e])
  rcases Pg this with q | q
  ·exact absurd (List.mem_of_mem_drop ha) (q▸hj)
  ·exact q
 ·intro a ha b hb
  obtain⟨i,hi,e⟩:=KZ ha;rw[List.getElem_take]at e
  have hi':i<J6 pl.toArray j:=by simp at hi;omega
  have hlt:i<pl.length:=by omega
  have a1:=h2 i a hi' (by rw[JU hlt,e])
  rcases JT.mp hb with rfl | hb
  ·exact a1
  ·obtain⟨i2,hi2,e2⟩:=KZ hb
   rw[RS]at e2
   have hlt2:J6 pl.toArray j+i2<pl.length:=by simp at hi2;omega
   have:=h3 (J6 pl.toArray j+i2) b (by omega) (by rw[JU hlt2,e2])
   omega
theorem mF {k:Int}(h0:0<=k)(h1:k<100):hashInt k=k:=by
 obtain⟨n,rfl⟩:=Ks h0
 have hn:n<100:=by omega
 have e1:rawHash (n:Int)=n:=by
  have e:(((n:Int).natAbs:Int) % ((2 ^ 61 - 1:Nat):Int))=(n:Int):=by
   rw[Int.natAbs_natCast];exact Int.emod_eq_of_lt (by omega) (by omega)
  have e2:¬ ((n:Int)<0):=by omega
  have e3:¬ (((n:Int) == -1)=true):=by rw[beq_iff_eq];omega
  unfold rawHash
  dsimp only
  rw[e,if_neg e2,if_neg e3]
 unfold hashInt;rw[e1,if_neg (by rw[beq_iff_eq];omega)]
def pe (es:Array (Int×JK))(ep:Nat)(pl:List Nat)(L:Bool):Obj:={ cls:=.type "set",dict:=none,data:=.set es ep (tbl pl L),slots:=#[] }
theorem si_next:Slot "set_iterator" "__next__" "set_iterator.__next__":=.of (owner:="set_iterator") (n:="__next__") (by rw[O0,Nb];kernel_rfl) (by decide+kernel) (by decide+kernel) (by decide+kernel) (by first | exact .inl (by decide+kernel) | exact .inr (by decide+kernel)) (by rw[Oc];kernel_rfl)
theorem u5:Slot "set_iterator" "__iter__" "set_iterator.__iter__":=.of (owner:="set_iterator") (n:="__iter__") (by rw[O0,Nb];kernel_rfl) (by decide+kernel) (by decide+kernel) (by decide+kernel) (by first | exact .inl (by decide+kernel) | exact .inr (by decide+kernel)) (by rw[Oc];kernel_rfl)
theorem ri:entryFor table "set_iterator.__next__" =some Builtin.«set_iterator.__next__»:=SE (by kernel_rfl)
theorem u6 (a:JK):argsOk "set_iterator.__next__" ⟨[a],[]⟩:=by unfold argsOk;kernel_rfl
theorem lO:entryFor table "set.__iter__" =some Builtin.«frozenset.__iter__»:=entryFor_alias (id':="frozenset.__iter__") (by kernel_rfl) rfl (by decide+kernel) (by kernel_rfl)
theorem m8:entryFor table "set_iterator.__iter__" =some Builtin.«dict_keyiterator.__iter__»:=entryFor_alias (id':="dict_keyiterator.__iter__") (by kernel_rfl) rfl (by decide+kernel) (by kernel_rfl)
theorem pd (a:JK):argsOk "set_iterator.__iter__" ⟨[a],[]⟩:=by unfold argsOk;kernel_rfl
theorem nA:isSubtype (.type "set") (.type "set")=pure true:=by rw[Oc];kernel_rfl
theorem vh {α:Type}(next:Nat->Nat):∀(fuel k:Nat) (left:List α) (out:Array α),left.length<=fuel->Tc (Sg next fuel k left out).toList (out.toList++left)
 | 0,k,left,out,h=>by
  have:left= []:=ML (by omega)
  subst this
  unfold Sg;simp
 | fuel+1,k,left,out,h=>by
  unfold Sg
  cases e:left[next k % left.length]? with
  | none=>
   have hl:left.length=0:=by
    have:=Pm.mp e
    rcases Rl left.length with q | q
    ·exact q
    ·have:=Nat.mod_lt (next k) q;omega
   have:left= []:=ML hl;subst this
   simp
  | some x=>
   dsimp only
   obtain⟨hlt,ex⟩:=J4.mp e
   have ih:=vh next fuel (k+1) (left.eraseIdx (next k % left.length)) (out.push x) (by rw[List.length_eraseIdx];split <;> omega)
   refine ih.trans ?_
   rw[RT,KD];refine List.Perm.append_left _ ?_
   rw[List.eraseIdx_eq_take_drop_succ]
   have e2:left=left.take (next k % left.length)++x::left.drop (next k % left.length+1):=by
    conv=>lhs;rw[<-Oj (next k % left.length) left]
    rw[Mr hlt,ex]
   conv=>rhs;rw[e2]
   rw[Qm];exact(List.perm_middle).symm
theorem wR {α:Type}(next:Nat->Nat)(xs:Array α):Tc (Te next xs).toList xs.toList:=by
 have:=vh next xs.size 0 xs.toList #[] (by simp)
 simpa [Te]using this
def IsSetIter (h:Heap)(it a:Addr)(sl i n ep:Nat):Prop:=∃o,h.get? it=some o/\o.cls= .type "set_iterator"/\o.data= .fields #[.int sl 0,.int i 0,.ref a,.int n 0,.int ep 0]
theorem IsSetIter.typ {s:JL}{it a:Addr}{sl i n ep:Nat}(x:IsSetIter s.heap it a sl i n ep):s.TypeIs (.ref it) "set_iterator":=let ⟨o,ho,hc,_⟩:=x;⟨o,ho,hc⟩
def jX (w:Kx):Bool:=w.params.followText "set-order"
def fm (w:Kx)(a:Addr)(ep:Nat)(es:Array (Int×JK)):Array (Int×JK):=if jX w then Te (w.params.setOrder a ep) es else es
theorem jJ (w:Kx)(a:Addr)(ep:Nat)(es:Array (Int×JK)):Tc (fm w a ep es).toList es.toList:=by
 unfold fm;split
 ·exact wR _ _
 ·exact .rfl
def cT (B:Bool)(pl:List Nat):Nat->Nat
 | 0=>0
 | j+1=>if B then 0 else pl.getD j 0+1
theorem tX {pl:List Nat}(hs:pl.Pairwise (· < ·)):∀{i:Nat},i<=pl.length->J6 pl.toArray (cT false pl i)=i
 | 0,_=>sX hs
 | j+1,h=>by
  have hj:j<pl.length:=by omega
  have e:pl[j]? =some pl[j]:=JU hj
  have e2:cT false pl (j+1)=pl[j] +1:=by simp[cT,hj]
  rw[e2];exact uH hs e
section
variable {prog:J9}{w:Kx}{A:Km}{E:JK->JL->Prop}{s:JL}
theorem xm {it a:Addr}{sl i n ep:Nat}{Q:JK->JL->Prop}(hit:IsSetIter s.heap it a sl i n ep)(h:Q (.ref it) s):wpAny (model prog w) A (pyIter (.ref it)) Q E s:=by
 refine R6 hit.typ u5 (KP u5 hit.typ m8 ?_ (pd _))
 show wpAny _ _ (ret (.ref it)) _ _ s
 exact JN ⟨_,rfl,"set_iterator",_,hit.typ,si_next.lookup,h⟩
end
section
variable {prog:J9}{w:Kx}{A:Km}{E:JK->JL->Prop}{s:JL}
theorem Bt (a:JK){Q₁:JK->JL->Prop}
  (h:Q₁ (.ref s.heap.objs.size) { s with heap:=s.heap.push (pe #[] 0 [] (!jX w)) }) :
  codeAny (model prog w) A (.call (.builtin "set.__new__") ⟨[.type "set",a],[]⟩) (wants Q₁ E) s:=by
 refine Ta ?_
 show wpAny _ A.in1 (do checkBuiltinCall "set.__new__" ⟨[.type "set",a],[]⟩;again (.builtin "set.__new__" ⟨[.type "set",a],[]⟩)) _ _ s
 refine JG (P0 (F.newCall_set_1 a) (JN ⟨Ll SY _,KS F.entry_set_new ?_⟩))
 rw[Kq SY _];unfold Builtin.«set.__new__» Builtin.Frozenset.newClass
 have hsub:=sub_set_self;obtain⟨hp,g,d,tk,os⟩:=s
 dsimp only
 wp_walk
 refine Nz (JN ?_)
 dsimp only
 simp only[newObj];refine JG (wpAny_alloc (JN ?_))
 exact JN h
end
def i0 (M mv:Nat)(pl:List Nat)(L:Bool):SetTable:={ mask:=M,place:=pl.toArray,dummies:=#[],finger:=0,led:=L,moves:=mv,plain:=true }
theorem tV {pl:List Nat}{M mv:Nat}{L:Bool}(hs:pl.Pairwise (· < ·)){j:Nat}(h:j∈pl):∃i,(i0 M mv pl L).slot j= .live i/\i<pl.length:=by
 obtain⟨k,hk,e⟩:=KZ h;obtain⟨h1,h2,h3⟩:=iq hs j
 have ek:pl[k]? =some j:=by rw[JU hk,e]
 have er:J6 pl.toArray j=k:=by
  rcases N5 (J6 pl.toArray j) k with q | q | q
  ·have hl:J6 pl.toArray j<pl.length:=by omega
   have e2:=JU hl
   have a:=h3 _ _ (JW _) e2
   have b:=k9 hs q e2 ek;omega
  ·exact q
  ·have:=h2 k j q ek;omega
 refine⟨k,?_,hk⟩
 unfold SetTable.slot i0
 dsimp only
 rw[er];simp[ek]
theorem rh {pl:List Nat}{M mv:Nat}{L:Bool}{j:Nat}(h:j∉pl):(i0 M mv pl L).slot j= .empty:=tW (L:=L) h
def C7 (M:Nat)(p:Nr):Nr:=(i0 M 0 [] false).advance p
def Iu (M:Nat)(h:Int):Nr:=(i0 M 0 [] false).probeStart h
def qP (M:Nat):Nat->Nr->List Nat
 | 0,_=> []
 | n+1,p=>p.j::qP M n (C7 M p)
theorem AM {M:Nat}{p:Nr}(h:p.dummy=none):(C7 M p).dummy=none:=by
 unfold C7 SetTable.advance;split
 ·exact h
 ·exact h
theorem iD {pl:List Nat}{M mv:Nat}{L:Bool}(hs:pl.Pairwise (· < ·)){at_:Nat->Int}{h:Int}(hd:∀i<pl.length,at_ i≠h):∀(fuel n:Nat) (p:Nr),n<=fuel->p.dummy=none->(∃x∈qP M n p,x∉pl) →
  ∃j,j∉pl/\N1 (i0 M mv pl L) at_ h fuel p=some (.empty j none)
 | fuel,0,p,_,_,⟨x,hx,_⟩=>by cases hx
 | 0,n+1,p,hn,_,_=>by omega
 | fuel+1,n+1,p,hn,hp,⟨x,hx,nx⟩=>by
  unfold N1
  by_cases hm:p.j∈pl
  ·obtain⟨w,ew,hw⟩:=tV (M:=M) (mv:=mv) (L:=L) hs hm
   rw[ew]
   dsimp only
   rw[if_neg (by rw[beq_iff_eq];exact hd w hw)]
   show ∃j,j∉pl/\N1 (i0 M mv pl L) at_ h fuel (C7 M p)=_
   refine iD hs hd fuel n _ (by omega) (AM hp) ⟨x,?_,nx⟩
   obtain rfl | hx:=JT.mp hx
   ·exact absurd hm nx
   ·exact hx
  ·rw[rh hm]
   exact⟨p.j,hm,by rw[hp]⟩
def hs2 (c k:Nat):Int:=R7 (Lp [(c:Int),(k:Int)])
def kS (pl:List Nat)(j:Nat):List Nat:=pl.take (J6 pl.toArray j)++j::pl.drop (J6 pl.toArray j)
theorem put2 {pl:List Nat}{M mv:Nat}{L:Bool}(j:Nat):(i0 M mv pl L).put j=(i0 M mv (kS pl j) L,J6 pl.toArray j):=by
 have q2:Qp #[] j=false:=by simp[Qp]
 have q3:MC pl.toArray (J6 pl.toArray j) j=(kS pl j).toArray:=by
  apply Array.toList_inj.mp
  rw[SetTable.toList_insertAt]
  rfl
 simp only[SetTable.put,i0,q2,q3]
 rfl
theorem rC {pl:List Nat}(hs:pl.Pairwise (· < ·))(j:Nat):(kS pl j).length=pl.length+1:=by
 have:=(iq hs j).1;unfold kS;rw[JZ,JR,MK,Nu];omega
theorem wO {pl:List Nat}(hs:pl.Pairwise (· < ·)){j:Nat}(hj:j∉pl):(kS pl j).Pairwise (· < ·):=qe hs hj
theorem getD_none {ow:Array (Option Nat)}{j:Nat}(h:(ow.getD j (some 0)).isNone=true):ow[j]? =some none:=by
 unfold Array.getD at h
 split at h
 ·rename_i hj
  rw[K3 hj]
  have:ow[j] =none:=by simpa using h
  rw[this]
 ·cases h
theorem sC {β:Type}{f g:Nat->Option β}:∀{l:List Nat},(∀y∈l,g y=f y)->l.filterMap g=l.filterMap f
 | [],_=>rfl
 | x::l,h=>by rw[KW,KW,h x JO,sC λy hy=>h y (JJ _ hy)]
theorem rk {ow:Array (Option Nat)}{j k x:Nat}(hj:j<ow.size):(ow.setIfInBounds j (some k)).getD x none=if x=j then some k else ow.getD x none:=by
 have e1:(ow.setIfInBounds j (some k)).getD x none=((ow.setIfInBounds j (some k))[x]?).getD none:=by simp
 have e2:ow.getD x none=(ow[x]?).getD none:=by simp
 rw[e1,e2,Array.getElem?_setIfInBounds]
 by_cases h:x=j
 ·subst h;simp[hj]
 ·rw[if_neg (λz=>h z.symm),if_neg h]
theorem lE {prog:J9}{w:Kx}{c k:Nat}(hc:c<4)(hk:k<4):tupleKeyHash (intKind prog w) [(c:Int),(k:Int)] =hs2 c k:=by
 unfold tupleKeyHash hs2
 show R7 (Lp [hashInt (c:Int),hashInt (k:Int)])=_
 rw[mF (by omega) (by omega),mF (by omega) (by omega)]
def D5 (es:Array (Int×JK))(ep M mv:Nat)(pl:List Nat)(L:Bool):Obj:={ cls:=.type "set",dict:=none,data:=.set es ep (i0 M mv pl L),slots:=#[] }
theorem qR {M mv n:Nat}{pl:List Nat}{L:Bool}(e:n=pl.length)(h:pl.length<=M):(i0 M mv pl L).fits n=true:=by
 unfold SetTable.fits SetTable.fill
 show(pl.toArray.size == n&&decide (pl.toArray.size+0<=M))=true
 rw[J1,e]
 simp;omega
theorem zT {prog:J9}{w:Kx}{xs:List Int}{b:Addr}{h h':Heap}(x:PL (intKind prog w) h xs b)(k:∀o,h.get? b=some o->h'.get? b=some o):PL (intKind prog w) h' xs b:=let ⟨o,its,n,ho,r⟩:=x;⟨o,its,n,k o ho,r⟩
section
variable {w:Kx}{prog:J9}{s:JL}{A:Km}{E:JK->JL->Prop}
theorem Bk:isSubtype (.type "list") (.type "set")=pure false:=by rw[Oc];kernel_rfl
theorem Bm:isSubtype (.type "list") (.type "frozenset")=pure false:=by rw[Oc];kernel_rfl
end
end Tr
namespace HT
open PySem PyProof.Rows
def lexGt:List Int->List Int->Bool
 | [],[] =>false
 | [],_::_=>false
 | _::_,[] =>true
 | x::xs,y::ys=>if x=y then lexGt xs ys else decide (x > y)
theorem lexGt_cons (x y:Int)(xs ys:List Int):lexGt (x::xs) (y::ys)=if x=y then lexGt xs ys else decide (x > y):=rfl
theorem ny:lexGt [] [] =false:=rfl
theorem mn (y:Int)(ys:List Int):lexGt [] (y::ys)=false:=rfl
theorem mq (x:Int)(xs:List Int):lexGt (x::xs) [] =true:=rfl
theorem yK (A:Km)(s:JL)(a:Int)(t:Tok)(c:Int)(u:Tok)(prog:J9)(w:Kx)(E:JK->JL->Prop)(Q:JK->JL->Prop)(h:Q (.bool (decide (a > c))) s) :
  wpAny (model prog w) A (OW .Gt (.int a t) (.int c u)) Q E s:=
 (PyProof.Rows.gt_int h:wpAny (model prog w) A (KC .Gt (.int a t) (.int c u)) Q E s)
section
open PySem.SeqAt
open PySem.AutoSeq1 (wpAny_loadPart')
open PySem.MeetsSeq PySem.MeetsSeq2 PySem.MeetsSeq3
theorem mX (l b:Addr)(items items2:Array JK)(n n2:Nat)(dd dd2:Option Addr)(sl sl2:Array (Option JK))(ns ms:List Int)(hi:Lj items.toList ns)(hj:Lj items2.toList ms) :
  Meets (Builtin.«tuple.__gt__» ⟨[.ref l,.ref b],[]⟩)
   (λ_ R s=>s.heap.get? l=some { cls:=.type "tuple",dict:=dd,data:=.seq items n,slots:=sl }/\s.heap.get? b=some { cls:=.type "tuple",dict:=dd2,data:=.seq items2 n2,slots:=sl2 } ∧
    R (.ok (.ret (.bool (lexGt ns ms)))) s):=
 .of_wp λprog w A R s h=>by
  obtain⟨hp,g,d,tk,os⟩:=s;obtain⟨hl,hb,h⟩:=h
  have f2:=Pw
  have z1:items.size=ns.length:=by rw[<-hi.length];simp
  have z2:items2.size=ms.length:=by rw[<-hj.length];simp
  wp_walk using K2 hl,K2 hb,Ny _ (λbq b s'=>b.1=none/\s'=⟨hp,g,d,tk,os⟩/\∃(vs ws:List JK) (ns' ms':List Int),bq=vs.zip ws ∧
   Lj vs ns'/\Lj ws ms'/\ns'.length+items2.size=ms'.length+items.size/\R (.ok (.ret (.bool (lexGt ns' ms')))) ⟨hp,g,d,tk,os⟩) _
  case turn=>
   rintro ⟨y,x⟩ bq b s' ⟨hb',rfl,vs,ws,ns',ms',hz,hvi,hwi,hlen,hR⟩
   cases hvi with
   | nil=>rw[RI]at hz;cases hz
   | cons a t hvi'=>
    cases hwi with
    | nil=>rw[Rb]at hz;cases hz
    | cons c u hwi'=>
     rw[NL]at hz;injection hz with hyx hrest
     injection hyx with hy hx
     subst hy hx;rw[lexGt_cons]at hR;simp only[JR]at hlen;obtain⟨e,he,hiff⟩:=sL A.in1 ⟨hp,g,d,tk,os⟩ a t c u;refine JG (he prog w _ _ ?_)
     cases e with
     | true=>
      rw[if_pos (hiff.mp rfl)]at hR
      wp_walk
      exact⟨rfl,rfl,_,_,_,_,hrest,hvi',hwi',by omega,hR⟩
     | false=>
      rw[if_neg (λq=>absurd (hiff.mpr q) J3)]at hR
      have hri:=yK A.in1 ⟨hp,g,d,tk,os⟩ a t c u prog w
      wp_walk using hri
      exact⟨_,rfl,by simpa using hR⟩
  case fin=>
   rintro ⟨b1,b2⟩ s' ⟨hb',rfl,vs,ws,ns',ms',hz,hvi,hwi,hlen,hR⟩
   simp only at hb';subst hb'
   have hv:lexGt ns' ms'=decide (items.size > items2.size):=by
    cases hvi with
    | nil=>
     cases hwi with
     | nil=>
      simp only[LX]at hlen;rw[ny]
      exact(decide_eq_false (by omega)).symm
     | cons c u hw=>
      simp only[LX,JR]at hlen;rw[mn]
      exact(decide_eq_false (by omega)).symm
    | cons a t hv=>
     cases hwi with
     | nil=>
      simp only[LX,JR]at hlen;rw[mq]
      exact(decide_eq_true (by omega)).symm
     | cons c u hw=>
      rw[NL]at hz;cases hz
   rw[hv]at hR
   wp_walk
   exact⟨_,rfl,by simpa [NZ]using hR⟩
  case h=>
   exact⟨rfl,rfl,items.toList,items2.toList,ns,ms,rfl,hi,hj,by omega,h⟩
end
section
variable {prog:J9}{w:Kx}{A:Km}{E:JK->JL->Prop}{s:JL}
theorem gt_tupInts {l b:Addr}{items items2:Array JK}{ns ms:List Int}{Q:JK->JL->Prop}(hl:Rn s.heap l items)(hb:Rn s.heap b items2)(hi:Lj items.toList ns)(hj:Lj items2.toList ms)
  (hu:A.units<cLine) (h:Q (.bool (lexGt ns ms)) s):wpAny (model prog w) A (KC .Gt (.ref l) (.ref b)) Q E s:=by
 obtain⟨⟨cls,dd,data,sl⟩,ho,hc,n,hd⟩:=id hl;obtain⟨⟨cls2,dd2,data2,sl2⟩,ho2,hc2,n2,hd2⟩:=id hb;simp only at hc hd hc2 hd2;subst hc hd hc2 hd2
 exact Qi (op:=.Gt) ⟨_,ho,rfl⟩ ⟨_,ho2,rfl⟩ PySem.F.slot_tuple_gt PySem.F.entry_tuple_gt (PySem.F.args_tuple_gt_2 _ _) (mX l b items items2 n n2 dd dd2 sl sl2 ns ms hi hj)
  ⟨ho,ho2,show K7 (lexGt ns ms)≠Ov/\Q (.bool (lexGt ns ms)) s from⟨(λx=>nomatch x),h⟩⟩ hu
end
end HT
namespace Tr
open PySem PySem.Spec PyProof.Rows L2 PySem.W
section
variable {prog:J9}{w:Kx}{A:Km}{S I:Addr}
def two (v:JK)(c:Nat):Obj:={ cls:=.type "list",dict:=none,data:=.seq #[v,v] c,slots:=#[] }
theorem zF {fp wr:List Addr}{n:Nat}{P:Nat->JK->Prop}{St:Nat->Heap->Prop}(W:Walks prog w A.in1 I fp wr n P St)(hSf:S∉fp){s:JL}{x:JK}{c:Nat}{R:S4->JL->Prop}(hst:St n s.heap)(hS:s.heap.get? S=some (two x c))
  (hR:∀h' tk,(∀b o,b∉wr->b≠S->s.heap.get? b=some o->h'.get? b=some o)->R (.ok (.ret x)) { s with heap:=h',toks:=tk }):codeAny (model prog w) A (.builtin "min.loop" ⟨[.ref I,.none,.ref S],[]⟩) R s:=by
 refine KS NU (by
  rw[Kq Lm _];refine JG (m:=OY _) (KJ hS rfl (JG (m:=tryCatch _ _) (L8 (W.done s _ _ hst λh' tk k1=> ?_))))
  have hS':=k1 S _ (λz=>hSf (W.sub _ z)) hS
  exact JG (m:=O4 S _) (Mg hS' rfl (JG (Mv (JN (hR _ tk λb o hb hbS e=>(Kh _ _ (MS hbS)).trans (k1 b o hb e)))))))
theorem Cn {s:JL}{a b:JK}{bt:Bool}{Q E:JK->JL->Prop}(hh:A.handled=none)(hc:∀(s':JL) (Q E:JK->JL->Prop),(∀c o,s.heap.get? c=some o->s'.heap.get? c=some o)->Q (.bool bt) s'->wpAny (model prog w) A.in1 (OW .Lt b a) Q E s')
  (h:∀h' tk,(∀c o,s.heap.get? c=some o->h'.get? c=some o)->Q (if bt=true then b else a) { s with heap:=h',toks:=tk }):wpAny (model prog w) A (call (.builtin "min") [a,b]) Q E s:=by
 have nm:(toString "min" ++toString ".loop" : String)= "min.loop":=by decide
 refine RB PySem.F.kind_min PySem.F.plain_min PySem.F.entry_min (PySem.F.args_min2 _ _) (JG (m:=Ma "min" _ 0 _) (P0 (show Ma "min" ["key","default"] 0 ⟨[],[]⟩=pure [none,none]from rfl) (JG (m:=newTuple [a,b]) (Kl ?_))))
 have hT:(s.heap.push { cls:=.type "tuple",data:=.seq #[a,b] }).IsTuple s.heap.objs.size #[a,b]:=⟨_,JS _ rfl,rfl,0,rfl⟩
 refine JG (LA hT (JG (Kl ?_)))
 rw[nm]
 generalize hp1:s.heap.push { cls:=.type "tuple",data:=.seq #[a,b] }=h1 at hT
 have z1:h1.objs.size=s.heap.objs.size+1:=by rw[<-hp1];exact Ku ..
 have k1:∀c o,s.heap.get? c=some o->h1.get? c=some o:=λc o e=>by rw[<-hp1];exact JI _ e
 have hT2:=hT.push { cls:=.type "tuple_iterator",data:=.fields #[.ref s.heap.objs.size,.int 0 0] }
 have it0:(h1.push { cls:=.type "tuple_iterator",data:=.fields #[.ref s.heap.objs.size,.int 0 0] }).IsTupleIter h1.objs.size s.heap.objs.size 0:=⟨_,JS _ rfl,rfl,rfl⟩
 generalize hp2:h1.push { cls:=.type "tuple_iterator",data:=.fields #[.ref s.heap.objs.size,.int 0 0] }=h2 at hT2 it0
 have z2:h2.objs.size=h1.objs.size+1:=by rw[<-hp2];exact Ku ..
 have k2:∀c o,h1.get? c=some o->h2.get? c=some o:=λc o e=>by rw[<-hp2];exact JI _ e
 have W:=SW (prog:=prog) (w:=w) (A:=A.in1) hh h1.objs.size s.heap.objs.size (by rw[z1];exact J7 (L1 _)) #[a,b]
 have hSf:h2.objs.size∉ [h1.objs.size,s.heap.objs.size]:=λz=>by
  simp only[JT,Kp,or_false]at z;omega
 have old:∀c o,s.heap.get? c=some o->c∉ [h1.objs.size]/\c≠h2.objs.size:=λc o e=>by
  have l1:=JV e
  have l2:s.heap.objs.size<h1.objs.size:=by omega
  have l3:s.heap.objs.size<h2.objs.size:=by omega
  exact⟨λz=>J7 (L6 l1 l2) (JX.mp z),J7 (L6 l1 l3)⟩
 have hS0:(h2.push { cls:=.type "list",data:=.seq #[] 0 }).get? h2.objs.size=some _:=JS _ rfl
 have hSw:h2.objs.size∉ [h1.objs.size]:=λz=>by have:=JX.mp z;omega
 refine JN ⟨Ll Lm _,KS NU (by
  rw[Kq Lm _];refine JG (m:=OY _) (KJ hS0 rfl (JG (m:=tryCatch _ _) (L8 (W.item 0 _ _ _ SZ (W.frame _ _ _ ⟨it0,hT2⟩ λb _ o e=>JI _ e) λv h3 tk ev st3 q3=> ?_))))
  obtain rfl:a=v:=by simpa using ev
  have hS3:=q3 _ _ hSw hS0;refine JG (m:=O4 h2.objs.size _) (Mg hS3 rfl ?_)
  rw[nm]
  have k3:∀c o,s.heap.get? c=some o->(h3.update h2.objs.size (K8 λ_=> #[a,a])).get? c=some o:=λc o e=>(Kh _ _ (MS (old c o e).2)).trans (q3 c o (old c o e).1 (JI _ (k2 c o (k1 c o e))))
  have st4:=W.frame (0+1) h3 (h3.update h2.objs.size (K8 λ_=> #[a,a])) st3 λc hb o e=>(Kh h3 (K8 λ_=> #[a,a]) (λz:h2.objs.size=c=>hSf (by rw[z];exact hb))).trans e
  have hS4:=KA (K8 λ_=> #[a,a]) hS3 rfl
  generalize h3.update h2.objs.size (K8 λ_=> #[a,a])=h4 at k3 st4 hS4 ⊢
  refine JN ⟨Ll Lm _,KS NU (by
   rw[Kq Lm _];refine JG (m:=OY _) (KJ hS4 rfl (JG (m:=tryCatch _ _) (L8 (W.item 1 _ _ _ Nat.one_lt_two st4 λv h5 tk5 ev st5 q5=> ?_))))
   obtain rfl:b=v:=by simpa using ev
   have hS5:=q5 _ _ hSw hS4
   have k5:∀c o,s.heap.get? c=some o->h5.get? c=some o:=λc o e=>q5 c o (old c o e).1 (k3 c o e)
   refine JG (m:=tryCatch (holding [b,b] _) _) (L8 (Lk (JG (hc { s with heap:=h5,toks:=tk5 } _ _ k5 (JG (Lk (K5 (JG (Mv (JN ?_))))))))))
   cases bt with
   | true=>
    rw[if_pos rfl];refine JG (m:=O4 h2.objs.size _) (Mg hS5 rfl (JG (Mv ?_)))
    rw[nm]
    exact JN ⟨Ll Lm _,zF W hSf (W.frame _ _ _ st5 λc hb o e=>(Kh _ _ (λz:h2.objs.size=c=>hSf (by rw[z];exact hb))).trans e) (KA _ hS5 rfl) λh6 tk6 q6=>h h6 tk6 λc o e=>q6 c o (old c o e).1 (old c o e).2 ((Kh _ _ (MS (old c o e).2)).trans (k5 c o e))⟩
   | false=>
    rw[if_neg (by decide)]
    refine JG (Mv ?_);rw[nm]
    exact JN ⟨Ll Lm _,zF W hSf st5 hS5 λh6 tk6 q6=>h h6 tk6 λc o e=>q6 c o (old c o e).1 (old c o e).2 (k5 c o e)⟩)⟩)⟩
theorem zH {fp wr:List Addr}{n:Nat}{P:Nat->JK->Prop}{St:Nat->Heap->Prop}(W:Walks prog w A.in1 I fp wr n P St)(hSf:S∉fp){s:JL}{x:JK}{c:Nat}{R:S4->JL->Prop}(hst:St n s.heap)(hS:s.heap.get? S=some (two x c))
  (hR:∀h' tk,(∀b o,b∉wr->b≠S->s.heap.get? b=some o->h'.get? b=some o)->R (.ok (.ret x)) { s with heap:=h',toks:=tk }):codeAny (model prog w) A (.builtin "max.loop" ⟨[.ref I,.none,.ref S],[]⟩) R s:=by
 refine KS NV (by
  rw[Kq Ln _];refine JG (m:=OY _) (KJ hS rfl (JG (m:=tryCatch _ _) (L8 (W.done s _ _ hst λh' tk k1=> ?_))))
  have hS':=k1 S _ (λz=>hSf (W.sub _ z)) hS
  exact JG (m:=O4 S _) (Mg hS' rfl (JG (Mv (JN (hR _ tk λb o hb hbS e=>(Kh _ _ (MS hbS)).trans (k1 b o hb e)))))))
theorem Co {s:JL}{a b:JK}{bt:Bool}{Q E:JK->JL->Prop}(hh:A.handled=none)(hc:∀(s':JL) (Q E:JK->JL->Prop),(∀c o,s.heap.get? c=some o->s'.heap.get? c=some o)->Q (.bool bt) s'->wpAny (model prog w) A.in1 (OW .Gt b a) Q E s')
  (h:∀h' tk,(∀c o,s.heap.get? c=some o->h'.get? c=some o)->Q (if bt=true then b else a) { s with heap:=h',toks:=tk }):wpAny (model prog w) A (call (.builtin "max") [a,b]) Q E s:=by
 have nm:(toString "max" ++toString ".loop" : String)= "max.loop":=by decide
 refine RB PySem.F.kind_max PySem.F.plain_max PySem.F.entry_max (PySem.F.args_max2 _ _) (JG (m:=Ma "max" _ 0 _) (P0 (show Ma "max" ["key","default"] 0 ⟨[],[]⟩=pure [none,none]from rfl) (JG (m:=newTuple [a,b]) (Kl ?_))))
 have hT:(s.heap.push { cls:=.type "tuple",data:=.seq #[a,b] }).IsTuple s.heap.objs.size #[a,b]:=⟨_,JS _ rfl,rfl,0,rfl⟩
 refine JG (LA hT (JG (Kl ?_)))
 rw[nm]
 generalize hp1:s.heap.push { cls:=.type "tuple",data:=.seq #[a,b] }=h1 at hT
 have z1:h1.objs.size=s.heap.objs.size+1:=by rw[<-hp1];exact Ku ..
 have k1:∀c o,s.heap.get? c=some o->h1.get? c=some o:=λc o e=>by rw[<-hp1];exact JI _ e
 have hT2:=hT.push { cls:=.type "tuple_iterator",data:=.fields #[.ref s.heap.objs.size,.int 0 0] }
 have it0:(h1.push { cls:=.type "tuple_iterator",data:=.fields #[.ref s.heap.objs.size,.int 0 0] }).IsTupleIter h1.objs.size s.heap.objs.size 0:=⟨_,JS _ rfl,rfl,rfl⟩
 generalize hp2:h1.push { cls:=.type "tuple_iterator",data:=.fields #[.ref s.heap.objs.size,.int 0 0] }=h2 at hT2 it0
 have z2:h2.objs.size=h1.objs.size+1:=by rw[<-hp2];exact Ku ..
 have k2:∀c o,h1.get? c=some o->h2.get? c=some o:=λc o e=>by rw[<-hp2];exact JI _ e
 have W:=SW (prog:=prog) (w:=w) (A:=A.in1) hh h1.objs.size s.heap.objs.size (by rw[z1];exact J7 (L1 _)) #[a,b]
 have hSf:h2.objs.size∉ [h1.objs.size,s.heap.objs.size]:=λz=>by
  simp only[JT,Kp,or_false]at z;omega
 have old:∀c o,s.heap.get? c=some o->c∉ [h1.objs.size]/\c≠h2.objs.size:=λc o e=>by
  have l1:=JV e
  have l2:s.heap.objs.size<h1.objs.size:=by omega
  have l3:s.heap.objs.size<h2.objs.size:=by omega
  exact⟨λz=>J7 (L6 l1 l2) (JX.mp z),J7 (L6 l1 l3)⟩
 have hS0:(h2.push { cls:=.type "list",data:=.seq #[] 0 }).get? h2.objs.size=some _:=JS _ rfl
 have hSw:h2.objs.size∉ [h1.objs.size]:=λz=>by have:=JX.mp z;omega
 refine JN ⟨Ll Ln _,KS NV (by
  rw[Kq Ln _];refine JG (m:=OY _) (KJ hS0 rfl (JG (m:=tryCatch _ _) (L8 (W.item 0 _ _ _ SZ (W.frame _ _ _ ⟨it0,hT2⟩ λb _ o e=>JI _ e) λv h3 tk ev st3 q3=> ?_))))
  obtain rfl:a=v:=by simpa using ev
  have hS3:=q3 _ _ hSw hS0;refine JG (m:=O4 h2.objs.size _) (Mg hS3 rfl ?_)
  rw[nm]
  have k3:∀c o,s.heap.get? c=some o->(h3.update h2.objs.size (K8 λ_=> #[a,a])).get? c=some o:=λc o e=>(Kh _ _ (MS (old c o e).2)).trans (q3 c o (old c o e).1 (JI _ (k2 c o (k1 c o e))))
  have st4:=W.frame (0+1) h3 (h3.update h2.objs.size (K8 λ_=> #[a,a])) st3 λc hb o e=>(Kh h3 (K8 λ_=> #[a,a]) (λz:h2.objs.size=c=>hSf (by rw[z];exact hb))).trans e
  have hS4:=KA (K8 λ_=> #[a,a]) hS3 rfl
  generalize h3.update h2.objs.size (K8 λ_=> #[a,a])=h4 at k3 st4 hS4 ⊢
  refine JN ⟨Ll Ln _,KS NV (by
   rw[Kq Ln _];refine JG (m:=OY _) (KJ hS4 rfl (JG (m:=tryCatch _ _) (L8 (W.item 1 _ _ _ Nat.one_lt_two st4 λv h5 tk5 ev st5 q5=> ?_))))
   obtain rfl:b=v:=by simpa using ev
   have hS5:=q5 _ _ hSw hS4
   have k5:∀c o,s.heap.get? c=some o->h5.get? c=some o:=λc o e=>q5 c o (old c o e).1 (k3 c o e)
   refine JG (m:=tryCatch (holding [b,b] _) _) (L8 (Lk (JG (hc { s with heap:=h5,toks:=tk5 } _ _ k5 (JG (Lk (K5 (JG (Mv (JN ?_))))))))))
   cases bt with
   | true=>
    rw[if_pos rfl];refine JG (m:=O4 h2.objs.size _) (Mg hS5 rfl (JG (Mv ?_)))
    rw[nm]
    exact JN ⟨Ll Ln _,zH W hSf (W.frame _ _ _ st5 λc hb o e=>(Kh _ _ (λz:h2.objs.size=c=>hSf (by rw[z];exact hb))).trans e) (KA _ hS5 rfl) λh6 tk6 q6=>h h6 tk6 λc o e=>q6 c o (old c o e).1 (old c o e).2 ((Kh _ _ (MS (old c o e).2)).trans (k5 c o e))⟩
   | false=>
    rw[if_neg (by decide)]
    refine JG (Mv ?_);rw[nm]
    exact JN ⟨Ll Ln _,zH W hSf st5 hS5 λh6 tk6 q6=>h h6 tk6 λc o e=>q6 c o (old c o e).1 (old c o e).2 (k5 c o e)⟩)⟩)⟩
end
end Tr
namespace Tr
open PySem PySem.Spec PyProof.Rows L2
def IB (g:List Int->List Int->Bool):List T->Rs T
 | [.tup a,.tup b] =>match eQ a,eQ b with
  | some ra,some rb=> .ok (if g rb ra=true then .tup b else .tup a)
  | _,_=> .bad
 | _=> .bad
def kI:List T->Rs T:=IB a7
def kJ:List T->Rs T:=IB λx y=>a7 y x
theorem r8:∀(a b:List Int),HT.lexGt a b=a7 b a
 | [],[] =>rfl
 | [],_::_=>rfl
 | _::_,[] =>rfl
 | x::a,y::b=>by
  rw[HT.lexGt_cons,r8 a b]
  show _=if y=x then a7 b a else decide (y<x)
  by_cases h:x=y
  ·rw[if_pos h,if_pos h.symm]
  ·rw[if_neg h,if_neg (MS h)]
section
variable {X:Cx}
theorem zE {nm:String}{op:CmpOp}{g:List Int->List Int->Bool}(hc:X.calm=true)
  (call2:X.A.handled=none->∀{s:JL} {a b:JK} {bt:Bool} {Q E:JK->JL->Prop},(∀(s':JL) (Q E:JK->JL->Prop),(∀c o,s.heap.get? c=some o->s'.heap.get? c=some o)->Q (.bool bt) s'->wpAny (model X.prog X.w) X.A.in1 (OW op b a) Q E s')->(∀h' tk,(∀c o,s.heap.get? c=some o->h'.get? c=some o)->Q (if bt=true then b else a) { s with heap:=h',toks:=tk })->wpAny (model X.prog X.w) X.A (call (.builtin nm) [a,b]) Q E s)
  (cmp:∀{l b:Addr} {items items2:Array JK} {ns ms:List Int} {Q E:JK->JL->Prop} {s:JL},Rn s.heap l items->Rn s.heap b items2->Lj items.toList ns->Lj items2.toList ms->Q (.bool (g ns ms)) s->wpAny (model X.prog X.w) X.A.in1 (OW op (.ref l) (.ref b)) Q E s):CallT X (.builtin nm) (IB g):=by
 intro pins s σ H O ts vs us Q I hf rs rv hp;unfold IB at hp
 split at hp
 ·rename_i l m
  split at hp
  ·rename_i ra rb h1 h2
   obtain⟨v,ws,rfl,rx,q⟩:=Reps.me.mp rs;obtain⟨v2,rfl,ry⟩:=q.one;obtain⟨a,as,rfl,_,e3,e4⟩:=Rep.Da.mp rx;obtain⟨b,bs,rfl,_,g3,g4⟩:=Rep.Da.mp ry;obtain⟨u,u',rfl,ru,ru'⟩:=Dj rv;obtain rfl:u=Kb a:=ru;obtain rfl:u'=Kb b:=ru';obtain⟨its,v1,t1,_⟩:=I.tuple (SqT.of e3);obtain⟨its2,v2,t2,_⟩:=I.tuple (SqT.of g3);refine call2 (I.ok.hd hc) (bt:=g rb ra) (λs' Q' E' kp hq=> ?_) λh' tk kp=> ?_
   ·obtain⟨o1,x1,y1⟩:=t1
    obtain⟨o2,x2,y2⟩:=t2;exact cmp ⟨o2,kp _ _ x2,y2⟩ ⟨o1,kp _ _ x1,y1⟩ (by simpa using cp h2 g4 v2) (by simpa using cp h1 e4 v1) hq
   ·by_cases z:g rb ra=true
    ·rw[if_pos z]at hp ⊢
     exact⟨.ref b,H,I.kept (t':=tk) kp,rfl,hp H (Same.refl H) _ ry⟩
    ·rw[if_neg z]at hp ⊢
     exact⟨.ref a,H,I.kept (t':=tk) kp,rfl,hp H (Same.refl H) _ rx⟩
  ·exact hp.elim
 ·exact hp.elim
theorem CV (hc:X.calm=true)(hu:X.A.units+60<cLine):CallT X (.builtin "min") kI:=zE hc (λhh _ _ _ _ _ _ h1 h2=>Cn hh h1 h2) λt1 t2 i1 i2 h=>HT.lt_tupInts t1 t2 i1 i2 (show X.A.units+1<cLine by omega) (by rw[pZ];exact h)
theorem CW (hc:X.calm=true)(hu:X.A.units+60<cLine):CallT X (.builtin "max") kJ:=zE hc (λhh _ _ _ _ _ _ h1 h2=>Co hh h1 h2) λt1 t2 i1 i2 h=>HT.gt_tupInts t1 t2 i1 i2 (show X.A.units+1<cLine by omega) (by rw[r8];exact h)
end
end Tr
namespace Tr
open PySem
def IC (c k d m:Nat):Int:=R7 (Lp [hs2 c k,hs2 d m])
def n3:List Nat:=[0,1,2]
def prs4:List (Nat×Nat×Nat×Nat):=[(0,1),(0,2),(1,2)].flatMap λp=>n3.flatMap λk=>n3.map λm=>(p.1,k,p.2,m)
def HS:List Int:=prs4.map λp=>IC p.1 p.2.1 p.2.2.1 p.2.2.2
def dd:List Nat->List Nat
 | [] => []
 | x::l=>if (dd l).contains x then dd l else x::dd l
theorem Az:∀l:List Nat,(dd l).Nodup
 | [] =>MP
 | x::l=>by
  unfold dd;split
  ·exact Az l
  ·rename_i h
   exact KG.mpr ⟨λz=>h (by simpa using z),Az l⟩
theorem uD:∀{l:List Nat} {x:Nat},x∈dd l->x∈l
 | y::l,x,h=>by
  unfold dd at h
  split at h
  ·exact JJ _ (uD h)
  ·rcases JT.mp h with rfl | h
   ·exact JO
   ·exact JJ _ (uD h)
theorem zB:∀{l pl:List Nat},l.Nodup->(∀x∈l,x∈pl)->l.length<=pl.length
 | [],_,_,_=>KY _
 | x::l,pl,nd,h=>by
  obtain⟨n1,n2⟩:=KG.mp nd
  have hx:=h x JO
  have:=zB (pl:=pl.erase x) n2 λy hy=>(OA (λz:y=x=>n1 (z▸hy))).mpr (h y (JJ _ hy))
  rw[PH hx]at this
  have:=Qe hx;rw[JR];omega
theorem qi {w pl:List Nat}(h:pl.length<(dd w).length):∃x∈w,x∉pl:=Mt λz=>by
 have:=zB (Az w) λx hx=>Mt λq=>z ⟨x,uD hx,q⟩
 omega
theorem Ia:(HS.all λh=>decide (4<(dd (qP 7 20 (Iu 7 h))).length))=true:=by decide+kernel
theorem Gb:(HS.all λh=>decide (18<(dd (qP 31 100 (Iu 31 h))).length))=true:=by decide+kernel
theorem C0:(HS.all λh=>decide (27<(dd (qP 127 120 (Iu 127 h))).length))=true:=by decide+kernel
def capQ (M mv n:Nat):Prop:=(M=7/\mv=0/\n<=4)\/(M=31/\mv=1/\n<=18)\/(M=127/\mv=2/\n<=27)
theorem EL {pl:List Nat}{M mv:Nat}{L:Bool}(hM:capQ M mv pl.length)(hs:pl.Pairwise (· < ·)){at_:Nat->Int}{h:Int}(hh:h∈HS)(hd:∀i<pl.length,at_ i≠h) :
  ∃j,j∉pl/\(i0 M mv pl L).probe at_ h ((i0 M mv pl L).probeStart h)=some (.empty j none):=by
 show ∃j,j∉pl/\N1 (i0 M mv pl L) at_ h (10*L7 M) (Iu M h)=_
 rcases hM with⟨rfl,_,hl⟩ | ⟨rfl,_,hl⟩ | ⟨rfl,_,hl⟩
 ·have:=of_decide_eq_true (Ka.mp Ia h hh)
  exact iD hs hd _ 20 _ (by decide) rfl (qi (by omega))
 ·have:=of_decide_eq_true (Ka.mp Gb h hh)
  exact iD hs hd _ 100 _ (by decide) rfl (qi (by omega))
 ·have:=of_decide_eq_true (Ka.mp C0 h hh)
  exact iD hs hd _ 120 _ (by decide) rfl (qi (by omega))
def u9 (M:Nat):Nat->Nat->Nat->List Nat
 | 0,_,_=> []
 | n+1,i,q=>(J2 (SetTable.runEnd M i+1 - i)).map (i+ ·)++u9 M n (SetTable.leap M i q).1 (SetTable.leap M i q).2
def D8 (M n:Nat)(h:Int):List Nat:=u9 M n (Lx h % (M+1)) (Lx h)
def sU (M n k:Nat):Bool:=HS.all λh=>decide (k<(dd (D8 M n h)).length)&&(D8 M n h).all λx=>decide (x<M+1)
theorem Ga:sU 31 3 5=true:=by decide+kernel
theorem CZ:sU 127 8 19=true:=by decide+kernel
theorem sy {M:Nat}{ow:Array (Option Nat)}{x:Nat}(hx:ow[x]? =some none):∀(fuel n i q:Nat),n<=fuel->x∈u9 M n i q->∃j,LD M ow fuel i q=some j/\ow[j]? =some none
 | fuel,0,i,q,_,h=>by cases h
 | 0,n+1,i,q,hn,_=>by omega
 | fuel+1,n+1,i,q,hn,h=>by
  unfold LD;split
  ·rename_i k hk
   exact⟨_,rfl,getD_none (List.find?_some (p:=λk=>(ow.getD (i+k) (some 0)).isNone) hk)⟩
  ·rename_i hk
   unfold u9 at h;refine sy hx fuel n _ _ (by omega) ((Kg.mp h).resolve_left λz=> ?_)
   obtain⟨k,hm,e⟩:=J5.mp z
   have:=List.find?_eq_none.mp hk k hm
   apply this
   show(ow.getD (i+k) (some 0)).isNone=true
   obtain⟨hl,e2⟩:=Pc.mp hx
   have hl':i+k<ow.size:=by rw[e];exact hl
   have e3:ow[i+k] =none:=by simp only[e];exact e2
   unfold Array.getD;rw[dif_pos hl'];simp[e3]
def d7 (N:Nat)(ow:Array (Option Nat)):List (Nat×Nat):=(J2 N).filterMap λj=>(ow.getD j none).map (j,·)
theorem nT {β:Type}{f g:Nat->Option β}{j:Nat}{b:β}(hf:f j=none)(hg:g j=some b)(he:∀x,x≠j->g x=f x):∀l:List Nat,l.Nodup->j∈l->(l.filterMap g).Perm (b::l.filterMap f)
 | [],_,h=>by cases h
 | x::l,nd,h=>by
  obtain⟨m1,m2⟩:=KG.mp nd
  by_cases e:x=j
  ·subst e
   rw[PD hg,PC hf,sC λy hy=>he y λz=>m1 (z▸hy)]
  ·have hj:j∈l:=(JT.mp h).resolve_left λz=>e z.symm
   have ih:=nT hf hg he l m2 hj;rw[KW,KW,he x e]
   cases f x with
   | none=>exact ih
   | some y=>exact(ih.cons y).trans (.swap ..)
theorem Cr {N x:Nat}{ow:Array (Option Nat)}(hx:x<N)(h:x∉(d7 N ow).map (·.1)):ow.getD x none=none:=by
 cases e:ow.getD x none with
 | none=>rfl
 | some y=>exact absurd (J5.mpr ⟨(x,y),NI.mpr ⟨x,Kz.mpr hx,by rw[e];rfl⟩,rfl⟩) h
def qT (M:Nat)(acc:Option (Array (Option Nat)×Nat))(h:Int):Option (Array (Option Nat)×Nat):=
 acc.bind λp=>(LD M p.1 (L7 M) (Lx h % (M+1)) (Lx h)).map λj=>(p.1.setIfInBounds j (some p.2),p.2+1)
theorem DY {M n c:Nat}{ow:Array (Option Nat)}{k:Nat}{h:Int}(hc:sU M n c=true)(hn:n<=L7 M)(hh:h∈HS)(hz:ow.size=M+1)(h1:((d7 (M+1) ow).map (·.2)).Perm (J2 k))(hk:k<=c) :
  ∃ow',qT M (some (ow,k)) h=some (ow',k+1)/\ow'.size=M+1/\((d7 (M+1) ow').map (·.2)).Perm (J2 (k+1)):=by
 have hl:(d7 (M+1) ow).length=k:=by have:=h1.length_eq;rwa [JQ,KR]at this
 have cv:=Ka.mp hc h hh;rw[JM]at cv;obtain⟨x,hx,nx⟩:=qi (w:=D8 M n h) (pl:=(d7 (M+1) ow).map (·.1)) (by have:=of_decide_eq_true cv.1;rw[JQ];omega)
 have hxM:x<M+1:=of_decide_eq_true (Ka.mp cv.2 x hx)
 have ex:=Cr hxM nx
 have ex':ow[x]? =some none:=by
  have e2:ow.getD x none=(ow[x]?).getD none:=by simp
  rw[K3 (by omega)]at e2 ⊢
  rw[ex]at e2;simp only[Option.getD_some]at e2;rw[<-e2]
 obtain⟨j,ej,nj⟩:=sy ex' (L7 M) n (Lx h % (M+1)) (Lx h) hn hx;obtain⟨hj,nj'⟩:=Pc.mp nj
 have gj:ow.getD j none=none:=by
  have e2:ow.getD j none=(ow[j]?).getD none:=by simp
  rw[e2,nj];rfl
 refine⟨ow.setIfInBounds j (some k),by unfold qT;rw[Sx,ej];rfl,by simp[hz],?_⟩
 have pm:(d7 (M+1) (ow.setIfInBounds j (some k))).Perm ((j,k)::d7 (M+1) ow):=nT (f:=λx=>(ow.getD x none).map (x,·)) (by show(ow.getD j none).map (j,·)=none;rw[gj];rfl) (by show((ow.setIfInBounds j (some k)).getD j none).map (j,·)=_;rw[rk hj,if_pos rfl];rfl) (λx hx=>by show((ow.setIfInBounds j (some k)).getD x none).map (x,·)=_;rw[rk hj,if_neg hx]) _ P9 (Kz.mpr (by omega))
 refine(pm.map _).trans ?_
 rw[JP,M8];exact(h1.cons k).trans (List.perm_append_comm (l₁:=[k]))
theorem FQ {M n c:Nat}(hc:sU M n c=true)(hn:n<=L7 M)(hs:List Int):∀(ow:Array (Option Nat)) (k:Nat),(∀h∈hs,h∈HS)->ow.size=M+1->((d7 (M+1) ow).map (·.2)).Perm (J2 k)->k+hs.length<=c+1 →
  ∃ow',hs.foldl (qT M) (some (ow,k))=some (ow',k+hs.length)/\((d7 (M+1) ow').map (·.2)).Perm (J2 (k+hs.length)):=by
 induction hs with
 | nil=>exact λow k _ _ h1 _=>⟨ow,rfl,h1⟩
 | cons h hs ih=>
  intro ow k hh hz h1 hk;rw[JR]at hk;obtain⟨ow1,st,z1,l1⟩:=DY hc hn (hh h JO) hz h1 (by omega)
  obtain⟨ow',e1,e2⟩:=ih ow1 (k+1) (λh hm=>hh h (JJ _ hm)) z1 l1 (by omega)
  have ea:k+1+hs.length=k+(h::hs).length:=by rw[JR];omega
  rw[ea]at e1 e2;refine⟨ow',?_,e2⟩
  rw[Ql,st];exact e1
theorem mf (N:Nat)(ow:Array (Option Nat)):((d7 N ow).map (·.1)).Pairwise (· < ·):=by
 have:∀l:List Nat,((l.filterMap λj=>(ow.getD j none).map (j,·)).map (·.1)).Sublist l:=by
  intro l
  induction l with
  | nil=>exact .slnil
  | cons x l ih=>
   rw[KW]
   cases ow.getD x none with
   | none=>exact ih.cons _
   | some y=>exact ih.cons_cons _
 exact Qg.sublist (this _)
theorem Ht {M n c:Nat}{hs:Array Int}(hc:sU M n c=true)(hn:n<=L7 M)(hh:∀h∈hs.toList,h∈HS)(hk:hs.size<=c+1) :
  ∃ow,Lh M hs=some ow/\((d7 (M+1) ow).map (·.2)).Perm (J2 hs.size):=by
 have l0:d7 (M+1) (NO (M+1) none)= []:=by
  unfold d7;rw[List.filterMap_eq_nil_iff];intro j hj
  have:(NO (M+1) (none:Option Nat)).getD j none=none:=by
   have e2:(NO (M+1) (none:Option Nat)).getD j none=((NO (M+1) (none:Option Nat))[j]?).getD none:=by simp
   rw[e2,Array.getElem?_replicate]
   split <;> rfl
  rw[this];rfl
 obtain⟨ow,e1,e2⟩:=FQ hc hn hs.toList (NO (M+1) none) 0 hh (by simp) (by rw[l0];exact .nil) (by simpa using hk)
 rw[Pf,show hs.toList.length=hs.size from Kv]at e1 e2
 refine⟨ow,?_,e2⟩
 unfold Lh;rw[<-Array.foldl_toList]
 have hf:(λ(acc:Option (Array (Option Nat)×Nat)) (h:Int)=>(do
   let (owner,k) <-acc
   let j <-LD M owner (L7 M) (Lx h % (M+1)) (Lx h)
   pure (owner.setIfInBounds j (some k),k+1)))=qT M:=by
  funext acc h
  unfold qT
  cases acc with
  | none=>rfl
  | some p=>
   obtain⟨o,k⟩:=p;rw[Sx]
   show(LD M o (L7 M) (Lx h % (M+1)) (Lx h) >>= _)=_
   cases LD M o (L7 M) (Lx h % (M+1)) (Lx h) <;> rfl
 rw[hf,e1];rfl
def zx (M mv N M':Nat):Prop:=(M=7/\mv=0/\N=20/\M'=31)\/(M=31/\mv=1/\N=76/\M'=127)
theorem Bz {pl:List Nat}{M mv N M':Nat}{L:Bool}{hs:Array Int}(hM:zx M mv N M')(hh:∀h∈hs.toList,h∈HS)(hk:hs.size<=19)(h5:M=7->hs.size<=6) :
  ∃pl' order,(i0 M mv pl L).relaid hs N=some (i0 M' (mv+1) pl' L,order)/\pl'.Pairwise (· < ·)/\pl'.length=hs.size/\order.toList.Perm (J2 hs.size):=by
 rcases hM with⟨rfl,rfl,rfl,rfl⟩ | ⟨rfl,rfl,rfl,rfl⟩
 ·obtain⟨ow,e1,e2⟩:=Ht Ga (by decide) hh (h5 rfl)
  refine⟨(d7 32 ow).map (·.1),((d7 32 ow).map (·.2)).toArray,?_,mf 32 ow,?_,e2⟩
  ·show(Lh 31 hs >>= λowner=>_)=_
   rw[e1]
   rfl
  ·have:=e2.length_eq
   rw[JQ,KR]at this;rw[JQ];exact this
 ·obtain⟨ow,e1,e2⟩:=Ht CZ (by decide) hh (by omega)
  refine⟨(d7 128 ow).map (·.1),((d7 128 ow).map (·.2)).toArray,?_,mf 128 ow,?_,e2⟩
  ·show(Lh 127 hs >>= λowner=>_)=_
   rw[e1]
   rfl
  ·have:=e2.length_eq
   rw[JQ,KR]at this;rw[JQ];exact this
structure SetN (h:Heap)(a:Addr)(es:Array (Int×JK))(ep M mv:Nat)(pl:List Nat)(L:Bool)(ks:List (Int×JK)):Prop where
 at_:h.get? a=some (D5 es ep M mv pl L)
 rise:pl.Pairwise (· < ·)
 len:es.size=pl.length
 perm:es.toList.Perm ks
 cap:capQ M mv pl.length
 good:∀e∈ks,e.1∈HS
theorem rB {α:Type}:∀l:List α,(J2 l.length).filterMap (l[·]?)=l
 | [] =>rfl
 | x::l=>by
  rw[JR,Qd,KW,Rc];exact congrArg (x:: ·) (rB l)
theorem uc {α:Type}{es:Array α}{order:Array Nat}(h:order.toList.Perm (J2 es.size)):(order.filterMap (es[·]?)).toList.Perm es.toList:=by
 rw[Array.toList_filterMap];refine(h.filterMap _).trans ?_
 have e:(J2 es.size).filterMap (es[·]?)=es.toList:=by
  rw[<-Kv];simp only[<-Mm]
  exact rB es.toList
 rw[e]
section
variable {prog:J9}{w:Kx}{A:Km}{E:JK->JL->Prop}{s:JL}{a:Addr}{es:Array (Int×JK)}{ep M mv:Nat}{pl:List Nat}{L:Bool}{ks:List (Int×JK)}
theorem capQ.le {n:Nat}(h:capQ M mv n):n<=M:=by rcases h with h | h | h <;> omega
theorem SetN.num {h:Heap}(x:SetN h a es ep M mv pl L ks):es.size=ks.length:=by rw[<-x.perm.length_eq];simp
theorem SetN.fits {h:Heap}(x:SetN h a es ep M mv pl L ks):(i0 M mv pl L).fits es.size=true:=qR x.len x.cap.le
theorem SetN.keep {h h':Heap}(x:SetN h a es ep M mv pl L ks)(k:∀o,h.get? a=some o->h'.get? a=some o):SetN h' a es ep M mv pl L ks:=⟨k _ x.at_,x.rise,x.len,x.perm,x.cap,x.good⟩
theorem By {N M':Nat}{Q:Unit->JL->Prop}(hM:zx M mv N M')(at_:s.heap.get? a=some (D5 es ep M mv pl L))(he:es.size=pl.length)(hl:(M=7/\pl.length=5)\/(M=31/\pl.length=19))(hp:es.toList.Perm ks)(good:∀e∈ks,e.1∈HS)
  (h:∀h' es' ep' pl',MF a s.heap h'->SetN h' a es' ep' M' (mv+1) pl' L ks->Q () { s with heap:=h' }):wpAny (model prog w) A (setRelay a N) Q E s:=by
 have hf:(i0 M mv pl L).fits es.size=true:=qR he (by rcases hl with h | h <;> omega)
 obtain⟨pl',order,e1,e2,e3,e4⟩:=Bz (pl:=pl) (L:=L) (hs:=es.map (·.1)) hM (λx hx=>by
  rw[Su]at hx;obtain⟨e,he,rfl⟩:=J5.mp hx;exact good e (hp.mem_iff.mp he)) (by simp;rcases hl with h | h <;> omega) (λz=>by simp;rcases hl with h | h <;> omega)
 simp only[Array.size_map]at e3 e4
 have pm:=uc (es:=es) e4
 have es':(order.filterMap (es[·]?)).size=es.size:=by rw[<-Kv,pm.length_eq];simp
 have hcap:capQ M' (mv+1) pl'.length:=by
  rw[e3,he];rcases hM with⟨q,rfl,_,rfl⟩ | ⟨q,rfl,_,rfl⟩
  ·exact .inr (.inl ⟨rfl,rfl,by rcases hl with h | h <;> omega⟩)
  ·exact .inr (.inr ⟨rfl,rfl,by rcases hl with h | h <;> omega⟩)
 have hN:¬ ((i0 M mv pl L).gaveWay=true):=by rcases hM with⟨rfl,_⟩ | ⟨rfl,_⟩ <;> simp[Sy,i0]
 unfold setRelay;refine JG (LL at_ rfl hf ?_)
 dsimp only
 rw[if_neg (by rcases hM with⟨rfl,rfl,rfl,_⟩ | ⟨rfl,rfl,rfl,_⟩ <;> decide+kernel),e1]
 refine JG ?_
 show wpAny _ _ (if ((order.filterMap (es[·]?)).size != es.size)=true then _ else _) _ _ _
 rw[if_neg (by rw[es'];simp)]
 have h19:es.size<=19:=by rcases hl with h | h <;> omega
 exact JN (R8 at_ rfl (h _ _ (ep+1) pl' (Ls ..) ⟨KA (Obj.putSet _ (i0 M' (mv+1) pl' L)) at_ rfl,e2,by rw[es',e3],pm.trans hp,hcap,good⟩) (by rw[es',Me];omega))
theorem Ig {b:Addr}{hv:Int}{Q:Bool->JL->Prop}(hh:hv∈HS)(x:SetN s.heap a es ep M mv pl L ks)(hn:∀e∈ks,e.1≠hv)(h26:ks.length<=26)(hb:∀{Q:Bool->JL->Prop} {E:JK->JL->Prop},Q true s->wpAny (model prog w) A (O5 8 (.ref b)) Q E s)
  (h:∀h' es' ep' M' mv' pl',MF a s.heap h'->SetN h' a es' ep' M' mv' pl' L (ks++ [(hv,.ref b)])->Q true { s with heap:=h' }):wpAny (model prog w) A (setAddHashed a (.ref b) hv) Q E s:=by
 obtain⟨j,nj,ej⟩:=EL (L:=L) x.cap x.rise (at_:=λi=>(es[i]?.map (·.1)).getD 0) hh λi hi z=>by
  have hi':i<es.size:=by rw[x.len];exact hi
  rw[K3 hi']at z
  exact hn es[i] (x.perm.mem_iff.mp (QF.mpr (Array.getElem_mem hi'))) z
 have key:∀at_:Nat->Int,(∀i,at_ i=(es[i]?.map (·.1)).getD 0)->(i0 M mv pl L).probe at_ hv ((i0 M mv pl L).probeStart hv)=some (.empty j none):=λat_ ha=>by
  rw[show at_=λi=>(es[i]?.map (·.1)).getD 0 from funext ha];exact ej
 unfold setAddHashed setAddHashedIn;refine Lk (JG (LL x.at_ rfl x.fits ?_))
 dsimp only
 rw[show byScan (.ref b) es=false from rfl,if_neg (by decide)]
 unfold setSearch setSearchFrom;refine JG (JG (LL x.at_ rfl x.fits ?_))
 dsimp only
 have gw:(i0 M mv pl L).gaveWay=false:=by
  rcases x.cap with⟨rfl,_⟩ | ⟨rfl,_⟩ | ⟨rfl,_⟩ <;> simp[Sy,i0]
 rw[gw,if_neg (by decide)]
 rw[P4,key]
 rotate_left
 ·exact λi=>rfl
 dsimp only
 refine JN ?_
 dsimp only
 refine JG (LL x.at_ rfl x.fits ?_)
 dsimp only
 rw[put2]
 dsimp only
 rw[show(i0 M mv (kS pl j) L).plain=true from rfl,if_pos rfl]
 refine JG (hb ?_)
 rw[if_pos rfl]
 have tf:(i0 M mv (kS pl j) L).tooFull=decide ((pl.length+1)*5 ≥ M*3):=by
  show decide (((kS pl j).toArray.size+0)*5 ≥ M*3)=_
  rw[J1,rC x.rise,Nat.add_zero]
 have perm:=SetTable.insertAt_perm es (J6 pl.toArray j) (hv,Kb b)
 have z2:(MC es (J6 pl.toArray j) (hv,Kb b)).size=es.size+1:=by rw[<-Kv,perm.length_eq];simp
 have p2:(MC es (J6 pl.toArray j) (hv,Kb b)).toList.Perm (ks++ [(hv,.ref b)]):=by
  refine perm.trans ?_
  rw[RT];exact x.perm.append_right _
 have g2:∀e∈ks++ [(hv,Kb b)],e.1∈HS:=λe he=>(Kg.mp he).elim (x.good e) λz=>by rw[JX.mp z];exact hh
 have sz:(MC es (J6 pl.toArray j) (hv,Kb b)).size<=sizeLine:=by rw[z2,x.num,Me];omega
 refine JG (R8 x.at_ rfl ?_ sz)
 have hg:(s.heap.update a (Obj.putSet (MC es (J6 pl.toArray j) (hv,Kb b)) (i0 M mv (kS pl j) L))).get? a=some (D5 (MC es (J6 pl.toArray j) (hv,Kb b)) (ep+1) M mv (kS pl j) L):=KA (Obj.putSet _ (i0 M mv (kS pl j) L)) x.at_ rfl
 have l2:=rC x.rise j
 have r2:=wO x.rise nj
 have hl:=x.len
 have hnum:=x.num;rw[tf]
 by_cases full:(M=7/\pl.length=4)\/(M=31/\pl.length=18)
 ·have hN:∃N M',zx M mv N M'/\SetTable.grown (es.size+1)=N:=by
   rcases full with⟨rfl,h4⟩ | ⟨rfl,h4⟩
   ·exact⟨20,31,.inl ⟨rfl,by rcases x.cap with q | q | q <;> omega,rfl,rfl⟩,by rw[hl,h4];rfl⟩
   ·exact⟨76,127,.inr ⟨rfl,by rcases x.cap with q | q | q <;> omega,rfl,rfl⟩,by rw[hl,h4];rfl⟩
  obtain⟨N,M',hN,eN⟩:=hN
  rw[if_pos (by
   rw[Bool.not_false,LN,decide_eq_true_iff];rcases full with q | q <;> omega),eN]
  refine JG (By (s:={ s with heap:=_ }) hN hg (by rw[z2,l2,hl]) (by rw[l2];rcases full with q | q <;> omega) p2 g2 λh' es' ep' pl' sb y=>JN (h h' es' ep' M' (mv+1) pl' ((Ls ..).trans sb) y))
 ·rw[if_neg (by
   rw[Bool.not_false,LN,decide_eq_true_iff];rcases x.cap with q | q | q <;> omega)]
  refine JN (h _ _ (ep+1) M mv (kS pl j) (Ls ..) ⟨hg,r2,by rw[z2,l2,hl],p2,?_,g2⟩)
  rw[l2];rcases x.cap with q | q | q
  ·exact .inl ⟨q.1,q.2.1,by omega⟩
  ·exact .inr (.inl ⟨q.1,q.2.1,by omega⟩)
  ·exact .inr (.inr ⟨q.1,q.2.1,by omega⟩)
end
section
variable {prog:J9}{w:Kx}{A:Km}{E:JK->JL->Prop}{s:JL}
def PairAt (prog:J9)(w:Kx)(h:Heap)(b:Addr)(c k d m:Nat):Prop:=∃(o:Obj) (n:Nat) (t1 t2:Addr),h.get? b=some o/\o.cls= .type "tuple"/\o.data= .seq #[.ref t1,.ref t2] n/\PL (intKind prog w) h [(c:Int),(k:Int)] t1/\PL (intKind prog w) h [(d:Int),(m:Int)] t2
theorem PairAt.keep {h h':Heap}{b:Addr}{c k d m:Nat}(x:PairAt prog w h b c k d m)(q:∀a o,h.get? a=some o->h'.get? a=some o):PairAt prog w h' b c k d m:=
 let ⟨o,n,t1,t2,a1,a2,a3,a4,a5⟩:=x;⟨o,n,t1,t2,q _ _ a1,a2,a3,zT a4 (q _),zT a5 (q _)⟩
theorem oy {n:Nat}{b:Addr}{xs:List Int}{Q:Bool->JL->Prop}(hb:PL (intKind prog w) s.heap xs b)(h:Q true s):wpAny (model prog w) A (O5 (n+1) (.ref b)) Q E s:=by
 have hT:=hb.typeIs;obtain⟨o,items,n',ho,_,hd,hi⟩:=hb;unfold O5;refine JG (Na hT MD.lookup (by
 dsimp only
 refine JG (KJ ho hd (JG (m:=forIn items _ _) ?_));rw[<-Pj]
 refine Ny _ (λbq r s'=>r.1=none/\s'=s/\∃l,ItemsAre (intKind prog w) l bq) _ ?_ ?_ _ _ ⟨rfl,rfl,xs,hi⟩
 ·rintro v bq r s' ⟨_,rfl,l,hl⟩
  cases hl with
  | @cons k _ l' _ h1 h2=>
   obtain⟨t,rfl⟩:∃t,v=LF k t:=by
    cases v <;> simp[intKind,PR]at h1
    subst h1;exact⟨_,rfl⟩
   have e0:O5 n (.int k t)=pure true:=by cases n <;> rfl
   rw[e0];refine JG (JN ?_);simp only[OE,KU,if_false];exact JN ⟨rfl,rfl,l',h2⟩
 ·rintro ⟨q1,q2⟩ s' ⟨hr,rfl,_⟩
  obtain rfl:q1=none:=hr;exact JN h))
theorem qz {b:Addr}{c k d m:Nat}{Q:Bool->JL->Prop}(x:PairAt prog w s.heap b c k d m)(h:Q true s):wpAny (model prog w) A (O5 8 (.ref b)) Q E s:=by
 obtain⟨o,n,t1,t2,ho,hcl,hd,k1,k2⟩:=x
 have hT:s.TypeIs (.ref b) "tuple":=⟨o,ho,hcl⟩;unfold O5;refine JG (Na hT MD.lookup (by
 dsimp only
 refine JG (KJ ho hd (JG (m:=forIn #[Kb t1,.ref t2] _ _) ?_));rw[<-Pj]
 refine Ny _ (λbq r s'=>r.1=none/\s'=s/\∀v∈bq,v= .ref t1\/v= .ref t2) _ ?_ ?_ _ _ ⟨rfl,rfl,λv hv=>by simpa using hv⟩
 ·rintro v bq r s' ⟨_,rfl,hl⟩
  rcases hl v JO with rfl | rfl
  ·refine JG (oy (n:=6) k1 ?_)
   simp only[OE,KU,if_false];exact JN ⟨rfl,rfl,λv hv=>hl v (JJ _ hv)⟩
  ·refine JG (oy (n:=6) k2 ?_)
   simp only[OE,KU,if_false];exact JN ⟨rfl,rfl,λv hv=>hl v (JJ _ hv)⟩
 ·rintro ⟨q1,q2⟩ s' ⟨hr,rfl,_⟩
  obtain rfl:q1=none:=hr;exact JN h))
theorem xw {b:Addr}{c k d m:Nat}{Q:Int->JL->Prop}(hu:A.units+1<cLine)(hc:c<4)(hk:k<4)(hd4:d<4)(hm:m<4)(x:PairAt prog w s.heap b c k d m)(h:∀tk,s.toks<=tk->Q (IC c k d m) { s with toks:=tk }):wpAny (model prog w) A (pyHash (.ref b)) Q E s:=by
 obtain⟨o,n,t1,t2,ho,hcl,hd,k1,k2⟩:=x
 have hT:s.TypeIs (.ref b) "tuple":=⟨o,ho,hcl⟩;unfold pyHash;(first | unfold pyHashByItsType | skip);(first | refine JG (wpAny_cRoomFor_or (.inr (by omega)) ?_) | skip);refine JG (Na hT MD.lookup ?_);show wpAny _ _ (if (some (Rk "tuple.__hash__") == some KI)=true then _ else _) Q E s;rw[if_neg (by rw[beq_builtin_none];exact J3)];refine JG (Na hT MD.lookup ?_)
 show wpAny _ _ (callSpecialIfBoundUnlessNone? (.ref b) "__hash__" _ >>= _) Q E s;refine JG (wpAny_callSpecialIfBoundUnlessNone?_slot hT MD (KP MD hT F.entry_tuple_hash ?_ (F.args_tuple_hash_1 _)));show wpAny _ _ (Nl (.ref b) >>= _) _ _ s;refine JG (wpAny_tupleItemsOf ho hd (JG ?_));rw[<-Pj]
 refine Ny _ (λbq (acc:Array Int) s'=> ∃tk,s.toks<=tk/\s'= { s with toks:=tk }/\((bq= [.ref t1,.ref t2]/\acc= #[])\/(bq= [.ref t2]/\acc= #[hs2 c k])\/(bq= []/\acc= #[hs2 c k,hs2 d m]))) _ ?_ ?_ _ _ ⟨s.toks,JW _,rfl,.inl ⟨rfl,rfl⟩⟩
 ·rintro v bq acc s' ⟨tk,ht,rfl,hr⟩
  rcases hr with⟨e1,rfl⟩ | ⟨e1,rfl⟩ | ⟨e1,rfl⟩
  ·injection e1 with e1 e2
   subst e1 e2;refine JG (RC (s:={ s with toks:=tk }) (by show A.units+1<cLine;exact hu) k1 ?_)
   rw[lE hc hk]
   (first | exact JN ⟨_,Kf ht (Nx _ _),rfl,.inr (.inl ⟨rfl,rfl⟩)⟩ | exact JG (JN (JN ⟨_,Kf ht (Nx _ _),rfl,.inr (.inl ⟨rfl,rfl⟩)⟩)))
  ·injection e1 with e1 e2
   subst e1 e2;refine JG (RC (s:={ s with toks:=tk }) (by show A.units+1<cLine;exact hu) k2 ?_)
   rw[lE hd4 hm]
   (first | exact JN ⟨_,Kf ht (Nx _ _),rfl,.inr (.inr ⟨rfl,rfl⟩)⟩ | exact JG (JN (JN ⟨_,Kf ht (Nx _ _),rfl,.inr (.inr ⟨rfl,rfl⟩)⟩)))
  ·cases e1
 ·rintro acc s' ⟨tk,ht,rfl,hr⟩
  rcases hr with⟨e1,_⟩ | ⟨e1,_⟩ | ⟨_,rfl⟩
  ·cases e1
  ·cases e1
  show wpAny _ _ (retInt (Lp [hs2 c k,hs2 d m])) _ _ _
  refine wpAny_ret_mkInt ?_
  have hq:=h (tk+1) (by omega)
  unfold IC R7 at hq
  show wpAny _ _ (if (decide (-(2:Int) ^ 63<=Lp [hs2 c k,hs2 d m])&&decide (Lp [hs2 c k,hs2 d m] <2 ^ 63))=true then _ else _) Q E _
  split at hq
  ·rename_i hr
   rw[if_pos hr];exact JN hq
  ·rename_i hr
   rw[if_neg hr];exact JG (MR (JN hq))
end
abbrev K4:=Nat×Nat×Nat×Nat
def Gk (p:K4):Int:=IC p.1 p.2.1 p.2.2.1 p.2.2.2
def Dz (key:Nat->K4)(val:Nat->JK)(j:Nat):Int×JK:=(Gk (key j),val j)
theorem key4 {p:K4}(h:p∈prs4):p.1<4/\p.2.1<4/\p.2.2.1<4/\p.2.2.2<4/\Gk p∈HS:=by
 have:∀p∈prs4,p.1<4/\p.2.1<4/\p.2.2.1<4/\p.2.2.2<4:=by decide
 obtain⟨a,b,c,d⟩:=this p h;exact⟨a,b,c,d,J5.mpr ⟨p,h,rfl⟩⟩
theorem CF {p q:K4}(hp:p∈prs4)(hq:q∈prs4)(e:Gk p=Gk q):p=q:=by
 have key:(prs4.all λp=>prs4.all λq=>Gk p != Gk q||p == q)=true:=by decide+kernel
 have:=Ka.mp (Ka.mp key p hp) q hq
 simpa [e]using this
section
variable {prog:J9}{w:Kx}{A:Km}{R:S4->JL->Prop}{I:Addr}{fp wr:List Addr}{G:Array SI->Array SI->Prop}{n:Nat}{P:Nat->JK->Prop}{St:Nat->JL->Prop}{h0:Heap}
theorem wy {L:Bool}(W:WalksS prog w A.in1 I fp wr G n P St)(S:Addr)(hS:S∉fp)(hu:A.units+2<cLine)(key:Nat->K4)(val:Nat->JK)(hk:∀i,i<n->key i∈prs4)(hd:∀i j,i<j->j<n->key i≠key j)(hn:n<=27)(h00:∀b o,h0.get? b=some o->b∉S::wr)
  (hv:∀i v,P i v->v=val i/\∃b,v= .ref b/\PairAt prog w h0 b (key i).1 (key i).2.1 (key i).2.2.1 (key i).2.2.2) :
  ∀(k i:Nat) (s:JL) (es:Array (Int×JK)) (ep M mv:Nat) (pl:List Nat),n - i=k->i<=n->St i s->SetN s.heap S es ep M mv pl L ((J2 i).map (Dz key val))->(∀b o,h0.get? b=some o->s.heap.get? b=some o) →
   (∀s' es' ep' M' mv' pl',Moved (S::wr) G s s'->SetN s'.heap S es' ep' M' mv' pl' L ((J2 n).map (Dz key val))->R (.ok (.ret .none)) s') →
   codeAny (model prog w) A (Code.builtin "set.update.loop" ⟨[.ref S,.ref I],[]⟩) R s:=by
 have hw:S∉wr:=λh=>hS (W.sub _ h)
 have hsub:∀b∈wr,b∈S::wr:=λ_=>JJ S
 intro k
 induction k with
 | zero=>
  intro i s es ep M mv pl hk' hi hst x kp hR;obtain rfl:i=n:=by omega
  refine KS Nn (by
   rw[Kq L5 _];refine JG (m:=pyNext (.ref I)) (W.done s _ _ hst λs' hm=> ?_)
   exact JN (hR s' es ep M mv pl (hm.mono hsub) (x.keep λo e=>hm.heap S o hw e)))
 | succ k ih=>
  intro i s es ep M mv pl hk' hi hst x kp hR
  have hlt:i<n:=by omega
  refine KS Nn (by
   rw[Kq L5 _];refine JG (m:=pyNext (.ref I)) (W.item i s _ _ hlt hst λv s' hP hst' hm=> ?_)
   obtain⟨ev,b,rfl,tk⟩:=hv i v hP
   have x':SetN s'.heap S es ep M mv pl L ((J2 i).map (Dz key val)):=x.keep λo e=>hm.heap S o hw e
   have kp':∀b o,h0.get? b=some o->s'.heap.get? b=some o:=λb o e=>hm.heap b o (λz=>h00 b o e (hsub b z)) (kp b o e)
   have tk':=tk.keep kp';obtain⟨q1,q2,q3,q4,q5⟩:=key4 (hk i hlt);refine JG (m:=holding [Kb b] _) (Lk ?_)
   unfold setAdd;refine Lk (JG (xw (by show A.units+1+1<cLine;exact hu) q1 q2 q3 q4 tk' λtk htk=> ?_))
   refine Ig (s:={ s' with toks:=tk }) q5 x' (λe z=> ?_) (by rw[JQ,KR];omega) (qz (s:={ s' with toks:=tk }) tk') λh' es' ep' M' mv' pl' hsb x2=> ?_
   ·obtain⟨j,hj,rfl⟩:=J5.mp z
    exact λe=>hd j i (Kz.mp hj) hlt (CF (hk j (L6 (Kz.mp hj) hlt)) (hk i hlt) e)
   ·have x3:SetN h' S es' ep' M' mv' pl' L ((J2 (i+1)).map (Dz key val)):=by rw[M8,Ld,JP,Oe,Dz,<-ev];exact x2
    refine JN ⟨Ll L5 _,ih (i+1) _ es' ep' M' mv' pl' (by omega) hlt (W.frame _ s' _ _ hst' htk λb hb o e=> ?_) x3 (λb o e=> ?_) λs'' es2 ep2 M2 mv2 pl2 hm'' x4=> ?_⟩
    ·rw[hsb.2 b (λh:b=S=>hS (by rw[<-h];exact hb))];exact e
    ·show h'.get? b=some o
     rw[hsb.2 b (λh:b=S=>h00 b o e (by rw[h];exact JO))];exact kp' b o e
    ·refine hR s'' es2 ep2 M2 mv2 pl2 (Moved.trans W.gtrans ((hm.mono hsub).then_heap htk λb o hb e=> ?_) hm'') x4
     rw[hsb.2 b (λh:b=S=>hb (by rw[h];exact JO))];exact e)
end
section
variable {w:Kx}{prog:J9}{s:JL}{A:Km}{E:JK->JL->Prop}
theorem xI {l:Addr}{items:Array JK}{key:Nat->K4}{val:Nat->JK}{Q:JK->JL->Prop}
  (hh:A.handled=none) (hu:A.units+10<cLine) (hl:s.heap.IsList l items) (hk:∀i,i<items.size->key i∈prs4) (hd:∀i j,i<j->j<items.size->key i≠key j) (hb:items.size<=27)
  (hv:∀i v,items[i]? =some v->v=val i/\∃b,v= .ref b/\PairAt prog w s.heap b (key i).1 (key i).2.1 (key i).2.2.1 (key i).2.2.2)
  (h:∀(h':Heap) (tk:Nat) es ep M mv pl,SetN h' s.heap.objs.size es ep M mv pl (!jX w) ((J2 items.size).map (Dz key val)) →
   (∀b o,b<s.heap.objs.size->s.heap.get? b=some o->h'.get? b=some o)->s.toks<=tk->Q (.ref s.heap.objs.size) { s with heap:=h',toks:=tk }) :
  wpAny (model prog w) A (call (.type "set") [Kb l]) Q E s:=by
 obtain⟨c,tl,hmro⟩:=M9.mro;have hmade:=M9.made;have hsub:=M9.sub;refine wpAny_call (Ta ?_);show wpAny _ _ (callAny (.type "set") _) _ _ _;refine JN ⟨Code.quiet_builtin _ (by decide+kernel),KS F.entry_type_call ?_⟩;rw[Around.under_plain (weight_type_call_type "set" [.ref l] []) rfl];have h1:=M9.notType;have h2:=M9.canCreate;have hct:=F.typeCall_set_1 (.ref l);repeat (any_goals (first | assumption | wp_step))
 refine Om (Bt (.ref l) (E:=E) (Q₁:=λobj s₁=>obj= .ref s.heap.objs.size/\s₁= { s with heap:=s.heap.push (pe #[] 0 [] (!jX w)) }) ⟨rfl,rfl⟩) λr s₁ hr=> ?_;cases r with
 | error e=>exact hr
 | ok fl=>
  cases fl with
  | ret obj=>
   obtain⟨rfl,rfl⟩:=hr;generalize hH:s.heap.push (pe #[] 0 [] (!jX w))=H1;have hH1:H1.objs.size=s.heap.objs.size+1:=by rw[<-hH,Ku]
   have hS:H1.get? s.heap.objs.size=some (pe #[] 0 [] (!jX w)):=by rw[<-hH];exact JS _ rfl
   have hT:Shared.TypeIs { s with heap:=H1 } (.ref s.heap.objs.size) "set":=⟨_,hS,rfl⟩;have hli:=M9.init.lookup;have hbi:=M9.init.bind (.ref s.heap.objs.size);repeat (any_goals (first | assumption | wp_step))
   refine Om (QJ (R:=wants (λr s₂=>r= .none/\∃h' tk es ep M mv pl,s₂= { s with heap:=h',toks:=tk }/\SetN h' s.heap.objs.size es ep M mv pl (!jX w) ((J2 items.size).map (Dz key val)) ∧
     (∀b o,b<s.heap.objs.size->s.heap.get? b=some o->h'.get? b=some o)/\s.toks<=tk) E) M9.init.plain F.entry_set_init (check_set_init_1 hT ?_)) λr₂ s₂ hr₂=> ?_
   ·obtain⟨ol,hol,hcl,nl,hdl⟩:=id hl
    obtain⟨ocls,odict,odata,oslots⟩:=ol;simp only at hcl hdl;subst hcl;subst hdl;have hol':H1.get? l=some { cls:=.type "list",dict:=odict,data:=.seq items nl,slots:=oslots }:=by rw[<-hH];exact JI _ hol
    have hsls:=Bk;have hslf:=Bm;have hne:(LH "list" == LH "dict")=false:=by decide
    have hl1:H1.IsList l items:=⟨_,hol',rfl,nl,rfl⟩;unfold Builtin.«set.__init__» noKeywords SH;generalize hPI:pyIter=PI;wp_walk;subst hPI;refine Nk hl1 ?_;refine JG (wpAny_runValue ?_);have hlS:l<s.heap.objs.size:=JV hol;have hh3:A.in1.in1.in1.handled=none:=by simp[hh]
    have hneI:l≠H1.objs.size:=by rw[hH1];exact J7 (Lg hlS)
    have hSf:s.heap.objs.size∉ [H1.objs.size,l]:=by
     simp only[JT,JX,Kp,or_false,not_or];exact⟨by rw[hH1];exact J7 (L1 _),LV hlS⟩
    have h00:∀b o,s.heap.get? b=some o->b∉s.heap.objs.size:: [H1.objs.size]:=λb o e=>by
     have hlt:=JV e;simp only[JT,Kp,or_false,not_or];exact⟨J7 hlt,by rw[hH1];exact J7 (Lg hlt)⟩
    refine wy (L:=!jX w) (h0:=s.heap) ((Walks.list hh3 _ l hneI items).toS) s.heap.objs.size hSf (by show A.units+1+1+2<cLine;omega) key val hk hd hb h00 hv (items.size - 0) 0 _ #[] 0 7 0 [] (by omega) (KY _)
     ⟨⟨_,JS _ rfl,rfl,rfl⟩,(hl1.push _)⟩ ?hS0 (λb o e=>JI _ (by rw[<-hH];exact JI _ e)) ?hR
    case hS0=>
     exact⟨JI _ hS,N0,rfl,.nil,.inl ⟨rfl,rfl,by simp⟩,λe he=>by simp at he⟩
    case hR=>
     intro s' es' ep' M' mv' pl' hm x';obtain⟨h',g',d',tk',os'⟩:=s';have eg:g'=s.gens:=hm.gens;have ed:d'=s.drawn:=hm.drawn;have eo:os'=s.os:=hm.os;have et:s.toks<=tk':=hm.toks;subst eg;subst ed;subst eo;show wpAny _ _ _ _ _ _;refine JN ?_;show wpAny _ _ (ret KI) _ _ _;refine JN ⟨rfl,h',tk',es',ep',M',mv',pl',rfl,x',λb o hb e=> ?_,et⟩;refine hm.heap b o ?_ (JI _ (by rw[<-hH];exact JI _ e));simp only[JT,JX,Kp,or_false,not_or];exact⟨J7 hb,by rw[hH1];exact J7 (Lg hb)⟩
   ·cases r₂ with
    | error e=>exact hr₂
    | ok fl₂=>
     cases fl₂ with
     | ret r=>
      obtain⟨rfl,h',tk,es,ep,M,mv,pl,rfl,x',hk',et⟩:=hr₂;repeat (any_goals (first | assumption | wp_step))
      exact h _ _ es ep M mv pl x' hk' et
     | _=>exact hr₂.elim
  | _=>exact hr.elim
end
theorem SetN.typ {s:JL}{a:Addr}{es:Array (Int×JK)}{ep M mv:Nat}{pl:List Nat}{L:Bool}{ks:List (Int×JK)}(x:SetN s.heap a es ep M mv pl L ks):s.TypeIs (.ref a) "set":=⟨_,x.at_,rfl⟩
section
variable {prog:J9}{w:Kx}{A:Km}{E:JK->JL->Prop}{s:JL}{M mv:Nat}{ks:List (Int×JK)}
theorem m9 {a:Addr}{es:Array (Int×JK)}{ep:Nat}{pl:List Nat}{L:Bool}{Q:Array (Int×JK)->JL->Prop}(x:SetN s.heap a es ep M mv pl L ks)(hB:jX w=true)
  (h:Q (fm w a ep es) s):wpAny (model prog w) A (setWalk a) Q E s:=by
 unfold setWalk;refine JG (LL x.at_ rfl x.fits ?_)
 dsimp only
 unfold setsByText;refine JG (JG (Nz (JN ?_)))
 show wpAny _ _ (if (jX w)=true then _ else _) _ _ _
 rw[hB,if_pos rfl];refine JG (Nz (JN ?_))
 unfold fm at h;rw[hB,if_pos rfl]at h;exact h
theorem kG {a:Addr}{es:Array (Int×JK)}{ep i:Nat}{pl:List Nat}{Q:Option (JK×Nat)->JL->Prop}(x:SetN s.heap a es ep M mv pl (!jX w) ks)(hi:i<=es.size)
  (h:Q ((fm w a ep es)[i]?.map λe=>(e.2,cT (jX w) pl (i+1))) s):wpAny (model prog w) A (setNext a (cT (jX w) pl i) i ep) Q E s:=by
 unfold setNext;refine JG (LL x.at_ rfl x.fits ?_)
 dsimp only
 unfold setsByText;refine JG (JG (Nz (JN ?_)))
 show wpAny _ _ (if (jX w)=true then _ else _) _ _ _
 cases hB:jX w with
 | true=>
  rw[if_pos rfl,if_neg (by simp)]
  refine JG (m9 x hB (JN ?_))
  rw[hB]at h
  have e0:cT true pl i=cT true pl (i+1):=by cases i <;> rfl
  rw[e0]
  exact h
 | false=>
  rw[if_neg (by simp)]
  rw[hB]at x h
  show wpAny _ _ (if (false&&decide (es.size > 1))=true then _ else _) _ _ _
  rw[if_neg (by simp)]
  refine JG ?_
  show wpAny _ _ (if (!(i0 M mv pl (!false)).led&& !es.isEmpty)=true then _ else _) _ _ _
  rw[if_neg (by simp[i0])]
  refine JN (JN ?_)
  have ep1:(i0 M mv pl (!false)).place=pl.toArray:=rfl;rw[ep1,tX x.rise (by rw[<-x.len];exact hi)]
  have eo:fm w a ep es=es:=by unfold fm;rw[hB];rfl
  rw[eo]at h;rcases Ml i es.size with q | q
  ·have q2:i<pl.length:=by rw[<-x.len];exact q
   have e1:es[i]? =some es[i]:=K3 q
   have e2:pl.toArray[i]? =some pl[i]:=by simp[q2]
   have e3:cT false pl (i+1)=pl[i] +1:=by simp[cT,q2]
   rw[e1,e3]at h;rw[e1,e2];exact h
  ·have e1:es[i]? =none:=MV q
   rw[e1]at h;rw[e1];exact h
theorem um {it a:Addr}{es:Array (Int×JK)}{ep i:Nat}{pl:List Nat}{e:Int×JK}{Q:Option JK->JL->Prop}(hit:IsSetIter s.heap it a (cT (jX w) pl i) i es.size ep)
  (x:SetN s.heap a es ep M mv pl (!jX w) ks) (hi:i<=es.size) (he:(fm w a ep es)[i]? =some e)
  (hQ:∀h',IsSetIter h' it a (cT (jX w) pl (i+1)) (i+1) es.size ep->MF it s.heap h'->Q (some e.2) { s with heap:=h' }) :
  wpAny (model prog w) A (pyNext (.ref it)) Q E s:=by
 obtain⟨o,ho,hc,hd⟩:=id hit;unfold pyNext;refine JG (NQ (KN (name:=J0 "__next__") hit.typ si_next (KP si_next hit.typ ri ?_ (u6 _))))
 refine JG (JN ?_)
 refine JG (wpAny_fieldsOf ho hd ?_)
 dsimp only
 refine JG (O6 x.at_ rfl x.fits ?_)
 rw[if_neg (by simp)]
 simp only[Lf];refine JG (kG x hi ?_)
 rw[he]
 dsimp only[Option.map]
 refine JG (Ob ho hd (by simp) ?_)
 have g1:(s.heap.update it (Obj.mapFields (·.setIfInBounds 0 (rawInt (cT (jX w) pl (i+1)))))).get? it=some (Obj.mapFields (·.setIfInBounds 0 (rawInt (cT (jX w) pl (i+1)))) o):=
  KA _ ho (Of (Mk hd _))
 have d1:=Mk hd (·.setIfInBounds 0 (rawInt (cT (jX w) pl (i+1))))
 refine JG (Ob g1 d1 (by simp) ?_)
 refine JN ⟨_,rfl,JN (hQ _ ?_ ?_)⟩
 ·refine⟨_,KA _ g1 (Of (Mk d1 _)),((Py ..).trans (Py ..)).trans hc,?_⟩
  rw[Mk d1];simp[rawInt]
 ·exact(Ls ..).trans (Ls ..)
theorem w4 {it a:Addr}{es:Array (Int×JK)}{ep:Nat}{pl:List Nat}{Q:Option JK->JL->Prop}(hh:A.handled=none)(hit:IsSetIter s.heap it a (cT (jX w) pl es.size) es.size es.size ep)
  (x:SetN s.heap a es ep M mv pl (!jX w) ks)
  (hQ:∀h',QU it s.heap h'->Q none { s with heap:=h' }) :
  wpAny (model prog w) A (pyNext (.ref it)) Q E s:=by
 obtain⟨o,ho,hc,hd⟩:=id hit;unfold pyNext;refine JG (NQ (KN (name:=J0 "__next__") hit.typ si_next (KP si_next hit.typ ri ?_ (u6 _))))
 refine JG (JN ?_)
 refine JG (wpAny_fieldsOf ho hd ?_)
 dsimp only
 refine JG (O6 x.at_ rfl x.fits ?_)
 rw[if_neg (by simp)]
 simp only[Lf];refine JG (kG x (JW _) ?_)
 have he:(fm w a ep es)[es.size]? =none:=by
  apply MV
  rw[<-Kv,(jJ w a ep es).length_eq];simp
 rw[he]
 dsimp only[Option.map]
 refine JG (Ob ho hd (by simp) ?_)
 refine JG ?_
 simp only[newExc,newTuple];refine JG (Kl ?_ (by size_fits))
 refine JG (m:=Pq _ _) (P0 (a:=KI) (by first | rfl | (simp only[Pq];rfl)) ?_)
 refine Kl ?_ (by size_fits)
 simp only[raiseNew];refine JG (wpAny_handled ?_)
 rw[show A.in1.handled=none from hh]
 refine JG (JN (wpAny_throw ?_))
 refine  JG (Ou (T:="StopIteration") (b:=true) ⟨_,JS _ rfl,rfl⟩ QP ?_)
 exact JN (hQ _ (((Ls ..).extBut.push _).push _))
theorem xk {a:Addr}{es:Array (Int×JK)}{ep:Nat}{pl:List Nat}{L:Bool}{Q:JK->JL->Prop}(x:SetN s.heap a es ep M mv pl L ks)
  (hQ:Q (.ref s.heap.objs.size) { s with heap:=s.heap.push { cls:=.type "set_iterator",data:=.fields #[.int 0 0,.int 0 0,.ref a,.int es.size 0,.int ep 0] } }) :
  wpAny (model prog w) A (pyIter (.ref a)) Q E s:=by
 refine R6 x.typ S0 (KP S0 x.typ lO ?_ (F.args_set_iter_1 _))
 unfold Builtin.«frozenset.__iter__» Builtin.Frozenset.slot0 slotArgs;simp only[List.isEmpty_nil,OE,KU,↓reduceIte,bind_assoc,LX,bne_self_eq_false];unfold Builtin.Frozenset.addrOf Builtin.Frozenset.sizeOf;refine JG (JN ?_)
 try dsimp only
 refine JG (JN ?_)
 refine JG (JG (O6 x.at_ rfl x.fits (JN ?_)))
 unfold setDrawn;refine JG (JG (LL x.at_ rfl x.fits ?_))
 dsimp only
 unfold setsByText;refine JG (JG (Nz (JN (JN ?_))))
 have e0:∀b:Bool,(!b&&(false&&decide (es.size > 1)))=false:=by intro b;cases b <;> rfl
 show wpAny _ _ (if (!(jX w)&&(false&&decide (es.size > 1)))=true then _ else _) _ _ _
 rw[e0];rw[if_neg (by simp)]
 refine JG (JN ?_)
 unfold setEpoch;refine JG (JG (LL x.at_ rfl x.fits (JN ?_)))
 refine JG (Kl (JN ⟨_,rfl,"set_iterator",_,⟨_,JS _ rfl,rfl⟩,si_next.lookup,?_⟩))
 simpa [rawInt]using hQ
theorem wu {a I:Addr}{es:Array (Int×JK)}{ep:Nat}{pl:List Nat}(hh:A.handled=none)(hne:a≠I) :
  WalksS prog w A I [I,a] [I] (λx y=>y=x) es.size (λi v=>(fm w a ep es)[i]?.map (·.2)=some v) (λi s=>IsSetIter s.heap I a (cT (jX w) pl i) i es.size ep/\SetN s.heap a es ep M mv pl (!jX w) ks) where
 sub:=λb hb=>by simp at hb;simp[hb]
 grefl:=λ_=>rfl
 gtrans:=λ_ _ _ h1 h2=>h2.trans h1
 frame:=λi s h' tk st _ hk=>⟨let ⟨o,ho,r⟩:=st.1;⟨o,hk I (by simp) o ho,r⟩,st.2.keep λo e=>hk a (by simp) o e⟩
 item:=λi s Q E hi st hQ=>by
  have hs:(fm w a ep es).size=es.size:=by rw[<-Kv,(jJ w a ep es).length_eq];simp
  have he:(fm w a ep es)[i]? =some (fm w a ep es)[i]:=K3 (by omega)
  refine um st.1 st.2 (by omega) he λh' hit hsb=> ?_
  refine hQ _ _ (by rw[he];rfl) ⟨hit,st.2.keep λo e=>(hsb.extBut a o hne e)⟩ ⟨λb o hb e=>hsb.extBut b o (λq=>hb (by simp[q])) e,rfl,rfl,rfl,JW _⟩
 done:=λs Q E st hQ=>w4 hh st.1 st.2 λh' hx=>hQ _ ⟨λb o hb e=>hx b o (λq=>hb (by simp[q])) e,rfl,rfl,rfl,JW _⟩
 self:=λi s Q E st hQ=>xm st.1 hQ
end
section
variable {prog:J9}{w:Kx}{A:Km}{E:JK->JL->Prop}{s:JL}{M mv:Nat}{ks:List (Int×JK)}
theorem xu {a:Addr}{es:Array (Int×JK)}{ep:Nat}{pl:List Nat}{L:Bool}{Q:Bool->JL->Prop}(x:SetN s.heap a es ep M mv pl L ks)(h:Q false s) :
  wpAny (model prog w) A (OJ (.ref a)) Q E s:=by
 unfold OJ;refine JG (Na x.typ F.slot_set_len.lookup ?_)
 have e:splitId "set.__len__" =some ("set","__len__"):=by decide+kernel
 simp only[e];refine JG (Ou x.typ nA ?_)
 rw[if_neg (by simp)]
 rw[if_pos (by decide+kernel)]
 exact JG (NG x.typ (JN h))
theorem qx {a:Addr}{es:Array (Int×JK)}{ep:Nat}{pl:List Nat}{Q:List JK->JL->Prop}(hh:A.handled=none)(x:SetN s.heap a es ep M mv pl (!jX w) ks)
  (h:∀vs s',Moved [] (λx y=>y=x) s s'->vs=(fm w a ep es).toList.map (·.2)->Q vs s'):wpAny (model prog w) A (collect (.ref a)) Q E s:=by
 unfold collect;refine JG (wpAny_runValue (KS F.entry_proto_collect ?_))
 rw[Kq F.plain_proto_collect _]
 show wpAny _ A.in1 (newList [] >>= λl=>again (.builtin "list.__iadd__" ⟨[l,.ref a],[]⟩)) _ _ s
 refine JG (Kl ?_)
 refine JN ⟨Ll RU _,KS F.entry_list_iadd ?_⟩
 rw[Kq RU _]
 have ha:a<s.heap.objs.size:=JV x.at_
 generalize hH:s.heap.push { cls:=.type "list",data:=.seq ([]:List JK).toArray }=H1
 have hH1:H1.objs.size=s.heap.objs.size+1:=by rw[<-hH,Ku]
 have x1:SetN H1 a es ep M mv pl (!jX w) ks:=x.keep λo e=>by rw[<-hH];exact JI _ e
 show wpAny _ A.in1 (OK (.ref s.heap.objs.size) (.ref a) (.ref s.heap.objs.size)) _ _ _
 unfold OK;refine JG (NG (SetN.typ (s:={ s with heap:=H1 }) x1) ?_)
 have h1:Pv (.ref s.heap.objs.size) (.ref a)=false:=by
  simp[Pv];exact LV ha
 have h2:(LH "set" == LH "list")=false:=by decide
 have h3:(LH "set" == LH "tuple")=false:=by decide
 simp only[h1,h2,h3,Bool.or_false,KU,if_false];refine JG (xk (s:={ s with heap:=H1 }) x1 ?_)
 generalize hH2:H1.push { cls:=.type "set_iterator",data:=.fields #[.int 0 0,.int 0 0,.ref a,.int es.size 0,.int ep 0] }=H2
 have x2:SetN H2 a es ep M mv pl (!jX w) ks:=x1.keep λo e=>by rw[<-hH2];exact JI _ e
 refine JG (Lk (xu (s:={ s with heap:=H2 }) x2 ?_))
 rw[if_pos (by decide+kernel)]
 refine JG (MR ?_)
 have hLI:s.heap.objs.size≠H1.objs.size:=by rw[hH1];exact J7 (L1 _)
 have hS1:H2.get? s.heap.objs.size=some { cls:=.type "list",data:=.seq ([]:List JK).toArray }:=by
  rw[<-hH2];refine JI _ ?_;rw[<-hH];exact JS _ rfl
 have hI1:H2.get? H1.objs.size=some { cls:=.type "set_iterator",data:=.fields #[.int 0 0,.int 0 0,.ref a,.int es.size 0,.int ep 0] }:=by
  rw[<-hH2];exact JS _ rfl
 refine JG ?_
 show wpAny _ A.in1 (O4 s.heap.objs.size (·.push .none) >>= λ_=>O4 s.heap.objs.size (·.pop)) _ _ _
 refine JG (Mg hS1 rfl ?_)
 have hS2:=KA (K8 (·.push KI)) hS1 rfl
 refine Mg hS2 rfl ?_
 have hS3:=KA (K8 (·.pop)) hS2 rfl
 generalize hH3:(H2.update s.heap.objs.size (K8 (·.push KI))).update s.heap.objs.size (K8 (·.pop))=H3 at hS3 ⊢
 have oth:∀b o,b≠s.heap.objs.size->H2.get? b=some o->H3.get? b=some o:=λb o hb e=>by
  rw[<-hH3];exact(Kh _ _ (MS hb)).trans ((Kh _ _ (MS hb)).trans e)
 have hn:es.size<=sizeLine:=by rw[x.len,Me];rcases x.cap with h | h | h <;> omega
 have hne:a≠H1.objs.size:=by rw[hH1];exact J7 (Lg ha)
 refine JN ⟨Ll F.plain_extend_loop _,codeAny_extend_loopS (wu (M:=M) (mv:=mv) (ks:=ks) (pl:=pl) (ep:=ep) (es:=es) (by simpa using hh) hne) hn _ ?_ _ es.size 0 _ #[] _ rfl (KY _)
  ⟨⟨_,oth _ _ (MS hLI) hI1,rfl,rfl⟩,x2.keep λo e=>oth a o (J7 ha) e⟩ hS3 (ItemsOf.nil _) λs' acc c hm hS' hacc=> ?_⟩
 ·simp only[JT,Kp,or_false,not_or]
  exact⟨hLI,LV ha⟩
 show wpAny _ A (load s.heap.objs.size >>= _) _ _ s'
 refine JG (wpAny_load hS' ?_)
 refine JN (h _ _ ⟨λb o hb e=> ?_,hm.gens,hm.drawn,hm.os,hm.toks⟩ ?_)
 ·have hlt:b<s.heap.objs.size:=JV e
  refine hm.heap b o ?_ (oth b o (J7 hlt) ?_)
  ·simp only[JT,Kp,or_false,not_or]
   exact⟨J7 hlt,by show ¬b=H1.objs.size;rw[hH1];exact J7 (Lg hlt)⟩
  ·rw[<-hH2];refine JI _ ?_;rw[<-hH];exact JI _ e
 ·obtain⟨h1,h2⟩:=hacc
  have hs:(fm w a ep es).size=es.size:=by rw[<-Kv,(jJ w a ep es).length_eq];simp
  apply List.ext_getElem?
  intro j;rcases Ml j acc.size with q | q
  ·have:=h2 j acc[j] (K3 q)
   rw[Mm,K3 q,Kk,Mm]
   exact this.symm
  ·rw[Mm,MV q,Kk,Mm,MV (by omega)];rfl
end
end Tr
namespace Tr
def uV (p:Nat×Nat×Nat×Nat):T:=.tup [.tup [.int (p.1:Nat),.int (p.2.1:Nat)],.tup [.int (p.2.2.1:Nat),.int (p.2.2.2:Nat)]]
def u7 (p:Nat×Nat×Nat×Nat):List Int:=[(p.1:Int),(p.2.1:Int),(p.2.2.1:Int),(p.2.2.2:Int)]
def HG (p:Nat×Nat×Nat×Nat):T->Bool
 | .tup [.tup [.int a,.int b],.tup [.int c,.int d]] => [a,b,c,d] == u7 p
 | _=>false
def mY:List (Nat×Nat×Nat×Nat)->List T->Bool
 | [],[] =>true
 | [],_::_=>false
 | p::ps,l=>match l with
  | [] =>true
  | t::r=>if HG p t then mY ps r else mY ps l
def ev9:List (Nat×Nat):=[(0,0),(0,1),(0,2),(1,0),(1,1),(1,2),(2,0),(2,1),(2,2)]
def prsL:List (Nat×Nat×Nat×Nat):=(ev9.flatMap λa=>ev9.map λb=>(a.1,a.2,b.1,b.2)).filter λp=>p.1<p.2.2.1
def gW:List T->Rs T
 | [.lst l] =>if mY prsL l then .ok (.lst l)else .bad
 | _=> .bad
theorem FI {p:Nat×Nat×Nat×Nat}{t:T}(h:HG p t=true):t=uV p:=by
 unfold HG at h
 split at h
 ·simp only[u7,beq_iff_eq,Lq,and_true]at h
  obtain⟨rfl,rfl,rfl,rfl⟩:=h
  rfl
 ·cases h
theorem oU:∀{ps:List (Nat×Nat×Nat×Nat)} {l:List T},mY ps l=true->∃ks:List (Nat×Nat×Nat×Nat),ks.Sublist ps/\l=ks.map uV
 | [],[],_=>⟨[],.slnil,rfl⟩
 | p::ps,[],_=>⟨[],Sz _,rfl⟩
 | p::ps,t::r,h=>by
  unfold mY at h
  dsimp only at h
  split at h
  ·rename_i z
   obtain⟨ks,h1,h2⟩:=oU h;exact⟨p::ks,h1.cons₂ _,by rw[FI z,h2];rfl⟩
  ·obtain⟨ks,h1,h2⟩:=oU h
   exact⟨ks,h1.cons _,h2⟩
end Tr
namespace Tr
open PySem PySem.Spec PyProof.Rows L2 PySem.W
def PP (h:Heap)(v:JK)(p:K4):Prop:=∃a o n t1 t2 i1 i2,v= .ref a/\h.get? a=some o/\o.cls= .type "tuple"/\o.data= .seq #[.ref t1,.ref t2] n/\h.IsTuple t1 i1/\Lj i1.toList [(p.1:Int),(p.2.1:Int)]/\h.IsTuple t2 i2/\Lj i2.toList [(p.2.2.1:Int),(p.2.2.2:Int)]
theorem wG {prog:J9}{w:Kx}{h:Heap}{t:Addr}{i:Array JK}{x:List Int}(q:h.IsTuple t i)(i':Lj i.toList x):PL (intKind prog w) h x t:=let ⟨o,ho,hc,n,hd⟩:=q;⟨o,i,n,ho,hc,hd,sr i'⟩
theorem lF {h h':Heap}{t:Addr}{i:Array JK}(q:h.IsTuple t i)(up:∀b o,h.get? b=some o->h'.get? b=some o):h'.IsTuple t i:=let ⟨o,ho,r⟩:=q;⟨o,up _ _ ho,r⟩
theorem uU {h:Heap}{t:Addr}{i j:Array JK}(q:h.IsTuple t i)(r:h.IsTuple t j):i=j:=by
 obtain⟨o,ho,_,n,hd⟩:=q;obtain⟨o',ho',_,n',hd'⟩:=r;rw[ho]at ho';cases ho';rw[hd]at hd';cases hd'
 rfl
def rkP:RK where
 V:=λh v ns=> ∃p,PP h v p/\ns=u7 p
 b:=false
 ty:="tuple"
 hb:=by decide+kernel
 ht:=by decide+kernel
 inj:=λ⟨p,⟨a,o,n,t1,t2,i1,i2,e,ho,hc,hd,q1,k1,q2,k2⟩,r⟩ ⟨p',⟨a',o',n',t1',t2',i1',i2',e',ho',hc',hd',q1',k1',q2',k2'⟩,r'⟩=>by
  subst e;cases e';rw[ho]at ho';cases ho';rw[hd]at hd';injection hd' with e1
  have e2:=congrArg Pe e1;simp only[Lq,Kb.injEq,and_true]at e2;obtain⟨rfl,rfl⟩:=e2;rw[uU q1 q1']at k1;rw[uU q2 q2']at k2
  have e3:=k1.nums.symm.trans k1'.nums
  have e4:=k2.nums.symm.trans k2'.nums;simp only[Lq,and_true]at e3 e4;rw[r,r'];unfold u7;rw[e3.1,e3.2,e4.1,e4.2]
 on:=λ⟨p,⟨a,o,n,t1,t2,i1,i2,e,ho,hc,hd,q1,k1,q2,k2⟩,r⟩ up=>⟨p,⟨a,o,n,t1,t2,i1,i2,e,up _ _ ho,hc,hd,lF q1 up,k1,lF q2 up,k2⟩,r⟩
 fst:=λ⟨p,⟨a,o,n,t1,t2,i1,i2,e,ho,hc,hd,⟨o1,h1,c1,d1⟩,k1,q2,k2⟩,r⟩=>⟨a,o,_,n,_,e,ho,hc,hd,rfl,λM=>c1▸((Looks.ld h1).andThen .now)⟩
 lt:=λ{prog w A s E x y a b Q} hu ⟨p,⟨xa,xo,xn,x1,x2,xi1,xi2,ex,xh,xc,xd,xq1,xk1,xq2,xk2⟩,xr⟩ ⟨p',⟨ya,yo,yn,y1,y2,yi1,yi2,ey,yh,yc,yd,yq1,yk1,yq2,yk2⟩,yr⟩ q=>by
  subst ex ey xr yr;refine kat_lt xh xd yh yd (kat_cons (RD (knd:=intKind prog w) (by omega) (wG xq1 xk1) (wG yq1 yk1) ?_))
  unfold u7 at q;rw[hZ,hZ]at q
  by_cases z:[(p.1:Int),(p.2.1:Int)] = [(p'.1:Int),(p'.2.1:Int)]
  ·rw[decide_eq_true z]
   simp only[Lq,and_true]at z;rw[if_pos z.1,if_pos z.2]at q;refine kat_yes (kat_cons (RD (knd:=intKind prog w) (by omega) (wG xq2 xk2) (wG yq2 yk2) ?_))
   by_cases z2:[(p.2.2.1:Int),(p.2.2.2:Int)] = [(p'.2.2.1:Int),(p'.2.2.2:Int)]
   ·rw[decide_eq_true z2]
    rw[z2,dA]at q;exact kat_yes (kat_nil q)
   ·rw[decide_eq_false z2]
    refine kat_no (kat_one _ _ (HT.lt_tupInts xq2 yq2 xk2 yk2 (by omega) ?_))
    rw[uq];exact q
  ·rw[decide_eq_false z]
   refine kat_no (kat_one _ _ (HT.lt_tupInts xq1 yq1 xk1 yk1 (by omega) ?_))
   rw[uq,hZ,hZ]
   by_cases z1:(p.1:Int)=(p'.1:Int)
   ·rw[if_pos z1]at q ⊢
    by_cases z2:(p.2.1:Int)=(p'.2.1:Int)
    ·exact absurd (by rw[z1,z2]) z
    ·rw[if_neg z2]at q ⊢
     exact q
   ·rw[if_neg z1]at q ⊢
    exact q
theorem PP.pair {prog:J9}{w:Kx}{h:Heap}{v:JK}{p:K4}(x:PP h v p):∃b,v= .ref b/\PairAt prog w h b p.1 p.2.1 p.2.2.1 p.2.2.2:=let ⟨a,o,n,t1,t2,i1,i2,e,ho,hc,hd,q1,k1,q2,k2⟩:=x;⟨a,e,o,n,t1,t2,ho,hc,hd,wG q1 k1,wG q2 k2⟩
section
variable {X:Cx}
theorem it2 {pins:List (Addr×Obj)}{σ:L2.St}{H:Hp}{s:JL}{O:Ow}(I:Inv X pins σ H s){x y:Int}{v:V}(r:Rep X.K O H (.tup [.int x,.int y]) v):∃b i,v= .ref b/\s.heap.IsTuple b i/\Lj i.toList [x,y]:=by
 obtain⟨b,ws,rfl,n,e,z⟩:=Rep.Da.mp r;obtain⟨its,r',pl,hz⟩:=I.tuple (SqT.of e);exact⟨b,_,rfl,pl,by simpa using cp (ns:=[x,y]) rfl z r'⟩
theorem G7 {pins:List (Addr×Obj)}{σ:L2.St}{H:Hp}{s:JL}{O:Ow}(I:Inv X pins σ H s){p:K4}{v:V}{u:JK}(r:Rep X.K O H (uV p) v)(q:RelV v u):PP s.heap u p/\v=eC u:=by
 obtain⟨b,ws,rfl,n,e,z⟩:=Rep.Da.mp r;obtain rfl:u=Kb b:=q;obtain⟨w1,wt,rfl,z1,z2⟩:=Reps.me.mp z;obtain⟨w2,rfl,z3⟩:=z2.one;obtain⟨t1,i1,rfl,q1,k1⟩:=it2 I z1;obtain⟨t2,i2,rfl,q2,k2⟩:=it2 I z3;obtain⟨its,r',⟨o,ho,hc,m,hd⟩,hz⟩:=I.tuple (SqT.of e)
 cases r' with
 | cons a1 a2=>
  cases a2 with
  | cons b1 b2=>
   cases b2;obtain rfl:=show _=Kb t1 from a1
   obtain rfl:=show _=Kb t2 from b1
   exact⟨⟨b,o,m,t1,t2,i1,i2,rfl,ho,hc,hd,q1,k1,q2,k2⟩,rfl⟩
theorem yZ {pins:List (Addr×Obj)}{σ:L2.St}{H:Hp}{s:JL}{O:Ow}(I:Inv X pins σ H s):∀{ks:List K4} {vs:List V} {us:List JK},Reps X.K O H (ks.map uV) vs->Vals vs us →
  us.map (rkP.row s.heap)=ks.map u7/\(∀i u,us[i]? =some u->PP s.heap u (ks.getD i (0,0,0,0)))/\∀u∈us,∃p∈ks,PP s.heap u p/\RelV (eC u) u/\Rep X.K O H (uV p) (eC u)
 | [],vs,us,r,v=>by
  cases Reps.AC.mp r;cases v
  exact⟨rfl,λi u e=>by simp at e,λu hu=>nomatch hu⟩
 | p::ks,vs,us,r,v=>by
  obtain⟨x,xs,rfl,p1,q1⟩:=Reps.me.mp r
  cases v with
  | @cons _ u _ us' v1 v2=>
   obtain⟨e1,e2,e3⟩:=yZ I q1 v2;obtain⟨g1,g2⟩:=G7 I p1 v1;refine⟨by rw[JP,e1,RK.IJ (R:=rkP) ⟨p,g1,rfl⟩];rfl,λi w e=> ?_,λw hw=> ?_⟩
   ·cases i with
    | zero=>cases e;exact g1
    | succ i=>exact e2 i w (by simpa using e)
   ·rcases JT.mp hw with rfl | hw
    ·exact⟨p,JO,g1,g2▸v1,g2▸p1⟩
    ·obtain⟨p',h1,h2⟩:=e3 w hw
     exact⟨p',JJ _ h1,h2⟩
theorem DI {K:JH}{O:Ow}{H:Hp}{h:Heap}:∀{us:List JK} {ks:List K4},us.map (rkP.row h)=ks.map u7->(∀u∈us,∃p,PP h u p/\RelV (eC u) u/\Rep K O H (uV p) (eC u))->Vals (us.map eC) us/\Reps K O H (ks.map uV) (us.map eC)
 | [],[],_,_=>⟨.nil,Reps.II⟩
 | [],_::_,e,_=>nomatch e
 | _::_,[],e,_=>nomatch e
 | u::us,k::ks,e,hu=>by
  injection e with e1 e2
  obtain⟨p,h1,h2,h3⟩:=hu u JO;obtain⟨g1,g2⟩:=DI e2 λv hv=>hu v (JJ _ hv)
  rw[RK.IJ (R:=rkP) ⟨p,h1,rfl⟩]at e1
  have ek:p=k:=by
   unfold u7 at e1;simp only[Lq,and_true]at e1;obtain⟨a,b,c,d⟩:=p;obtain⟨a',b',c',d'⟩:=k;simp only at e1;simp only[PQ];omega
  subst ek;exact⟨.cons h2 g1,Reps.me.mpr ⟨_,_,rfl,h3,g2⟩⟩
theorem prsL_rise:prsL.Pairwise λp q=>a7 (u7 p) (u7 q)=true:=by decide+kernel
theorem B1:∀p∈prsL,p∈prs4:=by decide+kernel
end
section
variable {X:Cx}{a:Expr}{fs:En->Rs (List T)}{p p1 p2 pos:Pos}
theorem wN (hc:X.calm=true)(hu:X.A.units+70<cLine)(hm:X.mg "sorted" =none)(hms:X.mg "set" =none)(ha:qG X [a] fs)(hst:autoParam (ba [a] =true) u_)(hg:autoParam (Gl X "sorted") u_)(hgs:autoParam (Gl X "set") u_) :
  b7 X (.Call (.Name "sorted" p) [.Call (.Name "set" p1) [a] [] p2] [] pos) (cl gW fs):=by
 intro pins s σ H Q I ⟨Z,O,Ev,hq⟩
 have e1:Kc [Md (.Name "set" p1) [a] [] p2] X.env=(false,eval (.Call (.Name "set" p1) [a] [] p2) X.env)::Kc [] X.env:=bf rfl;unfold ba at hst;rw[JM]at hst
 have e2:Kc [a] X.env=(false,eval a X.env)::Kc [] X.env:=bf hst.1;refine LB (fQ I hg hm (show Ky "sorted" =some (.builtin "sorted")by decide+kernel) ?_ (by decide) (by decide))
 refine ME ?_ e1 rfl
 rw[e1];refine Mj ?_
 refine LB (fQ I hgs hms (show Ky "set" =some (.type "set")by decide+kernel) ?_ (by decide) (by decide))
 refine K9 (bV (ha p2 pins s σ H _ I (dX Ev hq)) λus s1 ⟨vs,H1,I1,r1,ts,rs,s',E',q1⟩=> ?_) e2 rfl
 unfold gW at q1
 split at q1
 ·rename_i l
  split at q1
  ·rename_i hz
   obtain⟨ks,sub,rfl⟩:=oU hz;obtain⟨v1,rfl,ra⟩:=rs.one;obtain⟨c1,ws,rfl,n1,hx,rx⟩:=Rep.Fk.mp ra;obtain⟨u1,rfl,z1⟩:=Vals.one r1;obtain rfl:u1=Kb c1:=z1;obtain⟨z,its,n,rv,hlen,eo⟩:=I1.IT hx;obtain⟨f1,f2,f3⟩:=yZ I1 rx rv
   have hll:its.length=ks.length:=by have:=congrArg MZ f1;simpa using this
   have h27:ks.length<=27:=Kf sub.length_le (by decide+kernel)
   have hd:X.A.handled=none:=I1.ok.hd hc
   have rise:=prsL_rise.sublist sub
   have kat:∀i (h:i<its.toArray.size),ks.getD i (0,0,0,0)=ks[i]'(by rw[J1]at h;omega):=λi h=>by
    rw[J1]at h;rw[LC,JU (by omega)];rfl
   refine xI (items:=its.toArray) (key:=λi=>ks.getD i (0,0,0,0)) (val:=λi=>its.getD i .none) hd (by omega) ⟨_,eo,rfl,n,rfl⟩ (λi h=> ?_) (λi j h1 h2=> ?_) (by rw[J1];omega) (λi v e=> ?_) λh' tk es ep M mv pl x kp et=> ?_
   ·show ks.getD i (0,0,0,0)∈prs4
    rw[kat i h];exact B1 _ (sub.subset (K1 _))
   ·show ks.getD i (0,0,0,0)≠ks.getD j (0,0,0,0)
    rw[kat j h2,kat i (by omega)]
    intro e
    have g:=Ms.mp rise i j (by rw[J1]at h2;omega) (by rw[J1]at h2;omega) h1
    rw[e,dA]at g;cases g
   ·have e:its[i]? =some v:=by simpa using e
    exact⟨by rw[LC,e];rfl,(f2 i v e).pair⟩
   refine My ?_
   refine uX (R:=rkP) (s:={ s1 with heap:=h',toks:=tk }) (by omega) λA' hA'=>qx (by rw[hA'];exact hd) x λvs s2 hm hvs=> ?_
   have pm:vs.Perm its:=by
    rw[hvs];refine((jJ _ _ _ _).trans x.perm).map (·.2)|>.trans ?_
    rw[Lc];refine SM (SA (by simp) λi h1 h2=> ?_)
    simp[Dz,LC,h2]
   have up2:∀b o,s1.heap.get? b=some o->s2.heap.get? b=some o:=λb o e=>hm.heap b o (by simp) (kp b o (JV e) e)
   have row2:∀u∈vs,∃p,PP s1.heap u p/\rkP.V s2.heap u (u7 p)/\RelV (eC u) u/\Rep X.K O H1 (uV p) (eC u):=λu hu=>by
    obtain⟨p,_,g1,g2⟩:=f3 u (pm.mem_iff.mp hu);exact⟨p,g1,rkP.on ⟨p,g1,rfl⟩ up2,g2⟩
   have h64:vs.length<64:=by rw[pm.length_eq];omega
   refine⟨λu hu=>let ⟨p,_,g,_⟩:=row2 u hu;⟨_,g⟩,h64,λout g1 g2=> ?_⟩
   have em:out.toList.map (rkP.row s1.heap)=ks.map u7:=by
    rw[KO λu hu=>show rkP.row s2.heap u=rkP.row s1.heap u by
     obtain⟨p,a1,a2,_⟩:=row2 u (g1.mem_iff.mp hu);rw[RK.IJ (R:=rkP) a2,RK.IJ (R:=rkP) ⟨p,a1,rfl⟩]]at g2
    refine Pu (le:=λa b=>ku a b=true) (λa b _ _ h g=>sd a b h g) g2 (N6.mpr (rise.imp λ{p q} h=> ?_)) ?_
    ·unfold ku
     cases y:a7 (u7 q) (u7 p)with
     | false=>rfl
     | true=>have:=gy _ _ _ h y;rw[dA]at this;cases this
    ·rw[<-f1]
     exact(g1.trans pm).map _
   obtain⟨k1,k2⟩:=DI (K:=X.K) (O:=O) (H:=H1) em λu hu=>let ⟨p,a1,_,a3⟩:=row2 u (g1.mem_iff.mp hu);⟨p,a1,a3⟩
   have hoL:(s2.heap.push (seqObj "list" vs.toArray 0)).get? s2.heap.objs.size=some (seqObj "list" vs.toArray 0):=JS _ rfl
   obtain⟨nn,hn⟩:=sortedHeap_at (out:=out) hoL;obtain⟨hp',g',d',tk',os'⟩:=s2
   have eg:g'=s1.gens:=hm.gens
   have ed:d'=s1.drawn:=hm.drawn
   have eo':os'=s1.os:=hm.os;subst eg;subst ed;subst eo'
   have hfr:s1.heap.objs.size<=hp'.objs.size:=by
    refine P5 λhlt=> ?_
    have hx':=hm.heap _ _ (by simp) x.at_
    exact Ki _ (L6 (JV hx') hlt)
   have hH:H1 hp'.objs.size=none:=I1.hok.fresh hfr;refine⟨.ref hp'.objs.size,upd H1 hp'.objs.size (.lst (out.toList.map eC)),I1.laid (t':=tk') (λb o e=> ?_) hfr ⟨by rw[JQ,g1.length_eq,Me];omega,out.toList,nn,k1,hn⟩,rfl,q1 _ (aU hH _) _ (gb hH (E'.fresh hH) k2)⟩
   have e':=up2 b o e
   have hlt:b<hp'.objs.size:=JV e'
   show(R5 (hp'.push (seqObj "list" vs.toArray 0)) hp'.objs.size vs out).get? b=some o
   rw[sortedHeap_old (J7 hlt) (by rw[size_push'];exact Lg hlt)]
   exact JI _ e'
  ·exact q1.elim
 ·exact q1.elim
theorem tI (hc:X.calm=true)(hu:X.A.units+70<cLine)(hm:X.mg "sorted" =none)(hms:X.mg "set" =none)(ha:QA X [a] fs)(hst:autoParam (ba [a] =true) u_)(hg:autoParam (Gl X "sorted") u_)(hgs:autoParam (Gl X "set") u_) :
  QE X (.Call (.Name "sorted" p) [.Call (.Name "set" p1) [a] [] p2] [] pos) (cl gW fs):=⟨wN hc hu hm hms ha.h hst hg hgs⟩
end
end Tr
namespace Tr
open PySem PySem.Spec PyProof.Rows L2
section
variable {P:J9}{w:Kx}{K:JH}{mg:Str->Option JK}{base:Heap}{x:Str}{st:Stmt}{ps:List Str}{k n:Nat}{F:En->Rs Fl}
theorem aN (N:List Str)(H:fE K mg x st ps)
  (hbody:N.Nodup->∀(f:Addr) (cdv:JK) (A:Km) (outer:List Env) (s:JL) (H:Hp) (E:XK),Room k (A.deeper (envOfC x (aA st) s.heap.objs.size f cdv)) →
   ∀xe,AQ ((jU CX0 P w K mg base N x (aA st) f cdv A outer s H E).FM xe) (cf st) F) (S:autoParam (dG N ps (aA st)) a_) (hn:autoParam (ps.length=n) u_):Cl P w K mg base (k+1) x n (val n N.length F):=Ic H S hn (hbody S.nd)
end
theorem cR {X:Cx}{pos:Pos}{elt tg iter:Expr}{ifs:List Expr}{scope:NR}{src:List (Option Nat)}{fi:En->Rs (List T)}{tgt:T->En->Rs En}{fc:En->Rs Bool}{fe:En->Rs T}(N' N:List Str)(st:Stmt)(hi:QI X tg iter fi)
  (block:N'.Nodup->∀(cl:List (Str×Addr)) (C:Addr) (s₀:JL) (H₀:Hp) (fp:List Addr),QG (bw X scope cl N' C s₀ H₀ fp) tg tgt/\Gn (bw X scope cl N' C s₀ H₀ fp) ifs fc/\QE (bw X scope cl N' C s₀ H₀ fp) elt fe)
  (hc:autoParam (Cx.calm X=true) u_) (hN:autoParam (X.N=N) u_) (hm:autoParam (X.env.scope.names=(aA st).names) u_) (hk:autoParam (scope.kind= .function) u_) (h:autoParam (Ft (aA st).names N scope.names N' src=true) z_) (nd:autoParam (N'.Nodup) z_) (hs:autoParam (∀(x:JK),KL iter (Cx.env X) x=pure x) t_) :
  QE X (NN elt [{ target:=tg,iter:=iter,ifs:=ifs,is_async:=0 }] scope pos) (dU fi src tgt fc fe):=Gp hc (LcScope.by hN hm hk h) hi (block nd) hs
@[elab_as_elim] theorem Hr {α:Type} {p:List α->Prop} (h:∀a,p [a]):∀us:List α,us.length=1->p us
 | [a],_=>h a
@[elab_as_elim] theorem Hq {α:Type} {p:List α->Prop} (h:∀a b,p [a,b]):∀us:List α,us.length=2->p us
 | [a,b],_=>h a b
@[elab_as_elim] theorem Ho {α:Type} {p:List α->Prop} (h:∀a b c,p [a,b,c]):∀us:List α,us.length=3->p us
 | [a,b,c],_=>h a b c
section
variable {K:JH}{h:Heap}{mg:Str->Option JK}{S:xP}{top:Nat->Stmt}
theorem bR (j:Nat){n:Str}{i:Nat}{ps:List Str}(X:K.In h)(G:h.Ns Kw mg)(e:pQ S K=oP S top)(q:autoParam (S.tab[j]? =some (n,i)) u_)
  (hb:∀(kV doc pm:JK) (an:Option Addr) (cdv ct:JK) (us:List JK),us.length=ps.length->SJ (NB n n (eZ (top i)) (cf (top i)) (aA (top i)) .none kV doc pm an cdv ct) ⟨us,[]⟩=pure (ps.zip us):=by
   intro _ _ _ _ _ _ us hl;first | exact Hr (λ_=>rfl) us hl | exact Hq (λ_ _=>rfl) us hl | exact Ho (λ_ _ _=>rfl) us hl | exact len_0 rfl us hl) :
  ∃f fd,Fn K mg n (top i) ps f fd:=k_fn j X G e q hb
end
end Tr
namespace G
open PySem PySem.Spec PyProof.Rows L2 Tr
structure Bl (mg:Str->Option JK):Prop where
 b_all:mg "all" =none
 b_bool:mg "bool" =none
 b_dict:mg "dict" =none
 b_enumerate:mg "enumerate" =none
 b_int:mg "int" =none
 b_isinstance:mg "isinstance" =none
 b_len:mg "len" =none
 b_max:mg "max" =none
 b_min:mg "min" =none
 b_range:mg "range" =none
 b_set:mg "set" =none
 b_sorted:mg "sorted" =none
 b_sum:mg "sum" =none
 b_tuple:mg "tuple" =none
 b_zip:mg "zip" =none
structure Cs (mg:Str->Option JK):Prop where
 MOST_CLOCKS:∃t,mg "MOST_CLOCKS" =some (.int 4 t)
 MOST_LETTERS:∃t,mg "MOST_LETTERS" =some (.int 8 t)
 MOST_READINGS:∃t,mg "MOST_READINGS" =some (.int 4 t)
 LAST_READING:∃t,mg "LAST_READING" =some (.int 99 t)
 SLOWEST:∃t,mg "SLOWEST" =some (.int 9 t)
 LONGEST:∃t,mg "LONGEST" =some (.int 999 t)
theorem qB:Ky "bool" =some (.type "bool"):=by decide+kernel
theorem qA:Ky "dict" =some (.type "dict"):=by decide+kernel
theorem kO:Ky "int" =some (.type "int"):=by decide+kernel
theorem cZ:Ky "tuple" =some (.type "tuple"):=by decide+kernel
structure Xs (K:JH)(mg:Str->Option JK)(C_NoRecord C_NoEvent C_NoNumber C_NoWorld C_ClockError:Addr):Prop where
 m_NoRecord:mg "NoRecord" =some (.ref C_NoRecord)
 m_NoEvent:mg "NoEvent" =some (.ref C_NoEvent)
 m_NoNumber:mg "NoNumber" =some (.ref C_NoNumber)
 m_NoWorld:mg "NoWorld" =some (.ref C_NoWorld)
 m_ClockError:mg "ClockError" =some (.ref C_ClockError)
 o_NoRecord:OX K C_NoRecord (.ref C_ClockError::tG)
 o_NoEvent:OX K C_NoEvent (.ref C_ClockError::tG)
 o_NoNumber:OX K C_NoNumber (.ref C_ClockError::tG)
 o_NoWorld:OX K C_NoWorld (.ref C_ClockError::tG)
 o_ClockError:OX K C_ClockError tG
 d:[C_NoRecord,C_NoEvent,C_NoNumber,C_NoWorld,C_ClockError].Nodup
end G
namespace G
open PySem Tr
def ix:En->Rs Fl:=
 (ay (eO (tb (o2 ql (vr 0) (fD aj))) (aO (o2 ck (cn (.int 7)) (vr 1))) sN) (aO (o2 aY (o2 aS (vr 0) (o2 jN (vr 1) (cl cH (ae (vr 0) aj)))) (o2 ck (cn (.int 6553)) (o2 jR (vr 1) (cl cH (ae (vr 0) aj)))))))
def d6:List T->Rs T:=val 2 2 ix
def gG:En->Rs Fl:=
 (ay (cw (o2 jN (o2 aY (o2 ck (o2 jN (cl d6 (ae (vr 0) (ae (vr 1) aj))) (cn (.int 2147483563))) (cn (.int 69069))) (o2 ck (cn (.int 104723)) (o2 aY (vr 1) (cn (.int 1))))) (cn (.int 2147483563))) (gN 3)) (ay (cw (o2 jN (o2 aY (o2 ck (vr 3) (vr 3)) (o2 jR (vr 3) (cn (.int 3)))) (cn (.int 2147483399))) (gN 3)) (aO (o2 jN (o2 jR (o2 jN (o2 aY (o2 ck (vr 3) (vr 3)) (o2 jR (vr 3) (cn (.int 7)))) (cn (.int 2147483647))) (cn (.int 11))) (vr 2)))))
def aE:List T->Rs T:=val 3 4 gG
def jj:En->Rs Fl:=
 (ay (cw (fD aj) (gN 1)) (ay (dY (iE (ae (vr 0) aj)) (gT 2 (jy (gN 2) (jy (gN 3) sv))) (cw (o2 aY (vr 1) (dU (iR (ae (cl cH (ae (o2 aS (vr 3) (cn (.int 2))) aj)) aj)) [none,some 2] (gN 0) bT (br (ae (vr 1) (ae (vr 0) aj))))) (gN 1))) (aO (vr 1))))
def cX:List T->Rs T:=val 1 4 jj
def c7:En->Rs Fl:=
 (ay (cw (cl cX (ae (vr 2) aj)) (gN 3)) (ay (eO (tb (o2 Cp (cl cH (ae (vr 3) aj)) (cn (.int 2)))) (aO (cn .non)) sN) (ay (cw (cl aE (ae (vr 0) (ae (vr 1) (ae (cl cH (ae (vr 3) aj)) aj)))) (gN 4)) (ay (cw (o2 jN (o2 aY (o2 aY (vr 4) (cn (.int 1))) (cl aE (ae (vr 0) (ae (o2 aY (vr 1) (cn (.int 1))) (ae (o2 jG (cl cH (ae (vr 3) aj)) (cn (.int 1))) aj))))) (cl cH (ae (vr 3) aj))) (gN 5)) (ay (cw (cl aE (ae (vr 0) (ae (o2 aY (vr 1) (cn (.int 2))) (ae (cn (.int 8)) aj)))) (gN 6)) (ay (cw (DF (tb (o2 ql (cl aE (ae (vr 0) (ae (o2 aY (vr 1) (cn (.int 3))) (ae (cn (.int 3)) aj)))) (cn (.int 0)))) (cn .non) (o2 aY (vr 6) (cl aE (ae (vr 0) (ae (o2 aY (vr 1) (cn (.int 4))) (ae (cn (.int 9)) aj)))))) (gN 7)) (aO (br (ae (o2 aS (vr 3) (vr 4)) (ae (o2 aS (vr 3) (vr 5)) (ae (vr 6) (ae (vr 7) aj))))))))))))
def bN:List T->Rs T:=val 3 8 c7
def gH:En->Rs Fl:=
 (ay (cw (o2 aY (cn (.int 1)) (cl aE (ae (vr 0) (ae (vr 1) (ae (cn (.int 3)) aj))))) (gN 2)) (ay (cw (br (ae (cl aE (ae (vr 0) (ae (o2 aY (vr 1) (cn (.int 2))) (ae (cn (.int 6)) aj)))) aj)) (gN 3)) (ay (dY (iR (ae (cl aE (ae (vr 0) (ae (o2 aY (vr 1) (cn (.int 1))) (ae (cn (.int 3)) aj)))) aj)) (gN 4) (cw (o2 aY (vr 3) (br (ae (o2 aY (o2 aY (o2 aS (vr 3) (o1 pW (cn (.int 1)))) (cn (.int 1))) (cl aE (ae (vr 0) (ae (o2 aY (o2 aY (vr 1) (cn (.int 3))) (vr 4)) (ae (cn (.int 5)) aj))))) aj))) (gN 3))) (aO (br (ae (vr 2) (ae (o2 aY (vr 2) (cl aE (ae (vr 0) (ae (o2 aY (vr 1) (cn (.int 6))) (ae (cn (.int 3)) aj))))) (ae (vr 3) aj))))))))
def bX:List T->Rs T:=val 2 5 gH
def fV:En->Rs Fl:=
 (ay (cw (cl gm (ae (dU (iR (ae (o2 aY (cn (.int 1)) (cl aE (ae (vr 0) (ae (vr 1) (ae (cn (.int 3)) aj))))) aj)) [none,some 0,some 1] (gN 0) bT (cl bX (ae (vr 1) (ae (o2 aY (o2 aY (vr 2) (cn (.int 1))) (o2 ck (cn (.int 8)) (vr 0))) aj)))) aj)) (gN 3)) (ay (cw (fD aj) (gN 4)) (ay (dY (iR (ae (cl aE (ae (vr 0) (ae (o2 aY (vr 1) (cn (.int 30))) (ae (o2 aY (vr 2) (cn (.int 1))) aj)))) aj)) (gN 5) (ay (cw (cl bN (ae (vr 0) (ae (o2 aY (o2 aY (vr 1) (cn (.int 31))) (o2 ck (cn (.int 6)) (vr 5))) (ae (vr 3) aj)))) (gN 6)) (cw (o2 aY (vr 4) (o2 ck (fD (ae (vr 6) aj)) (cl z9 (ae (o2 kH (vr 6) (cn .non)) aj)))) (gN 4)))) (aO (br (ae (vr 3) (ae (cl gm (ae (vr 4) aj)) aj)))))))
def dS:List T->Rs T:=val 3 7 fV
def oH:En->Rs Fl:=
 (aO (cU (o1 (CB "tuple") (vr 0)) (ch Cu Cu (vr 1) (cl cH (ae (vr 0) aj)) (vr 2))))
def aK:List T->Rs T:=val 3 3 oH
def uO:En->Rs Fl:=
 (aO (cU (o1 (CB "int") (vr 0)) (o1 uh (o1 (CB "bool") (vr 0)))))
def gv:List T->Rs T:=val 1 1 uO
def tj:En->Rs Fl:=
 (aO (cU (cl gv (ae (vr 0) aj)) (ch Cu Cu (vr 1) (vr 0) (vr 2))))
def aX:List T->Rs T:=val 3 3 tj
def xO:En->Rs Fl:=
 (aO (cU (cl aX (ae (vr 0) (ae (cn (.int 1)) (ae (cn (.int 9)) aj)))) (cl aX (ae (vr 1) (ae (vr 0) (ae (cn (.int 9)) aj))))))
def iO:List T->Rs T:=val 2 2 xO
def wm:En->Rs Fl:=
 (aO (cl nC (ae (dU (iR (ae (o2 jG (cl cH (ae (vr 0) aj)) (cn (.int 1))) aj)) [none,some 0] (gN 0) bT (o2 Cp (o2 aS (vr 1) (vr 0)) (o2 aS (vr 1) (o2 aY (vr 0) (cn (.int 1)))))) aj)))
def iN:List T->Rs T:=val 1 1 wm
def dI:En->Rs Fl:=
 (ay (eO (eF (tb (cl aK (ae (vr 0) (ae (cn (.int 1)) (ae (cn (.int 4)) aj)))))) (aO (cn (.bl false))) sN) (aO (cU (cl nC (ae (dU (iS (vr 0)) [none] (gN 0) bT (cl aX (ae (vr 0) (ae (cn (.int 0)) (ae (cn (.int 99)) aj))))) aj)) (cl iN (ae (vr 0) aj)))))
def bA:List T->Rs T:=val 1 1 dI
def gE:En->Rs Fl:=
 (aO (cU (cl aK (ae (vr 0) (ae (cn (.int 3)) (ae (cn (.int 3)) aj)))) (cU (cl iO (ae (o2 aS (vr 0) (cn (.int 0))) (ae (o2 aS (vr 0) (cn (.int 1))) aj))) (cl bA (ae (o2 aS (vr 0) (cn (.int 2))) aj)))))
def cK:List T->Rs T:=val 1 1 gE
def gF:En->Rs Fl:=
 (aO (cU (cl aK (ae (vr 0) (ae (cn (.int 1)) (ae (cn (.int 4)) aj)))) (cl nC (ae (dU (iS (vr 0)) [none] (gN 0) bT (cl cK (ae (vr 0) aj))) aj))))
def cQ:List T->Rs T:=val 1 1 gF
def uP:En->Rs Fl:=
 (ay (eO (tD (eF (tb (cl aK (ae (vr 1) (ae (cn (.int 2)) (ae (cn (.int 2)) aj)))))) (eF (tb (cl aX (ae (o2 aS (vr 1) (cn (.int 0))) (ae (cn (.int 0)) (ae (o2 jG (cl cH (ae (vr 0) aj)) (cn (.int 1))) aj))))))) (aO (cn (.bl false))) sN) (aO (cl aX (ae (o2 aS (vr 1) (cn (.int 1))) (ae (cn (.int 0)) (ae (o2 jG (cl cH (ae (o2 aS (o2 aS (vr 0) (o2 aS (vr 1) (cn (.int 0)))) (cn (.int 2))) aj)) (cn (.int 1))) aj))))))
def dg:List T->Rs T:=val 2 2 uP
def uQ:En->Rs Fl:=
 (aO (cU (cl aX (ae (vr 0) (ae (cn (.int 0)) (ae (cn (.int 999)) aj)))) (zg (o2 jQ (vr 1) (cn .non)) (cl aX (ae (vr 1) (ae (vr 0) (ae (cn (.int 999)) aj)))))))
def gx:List T->Rs T:=val 2 2 uQ
def tq:En->Rs Fl:=
 (ay (eO (tD (eF (tb (cl aK (ae (vr 1) (ae (cn (.int 4)) (ae (cn (.int 4)) aj)))))) (eF (tb (cl gx (ae (o2 aS (vr 1) (cn (.int 2))) (ae (o2 aS (vr 1) (cn (.int 3))) aj)))))) (aO (cn (.bl false))) sN) (aO (cU (cl dg (ae (vr 0) (ae (o2 aS (vr 1) (cn (.int 0))) aj))) (cU (cl dg (ae (vr 0) (ae (o2 aS (vr 1) (cn (.int 1))) aj))) (o2 kX (o2 aS (vr 1) (cn (.int 0))) (o2 aS (vr 1) (cn (.int 1))))))))
def dZ:List T->Rs T:=val 2 2 tq
def fU:En->Rs Fl:=
 (aO (cU (cl aK (ae (vr 1) (ae (cn (.int 0)) (ae (cn (.int 8)) aj)))) (cl nC (ae (dU (iS (vr 1)) [none,some 0] (gN 0) bT (cl dZ (ae (vr 1) (ae (vr 0) aj)))) aj))))
def cE:List T->Rs T:=val 2 2 fU
def tp:En->Rs Fl:=
 (aO (cU (cl aK (ae (vr 0) (ae (cn (.int 2)) (ae (cn (.int 2)) aj)))) (cU (cl cQ (ae (o2 aS (vr 0) (cn (.int 0))) aj)) (cl cE (ae (o2 aS (vr 0) (cn (.int 0))) (ae (o2 aS (vr 0) (cn (.int 1))) aj))))))
def fL:List T->Rs T:=val 1 1 tp
def c6:En->Rs Fl:=
 (eO (eF (tb (cl fL (ae (vr 0) aj)))) (wL "NoRecord") sN)
def aL:List T->Rs T:=val 1 1 c6
def mU:En->Rs Fl:=
 (ay (nc (cl aL (ae (vr 0) aj))) (ay (gK 1 aj) (ay (dY (iE (ae (o2 aS (vr 0) (cn (.int 0))) aj)) (gT 2 (jy (gN 2) (jy (gN 3) sv))) (lP 1 (dU (iR (ae (cl cH (ae (o2 aS (vr 3) (cn (.int 2))) aj)) aj)) [none,some 2] (gN 0) bT (br (ae (vr 1) (ae (vr 0) aj)))))) (kQ 1 (aO (vr 1))))))
def cM:List T->Rs T:=val 1 4 mU
def gD:En->Rs Fl:=
 (eO (eF (tb (cl dg (ae (o2 aS (vr 0) (cn (.int 0))) (ae (vr 1) aj))))) (wL "NoEvent") sN)
def bM:List T->Rs T:=val 2 2 gD
def eJ:En->Rs Fl:=
 (ay (rn 2 (dU (iS (o2 aS (vr 0) (cn (.int 1)))) [none,some 1] (gN 0) (tb (o2 ql (o2 aS (vr 0) (cn (.int 1))) (vr 1))) (o2 aS (vr 0) (cn (.int 0))))) (ay (eO (tb (o2 Gm (o2 aS (vr 1) (cn (.int 1))) (cn (.int 0)))) (jm 2 (br (ae (o2 aS (vr 1) (cn (.int 0))) (ae (o2 jG (o2 aS (vr 1) (cn (.int 1))) (cn (.int 1))) aj)))) sN) (kQ 2 (aO (vr 2)))))
def cy:List T->Rs T:=val 2 3 eJ
def qK:En->Rs Fl:=
 (ay (nc (cl aL (ae (vr 0) aj))) (ay (nc (cl bM (ae (vr 0) (ae (vr 1) aj)))) (ay (gK 2 (ae (vr 1) aj)) (ay (cw (cn (.int 0)) (gN 3)) (ay (bp (tb (o2 Cp (vr 3) (ln 2 (cl cH (ae (vr 2) aj))))) (ay (dY (iS (cl cy (ae (vr 0) (ae (ln 2 (o2 aS (vr 2) (vr 3))) aj)))) (gN 4) (eO (AZ 2 (tb (o2 bz (vr 4) (vr 2)))) (jm 2 (vr 4)) sN)) (yF 3 (cn (.int 1)))) FU) (kQ 2 (aO (cl q0 (ae (vr 2) aj)))))))))
def aT:List T->Rs T:=val 2 5 qK
def eG:En->Rs Fl:=
 (ay (cw (cl cM (ae (vr 0) aj)) (gN 1)) (ay (cw (cl jS (ae (dU (iS (vr 1)) [none,some 0] (gN 0) bT (br (ae (vr 0) (ae (cl aT (ae (vr 1) (ae (vr 0) aj))) aj)))) aj)) (gN 2)) (ay (gK 3 aj) (ay (dY (iS (vr 1)) (gN 4) (dY (iS (vr 1)) (gN 5) (eO (ir (tb (o2 w9 (vr 4) (vr 5))) (ir (tb (o2 bz (vr 4) (o2 il (vr 2) (vr 5)))) (tb (o2 bz (vr 5) (o2 il (vr 2) (vr 4)))))) (jm 3 (br (ae (vr 4) (ae (vr 5) aj)))) sN))) (kQ 3 (aO (vr 3)))))))
def cx:List T->Rs T:=val 1 6 eG
def eE:En->Rs Fl:=
 (ay (nc (cl aL (ae (vr 0) aj))) (aO (vr 0)))
def dm:List T->Rs T:=val 1 1 eE
def fR:En->Rs Fl:=
 (ay (nc (cl aL (ae (vr 0) aj))) (aO (cl dm (ae (br (ae (o2 aS (vr 0) (cn (.int 0))) (ae (o2 aY (o2 aS (vr 0) (cn (.int 1))) (br (ae (vr 1) aj))) aj))) aj))))
def cW:List T->Rs T:=val 2 2 fR
def fS:En->Rs Fl:=
 (eO (eF (tb (cl aX (ae (vr 1) (ae (cn (.int 0)) (ae (o2 jG (vr 0) (cn (.int 1))) aj)))))) (wL "NoNumber") sN)
def dQ:List T->Rs T:=val 2 2 fS
def eM:En->Rs Fl:=
 (ay (nc (cl aL (ae (vr 0) aj))) (ay (nc (cl bM (ae (vr 0) (ae (vr 1) aj)))) (ay (nc (cl dQ (ae (cl cH (ae (o2 aS (vr 0) (cn (.int 0))) aj)) (ae (vr 2) aj)))) (ay (dY (iS (cl cM (ae (vr 0) aj))) (gN 3) (eO (ir (tb (o2 ql (o2 aS (vr 3) (cn (.int 0))) (vr 2))) (tb (o2 tE (vr 1) (cl aT (ae (vr 0) (ae (vr 3) aj)))))) (aO (vr 3)) sN)) (aO (cn .non))))))
def cz:List T->Rs T:=val 3 4 eM
def qJ:En->Rs Fl:=
 (ay (cw (dU (iS (cl aT (ae (vr 0) (ae (vr 1) aj)))) [none] (gN 0) bT (o2 aS (vr 0) (cn (.int 0)))) (gN 2)) (aO (cl gm (ae (dU (iR (ae (cl cH (ae (o2 aS (vr 0) (cn (.int 0))) aj)) aj)) [none,some 2] (gN 0) bT (oL lr (vr 1) (vr 0))) aj))))
def fK:List T->Rs T:=val 2 3 qJ
def iw:En->Rs Fl:=
 (ay (cw (oD gO (vr 0) (o2 aS (vr 1) (cn (.int 1)))) (gN 3)) (aO (zg (o2 jQ (vr 3) (cn .non)) (o2 Cp (o2 aY (o2 aS (vr 2) (cn (.int 0))) (o2 aS (vr 1) (cn (.int 2)))) (o2 aS (vr 3) (cn (.int 0)))))))
def cL:List T->Rs T:=val 3 4 iw
def iu:En->Rs Fl:=
 (ay (nN 2 (dU (iS (vr 1)) [none] (gN 0) bT (br (ae (vr 0) (ae (br (ae (cn (.int 0)) (ae (fD aj) aj))) aj))))) (ay (cw (cn (.bl true)) (gN 3)) (ay (bp (tb (vr 3)) (ay (cw (cn (.bl false)) (gN 3)) (dY (iE (ae (vr 0) aj)) (gT 2 (jy (gN 4) (jy (gN 5) sv))) (ay (cw (ln 2 (oD gO (vr 2) (o2 aS (vr 5) (cn (.int 0))))) (gN 6)) (ay (eO (tD (tb (o2 jQ (vr 6) (cn .non))) (eF (AZ 2 (tb (cl cL (ae (vr 2) (ae (vr 5) (ae (vr 6) aj)))))))) Dq sN) (ay (cw (o2 aY (o2 aS (vr 6) (cn (.int 1))) (fD (ae (vr 4) aj))) (gN 7)) (ay (cw (dU (iS (vr 7)) [none,some 0] (gN 0) bT (o2 aS (o2 aS (vr 1) (vr 0)) (cn (.int 0)))) (gN 8)) (ay (eO (tb (o2 tE (o2 aS (vr 5) (cn (.int 1))) (vr 8))) (aO (br (ae (cn .non) (ae (sl (vr 7) (pS (oL fM (vr 8) (o2 aS (vr 5) (cn (.int 1))))) pN) aj)))) sN) (ay (wK 2 (o2 aS (vr 5) (cn (.int 1))) (br (ae (o2 aY (o2 aS (vr 6) (cn (.int 0))) (o2 aS (vr 5) (cn (.int 2)))) (ae (vr 7) aj)))) (cw (cn (.bl true)) (gN 3)))))))))) FU) (kQ 2 (aO (br (ae (vr 2) (ae (cn .non) aj))))))))
def fw:List T->Rs T:=val 2 9 iu
def dP:En->Rs Fl:=
 (ay (cw (cl cM (ae (vr 0) aj)) (gN 2)) (ay (cw (o2 aS (cl fw (ae (vr 1) (ae (vr 2) aj))) (cn (.int 0))) (gN 3)) (ay (eO (tb (o2 jQ (vr 3) (cn .non))) (aO (cn .non)) sN) (aO (cl gm (ae (dU (iS (vr 2)) [none,some 3] (gN 0) bT (o2 aS (o2 il (vr 1) (vr 0)) (cn (.int 0)))) aj))))))
def cP:List T->Rs T:=val 2 4 dP
def dH:En->Rs Fl:=
 (ay (cw (o2 aS (vr 1) (cn (.int 2))) (gN 2)) (ay (gK 3 aj) (ay (dY (iR (ae (o2 jG (cl cH (ae (vr 2) aj)) (cn (.int 1))) aj)) (gN 4) (ay (cw (br (ae (vr 0) (ae (vr 4) aj))) (gN 5)) (ay (cw (br (ae (vr 0) (ae (o2 aY (vr 4) (cn (.int 1))) aj))) (gN 6)) (ay (cw (o2 jG (o2 aS (vr 2) (o2 aY (vr 4) (cn (.int 1)))) (o2 aS (vr 2) (vr 4))) (gN 7)) (ay (jm 3 (br (ae (vr 5) (ae (vr 6) (ae (o2 ck (vr 7) (o2 aS (vr 1) (cn (.int 1)))) aj))))) (jm 3 (br (ae (vr 6) (ae (vr 5) (ae (o2 ck (o1 pW (vr 7)) (o2 aS (vr 1) (cn (.int 0)))) aj)))))))))) (kQ 3 (aO (vr 3))))))
def bW:List T->Rs T:=val 2 8 dH
def dj:En->Rs Fl:=
 (ay (gK 1 (ae (br (ae (o2 aS (vr 0) (cn (.int 1))) (ae (o2 aS (vr 0) (cn (.int 0))) (ae (o1 pW (o2 aS (vr 0) (cn (.int 2)))) aj)))) aj)) (ay (eO (tb (o2 kH (o2 aS (vr 0) (cn (.int 3))) (cn .non))) (jm 1 (br (ae (o2 aS (vr 0) (cn (.int 0))) (ae (o2 aS (vr 0) (cn (.int 1))) (ae (o2 aS (vr 0) (cn (.int 3))) aj))))) sN) (kQ 1 (aO (vr 1)))))
def bP:List T->Rs T:=val 1 2 dj
def mV:En->Rs Fl:=
 (ay (nc (cl aL (ae (vr 0) aj))) (ay (gK 1 aj) (ay (dY (iE (ae (o2 aS (vr 0) (cn (.int 0))) aj)) (gT 2 (jy (gN 2) (jy (gN 3) sv))) (lP 1 (cl bW (ae (vr 2) (ae (vr 3) aj))))) (ay (dY (iS (o2 aS (vr 0) (cn (.int 1)))) (gN 4) (lP 1 (cl bP (ae (vr 4) aj)))) (kQ 1 (aO (vr 1)))))))
def fx:List T->Rs T:=val 1 5 mV
def Dg:En->Rs Fl:=
 (aO (cl cP (ae (vr 0) (ae (cl fx (ae (vr 0) aj)) aj))))
def iM:List T->Rs T:=val 1 1 Dg
def tu:En->Rs Fl:=
 (aO (o2 kH (cl iM (ae (vr 0) aj)) (cn .non)))
def dq:List T->Rs T:=val 1 1 tu
def fT:En->Rs Fl:=
 (ay (nc (cl aL (ae (vr 0) aj))) (ay (nc (cl bM (ae (vr 0) (ae (vr 1) aj)))) (nc (cl bM (ae (vr 0) (ae (vr 2) aj))))))
def dR:List T->Rs T:=val 3 3 fT
def gC:En->Rs Fl:=
 (eO (eF (tb (cl dq (ae (vr 0) aj)))) (wL "NoWorld") sN)
def eX:List T->Rs T:=val 1 1 gC
def xN:En->Rs Fl:=
 (aO (DF (tb (o2 Ax (vr 1) (vr 0))) (o2 aS (o2 il (vr 0) (vr 1)) (cn (.int 0))) (cn .non)))
def km:List T->Rs T:=val 2 2 xN
def qI:En->Rs Fl:=
 (aO (o2 aS (cl fw (ae (cl fx (ae (vr 0) aj)) (ae (fD (ae (vr 1) aj)) aj))) (cn (.int 0))))
def eV:List T->Rs T:=val 2 2 qI
def fF:En->Rs Fl:=
 (ay (nc (cl dR (ae (vr 0) (ae (vr 1) (ae (vr 2) aj))))) (ay (nc (cl eX (ae (vr 0) aj))) (aO (cl km (ae (cl eV (ae (vr 0) (ae (vr 1) aj))) (ae (vr 2) aj))))))
def dz:List T->Rs T:=val 3 3 fF
def eI:En->Rs Fl:=
 (ay (cw (cl dz (ae (vr 0) (ae (vr 2) (ae (vr 1) aj)))) (gN 3)) (aO (DF (tb (o2 jQ (vr 3) (cn .non))) (cn .non) (o1 pW (vr 3)))))
def c8:List T->Rs T:=val 3 4 eI
def fW:En->Rs Fl:=
 (ay (cw (br (ae (cl fK (ae (vr 0) (ae (vr 1) aj))) (ae (cl fK (ae (vr 0) (ae (vr 2) aj))) aj))) (gT 2 (jy (gN 3) (jy (gN 4) sv)))) (ay (cw (o2 tE (vr 1) (cl aT (ae (vr 0) (ae (vr 2) aj)))) (gN 5)) (ay (eO (tb (o2 kX (vr 5) (o2 Gm (o2 aS (vr 4) (o2 aS (vr 1) (cn (.int 0)))) (o2 aS (vr 1) (cn (.int 1)))))) (aO (cn (.bl false))) sN) (ay (eO (tb (o2 kX (vr 5) (o2 bz (cn (.bl false)) (dU (iZ (ae (vr 3) (ae (vr 4) aj))) [none,none] (gT 2 (jy (gN 0) (jy (gN 1) sv))) bT (o2 Cu (vr 0) (vr 1)))))) (aO (cn (.bl false))) sN) (ay (cw (cl aT (ae (vr 0) (ae (vr 2) aj))) (gN 6)) (ay (eO (ir (tb (vr 5)) (tb (o2 kX (dU (iS (cl aT (ae (vr 0) (ae (vr 1) aj)))) [none,some 6] (gN 0) (tb (o2 bz (vr 0) (vr 1))) (vr 0)) (fD aj)))) (aO (cn (.bl false))) sN) (aO (zg (o1 uh (vr 5)) (zg (o1 uh (cl dq (ae (vr 0) aj))) (o2 geT (cl c8 (ae (vr 0) (ae (vr 1) (ae (vr 2) aj)))) (cn (.int 0))))))))))))
def cY:List T->Rs T:=val 3 7 fW
def AV:En->Rs Fl:=
 (ay (cw (cl dS (ae (vr 0) (ae (cn (.int 0)) (ae (cn (.int 5)) aj)))) (gN 1)) (ay (cw (cl cM (ae (vr 1) aj)) (gN 2)) (ay (cw (cl cx (ae (vr 1) aj)) (gN 3)) (ay (dY (iS (vr 2)) (gN 4) (ay (dY (iS (vr 2)) (gN 5) (ay (eO (eF (tb (cl cY (ae (vr 1) (ae (vr 4) (ae (vr 5) aj)))))) (aO (cn (.bl false))) sN) (ay (cw (cU (o2 bz (vr 4) (cl aT (ae (vr 1) (ae (vr 5) aj)))) (o2 bz (vr 5) (cl aT (ae (vr 1) (ae (vr 4) aj))))) (gN 6)) (eO (tb (o2 kX (o2 tE (br (ae (cl kI (ae (vr 4) (ae (vr 5) aj))) (ae (cl kJ (ae (vr 4) (ae (vr 5) aj))) aj))) (vr 3)) (vr 6))) (aO (cn (.bl false))) sN)))) (ay (cw (cl cz (ae (vr 1) (ae (vr 4) (ae (o2 aS (vr 4) (cn (.int 0))) aj)))) (gN 7)) (ay (eO (tD (tb (o2 jQ (vr 7) (cn .non))) (tD (tb (o2 kX (o2 aS (vr 7) (cn (.int 0))) (o2 aS (vr 4) (cn (.int 0))))) (tb (o2 Gm (o2 aS (vr 7) (cn (.int 1))) (o2 aS (vr 4) (cn (.int 1))))))) (aO (cn (.bl false))) sN) (eO (tb (o2 kX (cl yy (ae (cl fK (ae (vr 1) (ae (vr 4) aj))) aj)) (cl cH (ae (cl aT (ae (vr 1) (ae (vr 4) aj))) aj)))) (aO (cn (.bl false))) sN))))) (ay (eO (tb (o2 kX (vr 3) (cl gW (ae (vr 3) aj)))) (aO (cn (.bl false))) sN) (ay (cw (cl bN (ae (vr 0) (ae (cn (.int 80)) (ae (o2 aS (vr 1) (cn (.int 0))) aj)))) (gN 8)) (ay (eO (tD (tb (o2 jQ (vr 8) (cn .non))) (tb (o2 Gm (cl cH (ae (o2 aS (vr 1) (cn (.int 1))) aj)) (cn (.int 7))))) (aO (cn (.bl true))) sN) (ay (cw (cl cW (ae (vr 1) (ae (vr 8) aj))) (gN 9)) (ay (eO (tb (o2 bz (o2 aS (vr 8) (cn (.int 0))) (cl aT (ae (vr 9) (ae (o2 aS (vr 8) (cn (.int 1))) aj))))) (aO (cn (.bl false))) sN) (ay (dY (iS (vr 2)) (gN 10) (eO (tb (o2 kX (dU (iS (cl aT (ae (vr 1) (ae (vr 10) aj)))) [none,some 9,some 10] (gN 0) (tb (o2 bz (vr 0) (cl aT (ae (vr 1) (ae (vr 2) aj))))) (vr 0)) (fD aj))) (aO (cn (.bl false))) sN)) (aO (o2 ql (dU (iS (cl cx (ae (vr 9) aj))) [none,some 3] (gN 0) (tb (o2 bz (vr 0) (vr 1))) (vr 0)) (fD aj)))))))))))))
def m_law:List T->Rs T:=val 1 11 AV
end G
namespace G
open PySem PySem.Spec PyProof.Rows L2 Tr
section
variable (P:J9)(w:Kx){K:JH}{mg:Str->Option JK}(base:Heap)
abbrev o7:Stmt:=top 58
theorem pP (F:fE K mg "_law_cell" o7 ["_law_script","_law_k"])(B:Bl mg):Cl P w K mg base 1 "_law_cell" 2 d6:=
 aN ["_law_script","_law_k"] F λd f c A o s H E hr x=>(ao (bo (aP (rH (i9 hr)) (af 0) (fP ah)) (ar (au (az dy ak (af 1)))) aZ) (ar (au (az aV (aC (af 0) (az jo (af 1) (cj cG B.b_len Mp (ag (af 0) ah)))) (az dy ak (az la (af 1) (cj cG B.b_len Mp (ag (af 0) ah))))))))
abbrev m5:Stmt:=top 59
theorem nt (F:fE K mg "_law_drawn" m5 ["_law_script","_law_k","_law_many"])(aay:Cl P w K mg base 1 "_law_cell" 2 d6):Cl P w K mg base 2 "_law_drawn" 3 aE:=
 aN ["_law_script","_law_k","_law_many","_law_cell_here"] F λd f c A o s H E hr x=>(by(apply ao;exact(aH (az jo (az aV (az dy (az jo (aJ aay hr (ag (af 0) (ag (af 1) ah))) ak) ak) (az dy ak (az aV (af 1) ak))) ak) (aq 3 d));apply ao;exact(aH (az jo (az aV (az dy (af 3) (af 3)) (az la (af 3) ak)) ak) (aq 3 d));exact ar (au (az jo (az la (az jo (az aV (az dy (af 3) (af 3)) (az la (af 3) ak)) ak) ak) (af 2)))))
abbrev gV:Stmt:=top 62
abbrev hU:List Str:=["_law_clocks","_law_found","_law_number","_law_clock_here"]
theorem l5 (F:fE K mg "_law_events" gV ["_law_clocks"])(B:Bl mg):Cl P w K mg base 1 "_law_events" 1 cX:=
 aN hU F λd f c A o s H E hr x=>(by(apply ao;exact(aH (fP ah) (aq 1 d));apply ao;exact(cm rfl (jB B.b_enumerate (ag (af 0) ah)) (jC rfl (cD (aq 2 d) (cD (aq 3 d) gP))) (ar (aH (az aV (af 1) (cR ["_law_place","_law_number"] hU gV (cI B.b_range (ag (cj cG B.b_len Mp (ag (aC (af 3) ak) ah)) ah)) (λd _ _ _ _ _=>⟨(aq 0 d),bU,(bK (ag (af 1) (ag (af 0) ah)))⟩))) (aq 1 d))));exact ar (au (af 1))))
abbrev lM:Stmt:=top 61
theorem l4 (F:fE K mg "_law_letter" lM ["_law_script","_law_at","_law_clocks"])(aan:Cl P w K mg base 1 "_law_events" 1 cX)(aa1:Cl P w K mg base 2 "_law_drawn" 3 aE)(B:Bl mg):Cl P w K mg base 3 "_law_letter" 3 bN:=
 aN ["_law_script","_law_at","_law_clocks","_law_row","_law_place","_law_other","_law_least","_law_most"] F λd f c A o s H E hr x=>(by(apply ao;exact(aH (aJ aan hr (ag (af 2) ah)) (aq 3 d));apply ao;exact(bo (aP rF (cj cG B.b_len Mp (ag (af 3) ah)) ak) (ar (au cF)) aZ);apply ao;exact(aH (aJ aa1 hr (ag (af 0) (ag (af 1) (ag (cj cG B.b_len Mp (ag (af 3) ah)) ah)))) (aq 4 d));apply ao;exact(aH (az jo (az aV (az aV (af 4) ak) (aJ aa1 hr (ag (af 0) (ag (az aV (af 1) ak) (ag (az g7 (cj cG B.b_len Mp (ag (af 3) ah)) ak) ah))))) (cj cG B.b_len Mp (ag (af 3) ah))) (aq 5 d));apply ao;exact(aH (aJ aa1 hr (ag (af 0) (ag (az aV (af 1) ak) (ag ak ah)))) (aq 6 d));apply ao;exact(aH (x6 (aP (rH (i9 hr)) (aJ aa1 hr (ag (af 0) (ag (az aV (af 1) ak) (ag ak ah)))) ak) cF (az aV (af 6) (aJ aa1 hr (ag (af 0) (ag (az aV (af 1) ak) (ag ak ah)))))) (aq 7 d));exact ar (au (bK (ag (aC (af 3) (af 4)) (ag (aC (af 3) (af 5)) (ag (af 6) (ag (af 7) ah))))))))
abbrev m6:Stmt:=top 60
theorem nu (F:fE K mg "_law_clock" m6 ["_law_script","_law_at"])(aa1:Cl P w K mg base 2 "_law_drawn" 3 aE)(B:Bl mg):Cl P w K mg base 3 "_law_clock" 2 bX:=
 aN ["_law_script","_law_at","_law_slow","_law_readings","_law_k"] F λd f c A o s H E hr x=>(by(apply ao;exact(aH (az aV ak (aJ aa1 hr (ag (af 0) (ag (af 1) (ag ak ah))))) (aq 2 d));apply ao;exact(aH (bK (ag (aJ aa1 hr (ag (af 0) (ag (az aV (af 1) ak) (ag ak ah)))) ah)) (aq 3 d));apply ao;exact(cm rfl (cI B.b_range (ag (aJ aa1 hr (ag (af 0) (ag (az aV (af 1) ak) (ag ak ah)))) ah)) (aq 4 d) (ar (aH (az aV (af 3) (bK (ag (az aV (az aV (aC (af 3) (oK ak)) ak) (aJ aa1 hr (ag (af 0) (ag (az aV (az aV (af 1) ak) (af 4)) (ag ak ah))))) ah))) (aq 3 d))));exact ar (au (bK (ag (af 2) (ag (az aV (af 2) (aJ aa1 hr (ag (af 0) (ag (az aV (af 1) ak) (ag ak ah))))) (ag (af 3) ah)))))))
abbrev gU:Stmt:=top 63
abbrev hG:List Str:=["_law_script","_law_at","_law_most","_law_clocks","_law_letters","_law_k","_law_letter_here"]
theorem lZ (F:fE K mg "_law_record" gU ["_law_script","_law_at","_law_most"])(aa1:Cl P w K mg base 2 "_law_drawn" 3 aE)(aa7:Cl P w K mg base 3 "_law_letter" 3 bN)(aau:Cl P w K mg base 3 "_law_clock" 2 bX)(B:Bl mg):Cl P w K mg base 4 "_law_record" 3 dS:=
 aN hG F λd f c A o s H E hr x=>(by(apply ao;exact(aH (nH jV B.b_tuple cZ (ag (cR ["_law_k","_law_script","_law_at"] hG gU (cI B.b_range (ag (az aV ak (aJ aa1 hr (ag (af 0) (ag (af 1) (ag ak ah))))) ah)) (λd _ _ _ _ _=>⟨(aq 0 d),bU,(aJ aau hr (ag (af 1) (ag (az aV (az aV (af 2) ak) (az dy ak (af 0))) ah)))⟩)) ah)) (aq 3 d));apply ao;exact(aH (fP ah) (aq 4 d));apply ao;exact(cm rfl (cI B.b_range (ag (aJ aa1 hr (ag (af 0) (ag (az aV (af 1) ak) (ag (az aV (af 2) ak) ah)))) ah)) (aq 5 d) (ao (aH (aJ aa7 hr (ag (af 0) (ag (az aV (az aV (af 1) ak) (az dy ak (af 5))) (ag (af 3) ah)))) (aq 6 d)) (ar (aH (az aV (af 4) (az dy (fP (ag (af 6) ah)) (nH F9 B.b_int kO (ag (cS lS (af 6) cF) ah)))) (aq 4 d)))));exact ar (au (bK (ag (af 3) (ag (nH jV B.b_tuple cZ (ag (af 4) ah)) ah))))))
abbrev tT:Stmt:=top 15
theorem ug (F:fE K mg "is_long" tT ["thing","least","most"])(B:Bl mg):Cl P w K mg base 1 "is_long" 3 aK:=
 aN ["thing","least","most"] F λd f c A o s H E hr x=>(ar (au (df (x5 B.b_isinstance B.b_tuple cZ (af 0)) (de (qN rG rG (af 1) (cj cG B.b_len Mp (ag (af 0) ah)) (af 2))))))
abbrev qV:Stmt:=top 13
theorem rJ (F:fE K mg "is_whole" qV ["thing"])(B:Bl mg):Cl P w K mg base 1 "is_whole" 1 gv:=
 aN ["thing"] F λd f c A o s H E hr x=>(ar (au (df (x5 B.b_isinstance B.b_int kO (af 0)) (de (tJ (x5 B.b_isinstance B.b_bool qB (af 0)))))))
abbrev oX:Stmt:=top 14
theorem pI (F:fE K mg "is_within" oX ["thing","least","most"])(aaD:Cl P w K mg base 1 "is_whole" 1 gv):Cl P w K mg base 2 "is_within" 3 aX:=
 aN ["thing","least","most"] F λd f c A o s H E hr x=>(ar (au (df (aJ aaD hr (ag (af 0) ah)) (de (qN rG rG (af 1) (af 0) (af 2))))))
abbrev tS:Stmt:=top 18
theorem uf (F:fE K mg "is_pace" tS ["slow","fast"])(aa2:Cl P w K mg base 2 "is_within" 3 aX)(C:Cs mg):Cl P w K mg base 3 "is_pace" 2 iO:=
 aN ["slow","fast"] F λd f c A o s H E hr x=>(ar (au (df (aJ aa2 hr (ag (af 0) (ag ak (ag (qM C.SLOWEST) ah)))) (de (aJ aa2 hr (ag (af 1) (ag (af 0) (ag (qM C.SLOWEST) ah))))))))
abbrev qU:Stmt:=top 16
abbrev rR:List Str:=["numbers"]
theorem zl (F:fE K mg "rises" qU ["numbers"])(B:Bl mg):Cl P w K mg base 1 "rises" 1 iN:=
 aN rR F λd f c A o s H E hr x=>(ar (au (cj (qv rfl) B.b_all boot_all (ag (cR ["k","numbers"] rR qU (cI B.b_range (ag (az g7 (cj cG B.b_len Mp (ag (af 0) ah)) ak) ah)) (λd _ _ _ _ _=>⟨(aq 0 d),bU,(cS rF (aC (af 1) (af 0)) (aC (af 1) (az aV (af 0) ak)))⟩)) ah))))
abbrev gJ:Stmt:=top 17
abbrev gL:List Str:=["thing"]
theorem kW (F:fE K mg "are_readings" gJ ["thing"])(aa3:Cl P w K mg base 1 "is_long" 3 aK)(aaI:Cl P w K mg base 1 "rises" 1 iN)(aa2:Cl P w K mg base 2 "is_within" 3 aX)(B:Bl mg)(C:Cs mg):Cl P w K mg base 3 "are_readings" 1 bA:=
 aN gL F λd f c A o s H E hr x=>(ao (bo (dv (cO (aJ aa3 hr (ag (af 0) (ag ak (ag (qM C.MOST_READINGS) ah)))))) (ar (au dN)) aZ) (ar (au (df (cj (qv rfl) B.b_all boot_all (ag (cR ["part"] gL gJ (bD (af 0)) (λd _ _ _ _ _=>⟨(aq 0 d),bU,(aJ aa2 hr (ag (af 0) (ag ak (ag (qM C.LAST_READING) ah))))⟩)) ah)) (de (aJ aaI hr (ag (af 0) ah)))))))
abbrev qY:Stmt:=top 19
theorem rM (F:fE K mg "is_clock" qY ["thing"])(aa3:Cl P w K mg base 1 "is_long" 3 aK)(aaG:Cl P w K mg base 3 "is_pace" 2 iO)(aai:Cl P w K mg base 3 "are_readings" 1 bA):Cl P w K mg base 4 "is_clock" 1 cK:=
 aN ["thing"] F λd f c A o s H E hr x=>(ar (au (df (aJ aa3 hr (ag (af 0) (ag ak (ag ak ah)))) (df (aJ aaG hr (ag (aC (af 0) ak) (ag (aC (af 0) ak) ah))) (de (aJ aai hr (ag (aC (af 0) ak) ah)))))))
abbrev jd:Stmt:=top 20
abbrev je:List Str:=["thing"]
theorem nr (F:fE K mg "are_clocks" jd ["thing"])(aa3:Cl P w K mg base 1 "is_long" 3 aK)(aaE:Cl P w K mg base 4 "is_clock" 1 cK)(B:Bl mg)(C:Cs mg):Cl P w K mg base 5 "are_clocks" 1 cQ:=
 aN je F λd f c A o s H E hr x=>(ar (au (df (aJ aa3 hr (ag (af 0) (ag ak (ag (qM C.MOST_CLOCKS) ah)))) (de (cj (qv rfl) B.b_all boot_all (ag (cR ["part"] je jd (bD (af 0)) (λd _ _ _ _ _=>⟨(aq 0 d),bU,(aJ aaE hr (ag (af 0) ah))⟩)) ah))))))
abbrev qW:Stmt:=top 21
theorem rK (F:fE K mg "is_event" qW ["clocks","thing"])(aa2:Cl P w K mg base 2 "is_within" 3 aX)(aa3:Cl P w K mg base 1 "is_long" 3 aK)(B:Bl mg):Cl P w K mg base 3 "is_event" 2 dg:=
 aN ["clocks","thing"] F λd f c A o s H E hr x=>(ao (bo (kE (j0 (dv (cO (aJ aa3 hr (ag (af 1) (ag ak (ag ak ah)))))) (jz (dv (cO (aJ aa2 hr (ag (aC (af 1) ak) (ag ak (ag (az g7 (cj cG B.b_len Mp (ag (af 0) ah)) ak) ah))))))))) (ar (au dN)) aZ) (ar (au (aJ aa2 hr (ag (aC (af 1) ak) (ag ak (ag (az g7 (cj cG B.b_len Mp (ag (aC (aC (af 0) (aC (af 1) ak)) ak) ah)) ak) ah)))))))
abbrev qX:Stmt:=top 22
theorem rL (F:fE K mg "is_delay" qX ["least","most"])(aa2:Cl P w K mg base 2 "is_within" 3 aX)(C:Cs mg):Cl P w K mg base 3 "is_delay" 2 gx:=
 aN ["least","most"] F λd f c A o s H E hr x=>(ar (au (df (aJ aa2 hr (ag (af 0) (ag ak (ag (qM C.LONGEST) ah)))) (de (uR (cS lT (af 1) cF) (de (aJ aa2 hr (ag (af 1) (ag (af 0) (ag (qM C.LONGEST) ah))))))))))
abbrev oZ:Stmt:=top 23
theorem pK (F:fE K mg "is_letter" oZ ["clocks","thing"])(aa8:Cl P w K mg base 3 "is_event" 2 dg)(aa3:Cl P w K mg base 1 "is_long" 3 aK)(aaF:Cl P w K mg base 3 "is_delay" 2 gx):Cl P w K mg base 4 "is_letter" 2 dZ:=
 aN ["clocks","thing"] F λd f c A o s H E hr x=>(ao (bo (kE (j0 (dv (cO (aJ aa3 hr (ag (af 1) (ag ak (ag ak ah)))))) (jz (dv (cO (aJ aaF hr (ag (aC (af 1) ak) (ag (aC (af 1) ak) ah)))))))) (ar (au dN)) aZ) (ar (au (df (aJ aa8 hr (ag (af 0) (ag (aC (af 1) ak) ah))) (df (aJ aa8 hr (ag (af 0) (ag (aC (af 1) ak) ah))) (de (cS (jI (i9 hr)) (aC (af 1) ak) (aC (af 1) ak))))))))
abbrev gS:Stmt:=top 24
abbrev g9:List Str:=["clocks","thing"]
theorem lY (F:fE K mg "are_letters" gS ["clocks","thing"])(aa3:Cl P w K mg base 1 "is_long" 3 aK)(aaz:Cl P w K mg base 4 "is_letter" 2 dZ)(B:Bl mg)(C:Cs mg):Cl P w K mg base 5 "are_letters" 2 cE:=
 aN g9 F λd f c A o s H E hr x=>(ar (au (df (aJ aa3 hr (ag (af 1) (ag ak (ag (qM C.MOST_LETTERS) ah)))) (de (cj (qv rfl) B.b_all boot_all (ag (cR ["part","clocks"] g9 gS (bD (af 1)) (λd _ _ _ _ _=>⟨(aq 0 d),bU,(aJ aaz hr (ag (af 1) (ag (af 0) ah)))⟩)) ah))))))
abbrev oY:Stmt:=top 25
theorem pJ (F:fE K mg "is_record" oY ["thing"])(aa3:Cl P w K mg base 1 "is_long" 3 aK)(aav:Cl P w K mg base 5 "are_clocks" 1 cQ)(aao:Cl P w K mg base 5 "are_letters" 2 cE):Cl P w K mg base 6 "is_record" 1 fL:=
 aN ["thing"] F λd f c A o s H E hr x=>(ar (au (df (aJ aa3 hr (ag (af 0) (ag ak (ag ak ah)))) (df (aJ aav hr (ag (aC (af 0) ak) ah)) (de (aJ aao hr (ag (aC (af 0) ak) (ag (aC (af 0) ak) ah))))))))
abbrev lJ:Stmt:=top 26
theorem lV (F:fE K mg "need_record" lJ ["thing"])(aaA:Cl P w K mg base 6 "is_record" 1 fL){C_NoRecord C_NoEvent C_NoNumber C_NoWorld C_ClockError:Addr}(S:Xs K mg C_NoRecord C_NoEvent C_NoNumber C_NoWorld C_ClockError):Cl P w K mg base 7 "need_record" 1 aL:=
 aN ["thing"] F λd f c A o s H E hr x=>(ar (bo (dv (cO (aJ aaA hr (ag (af 0) ah)))) (ar (iy S.o_NoRecord S.m_NoRecord)) aZ))
abbrev nL:Stmt:=top 29
abbrev nQ:List Str:=["record","told","number","clock"]
theorem wV (F:fE K mg "events" nL ["record"])(aa0:Cl P w K mg base 7 "need_record" 1 aL)(B:Bl mg):Cl P w K mg base 8 "events" 1 cM:=
 aN nQ F λd f c A o s H E hr x=>(by(apply ao;exact(bS (aJ aa0 hr (ag (af 0) ah)));apply ao;exact(fX 1 d ah);apply ao;exact(cm rfl (jB B.b_enumerate (ag (aC (af 0) ak) ah)) (jC rfl (cD (aq 2 d) (cD (aq 3 d) gP))) (ar (oJ 1 (cR ["k","number"] nQ nL (cI B.b_range (ag (cj cG B.b_len Mp (ag (aC (af 3) ak) ah)) ah)) (λd _ _ _ _ _=>⟨(aq 0 d),bU,(bK (ag (af 1) (ag (af 0) ah)))⟩)))));exact ar (fG 1 (au (af 1)))))
abbrev m4:Stmt:=top 27
theorem nq (F:fE K mg "need_event" m4 ["record","thing"])(aa8:Cl P w K mg base 3 "is_event" 2 dg){C_NoRecord C_NoEvent C_NoNumber C_NoWorld C_ClockError:Addr}(S:Xs K mg C_NoRecord C_NoEvent C_NoNumber C_NoWorld C_ClockError):Cl P w K mg base 4 "need_event" 2 bM:=
 aN ["record","thing"] F λd f c A o s H E hr x=>(ar (bo (dv (cO (aJ aa8 hr (ag (aC (af 0) ak) (ag (af 1) ah))))) (ar (iy S.o_NoEvent S.m_NoEvent)) aZ))
abbrev fZ:Stmt:=top 31
abbrev gf:List Str:=["record","event","told"]
theorem kf (F:fE K mg "known_at_once" fZ ["record","event"]):Cl P w K mg base 1 "known_at_once" 2 cy:=
 aN gf F λd f c A o s H E hr x=>(by(apply ao;exact(A6 2 (N':=["letter","event"]) (src:=[none,some 1]) rfl (LcScope.by (N:=gf) (names:=(aA fZ).names) rfl rfl rfl (by decide+kernel)) (bD (aC (af 0) ak)) (λ_ _ _ _ _=>⟨(aq 0 (show N3 (["letter","event"]:List Str)by decide+kernel)),(jA (aP (rH (i9 hr)) (aC (af 0) ak) (af 1))),(aC (af 0) ak)⟩) d);apply ao;exact(bo (aP vn (aC (af 1) ak) ak) (ar (iz 2 (bK (ag (aC (af 1) ak) (ag (az g7 (aC (af 1) ak) ak) ah))))) aZ);exact ar (fG 2 (au (af 2)))))
abbrev yC:Stmt:=top 32
theorem zm (F:fE K mg "knows" yC ["record","event"])(aa0:Cl P w K mg base 7 "need_record" 1 aL)(aa5:Cl P w K mg base 4 "need_event" 2 bM)(aaf:Cl P w K mg base 1 "known_at_once" 2 cy)(B:Bl mg):Cl P w K mg base 8 "knows" 2 aT:=
 aN ["record","event","known","place","other"] F λd f c A o s H E hr x=>(by(apply ao;exact(bS (aJ aa0 hr (ag (af 0) ah)));apply ao;exact(bS (aJ aa5 hr (ag (af 0) (ag (af 1) ah))));apply ao;exact(fX 2 d (ag (af 1) ah));apply ao;exact(aH ak (aq 3 d));apply ao;exact(nG FU (aP rF (af 3) (xZ 2 (cj cG B.b_len Mp (ag (af 2) ah)))) (ao (cm rfl (bD (aJ aaf hr (ag (af 0) (ag (xZ 2 (aC (af 2) (af 3))) ah)))) (aq 4 d) (ar (bo (xU 2 (aP (cV (i8 hr)) (af 4) (af 2))) (ar (iz 2 (af 4))) aZ))) (ar (A7 3 d ak))));exact ar (fG 2 (au (cj (uE (HK hr)) B.b_sorted boot_sorted (ag (af 2) ah))))))
abbrev fY:Stmt:=top 35
abbrev gd:List Str:=["record","places","known","told","one","other"]
theorem j9 (F:fE K mg "unknown_pairs" fY ["record"])(aa6:Cl P w K mg base 8 "events" 1 cM)(aa4:Cl P w K mg base 8 "knows" 2 aT)(B:Bl mg):Cl P w K mg base 9 "unknown_pairs" 1 cx:=
 aN gd F λd f c A o s H E hr x=>(by(apply ao;exact(aH (aJ aa6 hr (ag (af 0) ah)) (aq 1 d));apply ao;exact(aH (nH (CY (hu8 hr) rfl) B.b_dict qA (ag (cR ["event","record"] gd fY (bD (af 1)) (λd _ _ _ _ _=>⟨(aq 0 d),bU,(bK (ag (af 0) (ag (aJ aa4 hr (ag (af 1) (ag (af 0) ah))) ah)))⟩)) ah)) (aq 2 d));apply ao;exact(fX 3 d ah);apply ao;exact(cm rfl (bD (af 1)) (aq 4 d) (ar (cm rfl (bD (af 1)) (aq 5 d) (ar (bo (kE (k8 (aP (E5 (hu0 hr)) (af 4) (af 5)) (k8 (aP (cV (i8 hr)) (af 4) (oM (DG hr) (af 2) (af 5))) (lA (aP (cV (i8 hr)) (af 5) (oM (DG hr) (af 2) (af 4))))))) (ar (iz 3 (bK (ag (af 4) (ag (af 5) ah))))) aZ)))));exact ar (fG 3 (au (af 3)))))
abbrev o5:Stmt:=top 55
theorem pM (F:fE K mg "if_record" o5 ["thing"])(aa0:Cl P w K mg base 7 "need_record" 1 aL):Cl P w K mg base 8 "if_record" 1 dm:=
 aN ["thing"] F λd f c A o s H E hr x=>(ao (bS (aJ aa0 hr (ag (af 0) ah))) (ar (au (af 0))))
abbrev lH:Stmt:=top 56
theorem lU (F:fE K mg "with_letter" lH ["record","letter"])(aa0:Cl P w K mg base 7 "need_record" 1 aL)(aaB:Cl P w K mg base 8 "if_record" 1 dm):Cl P w K mg base 9 "with_letter" 2 cW:=
 aN ["record","letter"] F λd f c A o s H E hr x=>(ao (bS (aJ aa0 hr (ag (af 0) ah))) (ar (au (aJ aaB hr (ag (bK (ag (aC (af 0) ak) (ag (az aV (aC (af 0) ak) (bK (ag (af 1) ah))) ah))) ah)))))
abbrev lK:Stmt:=top 28
theorem lW (F:fE K mg "need_number" lK ["many","thing"])(aa2:Cl P w K mg base 2 "is_within" 3 aX){C_NoRecord C_NoEvent C_NoNumber C_NoWorld C_ClockError:Addr}(S:Xs K mg C_NoRecord C_NoEvent C_NoNumber C_NoWorld C_ClockError):Cl P w K mg base 3 "need_number" 2 dQ:=
 aN ["many","thing"] F λd f c A o s H E hr x=>(ar (bo (dv (cO (aJ aa2 hr (ag (af 1) (ag ak (ag (az g7 (af 0) ak) ah)))))) (ar (iy S.o_NoNumber S.m_NoNumber)) aZ))
abbrev j6:Stmt:=top 34
theorem kg (F:fE K mg "first_to_know" j6 ["record","event","clock"])(aa0:Cl P w K mg base 7 "need_record" 1 aL)(aa5:Cl P w K mg base 4 "need_event" 2 bM)(aap:Cl P w K mg base 3 "need_number" 2 dQ)(aa6:Cl P w K mg base 8 "events" 1 cM)(aa4:Cl P w K mg base 8 "knows" 2 aT)(B:Bl mg):Cl P w K mg base 9 "first_to_know" 3 cz:=
 aN ["record","event","clock","other"] F λd f c A o s H E hr x=>(by(apply ao;exact(bS (aJ aa0 hr (ag (af 0) ah)));apply ao;exact(bS (aJ aa5 hr (ag (af 0) (ag (af 1) ah))));apply ao;exact(bS (aJ aap hr (ag (cj cG B.b_len Mp (ag (aC (af 0) ak) ah)) (ag (af 2) ah))));apply ao;exact(cm rfl (bD (aJ aa6 hr (ag (af 0) ah))) (aq 3 d) (ar (bo (kE (k8 (aP (rH (i9 hr)) (aC (af 3) ak) (af 2)) (lA (aP (vm (i8 hr)) (af 1) (aJ aa4 hr (ag (af 0) (ag (af 3) ah))))))) (ar (au (af 3))) aZ)));exact ar (au cF)))
abbrev lI:Stmt:=top 33
abbrev l9:List Str:=["record","event","clocks"]
theorem zk (F:fE K mg "stamp" lI ["record","event"])(aa4:Cl P w K mg base 8 "knows" 2 aT)(B:Bl mg):Cl P w K mg base 9 "stamp" 2 fK:=
 aN l9 F λd f c A o s H E hr x=>(ao (aH (cR ["other"] l9 lI (bD (aJ aa4 hr (ag (af 0) (ag (af 1) ah)))) (λd _ _ _ _ _=>⟨(aq 0 d),bU,(aC (af 0) ak)⟩)) (aq 2 d)) (ar (au (nH jV B.b_tuple cZ (ag (cR ["number","clocks"] l9 lI (cI B.b_range (ag (cj cG B.b_len Mp (ag (aC (af 0) ak) ah)) ah)) (λd _ _ _ _ _=>⟨(aq 0 d),bU,(wq (i8 hr) (af 1) (af 0))⟩)) ah)))))
abbrev o4:Stmt:=top 42
theorem pL (F:fE K mg "is_better" o4 ["best","bound","ahead"]):Cl P w K mg base 1 "is_better" 3 cL:=
 aN ["best","bound","ahead","known"] F λd f c A o s H E hr x=>(ao (aH (uS (DG hr) (af 0) (aC (af 1) ak)) (aq 3 d)) (ar (au (uR (cS lT (af 3) cF) (de (cS rF (az aV (aC (af 2) ak) (aC (af 1) ak)) (aC (af 3) ak)))))))
abbrev j4:Stmt:=top 41
abbrev kl:List Str:=["limits","starts","best","moved","number","bound","ahead","walk","passed"]
theorem wU (F:fE K mg "settle" j4 ["limits","starts"])(aaC:Cl P w K mg base 1 "is_better" 3 cL)(B:Bl mg):Cl P w K mg base 2 "settle" 2 fw:=
 aN kl F λd f c A o s H E hr x=>(by(apply ao;exact(xV 2 (hu8 hr) rfl B.b_dict d (cR ["event"] kl j4 (bD (af 1)) (λd _ _ _ _ _=>⟨(aq 0 d),bU,(bK (ag (af 0) (ag (bK (ag ak (ag (fP ah) ah))) ah)))⟩)));apply ao;exact(aH dN (aq 3 d));apply ao;exact(nG FU (cO (af 3)) (ao (aH dN (aq 3 d)) (ar (cm rfl (jB B.b_enumerate (ag (af 0) ah)) (jC rfl (cD (aq 4 d) (cD (aq 5 d) gP))) (by(apply ao;exact(aH (xZ 2 (uS (DG hr) (af 2) (aC (af 5) ak))) (aq 6 d));apply ao;exact(bo (kE (j0 (aP lT (af 6) cF) (jz (dv (xU 2 (cO (aJ aaC hr (ag (af 2) (ag (af 5) (ag (af 6) ah)))))))))) (ar DP) aZ);apply ao;exact(aH (az aV (aC (af 6) ak) (fP (ag (af 4) ah))) (aq 7 d));apply ao;exact(DO 8 (N':=["step","limits"]) (src:=[none,some 0]) rfl (LcScope.by (N:=kl) (names:=(aA j4).names) rfl rfl rfl (by decide+kernel)) (bD (af 7)) (λ_ _ _ _ _=>⟨(aq 0 (show N3 (["step","limits"]:List Str)by decide+kernel)),bU,(aC (aC (af 1) (af 0)) ak)⟩) d);apply ao;exact(bo (aP (vm (i8 hr)) (aC (af 5) ak) (af 8)) (ar (au (bK (ag cF (ag (xY (af 7) (xW (wo (i8 hr) (af 8) (aC (af 5) ak))) xX) ah))))) aZ);apply ao;exact(A4 2 (DG hr) (aC (af 5) ak) (bK (ag (az aV (aC (af 6) ak) (aC (af 5) ak)) (ag (af 7) ah))));exact ar (aH dN (aq 3 d))))))));exact ar (fG 2 (au (bK (ag (af 2) (ag cF ah)))))))
abbrev fH:Stmt:=top 44
abbrev fI:List Str:=["record","limits","places","best"]
theorem jK (F:fE K mg "greatest_world" fH ["record","limits"])(aa6:Cl P w K mg base 8 "events" 1 cM)(aaj:Cl P w K mg base 2 "settle" 2 fw)(B:Bl mg):Cl P w K mg base 9 "greatest_world" 2 cP:=
 aN fI F λd f c A o s H E hr x=>(by(apply ao;exact(aH (aJ aa6 hr (ag (af 0) ah)) (aq 2 d));apply ao;exact(aH (aC (aJ aaj hr (ag (af 1) (ag (af 2) ah))) ak) (aq 3 d));apply ao;exact(bo (aP lT (af 3) cF) (ar (au cF)) aZ);exact ar (au (nH jV B.b_tuple cZ (ag (cR ["event","best"] fI fH (bD (af 2)) (λd _ _ _ _ _=>⟨(aq 0 d),bU,(aC (oM (DG hr) (af 1) (af 0)) ak)⟩)) ah)))))
abbrev jk:Stmt:=top 37
theorem jq (F:fE K mg "bounds_of_clock" jk ["number","clock"])(B:Bl mg):Cl P w K mg base 1 "bounds_of_clock" 2 bW:=
 aN ["number","clock","readings","told","k","first","second","steps"] F λd f c A o s H E hr x=>(by(apply ao;exact(aH (aC (af 1) ak) (aq 2 d));apply ao;exact(fX 3 d ah);apply ao;exact(cm rfl (cI B.b_range (ag (az g7 (cj cG B.b_len Mp (ag (af 2) ah)) ak) ah)) (aq 4 d) (by(apply ao;exact(aH (bK (ag (af 0) (ag (af 4) ah))) (aq 5 d));apply ao;exact(aH (bK (ag (af 0) (ag (az aV (af 4) ak) ah))) (aq 6 d));apply ao;exact(aH (az g7 (aC (af 2) (az aV (af 4) ak)) (aC (af 2) (af 4))) (aq 7 d));apply ao;exact(iz 3 (bK (ag (af 5) (ag (af 6) (ag (az dy (af 7) (aC (af 1) ak)) ah)))));exact ar (iz 3 (bK (ag (af 6) (ag (af 5) (ag (az dy (oK (af 7)) (aC (af 1) ak)) ah))))))));exact ar (fG 3 (au (af 3)))))
abbrev i5:Stmt:=top 38
theorem i7 (F:fE K mg "bounds_of_letter" i5 ["letter"]):Cl P w K mg base 1 "bounds_of_letter" 1 bP:=
 aN ["letter","told"] F λd f c A o s H E hr x=>(by(apply ao;exact(fX 1 d (ag (bK (ag (aC (af 0) ak) (ag (aC (af 0) ak) (ag (oK (aC (af 0) ak)) ah)))) ah));apply ao;exact(bo (aP lS (aC (af 0) ak) cF) (ar (iz 1 (bK (ag (aC (af 0) ak) (ag (aC (af 0) ak) (ag (aC (af 0) ak) ah)))))) aZ);exact ar (fG 1 (au (af 1)))))
abbrev wI:Stmt:=top 39
theorem wW (F:fE K mg "bounds" wI ["record"])(aa0:Cl P w K mg base 7 "need_record" 1 aL)(aad:Cl P w K mg base 1 "bounds_of_clock" 2 bW)(aab:Cl P w K mg base 1 "bounds_of_letter" 1 bP)(B:Bl mg):Cl P w K mg base 8 "bounds" 1 fx:=
 aN ["record","told","number","clock","letter"] F λd f c A o s H E hr x=>(by(apply ao;exact(bS (aJ aa0 hr (ag (af 0) ah)));apply ao;exact(fX 1 d ah);apply ao;exact(cm rfl (jB B.b_enumerate (ag (aC (af 0) ak) ah)) (jC rfl (cD (aq 2 d) (cD (aq 3 d) gP))) (ar (oJ 1 (aJ aad hr (ag (af 2) (ag (af 3) ah))))));apply ao;exact(cm rfl (bD (aC (af 0) ak)) (aq 4 d) (ar (oJ 1 (aJ aab hr (ag (af 4) ah)))));exact ar (fG 1 (au (af 1)))))
abbrev yB:Stmt:=top 45
theorem zi (F:fE K mg "world" yB ["record"])(aae:Cl P w K mg base 9 "greatest_world" 2 cP)(aak:Cl P w K mg base 8 "bounds" 1 fx):Cl P w K mg base 10 "world" 1 iM:=
 aN ["record"] F λd f c A o s H E hr x=>(ar (au (aJ aae hr (ag (af 0) (ag (aJ aak hr (ag (af 0) ah)) ah)))))
abbrev o6:Stmt:=top 46
theorem pO (F:fE K mg "has_world" o6 ["record"])(aaJ:Cl P w K mg base 10 "world" 1 iM):Cl P w K mg base 11 "has_world" 1 dq:=
 aN ["record"] F λd f c A o s H E hr x=>(ar (au (cS lS (aJ aaJ hr (ag (af 0) ah)) cF)))
abbrev lL:Stmt:=top 49
theorem lX (F:fE K mg "need_events" lL ["record","one","other"])(aa0:Cl P w K mg base 7 "need_record" 1 aL)(aa5:Cl P w K mg base 4 "need_event" 2 bM):Cl P w K mg base 8 "need_events" 3 dR:=
 aN ["record","one","other"] F λd f c A o s H E hr x=>(by(apply ao;exact(bS (aJ aa0 hr (ag (af 0) ah)));apply ao;exact(bS (aJ aa5 hr (ag (af 0) (ag (af 1) ah))));exact ar (bS (aJ aa5 hr (ag (af 0) (ag (af 2) ah))))))
abbrev m3:Stmt:=top 47
theorem ni (F:fE K mg "need_world" m3 ["record"])(aa9:Cl P w K mg base 11 "has_world" 1 dq){C_NoRecord C_NoEvent C_NoNumber C_NoWorld C_ClockError:Addr}(S:Xs K mg C_NoRecord C_NoEvent C_NoNumber C_NoWorld C_ClockError):Cl P w K mg base 12 "need_world" 1 eX:=
 aN ["record"] F λd f c A o s H E hr x=>(ar (bo (dv (cO (aJ aa9 hr (ag (af 0) ah)))) (ar (iy S.o_NoWorld S.m_NoWorld)) aZ))
abbrev tR:Stmt:=top 51
theorem ue (F:fE K mg "most_of" tR ["walks","other"]):Cl P w K mg base 1 "most_of" 2 km:=
 aN ["walks","other"] F λd f c A o s H E hr x=>(ar (au (x6 (aP (E6 (DG hr)) (af 1) (af 0)) (aC (oM (DG hr) (af 0) (af 1)) ak) cF)))
abbrev mZ:Stmt:=top 50
theorem nh (F:fE K mg "walks_from" mZ ["record","one"])(aaj:Cl P w K mg base 2 "settle" 2 fw)(aak:Cl P w K mg base 8 "bounds" 1 fx):Cl P w K mg base 9 "walks_from" 2 eV:=
 aN ["record","one"] F λd f c A o s H E hr x=>(ar (au (aC (aJ aaj hr (ag (aJ aak hr (ag (af 0) ah)) (ag (fP (ag (af 1) ah)) ah))) ak)))
abbrev kP:Stmt:=top 52
theorem kU (F:fE K mg "most_between" kP ["record","one","other"])(aaq:Cl P w K mg base 8 "need_events" 3 dR)(aaw:Cl P w K mg base 12 "need_world" 1 eX)(aaH:Cl P w K mg base 1 "most_of" 2 km)(aax:Cl P w K mg base 9 "walks_from" 2 eV):Cl P w K mg base 13 "most_between" 3 dz:=
 aN ["record","one","other"] F λd f c A o s H E hr x=>(by(apply ao;exact(bS (aJ aaq hr (ag (af 0) (ag (af 1) (ag (af 2) ah)))));apply ao;exact(bS (aJ aaw hr (ag (af 0) ah)));exact ar (au (aJ aaH hr (ag (aJ aax hr (ag (af 0) (ag (af 1) ah))) (ag (af 2) ah))))))
abbrev j5:Stmt:=top 53
theorem kc (F:fE K mg "least_between" j5 ["record","one","other"])(aal:Cl P w K mg base 13 "most_between" 3 dz):Cl P w K mg base 14 "least_between" 3 c8:=
 aN ["record","one","other","most"] F λd f c A o s H E hr x=>(ao (aH (aJ aal hr (ag (af 0) (ag (af 2) (ag (af 1) ah)))) (aq 3 d)) (ar (au (x6 (aP lT (af 3) cF) cF (oK (af 3))))))
abbrev fh:Stmt:=top 64
abbrev fq:List Str:=["_law_record_here","_law_one","_law_other","_law_mine","_law_yours","_law_known","_law_there"]
theorem l6 (F:fE K mg "_law_agrees" fh ["_law_record_here","_law_one","_law_other"])(aa4:Cl P w K mg base 8 "knows" 2 aT)(aam:Cl P w K mg base 9 "stamp" 2 fK)(aa9:Cl P w K mg base 11 "has_world" 1 dq)(aag:Cl P w K mg base 14 "least_between" 3 c8)(B:Bl mg):Cl P w K mg base 15 "_law_agrees" 3 cY:=
 aN fq F λd f c A o s H E hr x=>(by(apply ao;exact(A5 3 4 (ag (aJ aam hr (ag (af 0) (ag (af 1) ah))) (ag (aJ aam hr (ag (af 0) (ag (af 2) ah))) ah)) d);apply ao;exact(aH (cS (vm (i8 hr)) (af 1) (aJ aa4 hr (ag (af 0) (ag (af 2) ah)))) (aq 5 d));apply ao;exact(bo (aP (jI (i9 hr)) (af 5) (cS vn (aC (af 4) (aC (af 1) ak)) (aC (af 1) ak))) (ar (au dN)) aZ);apply ao;exact(bo (aP (jI (i9 hr)) (af 5) (cS (cV (i8 hr)) dN (cR ["_law_low","_law_high"] fq fh (A8 B.b_zip (ag (af 3) (ag (af 4) ah))) (λd _ _ _ _ _=>⟨(jC rfl (cD (aq 0 d) (cD (aq 1 d) gP))),bU,(cS rG (af 0) (af 1))⟩)))) (ar (au dN)) aZ);apply ao;exact(aH (aJ aa4 hr (ag (af 0) (ag (af 2) ah))) (aq 6 d));apply ao;exact(bo (kE (k8 (cO (af 5)) (lA (aP (jI (i9 hr)) (cR ["_law_event","_law_there"] fq fh (bD (aJ aa4 hr (ag (af 0) (ag (af 1) ah)))) (λd _ _ _ _ _=>⟨(aq 0 d),(jA (aP (cV (i8 hr)) (af 0) (af 1))),(af 0)⟩)) (fP ah))))) (ar (au dN)) aZ);exact ar (au (uR (tJ (af 5)) (uR (tJ (aJ aa9 hr (ag (af 0) ah))) (de (cS Hb (aJ aag hr (ag (af 0) (ag (af 1) (ag (af 2) ah)))) ak)))))))
abbrev oV:Stmt:=top 65
abbrev uj:List Str:=["_law_script","_law_record_here","_law_row","_law_pairs","_law_one","_law_other","_law_apart","_law_first","_law_letter_here","_law_more","_law_event"]
theorem aac:dG uj ["_law_script"] (aA oV):=fsc
theorem Ff {f:Addr}{fd:L0}(aaK:Fn K mg "law" oV ["_law_script"] f fd)(aar:Cl P w K mg base 4 "_law_record" 3 dS)(aa6:Cl P w K mg base 8 "events" 1 cM)(aaa:Cl P w K mg base 9 "unknown_pairs" 1 cx)(aa7:Cl P w K mg base 3 "_law_letter" 3 bN)(aas:Cl P w K mg base 9 "with_letter" 2 cW)(aah:Cl P w K mg base 9 "first_to_know" 3 cz)(aa4:Cl P w K mg base 8 "knows" 2 aT)(aat:Cl P w K mg base 15 "_law_agrees" 3 cY)(aam:Cl P w K mg base 9 "stamp" 2 fK)(B:Bl mg):Gi P w K mg base 16 f fd ["_law_script"] 1 m_law:=
 uT aaK.fn aac rfl λc A o s H E hr x=>(by(apply ao;exact(aH (aJ aar hr (ag (af 0) (ag ak (ag ak ah)))) (aq 1 aac.nd));apply ao;exact(aH (aJ aa6 hr (ag (af 1) ah)) (aq 2 aac.nd));apply ao;exact(aH (aJ aaa hr (ag (af 1) ah)) (aq 3 aac.nd));apply ao;exact(cm rfl (bD (af 2)) (aq 4 aac.nd) (by(apply ao;exact(cm rfl (bD (af 2)) (aq 5 aac.nd) (by(apply ao;exact(bo (dv (cO (aJ aat hr (ag (af 1) (ag (af 4) (ag (af 5) ah)))))) (ar (au dN)) aZ);apply ao;exact(aH (df (cS (cV (i8 hr)) (af 4) (aJ aa4 hr (ag (af 1) (ag (af 5) ah)))) (de (cS (cV (i8 hr)) (af 5) (aJ aa4 hr (ag (af 1) (ag (af 4) ah)))))) (aq 6 aac.nd));exact ar (bo (aP (jI (i9 hr)) (cS (vm (i8 hr)) (bK (ag (cj (CV rfl (i9 hr)) B.b_min boot_min (ag (af 4) (ag (af 5) ah))) (ag (cj (CW rfl (i9 hr)) B.b_max boot_max (ag (af 4) (ag (af 5) ah))) ah))) (af 3)) (af 6)) (ar (au dN)) aZ))));apply ao;exact(aH (aJ aah hr (ag (af 1) (ag (af 4) (ag (aC (af 4) ak) ah)))) (aq 7 aac.nd));apply ao;exact(bo (kE (j0 (aP lT (af 7) cF) (j0 (aP (jI (i9 hr)) (aC (af 7) ak) (aC (af 4) ak)) (jz (aP vn (aC (af 7) ak) (aC (af 4) ak)))))) (ar (au dN)) aZ);exact ar (bo (aP (jI (i9 hr)) (cj (CU rfl) B.b_sum boot_sum (ag (aJ aam hr (ag (af 1) (ag (af 4) ah))) ah)) (cj cG B.b_len Mp (ag (aJ aa4 hr (ag (af 1) (ag (af 4) ah))) ah))) (ar (au dN)) aZ))));apply ao;exact(bo (aP (jI (i9 hr)) (af 3) (tI rfl (HK hr) B.b_sorted B.b_set (ag (af 3) ah))) (ar (au dN)) aZ);apply ao;exact(aH (aJ aa7 hr (ag (af 0) (ag ak (ag (aC (af 1) ak) ah)))) (aq 8 aac.nd));apply ao;exact(bo (kE (j0 (aP lT (af 8) cF) (jz (aP vn (cj cG B.b_len Mp (ag (aC (af 1) ak) ah)) ak)))) (ar (au dN)) aZ);apply ao;exact(aH (aJ aas hr (ag (af 1) (ag (af 8) ah))) (aq 9 aac.nd));apply ao;exact(bo (aP (cV (i8 hr)) (aC (af 8) ak) (aJ aa4 hr (ag (af 9) (ag (aC (af 8) ak) ah)))) (ar (au dN)) aZ);apply ao;exact(cm rfl (bD (af 2)) (aq 10 aac.nd) (ar (bo (aP (jI (i9 hr)) (cR ["_law_one","_law_more","_law_event"] uj oV (bD (aJ aa4 hr (ag (af 1) (ag (af 10) ah)))) (λd _ _ _ _ _=>⟨(aq 0 d),(jA (aP (cV (i8 hr)) (af 0) (aJ aa4 hr (ag (af 1) (ag (af 2) ah))))),(af 0)⟩)) (fP ah)) (ar (au dN)) aZ)));exact ar (au (cS (rH (i9 hr)) (cR ["_law_pair","_law_pairs"] uj oV (bD (aJ aaa hr (ag (af 9) ah))) (λd _ _ _ _ _=>⟨(aq 0 d),(jA (aP (cV (i8 hr)) (af 0) (af 1))),(af 0)⟩)) (fP ah)))))
end
theorem all_ok {l:PySem.W.OpenLaw}{w:Kx}{K:JH}{h:Heap}{mg:Str->Option JK}{fa:Addr}(X:K.In h)(e0:zo asks K=ye asks top)(G:h.Ns Kw mg)(hfa:mg "law" =some (.ref fa)) :
  ∃fd:L0,(∀(s:JL) (v:JK),RY s fd ⟨[v],[]⟩ [("_law_script",v)])/\∀base:Heap,K.In base->base.Ns Kw mg->qH l.prog w K mg base CX0 16 fa fd ["_law_script"] (spP K 1 m_law):=by
 have e:pQ AH K=oP AH top:=congrArg (·.1) e0
 have B:Bl mg:=⟨di 0 X G e rfl,di 1 X G e rfl,di 2 X G e rfl,di 3 X G e rfl,di 4 X G e rfl,di 5 X G e rfl,di 6 X G e rfl,di 7 X G e rfl,di 8 X G e rfl,di 9 X G e rfl,di 10 X G e rfl,di 11 X G e rfl,di 12 X G e rfl,di 13 X G e rfl,di 14 X G e rfl⟩
 have C:Cs mg:=⟨nY 0 X G e rfl,nY 1 X G e rfl,nY 2 X G e rfl,nY 3 X G e rfl,nY 4 X G e rfl,nY 5 X G e rfl⟩;obtain⟨C_ClockError,ls,xD,xl,nd⟩:=Fg (HF e);obtain⟨C_NoRecord,ls0,x_NoRecord,rfl,xl0⟩:=iX xl;obtain⟨C_NoEvent,ls1,x_NoEvent,rfl,xl1⟩:=iX xl0;obtain⟨C_NoNumber,ls2,x_NoNumber,rfl,xl2⟩:=iX xl1;obtain⟨C_NoWorld,ls3,x_NoWorld,rfl,xl3⟩:=iX xl2;cases AL xl3
 have S:Xs K mg C_NoRecord C_NoEvent C_NoNumber C_NoWorld C_ClockError:=⟨OC X G (g8 x_NoRecord).1,OC X G (g8 x_NoEvent).1,OC X G (g8 x_NoNumber).1,OC X G (g8 x_NoWorld).1,OC X G (g8 xD).1,Iy x_NoRecord xD,Iy x_NoEvent xD,Iy x_NoNumber xD,Iy x_NoWorld xD,ox0 xD,nd⟩;obtain⟨fd45,aaK,bnd⟩:=HA (n:="law") (i:=65) (x:="_law_script") 45 X G e rfl hfa λ_ _ _ _ _ _ _=>rfl
 refine⟨fd45,bnd,λbase _ _=> ?_⟩
 have aay:=pP l.prog w base (bR 0 X G e) B
 have aa1:=nt l.prog w base (bR 1 X G e) aay
 have aan:=l5 l.prog w base (bR 2 X G e) B
 have aa7:=l4 l.prog w base (bR 3 X G e) aan aa1 B
 have aau:=nu l.prog w base (bR 4 X G e) aa1 B
 have aar:=lZ l.prog w base (bR 5 X G e) aa1 aa7 aau B
 have aa3:=ug l.prog w base (bR 6 X G e) B
 have aaD:=rJ l.prog w base (bR 7 X G e) B
 have aa2:=pI l.prog w base (bR 8 X G e) aaD
 have aaG:=uf l.prog w base (bR 9 X G e) aa2 C
 have aaI:=zl l.prog w base (bR 10 X G e) B
 have aai:=kW l.prog w base (bR 11 X G e) aa3 aaI aa2 B C
 have aaE:=rM l.prog w base (bR 12 X G e) aa3 aaG aai
 have aav:=nr l.prog w base (bR 13 X G e) aa3 aaE B C
 have aa8:=rK l.prog w base (bR 14 X G e) aa2 aa3 B
 have aaF:=rL l.prog w base (bR 15 X G e) aa2 C
 have aaz:=pK l.prog w base (bR 16 X G e) aa8 aa3 aaF
 have aao:=lY l.prog w base (bR 17 X G e) aa3 aaz B C
 have aaA:=pJ l.prog w base (bR 18 X G e) aa3 aav aao
 have aa0:=lV l.prog w base (bR 19 X G e) aaA S
 have aa6:=wV l.prog w base (bR 20 X G e) aa0 B
 have aa5:=nq l.prog w base (bR 21 X G e) aa8 S
 have aaf:=kf l.prog w base (bR 22 X G e)
 have aa4:=zm l.prog w base (bR 23 X G e) aa0 aa5 aaf B
 have aaa:=j9 l.prog w base (bR 24 X G e) aa6 aa4 B
 have aaB:=pM l.prog w base (bR 25 X G e) aa0
 have aas:=lU l.prog w base (bR 26 X G e) aa0 aaB
 have aap:=lW l.prog w base (bR 27 X G e) aa2 S
 have aah:=kg l.prog w base (bR 28 X G e) aa0 aa5 aap aa6 aa4 B
 have aam:=zk l.prog w base (bR 29 X G e) aa4 B
 have aaC:=pL l.prog w base (bR 30 X G e)
 have aaj:=wU l.prog w base (bR 31 X G e) aaC B
 have aae:=jK l.prog w base (bR 32 X G e) aa6 aaj B
 have aad:=jq l.prog w base (bR 33 X G e) B
 have aab:=i7 l.prog w base (bR 34 X G e)
 have aak:=wW l.prog w base (bR 35 X G e) aa0 aad aab B
 have aaJ:=zi l.prog w base (bR 36 X G e) aae aak
 have aa9:=pO l.prog w base (bR 37 X G e) aaJ
 have aaq:=lX l.prog w base (bR 38 X G e) aa0 aa5
 have aaw:=ni l.prog w base (bR 39 X G e) aa9 S
 have aaH:=ue l.prog w base (bR 40 X G e)
 have aax:=nh l.prog w base (bR 41 X G e) aaj aak
 have aal:=kU l.prog w base (bR 42 X G e) aaq aaw aaH aax
 have aag:=kc l.prog w base (bR 43 X G e) aal
 have aat:=l6 l.prog w base (bR 44 X G e) aa4 aam aa9 aag B;exact(Ff l.prog w base aaK aar aa6 aaa aa7 aas aah aa4 aat aam B).h
end G
namespace Tr
open PySem
abbrev RR (cs ls:List T):T:=.tup [.tup cs,.tup ls]
mutual
def T.pl:T->Bool
 | .scr _=>false
 | .dct _ _=>false
 | .ob _ _ _=>false
 | .tup l=>plS l
 | .lst l=>plS l
 | _=>true
def plS:List T->Bool
 | [] =>true
 | t::l=>t.pl&&plS l
end
theorem gp:∀{l:List T} {t:T},plS l=true->t∈l->t.pl=true
 | [],_,_,h=>by cases h
 | u::l,t,h,m=>by
  unfold plS at h;rw[JM]at h;rcases JT.mp m with rfl | m
  ·exact h.1
  ·exact gp h.2 m
mutual
theorem T.Gc:∀(t:T),t.pl=true->t.nd=true
 | .non,_=>rfl
 | .bl _,_=>rfl
 | .int _,_=>rfl
 | .str _,_=>rfl
 | .scr _,h=>by cases h
 | .dct _ _,h=>by cases h
 | .ob _ _ _,h=>by cases h
 | .tup l,h=>by unfold T.pl at h;unfold T.nd;exact plS_nds l h
 | .lst l,h=>by unfold T.pl at h;unfold T.nd;exact plS_nds l h
theorem plS_nds:∀(l:List T),plS l=true->nds l=true
 | [],_=>rfl
 | t::l,h=>by
  unfold plS at h;rw[JM]at h;unfold nds;rw[T.Gc t h.1,plS_nds l h.2];rfl
end
theorem ur {fe:En->Rs T}{h:T->T}:∀(ts:List T) (Z:En),0<Z.length->(∀t∈ts,fe (Z.set 0 (.va t))= .ok (h t))->cq (gN 0) bT fe ts Z= .ok (ts.map h)
 | [],_,_,_=>rfl
 | t::r,Z,hl,hf=>by
  unfold cq
  have e1:gN 0 t Z= .ok (Z.set 0 (.va t)):=by unfold gN;rw[if_pos hl]
  have ih:=ur r (Z.set 0 (.va t)) (by rw[Lw];exact hl) (λu hu=>by rw[List.set_set];exact hf u (JJ _ hu))
  simp only[e1,aB,bT,if_true,hf t JO,ih,JP]
theorem nV {fc:En->Rs Bool}{fe:En->Rs T}{p:T->Bool}{h:T->T}:∀(ts:List T) (Z:En),0<Z.length->(∀t∈ts,fc (Z.set 0 (.va t))= .ok (p t)/\(p t=true->fe (Z.set 0 (.va t))= .ok (h t)))->cq (gN 0) fc fe ts Z= .ok ((ts.filter p).map h)
 | [],_,_,_=>rfl
 | t::r,Z,hl,hf=>by
  unfold cq
  have e1:gN 0 t Z= .ok (Z.set 0 (.va t)):=by unfold gN;rw[if_pos hl]
  have ih:=nV r (Z.set 0 (.va t)) (by rw[Lw];exact hl) (λu hu=>by rw[List.set_set];exact hf u (JJ _ hu))
  obtain⟨h1,h2⟩:=hf t JO;simp only[e1,aB,h1]
  cases q:p t with
  | true=>simp only[if_true,h2 q,aB,ih,Qa,q,JP]
  | false=>simp only[KU,if_false,ih,Qa,q]
theorem oA (p:T->Bool):∀l:List T,mO (l.map λt=>T.bl (p t))=some (l.map p)
 | [] =>rfl
 | t::l=>by rw[JP,mO,oA p l];rfl
theorem all_map (p:T->Bool)(l:List T):nC [.lst (l.map λt=>T.bl (p t))] = .ok (.bl (l.all p)):=by
 simp only[nC,oA,List.all_map]
 rfl
theorem jx {α:Type}{l:List α}{k:Nat}{t:α}(h:l[k]? =some t):L2.atI l (k:Int)=some t:=by
 have hk:k<l.length:=(J4.mp h).1
 unfold L2.atI L2.ixN;rw[if_pos (by omega),if_pos (by omega),Lf]
 exact h
theorem aF {n k:Nat}(h:n<=k)(hk:autoParam (k<=1000) s_):n<=sizeLine:=by unfold sizeLine;omega
section
variable {f fa fb fc:En->Rs T}{fs:En->Rs (List T)}{b c:En->Rs Bool}{F G:En->Rs Fl}{Z Z' Z1 Z2:En}{t u r:T}{ts l m:List T}
theorem aD {g:T->T->Rs T}{x:Rs T}(ha:fa Z= .ok t)(hb:fb Z= .ok u)(hg:g t u=x):o2 g fa fb Z=x:=by unfold o2;rw[ha,hb];exact hg
theorem Hz {g:T->Rs T}{x:Rs T}(ha:fa Z= .ok t)(hg:g t=x):o1 g fa Z=x:=by unfold o1;rw[ha];exact hg
theorem Hy {g:T->T->Rs T}{x:Rs T}{ks vs:List T}(ha:fa Z= .ok (.dct ks vs))(hb:fb Z= .ok u)(hg:g (.dct ks vs) u=x):oD g fa fb Z=x:=by unfold oD;rw[ha];show(fb Z >>= g (.dct ks vs))=_;rw[hb];exact hg
theorem Hw {g:T->T->Rs T}{x:Rs T}{ks:List T}(ha:fa Z= .ok (.lst ks))(hb:fb Z= .ok u)(hg:g (.lst ks) u=x):oL g fa fb Z=x:=by unfold oL;rw[ha];show(fb Z >>= g (.lst ks))=_;rw[hb];exact hg
theorem ax (h:f Z= .ok t)(hs:fs Z= .ok ts):ae f fs Z= .ok (t::ts):=by unfold ae;rw[h,hs];rfl
theorem aG {g:List T->Rs T}{x:Rs T}(h:fs Z= .ok ts)(hg:g ts=x):cl g fs Z=x:=by unfold cl;rw[h];exact hg
theorem bj {k:Bool}(h:f Z= .ok (.bl k)):tb f Z= .ok k:=by unfold tb;rw[h];rfl
theorem eR {k:Bool}(h:b Z= .ok k):eF b Z= .ok (!k):=by unfold eF;rw[h];rfl
theorem vJ (h:b Z= .ok true):tD b c Z= .ok true:=by unfold tD;rw[h];rfl
theorem kK {x:Rs Bool}(h:b Z= .ok false)(h2:c Z=x):tD b c Z=x:=by unfold tD;rw[h];exact h2
theorem z0 (h:b Z= .ok false):ir b c Z= .ok false:=by unfold ir;rw[h];rfl
theorem zZ {x:Rs Bool}(h:b Z= .ok true)(h2:c Z=x):ir b c Z=x:=by unfold ir;rw[h];exact h2
theorem z6 {p q:Bool}(h:b Z= .ok p)(h2:p=true->c Z= .ok q):ir b c Z= .ok (p&&q):=by
 cases p with
 | false=>exact z0 h
 | true=>exact zZ h (h2 rfl)
theorem qd (h:fa Z= .ok (.bl true)):cU fa fb Z=fb Z:=by unfold cU;rw[h];rfl
theorem qc (h:fa Z= .ok (.bl false)):cU fa fb Z= .ok (.bl false):=by unfold cU;rw[h];rfl
theorem iP {p q:Bool}(h:fa Z= .ok (.bl p))(h2:p=true->fb Z= .ok (.bl q)):cU fa fb Z= .ok (.bl (p&&q)):=by
 cases p with
 | true=>rw[qd h,h2 rfl];rfl
 | false=>rw[qc h];rfl
theorem p6 (h:fa Z= .ok (.bl true)):zg fa fb Z= .ok (.bl true):=by unfold zg;rw[h];rfl
theorem p7 (h:fa Z= .ok (.bl false)):zg fa fb Z=fb Z:=by unfold zg;rw[h];rfl
theorem FC {p q:Bool}(h:fa Z= .ok (.bl p))(h2:p=false->fb Z= .ok (.bl q)):zg fa fb Z= .ok (.bl (p||q)):=by
 cases p with
 | true=>rw[p6 h];rfl
 | false=>rw[p7 h,h2 rfl];rfl
theorem p8 {k:Bool}(h:fa Z= .ok (.bl k)):o1 uh fa Z= .ok (.bl (!k)):=Hz h rfl
theorem zX {p:Bool}(h:b Z= .ok p):DF b fa fb Z=if p then fa Z else fb Z:=by unfold DF;rw[h];rfl
theorem bZ {g:T->En->Rs En}(h:f Z= .ok t)(hg:g t Z= .ok Z'):cw f g Z= .ok (.nx Z'):=by unfold cw;rw[h];show(match g t Z with | .ok Z'=>Rs.ok (Fl.nx Z') | _=> .bad)=_;rw[hg]
theorem aw (h:F Z= .ok (.nx Z')):ay F G Z=G Z':=by unfold ay;rw[h];rfl
theorem fy (h:F Z= .ok (.rt t)):ay F G Z= .ok (.rt t):=by unfold ay;rw[h];rfl
theorem zV (h:F Z= .ok (.ct Z')):ay F G Z= .ok (.ct Z'):=by unfold ay;rw[h];rfl
theorem Fz {c:Str}(h:F Z= .err c):ay F G Z= .err c:=by unfold ay;rw[h];rfl
theorem d8 (h:b Z= .ok true):eO b F G Z=F Z:=by unfold eO;rw[h];rfl
theorem b6 (h:b Z= .ok false):eO b F G Z=G Z:=by unfold eO;rw[h];rfl
theorem bH (h:f Z= .ok t):aO f Z= .ok (.rt t):=by unfold aO;rw[h];rfl
theorem FA {c:Str}(h:f Z= .err c):aO f Z= .err c:=by unfold aO;rw[h];rfl
theorem jP (h:f Z= .ok t):nc f Z= .ok (.nx Z):=by unfold nc;rw[h];rfl
theorem HE {c:Str}(h:f Z= .err c):nc f Z= .err c:=by unfold nc;rw[h];rfl
theorem eU {fi:En->Rs (List T)}{g:T->En->Rs En}{x:Fl}(h:fi Z= .ok ts)(h2:a9 g F ts Z= .ok x):dY fi g F Z= .ok x:=by unfold dY;rw[h];show(match a9 g F ts Z with | .ok f=>Rs.ok f | _=> .bad)=_;rw[h2]
theorem dD {g:T->En->Rs En}(h:g t Z= .ok Z1)(h2:F Z1= .ok (.nx Z2)):a9 g F (t::ts) Z=a9 g F ts Z2:=by rw[a9,h];show(F Z1 >>= _)=_;rw[h2];rfl
theorem Cy {g:T->En->Rs En}(h:g t Z= .ok Z1)(h2:F Z1= .ok (.ct Z2)):a9 g F (t::ts) Z=a9 g F ts Z2:=by rw[a9,h];show(F Z1 >>= _)=_;rw[h2];rfl
theorem p9 {g:T->En->Rs En}(h:g t Z= .ok Z1)(h2:F Z1= .ok (.rt r)):a9 g F (t::ts) Z= .ok (.rt r):=by rw[a9,h];show(F Z1 >>= _)=_;rw[h2];rfl
theorem si {n:Nat}(h:c Z= .ok false):bp c F (n+1) Z= .ok (.nx Z):=by unfold bp;rw[h]
theorem mC {n:Nat}(h:c Z= .ok true)(h2:F Z= .ok (.nx Z')):bp c F (n+1) Z=bp c F n Z':=by rw[bp,h];simp only[h2]
theorem zU {n:Nat}(h:c Z= .ok true)(h2:F Z= .ok (.rt t)):bp c F (n+1) Z= .ok (.rt t):=by rw[bp,h];simp only[h2]
theorem a6 {n m:Nat}(hl:ts.length=n)(h:F (bh m ts)= .ok (.rt t)):val n m F ts= .ok t:=by unfold val;rw[if_pos hl];unfold dt;rw[h];rfl
theorem uv {n m:Nat}{c:Str}(hl:ts.length=n)(h:F (bh m ts)= .err c):val n m F ts= .err c:=by unfold val;rw[if_pos hl];unfold dt;rw[h];rfl
theorem mE {n m:Nat}(hl:ts.length=n)(h:F (bh m ts)= .ok (.nx Z)):val n m F ts= .ok .non:=by unfold val;rw[if_pos hl];unfold dt;rw[h];rfl
theorem qb {fi:En->Rs (List T)}{src:List (Option Nat)}{fe:En->Rs T}{h:T->T}(hi:fi Z= .ok ts)(hs:ts.length<=sizeLine)(hn:0<src.length)(hf:∀t∈ts,fe ((b5 src Z).set 0 (.va t))= .ok (h t)) :
  dU fi src (gN 0) bT fe Z= .ok (.lst (ts.map h)):=by
 have e:=ur (fe:=fe) (h:=h) ts (b5 src Z) (by unfold b5;rw[JQ];exact hn) hf
 unfold dU;rw[hi,aB,if_pos hs,e]
theorem zW {fi:En->Rs (List T)}{src:List (Option Nat)}{fc:En->Rs Bool}{fe:En->Rs T}{p:T->Bool}{h:T->T}(hi:fi Z= .ok ts)(hs:ts.length<=sizeLine)(hn:0<src.length)
  (hf:∀t∈ts,fc ((b5 src Z).set 0 (.va t))= .ok (p t)/\(p t=true->fe ((b5 src Z).set 0 (.va t))= .ok (h t))):dU fi src (gN 0) fc fe Z= .ok (.lst ((ts.filter p).map h)):=by
 have e:=nV (fc:=fc) (fe:=fe) (p:=p) (h:=h) ts (b5 src Z) (by unfold b5;rw[JQ];exact hn) hf
 unfold dU;rw[hi,aB,if_pos hs,e]
theorem dC (h:fs Z= .ok ts)(hl:ts.length<=sizeLine):br fs Z= .ok (.tup ts):=by unfold br;rw[h];show hV ts=_;unfold hV;rw[if_pos hl]
theorem nX (h:fs Z= .ok ts)(hl:ts.length<=sizeLine):fD fs Z= .ok (.lst ts):=by unfold fD;rw[h];show jf ts=_;unfold jf;rw[if_pos hl]
theorem uw {f:En->Rs (List T)}{i:Nat}(h:f Z= .ok l)(hi:i<Z.length)(hl:l.length<=1000):gK i f Z= .ok (.nx (Z.set i (.ow (.lst l)))):=by
 unfold gK;rw[h,aB,if_pos ⟨hi,aF hl (by omega)⟩]
theorem uz {i:Nat}(hi:i<Z.length):gK i aj Z= .ok (.nx (Z.set i (.ow (.lst [])))):=uw rfl hi (KY _)
theorem nZ {i:Nat}(h:f Z= .ok t)(hi:Z[i]? =some (.ow (.lst l)))(hl:l.length<=1000):jm i f Z= .ok (.nx (Z.set i (.ow (.lst (l++ [t]))))):=by
 unfold jm;rw[hi];simp only[h,aB];rw[if_pos (by unfold sizeLine;omega)]
theorem zY {i:Nat}(h:f Z= .ok (.lst m))(hi:Z[i]? =some (.ow (.lst l)))(hl:l.length+m.length<=1000):lP i f Z= .ok (.nx (Z.set i (.ow (.lst (l++m))))):=by
 unfold lP;rw[hi];simp only[h,aB,FV];rw[if_pos (by unfold sizeLine;omega)]
theorem k_iS (h:f Z= .ok (.tup l)):iS f Z= .ok l:=by unfold iS;rw[h];rfl
theorem fz (h:f Z= .ok (.lst l)):iS f Z= .ok l:=by unfold iS;rw[h];rfl
theorem HD (h:fs Z= .ok [.lst l]):iE fs Z= .ok (cA 0 l):=by unfold iE;rw[h];rfl
theorem HB {n:Nat}(e:l[n]? =some t):aS (.tup l) (.int (n:Int))= .ok t:=by show(match L2.atI l _ with | some t=>Rs.ok t | none=> .bad)=_;rw[jx e]
theorem FE {n:Nat}(e:l[n]? =some t):aS (.lst l) (.int (n:Int))= .ok t:=by show(match L2.atI l _ with | some t=>Rs.ok t | none=> .bad)=_;rw[jx e]
theorem FF {n:Nat}(h:fa Z= .ok (.tup l))(h2:fb Z= .ok (.int (n:Int)))(e:l[n]? =some t):o2 aS fa fb Z= .ok t:=aD h h2 (HB e)
theorem HC {n:Nat}(h:fa Z= .ok (.lst l))(h2:fb Z= .ok (.int (n:Int)))(e:l[n]? =some t):o2 aS fa fb Z= .ok t:=aD h h2 (FE e)
theorem Hv {fe:En->Rs T}{fl fu:En->Rs (Option Int)}{lo hi:Option Int}(h:fe Z= .ok (.lst l))(h1:fl Z= .ok lo)(h2:fu Z= .ok hi):sl fe fl fu Z= .ok (.lst (qu l lo hi)):=by
 unfold sl;rw[h,h1,h2];rfl
theorem k_pS {i:Int}(h:f Z= .ok (.int i)):pS f Z= .ok (some i):=by unfold pS;rw[h];rfl
theorem AB (l:List T)(n:Nat):qu l (some (n:Int)) none=l.drop n:=by
 unfold qu;rw[HT.sIx_none,HT.sIx_nat]
 by_cases h:n<=l.length
 ·rw[Nat.min_eq_left h]
  exact NX (by rw[Nu];omega)
 ·rw[Nat.min_eq_right (by omega),NW (JW _),NW (by omega),List.take_nil]
theorem FD {i:Nat}{o:OT}(hi:Z[i]? =some (.ow o))(h:f (disown i Z)= .ok t)(hk:t.nk o.isD=true):ln i f Z= .ok t:=by
 unfold ln;rw[hi];simp only[h,aB,hk,if_true]
theorem DC {i:Nat}{k:Bool}(h:b (disown i Z)= .ok k):AZ i b Z= .ok k:=h
theorem DD {i:Nat}{x:Rs Fl}(h:F (disown i Z)=x):kQ i F Z=x:=h
end
theorem mk2 (a b:T):hV [a,b] = .ok (.tup [a,b]):=by unfold hV;rw[if_pos (aF (k:=1000) (by simp only[JR,LX];omega))]
theorem iB (n:Nat):(rng 0 n).length=n:=by unfold rng;rw[JQ,KR];omega
end Tr
namespace Gr
variable {ν:Type}[DecidableEq ν]
abbrev cC (ν:Type):=List (ν×ν×Int)
inductive Wk (L:cC ν):ν->ν->Int->Prop
 | nil (a:ν):Wk L a a 0
 | step {a b c:ν} {m s:Int}:(a,b,m)∈L->Wk L b c s->Wk L a c (m+s)
theorem Wk.one {L:cC ν}{a b:ν}{m:Int}(h:(a,b,m)∈L):Wk L a b m:=by
 have:=Wk.step h (Wk.nil (L:=L) b)
 rwa [Int.add_zero]at this
theorem Wk.app {L:cC ν}{a b c:ν}{s t:Int}(h:Wk L a b s)(k:Wk L b c t):Wk L a c (s+t):=by
 induction h with
 | nil a=>rwa [Int.zero_add]
 | step e _ ih=>rw[Int.add_assoc];exact .step e (ih k)
def Holds (L:cC ν)(t:ν->Int):Prop:=∀a b m,(a,b,m)∈L->t b - t a<=m
theorem Holds.walk {L:cC ν}{t:ν->Int}(h:Holds L t){a b:ν}{s:Int}(w:Wk L a b s):t b - t a<=s:=by
 induction w with
 | nil a=>omega
 | step e _ ih=>have:=h _ _ _ e;omega
def jZ (L:cC ν):Prop:=∀a s,Wk L a a s->0<=s
theorem Holds.Jv {L:cC ν}{t:ν->Int}(h:Holds L t):jZ L:=λa s w=>by have:=h.walk w;omega
def Ch (L:cC ν):ν->List Nat->ν->Prop
 | a,[],b=>a=b
 | a,k::r,b=> ∃c m,L[k]? =some (a,c,m)/\Ch L c r b
def most (L:cC ν)(k:Nat):Int:=match L[k]? with
 | some x=>x.2.2
 | none=>0
def dM (L:cC ν):List Nat->Int
 | [] =>0
 | k::r=>most L k+dM L r
theorem jW (L:cC ν):∀(p q:List Nat),dM L (p++q)=dM L p+dM L q
 | [],q=>by simp[dM]
 | k::p,q=>by rw[List.cons_append,dM,dM,jW L p q];omega
theorem Ch.wk {L:cC ν}:∀{ks:List Nat} {a b:ν},Ch L a ks b->Wk L a b (dM L ks)
 | [],a,b,h=>by cases h;exact .nil a
 | k::r,a,b,⟨c,m,e,h⟩=>by
  have:dM L (k::r)=m+dM L r:=by rw[dM,most,e]
  rw[this];exact .step (L3 e) h.wk
theorem Ch.app {L:cC ν}:∀{p q:List Nat} {a b c:ν},Ch L a p b->Ch L b q c->Ch L a (p++q) c
 | [],q,a,b,c,h,k=>by cases h;exact k
 | x::p,q,a,b,c,⟨d,m,e,h⟩,k=>⟨d,m,e,Ch.app h k⟩
theorem Ch.lt {L:cC ν}:∀{ks:List Nat} {a b:ν},Ch L a ks b->∀k∈ks,k<L.length
 | [],_,_,_,k,hk=>by simp at hk
 | x::r,a,b,⟨c,m,e,h⟩,k,hk=>by
  rcases JT.mp hk with rfl | hk
  ·exact(J4.mp e).1
  ·exact h.lt k hk
theorem Ch.snoc {L:cC ν}{p:List Nat}{k:Nat}{a b c:ν}{m:Int}(h:Ch L a p b)(e:L[k]? =some (b,c,m)):Ch L a (p++ [k]) c:=h.app ⟨c,m,e,rfl⟩
def src (L:cC ν)(k:Nat):Option ν:=(L[k]?).map (·.1)
abbrev bQ (ν:Type):=ν->Option (Int×List Nat)
def put (b:bQ ν)(v:ν)(x:Int×List Nat):bQ ν:=λu=>if u=v then some x else b u
theorem dw {b:bQ ν}{v:ν}{x:Int×List Nat}:put b v x v=some x:=by unfold put;rw[if_pos rfl]
theorem jn {b:bQ ν}{u v:ν}{x:Int×List Nat}(h:u≠v):put b v x u=b u:=by unfold put;rw[if_neg h]
def dJ (L:cC ν)(ks:List Nat):List ν:=ks.filterMap (src L)
def dF (b:bQ ν)(v:ν)(d:Int):Bool:=match b v with
 | none=>true
 | some x=>decide (d<x.1)
def gc (L:cC ν)(b:bQ ν)(k:Nat)(x:ν×ν×Int):Sum (Option (bQ ν)) (List Nat):=match b x.1 with
 | none=> .inl none
 | some (d,w)=>if dF b x.2.1 (d+x.2.2)=true then
   if x.2.1∈dJ L (w++ [k])then .inr ((w++ [k]).drop ((dJ L (w++ [k])).idxOf x.2.1))else .inl (some (put b x.2.1 (d+x.2.2,w++ [k])))
  else .inl none
def gI (L:cC ν):Nat->cC ν->bQ ν->Bool->Sum (bQ ν×Bool) (List Nat)
 | _,[],b,mv=> .inl (b,mv)
 | k,x::r,b,mv=>match gc L b k x with
  | .inr q=> .inr q
  | .inl none=>gI L (k+1) r b mv
  | .inl (some b')=>gI L (k+1) r b' true
def settle (L:cC ν):Nat->bQ ν->Option (Sum (bQ ν) (List Nat))
 | 0,_=>none
 | n+1,b=>match gI L 0 L b false with
  | .inr q=>some (.inr q)
  | .inl (b',true)=>settle L n b'
  | .inl (b',false)=>some (.inl b')
theorem pE (L:cC ν)(p q:List Nat):dJ L (p++q)=dJ L p++dJ L q:=by unfold dJ;rw[List.filterMap_append]
theorem pD {L:cC ν}{k:Nat}{x:ν×ν×Int}(e:L[k]? =some x):dJ L [k] = [x.1]:=by unfold dJ src;simp[e]
theorem Ch.IL {L:cC ν}{k:Nat}{r:List Nat}{a b:ν}(h:Ch L a (k::r) b):dJ L (k::r)=a::dJ L r:=by
 obtain⟨c,m,e,_⟩:=h;rw[show k::r= [k] ++r from rfl,pE,pD e];rfl
theorem Ch.cut {L:cC ν}{v:ν}:∀{ks:List Nat} {a b:ν},Ch L a ks b->v∈dJ L ks->Ch L a (ks.take ((dJ L ks).idxOf v)) v/\Ch L v (ks.drop ((dJ L ks).idxOf v)) b/\(dJ L ks).idxOf v<ks.length
 | [],a,b,_,hv=>by simp[dJ]at hv
 | k::r,a,b,h,hv=>by
  rw[h.IL]at hv ⊢
  have h0:=h;obtain⟨c,m,e,h⟩:=h
  by_cases z:a=v
  ·subst z
   rw[List.idxOf_cons_self];exact⟨rfl,h0,by simp⟩
  ·have hv':v∈dJ L r:=by
    rcases JT.mp hv with q | q
    ·exact absurd q.symm z
    ·exact q
   obtain⟨h1,h2,h3⟩:=h.cut hv'
   have ei:(a::dJ L r).idxOf v=(dJ L r).idxOf v+1:=by
    rw[S1]
    have:(a == v)=false:=by rw[beq_eq_false_iff_ne];exact z
    rw[this];rfl
   rw[ei];exact⟨⟨c,m,e,h1⟩,h2,by simpa using h3⟩
structure Kept (L:cC ν)(S:List ν)(b:bQ ν):Prop where
 walk:∀v d w,b v=some (d,w)->∃s∈S,Ch L s w v/\dM L w=d/\v∉dJ L w/\(dJ L w).Nodup/\∀p q u,w=p++q->Ch L s p u->∃d' w',b u=some (d',w')/\d'<=dM L p
 start:∀s∈S,∃d w,b s=some (d,w)/\d<=0
theorem Kept.put {L:cC ν}{S:List ν}{b:bQ ν}(K:Kept L S b){k:Nat}{a c:ν}{m d:Int}{w:List Nat}(e:L[k]? =some (a,c,m))(ha:b a=some (d,w))(hb:dF b c (d+m)=true)(hn:c∉dJ L (w++ [k])) :
  Kept L S (put b c (d+m,w++ [k])):=by
 have low:∀u d' w',b u=some (d',w')->∃d'' w'',Gr.put b c (d+m,w++ [k]) u=some (d'',w'')/\d''<=d':=λu d' w' h=>by
  by_cases z:u=c
  ·subst z
   refine⟨_,_,dw,?_⟩
   unfold dF at hb;rw[h]at hb
   have:=of_decide_eq_true hb;omega
  ·exact⟨d',w',by rw[jn z];exact h,S2 _⟩
 obtain⟨s,hs,h1,h2,h3,h4,h5⟩:=K.walk a d w ha
 have hch:Ch L s (w++ [k]) c:=h1.snoc e
 have hcost:dM L (w++ [k])=d+m:=by rw[jW,h2,dM,dM,most,e];simp
 refine⟨λv d' w' h=> ?_,λs' hs'=> ?_⟩
 ·by_cases z:v=c
  ·subst z
   rw[dw]at h;cases h;refine⟨s,hs,hch,hcost,hn,?_,λp q u hpq hp=> ?_⟩
   ·rw[pE,pD e]
    exact LJ.mpr ⟨h4,by simp,λx hx y hy=>by simp at hy;subst hy;exact λz=>h3 (z▸hx)⟩
   ·by_cases hq:q= []
    ·subst hq
     rw[LW]at hpq;subst hpq
     have:u=v:=by
      clear low hb hn h5
      have aux:∀{ks:List Nat} {x y z:ν},Ch L x ks y->Ch L x ks z->y=z:=by
       intro ks
       induction ks with
       | nil=>intro x y z h1 h2;cases h1;cases h2;rfl
       | cons k r ih=>
        rintro x y z ⟨c1,m1,e1,r1⟩ ⟨c2,m2,e2,r2⟩
        rw[e1]at e2;cases e2;exact ih r1 r2
      exact aux hp hch
     subst this;exact⟨_,_,dw,by rw[hcost];exact S2 _⟩
    ·have hw:∃q',w=p++q':=by
      refine⟨q.dropLast,?_⟩
      have:=congrArg List.dropLast hpq;rw[List.dropLast_concat,List.dropLast_append_of_ne_nil hq]at this;exact this
     obtain⟨q',hw⟩:=hw;obtain⟨d1,w1,e1,l1⟩:=h5 p q' u hw hp;obtain⟨d2,w2,e2,l2⟩:=low u d1 w1 e1;exact⟨d2,w2,e2,by omega⟩
  ·rw[jn z]at h
   obtain⟨s',hs',g1,g2,g3,g4,g5⟩:=K.walk v d' w' h;refine⟨s',hs',g1,g2,g3,g4,λp q u hpq hp=> ?_⟩
   obtain⟨d1,w1,e1,l1⟩:=g5 p q u hpq hp;obtain⟨d2,w2,e2,l2⟩:=low u d1 w1 e1;exact⟨d2,w2,e2,by omega⟩
 ·obtain⟨d1,w1,e1,l1⟩:=K.start s' hs'
  obtain⟨d2,w2,e2,l2⟩:=low s' d1 w1 e1;exact⟨d2,w2,e2,by omega⟩
def Bar (L:cC ν)(q:List Nat):Prop:=q≠ []/\(∃a,Ch L a q a)/\dM L q<0/\(dJ L q).Nodup
theorem Ch.IY {L:cC ν}:∀{ks:List Nat} {a b:ν} (i:Nat),Ch L a ks b->dJ L (ks.drop i)=(dJ L ks).drop i
 | [],_,_,i,_=>by simp[dJ]
 | k::r,a,b,0,_=>rfl
 | k::r,a,b,i+1,h=>by
  have:=h;obtain⟨c,m,e,h'⟩:=this;rw[h.IL,QY,QY,h'.IY i]
theorem Kept.round {L:cC ν}{S:List ν}{b:bQ ν}(K:Kept L S b){k:Nat}{a c:ν}{m d:Int}{w:List Nat}(e:L[k]? =some (a,c,m))(ha:b a=some (d,w))(hb:dF b c (d+m)=true)(hn:c∈dJ L (w++ [k])) :
  Bar L ((w++ [k]).drop ((dJ L (w++ [k])).idxOf c)):=by
 obtain⟨s,hs,h1,h2,h3,h4,h5⟩:=K.walk a d w ha
 have hch:Ch L s (w++ [k]) c:=h1.snoc e
 have hcost:dM L (w++ [k])=d+m:=by rw[jW,h2,dM,dM,most,e];simp
 obtain⟨c1,c2,c3⟩:=hch.cut hn
 generalize hi:(dJ L (w++ [k])).idxOf c=i at c1 c2 c3
 refine⟨λz=> ?_,⟨c,c2⟩,?_,?_⟩
 ·have:=congrArg MZ z
  rw[Nu]at this
  simp at this c3
  omega
 ·have hsum:dM L ((w++ [k]).take i)+dM L ((w++ [k]).drop i)=d+m:=by rw[<-jW,Oj,hcost]
  have hiw:i<=w.length:=by simp at c3;omega
  have ht:(w++ [k]).take i=w.take i:=by rw[List.take_append_of_le_length hiw]
  rw[ht]at c1 hsum;obtain⟨d1,w1,e1,l1⟩:=h5 (w.take i) (w.drop i) c (Oj i w).symm c1;unfold dF at hb;rw[e1]at hb
  have:=of_decide_eq_true hb;simp only at this;omega
 ·rw[hch.IY,pE,pD e]
  refine(RQ _ _).nodup (LJ.mpr ⟨h4,by simp,λx hx y hy=> ?_⟩)
  rw[JX.mp hy];exact λz=>h3 (by have z:x=a:=z;rw[<-z];exact hx)
def size (L:cC ν):Nat:=(L.map λx=>x.2.2.natAbs).sum
theorem jc {f:Nat->Nat}:∀{ks rs:List Nat},ks.Nodup->(∀k∈ks,k∈rs)->(ks.map f).sum<=(rs.map f).sum
 | [],rs,_,_=>by simp
 | k::ks,rs,hn,hs=>by
  have hk:k∈rs:=hs k JO;rw[KG]at hn
  have hp:=List.perm_cons_erase hk
  have e:(rs.map f).sum=f k+((rs.erase k).map f).sum:=by
   have:=(hp.map f).sum_nat
   rwa [JP,LP]at this
  rw[e,JP,LP]
  have:=jc (f:=f) hn.2 (rs:=rs.erase k) λj hj=>by
   have h1:=hs j (JJ _ hj);exact(OA (λ(z:j=k)=>hn.1 (z▸hj))).mpr h1
  omega
theorem tY (L:cC ν):size L=((J2 L.length).map λk=>(most L k).natAbs).sum:=by
 unfold size
 congr 1
 apply SA
 ·simp
 ·intro i h1 h2
  simp only[Oq,List.getElem_range];unfold most;rw[JU (by simpa using h1)]
theorem vX (L:cC ν):∀(ks:List Nat),(dM L ks).natAbs<=(ks.map λk=>(most L k).natAbs).sum
 | [] =>by simp[dM]
 | k::r=>by
  have:=vX L r;rw[dM,JP,LP];omega
theorem Ch.nodup {L:cC ν}:∀{ks:List Nat} {a b:ν},Ch L a ks b->(dJ L ks).Nodup->ks.Nodup
 | [],_,_,_,_=>MP
 | k::r,a,b,h,hn=>by
  have h0:=h;rw[h.IL,KG]at hn;obtain⟨c,m,e,h⟩:=h;rw[KG];refine⟨λhk=>hn.1 ?_,h.nodup hn.2⟩
  unfold dJ src;exact NI.mpr ⟨k,hk,by rw[e];rfl⟩
theorem Ch.small {L:cC ν}{ks:List Nat}{a b:ν}(h:Ch L a ks b)(hn:(dJ L ks).Nodup):(dM L ks).natAbs<=size L:=by
 rw[tY];exact Kf (vX L ks) (jc (h.nodup hn) λk hk=>Kz.mpr (h.lt k hk))
def val (M:Nat)(b:bQ ν)(v:ν):Nat:=match b v with
 | none=>2*M+1
 | some x=>(x.1+M).toNat
def left (M:Nat)(b:bQ ν)(L:cC ν):Nat:=(L.map λx=>val M b x.2.1).sum
theorem vC {M:Nat}{b b':bQ ν}:∀{L:cC ν},(∀x∈L,val M b' x.2.1<=val M b x.2.1)->left M b' L<=left M b L
 | [],_=>by simp[left]
 | x::L,h=>by
  have h1:=h x JO
  have h2:=vC (L:=L) λy hy=>h y (JJ _ hy)
  unfold left at h2 ⊢;rw[JP,LP,JP,LP];omega
theorem vB {M:Nat}{b b':bQ ν}{x:ν×ν×Int}:∀{L:cC ν},x∈L->(∀x∈L,val M b' x.2.1<=val M b x.2.1)->val M b' x.2.1<val M b x.2.1->left M b' L<left M b L
 | [],hx,_,_=>by simp at hx
 | y::L,hx,h,hl=>by
  have h1:=h y JO
  have h2:=vC (L:=L) λy hy=>h y (JJ _ hy)
  unfold left at h2 ⊢;rw[JP,LP,JP,LP];rcases JT.mp hx with rfl | hx
  ·omega
  ·have h3:=vB (L:=L) hx (λy hy=>h y (JJ _ hy)) hl
   unfold left at h3;omega
theorem zK {L:cC ν}{S:List ν}{b:bQ ν}(K:Kept L S b){k:Nat}{a c:ν}{m d:Int}{w:List Nat}(e:L[k]? =some (a,c,m))(ha:b a=some (d,w))(hb:dF b c (d+m)=true)(hn:c∉dJ L (w++ [k])) :
  left (size L) (put b c (d+m,w++ [k])) L<left (size L) b L:=by
 have K':=K.put e ha hb hn;obtain⟨s,hs,h1,h2,h3,h4,h5⟩:=K'.walk c (d+m) (w++ [k]) dw
 have sm:=h1.small h4;rw[h2]at sm
 have lt:val (size L) (put b c (d+m,w++ [k])) c<val (size L) b c:=by
  unfold val dF at*;rw[dw]
  cases z:b c with
  | none=>simp only;omega
  | some y=>
   rw[z]at hb
   have hb:=of_decide_eq_true hb;simp only;omega
 refine vB (x:=(a,c,m)) (L3 e) (λy _=> ?_) lt
 by_cases z:y.2.1=c
 ·rw[z];exact LU lt
 ·unfold val;rw[jn z];exact JW _
def AO (b:bQ ν)(x:ν×ν×Int):Prop:=∀d w,b x.1=some (d,w)->∃d' w',b x.2.1=some (d',w')/\d'<=d+x.2.2
theorem yA {b:bQ ν}{x:ν×ν×Int}(h:∀d w,b x.1=some (d,w)->dF b x.2.1 (d+x.2.2)=false):AO b x:=λd w e=>by
 have:=h d w e;unfold dF at this
 cases z:b x.2.1 with
 | none=>rw[z]at this;cases this
 | some y=>
  rw[z]at this
  have:=of_decide_eq_false this;exact⟨y.1,y.2,rfl,by omega⟩
theorem gQ {L:cC ν}{S:List ν}:∀(r:cC ν) (k:Nat) (b:bQ ν) (mv:Bool),L.drop k=r->Kept L S b->match gI L k r b mv with
  | .inr q=>Bar L q
  | .inl (b',mv')=>Kept L S b'/\(mv'=false->mv=false/\b'=b/\∀x∈r,AO b x)/\left (size L) b' L<=left (size L) b L/\(mv'=true->mv=true\/left (size L) b' L<left (size L) b L)
 | [],k,b,mv,_,K=>⟨K,λh=>⟨h,rfl,λx hx=>by simp at hx⟩,JW _,λh=> .inl h⟩
 | x::r,k,b,mv,hr,K=>by
  have e:L[k]? =some x:=by
   have:=congrArg (·[0]?) hr
   simpa using this
  have hr':L.drop (k+1)=r:=by
   have:=congrArg (List.drop 1) hr
   simpa [List.drop_drop,R9]using this
  rw[gI];obtain⟨a,c,m⟩:=x;unfold gc
  cases z:b a with
  | none=>
   simp only[z]
   have ih:=gQ r (k+1) b mv hr' K
   revert ih
   generalize gI L (k+1) r b mv=R
   cases R with
   | inr q=>exact id
   | inl p=>
    obtain⟨b',mv'⟩:=p
    rintro ⟨i1,i2,i3,i4⟩
    refine⟨i1,λh=> ?_,i3,i4⟩
    obtain⟨j1,j2,j3⟩:=i2 h;refine⟨j1,j2,λx hx=> ?_⟩
    rcases JT.mp hx with rfl | hx
    ·intro d w q;rw[z]at q;cases q
    ·exact j3 x hx
  | some y=>
   obtain⟨d,w⟩:=y;simp only[z]
   by_cases hb:dF b c (d+m)=true
   ·rw[if_pos hb]
    by_cases hn:c∈dJ L (w++ [k])
    ·rw[if_pos hn]
     exact K.round e z hb hn
    ·rw[if_neg hn]
     have K':=K.put e z hb hn
     have lt:=zK K e z hb hn
     have ih:=gQ r (k+1) (put b c (d+m,w++ [k])) true hr' K'
     revert ih
     simp only
     generalize gI L (k+1) r (put b c (d+m,w++ [k])) true=R
     cases R with
     | inr q=>exact id
     | inl p=>
      obtain⟨b',mv'⟩:=p
      rintro ⟨i1,i2,i3,i4⟩
      refine⟨i1,λh=> ?_,by omega,λ_=> .inr (by omega)⟩
      obtain⟨j1,_⟩:=i2 h;cases j1
   ·rw[if_neg hb]
    have ih:=gQ r (k+1) b mv hr' K
    revert ih
    simp only
    generalize gI L (k+1) r b mv=R
    cases R with
    | inr q=>exact id
    | inl p=>
     obtain⟨b',mv'⟩:=p
     rintro ⟨i1,i2,i3,i4⟩
     refine⟨i1,λh=> ?_,i3,i4⟩
     obtain⟨j1,j2,j3⟩:=i2 h;refine⟨j1,j2,λx hx=> ?_⟩
     rcases JT.mp hx with rfl | hx
     ·refine yA λd' w' q=> ?_
      simp only at q;rw[z]at q;cases q
      simpa using hb
     ·exact j3 x hx
structure Settled (L:cC ν)(S:List ν)(b:bQ ν):Prop where
 walk:∀v d w,b v=some (d,w)->∃s∈S,Ch L s w v/\dM L w=d/\v∉dJ L w/\(dJ L w).Nodup
 least:∀s∈S,∀v t,Wk L s v t->∃d w,b v=some (d,w)/\d<=t
theorem tZ {L:cC ν}{S:List ν}{b:bQ ν}(K:Kept L S b)(h:∀x∈L,AO b x):Settled L S b where
 walk:=λv d w e=>by
  obtain⟨s,h1,h2,h3,h4,h5,_⟩:=K.walk v d w e;exact⟨s,h1,h2,h3,h4,h5⟩
 least:=by
  have go:∀{u v:ν} {t:Int},Wk L u v t->∀d w,b u=some (d,w)->∃d' w',b v=some (d',w')/\d'<=d+t:=by
   intro u v t hw
   induction hw with
   | nil a=>exact λd w e=>⟨d,w,e,by omega⟩
   | step e _ ih=>
    intro d w q;obtain⟨d1,w1,e1,l1⟩:=h _ e d w q;obtain⟨d2,w2,e2,l2⟩:=ih d1 w1 e1;exact⟨d2,w2,e2,by simp only at l1;omega⟩
  intro s hs v t hw;obtain⟨d,w,e,l⟩:=K.start s hs;obtain⟨d2,w2,e2,l2⟩:=go hw d w e;exact⟨d2,w2,e2,by omega⟩
theorem nM {L:cC ν}{S:List ν}:∀(n:Nat) (b:bQ ν),Kept L S b->left (size L) b L<n->∃r,settle L n b=some r/\match r with
  | .inr q=>Bar L q
  | .inl b'=>Settled L S b'
 | 0,b,K,h=>by omega
 | n+1,b,K,h=>by
  have s:=gQ (S:=S) L 0 b false rfl K;rw[settle]
  revert s
  generalize gI L 0 L b false=R
  cases R with
  | inr q=>exact λs=>⟨_,rfl,s⟩
  | inl p=>
   obtain⟨b',mv'⟩:=p
   rintro ⟨i1,i2,i3,i4⟩
   cases mv' with
   | false=>
    obtain⟨_,j2,j3⟩:=i2 rfl;subst j2
    exact⟨_,rfl,tZ i1 j3⟩
   | true=>
    rcases i4 rfl with z | z
    ·cases z
    ·exact nM n b' i1 (by omega)
def start (S:List ν):bQ ν:=λv=>if v∈S then some (0,[])else none
theorem mB (L:cC ν)(S:List ν):Kept L S (start S) where
 walk:=λv d w e=>by
  unfold start at e
  split at e
  ·rename_i h
   cases e;refine⟨v,h,rfl,rfl,by simp[dJ],by simp[dJ],λp q u hpq hp=> ?_⟩
   obtain⟨rfl,rfl⟩:=List.append_eq_nil_iff.mp hpq.symm;cases hp;exact⟨0,[],by unfold start;rw[if_pos h],by simp[dM]⟩
  ·cases e
 start:=λs hs=>⟨0,[],by unfold start;rw[if_pos hs],S2 _⟩
theorem zL (L:cC ν)(S:List ν):left (size L) (start S) L<=L.length*(2*size L+1):=by
 unfold left
 have:∀M:cC ν,(M.map λx=>val (size L) (start S) x.2.1).sum<=M.length*(2*size L+1):=by
  intro M
  induction M with
  | nil=>simp
  | cons x M ih=>
   rw[JP,LP,JR,Nat.succ_mul]
   have:val (size L) (start S) x.2.1<=2*size L+1:=by
    unfold val start;split
    ·exact JW _
    ·rename_i h
     split at h
     ·cases h;simp;omega
     ·cases h
   omega
 exact this L
theorem t9 (L:cC ν)(S:List ν){n:Nat}(h:L.length*(2*size L+1)<n):∃r,settle L n (start S)=some r/\match r with
  | .inr q=>Bar L q
  | .inl b'=>Settled L S b':=nM n (start S) (mB L S) (MX (zL L S) h)
theorem Bar.neg {L:cC ν}{q:List Nat}(h:Bar L q):¬ jZ L:=λn=>by
 obtain⟨_,⟨a,ha⟩,hc,_⟩:=h
 have:=n a _ ha.wk;omega
theorem Settled.holds {L:cC ν}{S:List ν}{b:bQ ν}(h:Settled L S b)(hS:∀x∈L,x.1∈S/\x.2.1∈S){t:ν->Int}(ht:∀v∈S,∃w,b v=some (t v,w)):Holds L t:=λa c m hx=>by
 obtain⟨ha,hc⟩:=hS _ hx;obtain⟨w,e⟩:=ht a ha;obtain⟨s,hs,h1,h2,_⟩:=h.walk a _ _ e;obtain⟨d,w',e',l⟩:=h.least s hs c _ (h1.wk.app (.one hx));obtain⟨w2,e2⟩:=ht c hc;rw[e2]at e';cases e';omega
abbrev uL (ν:Type):=ν->ν->Option Int
def HN (f:uL ν)(a b:ν)(x:Int):uL ν:=λu v=>if u=a/\v=b then some x else f u v
def HV (f:uL ν)(a b:ν)(x:Int):uL ν:=match f a b with
 | none=>HN f a b x
 | some y=>if x<y then HN f a b x else f
def HM (mid one other:ν)(f:uL ν):uL ν:=match f one mid,f mid other with
 | some x,some y=>HV f one other (x+y)
 | _,_=>f
def tab0 (P:List ν):uL ν:=λu v=>if u∈P/\u=v then some 0 else none
def tab1 (P:List ν)(L:cC ν):uL ν:=L.foldl (λf x=>HV f x.1 x.2.1 x.2.2) (tab0 P)
def CG (mid one:ν)(P:List ν)(f:uL ν):uL ν:=P.foldl (λf other=>HM mid one other f) f
def HP (mid:ν)(Q P:List ν)(f:uL ν):uL ν:=Q.foldl (λf one=>CG mid one P f) f
def HU (M P:List ν)(f:uL ν):uL ν:=M.foldl (λf mid=>HP mid P P f) f
def table (P:List ν)(L:cC ν):uL ν:=HU P P (tab1 P L)
end Gr
namespace G
open PySem Tr
def isI:T->Bool
 | .int _=>true
 | _=>false
theorem CL (t:T)(h:t.pl=true):gv [t] = .ok (.bl (isI t)):=by
 cases t <;> first | rfl | (simp[T.pl]at h;done)
def a8 (t:T)(a b:Int):Bool:=match t with
 | .int i=>decide (a<=i)&&decide (i<=b)
 | _=>false
theorem d9 (t:T)(a b:Int)(h:t.pl=true):aX [t,.int a,.int b] = .ok (.bl (a8 t a b)):=by
 refine Eq.trans (?_:_= .ok (.bl (isI t&&a8 t a b))) (by cases t <;> rfl)
 refine a6 rfl (bH (iP (aG (ts:=[t]) rfl (CL t h)) λq=> ?_))
 cases t with
 | int i=>
  show(match T.bl (decide (a<=i))with | .bl true=>Rs.ok (T.bl (decide (i<=b))) | .bl false=> .ok (.bl false) | _=> .bad)=Rs.ok (T.bl (decide (a<=i)&&decide (i<=b)))
  cases decide (a<=i) <;> rfl
 | _=>cases q
def dh (t:T)(a b:Nat):Bool:=match t with
 | .tup l=>decide (a<=l.length)&&decide (l.length<=b)
 | _=>false
theorem ju (t:T)(a b:Nat)(h:t.pl=true):aK [t,.int a,.int b] = .ok (.bl (dh t a b)):=by
 cases t with
 | tup l=>
  simp[aK,val,dt,oH,bh,aO,cU,o1,vr,CB,T.ty,vL,ch,cl,ae,aj,cH,T.items,sV,dh]
  cases decide (a<=l.length) <;> rfl
 | scr _=>simp[T.pl]at h
 | dct _ _=>simp[T.pl]at h
 | ob _ _ _=>simp[T.pl]at h
 | _=>rfl
def ng (x y:T):Bool:=a8 x 1 9&&(match x with
 | .int i=>a8 y i 9
 | _=>false)
theorem FY (x y:T)(hx:x.pl=true)(hy:y.pl=true):iO [x,y] = .ok (.bl (ng x y)):=
 a6 rfl (bH (iP (aG (ts:=[x,.int 1,.int 9]) rfl (d9 x 1 9 hx)) λq=>by
  cases x with
  | int i=>exact aG (ts:=[y,.int i,.int 9]) rfl (d9 y i 9 hy)
  | _=>cases q))
def kR:List Int->Bool
 | a::b::r=>decide (a<b)&&kR (b::r)
 | _=>true
theorem Bw (a b:Int)(r:List Int):kR (a::b::r)=(decide (a<b)&&kR (b::r)):=rfl
theorem qF {fe:En->Rs T}{p:T->Bool}{l:List T}{fi:En->Rs (List T)}{src:List (Option Nat)}{Z:En}(hi:fi Z= .ok l)(hs:l.length<=sizeLine)(hn:0<src.length)(hf:∀t∈l,fe ((b5 src Z).set 0 (.va t))= .ok (.bl (p t))) :
  cl nC (ae (dU fi src (gN 0) bT fe) aj) Z= .ok (.bl (l.all p)):=by
 have e:=ur (fe:=fe) (h:=λt=>T.bl (p t)) l (b5 src Z) (by unfold b5;rw[JQ];exact hn) hf
 simp only[cl,ae,aj,dU,hi,aB,if_pos hs,e,all_map]
def kr (l:List T):T->Bool
 | .int k=>match L2.atI l k,L2.atI l (k+1)with
  | some (.int a),some (.int b)=>decide (a<b)
  | _,_=>false
 | _=>false
theorem iA {t:T}{j:Int}(h:t∈rng 0 j):∃k:Nat,t= .int k/\(k:Int)<j:=by
 unfold rng at h;obtain⟨k,hk,e⟩:=J5.mp h;rw[Kz]at hk;exact⟨k,by rw[<-e];simp,by omega⟩
theorem D9:(l:List Int)->l.length<=4->(rng 0 ((l.length:Int) - 1)).all (kr (l.map .int))=kR l
 | [],_=>rfl
 | [a],_=>rfl
 | [a,b],_=>by simp[rng,M8,kr,L2.atI,L2.ixN,kR]
 | [a,b,c],_=>by simp[rng,M8,kr,L2.atI,L2.ixN,kR]
 | [a,b,c,d],_=>by simp[rng,M8,kr,L2.atI,L2.ixN,kR,Bool.and_assoc]
 | a::b::c::d::e::r,h=>absurd h (by simp only[JR];omega)
theorem CM (l:List Int)(h:l.length<=4):iN [.tup (l.map .int)] = .ok (.bl (kR l)):=by
 have hr:iR (ae (o2 jG (cl cH (ae (vr 0) aj)) (cn (.int 1))) aj) [.va (.tup (l.map .int))] = .ok (rng 0 ((l.length:Int) - 1)):=by
  have:A0 ((l.length:Int) - 1)=true:=by unfold A0;rw[JM];exact⟨decide_eq_true (by omega),decide_eq_true (by omega)⟩
  simp[iR,ae,aj,o2,cl,vr,cn,cH,T.items,jG,this]
 have hs:(rng 0 ((l.length:Int) - 1)).length<=sizeLine:=by
  unfold rng sizeLine;rw[JQ,KR];omega
 have e:=qF (fe:=o2 Cp (o2 aS (vr 1) (vr 0)) (o2 aS (vr 1) (o2 aY (vr 0) (cn (.int 1))))) (p:=kr (l.map .int)) (src:=[none,some 0]) hr hs (by decide) (λt ht=>by
  obtain⟨k,rfl,hk⟩:=iA ht
  have h1:(l.map T.int)[k]? =some (.int (l[k]'(by omega))):=by simp
  have h2:(l.map T.int)[k+1]? =some (.int (l[k+1]'(by omega))):=by rw[Kk,JU (by omega)];rfl
  have g1:=jx h1
  have g2:L2.atI (l.map T.int) ((k:Int)+1)=some (.int (l[k+1]'(by omega))):=jx h2
  simp[o2,vr,b5,cn,aY,aS,T.items,g1,g2,sV,kr])
 rw[D9 l h]at e;simp only[iN,val,Lb,if_true,wm,dt,aO,bh]
 show(do let f <-(do let t <-cl nC _ [.va (.tup (l.map .int))];Rs.ok (Fl.rt t));_)=_
 rw[e]
 rfl
def nums:List T->Option (List Int)
 | [] =>some []
 | .int i::l=>match nums l with
  | some m=>some (i::m)
  | none=>none
 | _::_=>none
def b9 (t:T):Bool:=dh t 1 4&&(match t with
 | .tup l=>l.all (λu=>a8 u 0 99)&&(match nums l with | some m=>kR m | none=>false)
 | _=>false)
theorem l8:∀{l:List T} {m:List Int},nums l=some m->l=m.map .int
 | [],m,h=>by cases h;rfl
 | t::l,m,h=>by
  cases t with
  | int i=>
   unfold nums at h
   cases q:nums l with
   | none=>rw[q]at h;cases h
   | some m'=>rw[q]at h;cases h;rw[JP,<-l8 q]
  | _=>cases h
theorem pT:∀{l:List T} {a b:Int},(l.all λu=>a8 u a b)=true->∃m,nums l=some m
 | [],_,_,_=>⟨[],rfl⟩
 | t::l,a,b,h=>by
  rw[Rg,JM]at h
  cases t with
  | int i=>
   obtain⟨m,e⟩:=pT h.2
   exact⟨i::m,by unfold nums;rw[e]⟩
  | _=>exact absurd h.1 (by simp[a8])
theorem cN {t:T}{a b:Nat}(h:dh t a b=true):∃l,t= .tup l/\a<=l.length/\l.length<=b:=by
 cases t with
 | tup l=>unfold dh at h;rw[JM]at h;exact⟨l,rfl,of_decide_eq_true h.1,of_decide_eq_true h.2⟩
 | _=>cases h
theorem small {n k:Nat}(h:n<=k)(hk:autoParam (k<=1000) s_):n<=sizeLine:=by unfold sizeLine;omega
theorem uC (t:T)(h:t.pl=true):bA [t] = .ok (.bl (b9 t)):=by
 have w:aK [t,.int 1,.int 4] = .ok (.bl (dh t 1 4)):=ju t 1 4 h;unfold b9
 cases q:dh t 1 4 with
 | false=>rw[q]at w;simp[bA,val,dt,dI,bh,ay,eO,eF,tb,sN,aO,cl,vr,cn,ae,aj,w]
 | true=>
  rw[q]at w;obtain⟨l,rfl,h1,h2⟩:=cN q
  have hp:∀u∈l,u.pl=true:=λu hu=>gp (by unfold T.pl at h;exact h) hu
  have e:=qF (fe:=cl aX (ae (vr 0) (ae (cn (.int 0)) (ae (cn (.int 99)) aj)))) (p:=λu=>a8 u 0 99) (src:=[none]) (fi:=iS (vr 0)) (Z:=[.va (.tup l)]) rfl (small h2) (by decide) (λu hu=>by
   simp[cl,ae,aj,vr,cn,b5,d9 u 0 99 (hp u hu)])
  have w':cl aK (ae (vr 0) (ae (cn (.int 1)) (ae (cn (.int 4)) aj))) [.va (.tup l)] = .ok (.bl true):=w
  show bA _= .ok (.bl (true&&(l.all (λu=>a8 u 0 99)&&(match nums l with | some m=>kR m | none=>false))))
  cases qa:l.all λu=>a8 u 0 99 with
  | false=>
   rw[qa]at e
   simp[bA,val,dt,dI,bh,ay,eO,eF,tb,sN,aO,cU,e,w']
  | true=>
   rw[qa]at e;obtain⟨m,em⟩:=pT qa
   have el:=l8 em
   have er:=CM m (by rw[el,JQ]at h2;exact h2)
   rw[<-el]at er
   have er':cl iN (ae (vr 0) aj) [.va (.tup l)] = .ok (.bl (kR m)):=er;simp[bA,val,dt,dI,bh,ay,eO,eF,tb,sN,aO,cU,e,w',er',em]
def at_ (t:T)(k:Nat):T:=match t.items with
 | some l=>l.getD k .non
 | none=> .non
def bu (t:T):Bool:=dh t 3 3&&(match t with
 | .tup [x,y,r] =>ng x y&&b9 r
 | _=>false)
theorem CQ (t:T)(h:t.pl=true):cK [t] = .ok (.bl (bu t)):=by
 have w:aK [t,.int 3,.int 3] = .ok (.bl (dh t 3 3)):=ju t 3 3 h;unfold bu
 cases q:dh t 3 3 with
 | false=>rw[q]at w;simp[cK,val,dt,gE,bh,aO,cU,cl,vr,cn,ae,aj,w]
 | true=>
  rw[q]at w;obtain⟨l,rfl,h1,h2⟩:=cN q
  match l,h1,h2 with
  | [x,y,r],_,_=>
   simp[T.pl,plS]at h;obtain⟨px,py,pr⟩:=h
   have g0:aS (.tup [x,y,r]) (.int 0)= .ok x:=rfl
   have g1:aS (.tup [x,y,r]) (.int 1)= .ok y:=rfl
   have g2:aS (.tup [x,y,r]) (.int 2)= .ok r:=rfl
   have ep:=FY x y px py
   have er:=uC r pr
   cases qp:ng x y with
   | false=>rw[qp]at ep;simp[cK,val,dt,gE,bh,aO,cU,cl,vr,cn,ae,aj,o2,w,g0,g1,ep,qp]
   | true=>rw[qp]at ep;simp[cK,val,dt,gE,bh,aO,cU,cl,vr,cn,ae,aj,o2,w,g0,g1,g2,ep,er,qp]
def aR (t:T):Bool:=dh t 1 4&&(match t with
 | .tup l=>l.all bu
 | _=>false)
theorem An (t:T)(h:t.pl=true):cQ [t] = .ok (.bl (aR t)):=by
 have w:aK [t,.int 1,.int 4] = .ok (.bl (dh t 1 4)):=ju t 1 4 h;unfold aR
 cases q:dh t 1 4 with
 | false=>rw[q]at w;simp[cQ,val,dt,gF,bh,aO,cU,cl,vr,cn,ae,aj,w]
 | true=>
  rw[q]at w;obtain⟨l,rfl,h1,h2⟩:=cN q
  have hp:∀u∈l,u.pl=true:=λu hu=>gp (by unfold T.pl at h;exact h) hu
  have e:=qF (fe:=cl cK (ae (vr 0) aj)) (p:=bu) (src:=[none]) (fi:=iS (vr 0)) (Z:=[.va (.tup l)]) rfl (small h2) (by decide) (λu hu=>by
   simp[cl,ae,aj,vr,cn,b5,CQ u (hp u hu)])
  have w':cl aK (ae (vr 0) (ae (cn (.int 1)) (ae (cn (.int 4)) aj))) [.va (.tup l)] = .ok (.bl true):=w;simp[cQ,val,dt,gF,bh,aO,cU,e,w']
def dW (x y:T):Bool:=a8 x 0 999&&(match x,y with
 | _,.non=>true
 | .int i,_=>a8 y i 999
 | _,_=>false)
theorem CP (x y:T)(hx:x.pl=true)(hy:y.pl=true):gx [x,y] = .ok (.bl (dW x y)):=
 a6 rfl (bH (iP (aG (ts:=[x,.int 0,.int 999]) rfl (d9 x 0 999 hx)) λq=>by
  cases x with
  | int i=>
   refine Eq.trans (FC (p:=y.isN) (q:=a8 y i 999) (aD (t:=y) (u:=.non) rfl rfl rfl) λ_=>aG (ts:=[y,.int i,.int 999]) rfl (d9 y i 999 hy)) ?_
   cases y <;> rfl
  | _=>cases q))
def reads (cs:List T)(c:Int):Nat:=if 0<=c then(match cs[c.toNat]? with
 | some (.tup [_,_,.tup r])=>r.length
 | _=>0)else 0
def ai (cs:List T)(t:T):Bool:=match t with
 | .tup [.int c,.int k] =>decide (0<=c)&&decide (c<cs.length)&&(decide (0<=k)&&decide (k<reads cs c))
 | _=>false
theorem kN {t:T}(h:bu t=true):∃x y r,t= .tup [x,y,.tup r]:=by
 unfold bu at h;rw[JM]at h;obtain⟨h1,h2⟩:=h;obtain⟨l,rfl,h3,h4⟩:=cN h1
 match l,h3,h4,h2 with
 | [x,y,r],_,_,h2=>
  simp only[JM]at h2;obtain⟨_,h5⟩:=h2;unfold b9 at h5;rw[JM]at h5;obtain⟨m,rfl,_⟩:=cN h5.1;exact⟨x,y,m,rfl⟩
theorem cJ {t:T}{a b:Int}(h:a8 t a b=true):∃i,t= .int i/\a<=i/\i<=b:=by
 cases t with
 | int i=>unfold a8 at h;rw[JM]at h;exact⟨i,rfl,of_decide_eq_true h.1,of_decide_eq_true h.2⟩
 | _=>cases h
theorem qo (cs:List T)(t:T)(hc:aR (.tup cs)=true)(h:t.pl=true):dg [.tup cs,t] = .ok (.bl (ai cs t)):=by
 have w:aK [t,.int 2,.int 2] = .ok (.bl (dh t 2 2)):=ju t 2 2 h
 cases q:dh t 2 2 with
 | false=>
  rw[q]at w
  have:ai cs t=false:=by
   unfold ai;split
   ·cases q
   ·rfl
  rw[this]
  exact a6 rfl (fy ((d8 (vJ (eR (k:=false) (bj (aG (ts:=[t,.int 2,.int 2]) rfl w))))).trans rfl))
 | true=>
  rw[q]at w;obtain⟨l,rfl,h1,h2⟩:=cN q
  match l,h1,h2 with
  | [x,y],_,_=>
   simp[T.pl,plS]at h;obtain⟨px,py⟩:=h
   have g0:aS (.tup [x,y]) (.int 0)= .ok x:=rfl
   have g1:aS (.tup [x,y]) (.int 1)= .ok y:=rfl
   have gl:cH [.tup cs] = .ok (.int cs.length):=rfl
   have e1:=d9 x 0 ((cs.length:Int) - 1) px
   cases q1:a8 x 0 ((cs.length:Int) - 1)with
   | false=>
    rw[q1]at e1
    have:ai cs (.tup [x,y])=false:=by
     cases x with
     | int c=>
      cases y with
      | int k=>
       simp only[a8,Qq,decide_eq_false_iff_not]at q1;simp only[ai,Qq,decide_eq_false_iff_not]
       omega
      | _=>rfl
     | _=>rfl
    rw[this]
    exact a6 rfl (fy ((d8 (kK (eR (k:=true) (bj (aG (ts:=[.tup [x,y],.int 2,.int 2]) rfl w))) (eR (k:=false) (bj (aG (ts:=[x,.int 0,.int ((cs.length:Int) - 1)]) rfl e1))))).trans rfl))
   | true=>
    rw[q1]at e1;obtain⟨c,rfl,c1,c2⟩:=cJ q1;obtain⟨n,rfl⟩:=Ks c1
    have hn:n<cs.length:=by omega
    have hcl:bu cs[n] =true:=by
     unfold aR at hc;rw[JM]at hc;exact Ka.mp hc.2 _ (K1 hn)
    obtain⟨a,b,r,er⟩:=kN hcl
    have g2:aS (.tup cs) (.int (n:Int))= .ok (.tup [a,b,.tup r]):=by
     simp only[aS,T.items];rw[jx (JU hn),er]
    have g3:aS (.tup [a,b,.tup r]) (.int 2)= .ok (.tup r):=rfl
    have gr:cH [.tup r] = .ok (.int r.length):=rfl
    have e2:=d9 y 0 ((r.length:Int) - 1) py
    have:ai cs (.tup [.int n,y])=a8 y 0 ((r.length:Int) - 1):=by
     have er2:reads cs (n:Int)=r.length:=by
      unfold reads;rw[if_pos c1,Lf,JU hn,er]
     cases y with
     | int k=>
      simp only[ai,a8,er2];rw[decide_eq_true c1,decide_eq_true (show(n:Int)<cs.length by omega)]
      simp only[LN]
      congr 1
      exact decide_eq_decide.mpr (by omega)
     | _=>rfl
    rw[this];exact a6 rfl ((aw ((b6 (kK (eR (k:=true) (bj (aG (ts:=[.tup [.int n,y],.int 2,.int 2]) rfl w))) (eR (k:=true) (bj (aG (ts:=[.int n,.int 0,.int ((cs.length:Int) - 1)]) rfl e1))))).trans rfl)).trans (bH (aG (ts:=[y,.int 0,.int ((r.length:Int) - 1)]) (ax rfl (ax rfl (ax (aD (t:=.int (r.length:Nat)) (u:=.int 1) (aG (ts:=[.tup r]) (ax (aD (t:=.tup [a,b,.tup r]) (u:=.int 2) (aD (t:=.tup cs) (u:=.int n) rfl rfl g2) rfl g3) rfl) rfl) rfl rfl) rfl))) e2)))
def bB (cs:List T)(t:T):Bool:=match t with
 | .tup [a,b,x,y] =>dW x y&&(ai cs a&&(ai cs b&& !aM a b))
 | _=>false
theorem aI {cs:List T}{t:T}(h:ai cs t=true):∃c k:Int,t= .tup [.int c,.int k]:=by
 unfold ai at h
 split at h
 ·exact⟨_,_,rfl⟩
 ·cases h
theorem Ai (cs:List T)(t:T)(hc:aR (.tup cs)=true)(h:t.pl=true):dZ [.tup cs,t] = .ok (.bl (bB cs t)):=by
 have w:aK [t,.int 4,.int 4] = .ok (.bl (dh t 4 4)):=ju t 4 4 h
 cases q:dh t 4 4 with
 | false=>
  rw[q]at w
  have:bB cs t=false:=by
   unfold bB;split
   ·cases q
   ·rfl
  rw[this]
  exact a6 rfl (fy ((d8 (vJ (eR (k:=false) (bj (aG (ts:=[t,.int 4,.int 4]) rfl w))))).trans rfl))
 | true=>
  rw[q]at w;obtain⟨l,rfl,h1,h2⟩:=cN q
  match l,h1,h2 with
  | [a,b,x,y],_,_=>
   simp[T.pl,plS]at h;obtain⟨pa,pb,px,py⟩:=h
   have e1:=CP x y px py
   have w':=eR (k:=true) (bj (aG (g:=aK) (ts:=[.tup [a,b,x,y],.int 4,.int 4]) (fs:=ae (vr 1) (ae (cn (.int 4)) (ae (cn (.int 4)) aj))) (Z:=[.va (.tup cs),.va (.tup [a,b,x,y])]) rfl w))
   show _=Rs.ok (T.bl (dW x y&&(ai cs a&&(ai cs b&& !aM a b))))
   cases q1:dW x y with
   | false=>
    rw[q1]at e1
    exact a6 rfl (fy ((d8 (kK w' (eR (k:=false) (bj (aG (ts:=[x,y]) rfl e1))))).trans rfl))
   | true=>
    rw[q1]at e1;rw[LN];refine a6 rfl ((aw ((b6 (kK w' (eR (k:=true) (bj (aG (ts:=[x,y]) rfl e1))))).trans rfl)).trans (bH (iP (aG (ts:=[.tup cs,a]) rfl (qo cs a hc pa)) λq2=>iP (aG (ts:=[.tup cs,b]) rfl (qo cs b hc pb)) λ_=>aD (t:=a) (u:=b) rfl rfl ?_)))
    obtain⟨c,k,rfl⟩:=aI q2;unfold kX;rw[if_pos (gg (by simp[T.dep,deps]) rfl (T.Gc _ pb))]
def iQ (cs:List T)(t:T):Bool:=dh t 0 8&&(match t with
 | .tup l=>l.all (bB cs)
 | _=>false)
theorem xy (cs:List T)(t:T)(hc:aR (.tup cs)=true)(h:t.pl=true):cE [.tup cs,t] = .ok (.bl (iQ cs t)):=by
 have w:aK [t,.int 0,.int 8] = .ok (.bl (dh t 0 8)):=ju t 0 8 h;unfold iQ
 cases q:dh t 0 8 with
 | false=>rw[q]at w;simp[cE,val,dt,fU,bh,aO,cU,cl,vr,cn,ae,aj,w]
 | true=>
  rw[q]at w;obtain⟨l,rfl,h1,h2⟩:=cN q
  have hp:∀u∈l,u.pl=true:=λu hu=>gp (by unfold T.pl at h;exact h) hu
  have e:=qF (fe:=cl dZ (ae (vr 1) (ae (vr 0) aj))) (p:=bB cs) (src:=[none,some 0]) (fi:=iS (vr 1)) (Z:=[.va (.tup cs),.va (.tup l)]) rfl (small h2) (by decide) (λu hu=>by
   simp[cl,ae,aj,vr,cn,b5,Ai cs u hc (hp u hu)])
  have w':cl aK (ae (vr 1) (ae (cn (.int 0)) (ae (cn (.int 8)) aj))) [.va (.tup cs),.va (.tup l)] = .ok (.bl true):=w;simp[cE,val,dt,fU,bh,aO,cU,e,w']
def dE (t:T):Bool:=match t with
 | .tup [.tup cs,ls] =>aR (.tup cs)&&iQ cs ls
 | _=>false
theorem sO (t:T)(h:t.pl=true):fL [t] = .ok (.bl (dE t)):=by
 have w:aK [t,.int 2,.int 2] = .ok (.bl (dh t 2 2)):=ju t 2 2 h
 cases q:dh t 2 2 with
 | false=>
  rw[q]at w
  have:dE t=false:=by
   unfold dE;split
   ·cases q
   ·rfl
  rw[this]
  exact a6 rfl (bH (qc (aG (ts:=[t,.int 2,.int 2]) rfl w)))
 | true=>
  rw[q]at w;obtain⟨l,rfl,h1,h2⟩:=cN q
  match l,h1,h2 with
  | [x,y],_,_=>
   simp[T.pl,plS]at h;obtain⟨px,py⟩:=h
   have g0:aS (.tup [x,y]) (.int 0)= .ok x:=rfl
   have g1:aS (.tup [x,y]) (.int 1)= .ok y:=rfl
   have e1:=An x px
   cases q1:aR x with
   | false=>
    rw[q1]at e1
    have:dE (.tup [x,y])=false:=by
     cases x with
     | tup cs=>show(aR (.tup cs)&&_)=false;rw[q1];rfl
     | _=>rfl
    rw[this]
    exact a6 rfl (bH ((qd (aG (ts:=[.tup [x,y],.int 2,.int 2]) rfl w)).trans (qc (aG (ts:=[x]) rfl e1))))
   | true=>
    rw[q1]at e1
    cases x with
    | tup cs=>
     have e2:=xy cs y q1 py
     have:dE (.tup [.tup cs,y])=iQ cs y:=by show(aR (.tup cs)&&_)=_;rw[q1];rfl
     rw[this]
     exact a6 rfl (bH ((qd (aG (ts:=[.tup [.tup cs,y],.int 2,.int 2]) rfl w)).trans ((qd (aG (ts:=[.tup cs]) rfl e1)).trans (aG (ts:=[.tup cs,y]) rfl e2))))
    | _=>cases q1
theorem ff:∀m:List Int,deps (m.map .int)=0
 | [] =>rfl
 | a::m=>by rw[JP,deps,ff m];rfl
def ik (i n:Nat):List T:=(rng 0 n).map λt=>T.tup [.int i,t]
def xS:T->Nat
 | .tup [_,_,.tup r] =>r.length
 | _=>0
def bJ:Nat->List T->List T
 | _,[] => []
 | i,c::r=>ik i (xS c)++bJ (i+1) r
theorem fO {t:T}(h:bu t=true):∃x y r,t= .tup [x,y,.tup r]/\1<=r.length/\r.length<=4:=by
 obtain⟨x,y,r,rfl⟩:=kN h
 have:b9 (.tup r)=true:=by
  have h':(ng x y&&b9 (.tup r))=true:=h;rw[JM]at h';exact h'.2
 unfold b9 at this;rw[JM]at this;obtain⟨l,e,h1,h2⟩:=cN this.1;cases e;exact⟨x,y,r,rfl,h1,h2⟩
theorem ij (i n:Nat):(ik i n).length=n:=by unfold ik;rw[JQ,iB]
abbrev evF:En->Rs Fl:=cw (o2 aY (vr 1) (dU (iR (ae (cl cH (ae (o2 aS (vr 3) (cn (.int 2))) aj)) aj)) [none,some 2] (gN 0) bT (br (ae (vr 1) (ae (vr 0) aj))))) (gN 1)
abbrev evG:T->En->Rs En:=gT 2 (jy (gN 2) (jy (gN 3) sv))
theorem FO {f:En->Rs (List T)}{Z:En}{j:Int}(h:f Z= .ok [.int j])(h0:0<=j)(h1:j<=100000):iR f Z= .ok (rng 0 j):=by
 have e:A0 j=true:=by unfold A0;rw[JM];exact⟨decide_eq_true (by omega),decide_eq_true (by omega)⟩
 unfold iR;rw[h]
 show(if A0 j=true then _ else _)=_
 rw[e];rfl
theorem we (l m:List T)(h:(l++m).length<=1000):aY (.lst l) (.lst m)= .ok (.lst (l++m)):=by
 show jf (l++m)=_
 unfold jf;rw[if_pos (aF h)]
theorem wc (l m:List T)(h:(l++m).length<=1000):aY (.tup l) (.tup m)= .ok (.tup (l++m)):=by
 show hV (l++m)=_
 unfold hV;rw[if_pos (aF h)]
theorem HW (c0 acc x y:T)(r:List T)(i:Nat)(h:r.length<=4) :
  dU (iR (ae (cl cH (ae (o2 aS (vr 3) (cn (.int 2))) aj)) aj)) [none,some 2] (gN 0) bT (br (ae (vr 1) (ae (vr 0) aj))) [.va c0,.va acc,.va (.int i),.va (.tup [x,y,.tup r])] = .ok (.lst (ik i r.length)):=
 qb (FO (j:=(r.length:Int)) rfl (by omega) (by omega)) (aF (k:=4) (by rw[iB];exact h)) (by simp) λt _=>mk2 _ _
theorem CI (c0 x y:T)(acc r:List T)(i:Nat)(h:r.length<=4)(ha:acc.length<=100):evF [.va c0,.va (.lst acc),.va (.int i),.va (.tup [x,y,.tup r])] = .ok (.nx [.va c0,.va (.lst (acc++ik i r.length)),.va (.int i),.va (.tup [x,y,.tup r])]):=
 bZ (aD (t:=.lst acc) rfl (HW c0 (.lst acc) x y r i h) (we _ _ (by rw[JZ,ij];omega))) rfl
theorem vQ:∀(cs:List T) (c0:T) (acc:List T) (i:Nat) (s2 s3:Sl),(∀c∈cs,bu c=true)->acc.length+4*cs.length<=100 →
  ∃y2 y3,a9 evG evF (cA i cs) [.va c0,.va (.lst acc),s2,s3] = .ok (.nx [.va c0,.va (.lst (acc++bJ i cs)),y2,y3])
 | [],c0,acc,i,s2,s3,_,_=>⟨s2,s3,by simp[cA,a9,bJ]⟩
 | c::cs,c0,acc,i,s2,s3,hc,hl=>by
  obtain⟨x,y,r,rfl,r1,r2⟩:=fO (hc c JO);rw[JR]at hl;obtain⟨z2,z3,ih⟩:=vQ cs c0 (acc++ik i r.length) (i+1) (.va (.int i)) (.va (.tup [x,y,.tup r])) (λc h=>hc c (JJ _ h)) (by rw[JZ,ij];omega)
  refine⟨z2,z3,?_⟩
  rw[cA,dD (Z1:=[.va c0,.va (.lst acc),.va (.int i),.va (.tup [x,y,.tup r])]) rfl (CI c0 x y acc r i r2 (by omega)),ih,bJ,KD]
  rfl
theorem bF {cs:List T}(hc:aR (.tup cs)=true):(∀c∈cs,bu c=true)/\1<=cs.length/\cs.length<=4:=by
 unfold aR at hc;rw[JM]at hc;obtain⟨l,e,h1,h2⟩:=cN hc.1;cases e;exact⟨λc h=>Ka.mp hc.2 c h,h1,h2⟩
theorem Al (cs:List T)(hc:aR (.tup cs)=true):cX [.tup cs] = .ok (.lst (bJ 0 cs)):=by
 obtain⟨ha,h1,h2⟩:=bF hc;obtain⟨y2,y3,e⟩:=vQ cs (.tup cs) [] 0 .em .em ha (by simp;omega)
 rw[MA]at e;refine a6 rfl ?_
 unfold jj;rw[aw (Z':=[.va (.tup cs),.va (.lst []),.em,.em]) rfl,aw ((eU (ts:=cA 0 cs) rfl e))]
 rfl
theorem vz {n k:Nat}(h:k<n):T.int (k:Int)∈rng 0 (n:Int):=by
 unfold rng;exact J5.mpr ⟨k,Kz.mpr (by omega),by simp⟩
theorem AJ (i n c k:Nat):(ik i n).any (λy=>aM y (.tup [.int c,.int k]))=decide (i=c/\k<n):=by
 rw[NM,Nv,decide_eq_true_iff];unfold ik
 constructor
 ·rintro ⟨y,hy,e⟩
  obtain⟨t,ht,rfl⟩:=J5.mp hy;obtain⟨j,rfl,hj⟩:=iA ht;simp[aM,beqTs]at e;omega
 ·rintro ⟨rfl,h⟩
  exact⟨_,J5.mpr ⟨.int k,vz h,rfl⟩,by simp[aM,beqTs]⟩
theorem wb:∀(cs:List T) (i c k:Nat),(bJ i cs).any (λy=>aM y (.tup [.int c,.int k]))=decide (i<=c/\c<i+cs.length/\k<xS (cs.getD (c - i) .non))
 | [],i,c,k=>by
  rw[bJ,List.any_nil,eq_comm,decide_eq_false_iff_not]
  simp;omega
 | x::cs,i,c,k=>by
  rw[bJ,List.any_append,AJ,wb cs (i+1) c k,<-Bool.decide_or,decide_eq_decide,JR]
  constructor
  ·rintro (⟨rfl,h⟩ | ⟨h1,h2,h3⟩)
   ·refine⟨JW _,by omega,?_⟩
    rw[Og];exact h
   ·refine⟨by omega,by omega,?_⟩
    have:c - i=(c - (i+1))+1:=by omega
    rw[this];exact h3
  ·rintro ⟨h1,h2,h3⟩
   rcases Pg h1 with rfl | h
   ·rw[Og]at h3
    exact .inl ⟨rfl,h3⟩
   ·refine .inr ⟨h,by omega,?_⟩
    have:c - i=(c - (i+1))+1:=by omega
    rw[this]at h3;exact h3
theorem j7 (cs:List T)(c:Nat):reads cs (c:Int)=xS (cs.getD c .non):=by
 unfold reads;rw[if_pos (by omega),Lf,LC]
 cases cs[c]? with
 | none=>rfl
 | some t=>
  cases t with
  | tup l=>
   match l with
   | [] =>rfl
   | [_] =>rfl
   | [_,_] =>rfl
   | [_,_,z] =>cases z <;> rfl
   | _::_::z::_::_=>cases z <;> rfl
  | _=>rfl
theorem r0 {g:T->En->Rs En}{F:En->Rs Fl}{p:T->Bool}(J:En->Prop):∀(ts:List T),(∀t∈ts,∀Z,J Z->∃Z1,g t Z= .ok Z1/\(p t=true->∃Z2,F Z1= .ok (.nx Z2)/\J Z2)/\(p t=false->F Z1= .ok (.rt (.bl false)))) →
  ∀Z,J Z->(ts.all p=true->∃Z',a9 g F ts Z= .ok (.nx Z')/\J Z')/\(ts.all p=false->a9 g F ts Z= .ok (.rt (.bl false)))
 | [],_,Z,hj=>⟨λ_=>⟨Z,rfl,hj⟩,λh=>(by cases h)⟩
 | t::ts,hs,Z,hj=>by
  obtain⟨Z1,h1,h2,h3⟩:=hs t JO Z hj;rw[Rg]
  cases q:p t with
  | false=>exact⟨λh=>(by cases h),λ_=>p9 h1 (h3 q)⟩
  | true=>
   obtain⟨Z2,e2,j2⟩:=h2 q;rw[dD h1 e2,LN];exact r0 J ts (λt ht=>hs t (JJ _ ht)) Z2 j2
mutual
def sm (n:Nat):T->Bool
 | .dct _ _=>false
 | .ob _ _ _=>false
 | .scr _=>false
 | .tup l=>decide (l.length<=n)&&sms n l
 | .lst l=>decide (l.length<=n)&&sms n l
 | _=>true
def sms (n:Nat):List T->Bool
 | [] =>true
 | t::l=>sm n t&&sms n l
end
mutual
theorem Dm {n:Nat}:∀(t:T),sm n t=true->t.pl=true
 | .scr _,h=>by simp[sm]at h
 | .dct _ _,h=>by simp[sm]at h
 | .ob _ _ _,h=>by simp[sm]at h
 | .tup l,h=>by rw[sm,JM]at h;rw[T.pl];exact sms_pl l h.2
 | .lst l,h=>by rw[sm,JM]at h;rw[T.pl];exact sms_pl l h.2
 | .non,_=>by simp[T.pl]
 | .bl _,_=>by simp[T.pl]
 | .int _,_=>by simp[T.pl]
 | .str _,_=>by simp[T.pl]
theorem sms_pl {n:Nat}:∀(l:List T),sms n l=true->plS l=true
 | [],_=>by simp[plS]
 | t::l,h=>by rw[sms,JM]at h;rw[plS,Dm t h.1,sms_pl l h.2];rfl
end
theorem u4 {n:Nat}:∀{l:List T},sms n l=true↔ ∀t∈l,sm n t=true
 | [] =>by simp[sms]
 | t::l=>by rw[sms,JM,u4 (l:=l)];simp
theorem sm_tup {n:Nat}{l:List T}:sm n (.tup l)=true↔l.length<=n/\∀t∈l,sm n t=true:=by rw[sm,JM,u4,decide_eq_true_iff]
theorem jr {i j:Int}(h:0<j):jN (.int i) (.int j)= .ok (.int (i % j)):=by show(if _ then _ else _)=_;rw[if_pos h]
theorem lx {i j:Int}(h:0<j)(h2:j<1073741824):jR (.int i) (.int j)= .ok (.int (i / j)):=by show(if _ then _ else _)=_;rw[if_pos ⟨h,h2⟩]
theorem md {i j:Int}(h : -18446744073709551616<i)(h2:i<18446744073709551616):ck (.int i) (.int j)= .ok (.int (i*j)):=by
 show uo (.int i) (.int j)=_
 show(if _ then _ else _)=_
 rw[if_pos (.inl ⟨by omega,by omega⟩)]
theorem zC {i j:Int}(h : -18446744073709551616<j)(h2:j<18446744073709551616):ck (.int i) (.int j)= .ok (.int (i*j)):=by
 show uo (.int i) (.int j)=_
 show(if _ then _ else _)=_
 rw[if_pos (.inr ⟨by omega,by omega⟩)]
theorem F1 (ns:List Int)(k:Nat)(hn:ns.length<=63):∃c,d6 [.scr ns,.int k] = .ok (.int c):=by
 have e0:o2 ql (vr 0) (fD aj) [.va (.scr ns),.va (.int k)] = .ok (.bl (ji ns [])):=by
  refine aD (t:=.scr ns) (u:=.lst []) rfl (nX (ts:=[]) rfl (aF (k:=0) (JW _))) ?_
  unfold ql;rw[if_pos (gg (by simp[T.dep]) rfl rfl)]
  rfl
 cases ns with
 | nil=>
  refine⟨7*k,a6 rfl ?_⟩
  unfold ix
  refine fy ((d8 (bj e0)).trans (bH (aD (t:=.int 7) (u:=.int k) rfl rfl (md (by omega) (by omega)))))
 | cons a r=>
  have hl:(0:Int)<((a::r).length:Nat):=by simp only[JR];omega
  have hl2:(((a::r).length:Nat):Int)<1073741824:=by simp only[JR]at hn ⊢;omega
  have hi:k % (a::r).length<(a::r).length:=Nat.mod_lt _ (by simp)
  have g0:o2 jN (vr 1) (cl cH (ae (vr 0) aj)) [.va (.scr (a::r)),.va (.int k)] = .ok (.int ((k % (a::r).length:Nat):Int)):=by
   refine aD (t:=.int k) (u:=.int ((a::r).length:Nat)) rfl ?_ (by rw[jr hl];rfl)
   refine aG (ts:=[.scr (a::r)]) rfl ?_
   show Rs.ok (T.int (((a::r).map T.int).length:Nat))=_
   rw[JQ]
  have g1:aS (.scr (a::r)) (.int ((k % (a::r).length:Nat):Int))= .ok (.int (a::r)[k % (a::r).length]):=by
   have e:((a::r).map T.int)[k % (a::r).length]? =some (.int (a::r)[k % (a::r).length]):=by rw[Kk,JU hi];rfl
   show(match L2.atI ((a::r).map T.int) ((k % (a::r).length:Nat):Int)with | some t=>Rs.ok t | none=> .bad)=_
   rw[jx e]
  have g2:o2 jR (vr 1) (cl cH (ae (vr 0) aj)) [.va (.scr (a::r)),.va (.int k)] = .ok (.int ((k:Int) / ((a::r).length:Nat))):=by
   refine aD (t:=.int k) (u:=.int ((a::r).length:Nat)) rfl ?_ (lx hl hl2)
   refine aG (ts:=[.scr (a::r)]) rfl ?_
   show Rs.ok (T.int (((a::r).map T.int).length:Nat))=_
   rw[JQ]
  refine⟨(a::r)[k % (a::r).length] +6553*((k:Int) / ((a::r).length:Nat)),a6 rfl ?_⟩
  unfold ix
  show ay _ _ [.va (.scr (a::r)),.va (.int k)] =_
  refine(aw (Z':=[.va (.scr (a::r)),.va (.int k)]) ((b6 (bj e0)).trans rfl)).trans ?_
  exact bH (aD (aD (t:=.scr (a::r)) rfl g0 g1) (aD (t:=.int 6553) rfl g2 (md (by omega) (by omega))) rfl)
theorem da (ns:List Int)(k:Nat)(m:Int)(hn:ns.length<=63)(hm:0<m):∃r,aE [.scr ns,.int k,.int m] = .ok (.int r)/\0<=r/\r<m:=by
 obtain⟨c,hc⟩:=F1 ns k hn
 have b1:∀x:Int,0<=x % 2147483563/\x % 2147483563<2147483563:=λx=>⟨Qr _ (by omega),Pk _ (by omega)⟩
 have b2:∀x:Int,0<=x % 2147483399/\x % 2147483399<2147483399:=λx=>⟨Qr _ (by omega),Pk _ (by omega)⟩
 generalize hx:(c % 2147483563*69069+104723*((k:Int)+1)) % 2147483563=x
 have hx':=b1 (c % 2147483563*69069+104723*((k:Int)+1));rw[hx]at hx'
 generalize hy:(x*x+x / 3) % 2147483399=y
 have hy':=b2 (x*x+x / 3);rw[hy]at hy';refine⟨(y*y+y / 7) % 2147483647 / 11 % m,a6 rfl ?_,Qr _ (by omega),Pk _ hm⟩
 show gG [.va (.scr ns),.va (.int k),.va (.int m),.em] =_
 unfold gG
 have s1:cw (o2 jN (o2 aY (o2 ck (o2 jN (cl d6 (ae (vr 0) (ae (vr 1) aj))) (cn (.int 2147483563))) (cn (.int 69069))) (o2 ck (cn (.int 104723)) (o2 aY (vr 1) (cn (.int 1))))) (cn (.int 2147483563))) (gN 3) [.va (.scr ns),.va (.int k),.va (.int m),.em] = .ok (.nx [.va (.scr ns),.va (.int k),.va (.int m),.va (.int x)]):=by
  refine bZ (t:=.int x) (aD (u:=.int 2147483563) (aD (aD (u:=.int 69069) (aD (u:=.int 2147483563) (aG (ts:=[.scr ns,.int k]) rfl hc) rfl (jr (by omega))) rfl (zC (by omega) (by omega))) (aD (t:=.int 104723) (u:=.int ((k:Int)+1)) rfl rfl (md (by omega) (by omega))) rfl) rfl ?_) rfl
  rw[jr (by omega),hx]
 have s2:cw (o2 jN (o2 aY (o2 ck (vr 3) (vr 3)) (o2 jR (vr 3) (cn (.int 3)))) (cn (.int 2147483399))) (gN 3) [.va (.scr ns),.va (.int k),.va (.int m),.va (.int x)] = .ok (.nx [.va (.scr ns),.va (.int k),.va (.int m),.va (.int y)]):=by
  refine bZ (t:=.int y) (aD (u:=.int 2147483399) (aD (aD (t:=.int x) (u:=.int x) rfl rfl (md (by omega) (by omega))) (aD (t:=.int x) (u:=.int 3) rfl rfl (lx (by omega) (by omega))) rfl) rfl ?_) rfl
  rw[jr (by omega),hy]
 rw[aw s1,aw s2];exact bH (aD (u:=.int m) (aD (u:=.int 11) (aD (u:=.int 2147483647) (aD (aD (t:=.int y) (u:=.int y) rfl rfl (md (by omega) (by omega))) (aD (t:=.int y) (u:=.int 7) rfl rfl (lx (by omega) (by omega))) rfl) rfl (jr (by omega))) rfl (lx (by omega) (by omega))) rfl (jr hm))
theorem c9 {ns:List Int}{k:Nat}{m r:Int}{f g h:En->Rs T}{Z:En}(e:aE [.scr ns,.int k,.int m] = .ok (.int r))(h1:f Z= .ok (.scr ns))(h2:g Z= .ok (.int k))(h3:h Z= .ok (.int m)) :
  cl aE (ae f (ae g (ae h aj))) Z= .ok (.int r):=aG (ax h1 (ax h2 (ax h3 rfl))) e
theorem rq:∀(l:List Int) (z y:Int),kR (l++ [z])=true->z<y->kR (l++ [z] ++ [y])=true
 | [],z,y,_,h=>by simp[kR,h]
 | [a],z,y,h,hy=>by
  simp[kR]at h ⊢
  omega
 | a::b::l,z,y,h,hy=>by
  have h':kR (a::b::(l++ [z]))=true:=h;rw[Bw,JM]at h'
  have ih:=rq (b::l) z y h'.2 hy
  show kR (a::b::(l++ [z] ++ [y]))=true
  rw[Bw,h'.1];exact ih
theorem jL:∀l:List Int,nums (l.map .int)=some l
 | [] =>rfl
 | a::l=>by rw[JP,nums,jL l]
def RdOk (l:List Int):Prop:=∃(l':List Int) (z:Int),l=l'++ [z]/\kR l=true/\(∀x∈l,0<=x/\x<=5*l.length)/\z<=5*l.length
abbrev clF:En->Rs Fl:=cw (o2 aY (vr 3) (br (ae (o2 aY (o2 aY (o2 aS (vr 3) (o1 pW (cn (.int 1)))) (cn (.int 1))) (cl aE (ae (vr 0) (ae (o2 aY (o2 aY (vr 1) (cn (.int 3))) (vr 4)) (ae (cn (.int 5)) aj))))) aj))) (gN 3)
theorem Cz (l:List T)(z:T):aS (.tup (l++ [z])) (.int (-1))= .ok z:=by
 have e:L2.atI (l++ [z]) (-1)=some z:=by
  unfold L2.atI L2.ixN;simp;rw[if_pos (by omega)]
  have q:(-1+((l.length:Int)+1)).toNat=l.length:=by omega
  show(l++ [z])[(-1+((l.length:Int)+1)).toNat]? =some z
  rw[q];simp
 show(match L2.atI (l++ [z]) (-1)with | some t=>Rs.ok t | none=> .bad)=_
 rw[e]
theorem C2 (ns:List Int)(hn:ns.length<=63)(a j:Nat)(s:T)(l:List Int)(h:RdOk l)(hl:l.length<=3):∃l2,clF [.va (.scr ns),.va (.int a),.va s,.va (.tup (l.map .int)),.va (.int j)] = .ok (.nx [.va (.scr ns),.va (.int a),.va s,.va (.tup (l2.map .int)),.va (.int j)])/\RdOk l2/\l2.length=l.length+1:=by
 obtain⟨l',z,rfl,h1,h2,h3⟩:=h;obtain⟨d,ed,d0,d1⟩:=da ns (a+3+j) 5 hn (by omega)
 refine⟨l'++ [z] ++ [z+1+d],?_,⟨l'++ [z],z+1+d,rfl,rq l' z _ h1 (by omega),?_,?_⟩,by simp⟩
 ·refine bZ (t:=.tup ((l'++ [z] ++ [z+1+d]).map .int)) (aD (t:=.tup ((l'++ [z]).map .int)) (u:=.tup [.int (z+1+d)]) rfl (dC (ts:=[.int (z+1+d)]) (ax (aD (t:=.int (z+1)) (u:=.int d) (aD (t:=.int z) (u:=.int 1) (aD (t:=.tup ((l'++ [z]).map .int)) (u:=.int (-1)) rfl rfl ?_) rfl rfl) (c9 (k:=a+3+j) ed rfl ?_ rfl) rfl) rfl) (aF (k:=1) (by simp))) ?_) rfl
  ·rw[Ld];exact Cz _ _
  ·refine aD (t:=.int ((a:Int)+3)) (u:=.int j) (aD (t:=.int a) (u:=.int 3) rfl rfl rfl) rfl ?_
   show Rs.ok (T.int ((a:Int)+3+j))=_
   congr 2
  ·rw[Ld (l₁:=l'++ [z])]
   exact wc _ _ (by rw[JZ,JQ];simp at hl ⊢;omega)
 ·intro x hx
  rcases Kg.mp hx with hx | hx
  ·have:=h2 x hx
   simp only[JZ,Lb]at this ⊢;omega
  ·rw[JX]at hx
   subst hx
   have hz:=h2 z (by simp)
   simp only[JZ,Lb]at h3 ⊢;omega
 ·simp only[JZ,Lb]at h3 ⊢
  omega
theorem v7 (ns:List Int)(hn:ns.length<=63)(a:Nat)(s:T):∀(js:List Nat) (l:List Int) (s4:Sl),RdOk l->l.length+js.length<=4->∃l2 s5,a9 (gN 4) clF (js.map λ(j:Nat)=>T.int j) [.va (.scr ns),.va (.int a),.va s,.va (.tup (l.map .int)),s4] = .ok (.nx [.va (.scr ns),.va (.int a),.va s,.va (.tup (l2.map .int)),s5])/\RdOk l2/\l2.length=l.length+js.length
 | [],l,s4,h,_=>⟨l,s4,rfl,h,rfl⟩
 | j::js,l,s4,h,hl=>by
  rw[JR]at hl;obtain⟨l2,e2,h2,n2⟩:=C2 ns hn a j s l h (by omega)
  obtain⟨l3,s5,e3,h3,n3⟩:=v7 ns hn a s js l2 (.va (.int j)) h2 (by omega)
  refine⟨l3,s5,?_,h3,by rw[n3,n2,JR];omega⟩
  rw[JP,dD (Z1:=[.va (.scr ns),.va (.int a),.va s,.va (.tup (l.map .int)),.va (.int j)]) rfl e2];exact e3
theorem jH (n:Nat):rng 0 (n:Int)=(J2 n).map λ(j:Nat)=>T.int j:=by
 unfold rng;simp
theorem RdOk.reads {l:List Int}(h:RdOk l)(hl:l.length<=4):b9 (.tup (l.map .int))=true:=by
 obtain⟨l',z,rfl,h1,h2,h3⟩:=h;unfold b9;rw[JM];refine⟨?_,?_⟩
 ·simp[dh];simp at hl;omega
 ·show(((l'++ [z]).map T.int).all (λu=>a8 u 0 99)&&(match nums ((l'++ [z]).map T.int)with | some m=>kR m | none=>false))=true
  rw[jL]
  show(_&&kR (l'++ [z]))=true
  rw[h1,Rm,Ka];intro t ht;obtain⟨x,hx,rfl⟩:=J5.mp ht
  have:=h2 x hx;simp only[a8,JM,decide_eq_true_eq];omega
theorem Bq (n:Nat)(l:List Int)(h:l.length<=n):sm n (.tup (l.map .int))=true:=sm_tup.mpr ⟨by rw[JQ];exact h,λt ht=>by obtain⟨x,_,rfl⟩:=J5.mp ht;simp[sm]⟩
def Dc (c:T):Prop:=∃(x y:Int) (l:List Int),c= .tup [.int x,.int y,.tup (l.map .int)]/\RdOk l/\l.length<=3
theorem Am (ns:List Int)(hn:ns.length<=63)(a:Nat):∃c,bX [.scr ns,.int a] = .ok c/\bu c=true/\sm 8 c=true/\Dc c:=by
 obtain⟨d1,e1,p1,q1⟩:=da ns a 3 hn (by omega)
 obtain⟨d2,e2,p2,q2⟩:=da ns (a+2) 6 hn (by omega)
 obtain⟨d3,e3,p3,q3⟩:=da ns (a+1) 3 hn (by omega)
 obtain⟨d4,e4,p4,q4⟩:=da ns (a+6) 3 hn (by omega)
 obtain⟨n3,rfl⟩:=Ks p3;obtain⟨l,s5,el,hl,nl⟩:=v7 ns hn a (.int (1+d1)) (J2 n3) [d2] .em ⟨[],d2,rfl,rfl,λx hx=>by rw[JX]at hx;subst hx;simp;omega,by simp;omega⟩ (by simp;omega)
 have nl':l.length<=4:=by rw[nl];simp;omega
 have hr:=hl.reads nl';refine⟨.tup [.int (1+d1),.int (1+d1+d4),.tup (l.map .int)],a6 rfl ?_,?_,?_,⟨_,_,l,rfl,hl,by rw[nl];simp;omega⟩⟩
 ·show gH [.va (.scr ns),.va (.int a),.em,.em,.em] =_
  unfold gH;rw[aw (Z':=[.va (.scr ns),.va (.int a),.va (.int (1+d1)),.em,.em]) (bZ (t:=.int (1+d1)) (aD (t:=.int 1) rfl (c9 e1 rfl rfl rfl) rfl) rfl)];rw[aw (Z':=[.va (.scr ns),.va (.int a),.va (.int (1+d1)),.va (.tup ([d2].map .int)),.em]) (bZ (t:=.tup [.int d2]) (dC (ts:=[.int d2]) (ax (c9 (k:=a+2) e2 rfl rfl rfl) rfl) (aF (k:=1) (by simp))) rfl)]
  rw[aw ((eU (FO (ax (c9 (k:=a+1) e3 rfl rfl rfl) rfl) (by omega) (by omega)) (by rw[jH];exact el)))]
  exact bH (dC (ax (t:=.int (1+d1)) rfl (ax (aD (t:=.int (1+d1)) rfl (c9 (k:=a+6) e4 rfl rfl rfl) rfl) (ax (t:=.tup (l.map .int)) rfl rfl))) (aF (k:=3) (by simp)))
 ·show(true&&(ng (.int (1+d1)) (.int (1+d1+d4))&&b9 _))=true
  rw[hr];simp only[ng,a8,LN,Rm,JM,decide_eq_true_eq];omega
 ·refine sm_tup.mpr ⟨by simp,λt ht=> ?_⟩
  rcases JT.mp ht with rfl | ht
  ·simp[sm]
  ·rcases JT.mp ht with rfl | ht
   ·simp[sm]
   ·rw[JX]at ht;subst ht;exact Bq 8 l (by omega)
theorem fJ {y:T}:∀(cs:List T) (i:Nat),y∈bJ i cs->∃c k:Nat,y= .tup [.int c,.int k]/\i<=c/\c<i+cs.length/\k<xS (cs.getD (c - i) .non)
 | [],i,h=>by cases h
 | x::cs,i,h=>by
  rw[bJ]at h;rcases Kg.mp h with h | h
  ·unfold ik at h
   obtain⟨t,ht,rfl⟩:=J5.mp h;obtain⟨j,rfl,hj⟩:=iA ht;refine⟨i,j,rfl,JW _,by rw[JR];omega,?_⟩
   rw[Og]
   show j<xS x
   omega
  ·obtain⟨c,k,e,h1,h2,h3⟩:=fJ cs (i+1) h
   refine⟨c,k,e,by omega,by rw[JR];omega,?_⟩
   have:c - i=(c - (i+1))+1:=by omega
   rw[this];exact h3
theorem gh {cs:List T}{y:T}(h:y∈bJ 0 cs):ai cs y=true:=by
 obtain⟨c,k,rfl,_,h2,h3⟩:=fJ cs 0 h
 show(decide ((0:Int)<=(c:Int))&&decide ((c:Int)<(cs.length:Int))&&(decide ((0:Int)<=(k:Int))&&decide ((k:Int)<(reads cs (c:Int):Int))))=true
 rw[Oh]at h3;rw[j7];simp only[JM,decide_eq_true_eq];omega
theorem iJ:∀(cs:List T) (i:Nat),(bJ i cs).Nodup
 | [],i=>MP
 | x::cs,i=>by
  rw[bJ,LJ];refine⟨?_,iJ cs (i+1),?_⟩
  ·unfold ik rng
   rw[Lc];rw[Mi,N6];refine P9.imp ?_
   intro a b hab e
   simp at e
   exact hab (by omega)
  ·intro a ha b hb e
   subst e;unfold ik at ha;obtain⟨t,ht,rfl⟩:=J5.mp ha;obtain⟨c,k,e,h1,_,_⟩:=fJ cs (i+1) hb
   simp at e
   omega
theorem zu {l:List T}(h:l.Nodup){i j:Nat}(hi:i<l.length)(hj:j<l.length)(hij:i≠j):l[i] ≠l[j]:=by
 rw[Mi,Ms]at h;rcases Ml i j with q | q
 ·exact h i j hi hj q
 ·exact λe=>h j i hj hi (by omega) e.symm
theorem ly:∀(cs:List T) (i:Nat),(∀c∈cs,bu c=true)->(bJ i cs).length<=4*cs.length
 | [],i,_=>JW _
 | x::cs,i,h=>by
  obtain⟨a,b,r,rfl,_,h2⟩:=fO (h x JO)
  have:=ly cs (i+1) λc hc=>h c (JJ _ hc)
  rw[bJ,JZ,ij,JR]
  show r.length+_<=_
  omega
theorem sH {cs:List T}{a b:T}(ha:ai cs a=true)(hb:ai cs b=true)(h:a≠b):aM a b=false:=by
 obtain⟨c,k,rfl⟩:=aI ha;obtain⟨c',k',rfl⟩:=aI hb;rw[Bool.eq_false_iff];intro e;simp[aM,beqTs]at e;exact h (by rw[e.1,e.2])
theorem rg {cs:List T}{a:T}(ha:ai cs a=true):sm 8 a=true:=by
 obtain⟨c,k,rfl⟩:=aI ha;simp[sm,sms]
theorem uA {l:List T}{i:Nat}(h:i<l.length):aS (.lst l) (.int (i:Int))= .ok l[i]:=by
 show(match L2.atI l (i:Int)with | some t=>Rs.ok t | none=> .bad)=_
 rw[jx (JU h)]
theorem Ah (a b:Int):ql (.int a) (.int b)= .ok (.bl (a == b)):=by
 unfold ql;rw[if_pos (gg (by simp[T.dep]) rfl rfl)]
 rfl
theorem oo (ns:List Int)(hn:ns.length<=63)(a:Nat)(cs:List T)(hc:aR (.tup cs)=true):∃r,bN [.scr ns,.int a,.tup cs] = .ok r/\(r= .non\/(bB cs r=true/\sm 8 r=true)):=by
 obtain⟨ha,h1,h4⟩:=bF hc
 have hlen:=ly cs 0 ha
 have er:=Al cs hc
 have gl:∀s4 s5 s6 s7:Sl,cl cH (ae (vr 3) aj) [.va (.scr ns),.va (.int a),.va (.tup cs),.va (.lst (bJ 0 cs)),s4,s5,s6,s7] = .ok (.int ((bJ 0 cs).length:Nat)):=λ_ _ _ _=>rfl
 have s1:cw (cl cX (ae (vr 2) aj)) (gN 3) [.va (.scr ns),.va (.int a),.va (.tup cs),.em,.em,.em,.em,.em] = .ok (.nx [.va (.scr ns),.va (.int a),.va (.tup cs),.va (.lst (bJ 0 cs)),.em,.em,.em,.em]):=bZ (aG (ts:=[.tup cs]) rfl er) rfl
 have lt:o2 Cp (cl cH (ae (vr 3) aj)) (cn (.int 2)) [.va (.scr ns),.va (.int a),.va (.tup cs),.va (.lst (bJ 0 cs)),.em,.em,.em,.em] = .ok (.bl (decide (((bJ 0 cs).length:Int)<2))):=aD (t:=.int ((bJ 0 cs).length:Nat)) (u:=.int 2) (gl _ _ _ _) rfl rfl
 by_cases hs:(bJ 0 cs).length<2
 ·refine⟨.non,a6 rfl ?_,.inl rfl⟩
  show c7 [.va (.scr ns),.va (.int a),.va (.tup cs),.em,.em,.em,.em,.em] =_
  unfold c7;rw[aw s1];rw[decide_eq_true (by omega)]at lt
  exact fy ((d8 (bj lt)).trans rfl)
 ·rw[decide_eq_false (by omega)]at lt
  generalize hN:(bJ 0 cs).length=n at*
  obtain⟨d1,e1,p1,q1⟩:=da ns a (n:Int) hn (by omega)
  obtain⟨d2,e2,p2,q2⟩:=da ns (a+1) ((n:Int) - 1) hn (by omega)
  obtain⟨d3,e3,p3,q3⟩:=da ns (a+2) 8 hn (by omega)
  obtain⟨d4,e4,p4,q4⟩:=da ns (a+3) 3 hn (by omega)
  obtain⟨d5,e5,p5,q5⟩:=da ns (a+4) 9 hn (by omega)
  obtain⟨i,rfl⟩:=Ks p1;obtain⟨d2,rfl⟩:=Ks p2
  have hi:i<(bJ 0 cs).length:=by omega
  have hj:(i+1+d2) % n<(bJ 0 cs).length:=by rw[hN];exact Nat.mod_lt _ (by omega)
  have hij:i≠(i+1+d2) % n:=by
   rcases Ml (i+1+d2) n with q | q
   ·rw[SB q];omega
   ·have:(i+1+d2) % n=i+1+d2 - n:=by
     rw[Nat.mod_eq_sub_mod q,SB (by omega)]
    rw[this];omega
  have eA:=gh (K1 hi)
  have eB:=gh (K1 hj)
  have eN:(bJ 0 cs)[i] ≠(bJ 0 cs)[(i+1+d2) % n]:=zu (iJ cs 0) hi hj hij
  generalize hA:(bJ 0 cs)[i] =A at*
  generalize hB:(bJ 0 cs)[(i+1+d2) % n] =B at*
  let y:T:=if d4 == 0 then .non else .int (d3+d5)
  refine⟨.tup [A,B,.int d3,y],a6 rfl ?_,.inr ⟨?_,?_⟩⟩
  ·show c7 [.va (.scr ns),.va (.int a),.va (.tup cs),.em,.em,.em,.em,.em] =_
   unfold c7;rw[aw s1];rw[aw (Z':=[.va (.scr ns),.va (.int a),.va (.tup cs),.va (.lst (bJ 0 cs)),.em,.em,.em,.em]) ((b6 (bj lt)).trans rfl)];rw[aw (Z':=[.va (.scr ns),.va (.int a),.va (.tup cs),.va (.lst (bJ 0 cs)),.va (.int (i:Nat)),.em,.em,.em]) (bZ (c9 e1 rfl rfl (gl _ _ _ _)) rfl)];rw[aw (Z':=[.va (.scr ns),.va (.int a),.va (.tup cs),.va (.lst (bJ 0 cs)),.va (.int (i:Nat)),.va (.int ((i+1+d2) % n:Nat)),.em,.em]) (bZ (t:=.int ((i+1+d2) % n:Nat)) (aD (t:=.int ((i:Int)+1+d2)) (u:=.int n) (aD (t:=.int ((i:Int)+1)) (u:=.int d2) rfl (c9 (k:=a+1) e2 rfl rfl (aD (t:=.int n) (u:=.int 1) (gl _ _ _ _) rfl rfl)) rfl) (gl _ _ _ _) (jr (by omega))) rfl)]
   rw[aw (Z':=[.va (.scr ns),.va (.int a),.va (.tup cs),.va (.lst (bJ 0 cs)),.va (.int (i:Nat)),.va (.int ((i+1+d2) % n:Nat)),.va (.int d3),.em]) (bZ (c9 (k:=a+2) e3 rfl rfl rfl) rfl)]
   have ey:DF (tb (o2 ql (cl aE (ae (vr 0) (ae (o2 aY (vr 1) (cn (.int 3))) (ae (cn (.int 3)) aj)))) (cn (.int 0)))) (cn .non) (o2 aY (vr 6) (cl aE (ae (vr 0) (ae (o2 aY (vr 1) (cn (.int 4))) (ae (cn (.int 9)) aj))))) [.va (.scr ns),.va (.int a),.va (.tup cs),.va (.lst (bJ 0 cs)),.va (.int (i:Nat)),.va (.int ((i+1+d2) % n:Nat)),.va (.int d3),.em] = .ok y:=by
    rw[zX (bj (aD (u:=.int 0) (c9 (k:=a+3) e4 rfl rfl rfl) rfl (Ah _ _)))]
    show _=Rs.ok (if d4 == 0 then T.non else .int (d3+d5))
    cases d4 == 0 with
    | true=>rfl
    | false=>exact aD (t:=.int d3) rfl (c9 (k:=a+4) e5 rfl rfl rfl) rfl
   rw[aw (Z':=[.va (.scr ns),.va (.int a),.va (.tup cs),.va (.lst (bJ 0 cs)),.va (.int (i:Nat)),.va (.int ((i+1+d2) % n:Nat)),.va (.int d3),.va y]) (bZ ey rfl)];refine bH (dC (ax (t:=A) (aD (t:=.lst (bJ 0 cs)) (u:=.int (i:Nat)) rfl rfl ?_) (ax (t:=B) (aD (t:=.lst (bJ 0 cs)) (u:=.int ((i+1+d2) % n:Nat)) rfl rfl ?_) (ax (t:=.int d3) rfl (ax (t:=y) rfl rfl)))) (aF (k:=4) (by simp)))
   ·rw[<-hA];exact uA hi
   ·rw[<-hB];exact uA hj
  ·show(dW (.int d3) y&&(ai cs A&&(ai cs B&& !aM A B)))=true
   rw[eA,eB,sH eA eB eN]
   have:dW (.int d3) y=true:=by
    show(a8 (.int d3) 0 999&&(match(T.int d3),(if d4 == 0 then T.non else .int (d3+d5))with | _,.non=>true | .int i,_=>a8 (if d4 == 0 then T.non else .int (d3+d5)) i 999 | _,_=>false))=true
    cases d4 == 0 with
    | true=>simp[a8];omega
    | false=>simp[a8];omega
   rw[this];rfl
  ·refine sm_tup.mpr ⟨by simp,λt ht=> ?_⟩
   have hy:sm 8 y=true:=by show sm 8 (if d4 == 0 then T.non else .int (d3+d5))=true;cases d4 == 0 <;> simp[sm]
   simp only[JT,Kp,or_false]at ht;rcases ht with rfl | rfl | rfl | rfl
   ·exact rg eA
   ·exact rg eB
   ·simp[sm]
   ·exact hy
def okv:Rs T->T
 | .ok t=>t
 | _=> .non
theorem vp (l:List T)(k:Int)(h : -(2 ^ 63)<=k/\k<2 ^ 63/\l.length*k.toNat<=sizeLine):ck (.lst l) (.int k)= .ok (.lst (Ke k.toNat l).flatten):=by
 show uo (.lst l) (.int k)=_
 unfold uo;exact if_pos h
theorem mul_one (x:T)(b:Bool):ck (.lst [x]) (.int (if b then 1 else 0))= .ok (.lst (if b then [x]else [])):=by
 cases b with
 | true=>exact vp [x] 1 ⟨by decide,by decide,aF (k:=1) (by simp)⟩
 | false=>exact vp [x] 0 ⟨by decide,by decide,aF (k:=1) (by simp)⟩
abbrev leF:En->Rs Fl:=ay (cw (cl bN (ae (vr 0) (ae (o2 aY (o2 aY (vr 1) (cn (.int 31))) (o2 ck (cn (.int 6)) (vr 5))) (ae (vr 3) aj)))) (gN 6)) (cw (o2 aY (vr 4) (o2 ck (fD (ae (vr 6) aj)) (cl z9 (ae (o2 kH (vr 6) (cn .non)) aj)))) (gN 4))
def uN (cs ls:List T):Prop:=∀t∈ls,bB cs t=true/\sm 8 t=true
theorem Ct (ns:List Int)(hn:ns.length<=63)(a j:Nat)(m:T)(cs ls:List T)(hc:aR (.tup cs)=true)(h:uN cs ls)(hl:ls.length<=100)(s6:Sl) :
  ∃ls2 s7,leF [.va (.scr ns),.va (.int a),.va m,.va (.tup cs),.va (.lst ls),.va (.int j),s6] = .ok (.nx [.va (.scr ns),.va (.int a),.va m,.va (.tup cs),.va (.lst ls2),.va (.int j),s7])/\uN cs ls2/\ls2.length<=ls.length+1:=by
 obtain⟨r,er,hr⟩:=oo ns hn (a+31+6*j) cs hc
 have e1:∀G,ay (cw (cl bN (ae (vr 0) (ae (o2 aY (o2 aY (vr 1) (cn (.int 31))) (o2 ck (cn (.int 6)) (vr 5))) (ae (vr 3) aj)))) (gN 6)) G [.va (.scr ns),.va (.int a),.va m,.va (.tup cs),.va (.lst ls),.va (.int j),s6] =G [.va (.scr ns),.va (.int a),.va m,.va (.tup cs),.va (.lst ls),.va (.int j),.va r]:=λG=>by
  refine aw (bZ (t:=r) (aG (ts:=[.scr ns,.int (a+31+6*j:Nat),.tup cs]) (ax (t:=.scr ns) rfl (ax (t:=.int (a+31+6*j:Nat)) (aD (t:=.int ((a:Int)+31)) (u:=.int (6*(j:Int))) rfl (aD (t:=.int 6) (u:=.int j) rfl rfl (md (by omega) (by omega))) rfl) (ax (t:=.tup cs) rfl rfl))) er) rfl)
 have e2:cl z9 (ae (o2 kH (vr 6) (cn .non)) aj) [.va (.scr ns),.va (.int a),.va m,.va (.tup cs),.va (.lst ls),.va (.int j),.va r] = .ok (.int (if !r.isN then 1 else 0)):=aG (ts:=[.bl (!r.isN)]) rfl rfl
 refine⟨ls++(if !r.isN then [r]else []),.va r,?_,?_,?_⟩
 ·refine(e1 _).trans (bZ (aD (t:=.lst ls) (u:=.lst (if !r.isN then [r]else [])) rfl (aD (t:=.lst [r]) (nX (ts:=[r]) rfl (aF (k:=1) (by simp))) e2 (mul_one _ _)) (we _ _ ?_)) rfl)
  rw[JZ];cases r.isN <;> simp <;> omega
 ·intro t ht
  rcases Kg.mp ht with ht | ht
  ·exact h t ht
  ·rcases hr with rfl | hr
   ·cases ht
   ·cases q:r.isN with
    | true=>rw[q]at ht;cases ht
    | false=>
     rw[q]at ht;rw[show t=r by simpa using ht]
     exact hr
 ·rw[JZ]
  cases r.isN <;> simp
theorem vD (ns:List Int)(hn:ns.length<=63)(a:Nat)(m:T)(cs:List T)(hc:aR (.tup cs)=true):∀(js:List Nat) (ls:List T) (s5 s6:Sl),uN cs ls->ls.length+js.length<=100 →
  ∃ls2 t5 t6,a9 (gN 5) leF (js.map λ(j:Nat)=>T.int j) [.va (.scr ns),.va (.int a),.va m,.va (.tup cs),.va (.lst ls),s5,s6] = .ok (.nx [.va (.scr ns),.va (.int a),.va m,.va (.tup cs),.va (.lst ls2),t5,t6])/\uN cs ls2/\ls2.length<=ls.length+js.length
 | [],ls,s5,s6,h,_=>⟨ls,s5,s6,rfl,h,JW _⟩
 | j::js,ls,s5,s6,h,hl=>by
  rw[JR]at hl;obtain⟨l2,s7,e2,h2,n2⟩:=Ct ns hn a j m cs ls hc h (by omega) s6
  obtain⟨l3,t5,t6,e3,h3,n3⟩:=vD ns hn a m cs hc js l2 (.va (.int j)) s7 h2 (by omega)
  refine⟨l3,t5,t6,?_,h3,by rw[JR];omega⟩
  rw[JP,dD (Z1:=[.va (.scr ns),.va (.int a),.va m,.va (.tup cs),.va (.lst ls),.va (.int j),s6]) rfl e2];exact e3
theorem F0 (ns:List Int)(hn:ns.length<=63)(a m:Nat)(hm:m<=8):∃cs ls,dS [.scr ns,.int a,.int m] = .ok (RR cs ls)/\aR (.tup cs)=true/\cs.length<=3/\(∀c∈cs,sm 8 c=true)/\uN cs ls/\ls.length<=m/\∀c∈cs,Dc c:=by
 obtain⟨d1,e1,p1,q1⟩:=da ns a 3 hn (by omega)
 obtain⟨d2,e2,p2,q2⟩:=da ns (a+30) ((m:Int)+1) hn (by omega)
 obtain⟨d1,rfl⟩:=Ks p1;obtain⟨d2,rfl⟩:=Ks p2
 let hcl:T->T:=λt=>match t with
  | .int k=>okv (bX [.scr ns,.int ((a:Int)+1+8*k)])
  | _=> .non
 have hh:∀t∈rng 0 ((1+d1:Nat):Int),∃k:Nat,t= .int k/\bX [.scr ns,.int ((a+1+8*k:Nat):Int)] = .ok (hcl t)/\bu (hcl t)=true/\sm 8 (hcl t)=true/\Dc (hcl t):=λt ht=>by
  obtain⟨k,rfl,_⟩:=iA ht;obtain⟨c,ec,h1,h2,h3⟩:=Am ns hn (a+1+8*k)
  have e:hcl (.int k)=c:=by
   show okv (bX [.scr ns,.int ((a+1+8*k:Nat):Int)])=c
   rw[ec];rfl
  exact⟨k,rfl,by rw[e];exact ec,by rw[e];exact h1,by rw[e];exact h2,by rw[e];exact h3⟩
 generalize hcs:(rng 0 ((1+d1:Nat):Int)).map hcl=cs
 have lc:cs.length=1+d1:=by rw[<-hcs,JQ,iB]
 have hc:aR (.tup cs)=true:=by
  show(dh (.tup cs) 1 4&&cs.all bu)=true
  rw[JM,Ka];refine⟨by simp[dh];omega,λc h=> ?_⟩
  rw[<-hcs]at h;obtain⟨t,ht,rfl⟩:=J5.mp h;obtain⟨_,_,_,h1,_⟩:=hh t ht;exact h1
 have hsm:∀c∈cs,sm 8 c=true:=λc h=>by
  rw[<-hcs]at h;obtain⟨t,ht,rfl⟩:=J5.mp h;obtain⟨_,_,_,_,h1,_⟩:=hh t ht;exact h1
 obtain⟨ls,t5,t6,el,hl,nl⟩:=vD ns hn a (.int m) cs hc (J2 d2) [] .em .em (λt h=>by cases h) (by simp;omega)
 refine⟨cs,ls,a6 rfl ?_,hc,by omega,hsm,hl,by simp at nl;omega,λc h=>by
  rw[<-hcs]at h;obtain⟨t,ht,rfl⟩:=J5.mp h;obtain⟨_,_,_,_,_,h1⟩:=hh t ht;exact h1⟩
 show fV [.va (.scr ns),.va (.int a),.va (.int m),.em,.em,.em,.em] =_
 unfold fV
 have s1:cw (cl gm (ae (dU (iR (ae (o2 aY (cn (.int 1)) (cl aE (ae (vr 0) (ae (vr 1) (ae (cn (.int 3)) aj))))) aj)) [none,some 0,some 1] (gN 0) bT (cl bX (ae (vr 1) (ae (o2 aY (o2 aY (vr 2) (cn (.int 1))) (o2 ck (cn (.int 8)) (vr 0))) aj)))) aj)) (gN 3) [.va (.scr ns),.va (.int a),.va (.int m),.em,.em,.em,.em] = .ok (.nx [.va (.scr ns),.va (.int a),.va (.int m),.va (.tup cs),.em,.em,.em]):=by
  refine bZ (t:=.tup cs) (aG (ts:=[.lst cs]) (ax (t:=.lst cs) ?_ rfl) rfl) rfl
  rw[<-hcs];refine qb (ts:=rng 0 ((1+d1:Nat):Int)) (h:=hcl) (FO (ax (t:=.int ((1+d1:Nat):Int)) (aD (t:=.int 1) (u:=.int d1) rfl (c9 e1 rfl rfl rfl) rfl) rfl) (by omega) (by omega)) (aF (k:=3) (by rw[iB];omega)) (by simp) λt ht=> ?_
  obtain⟨k,rfl,ek,_,_⟩:=hh t ht;refine aG (ts:=[.scr ns,.int ((a+1+8*k:Nat):Int)]) (ax (t:=.scr ns) rfl (ax (aD (t:=.int ((a:Int)+1)) (u:=.int (8*(k:Int))) rfl (aD (t:=.int 8) (u:=.int k) rfl rfl (md (by omega) (by omega))) rfl) rfl)) ek
 rw[aw s1];rw[aw (Z':=[.va (.scr ns),.va (.int a),.va (.int m),.va (.tup cs),.va (.lst []),.em,.em]) (bZ (nX (ts:=[]) rfl (aF (k:=0) (by simp))) rfl)]
 rw[aw ((eU (FO (ax (c9 (k:=a+30) e2 rfl rfl (aD (t:=.int m) (u:=.int 1) rfl rfl rfl)) rfl) (by omega) (by omega)) (by rw[jH];exact el)))]
 exact bH (dC (ax (t:=.tup cs) rfl (ax (t:=.tup ls) rfl rfl)) (aF (k:=2) (by simp)))
theorem dB {cs:List T}{t:T}(h:bB cs t=true):∃a b x y,t= .tup [a,b,x,y]/\dW x y=true/\ai cs a=true/\ai cs b=true/\aM a b=false:=by
 unfold bB at h
 split at h
 ·simp only[JM,PF]at h
  exact⟨_,_,_,_,rfl,h.1,h.2.1,h.2.2.1,h.2.2.2⟩
 ·cases h
theorem yI {cs ls:List T}(hc:aR (.tup cs)=true)(hs:∀c∈cs,sm 8 c=true)(hl:uN cs ls)(hn:ls.length<=8):dE (RR cs ls)=true/\sm 8 (RR cs ls)=true:=by
 refine⟨?_,?_⟩
 ·show(aR (.tup cs)&&(dh (.tup ls) 0 8&&ls.all (bB cs)))=true
  rw[hc,LN,JM,Ka];exact⟨by simp[dh];exact hn,λt ht=>(hl t ht).1⟩
 ·refine sm_tup.mpr ⟨by simp,λt ht=> ?_⟩
  simp only[JT,Kp,or_false]at ht;rcases ht with rfl | rfl
  ·exact sm_tup.mpr ⟨by have:=(bF hc).2.2;omega,hs⟩
  ·exact sm_tup.mpr ⟨hn,λt ht=>(hl t ht).2⟩
end G
namespace Tr
open PySem
section
variable {f fa fb:En->Rs T}{fs:En->Rs (List T)}{b c:En->Rs Bool}{F G:En->Rs Fl}{Z Z' Z1 Z2:En}{t u r:T}{ts l m:List T}
mutual
theorem iW:∀(t:T),t.pl=true->aM t t=true
 | .non,_=>rfl
 | .bl a,_=>by simp[aM]
 | .int a,_=>by simp[aM]
 | .str a,_=>by simp[aM]
 | .tup l,h=>by rw[aM];exact beqTs_refl l (by unfold T.pl at h;exact h)
 | .lst l,h=>by rw[aM];exact beqTs_refl l (by unfold T.pl at h;exact h)
 | .scr _,h=>by simp[T.pl]at h
theorem beqTs_refl:∀(l:List T),plS l=true->beqTs l l=true
 | [],_=>rfl
 | t::l,h=>by
  unfold plS at h;rw[JM]at h;rw[beqTs,iW t h.1,beqTs_refl l h.2];rfl
end
theorem jM (hp:t.pl=true)(hd:t.dep<=60):kX t t= .ok (.bl false):=by
 unfold kX;rw[if_pos (gg hd (T.Gc _ hp) (T.Gc _ hp)),iW t hp];rfl
theorem CJ (hp:t.pl=true)(hd:t.dep<=60):ql t t= .ok (.bl true):=by
 unfold ql;rw[if_pos (gg hd (T.Gc _ hp) (T.Gc _ hp)),iW t hp]
theorem vW {n:Nat}:∀{l:List T},(∀t∈l,t.dep<=n)->deps l<=n
 | [],_=>by unfold deps;omega
 | t::l,h=>by
  unfold deps
  have:=vW (l:=l) λu hu=>h u (JJ _ hu)
  have:=h t JO;omega
theorem gY:∀{l:List T},(∀t∈l,t.pl=true)->plS l=true
 | [],_=>rfl
 | t::l,h=>by unfold plS;rw[h t JO,gY λu hu=>h u (JJ _ hu)];rfl
theorem Fi {n:Nat}(hn:n<=59)(h:∀t∈l,t.pl=true/\t.dep<=n):kX (.lst l) (.lst l)= .ok (.bl false):=
 jM (by unfold T.pl;exact gY λt ht=>(h t ht).1) (by unfold T.dep;have:=vW (l:=l) (n:=n) λt ht=>(h t ht).2;omega)
end
end Tr
namespace G
open PySem Tr
def dr (r:List Int)(k:Nat):Int:=r.getD (k+1) 0 - r.getD k 0
def pr (n:Nat)(x y:Int)(r:List Int)(k:Nat):List T:=
 [.tup [.tup [.int n,.int k],.tup [.int n,.int ((k+1:Nat):Int)],.int (dr r k*y)],.tup [.tup [.int n,.int ((k+1:Nat):Int)],.tup [.int n,.int k],.int (-dr r k*x)]]
def cB (n:Nat)(x y:Int)(r:List Int):List T:=(J2 (r.length - 1)).flatMap (pr n x y r)
abbrev AF (n:Nat)(x y:Int)(r:List Int)(acc:List T)(s4 s5 s6 s7:Sl):En:=[.va (.int n),.va (.tup [.int x,.int y,.tup (r.map .int)]),.va (.tup (r.map .int)),.ow (.lst acc),s4,s5,s6,s7]
abbrev bcF:En->Rs Fl:=(ay (cw (br (ae (vr 0) (ae (vr 4) aj))) (gN 5)) (ay (cw (br (ae (vr 0) (ae (o2 aY (vr 4) (cn (.int 1))) aj))) (gN 6)) (ay (cw (o2 jG (o2 aS (vr 2) (o2 aY (vr 4) (cn (.int 1)))) (o2 aS (vr 2) (vr 4))) (gN 7)) (ay (jm 3 (br (ae (vr 5) (ae (vr 6) (ae (o2 ck (vr 7) (o2 aS (vr 1) (cn (.int 1)))) aj))))) (jm 3 (br (ae (vr 6) (ae (vr 5) (ae (o2 ck (o1 pW (vr 7)) (o2 aS (vr 1) (cn (.int 0)))) aj)))))))))
theorem vN {r:List Int}{k:Nat}(h:k<r.length):(r.map T.int)[k]? =some (.int (r.getD k 0)):=by
 rw[Kk,JU h]
 simp[h]
theorem C5 (n:Nat)(x y:Int)(r:List Int)(acc:List T)(k:Nat)(s5 s6 s7:Sl)(hk:k+1<r.length)(hx:0<=x/\x<=9)(hy:0<=y/\y<=9)(ha:acc.length<=100) :
  bcF (AF n x y r acc (.va (.int k)) s5 s6 s7)= .ok (.nx (AF n x y r (acc++pr n x y r k) (.va (.int k)) (.va (.tup [.int n,.int k])) (.va (.tup [.int n,.int ((k+1:Nat):Int)])) (.va (.int (dr r k))))):=by
 have h2:([T.int n,T.int k]:List T).length<=sizeLine:=aF (k:=2) (by simp)
 have ek:((k:Int)+1)=((k+1:Nat):Int):=by omega
 refine(aw (Z':=AF n x y r acc (.va (.int k)) (.va (.tup [.int n,.int k])) s6 s7) (bZ (dC rfl (aF (k:=2) (by simp))) rfl)).trans ?_
 refine(aw (Z':=AF n x y r acc (.va (.int k)) (.va (.tup [.int n,.int k])) (.va (.tup [.int n,.int ((k+1:Nat):Int)])) s7) (bZ (dC (ax rfl (ax (t:=.int ((k+1:Nat):Int)) (aD (t:=.int k) (u:=.int 1) rfl rfl (congrArg (λz=>Rs.ok (T.int z)) ek)) rfl)) (aF (k:=2) (by simp))) rfl)).trans ?_
 refine(aw (Z':=AF n x y r acc (.va (.int k)) (.va (.tup [.int n,.int k])) (.va (.tup [.int n,.int ((k+1:Nat):Int)])) (.va (.int (dr r k)))) (bZ (t:=.int (dr r k)) (aD (t:=.int (r.getD (k+1) 0)) (u:=.int (r.getD k 0)) (FF (n:=k+1) rfl (aD (t:=.int k) (u:=.int 1) rfl rfl (congrArg (λz=>Rs.ok (T.int z)) ek)) (vN hk)) (FF (n:=k) rfl rfl (vN (by omega))) rfl) rfl)).trans ?_
 refine(aw (Z':=AF n x y r (acc++ [.tup [.tup [.int n,.int k],.tup [.int n,.int ((k+1:Nat):Int)],.int (dr r k*y)]]) (.va (.int k)) (.va (.tup [.int n,.int k])) (.va (.tup [.int n,.int ((k+1:Nat):Int)])) (.va (.int (dr r k)))) (nZ (l:=acc) (dC (ax rfl (ax rfl (ax (aD (t:=.int (dr r k)) (u:=.int y) rfl rfl (zC (by omega) (by omega))) rfl))) (aF (k:=3) (by simp))) rfl (by omega))).trans ?_
 refine(nZ (l:=acc++ [.tup [.tup [.int n,.int k],.tup [.int n,.int ((k+1:Nat):Int)],.int (dr r k*y)]]) (dC (ax rfl (ax rfl (ax (aD (t:=.int (-dr r k)) (u:=.int x) rfl rfl (zC (by omega) (by omega))) rfl))) (aF (k:=3) (by simp))) rfl (by rw[JZ];simp;omega)).trans ?_
 rw[KD]
 rfl
theorem wa (n:Nat)(x y:Int)(r:List Int)(hx:0<=x/\x<=9)(hy:0<=y/\y<=9):∀(js:List Nat) (acc:List T) (s4 s5 s6 s7:Sl),(∀k∈js,k+1<r.length)->acc.length+2*js.length<=100 →
  ∃t4 t5 t6 t7,a9 (gN 4) bcF (js.map λ(k:Nat)=>T.int k) (AF n x y r acc s4 s5 s6 s7)= .ok (.nx (AF n x y r (acc++js.flatMap (pr n x y r)) t4 t5 t6 t7))
 | [],acc,s4,s5,s6,s7,_,_=>⟨s4,s5,s6,s7,by simp[a9]⟩
 | k::js,acc,s4,s5,s6,s7,hk,hl=>by
  rw[JR]at hl
  have e:=C5 n x y r acc k s5 s6 s7 (hk k JO) hx hy (by omega)
  obtain⟨t4,t5,t6,t7,ih⟩:=wa n x y r hx hy js (acc++pr n x y r k) (.va (.int k)) (.va (.tup [.int n,.int k])) (.va (.tup [.int n,.int ((k+1:Nat):Int)])) (.va (.int (dr r k))) (λj hj=>hk j (JJ _ hj)) (by rw[JZ];simp[pr];omega)
  refine⟨t4,t5,t6,t7,?_⟩
  rw[JP,dD (Z1:=AF n x y r acc (.va (.int k)) s5 s6 s7) rfl e,ih,Nh,KD]
theorem Aq (n:Nat)(x y:Int)(r:List Int)(hx:0<=x/\x<=9)(hy:0<=y/\y<=9)(h1:1<=r.length)(h4:r.length<=4):bW [.int n,.tup [.int x,.int y,.tup (r.map .int)]] = .ok (.lst (cB n x y r)):=by
 refine a6 rfl ?_
 show dH [.va (.int n),.va (.tup [.int x,.int y,.tup (r.map .int)]),.em,.em,.em,.em,.em,.em] =_
 unfold dH;rw[aw (Z':=[.va (.int n),.va (.tup [.int x,.int y,.tup (r.map .int)]),.va (.tup (r.map .int)),.em,.em,.em,.em,.em]) (bZ (t:=.tup (r.map .int)) rfl rfl)];rw[aw (Z':=AF n x y r [] .em .em .em .em) rfl];obtain⟨t4,t5,t6,t7,e⟩:=wa n x y r hx hy (J2 (r.length - 1)) [] .em .em .em .em (λk hk=>by have:=Kz.mp hk;omega) (by simp;omega)
 have e1:iR (ae (o2 jG (cl cH (ae (vr 2) aj)) (cn (.int 1))) aj) (AF n x y r [] .em .em .em .em)= .ok (rng 0 ((r.length - 1:Nat):Int)):=by
  refine FO (j:=((r.length - 1:Nat):Int)) (ax (aD (t:=.int (r.length:Nat)) (u:=.int 1) (aG (ts:=[.tup (r.map .int)]) rfl (by show Rs.ok (T.int ((r.map T.int).length:Nat))=_;rw[JQ])) rfl (congrArg (λz=>Rs.ok (T.int z)) (by omega))) rfl) (by omega) (by omega)
 rw[aw ((eU (ts:=(J2 (r.length - 1)).map λ(k:Nat)=>T.int k) (by rw[e1,jH]) e))]
 rfl
theorem gB {t:T}(h:bu t=true):∃(x y:Int) (r:List Int),t= .tup [.int x,.int y,.tup (r.map .int)]/\(0<=x/\x<=9)/\(0<=y/\y<=9)/\1<=r.length/\r.length<=4:=by
 obtain⟨x,y,r,rfl,h1,h4⟩:=fO h
 have h':(ng x y&&b9 (.tup r))=true:=h;rw[JM]at h';obtain⟨hp,hr⟩:=h';unfold ng at hp;rw[JM]at hp;obtain⟨i,rfl,i1,i2⟩:=cJ hp.1;obtain⟨j,rfl,j1,j2⟩:=cJ (t:=y) (a:=i) (b:=9) hp.2;unfold b9 at hr;rw[JM]at hr
 have hr2:((r.all λu=>a8 u 0 99)&&(match nums r with | some m=>kR m | none=>false))=true:=hr.2
 rw[JM]at hr2;obtain⟨m,em⟩:=pT hr2.1
 have e:=l8 em;subst e;rw[JQ]at h1 h4;exact⟨i,j,m,rfl,⟨by omega,by omega⟩,⟨by omega,by omega⟩,h1,h4⟩
def xB (n:Nat)(t:T):List T:=match t with
 | .tup [.int x,.int y,.tup r] =>match nums r with
  | some m=>cB n x y m
  | none=> []
 | _=> []
def bC:Nat->List T->List T
 | _,[] => []
 | i,c::r=>xB i c++bC (i+1) r
def lB (t:T):List T:=match t with
 | .tup [a,b,.int le,mo] => .tup [b,a,.int (-le)] ::(if mo.isN then []else [.tup [a,b,mo]])
 | _=> []
def Gf (cs ls:List T):List T:=bC 0 cs++ls.flatMap lB
theorem qO (n:Nat)(x y:Int)(r:List Int):xB n (.tup [.int x,.int y,.tup (r.map .int)])=cB n x y r:=by
 unfold xB;simp only[jL]
theorem Ge (n:Nat)(x y:Int)(r:List Int):(cB n x y r).length=2*(r.length - 1):=by
 unfold cB;rw[QZ]
 have:∀l:List Nat,(l.map λk=>(pr n x y r k).length).sum=2*l.length:=by
  intro l
  induction l with
  | nil=>rfl
  | cons a l ih=>rw[JP,LP,ih,JR];simp[pr];omega
 rw[this,KR]
theorem x9 {n:Nat}{t:T}(h:bu t=true):(xB n t).length<=6:=by
 obtain⟨x,y,r,rfl,_,_,h1,h4⟩:=gB h;rw[qO,Ge];omega
theorem uI:∀{cs:List T} {i:Nat},(∀c∈cs,bu c=true)->(bC i cs).length<=6*cs.length
 | [],i,_=>by simp[bC]
 | c::cs,i,h=>by
  rw[bC,JZ,JR]
  have:=x9 (n:=i) (h c JO)
  have:=uI (cs:=cs) (i:=i+1) λc hc=>h c (JJ _ hc)
  omega
theorem zQ (t:T):(lB t).length<=2:=by
 unfold lB;split
 ·rename_i a b le mo
  cases mo.isN <;> simp
 ·simp
theorem vH:∀(ls:List T),(ls.flatMap lB).length<=2*ls.length
 | [] =>by simp
 | t::ls=>by
  rw[Nh,JZ,JR]
  have:=zQ t
  have:=vH ls;omega
theorem r9 {cs:List T}{t:T}(h:bB cs t=true):∃(a b mo:T) (le:Int),t= .tup [a,b,.int le,mo]/\ai cs a=true/\ai cs b=true:=by
 obtain⟨a,b,x,y,rfl,hd,ha,hb,_⟩:=dB h;unfold dW at hd;rw[JM]at hd;obtain⟨i,rfl,_⟩:=cJ hd.1;exact⟨a,b,y,i,rfl,ha,hb⟩
theorem xA {cs:List T}{t:T}(h:bB cs t=true):bP [t] = .ok (.lst (lB t)):=by
 obtain⟨a,b,mo,le,rfl,_,_⟩:=r9 h;refine a6 rfl ?_
 show dj [.va (.tup [a,b,.int le,mo]),.em] =_
 unfold dj;rw[aw (Z':=[.va (.tup [a,b,.int le,mo]),.ow (.lst [.tup [b,a,.int (-le)]])]) (uw (l:=[.tup [b,a,.int (-le)]]) (ax (dC (ax rfl (ax rfl (ax rfl rfl))) (aF (k:=3) (by simp))) rfl) (by simp) (by simp))]
 have e:∀(Z:En) l,Z= [.va (.tup [a,b,.int le,mo]),.ow (.lst l)]->o2 kH (o2 aS (vr 0) (cn (.int 3))) (cn .non) Z= .ok (.bl (!mo.isN)):=λZ l z=>by subst z;rfl
 have e2:lB (.tup [a,b,.int le,mo])= .tup [b,a,.int (-le)] ::(if mo.isN then []else [.tup [a,b,mo]]):=rfl
 rw[e2]
 cases q:mo.isN with
 | true=>
  rw[aw (Z':=[.va (.tup [a,b,.int le,mo]),.ow (.lst [.tup [b,a,.int (-le)]])]) ((b6 (bj (by rw[e _ _ rfl,q];rfl))).trans rfl)]
  rfl
 | false=>
  rw[aw (Z':=[.va (.tup [a,b,.int le,mo]),.ow (.lst ([.tup [b,a,.int (-le)]] ++ [.tup [a,b,mo]]))]) ((d8 (bj (by rw[e _ _ rfl,q];rfl))).trans (nZ (l:=[.tup [b,a,.int (-le)]]) (dC (ax rfl (ax rfl (ax rfl rfl))) (aF (k:=3) (by simp))) rfl (by simp)))]
  rfl
abbrev bdF:En->Rs Fl:=lP 1 (cl bW (ae (vr 2) (ae (vr 3) aj)))
abbrev bdG:T->En->Rs En:=gT 2 (jy (gN 2) (jy (gN 3) sv))
theorem v9 (R:T)(s4:Sl):∀(cs:List T) (acc:List T) (i:Nat) (s2 s3:Sl),(∀c∈cs,bu c=true)->acc.length+6*cs.length<=100 →
  ∃y2 y3,a9 bdG bdF (cA i cs) [.va R,.ow (.lst acc),s2,s3,s4] = .ok (.nx [.va R,.ow (.lst (acc++bC i cs)),y2,y3,s4])
 | [],acc,i,s2,s3,_,_=>⟨s2,s3,by simp[cA,a9,bC]⟩
 | c::cs,acc,i,s2,s3,hc,hl=>by
  have h0:=hc c JO
  have hx:=x9 (n:=i) h0;obtain⟨x,y,r,rfl,a1,a2,a3,a4⟩:=gB h0;rw[JR]at hl;rw[qO]at hx
  have st:bdF [.va R,.ow (.lst acc),.va (.int i),.va (.tup [.int x,.int y,.tup (r.map .int)]),s4] = .ok (.nx [.va R,.ow (.lst (acc++cB i x y r)),.va (.int i),.va (.tup [.int x,.int y,.tup (r.map .int)]),s4]):=
   zY (l:=acc) (aG (ts:=[.int i,.tup [.int x,.int y,.tup (r.map .int)]]) rfl (Aq i x y r a1 a2 a3 a4)) rfl (by omega)
  obtain⟨z2,z3,ih⟩:=v9 R s4 cs (acc++cB i x y r) (i+1) (.va (.int i)) (.va (.tup [.int x,.int y,.tup (r.map .int)])) (λc h=>hc c (JJ _ h)) (by rw[JZ];omega)
  refine⟨z2,z3,?_⟩
  rw[cA,dD (Z1:=[.va R,.ow (.lst acc),.va (.int i),.va (.tup [.int x,.int y,.tup (r.map .int)]),s4]) rfl st,ih,bC,qO,KD]
abbrev blF:En->Rs Fl:=lP 1 (cl bP (ae (vr 4) aj))
theorem v8 (R:T)(cs:List T)(s2 s3:Sl):∀(ls:List T) (acc:List T) (s4:Sl),(∀t∈ls,bB cs t=true)->acc.length+2*ls.length<=100 →
  ∃y4,a9 (gN 4) blF ls [.va R,.ow (.lst acc),s2,s3,s4] = .ok (.nx [.va R,.ow (.lst (acc++ls.flatMap lB)),s2,s3,y4])
 | [],acc,s4,_,_=>⟨s4,by simp[a9]⟩
 | t::ls,acc,s4,hl,hn=>by
  rw[JR]at hn
  have:=zQ t
  have st:blF [.va R,.ow (.lst acc),s2,s3,.va t] = .ok (.nx [.va R,.ow (.lst (acc++lB t)),s2,s3,.va t]):=zY (l:=acc) (aG (ts:=[t]) rfl (xA (hl t JO))) rfl (by omega)
  obtain⟨y4,ih⟩:=v8 R cs s2 s3 ls (acc++lB t) (.va t) (λu h=>hl u (JJ _ h)) (by rw[JZ];omega)
  refine⟨y4,?_⟩
  rw[dD (Z1:=[.va R,.ow (.lst acc),s2,s3,.va t]) rfl st,ih,Nh,KD]
theorem ft {R:T}(hp:R.pl=true)(h:dE R=true):aL [R] = .ok .non:=by
 refine mE (Z:=[.va R]) rfl ?_
 show c6 [.va R] =_
 unfold c6;exact(b6 ((eR (k:=true) (bj (aG (ts:=[R]) rfl (by rw[sO R hp,h])))))).trans rfl
theorem w6 {R:T}(hp:R.pl=true)(h:dE R=false):aL [R] = .err "NoRecord":=by
 refine uv rfl ?_
 show c6 [.va R] =_
 unfold c6;exact(d8 ((eR (k:=false) (bj (aG (ts:=[R]) rfl (by rw[sO R hp,h])))))).trans rfl
structure Good (cs ls:List T):Prop where
 c:aR (.tup cs)=true
 l:∀t∈ls,bB cs t=true
 n:ls.length<=8
 p:(RR cs ls).pl=true
theorem Good.ok {cs ls:List T}(g:Good cs ls):dE (RR cs ls)=true:=by
 show(aR (.tup cs)&&(dh (.tup ls) 0 8&&ls.all (bB cs)))=true
 rw[g.c,LN,JM,Ka];exact⟨by simp[dh];exact g.n,g.l⟩
theorem Ao {cs ls:List T}(g:Good cs ls):fx [RR cs ls] = .ok (.lst (Gf cs ls)):=by
 obtain⟨hc,c1,c4⟩:=bF g.c
 have hn:=g.n;refine a6 rfl ?_
 show mV [.va (RR cs ls),.em,.em,.em,.em] =_
 unfold mV;rw[aw (jP (t:=.non) (aG (ts:=[RR cs ls]) rfl (ft g.p g.ok)))];rw[aw (Z':=[.va (RR cs ls),.ow (.lst []),.em,.em,.em]) (uz (by simp))]
 obtain⟨y2,y3,e⟩:=v9 (RR cs ls) .em cs [] 0 .em .em hc (by simp;omega)
 rw[aw ((eU (ts:=cA 0 cs) rfl e))]
 have:=uI (i:=0) hc;obtain⟨y4,e2⟩:=v8 (RR cs ls) cs y2 y3 ls ([] ++bC 0 cs) .em g.l (by rw[MA];omega)
 rw[aw ((eU (ts:=ls) rfl e2))]
 rfl
theorem pA {l:List T}:(T.tup l).pl=plS l:=by unfold T.pl;rfl
theorem Good.parts {cs ls:List T}(g:Good cs ls):(T.tup cs).pl=true/\∀t∈ls,t.pl=true:=by
 have:=g.p;rw[pA]at this;unfold plS at this;rw[JM]at this
 have h2:=this.2;unfold plS at h2;rw[JM,pA]at h2;exact⟨this.1,λt ht=>gp h2.1 ht⟩
theorem kL {cs:List T}{y:T}(h:ai cs y=true):y.pl=true/\y.dep<=1:=by
 obtain⟨c,k,rfl⟩:=aI h;exact⟨rfl,by simp[T.dep,deps]⟩
theorem tU {t:T}(h:sm 8 t=true):t.pl=true:=Dm t h
abbrev peF:En->Rs Fl:=lP 1 (dU (iR (ae (cl cH (ae (o2 aS (vr 3) (cn (.int 2))) aj)) aj)) [none,some 2] (gN 0) bT (br (ae (vr 1) (ae (vr 0) aj))))
theorem za (c0 s1:Sl)(x y:T)(r:List T)(i:Nat)(h:r.length<=4) :
  dU (iR (ae (cl cH (ae (o2 aS (vr 3) (cn (.int 2))) aj)) aj)) [none,some 2] (gN 0) bT (br (ae (vr 1) (ae (vr 0) aj))) [c0,s1,.va (.int i),.va (.tup [x,y,.tup r])] = .ok (.lst (ik i r.length)):=
 qb (FO (j:=(r.length:Int)) rfl (by omega) (by omega)) (aF (k:=4) (by rw[iB];exact h)) (by simp) λt _=>mk2 _ _
theorem vi:∀(cs:List T) (c0:T) (acc:List T) (i:Nat) (s2 s3:Sl),(∀c∈cs,bu c=true)->acc.length+4*cs.length<=100 →
  ∃y2 y3,a9 evG peF (cA i cs) [.va c0,.ow (.lst acc),s2,s3] = .ok (.nx [.va c0,.ow (.lst (acc++bJ i cs)),y2,y3])
 | [],c0,acc,i,s2,s3,_,_=>⟨s2,s3,by simp[cA,a9,bJ]⟩
 | c::cs,c0,acc,i,s2,s3,hc,hl=>by
  obtain⟨x,y,r,rfl,r1,r2⟩:=fO (hc c JO);rw[JR]at hl
  have st:peF [.va c0,.ow (.lst acc),.va (.int i),.va (.tup [x,y,.tup r])] = .ok (.nx [.va c0,.ow (.lst (acc++ik i r.length)),.va (.int i),.va (.tup [x,y,.tup r])]):=zY (l:=acc) (za _ _ x y r i r2) rfl (by rw[ij];omega)
  obtain⟨z2,z3,ih⟩:=vi cs c0 (acc++ik i r.length) (i+1) (.va (.int i)) (.va (.tup [x,y,.tup r])) (λc h=>hc c (JJ _ h)) (by rw[JZ,ij];omega)
  refine⟨z2,z3,?_⟩
  rw[cA,dD (Z1:=[.va c0,.ow (.lst acc),.va (.int i),.va (.tup [x,y,.tup r])]) rfl st,ih,bJ,KD]
  rfl
theorem gZ {cs ls:List T}(g:Good cs ls):cM [RR cs ls] = .ok (.lst (bJ 0 cs)):=by
 obtain⟨hc,c1,c4⟩:=bF g.c;refine a6 rfl ?_
 show mU [.va (RR cs ls),.em,.em,.em] =_
 unfold mU;rw[aw (jP (t:=.non) (aG (ts:=[RR cs ls]) rfl (ft g.p g.ok)))];rw[aw (Z':=[.va (RR cs ls),.ow (.lst []),.em,.em]) (uz (by simp))]
 obtain⟨y2,y3,e⟩:=vi cs (RR cs ls) [] 0 .em .em hc (by simp;omega)
 rw[aw ((eU (ts:=cA 0 cs) rfl e))]
 rfl
theorem lh {cs ls:List T}{t:T}(g:Good cs ls)(ht:t.pl=true)(h:ai cs t=true):bM [RR cs ls,t] = .ok .non:=by
 refine mE (Z:=[.va (RR cs ls),.va t]) rfl ?_
 show gD [.va (RR cs ls),.va t] =_
 unfold gD;exact(b6 ((eR (k:=true) (bj (aG (ts:=[.tup cs,t]) rfl (by rw[qo cs t g.c ht,h])))))).trans rfl
theorem ko {g:T->En->Rs En}{F:En->Rs Fl}(J:En->Prop){ts:List T}(h:∀t∈ts,∀Z,J Z->∃Z1 Z2,g t Z= .ok Z1/\F Z1= .ok (.nx Z2)/\J Z2){Z:En}(hj:J Z):∃Z',a9 g F ts Z= .ok (.nx Z')/\J Z':=
 (r0 (p:=λ_=>true) J ts (λt ht Z hj=>by
  obtain⟨Z1,Z2,a,b,c⟩:=h t ht Z hj;exact⟨Z1,a,λ_=>⟨Z2,b,c⟩,λh=>by cases h⟩) Z hj).1 (by simp)
theorem p2 {a b:En->Rs T}{t u:T}{Z:En}(ha:a Z= .ok t)(hb:b Z= .ok u):br (ae a (ae b aj)) Z= .ok (.tup [t,u]):=dC (ax ha (ax hb rfl)) (aF (k:=2) (by simp))
theorem wC {l:List T}:gm [.lst l] = .ok (.tup l):=rfl
theorem C4 {cs ls:List T}(g:Good cs ls):(Gf cs ls).length<=60:=by
 unfold Gf;rw[JZ];obtain⟨hc,c1,c4⟩:=bF g.c
 have:=uI (i:=0) hc
 have:=vH ls
 have:=g.n;omega
end G
namespace G
open PySem Tr Gr
structure N2 where
 c:Int
 k:Int
deriving DecidableEq
theorem N2.ext':∀{u v:N2},u.c=v.c->u.k=v.k->u=v
 | ⟨_,_⟩,⟨_,_⟩,rfl,rfl=>rfl
def en (v:N2):T:=.tup [.int v.c,.int v.k]
def eB (x:N2×N2×Int):T:=.tup [en x.1,en x.2.1,.int x.2.2]
def eN (ks:List Nat):List T:=ks.map λk=> .int (k:Nat)
def eW (x:Int×List Nat):T:=.tup [.int x.1,.lst (eN x.2)]
def ky (v:N2):List L2.Key:=[.inl v.c,.inl v.k]
theorem cg (v:N2):keyOf (en v)=some (ky v):=rfl
theorem p0 {u v:N2}(h:some (ky u)=some (ky v)):u=v:=by
 injection h with h
 injection h with h1 h2
 injection h2 with h2 _
 injection h1 with h1
 injection h2 with h2
 exact N2.ext' h1 h2
theorem FW {u v:N2}(h:en u=en v):u=v:=p0 (by rw[<-cg u,<-cg v,h])
theorem AE (u v:N2):aM (en u) (en v)=decide (u=v):=by
 unfold en aM beqTs aM beqTs beqTs
 by_cases h:u=v
 ·subst h;simp[aM]
 ·have:¬ (u.c=v.c/\u.k=v.k):=λz=>h (N2.ext' z.1 z.2)
  simp[h,aM];exact λz=>λy=>this ⟨z,y⟩
theorem vU (g:N2->T)(v:N2):∀(ns:List N2),jv (ns.map en) (ns.map g) (ky v)=if v∈ns then some (g v)else none
 | [] =>rfl
 | u::ns=>by
  rw[JP,JP,jv,cg]
  by_cases h:u=v
  ·subst h;rw[if_pos rfl,if_pos JO]
  ·rw[if_neg (λz=>h (p0 z)),vU g v ns]
   have:(v∈u::ns)↔v∈ns:=by rw[JT];exact⟨λz=>z.elim (λy=>absurd y.symm h) id,.inr⟩
   simp only[this]
theorem mK (x:T)(v:N2)(g:N2->T):∀(ns:List N2),v∉ns->fB (en v) x (ns.map en) (ns.map g)=(ns.map en++ [en v],ns.map g++ [x])
 | [],_=>rfl
 | u::ns,h=>by
  rw[JT,not_or]at h;rw[JP,JP,fB,cg,cg,if_neg (λz=>h.1 (p0 z).symm),mK x v g ns h.2]
  rfl
theorem vS (x:T)(v:N2)(g:N2->T):∀(ns:List N2),ns.Nodup->v∈ns->fB (en v) x (ns.map en) (ns.map g)=(ns.map en,ns.map λu=>if u=v then x else g u)
 | [],_,h=>by simp at h
 | u::ns,hn,h=>by
  rw[KG]at hn;rw[JP,JP,JP,fB,cg,cg]
  by_cases z:u=v
  ·subst z
   rw[if_pos rfl,if_pos rfl]
   congr 2
   exact KO λw hw=>by rw[if_neg (λ(y:w=u)=>hn.1 (y▸hw))]
  ·rw[if_neg (λy=>z (p0 y)),if_neg z]
   have h':v∈ns:=(JT.mp h).elim (λy=>absurd y.symm z) id
   rw[vS x v g ns hn.2 h']
theorem iI {α:Type}[DecidableEq α]:∀{l m:List α},l.Nodup->(∀x∈l,x∈m)->l.length<=m.length
 | [],_,_,_=>KY _
 | x::l,m,hn,h=>by
  rw[KG]at hn
  have hx:=h x JO
  have:=iI (m:=m.erase x) hn.2 λy hy=>(OA (λ(z:y=x)=>hn.1 (z▸hy))).mpr (h y (JJ _ hy))
  rw[PH hx]at this
  have:0<m.length:=Qe hx;rw[JR];omega
def oW (o:Option (Int×List Nat)):T:=match o with
 | some x=>eW x
 | none=> .non
structure DR (P ns:List N2)(b:bQ N2):Prop where
 nd:ns.Nodup
 mem:∀v,v∈ns↔(b v).isSome=true
 sub:∀v∈ns,v∈P
def dV (ns:List N2)(b:bQ N2):List T:=ns.map λv=>oW (b v)
theorem DR.get {P ns:List N2}{b:bQ N2}(D:DR P ns b)(v:N2):jv (ns.map en) (dV ns b) (ky v)=(b v).map eW:=by
 unfold dV;rw[vU (λv=>oW (b v))]
 have:=D.mem v
 cases q:b v with
 | none=>rw[q]at this;rw[if_neg (λz=>by simpa using this.mp z)];rfl
 | some x=>rw[q]at this;rw[if_pos (this.mpr rfl)];rfl
theorem DR.put {P ns:List N2}{b:bQ N2}(D:DR P ns b){v:N2}(hv:v∈P)(y:Int×List Nat):∃ns',DR P ns' (Gr.put b v y)/\fB (en v) (eW y) (ns.map en) (dV ns b)=(ns'.map en,dV ns' (Gr.put b v y)):=by
 by_cases h:v∈ns
 ·refine⟨ns,⟨D.nd,λu=> ?_,D.sub⟩,?_⟩
  ·by_cases z:u=v
   ·subst z;rw[dw];exact⟨λ_=>rfl,λ_=>h⟩
   ·rw[jn z];exact D.mem u
  ·unfold dV
   rw[vS _ _ _ _ D.nd h]
   congr 1
   refine KO λu _=> ?_
   by_cases z:u=v
   ·subst z;rw[if_pos rfl,dw];rfl
   ·rw[if_neg z,jn z]
 ·refine⟨ns++ [v],⟨?_,λu=> ?_,λu hu=> ?_⟩,?_⟩
  ·exact LJ.mpr ⟨D.nd,by simp,λx hx y hy=>by simp at hy;subst hy;exact λz=>h (z▸hx)⟩
  ·rw[Kg,JX]
   by_cases z:u=v
   ·subst z;rw[dw];exact⟨λ_=>rfl,λ_=> .inr rfl⟩
   ·rw[jn z,<-D.mem u];exact⟨λw=>w.elim id λy=>absurd y z,.inl⟩
  ·rcases Kg.mp hu with w | w
   ·exact D.sub u w
   ·rw[JX.mp w];exact hv
  ·unfold dV
   rw[mK _ _ _ _ h,Ld,Ld]
   congr 1
   congr 1
   ·refine KO λu hu=> ?_
    rw[jn (λ(z:u=v)=>h (z▸hu))]
   ·simp[dw,oW]
theorem Ap {P ns:List N2}{b:bQ N2}(D:DR P ns b)(x:N2×N2×Int)(d:Int)(w:List Nat) :
  cL [.dct (ns.map en) (dV ns b),eB x,eW (d,w)] = .ok (.bl (dF b x.2.1 (d+x.2.2))):=by
 refine a6 rfl ?_
 show iw [.va (.dct (ns.map en) (dV ns b)),.va (eB x),.va (eW (d,w)),.em] =_
 unfold iw
 have g:oD gO (vr 0) (o2 aS (vr 1) (cn (.int 1))) [.va (.dct (ns.map en) (dV ns b)),.va (eB x),.va (eW (d,w)),.em] = .ok (oW (b x.2.1)):=by
  refine Hy (ks:=ns.map en) (vs:=dV ns b) (u:=en x.2.1) rfl rfl ?_
  unfold gO;rw[cg];simp only[D.get];cases b x.2.1 <;> rfl
 rw[aw (bZ (t:=oW (b x.2.1)) (Z':=[.va (.dct (ns.map en) (dV ns b)),.va (eB x),.va (eW (d,w)),.va (oW (b x.2.1))]) g rfl)];refine bH ?_
 unfold dF
 cases q:b x.2.1 with
 | none=>exact p6 (aD (t:=.non) (u:=.non) rfl rfl rfl)
 | some y=>exact(p7 (aD (t:=eW y) (u:=.non) rfl rfl rfl)).trans (aD (t:=.int (d+x.2.2)) (u:=.int y.1) rfl rfl rfl)
abbrev AY:En->Rs Fl:=(ay (cw (ln 2 (oD gO (vr 2) (o2 aS (vr 5) (cn (.int 0))))) (gN 6)) (ay (eO (tD (tb (o2 jQ (vr 6) (cn .non))) (eF (AZ 2 (tb (cl cL (ae (vr 2) (ae (vr 5) (ae (vr 6) aj)))))))) Dq sN) (ay (cw (o2 aY (o2 aS (vr 6) (cn (.int 1))) (fD (ae (vr 4) aj))) (gN 7)) (ay (cw (dU (iS (vr 7)) [none,some 0] (gN 0) bT (o2 aS (o2 aS (vr 1) (vr 0)) (cn (.int 0)))) (gN 8)) (ay (eO (tb (o2 tE (o2 aS (vr 5) (cn (.int 1))) (vr 8))) (aO (br (ae (cn .non) (ae (sl (vr 7) (pS (oL fM (vr 8) (o2 aS (vr 5) (cn (.int 1))))) pN) aj)))) sN) (ay (wK 2 (o2 aS (vr 5) (cn (.int 1))) (br (ae (o2 aY (o2 aS (vr 6) (cn (.int 0))) (o2 aS (vr 5) (cn (.int 2)))) (ae (vr 7) aj)))) (cw (cn (.bl true)) (gN 3))))))))
abbrev Iv:T->En->Rs En:=gT 2 (jy (gN 4) (jy (gN 5) sv))
def eL (L:cC N2):T:=.lst (L.map eB)
def yD (L:cC N2)(t:T):T:=match t with
 | .int j=>match L[j.toNat]? with
  | some x=>en x.1
  | none=> .non
 | _=> .non
theorem vk {L:cC N2}:∀{ks:List Nat} {a b:N2},Ch L a ks b->(eN ks).map (yD L)=(dJ L ks).map en
 | [],_,_,_=>rfl
 | k::r,a,b,h=>by
  rw[h.IL];obtain⟨c,m,e,h⟩:=h
  show yD L (.int k)::(eN r).map (yD L)=en a::(dJ L r).map en
  rw[vk h]
  congr 1
  unfold yD;simp only[Lf,e]
theorem AK (v:N2):∀(l:List N2),a0 (en v) (l.map en)=decide (v∈l)
 | [] =>rfl
 | u::l=>by
  have ih:=AK v l;unfold a0 at ih ⊢;rw[JP,MH,ih,AE]
  by_cases h:u=v
  ·subst h;simp
  ·have h':¬ v=u:=λz=>h z.symm
   simp[h,h']
theorem sG (v:N2):∀(l:List N2) (n:Nat),v∈l->iV (en v) (l.map en) n=some (n+l.idxOf v)
 | [],n,h=>by simp at h
 | u::l,n,h=>by
  rw[JP,iV,AE,S1]
  by_cases z:u=v
  ·subst z;simp
  ·have h':v∈l:=(JT.mp h).elim (λy=>absurd y.symm z) id
   have zb:(u == v)=false:=by rw[beq_eq_false_iff_ne];exact z
   rw[zb,decide_eq_false z,if_neg J3,sG v l (n+1) h'];simp only[cond_false]
   congr 1
   omega
theorem Dy (v:N2):(en v).nd=true:=rfl
theorem pX {α:Type}(f:α->T)(h:∀a,(f a).nd=true):∀l:List α,nds (l.map f)=true
 | [] =>rfl
 | a::l=>by rw[JP,nds,h a,pX f h l];rfl
theorem Ay (v:N2):(en v).dep<=60:=by show(T.tup [.int v.c,.int v.k]).dep<=60;simp[T.dep,deps]
theorem HI (v:N2)(l:List N2):tE (en v) (.lst (l.map en))= .ok (.bl (decide (v∈l))):=by
 show(if (_\/_)/\_/\(T.lst (l.map en)).nd=true then _ else _)=_
 rw[if_pos ⟨.inl (Ay v),rfl,pX en Dy l⟩,AK]
theorem Aa (v:N2)(l:List N2)(h:v∈l):fM (.lst (l.map en)) (en v)= .ok (.int ((l.idxOf v:Nat):Int)):=by
 unfold fM;simp only;rw[if_pos ⟨.inl (Ay v),rfl,pX en Dy l⟩,sG v l 0 h,Pf]
theorem F3 (p q:List Nat):eN (p++q)=eN p++eN q:=by unfold eN;rw[Ld]
theorem zw (D:Bool):∀ks:List Nat,nks D (eN ks)=true
 | [] =>rfl
 | k::r=>by show nks D (.int k::eN r)=true;unfold nks;rw[zw D r];rfl
theorem Ch.len {L:cC N2}{ks:List Nat}{a b:N2}(h:Ch L a ks b)(hn:(dJ L ks).Nodup):ks.length<=L.length:=by
 have:=iI (h.nodup hn) (m:=J2 L.length) λk hk=>Kz.mpr (h.lt k hk)
 rwa [KR]at this
abbrev sE (L:cC N2)(st:T)(o:OT)(b:Bool)(k:Nat)(x:N2×N2×Int)(s6 s7 s8:Sl):En:=[.va (eL L),.va st,.ow o,.va (.bl b),.va (.int k),.va (eB x),s6,s7,s8]
def DK (L:cC N2)(P ns:List N2)(b:bQ N2)(k:Nat)(x:N2×N2×Int)(st:T)(mv:Bool)(s6 s7 s8:Sl):Sum (Option (bQ N2)) (List Nat)->Prop
 | .inl none=> ∃s6' s7' s8',AY (sE L st (.dct (ns.map en) (dV ns b)) mv k x s6 s7 s8)= .ok (.ct (sE L st (.dct (ns.map en) (dV ns b)) mv k x s6' s7' s8'))
 | .inl (some b')=> ∃ns' s6' s7' s8',DR P ns' b'/\AY (sE L st (.dct (ns.map en) (dV ns b)) mv k x s6 s7 s8)= .ok (.nx (sE L st (.dct (ns'.map en) (dV ns' b')) true k x s6' s7' s8'))
 | .inr q=>AY (sE L st (.dct (ns.map en) (dV ns b)) mv k x s6 s7 s8)= .ok (.rt (.tup [.non,.lst (eN q)]))
theorem Bu {L:cC N2}{S P ns:List N2}{b:bQ N2}{k:Nat}{x:N2×N2×Int}(K:Kept L S b)(D:DR P ns b)(hL:L.length<=500)(hP:P.length<1000)(e:L[k]? =some x)(hx:x.2.1∈P)(st:T)(mv:Bool)(s6 s7 s8:Sl) :
  DK L P ns b k x st mv s6 s7 s8 (gc L b k x):=by
 obtain⟨a,c,m⟩:=x;unfold DK
 generalize hks:ns.map en=ks
 generalize hvs:dV ns b=vs
 have get:∀s7 s8,ln 2 (oD gO (vr 2) (o2 aS (vr 5) (cn (.int 0)))) (sE L st (.dct ks vs) mv k (a,c,m) s6 s7 s8)= .ok (oW (b a)):=λs7 s8=>by
  refine FD (o:=.dct ks vs) rfl (Hy (ks:=ks) (vs:=vs) (u:=en a) rfl rfl ?_) ?_
  ·unfold gO
   rw[cg,<-hks,<-hvs];simp only[D.get];cases b a <;> rfl
  ·cases b a with
   | none=>rfl
   | some y=>show nks true [.int y.1,.lst (eN y.2)] =true;simp[nks,T.nk,zw]
 have s1:∀G,ay (cw (ln 2 (oD gO (vr 2) (o2 aS (vr 5) (cn (.int 0))))) (gN 6)) G (sE L st (.dct ks vs) mv k (a,c,m) s6 s7 s8)=G (sE L st (.dct ks vs) mv k (a,c,m) (.va (oW (b a))) s7 s8):=λG=>
  aw (bZ (t:=oW (b a)) (get s7 s8) rfl)
 cases qa:b a with
 | none=>
  rw[show gc L b k (a,c,m)= .inl none from by unfold gc;simp only[qa]]
  simp only;refine⟨.va .non,s7,s8,?_⟩
  unfold AY;rw[s1,qa]
  exact zV (d8 (F:=Dq) (vJ (bj (aD (t:=.non) (u:=.non) rfl rfl rfl))))
 | some y=>
  obtain⟨d,w⟩:=y
  have bt:∀s7 s8,AZ 2 (tb (cl cL (ae (vr 2) (ae (vr 5) (ae (vr 6) aj))))) (sE L st (.dct ks vs) mv k (a,c,m) (.va (eW (d,w))) s7 s8)= .ok (dF b c (d+m)):=λs7 s8=>by
   refine DC (bj (aG (ts:=[.dct ks vs,eB (a,c,m),eW (d,w)]) rfl ?_))
   rw[<-hks,<-hvs];exact Ap D (a,c,m) d w
  have nn:tb (o2 jQ (vr 6) (cn .non)) (sE L st (.dct ks vs) mv k (a,c,m) (.va (eW (d,w))) s7 s8)= .ok false:=bj (aD (t:=eW (d,w)) (u:=.non) rfl rfl rfl)
  have cond:=kK nn (eR (bt s7 s8))
  have s1':∀G,ay (cw (ln 2 (oD gO (vr 2) (o2 aS (vr 5) (cn (.int 0))))) (gN 6)) G (sE L st (.dct ks vs) mv k (a,c,m) s6 s7 s8)=G (sE L st (.dct ks vs) mv k (a,c,m) (.va (eW (d,w))) s7 s8):=λG=>by rw[s1 G,qa];rfl
  cases hb:dF b c (d+m)with
  | false=>
   rw[show gc L b k (a,c,m)= .inl none from by unfold gc;simp only[qa,hb];rfl]
   simp only;rw[hb]at cond;refine⟨.va (eW (d,w)),s7,s8,?_⟩
   unfold AY;rw[s1']
   exact zV (d8 (F:=Dq) cond)
  | true=>
   rw[hb]at cond;obtain⟨s,hs,h1,h2,h3,h4,h5⟩:=K.walk a d w qa
   have hch:Ch L s (w++ [k]) c:=h1.snoc e
   have hwl:w.length<=500:=Kf (Ch.len h1 h4) hL
   have s2:∀G,ay (eO (tD (tb (o2 jQ (vr 6) (cn .non))) (eF (AZ 2 (tb (cl cL (ae (vr 2) (ae (vr 5) (ae (vr 6) aj)))))))) Dq sN) G (sE L st (.dct ks vs) mv k (a,c,m) (.va (eW (d,w))) s7 s8)=G (sE L st (.dct ks vs) mv k (a,c,m) (.va (eW (d,w))) s7 s8):=λG=>
    aw (Z':=(sE L st (.dct ks vs) mv k (a,c,m) (.va (eW (d,w))) s7 s8)) ((b6 (F:=Dq) (G:=sN) cond).trans rfl)
   have wk:o2 aY (o2 aS (vr 6) (cn (.int 1))) (fD (ae (vr 4) aj)) (sE L st (.dct ks vs) mv k (a,c,m) (.va (eW (d,w))) s7 s8)= .ok (.lst (eN (w++ [k]))):=by
    refine aD (t:=.lst (eN w)) (u:=.lst (eN [k])) rfl (nX (ts:=[.int k]) rfl (aF (k:=1) (by simp))) ?_
    show jf (eN w++eN [k])=_
    rw[<-F3];unfold jf;rw[if_pos (aF (k:=1000) (by unfold eN;rw[JQ,JZ];simp;omega))]
   have s3:∀G,ay (cw (o2 aY (o2 aS (vr 6) (cn (.int 1))) (fD (ae (vr 4) aj))) (gN 7)) G (sE L st (.dct ks vs) mv k (a,c,m) (.va (eW (d,w))) s7 s8)=G (sE L st (.dct ks vs) mv k (a,c,m) (.va (eW (d,w))) (.va (.lst (eN (w++ [k])))) s8):=λG=>aw (bZ wk rfl)
   have ps:dU (iS (vr 7)) [none,some 0] (gN 0) bT (o2 aS (o2 aS (vr 1) (vr 0)) (cn (.int 0))) (sE L st (.dct ks vs) mv k (a,c,m) (.va (eW (d,w))) (.va (.lst (eN (w++ [k])))) s8)= .ok (.lst ((dJ L (w++ [k])).map en)):=by
    rw[<-vk hch];refine qb (ts:=eN (w++ [k])) (fz rfl) (aF (k:=1000) (by unfold eN;rw[JQ,JZ];simp;omega)) (by simp) λt ht=> ?_
    unfold eN at ht;obtain⟨j,hj,rfl⟩:=J5.mp ht
    have hjl:=hch.lt j hj;refine aD (t:=eB L[j]) (u:=.int 0) (HC (l:=L.map eB) (n:=j) rfl rfl (by rw[Kk,JU hjl];rfl)) rfl ?_
    unfold yD;simp only[Lf,JU hjl]
    rfl
   have s4:∀G,ay (cw (dU (iS (vr 7)) [none,some 0] (gN 0) bT (o2 aS (o2 aS (vr 1) (vr 0)) (cn (.int 0)))) (gN 8)) G (sE L st (.dct ks vs) mv k (a,c,m) (.va (eW (d,w))) (.va (.lst (eN (w++ [k])))) s8)=G (sE L st (.dct ks vs) mv k (a,c,m) (.va (eW (d,w))) (.va (.lst (eN (w++ [k])))) (.va (.lst ((dJ L (w++ [k])).map en)))):=λG=>aw (bZ ps rfl)
   have inn:tb (o2 tE (o2 aS (vr 5) (cn (.int 1))) (vr 8)) (sE L st (.dct ks vs) mv k (a,c,m) (.va (eW (d,w))) (.va (.lst (eN (w++ [k])))) (.va (.lst ((dJ L (w++ [k])).map en))))= .ok (decide (c∈dJ L (w++ [k]))):=
    bj (aD (t:=en c) (u:=.lst ((dJ L (w++ [k])).map en)) rfl rfl (HI c _))
   by_cases hn:c∈dJ L (w++ [k])
   ·rw[show gc L b k (a,c,m)= .inr ((w++ [k]).drop ((dJ L (w++ [k])).idxOf c))from by unfold gc;simp only[qa,hb,if_pos hn,if_true]]
    simp only;unfold AY;rw[s1',s2,s3,s4];rw[decide_eq_true hn]at inn;refine fy ((d8 inn).trans (bH ?_))
    have sle:sl (vr 7) (pS (oL fM (vr 8) (o2 aS (vr 5) (cn (.int 1))))) pN (sE L st (.dct ks vs) mv k (a,c,m) (.va (eW (d,w))) (.va (.lst (eN (w++ [k])))) (.va (.lst ((dJ L (w++ [k])).map en))))= .ok (.lst (eN ((w++ [k]).drop ((dJ L (w++ [k])).idxOf c)))):=by
     rw[Hv (l:=eN (w++ [k])) (lo:=some (((dJ L (w++ [k])).idxOf c:Nat):Int)) (hi:=none) rfl (k_pS (Hw (ks:=(dJ L (w++ [k])).map en) (u:=en c) rfl rfl (Aa c _ hn))) rfl,AB];unfold eN;rw[List.map_drop]
    exact(dC (ts:=[.non,.lst (eN ((w++ [k]).drop ((dJ L (w++ [k])).idxOf c)))]) (ax rfl (ax sle rfl)) (aF (k:=2) (by simp)))
   ·rw[show gc L b k (a,c,m)= .inl (some (Gr.put b c (d+m,w++ [k])))from by unfold gc;simp only[qa,hb,if_neg hn,if_true]]
    simp only;rw[decide_eq_false hn]at inn;obtain⟨ns',D',hd⟩:=D.put hx (d+m,w++ [k]);refine⟨ns',.va (eW (d,w)),.va (.lst (eN (w++ [k]))),.va (.lst ((dJ L (w++ [k])).map en)),D',?_⟩
    unfold AY;rw[s1',s2,s3,s4];rw[aw (Z':=(sE L st (.dct ks vs) mv k (a,c,m) (.va (eW (d,w))) (.va (.lst (eN (w++ [k])))) (.va (.lst ((dJ L (w++ [k])).map en))))) ((b6 (G:=sN) inn).trans rfl)]
    have pt:wK 2 (o2 aS (vr 5) (cn (.int 1))) (br (ae (o2 aY (o2 aS (vr 6) (cn (.int 0))) (o2 aS (vr 5) (cn (.int 2)))) (ae (vr 7) aj))) (sE L st (.dct ks vs) mv k (a,c,m) (.va (eW (d,w))) (.va (.lst (eN (w++ [k])))) (.va (.lst ((dJ L (w++ [k])).map en))))
      = .ok (.nx (sE L st (.dct (ns'.map en) (dV ns' (Gr.put b c (d+m,w++ [k])))) mv k (a,c,m) (.va (eW (d,w))) (.va (.lst (eN (w++ [k])))) (.va (.lst ((dJ L (w++ [k])).map en))))):=by
     have ev:br (ae (o2 aY (o2 aS (vr 6) (cn (.int 0))) (o2 aS (vr 5) (cn (.int 2)))) (ae (vr 7) aj)) (sE L st (.dct ks vs) mv k (a,c,m) (.va (eW (d,w))) (.va (.lst (eN (w++ [k])))) (.va (.lst ((dJ L (w++ [k])).map en))))= .ok (eW (d+m,w++ [k])):=
      dC (ts:=[.int (d+m),.lst (eN (w++ [k]))]) rfl (aF (k:=2) (by simp))
     have ek:o2 aS (vr 5) (cn (.int 1)) (sE L st (.dct ks vs) mv k (a,c,m) (.va (eW (d,w))) (.va (.lst (eN (w++ [k])))) (.va (.lst ((dJ L (w++ [k])).map en))))= .ok (en c):=rfl
     show(br _ _ >>= λv=>o2 aS (vr 5) (cn (.int 1)) _ >>= λkk=>match keyOf kk with | some _=>if ks.length<1000 then Rs.ok (Fl.nx _)else .bad | none=> .bad)=_
     rw[ev,aB,ek,aB,cg]
     have hlen:ks.length<1000:=by rw[<-hks,JQ];exact MX (iI D.nd D.sub) hP
     simp only[if_pos hlen]
     have hd1:fB (en c) (eW (d+m,w++ [k])) ks vs=(ns'.map en,dV ns' (Gr.put b c (d+m,w++ [k]))):=by rw[<-hks,<-hvs];exact hd
     rw[hd1]
     rfl
    rw[aw pt];exact bZ (t:=.bl true) rfl rfl
def xR (L:cC N2)(st:T)(ns:List N2)(b:bQ N2)(mv:Bool)(s4 s5 s6 s7 s8:Sl):En:=[.va (eL L),.va st,.ow (.dct (ns.map en) (dV ns b)),.va (.bl mv),s4,s5,s6,s7,s8]
def AN (L:cC N2)(P:List N2)(st:T)(X:Rs Fl):Sum (bQ N2×Bool) (List Nat)->Prop
 | .inr q=>X= .ok (.rt (.tup [.non,.lst (eN q)]))
 | .inl (b',mv')=> ∃ns' s4 s5 s6 s7 s8,DR P ns' b'/\X= .ok (.nx (xR L st ns' b' mv' s4 s5 s6 s7 s8))
theorem pf {L:cC N2}{S P:List N2}(hL:L.length<=500)(hP:P.length<1000)(hx:∀x∈L,x.2.1∈P)(st:T):∀(r:cC N2) (k:Nat) (b:bQ N2) (mv:Bool) (ns:List N2) (s4 s5 s6 s7 s8:Sl),L.drop k=r->Kept L S b->DR P ns b →
  AN L P st (a9 Iv AY (cA k (r.map eB)) (xR L st ns b mv s4 s5 s6 s7 s8)) (gI L k r b mv)
 | [],k,b,mv,ns,s4,s5,s6,s7,s8,_,K,D=>⟨ns,s4,s5,s6,s7,s8,D,rfl⟩
 | x::r,k,b,mv,ns,s4,s5,s6,s7,s8,hr,K,D=>by
  have e:L[k]? =some x:=by
   have:=congrArg (·[0]?) hr
   simpa using this
  have hr':L.drop (k+1)=r:=by
   have:=congrArg (List.drop 1) hr
   simpa [List.drop_drop,R9]using this
  have tg:Iv (.tup [.int k,eB x]) (xR L st ns b mv s4 s5 s6 s7 s8)= .ok [.va (eL L),.va st,.ow (.dct (ns.map en) (dV ns b)),.va (.bl mv),.va (.int k),.va (eB x),s6,s7,s8]:=rfl
  have tn:=Bu K D hL hP e (hx x (L3 e)) st mv s6 s7 s8;rw[gI,JP,cA]
  cases q:gc L b k x with
  | inr w=>
   rw[q]at tn;simp only;unfold AN
   exact p9 tg tn
  | inl o=>
   rw[q]at tn
   cases o with
   | none=>
    obtain⟨s6',s7',s8',tn⟩:=tn;simp only;rw[Cy tg tn]
    exact pf hL hP hx st r (k+1) b mv ns _ _ _ _ _ hr' K D
   | some b'=>
    obtain⟨ns',s6',s7',s8',D',tn⟩:=tn;simp only;rw[dD tg tn];refine pf (S:=S) hL hP hx st r (k+1) b' true ns' _ _ _ _ _ hr' ?_ D'
    -- what is kept stays so
    obtain⟨a,c,m⟩:=x;unfold gc at q
    cases qa:b a with
    | none=>simp only[qa]at q;cases q
    | some y=>
     obtain⟨d,w⟩:=y;simp only[qa]at q
     split at q
     ·rename_i hb
      split at q
      ·cases q
      ·rename_i hn
       cases q;exact K.put e qa hb hn
     ·cases q
abbrev wF:En->Rs Fl:=ay (cw (cn (.bl false)) (gN 3)) (dY (iE (ae (vr 0) aj)) Iv AY)
def SetP (L:cC N2)(P:List N2)(st:T)(X:Rs Fl):Sum (bQ N2) (List Nat)->Prop
 | .inr q=>X= .ok (.rt (.tup [.non,.lst (eN q)]))
 | .inl b'=> ∃ns' s4 s5 s6 s7 s8,DR P ns' b'/\X= .ok (.nx (xR L st ns' b' false s4 s5 s6 s7 s8))
theorem rl {L:cC N2}{S P:List N2}(hL:L.length<=500)(hP:P.length<1000)(hx:∀x∈L,x.2.1∈P)(st:T):∀(n:Nat) (b:bQ N2) (ns:List N2) (s4 s5 s6 s7 s8:Sl) (r:Sum (bQ N2) (List Nat)),Kept L S b->DR P ns b->Gr.settle L n b=some r →
  SetP L P st (bp (tb (vr 3)) wF (n+1) (xR L st ns b true s4 s5 s6 s7 s8)) r
 | 0,_,_,_,_,_,_,_,_,_,_,h=>by cases h
 | n+1,b,ns,s4,s5,s6,s7,s8,r,K,D,h=>by
  have sw:=pf hL hP hx st L 0 b false ns s4 s5 s6 s7 s8 rfl K D
  have ok:=gQ (S:=S) L 0 b false rfl K
  have body:∀X,a9 Iv AY (cA 0 (L.map eB)) (xR L st ns b false s4 s5 s6 s7 s8)= .ok X->wF (xR L st ns b true s4 s5 s6 s7 s8)= .ok X:=λX hX=>by
   show ay _ _ _=_
   rw[aw (Z':=xR L st ns b false s4 s5 s6 s7 s8) (bZ (t:=.bl false) rfl rfl)];exact eU (ts:=cA 0 (L.map eB)) (HD rfl) hX
  have tt:tb (vr 3) (xR L st ns b true s4 s5 s6 s7 s8)= .ok true:=rfl;rw[Gr.settle]at h
  revert sw ok h
  generalize gI L 0 L b false=R
  intro h sw ok
  cases R with
  | inr q=>
   simp only at h;cases h
   exact zU tt (body _ sw)
  | inl p=>
   obtain⟨b',mv'⟩:=p;obtain⟨ns',t4,t5,t6,t7,t8,D',sw⟩:=sw;obtain⟨K',_⟩:=ok
   cases mv' with
   | true=>
    simp only at h
    have ih:=rl hL hP hx st n b' ns' t4 t5 t6 t7 t8 r K' D' h;rw[mC tt (body _ sw)]
    exact ih
   | false=>
    simp only at h;cases h;refine⟨ns',t4,t5,t6,t7,t8,D',?_⟩
    rw[mC tt (body _ sw)];exact si rfl
theorem gi {c:En->Rs Bool}{F:En->Rs Fl}{x:Fl}:∀{n m:Nat} {Z:En},n<=m->bp c F n Z= .ok x->bp c F m Z= .ok x
 | 0,_,_,_,h=>by cases h
 | n+1,0,_,hl,_=>absurd hl (by omega)
 | n+1,m+1,Z,hl,h=>by
  unfold bp at h ⊢
  cases q:c Z with
  | bad=>rw[q]at h;cases h
  | err _=>rw[q]at h;cases h
  | ok k=>
   rw[q]at h
   cases k with
   | false=>exact h
   | true=>
    simp only at h ⊢
    cases q2:F Z with
    | bad=>rw[q2]at h;cases h
    | err _=>rw[q2]at h;cases h
    | ok f=>
     rw[q2]at h
     cases f with
     | nx Z'=>exact gi (by omega) h
     | ct Z'=>exact gi (by omega) h
     | bk Z'=>exact h
     | rt t=>exact h
theorem yX (w:T):∀S:List N2,Ds (S.map λv=> .tup [en v,w])=some (S.map λv=>(en v,w))
 | [] =>rfl
 | v::S=>by rw[JP,Ds,cg,yX w S];rfl
theorem sP (w:T):∀(S ns:List N2) (g:N2->T),(ns++S).Nodup->(∀v∈S,g v=w)->fA (S.map λv=>(en v,w)) (ns.map en,ns.map g)=((ns++S).map en,(ns++S).map g)
 | [],ns,g,_,_=>by rw[LW];rfl
 | v::S,ns,g,hn,hg=>by
  have hv:v∉ns:=λz=>by
   rw[LJ]at hn;exact hn.2.2 v z v JO rfl
  rw[JP,fA,mK _ _ _ _ hv]
  have e1:ns.map en++ [en v] =(ns++ [v]).map en:=by rw[Ld];rfl
  have e2:ns.map g++ [w] =(ns++ [v]).map g:=by rw[Ld,<-hg v JO];rfl
  rw[e1,e2,sP w S (ns++ [v]) g (by rw[KD];exact hn) λu hu=>hg u (JJ _ hu),KD]
  rfl
theorem CT (w:T)(S:List N2)(hn:S.Nodup)(hl:S.length<=1000):jS [.lst (S.map λv=> .tup [en v,w])] = .ok (.dct (S.map en) (S.map λ_=>w)):=by
 unfold jS;simp only[yX];rw[if_pos (by rw[JQ];exact hl)]
 have:=sP w S [] (λ_=>w) (by simpa using hn) (λ_ _=>rfl)
 rw[MA]at this;rw[show(([]:List T),([]:List T))=(([]:List N2).map en,([]:List N2).map λ_=>w)from rfl,this]
def eS (S:List N2):T:=.lst (S.map en)
def C9 (L:cC N2)(P:List N2)(X:Rs T):Sum (bQ N2) (List Nat)->Prop
 | .inr q=>X= .ok (.tup [.non,.lst (eN q)])
 | .inl b'=> ∃ns',DR P ns' b'/\X= .ok (.tup [.dct (ns'.map en) (dV ns' b'),.non])
structure Il (L:cC N2)(P:List N2):Prop where
 len:L.length<=500
 size:size L<=100000000
 ends:∀x∈L,x.1∈P/\x.2.1∈P
 pl:P.length<1000
def SOk (L:cC N2)(S:List N2):Sum (bQ N2) (List Nat)->Prop
 | .inr q=>Bar L q
 | .inl b'=>Settled L S b'
theorem sM {L:cC N2}{S P:List N2}(F:Il L P)(hS:S.Nodup)(hSP:∀v∈S,v∈P):∃r,C9 L P (fw [eL L,eS S]) r/\SOk L S r:=by
 have bound:L.length*(2*size L+1)<1000000000000 - 1:=by
  have h1:=F.len
  have h2:=F.size
  have:L.length*(2*size L+1)<=500*(2*100000000+1):=Nat.mul_le_mul h1 (by omega)
  omega
 obtain⟨r,hr,ok⟩:=t9 L S bound
 have ok':SOk L S r:=by cases r <;> exact ok
 refine⟨r,?_,ok'⟩
 have hSl:S.length<=1000:=Kf (iI hS hSP) (by have:=F.pl;omega)
 have D0:DR P S (Gr.start S):=⟨hS,λv=>by unfold Gr.start;by_cases h:v∈S <;> simp[h],hSP⟩
 have dv0:dV S (Gr.start S)=S.map λ_=>eW (0,[]):=KO λv hv=>by unfold Gr.start;rw[if_pos hv];rfl
 have w:=rl F.len F.pl (λx hx=>(F.ends x hx).2) (eS S) _ (Gr.start S) S .em .em .em .em .em r (mB L S) D0 hr
 have lc:dU (iS (vr 1)) [none] (gN 0) bT (br (ae (vr 0) (ae (br (ae (cn (.int 0)) (ae (fD aj) aj))) aj))) [.va (eL L),.va (eS S),.em,.em,.em,.em,.em,.em,.em] = .ok (.lst (S.map λv=> .tup [en v,eW (0,[])])):=by
  have:=qb (fi:=iS (vr 1)) (src:=[none]) (fe:=br (ae (vr 0) (ae (br (ae (cn (.int 0)) (ae (fD aj) aj))) aj))) (h:=λt=> .tup [t,eW (0,[])]) (Z:=[.va (eL L),.va (eS S),.em,.em,.em,.em,.em,.em,.em]) (ts:=S.map en) (fz rfl) (aF (k:=1000) (by rw[JQ];exact hSl)) (by simp) λt _=>
   dC (ts:=[t,eW (0,[])]) (ax rfl (ax (dC (ts:=[.int 0,.lst []]) (ax rfl (ax (nX (ts:=[]) rfl (KY _)) rfl)) (aF (k:=2) (by simp))) rfl)) (aF (k:=2) (by simp))
  rw[this,Lc];rfl
 have n0:nN 2 (dU (iS (vr 1)) [none] (gN 0) bT (br (ae (vr 0) (ae (br (ae (cn (.int 0)) (ae (fD aj) aj))) aj)))) [.va (eL L),.va (eS S),.em,.em,.em,.em,.em,.em,.em] = .ok (.nx [.va (eL L),.va (eS S),.ow (.dct (S.map en) (dV S (Gr.start S))),.em,.em,.em,.em,.em,.em]):=by
  unfold nN;rw[lc,aB,CT _ S hS hSl,aB,dv0]
  rfl
 have main:∀G X,bp (tb (vr 3)) wF FU (xR L (eS S) S (Gr.start S) true .em .em .em .em .em)= .ok X->iu [.va (eL L),.va (eS S),.em,.em,.em,.em,.em,.em,.em] =G->(ay (bp (tb (vr 3)) wF FU) (kQ 2 (aO (br (ae (vr 2) (ae (cn .non) aj)))))) (xR L (eS S) S (Gr.start S) true .em .em .em .em .em)=G:=λG X _ h=>by
  rw[<-h];unfold iu;rw[aw n0,aw (Z':=xR L (eS S) S (Gr.start S) true .em .em .em .em .em) (bZ (t:=.bl true) rfl rfl)]
 cases r with
 | inr q=>
  have w':=gi (m:=FU) (by unfold FU;omega) w
  refine a6 rfl ?_
  show iu [.va (eL L),.va (eS S),.em,.em,.em,.em,.em,.em,.em] =_
  rw[<-main _ _ w' rfl]
  exact fy w'
 | inl b'=>
  obtain⟨ns',s4,s5,s6,s7,s8,D',w⟩:=w
  have w':=gi (m:=FU) (by unfold FU;omega) w
  refine⟨ns',D',a6 rfl ?_⟩
  show iu [.va (eL L),.va (eS S),.em,.em,.em,.em,.em,.em,.em] =_
  rw[<-main _ _ w' rfl,aw w'];exact DD (bH (dC (ts:=[.dct (ns'.map en) (dV ns' b'),.non]) rfl (aF (k:=2) (by simp))))
theorem mi {α:Type}{f:α->T}{p:α->Prop}:∀{l:List T},(∀t∈l,∃x,t=f x/\p x)->∃L:List α,l=L.map f/\∀x∈L,p x
 | [],_=>⟨[],rfl,λ_ h=>nomatch h⟩
 | t::l,h=>by
  obtain⟨x,e,hx⟩:=h t JO;obtain⟨L,e2,h2⟩:=mi (l:=l) λu hu=>h u (JJ _ hu)
  exact⟨x::L,by rw[e,e2];rfl,λy hy=>(JT.mp hy).elim (λz=>z▸hx) (h2 y)⟩
theorem uG {t:T}(h:bu t=true):∃(x y:Int) (r:List Int),t= .tup [.int x,.int y,.tup (r.map .int)]/\(0<=x/\x<=9)/\(0<=y/\y<=9)/\∀k,0<=r.getD k 0/\r.getD k 0<=99:=by
 obtain⟨x,y,r,rfl,h1,h2,h3,h4⟩:=gB h;refine⟨x,y,r,rfl,h1,h2,λk=> ?_⟩
 have h':(ng (.int x) (.int y)&&b9 (.tup (r.map .int)))=true:=h;rw[JM]at h'
 have hr:=h'.2;unfold b9 at hr;rw[JM]at hr
 have hr2:(((r.map T.int).all λu=>a8 u 0 99)&&(match nums (r.map .int)with | some m=>kR m | none=>false))=true:=hr.2
 rw[JM]at hr2
 by_cases hk:k<r.length
 ·have:=Ka.mp hr2.1 (.int r[k]) (J5.mpr ⟨_,K1 hk,rfl⟩)
  obtain⟨i,e,a,b⟩:=cJ this;cases e;simp[hk];exact⟨a,b⟩
 ·simp[hk]
theorem vq {cs:List T}{i:Nat}:∀{cs0:List T} {c k:Nat},i<=c->c<i+cs0.length->k<xS (cs0.getD (c - i) .non)->T.tup [.int c,.int k] ∈bJ i cs0:=by
 intro cs0
 induction cs0 generalizing i with
 | nil=>intro c k h1 h2;simp at h2;omega
 | cons a r ih=>
  intro c k h1 h2 h3;rw[bJ,Kg]
  by_cases e:c=i
  ·subst e
   rw[Og]at h3
   have h3':k<xS a:=h3;exact .inl (J5.mpr ⟨.int k,vz h3',rfl⟩)
  ·refine .inr (ih (by omega) (by rw[JR]at h2;omega) ?_)
   rw[show c - i=(c - (i+1))+1 by omega]at h3
   exact h3
theorem og {cs:List T}{t:T}(h:ai cs t=true):t∈bJ 0 cs:=by
 obtain⟨c,k,rfl⟩:=aI h;unfold ai at h;simp only[JM,decide_eq_true_eq]at h;obtain⟨⟨h1,h2⟩,h3,h4⟩:=h;obtain⟨c,rfl⟩:=Ks h1;obtain⟨k,rfl⟩:=Ks h3;rw[j7]at h4;exact vq (cs:=cs) (KY _) (by omega) (by rw[Oh];omega)
theorem sI {cs:List T}{t:T}(h:t∈bJ 0 cs):∃v:N2,t=en v/\True:=by
 obtain⟨c,k,rfl,_⟩:=fJ cs 0 h;exact⟨⟨c,k⟩,rfl,trivial⟩
def big (x:N2×N2×Int):Prop:=x.2.2.natAbs<=999
theorem nR {a b:Int}(ha : -99<=a/\a<=99)(hb:0<=b/\b<=9):(a*b).natAbs<=999:=by
 rw[Int.natAbs_mul]
 have h1:a.natAbs<=99:=by omega
 have h2:b.natAbs<=9:=by omega
 exact Kf (Nat.mul_le_mul h1 h2) (by decide)
theorem DJ {cs0:List T}:∀{cs:List T} {i:Nat},(∀c∈cs,bu c=true)->(∀c k:Nat,i<=c->c<i+cs.length->k<xS (cs.getD (c - i) .non)->T.tup [.int c,.int k] ∈bJ 0 cs0) →
  ∀t∈bC i cs,∃x,t=eB x/\(en x.1∈bJ 0 cs0/\en x.2.1∈bJ 0 cs0/\big x)
 | [],_,_,_,t,h=>by simp[bC]at h
 | c::cs,i,hc,hm,t,h=>by
  rw[bC,Kg]at h;rcases h with h | h
  ·obtain⟨x,y,r,rfl,hx,hy,hr⟩:=uG (hc c JO)
   have hm0:∀k,k<r.length->T.tup [.int i,.int k] ∈bJ 0 cs0:=λk hk=>hm i k (JW _) (by simp) (by rw[Og];show k<(r.map T.int).length;rw[JQ];exact hk)
   rw[qO]at h;unfold cB at h;obtain⟨k,hk,hp⟩:=MN.mp h
   have hk:=Kz.mp hk
   have d : -99<=dr r k/\dr r k<=99:=by have:=hr k;have:=hr (k+1);unfold dr;omega
   unfold pr at hp;simp only[JT,Kp,or_false]at hp;rcases hp with rfl | rfl
   ·exact⟨(⟨i,k⟩,⟨i,((k+1:Nat):Int)⟩,dr r k*y),rfl,hm0 k (by omega),hm0 (k+1) (by omega),nR d hy⟩
   ·exact⟨(⟨i,((k+1:Nat):Int)⟩,⟨i,k⟩,-dr r k*x),rfl,hm0 (k+1) (by omega),hm0 k (by omega),nR (by omega) hx⟩
  ·exact DJ (cs:=cs) (i:=i+1) (λc h=>hc c (JJ _ h)) (λc k h1 h2 h3=>hm c k (by omega) (by rw[JR];omega) (by rw[show c - i=(c - (i+1))+1 by omega];exact h3)) t h
theorem Hu {cs:List T}{u:T}(hu:bB cs u=true):∀t∈lB u,∃x,t=eB x/\(en x.1∈bJ 0 cs/\en x.2.1∈bJ 0 cs/\big x):=by
 intro t ht;obtain⟨a,b,x,y,rfl,hd,ha,hb,_⟩:=dB hu
 have ma:=og ha
 have mb:=og hb;obtain⟨va,rfl,_⟩:=sI ma;obtain⟨vb,rfl,_⟩:=sI mb;unfold dW at hd;rw[JM]at hd;obtain⟨i,rfl,i1,i2⟩:=cJ hd.1
 have e2:lB (.tup [en va,en vb,.int i,y])= .tup [en vb,en va,.int (-i)] ::(if y.isN then []else [.tup [en va,en vb,y]]):=rfl
 rw[e2]at ht;rcases JT.mp ht with rfl | ht
 ·exact⟨(vb,va,-i),rfl,mb,ma,by unfold big;simp only;omega⟩
 ·cases q:y.isN with
  | true=>rw[q]at ht;simp at ht
  | false=>
   rw[q]at ht
   have ht:t= .tup [en va,en vb,y]:=by simpa using ht
   have hw:a8 y i 999=true:=by
    cases y with
    | non=>cases q
    | _=>exact hd.2
   obtain⟨j,rfl,j1,j2⟩:=cJ hw;exact⟨(va,vb,j),ht,ma,mb,by unfold big;simp only;omega⟩
structure Rd (cs ls:List T)(L:cC N2)(P:List N2):Prop where
 g:Good cs ls
 b:Gf cs ls=L.map eB
 e:bJ 0 cs=P.map en
 f:Il L P
 nd:P.Nodup
 pl:P.length<=16
 ll:L.length<=60
 bg:∀x∈L,big x
theorem Bs {L:cC N2}(h:∀x∈L,big x):size L<=999*L.length:=by
 unfold size
 induction L with
 | nil=>simp
 | cons x L ih=>
  rw[JP,LP,JR]
  have:=ih λy hy=>h y (JJ _ hy)
  have:=h x JO;unfold big at this;omega
theorem zr {P:List N2}(h:(P.map en).Nodup):P.Nodup:=by
 induction P with
 | nil=>exact MP
 | cons a r ih=>
  rw[JP,KG]at h;exact KG.mpr ⟨λz=>h.1 (J5.mpr ⟨a,z,rfl⟩),ih h.2⟩
theorem vf {cs ls:List T}(g:Good cs ls):∃L P,Rd cs ls L P:=by
 obtain⟨hc,c1,c4⟩:=bF g.c;obtain⟨P,eP,_⟩:=mi (f:=en) (p:=λ_=>True) (l:=bJ 0 cs) λt ht=>sI ht
 have key:∀t∈Gf cs ls,∃x,t=eB x/\(en x.1∈bJ 0 cs/\en x.2.1∈bJ 0 cs/\big x):=λt ht=>by
  unfold Gf at ht;rw[Kg]at ht;rcases ht with h | h
  ·exact DJ hc (λc k h1 h2 h3=>vq (cs:=cs) h1 h2 h3) t h
  ·obtain⟨u,hu,h⟩:=MN.mp h
   exact Hu (g.l u hu) t h
 obtain⟨L,eL,hL⟩:=mi key
 have mem:∀v:N2,en v∈bJ 0 cs->v∈P:=λv hv=>by
  rw[eP]at hv;obtain⟨u,hu,e⟩:=J5.mp hv;rw[<-FW e];exact hu
 have hl:=C4 g;rw[eL,JQ]at hl
 have hp:=ly cs 0 hc;rw[eP,JQ]at hp
 have hs:=Bs λx hx=>(hL x hx).2.2
 exact⟨L,P,g,eL,eP,⟨by omega,by omega,λx hx=>⟨mem _ (hL x hx).1,mem _ (hL x hx).2.1⟩,by omega⟩,zr (eP▸iJ cs 0),by omega,hl,λx hx=>(hL x hx).2.2⟩
def run (L:cC N2):N2->List Nat->Option N2
 | a,[] =>some a
 | a,k::r=>match L[k]? with
  | some x=>if x.1=a then run L x.2.1 r else none
  | none=>none
theorem iG (f:Nat->Int):∀ks:List Nat,eQ (ks.map λk=>T.int (f k))=some (ks.map f)
 | [] =>rfl
 | k::ks=>by rw[JP,eQ,iG f ks];rfl
section
variable {cs ls:List T}{L:cC N2}{P:List N2}
theorem Rd.ev (R:Rd cs ls L P){v:N2}(h:v∈P):ai cs (en v)=true:=gh (by rw[R.e];exact J5.mpr ⟨v,h,rfl⟩)
theorem Rd.bounds (R:Rd cs ls L P):fx [RR cs ls] = .ok (eL L):=by rw[Ao R.g,R.b];rfl
theorem Rd.Jy (R:Rd cs ls L P){a b:N2}(ha:a∈P)(hb:b∈P):dR [RR cs ls,en a,en b] = .ok .non:=by
 refine mE (Z:=[.va (RR cs ls),.va (en a),.va (en b)]) rfl ?_
 show fT [.va (RR cs ls),.va (en a),.va (en b)] =_
 unfold fT;rw[aw (jP (t:=.non) (aG (ts:=[RR cs ls]) rfl (ft R.g.p R.g.ok)))];rw[aw (jP (t:=.non) (aG (ts:=[RR cs ls,en a]) rfl (lh R.g rfl (R.ev ha))))];exact jP (t:=.non) (aG (ts:=[RR cs ls,en b]) rfl (lh R.g rfl (R.ev hb)))
end
section
variable {cs ls:List T}{L:cC N2}{P:List N2}
theorem Rd.events (R:Rd cs ls L P):cM [RR cs ls] = .ok (eS P):=by rw[gZ R.g,R.e];rfl
theorem Aw {ns:List N2}{b:bQ N2}(D:DR P ns b){v:N2}{x:Int×List Nat}(e:b v=some x):il (.dct (ns.map en) (dV ns b)) (en v)= .ok (eW x):=by
 unfold il;simp only[cg];rw[D.get,e];rfl
theorem F6 {ns:List N2}{b:bQ N2}(D:DR P ns b)(v:N2):Ax (en v) (.dct (ns.map en) (dV ns b))= .ok (.bl (b v).isSome):=by
 unfold Ax;simp only[cg];rw[D.get];cases b v <;> rfl
def tmT (P:List N2)(t:N2->Int):T:=.tup (P.map λv=> .int (t v))
def Iq (b:bQ N2)(v:N2):Int:=match b v with
 | some x=>x.1
 | none=>0
def atT (t:N2->Int)(u:T):T:=match u with
 | .tup [.int c,.int k] => .int (t ⟨c,k⟩)
 | _=> .non
theorem Rd.Jx (R:Rd cs ls L P):(¬jZ L/\iM [(RR cs ls)] = .ok .non)\/(jZ L/\∃t b,Settled L P b/\(∀v∈P,∃w,b v=some (t v,w))/\iM [(RR cs ls)] = .ok (tmT P t)):=by
 obtain⟨r,hr,ok⟩:=sM R.f R.nd (λv h=>h)
 have wrap:∀{w:T},cP [(RR cs ls),eL L] = .ok w->iM [(RR cs ls)] = .ok w:=λ{w} e=>a6 rfl (bH (aG (ts:=[(RR cs ls),eL L]) (ax rfl (ax (aG (ts:=[(RR cs ls)]) rfl R.bounds) rfl)) e))
 have begin_:∀{x z:T} {y:Rs Fl},fw [eL L,eS P] = .ok (.tup [x,z])->((ay (eO (tb (o2 jQ (vr 3) (cn .non))) (aO (cn .non)) sN) (aO (cl gm (ae (dU (iS (vr 2)) [none,some 3] (gN 0) bT (o2 aS (o2 il (vr 1) (vr 0)) (cn (.int 0)))) aj)))) [.va (RR cs ls),.va (eL L),.va (eS P),.va x] =y)->dP [.va (RR cs ls),.va (eL L),.em,.em] =y:=λ{x z y} hs hy=>by
  unfold dP;rw[aw (Z':=[.va (RR cs ls),.va (eL L),.va (eS P),.em]) (bZ (aG (ts:=[(RR cs ls)]) rfl R.events) rfl)];rw[aw (Z':=[.va (RR cs ls),.va (eL L),.va (eS P),.va x]) (bZ (aD (u:=.int 0) (aG (ts:=[eL L,eS P]) rfl hs) rfl rfl) rfl)];exact hy
 cases r with
 | inr q=>exact .inl ⟨λn=>absurd n (Bar.neg ok),wrap (a6 rfl (begin_ hr (fy ((d8 (bj (aD (t:=.non) (u:=.non) rfl rfl rfl))).trans rfl))))⟩
 | inl b=>
  obtain⟨ns,D,hr⟩:=hr
  have ok:Settled L P b:=ok
  have htm:∀v∈P,∃w,b v=some (Iq b v,w):=λv hv=>by
   obtain⟨d,w,e,_⟩:=ok.least v hv v 0 (.nil v);exact⟨w,by unfold Iq;rw[e]⟩
  refine .inr ⟨(ok.holds R.f.ends htm).Jv,Iq b,b,ok,htm,wrap (a6 rfl (begin_ hr ?_))⟩
  generalize Iq b=tm at htm
  have lc:dU (iS (vr 2)) [none,some 3] (gN 0) bT (o2 aS (o2 il (vr 1) (vr 0)) (cn (.int 0))) [.va (RR cs ls),.va (eL L),.va (eS P),.va (.dct (ns.map en) (dV ns b))] = .ok (.lst ((P.map en).map (atT tm))):=
   qb (ts:=P.map en) (fz rfl) (aF (k:=16) (by rw[JQ];exact R.pl)) (by simp) λt ht=>by
    obtain⟨v,hv,rfl⟩:=J5.mp ht;obtain⟨w,e⟩:=htm v hv;exact aD (t:=eW (tm v,w)) (u:=.int 0) (aD (t:=.dct (ns.map en) (dV ns b)) (u:=en v) rfl rfl (Aw D e)) rfl rfl
  rw[Lc]at lc;rw[aw (Z':=[.va (RR cs ls),.va (eL L),.va (eS P),.va (.dct (ns.map en) (dV ns b))]) ((b6 (bj (aD (t:=.dct (ns.map en) (dV ns b)) (u:=.non) rfl rfl rfl))).trans rfl)];exact bH (aG (ax lc rfl) rfl)
theorem Rd.Jt (R:Rd cs ls L P):∃hw:Bool,dq [(RR cs ls)] = .ok (.bl hw)/\(hw=true↔jZ L):=by
 rcases R.Jx with⟨n,e⟩ | ⟨n,t,b,_,_,e⟩
 ·exact⟨false,a6 rfl (bH (aD (t:=.non) (u:=.non) (aG (ts:=[(RR cs ls)]) rfl e) rfl rfl)),λz=>(by cases z),λz=>absurd z n⟩
 ·exact⟨true,a6 rfl (bH (aD (t:=tmT P t) (u:=.non) (aG (ts:=[(RR cs ls)]) rfl e) rfl rfl)),λ_=>n,λ_=>rfl⟩
theorem Rd.Jr (R:Rd cs ls L P)(n:jZ L):eX [RR cs ls] = .ok .non:=by
 obtain⟨hw,e,i⟩:=R.Jt;rw[i.mpr n]at e;refine mE (Z:=[.va (RR cs ls)]) rfl ?_
 show gC [.va (RR cs ls)] =_
 unfold gC;exact(b6 (eR (k:=true) (bj (aG (ts:=[RR cs ls]) rfl e)))).trans rfl
theorem Rd.from_ (R:Rd cs ls L P)(n:jZ L){a:N2}(ha:a∈P):∃b ns,Settled L [a] b/\DR P ns b/\eV [RR cs ls,en a] = .ok (.dct (ns.map en) (dV ns b)):=by
 obtain⟨r,hr,ok⟩:=sM (S:=[a]) R.f (by simp) (λv h=>by rw[JX.mp h];exact ha)
 cases r with
 | inr q=>exact absurd n (Bar.neg ok)
 | inl b=>
  obtain⟨ns,D,hr⟩:=hr;refine⟨b,ns,ok,D,a6 rfl (bH (aD (u:=.int 0) (aG (ts:=[eL L,eS [a]]) (ax (aG (ts:=[RR cs ls]) rfl R.bounds) (ax (nX (ts:=[en a]) rfl (aF (k:=1) (by simp))) rfl)) hr) rfl rfl))⟩
def Hm (o:Option (Int×List Nat)):T:=match o with
 | some x=> .int x.1
 | none=> .non
theorem Rd.JF (R:Rd cs ls L P)(n:jZ L){a c:N2}(ha:a∈P)(hc:c∈P):∃b,Settled L [a] b/\dz [RR cs ls,en a,en c] = .ok (Hm (b c)):=by
 obtain⟨b,ns,S,D,e⟩:=R.from_ n ha;refine⟨b,S,a6 rfl ?_⟩
 show fF [.va (RR cs ls),.va (en a),.va (en c)] =_
 unfold fF;rw[aw (jP (t:=.non) (aG (ts:=[RR cs ls,en a,en c]) rfl (R.Jy ha hc)))];rw[aw (jP (t:=.non) (aG (ts:=[RR cs ls]) rfl (R.Jr n)))];refine bH (aG (ts:=[.dct (ns.map en) (dV ns b),en c]) (ax (aG (ts:=[RR cs ls,en a]) rfl e) rfl) (a6 rfl ?_))
 refine bH ((zX (p:=(b c).isSome) (bj (aD (t:=en c) (u:=.dct (ns.map en) (dV ns b)) rfl rfl (F6 D c)))).trans ?_)
 cases q:b c with
 | none=>rfl
 | some x=>exact aD (t:=eW x) (u:=.int 0) (aD (t:=.dct (ns.map en) (dV ns b)) (u:=en c) rfl rfl (Aw D q)) rfl rfl
end
theorem zy {n:Int}{t:T}(ht:t.pl=true)(h:a8 t 0 (n - 1)=true):dQ [.int n,t] = .ok .non:=by
 refine mE (Z:=[.va (.int n),.va t]) rfl ?_
 show fS [.va (.int n),.va t] =_
 unfold fS;exact(b6 (eR (k:=true) (bj (aG (ts:=[t,.int 0,.int (n - 1)]) rfl (by rw[d9 _ _ _ ht,h]))))).trans rfl
theorem Aj {t:T}(hp:t.pl=true)(h:dE t=true):dm [t] = .ok t:=by
 refine a6 rfl ?_
 show eE [.va t] =_
 unfold eE;rw[aw (jP (t:=.non) (aG (ts:=[t]) rfl (ft hp h)))];exact bH rfl
theorem Ak {t:T}(hp:t.pl=true)(h:dE t=false):dm [t] = .err "NoRecord":=by
 refine uv rfl ?_
 show eE [.va t] =_
 unfold eE;exact Fz (HE (aG (ts:=[t]) rfl (w6 hp h)))
def rz (t:T):Rs T:=if dE t then .ok t else .err "NoRecord"
theorem CN {t:T}(hp:t.pl=true):dm [t] =rz t:=by
 unfold rz
 cases h:dE t with
 | true=>exact Aj hp h
 | false=>exact Ak hp h
theorem Bx {f:En->Rs T}{Z:En}{t:T}(h:f Z=rz t):aO f Z=(if dE t then .ok (.rt t)else .err "NoRecord"):=by
 unfold rz at h
 cases q:dE t with
 | true=>rw[q]at h;exact bH h
 | false=>rw[q]at h;exact FA h
theorem Bb {n m:Nat}{F:En->Rs Fl}{ts:List T}{t:T}(hl:ts.length=n)(h:F (bh m ts)=(if dE t then .ok (.rt t)else .err "NoRecord")):val n m F ts=rz t:=by
 unfold rz
 cases q:dE t with
 | true=>rw[q]at h;exact a6 hl h
 | false=>rw[q]at h;exact uv hl h
theorem pB {a b:T}(ha:a.pl=true)(hb:b.pl=true):(T.tup [a,b]).pl=true:=by simp[T.pl,plS,ha,hb]
theorem EM {l m:List T}(h1:(T.tup l).pl=true)(h2:(T.tup m).pl=true):(T.tup (l++m)).pl=true:=by
 rw[pA]at*;exact gY λt ht=>(Kg.mp ht).elim (gp h1) (gp h2)
theorem Good.pls {cs ls:List T}(g:Good cs ls):(T.tup ls).pl=true:=by rw[pA];exact gY g.parts.2
theorem pG {cs ls:List T}{t:T}(hc:(T.tup cs).pl=true)(hl:(T.tup ls).pl=true)(hn:ls.length<=20)(ht:t.pl=true)(ok:dE (RR cs ls)=true):cW [RR cs ls,t] =rz (.tup [.tup cs,.tup (ls++ [t])]):=by
 refine Bb rfl ?_
 show fR [.va (RR cs ls),.va t] =_
 unfold fR;rw[aw (jP (t:=.non) (aG (ts:=[RR cs ls]) rfl (ft (pB hc hl) ok)))];refine Bx (aG (ts:=[.tup [.tup cs,.tup (ls++ [t])]]) (ax (dC (ax (t:=.tup cs) rfl (ax (t:=.tup (ls++ [t])) (aD (t:=.tup ls) (u:=.tup [t]) rfl (dC rfl (aF (k:=1) (by simp))) (wc _ _ (by simp;omega))) rfl)) (aF (k:=2) (by simp))) rfl) (CN (pB hc (EM hl (by simp[T.pl,plS,ht])))))
theorem ve {cs ls:List T}(h:dE (RR cs ls)=true)(hp:(RR cs ls).pl=true):Good cs ls:=by
 have h':(aR (.tup cs)&&(dh (.tup ls) 0 8&&ls.all (bB cs)))=true:=h;rw[JM,JM,Ka]at h';exact⟨h'.1,h'.2.2,by have:=h'.2.1;simp[dh]at this;exact this,hp⟩
end G
namespace G
open PySem Tr
theorem gA {cs:List T}{t:T}(h:ai cs t=true):t∈bJ 0 cs:=by
 obtain⟨c,k,rfl⟩:=aI h
 have h':(decide ((0:Int)<=c)&&decide (c<cs.length)&&(decide ((0:Int)<=k)&&decide (k<reads cs c)))=true:=h;simp only[JM,decide_eq_true_eq]at h';obtain⟨⟨h1,h2⟩,h3,h4⟩:=h';obtain⟨c,rfl⟩:=Ks h1;obtain⟨k,rfl⟩:=Ks h3;rw[j7]at h4
 have:=wb cs 0 c k;rw[decide_eq_true (by rw[Oh];omega),Nv]at this
 obtain⟨y,hy,e⟩:=this;obtain⟨c',k',rfl,_⟩:=fJ cs 0 hy;simp[aM,beqTs]at e;rw[e.1,e.2]at hy;exact hy
theorem jh {cs:List T}{t:T}(h:ai cs t=true):t.pl=true:=(kL h).1
theorem kB {cs:List T}{a b:T}(ha:ai cs a=true)(hb:ai cs b=true):aM a b=true↔a=b:=by
 refine⟨λh=> ?_,λh=>by rw[h];exact iW b (jh hb)⟩
 by_cases e:a=b
 ·exact e
 ·rw[sH ha hb e]at h;cases h
section
variable {cs:List T}{x:T}{l:List T}
theorem qD (hx:ai cs x=true)(hl:∀t∈l,ai cs t=true):a0 x l=true↔x∈l:=by
 unfold a0;rw[Nv];refine⟨λ⟨y,hy,e⟩=>(kB (hl y hy) hx).mp e▸hy,λh=>⟨x,h,(kB hx hx).mpr rfl⟩⟩
theorem zI (hl:∀t∈l,ai cs t=true):(T.lst l).nd=true:=T.Gc _ (by show plS l=true;exact gY λt ht=>jh (hl t ht))
theorem DE (hx:ai cs x=true)(hl:∀t∈l,ai cs t=true):tE x (.lst l)= .ok (.bl (a0 x l)):=by
 show(if (x.dep<=60\/deps l<=60)/\x.nd=true/\(T.lst l).nd=true then Rs.ok (T.bl (a0 x l))else .bad)=_
 rw[if_pos ⟨.inl (by have:=(kL hx).2;omega),T.Gc _ (jh hx),zI hl⟩]
theorem fo (hx:ai cs x=true)(hl:∀t∈l,ai cs t=true):bz x (.lst l)= .ok (.bl (!a0 x l)):=by
 show(if (x.dep<=60\/deps l<=60)/\x.nd=true/\(T.lst l).nd=true then Rs.ok (T.bl (!a0 x l))else .bad)=_
 rw[if_pos ⟨.inl (by have:=(kL hx).2;omega),T.Gc _ (jh hx),zI hl⟩]
theorem HY {a b:T}(ha:ai cs a=true)(hb:ai cs b=true):ql a b= .ok (.bl (aM a b)):=by
 unfold ql;rw[if_pos (gg (by have:=(kL ha).2;omega) (T.Gc _ (jh ha)) (T.Gc _ (jh hb)))]
end
def ahead (e:T):List T:=match e with
 | .tup [c,.int k] =>if 0<k then [.tup [c,.int (k - 1)]]else []
 | _=> []
def i6 (ls:List T)(e:T):List T:=(ls.filter λl=>aM (at_ l 1) e).map (λl=>at_ l 0)++ahead e
theorem sY {cs:List T}{e z:T}(h:ai cs e=true)(hz:z∈ahead e):ai cs z=true:=by
 obtain⟨c,k,rfl⟩:=aI h
 have hz:z∈(if 0<k then [T.tup [.int c,.int (k - 1)]]else []):=hz
 by_cases q:0<k
 ·rw[if_pos q]at hz
  cases JX.mp hz;unfold ai at h ⊢;simp only[JM,decide_eq_true_eq]at h ⊢;omega
 ·rw[if_neg q]at hz;cases hz
theorem nU {cs ls:List T}(g:Good cs ls){l:T}(hl:l∈ls):∃a b x y,l= .tup [a,b,x,y]/\ai cs a=true/\ai cs b=true:=by
 obtain⟨a,b,x,y,e,_,h1,h2,_⟩:=dB (g.l l hl);exact⟨a,b,x,y,e,h1,h2⟩
theorem lg {cs ls:List T}(g:Good cs ls){e z:T}(h:ai cs e=true)(hz:z∈i6 ls e):ai cs z=true:=by
 unfold i6 at hz;rcases Kg.mp hz with hz | hz
 ·obtain⟨l,hl,rfl⟩:=J5.mp hz
  obtain⟨a,b,x,y,rfl,ha,_⟩:=nU g (Kt.mp hl).1;exact ha
 ·exact sY h hz
theorem FZ {cs ls:List T}(g:Good cs ls){e:T}(h:ai cs e=true):cy [RR cs ls,e] = .ok (.lst (i6 ls e)):=by
 obtain⟨c,k,rfl⟩:=aI h
 have gl:=g.n
 have q:dU (iS (o2 aS (vr 0) (cn (.int 1)))) [none,some 1] (gN 0) (tb (o2 ql (o2 aS (vr 0) (cn (.int 1))) (vr 1))) (o2 aS (vr 0) (cn (.int 0))) [.va (RR cs ls),.va (.tup [.int c,.int k]),.em] = .ok (.lst ((ls.filter λl=>aM (at_ l 1) (.tup [.int c,.int k])).map λl=>at_ l 0)):=
  zW (ts:=ls) (k_iS (l:=ls) rfl) (aF (k:=8) gl) (by simp) λl hl=>by
   obtain⟨a,b,x,y,rfl,ha,hb⟩:=nU g hl;exact⟨bj (aD (t:=b) (u:=.tup [.int c,.int k]) rfl rfl (HY hb h)),λ_=>rfl⟩
 generalize hm:((ls.filter λl=>aM (at_ l 1) (.tup [.int c,.int k])).map λl=>at_ l 0)=m at q
 have ml:m.length<=8:=by
  rw[<-hm,JQ]
  have:=Ol (λl=>aM (at_ l 1) (.tup [.int c,.int k])) ls
  omega
 have eo:i6 ls (.tup [.int c,.int k])=m++(if 0<k then [.tup [.int c,.int (k - 1)]]else []):=by
  unfold i6;rw[hm];rfl
 refine a6 rfl ?_
 show eJ [.va (RR cs ls),.va (.tup [.int c,.int k]),.em] =_
 unfold eJ;rw[aw (Z':=[.va (RR cs ls),.va (.tup [.int c,.int k]),.ow (.lst m)]) (by unfold rn;rw[q];rfl)]
 rw[eo]
 by_cases hk:0<k
 ·rw[if_pos hk]
  rw[aw (Z':=[.va (RR cs ls),.va (.tup [.int c,.int k]),.ow (.lst (m++ [.tup [.int c,.int (k - 1)]]))]) ((d8 (bj (aD (t:=.int k) (u:=.int 0) rfl rfl (by show Rs.ok (T.bl (decide (0<k)))=_;rw[decide_eq_true hk])))).trans (nZ (l:=m) (p2 rfl rfl) rfl (by omega)))]
  rfl
 ·rw[if_neg hk]
  rw[aw (Z':=[.va (RR cs ls),.va (.tup [.int c,.int k]),.ow (.lst m)]) ((b6 (bj (aD (t:=.int k) (u:=.int 0) rfl rfl (by show Rs.ok (T.bl (decide (0<k)))=_;rw[decide_eq_false hk])))).trans rfl)]
  rw[LW]
  rfl
def Cl (ls:List T)(e x:T):Prop:=∀S:T->Prop,S e->(∀y z,S y->z∈i6 ls y->S z)->S x
theorem Cl.here {ls:List T}{e:T}:Cl ls e e:=λS h _=>h
theorem Cl.on {ls:List T}{e y z:T}(h:Cl ls e y)(hz:z∈i6 ls y):Cl ls e z:=λS h1 h2=>h2 y z (h S h1 h2) hz
structure Kn (cs ls:List T)(e:T)(K:List T):Prop where
 nd:K.Nodup
 ev:∀x∈K,ai cs x=true
 cl:∀x∈K,Cl ls e x
 he:e∈K
 up:∀y∈K,∀z∈i6 ls y,z∈K
theorem Kn.iff {cs ls:List T}{e x:T}{K:List T}(h:Kn cs ls e K):x∈K↔Cl ls e x:=⟨h.cl x,λc=>c (· ∈K) h.he λy z hy hz=>h.up y hy z hz⟩
def bx (t:T):List Int:=match t with
 | .tup [.int c,.int k] => [c,k]
 | _=> []
theorem vc {cs:List T}:∀{K:List T},(∀x∈K,ai cs x=true)->Tr.rowsT K=some (K.map bx)
 | [],_=>rfl
 | x::K,h=>by
  obtain⟨c,k,rfl⟩:=aI (h x JO)
  have:=vc (K:=K) λx hx=>h x (JJ _ hx)
  show(match eQ [.int c,.int k],Tr.rowsT K with | some ns,some k=>if ns= []then none else some (ns::k) | _,_=>none)=_
  rw[this]
  rfl
def yq (ns:List Int):T:=.tup (ns.map .int)
def Bp (K:List T):List T:=((K.map bx).mergeSort ku).map yq
theorem lD {cs:List T}{x:T}(h:ai cs x=true):yq (bx x)=x:=by
 obtain⟨c,k,rfl⟩:=aI h
 rfl
theorem mI {cs:List T}(hc:aR (.tup cs)=true):(bJ 0 cs).length<=16:=by
 obtain⟨h,_,h4⟩:=bF hc
 have:=ly cs 0 h;omega
theorem qk {cs:List T}(hc:aR (.tup cs)=true){K:List T}(nd:K.Nodup)(h:∀x∈K,ai cs x=true):K.length<=16:=by
 have:=LR nd (l₂:=bJ 0 cs) λx hx=>gA (h x hx)
 have:=mI hc;omega
theorem FX {cs:List T}(hc:aR (.tup cs)=true){K:List T}(nd:K.Nodup)(h:∀x∈K,ai cs x=true):q0 [.lst K] = .ok (.lst (Bp K)):=by
 have hl:=qk hc nd h;unfold q0;simp only[vc h];rw[JQ,if_pos (by omega)]
 rfl
theorem vt {cs:List T}{K:List T}(h:∀x∈K,ai cs x=true){x:T}:x∈Bp K↔x∈K:=by
 unfold Bp;rw[J5]
 constructor
 ·rintro ⟨ns,hn,rfl⟩
  obtain⟨y,hy,rfl⟩:=J5.mp ((MJ _ _).mem_iff.mp hn);rw[lD (h y hy)];exact hy
 ·intro hx
  exact⟨bx x,(MJ _ _).mem_iff.mpr (NA hx),lD (h x hx)⟩
def j8 (K:List T)(z:T):List T:=if a0 z K then K else K++ [z]
theorem iC {cs:List T}:∀{zs K:List T},K.Nodup->(∀x∈K,ai cs x=true)->(∀x∈zs,ai cs x=true) →
  (zs.foldl j8 K).Nodup/\(∀x,x∈zs.foldl j8 K↔x∈K\/x∈zs)/\∃t,zs.foldl j8 K=K++t
 | [],K,nd,_,_=>⟨nd,λx=>by simp,[],by simp⟩
 | z::zs,K,nd,hK,hz=>by
  have ez:=hz z JO
  have hz':∀x∈zs,ai cs x=true:=λx hx=>hz x (JJ _ hx)
  rw[Ql]
  by_cases q:z∈K
  ·have e:j8 K z=K:=by unfold j8;rw[if_pos ((qD ez hK).mpr q)]
   rw[e];obtain⟨h1,h2,h3⟩:=iC (zs:=zs) nd hK hz';refine⟨h1,λx=> ?_,h3⟩
   rw[h2,JT];exact⟨λh=>h.imp id .inr,λh=>h.elim .inl λh=>h.elim (λh=> .inl (h▸q)) .inr⟩
  ·have e:j8 K z=K++ [z]:=by unfold j8;rw[if_neg (λh=>q ((qD ez hK).mp h))]
   rw[e]
   have nd':(K++ [z]).Nodup:=LJ.mpr ⟨nd,by simp,λa ha b hb=>by rw[JX.mp hb];exact λh=>q (h▸ha)⟩
   have hK':∀x∈K++ [z],ai cs x=true:=λx hx=>(Kg.mp hx).elim (hK x) λh=>JX.mp h▸ez
   obtain⟨h1,h2,t,h3⟩:=iC (zs:=zs) nd' hK' hz';refine⟨h1,λx=> ?_,[z] ++t,by rw[h3,KD]⟩
   rw[h2,Kg,JX,JT,or_assoc]
abbrev knC:En->Rs Bool:=tb (o2 Cp (vr 3) (ln 2 (cl cH (ae (vr 2) aj))))
abbrev knI:En->Rs Fl:=eO (AZ 2 (tb (o2 bz (vr 4) (vr 2)))) (jm 2 (vr 4)) sN
abbrev knB:En->Rs Fl:=ay (dY (iS (cl cy (ae (vr 0) (ae (ln 2 (o2 aS (vr 2) (vr 3))) aj)))) (gN 4) knI) (yF 3 (cn (.int 1)))
abbrev zR (R e:T)(K:List T)(p:Nat)(s4:Sl):En:=[.va R,.va e,.ow (.lst K),.va (.int p),s4]
theorem DA {cs:List T}(hc:aR (.tup cs)=true)(R e:T)(p:Nat):∀(zs K:List T) (s4:Sl),K.Nodup->(∀x∈K,ai cs x=true)->(∀x∈zs,ai cs x=true) →
  ∃s,a9 (gN 4) knI zs (zR R e K p s4)= .ok (.nx (zR R e (zs.foldl j8 K) p s))
 | [],K,s4,_,_,_=>⟨s4,rfl⟩
 | z::zs,K,s4,nd,hK,hz=>by
  have ez:=hz z JO
  have hz':∀x∈zs,ai cs x=true:=λx hx=>hz x (JJ _ hx)
  have sp:=iC (zs:=[z]) nd hK (λx hx=>JX.mp hx▸ez)
  have hl:=qk hc nd hK
  have st:knI (zR R e K p (.va z))= .ok (.nx (zR R e (j8 K z) p (.va z))):=by
   have c:AZ 2 (tb (o2 bz (vr 4) (vr 2))) (zR R e K p (.va z))= .ok (!a0 z K):=DC (bj (aD (t:=z) (u:=.lst K) rfl rfl (fo ez hK)));unfold j8
   cases q:a0 z K with
   | true=>rw[q]at c;exact(b6 c).trans rfl
   | false=>
    rw[q]at c;refine(d8 c).trans ?_
    rw[nZ (t:=z) (l:=K) rfl rfl (by omega)]
    rfl
  obtain⟨s,ih⟩:=DA hc R e p zs (j8 K z) (.va z) sp.1 (λx hx=>((sp.2.1 x).mp hx).elim (hK x) λh=>JX.mp h▸ez) hz'
  exact⟨s,by rw[dD (Z1:=zR R e K p (.va z)) rfl st,ih];rfl⟩
theorem vI {cs ls:List T}(g:Good cs ls)(e:T):∀(m p:Nat) (K:List T) (s4:Sl) (n:Nat),17 - p<=m->m<n->K.Nodup->(∀x∈K,ai cs x=true)->(∀x∈K,Cl ls e x)->e∈K->p<=K.length->(∀i y,i<p->K[i]? =some y->∀z∈i6 ls y,z∈K) →
  ∃K' p' s,bp knC knB n (zR (RR cs ls) e K p s4)= .ok (.nx (zR (RR cs ls) e K' p' s))/\Kn cs ls e K'
 | 0,p,K,s4,n,hm,hn,nd,hK,hcl,he,hp,hup=>by
  have hl:=qk g.c nd hK
  omega
 | m+1,p,K,s4,n,hm,hn,nd,hK,hcl,he,hp,hup=>by
  cases n with
  | zero=>exact absurd hn (SU _)
  | succ n=>
  have hn:=Nat.lt_of_succ_lt_succ hn
  have c:knC (zR (RR cs ls) e K p s4)= .ok (decide ((p:Int)<(K.length:Int))):=bj (aD (t:=.int p) (u:=.int K.length) rfl (FD (o:=.lst K) rfl (aG (ts:=[.lst K]) rfl rfl) rfl) rfl)
  by_cases q:p<K.length
  ·rw[decide_eq_true (Sh.mpr q)]at c
   have hy:=hK K[p] (K1 q)
   have eK:K[p]? =some K[p]:=JU q
   obtain⟨s,lp⟩:=DA g.c (RR cs ls) e p (i6 ls K[p]) K s4 nd hK λz hz=>lg g hy hz
   obtain⟨h1,h2,t,h3⟩:=iC (zs:=i6 ls K[p]) nd hK λz hz=>lg g hy hz
   have nk:K[p].nk false=true:=by
    obtain⟨c,k,e⟩:=aI hy;rw[e];rfl
   have st:knB (zR (RR cs ls) e K p s4)= .ok (.nx (zR (RR cs ls) e ((i6 ls K[p]).foldl j8 K) (p+1) s)):=by
    refine(aw (eU (ts:=i6 ls K[p]) (fz (aG (ts:=[RR cs ls,K[p]]) (ax rfl (ax (FD (o:=.lst K) rfl (aD (t:=.lst K) (u:=.int p) rfl rfl (uA q)) nk) rfl)) (FZ g hy))) lp)).trans ?_
    rfl
   rw[mC c st]
   have hK2:∀x∈(i6 ls K[p]).foldl j8 K,ai cs x=true:=λx hx=>((h2 x).mp hx).elim (hK x) (lg g hy)
   refine vI g e m (p+1) _ s n (by clear hcl hK hup;omega) hn h1 hK2 (λx hx=>((h2 x).mp hx).elim (hcl x) ((hcl _ (K1 q)).on)) ((h2 e).mpr (.inl he)) (by rw[h3,JZ];exact Kf q (Nx _ _)) λi y hi ey z hz=>(h2 z).mpr ?_
   have hiK:i<K.length:=MX (Nf hi) q;rw[h3,LM hiK]at ey
   by_cases hip:i=p
   ·subst hip
    rw[eK]at ey;cases ey;exact .inr hz
   ·exact .inl (hup i y (Nat.lt_of_le_of_ne (Nf hi) hip) ey z hz)
  ·rw[decide_eq_false λz=>q (Sh.mp z)]at c
   refine⟨K,p,s4,si c,nd,hK,hcl,he,λy hy z hz=> ?_⟩
   obtain⟨i,hi,rfl⟩:=KZ hy;exact hup i _ (JY hi (P5 q)) (JU hi) z hz
theorem vR {cs ls:List T}(g:Good cs ls){e:T}(h:ai cs e=true):∃K,Kn cs ls e K/\aT [RR cs ls,e] = .ok (.lst (Bp K)):=by
 obtain⟨K,p,s,e1,hK⟩:=vI g e 17 0 [e] .em FU (by omega) (by unfold FU;omega) (by simp) (λx hx=>JX.mp hx▸h) (λx hx=>JX.mp hx▸Cl.here) (by simp) (KY _) (λi y hi=>by omega)
 refine⟨K,hK,a6 rfl ?_⟩
 show qK [.va (RR cs ls),.va e,.em,.em,.em] =_
 unfold qK;rw[aw (jP (t:=.non) (aG (ts:=[RR cs ls]) rfl (ft g.p g.ok)))];rw[aw (jP (t:=.non) (aG (ts:=[RR cs ls,e]) rfl (lh g (jh h) h)))];rw[aw (Z':=[.va (RR cs ls),.va e,.ow (.lst [e]),.em,.em]) (uw (l:=[e]) rfl (by simp) (by simp))]
 rw[aw (Z':=[.va (RR cs ls),.va e,.ow (.lst [e]),.va (.int 0),.em]) (bZ (t:=.int 0) rfl rfl)];refine(aw e1).trans ?_
 exact DD (bH (aG (ts:=[.lst K]) rfl (FX g.c hK.nd hK.ev)))
section
variable {cs ls:List T}
theorem F2 (g:Good cs ls){e:T}(h:ai cs e=true):∃L,aT [RR cs ls,e] = .ok (.lst L)/\(∀x∈L,ai cs x=true)/\L.length<=16:=by
 obtain⟨K,hK,e1⟩:=vR g h;refine⟨Bp K,e1,λx hx=>hK.ev x ((vt hK.ev).mp hx),?_⟩
 unfold Bp;rw[JQ,(MJ _ _).length_eq,JQ];exact qk g.c hK.nd hK.ev
def sk (R e:T):List T:=match aT [R,e]with
 | .ok (.lst l)=>l
 | _=> []
theorem jt (g:Good cs ls){e:T}(h:ai cs e=true):aT [RR cs ls,e] = .ok (.lst (sk (RR cs ls) e))/\(∀x∈sk (RR cs ls) e,ai cs x=true)/\(sk (RR cs ls) e).length<=16:=by
 obtain⟨L,h1,h3⟩:=F2 g h
 have:sk (RR cs ls) e=L:=by unfold sk;rw[h1]
 rw[this];exact⟨h1,h3⟩
theorem zS {a b:T}(ha:ai cs a=true)(hb:ai cs b=true)(h:keyOf a=keyOf b):a=b:=by
 obtain⟨c,k,rfl⟩:=aI ha;obtain⟨c',k',rfl⟩:=aI hb
 have h:some [OL c,OL k] =some [OL c',(OL k':L2.Key)]:=h
 simp at h
 rw[h.1,h.2]
theorem sg {a:T}(ha:ai cs a=true):∃k,keyOf a=some k:=by
 obtain⟨c,k,rfl⟩:=aI ha;exact⟨_,rfl⟩
theorem sQ {k v:T}:∀{ks vs:List T},ks.length=vs.length->(∀x∈ks,keyOf x≠keyOf k)->fB k v ks vs=(ks++ [k],vs++ [v])
 | [],[],_,_=>rfl
 | x::ks,y::vs,hl,h=>by
  unfold fB;rw[if_neg (h x JO),sQ (by simpa using hl) λz hz=>h z (JJ _ hz)]
  rfl
theorem ou (f:T->T):∀(es ks:List T),(∀x∈ks++es,ai cs x=true)->(ks++es).Nodup->fA (es.map λe=>(e,f e)) (ks,ks.map f)=(ks++es,(ks++es).map f)
 | [],ks,_,_=>by simp[fA]
 | e::es,ks,hev,nd=>by
  rw[JP,fA]
  have h1:fB e (f e) ks (ks.map f)=(ks++ [e],(ks++ [e]).map f):=by
   rw[sQ (by simp) λx hx q=> ?_,Ld]
   ·rfl
   ·have:x=e:=zS (hev x (K6 _ hx)) (hev e (Kd _ JO)) q
    subst this;exact(LJ.mp nd).2.2 x hx x JO rfl
  have e2:ks++e::es=ks++ [e] ++es:=by simp
  rw[e2]at hev nd ⊢
  show fA _ (fB e (f e) ks (ks.map f))=_
  rw[h1];exact ou f es (ks++ [e]) hev nd
theorem yW (f:T->T):∀{es:List T},(∀x∈es,ai cs x=true)->Ds (es.map λe=> .tup [e,f e])=some (es.map λe=>(e,f e))
 | [],_=>rfl
 | e::es,h=>by
  obtain⟨k,hk⟩:=sg (h e JO);rw[JP,JP,Ds,hk,yW f λx hx=>h x (JJ _ hx)]
theorem CS (f:T->T){es:List T}(h:∀x∈es,ai cs x=true)(nd:es.Nodup)(hl:es.length<=100):jS [.lst (es.map λe=> .tup [e,f e])] = .ok (.dct es (es.map f)):=by
 unfold jS;simp only[yW f h];rw[if_pos (by rw[JQ];omega)]
 have:=ou f es [] (by simpa using h) (by simpa using nd)
 simp only[Oe,MA]at this;rw[this]
theorem vV (f:T->T){e:T}(he:ai cs e=true){k:List L2.Key}(hk:keyOf e=some k):∀{es:List T},(∀x∈es,ai cs x=true)->e∈es->jv es (es.map f) k=some (f e)
 | x::es,h,hm=>by
  rw[JP,jv]
  by_cases q:keyOf x=some k
  ·rw[if_pos q]
   have:x=e:=zS (h x JO) he (q.trans hk.symm);rw[this]
  ·rw[if_neg q]
   refine vV f he hk (λx hx=>h x (JJ _ hx)) ?_
   rcases JT.mp hm with z | z
   ·subst z;exact absurd hk q
   ·exact z
theorem Av (f:T->T){e:T}{es:List T}(h:∀x∈es,ai cs x=true)(hm:e∈es):il (.dct es (es.map f)) e= .ok (f e):=by
 obtain⟨k,hk⟩:=sg (h e hm);unfold il;rw[hk];simp only[vV f (h e hm) hk h hm]
abbrev Lt (a b:T):Prop:=a7 (bx a) (bx b)=true
theorem lj (c k c' k':Int):a7 [c,k] [c',k'] =(if c=c' then decide (k<k')else decide (c<c')):=by
 unfold a7 a7 a7
 by_cases h:c=c'
 ·rw[if_pos h,if_pos h]
  by_cases h2:k=k'
  ·rw[if_pos h2,h2];simp
  ·rw[if_neg h2]
 ·rw[if_neg h,if_neg h]
theorem qj:∀(cs:List T) (i:Nat),(bJ i cs).Pairwise Lt
 | [],i=>N0
 | x::cs,i=>by
  rw[bJ,Oz];refine⟨?_,qj cs (i+1),λa ha b hb=> ?_⟩
  ·unfold ik rng
   rw[Lc,N6];refine Qg.imp ?_
   intro a b hab
   show a7 [(i:Int),0+(a:Int)] [(i:Int),0+(b:Int)] =true
   rw[lj,if_pos rfl];exact decide_eq_true (by omega)
  ·unfold ik at ha
   obtain⟨t,ht,rfl⟩:=J5.mp ha;obtain⟨j,rfl,hj⟩:=iA ht;obtain⟨c,k,rfl,h1,_,_⟩:=fJ cs (i+1) hb
   show a7 [(i:Int),(j:Int)] [(c:Int),(k:Int)] =true
   rw[lj,if_neg (by omega)]
   exact decide_eq_true (by omega)
theorem wz {q:T->Bool}{x:T}{p r:List T}(h:(p++x::r).Pairwise Lt):(p++x::r).filter (λy=>a7 (bx x) (bx y)&&q y)=r.filter q:=by
 rw[Oz]at h;obtain⟨_,h2,h3⟩:=h;rw[Ph]at h2
 have np:∀y∈p,a7 (bx x) (bx y)=false:=λy hy=>by
  have:=h3 y hy x JO
  cases z:a7 (bx x) (bx y)with
  | false=>rfl
  | true=>have:=gy _ _ _ this z;rw[dA]at this;cases this
 rw[List.filter_append,Qa,dA,QM,if_neg J3,MW.mpr λy hy=>by rw[np y hy];simp,MA]
 exact RV λy hy=>by rw[h2.1 y hy,LN]
theorem Hn {a b:T}(ha:ai cs a=true)(hb:ai cs b=true):w9 a b= .ok (.bl (a7 (bx a) (bx b))):=by
 obtain⟨c,k,rfl⟩:=aI ha;obtain⟨c',k',rfl⟩:=aI hb
 rfl
def stp (L:List T)(n:Nat):T:=.tup ((rng 0 n).map λt=> .int ((L.filter λx=>aM (at_ x 0) t).length:Nat))
theorem AG {x:T}(h:ai cs x=true):∃c:Int,at_ x 0= .int c/\aS x (.int 0)= .ok (.int c):=by
 obtain⟨c,k,rfl⟩:=aI h;exact⟨c,rfl,rfl⟩
theorem qm (g:Good cs ls){e:T}(h:ai cs e=true):fK [RR cs ls,e] = .ok (stp (sk (RR cs ls) e) cs.length):=by
 obtain⟨h1,h3,h4⟩:=jt g h
 generalize sk (RR cs ls) e=L at h1 h3 h4
 obtain⟨_,_,c4⟩:=bF g.c;refine a6 rfl ?_
 show qJ [.va (RR cs ls),.va e,.em] =_
 unfold qJ
 have q:dU (iS (cl aT (ae (vr 0) (ae (vr 1) aj)))) [none] (gN 0) bT (o2 aS (vr 0) (cn (.int 0))) [.va (RR cs ls),.va e,.em] = .ok (.lst (L.map λx=>at_ x 0)):=
  qb (ts:=L) (fz (aG (ts:=[RR cs ls,e]) rfl h1)) (aF (k:=16) h4) (by simp) λt ht=>by
   obtain⟨c,e1,e2⟩:=AG (h3 t ht);rw[e1];exact aD (t:=t) (u:=.int 0) rfl rfl e2
 rw[aw (Z':=[.va (RR cs ls),.va e,.va (.lst (L.map λx=>at_ x 0))]) (bZ q rfl)]
 unfold stp;refine bH (aG (ts:=[.lst ((rng 0 (cs.length:Nat)).map λt=> .int ((L.filter λx=>aM (at_ x 0) t).length:Nat))]) (ax (qb (ts:=rng 0 (cs.length:Nat)) (FO (j:=(cs.length:Nat)) (ax (aG (ts:=[.tup cs]) rfl rfl) rfl) (by omega) (by omega)) (by rw[iB];exact aF (k:=4) c4) (by simp) λt ht=> ?_) rfl) wC)
 obtain⟨j,rfl,hj⟩:=iA ht;refine Hw (ks:=L.map λx=>at_ x 0) (u:=.int j) rfl rfl ?_
 show(if ((T.int j).dep<=60\/deps (L.map λx=>at_ x 0)<=60)/\(T.int j).nd=true/\nds (L.map λx=>at_ x 0)=true then _ else _)=_
 rw[if_pos ⟨.inl (by simp[T.dep]),rfl,plS_nds _ (gY λt ht=>by
  obtain⟨x,hx,rfl⟩:=J5.mp ht;obtain⟨c,e1,_⟩:=AG (h3 x hx);rw[e1];rfl)⟩,Qo,List.countP_eq_length_filter]
 rfl
def pF (R e c x:T):Bool:=aM (at_ x 0) c&&a0 e (sk R x)
def hd (l:List T):T:=match l with
 | [] => .non
 | x::_=>x
abbrev fkF:En->Rs Fl:=eO (ir (tb (o2 ql (o2 aS (vr 3) (cn (.int 0))) (vr 2))) (tb (o2 tE (vr 1) (cl aT (ae (vr 0) (ae (vr 3) aj)))))) (aO (vr 3)) sN
theorem CH (g:Good cs ls){e x:T}(n:Int)(he:ai cs e=true)(hx:ai cs x=true) :
  ir (tb (o2 ql (o2 aS (vr 3) (cn (.int 0))) (vr 2))) (tb (o2 tE (vr 1) (cl aT (ae (vr 0) (ae (vr 3) aj))))) [.va (RR cs ls),.va e,.va (.int n),.va x] = .ok (pF (RR cs ls) e (.int n) x):=by
 obtain⟨h1,h3,_⟩:=jt g hx;obtain⟨c,e1,e2⟩:=AG hx;unfold pF;rw[e1];exact z6 (bj (aD (t:=.int c) (u:=.int n) (aD (t:=x) (u:=.int 0) rfl rfl e2) rfl (Ah c n))) λ_=>bj (aD (t:=e) rfl (aG (ts:=[RR cs ls,x]) rfl h1) (DE he h3))
theorem vO (g:Good cs ls){e:T}(n:Int)(he:ai cs e=true):∀(ts:List T) (s3:Sl),(∀x∈ts,ai cs x=true) →
  ((∃s,a9 (gN 3) fkF ts [.va (RR cs ls),.va e,.va (.int n),s3] = .ok (.nx [.va (RR cs ls),.va e,.va (.int n),s]))/\ts.filter (pF (RR cs ls) e (.int n))= []) ∨
  a9 (gN 3) fkF ts [.va (RR cs ls),.va e,.va (.int n),s3] = .ok (.rt (hd (ts.filter (pF (RR cs ls) e (.int n)))))
 | [],s3,_=> .inl ⟨⟨s3,rfl⟩,rfl⟩
 | x::ts,s3,h=>by
  have t:=CH g n he (h x JO)
  cases q:pF (RR cs ls) e (.int n) x with
  | true=>
   rw[q]at t;refine .inr ?_
   rw[Ly q]
   exact p9 (Z1:=[.va (RR cs ls),.va e,.va (.int n),.va x]) rfl ((d8 t).trans (bH rfl))
  | false=>
   rw[q]at t;rw[Li (by rw[q];exact J3),dD (Z1:=[.va (RR cs ls),.va e,.va (.int n),.va x]) rfl ((b6 t).trans rfl)]
   exact vO g n he ts (.va x) λx hx=>h x (JJ _ hx)
theorem CO (g:Good cs ls){e:T}(he:ai cs e=true)(n:Nat)(hn:n<cs.length):cz [RR cs ls,e,.int n] = .ok (hd ((bJ 0 cs).filter (pF (RR cs ls) e (.int n)))):=by
 refine a6 rfl ?_
 show eM [.va (RR cs ls),.va e,.va (.int n),.em] =_
 unfold eM;rw[aw (jP (t:=.non) (aG (ts:=[RR cs ls]) rfl (ft g.p g.ok)))];rw[aw (jP (t:=.non) (aG (ts:=[RR cs ls,e]) rfl (lh g (jh he) he)))];rw[aw (jP (t:=.non) (aG (ts:=[.int (cs.length:Nat),.int n]) (ax (aG (ts:=[.tup cs]) rfl rfl) rfl) (zy (t:=.int n) rfl (by simp[a8];omega))))]
 rcases vO g (n:Int) he (bJ 0 cs) .em (λx hx=>gh hx)with⟨⟨s,e1⟩,e2⟩ | e1
 ·rw[aw (eU (ts:=bJ 0 cs) (fz (aG (ts:=[RR cs ls]) rfl (gZ g))) e1),e2]
  rfl
 ·rw[fy (eU (ts:=bJ 0 cs) (fz (aG (ts:=[RR cs ls]) rfl (gZ g))) e1)]
def q2 (R x y:T):Bool:=!a0 x (sk R y)&& !a0 y (sk R x)
abbrev yY (x y:T):T:=.tup [x,y]
def lp (R:T):List T->List T
 | [] => []
 | x::r=>(r.filter (q2 R x)).map (yY x)++lp R r
abbrev qq (R x y:T):Bool:=a7 (bx x) (bx y)&&q2 R x y
theorem zJ (R:T){P:List T}(h:P.Pairwise Lt):∀(r p:List T),P=p++r->r.flatMap (λx=>(P.filter (qq R x)).map (yY x))=lp R r
 | [],p,_=>rfl
 | x::r,p,e=>by
  rw[Nh,zJ R h r (p++ [x]) (by rw[e];simp),lp]
  subst e;rw[wz h]
abbrev upI:En->Rs Fl:=eO (ir (tb (o2 w9 (vr 4) (vr 5))) (ir (tb (o2 bz (vr 4) (o2 il (vr 2) (vr 5)))) (tb (o2 bz (vr 5) (o2 il (vr 2) (vr 4)))))) (jm 3 (br (ae (vr 4) (ae (vr 5) aj)))) sN
abbrev yk (R:T)(P acc:List T)(s4 s5:Sl):En:=[.va R,.va (.lst P),.va (.dct P (P.map λx=> .lst (sk R x))),.ow (.lst acc),s4,s5]
theorem yj (g:Good cs ls){P:List T}(hP:∀x∈P,ai cs x=true){x:T}(hx:x∈P):∀(ts acc:List T) (s5:Sl),(∀y∈ts,y∈P)->acc.length+ts.length<=900 →
  ∃s,a9 (gN 5) upI ts (yk (RR cs ls) P acc (.va x) s5)= .ok (.nx (yk (RR cs ls) P (acc++(ts.filter (qq (RR cs ls) x)).map (yY x)) (.va x) s))
 | [],acc,s5,_,_=>⟨s5,by simp[a9]⟩
 | y::ts,acc,s5,h,hl=>by
  rw[JR]at hl
  have hy:=h y JO
  have t:ir (tb (o2 w9 (vr 4) (vr 5))) (ir (tb (o2 bz (vr 4) (o2 il (vr 2) (vr 5)))) (tb (o2 bz (vr 5) (o2 il (vr 2) (vr 4))))) (yk (RR cs ls) P acc (.va x) (.va y))= .ok (qq (RR cs ls) x y):=
   z6 (bj (aD (t:=x) (u:=y) rfl rfl (Hn (hP x hx) (hP y hy)))) λ_=>
    z6 (bj (aD (t:=x) (u:=.lst (sk (RR cs ls) y)) rfl (aD (t:=.dct P (P.map λx=> .lst (sk (RR cs ls) x))) (u:=y) rfl rfl (Av _ hP hy)) (fo (hP x hx) (jt g (hP y hy)).2.1))) λ_=>
     bj (aD (t:=y) (u:=.lst (sk (RR cs ls) x)) rfl (aD (t:=.dct P (P.map λx=> .lst (sk (RR cs ls) x))) (u:=x) rfl rfl (Av _ hP hx)) (fo (hP y hy) (jt g (hP x hx)).2.1))
  cases q:qq (RR cs ls) x y with
  | true=>
   rw[q]at t
   have st:upI (yk (RR cs ls) P acc (.va x) (.va y))= .ok (.nx (yk (RR cs ls) P (acc++ [yY x y]) (.va x) (.va y))):=(d8 t).trans (nZ (l:=acc) (p2 rfl rfl) rfl (by omega))
   obtain⟨s,ih⟩:=yj g hP hx ts (acc++ [yY x y]) (.va y) (λz hz=>h z (JJ _ hz)) (by rw[JZ,Lb];omega)
   refine⟨s,?_⟩
   rw[dD (Z1:=yk (RR cs ls) P acc (.va x) (.va y)) rfl st,ih,Ly q,JP,KD]
   rfl
  | false=>
   rw[q]at t;obtain⟨s,ih⟩:=yj g hP hx ts acc (.va y) (λz hz=>h z (JJ _ hz)) (by omega)
   refine⟨s,?_⟩
   rw[dD (Z1:=yk (RR cs ls) P acc (.va x) (.va y)) rfl ((b6 t).trans rfl),ih,Li (by rw[q];exact J3)]
theorem yf (g:Good cs ls){P:List T}(hP:∀x∈P,ai cs x=true)(hl:P.length<=16):∀(xs acc:List T) (s4 s5:Sl),(∀y∈xs,y∈P)->acc.length+16*xs.length<=800 →
  ∃y4 y5,a9 (gN 4) (dY (iS (vr 1)) (gN 5) upI) xs (yk (RR cs ls) P acc s4 s5)= .ok (.nx (yk (RR cs ls) P (acc++xs.flatMap λx=>(P.filter (qq (RR cs ls) x)).map (yY x)) y4 y5))
 | [],acc,s4,s5,_,_=>⟨s4,s5,by simp[a9]⟩
 | x::xs,acc,s4,s5,h,hn=>by
  rw[JR]at hn;obtain⟨s,e1⟩:=yj g hP (h x JO) P acc s5 (λ_ hy=>hy) (by omega)
  have hf:=Ol (qq (RR cs ls) x) P;obtain⟨y4,y5,ih⟩:=yf g hP hl xs (acc++(P.filter (qq (RR cs ls) x)).map (yY x)) (.va x) s (λz hz=>h z (JJ _ hz)) (by rw[JZ,JQ];omega)
  refine⟨y4,y5,?_⟩
  rw[dD (Z1:=yk (RR cs ls) P acc (.va x) s5) rfl (eU (ts:=P) (fz (l:=P) rfl) e1),ih,Nh,KD]
theorem om (g:Good cs ls):cx [RR cs ls] = .ok (.lst (lp (RR cs ls) (bJ 0 cs))):=by
 have hP:∀x∈bJ 0 cs,ai cs x=true:=λx hx=>gh hx
 have hl:=mI g.c;refine a6 rfl ?_
 show eG [.va (RR cs ls),.em,.em,.em,.em,.em] =_
 unfold eG;rw[aw (Z':=[.va (RR cs ls),.va (.lst (bJ 0 cs)),.em,.em,.em,.em]) (bZ (aG (ts:=[RR cs ls]) rfl (gZ g)) rfl)];rw[aw (Z':=[.va (RR cs ls),.va (.lst (bJ 0 cs)),.va (.dct (bJ 0 cs) ((bJ 0 cs).map λx=> .lst (sk (RR cs ls) x))),.em,.em,.em]) (bZ (aG (ts:=[.lst ((bJ 0 cs).map λe=> .tup [e,.lst (sk (RR cs ls) e)])]) (ax (qb (ts:=bJ 0 cs) (fz (l:=bJ 0 cs) rfl) (aF (k:=16) hl) (by simp) λt ht=>p2 rfl (aG (ts:=[RR cs ls,t]) rfl (jt g (hP t ht)).1)) rfl) (CS _ hP (iJ cs 0) (by omega))) rfl)]
 rw[aw (Z':=yk (RR cs ls) (bJ 0 cs) [] .em .em) (uz (by simp))]
 obtain⟨y4,y5,e1⟩:=yf g hP hl (bJ 0 cs) [] .em .em (λ_ h=>h) (by simp;omega)
 rw[MA,zJ _ (qj cs 0) (bJ 0 cs) [] rfl]at e1;refine(aw (eU (ts:=bJ 0 cs) (fz (l:=bJ 0 cs) rfl) e1)).trans ?_
 rfl
end
end G
namespace G
open PySem Tr Gr
section
variable {cs ls ms:List T}{e x y:T}
theorem Dp (g:Good cs ls)(h:ai cs e=true):∃K,Kn cs ls e K/\sk (RR cs ls) e=Bp K:=by
 obtain⟨K,hK,e1⟩:=vR g h;exact⟨K,hK,by unfold sk;rw[e1]⟩
theorem gn (g:Good cs ls)(h:ai cs e=true):x∈sk (RR cs ls) e↔Cl ls e x:=by
 obtain⟨K,hK,q⟩:=Dp g h;rw[q,vt hK.ev];exact hK.iff
theorem Dn (g:Good cs ls)(h:ai cs e=true):(sk (RR cs ls) e).Nodup:=by
 obtain⟨K,hK,q⟩:=Dp g h
 have p:(Bp K).Perm K:=by
  unfold Bp;refine((MJ (K.map bx) ku).map yq).trans (SM ?_)
  rw[Lc];exact(KO λx hx=>lD (hK.ev x hx)).trans (List.map_id _)
 rw[q];exact p.nodup_iff.mpr hK.nd
theorem jl (g:Good cs ls)(h:ai cs e=true)(hx:ai cs x=true):a0 x (sk (RR cs ls) e)=true↔Cl ls e x:=(qD hx (jt g h).2.1).trans (gn g h)
theorem Cl.trans (h:Cl ls e y)(k:Cl ls y x):Cl ls e x:=λS h1 h2=>k S (h S h1 h2) h2
theorem Cl.mono (up:∀t∈ls,t∈ms)(h:Cl ls e x):Cl ms e x:=λS h1 h2=>h S h1 λy z hy hz=>h2 y z hy (by
 rcases Kg.mp hz with hz | hz
 ·obtain⟨l,hl,rfl⟩:=J5.mp hz
  obtain⟨a,b⟩:=Kt.mp hl;exact K6 _ (J5.mpr ⟨l,Kt.mpr ⟨up l a,b⟩,rfl⟩)
 ·exact Kd _ hz)
theorem qr {c:T}:∀(n:Nat),Cl ls e (.tup [c,.int n])->∀j:Nat,j<=n->Cl ls e (.tup [c,.int j])
 | 0,h,j,hj=>by
  obtain rfl:j=0:=by omega
  exact h
 | n+1,h,j,hj=>by
  by_cases q:j=n+1
  ·subst q;exact h
  ·refine qr n (h.on (Kd _ ?_)) j (by omega)
   show _∈(if 0<((n+1:Nat):Int)then [T.tup [c,.int (((n+1:Nat):Int) - 1)]]else [])
   rw[if_pos (by omega),show((n+1:Nat):Int) - 1=(n:Int)by omega]
   exact JX.mpr rfl
theorem gz (h:ai cs e=true):∃c k:Nat,e= .tup [.int c,.int k]/\c<cs.length:=by
 obtain⟨c,k,rfl,_,h1,_⟩:=fJ cs 0 (gA h);exact⟨c,k,rfl,by omega⟩
theorem Cq {ks:List Nat}(nd:ks.Nodup)(dn:∀j∈ks,∀i,i<=j->i∈ks)(i:Nat):i∈ks↔i<ks.length:=by
 constructor
 ·intro h
  have:=LR (l₁:=J2 (i+1)) P9 (l₂:=ks) λj hj=>dn i h j (by have:=Kz.mp hj;omega)
  rw[KR]at this;omega
 ·intro h
  refine Decidable.byContradiction λn=> ?_
  have:=LR nd (l₂:=J2 i) λj hj=>Kz.mpr (Ss λq=>n (dn j hj i q))
  rw[KR]at this;omega
def Dv (c:Nat)(x:T):Bool:=aM (at_ x 0) (.int c)
def tF (L:List T)(c:Nat):Nat:=(L.filter (Dv c)).length
def kOf (t:T):Nat:=match t with
 | .tup [_,.int k] =>k.toNat
 | _=>0
theorem kh (c k d:Nat):Dv d (.tup [.int c,.int k])=decide (c=d):=by
 show((c:Int) == (d:Int))=_
 by_cases h:c=d
 ·subst h;simp
 ·rw[decide_eq_false h,beq_eq_false_iff_ne];omega
theorem vZ (g:Good cs ls)(h:ai cs e=true)(c k:Nat):T.tup [.int c,.int k] ∈sk (RR cs ls) e↔k<tF (sk (RR cs ls) e) c:=by
 have nd:=Dn g h
 have ev:=(jt g h).2.1
 have dn:∀n:Nat,T.tup [.int c,.int n] ∈sk (RR cs ls) e->∀j:Nat,j<=n->T.tup [.int c,.int j] ∈sk (RR cs ls) e:=λn hn j hj=>(gn g h).mpr (qr n ((gn g h).mp hn) j hj)
 generalize sk (RR cs ls) e=L at nd ev dn
 have mem:∀j:Nat,j∈(L.filter (Dv c)).map kOf↔T.tup [.int c,.int j] ∈L:=λj=>by
  rw[J5]
  constructor
  ·rintro ⟨x,hx,rfl⟩
   obtain⟨h1,h2⟩:=Kt.mp hx;obtain⟨c',k',rfl,_⟩:=gz (ev x h1);rw[kh,decide_eq_true_iff]at h2;subst h2;exact h1
  ·exact λhj=>⟨_,Kt.mpr ⟨hj,by rw[kh];exact decide_eq_true rfl⟩,rfl⟩
 have nd2:((L.filter (Dv c)).map kOf).Nodup:=by
  rw[Mi,N6];refine(Mi.mp (nd.filter (Dv c))).imp_of_mem ?_
  intro a b ha hb ne q;obtain⟨a1,a2⟩:=Kt.mp ha;obtain⟨b1,b2⟩:=Kt.mp hb;obtain⟨ca,ka,rfl,_⟩:=gz (ev a a1);obtain⟨cb,kb,rfl,_⟩:=gz (ev b b1);rw[kh,decide_eq_true_iff]at a2 b2
  have q:((ka:Int)).toNat=((kb:Int)).toNat:=q
  have:ka=kb:=by omega
  subst a2 this;exact ne (by rw[b2])
 have:=Cq nd2 (λj hj i hi=>(mem i).mpr (dn j ((mem j).mp hj) i hi)) k
 rw[mem,JQ]at this;exact this
theorem C1 {L M:List T}(nd:L.Nodup)(h:∀x∈L,x∈M)(c:Nat):tF L c<=tF M c:=
 LR (nd.filter _) λx hx=>by
  obtain⟨a,b⟩:=Kt.mp hx;exact Kt.mpr ⟨h x a,b⟩
theorem tQ (L:List T)(n:Nat):stp L n= .tup ((J2 n).map λc=> .int (tF L c:Nat)):=by
 unfold stp;rw[jH,Lc]
 rfl
theorem n9 (p:T->Nat)(n:Nat):∀L:List T,(L.filter λx=>decide (p x<n+1)).length=(L.filter λx=>decide (p x<n)).length+(L.filter λx=>decide (p x=n)).length
 | [] =>rfl
 | x::L=>by
  have ih:=n9 p n L
  by_cases h:p x<n
  ·rw[Ly (by simp;omega),Ly (by simp;omega),Li (by simp;omega),JR,JR];omega
  ·by_cases h2:p x=n
   ·rw[Ly (by simp;omega),Li (by simp;omega),Ly (by simp;omega),JR,JR];omega
   ·rw[Li (by simp;omega),Li (by simp;omega),Li (by simp;omega)];exact ih
def cOf (t:T):Nat:=match t with
 | .tup [.int c,_] =>c.toNat
 | _=>0
theorem Hi (h:ai cs x=true)(d:Nat):Dv d x=decide (cOf x=d):=by
 obtain⟨c,k,rfl,_⟩:=gz h;exact kh c k d
theorem vY {L:List T}(ev:∀x∈L,ai cs x=true):∀n:Nat,(((J2 n).map λc=>((tF L c:Nat):Int)).sum:Int)=((L.filter λx=>decide (cOf x<n)).length:Nat)
 | 0=>by
  rw[MW.mpr λx _=>by simp]
  rfl
 | n+1=>by
  rw[M8,Ld,List.sum_append,vY ev n,n9]
  have:tF L n=(L.filter λx=>decide (cOf x=n)).length:=by
   unfold tF;rw[RV λx hx=>Hi (ev x hx) n]
  rw[<-this];simp
theorem rN (f:Nat->Nat):∀l:List Nat,eQ (l.map λc=>T.int (f c:Nat))=some (l.map λc=>((f c:Nat):Int))
 | [] =>rfl
 | c::l=>by rw[JP,eQ,rN f l];rfl
theorem Bj {L:List T}(ev:∀x∈L,ai cs x=true):yy [stp L cs.length] = .ok (.int (L.length:Nat)):=by
 rw[tQ]
 show tO [.lst _] =_
 unfold tO;simp only[rN];rw[vY ev,Q0.mpr λx hx=> ?_]
 obtain⟨c,k,rfl,h⟩:=gz (ev x hx);exact decide_eq_true h
end
theorem x8 {x:T}{c:T}:∀{cs:List T} {i j:Nat},cs[j]? =some c->x∈xB (i+j) c->x∈bC i cs
 | d::cs,i,0,h,hx=>by
  cases h
  exact K6 _ hx
 | d::cs,i,j+1,h,hx=>Kd _ (x8 (cs:=cs) (i:=i+1) (j:=j) h (by rw[show i+1+j=i+(j+1)by omega];exact hx))
theorem vd:∀{r:List Int} {k:Nat},kR r=true->k+1<r.length->1<=dr r k
 | [],k,_,h=>by simp at h
 | [a],k,_,h=>by simp at h
 | a::b::r,0,h,_=>by
  rw[Bw,JM]at h
  have:=of_decide_eq_true h.1
  show 1<=b - a
  omega
 | a::b::r,k+1,h,hk=>by
  rw[Bw,JM]at h;exact vd (r:=b::r) (k:=k) h.2 (by simpa using hk)
theorem xH {x y:T}{r:List Int}(h:bu (.tup [x,y,.tup (r.map .int)])=true):kR r=true:=by
 have h':(ng x y&&b9 (.tup (r.map .int)))=true:=h;rw[JM]at h'
 have hr:=h'.2;unfold b9 at hr;rw[JM]at hr
 have hr2:(((r.map T.int).all λu=>a8 u 0 99)&&(match nums (r.map .int)with | some m=>kR m | none=>false))=true:=hr.2
 rw[JM,jL]at hr2;exact hr2.2
section
variable {cs ls:List T}{L:cC N2}{P:List N2}
theorem Rd.mem (R:Rd cs ls L P){x:N2×N2×Int}(h:eB x∈Gf cs ls):x∈L:=by
 rw[R.b]at h;obtain⟨y,hy,e⟩:=J5.mp h;obtain⟨⟨a,b⟩,⟨c,d⟩,m⟩:=x;obtain⟨⟨a',b'⟩,⟨c',d'⟩,m'⟩:=y;simp only[eB,en,T.tup.injEq,Lq,T.int.injEq,and_true]at e;obtain⟨⟨rfl,rfl⟩,⟨rfl,rfl⟩,rfl⟩:=e;exact hy
theorem Rd.back (R:Rd cs ls L P){v:N2}{z:T}(hv:ai cs (en v)=true)(hz:z∈i6 ls (en v)):∃w m,z=en w/\m<=0/\(v,w,m)∈L:=by
 unfold i6 at hz;rcases Kg.mp hz with hz | hz
 ·obtain⟨l,hl,rfl⟩:=J5.mp hz
  obtain⟨h1,h2⟩:=Kt.mp hl;obtain⟨a,b,x,y,rfl,hd,ha,hb,_⟩:=dB (R.g.l l h1)
  have eb:b=en v:=(kB hb hv).mp h2;subst eb;obtain⟨va,rfl,_⟩:=sI (gA ha);unfold dW at hd;rw[JM]at hd;obtain⟨i,rfl,i1,i2⟩:=cJ hd.1;refine⟨va,-i,rfl,by omega,R.mem (Kd _ (MN.mpr ⟨_,h1,?_⟩))⟩
  exact JO
 ·have hq:=sY hv hz
  obtain⟨c,k,e,hc⟩:=gz hv;rw[e]at hz hv
  have hz:z∈(if 0<(k:Int)then [T.tup [.int c,.int ((k:Int) - 1)]]else []):=hz
  cases k with
  | zero=>simp at hz
  | succ k=>
   rw[if_pos (by omega),show((k+1:Nat):Int) - 1=(k:Int)by omega]at hz
   cases JX.mp hz;obtain⟨x,y,r,e1,hx,_,_,_⟩:=gB ((bF R.g.c).1 _ (K1 hc))
   have hcl:=(bF R.g.c).1 _ (K1 hc);rw[e1]at hcl
   have hr:=xH hcl
   have hk:k+1<r.length:=by
    obtain⟨c',k',e2,_,h2,h3⟩:=fJ cs 0 (gA hv);simp only[T.tup.injEq,Lq,T.int.injEq,and_true]at e2;obtain⟨q1,q2⟩:=e2
    have:c'=c:=by omega
    subst this;rw[Oh,LC,JU hc,e1]at h3
    have h3:k'<(r.map T.int).length:=h3;rw[JQ]at h3;omega
   have hdr:=vd hr hk
   have ev:v=⟨c,((k+1:Nat):Int)⟩:=by
    obtain⟨a,b⟩:=v;simp only[en,T.tup.injEq,Lq,T.int.injEq,and_true]at e;rw[e.1,e.2]
   subst ev;refine⟨⟨c,k⟩,-dr r k*x,rfl,?_,R.mem (K6 _ (x8 (j:=c) (JU hc) ?_))⟩
   ·rw[Int.neg_mul]
    have:=Int.mul_nonneg (show 0<=dr r k by omega) hx.1
    omega
   ·rw[e1,qO,Pf]
    unfold cB;refine MN.mpr ⟨k,Kz.mpr (by omega),?_⟩
    unfold pr;exact JJ _ JO
theorem Rd.known (R:Rd cs ls L P){v:N2}{x:T}(hv:ai cs (en v)=true)(h:Cl ls (en v) x):∃w s,x=en w/\ai cs x=true/\s<=0/\Wk L v w s:=
 h (λx=> ∃w s,x=en w/\ai cs x=true/\s<=0/\Wk L v w s) ⟨v,0,rfl,hv,by omega,.nil v⟩ λy z ⟨w,s,e,hy,hs,k⟩ hz=>by
  subst e
  have ez:=lg R.g hy hz;obtain⟨w',m,rfl,hm,hl⟩:=R.back hy hz;exact⟨w',s+m,rfl,ez,by omega,k.app (.one hl)⟩
theorem Rd.inP (R:Rd cs ls L P){v:N2}(h:ai cs (en v)=true):v∈P:=by
 have:=gA h;rw[R.e]at this;obtain⟨w,hw,e⟩:=J5.mp this;obtain⟨a,b⟩:=v;obtain⟨a',b'⟩:=w;simp only[en,T.tup.injEq,Lq,T.int.injEq,and_true]at e;obtain⟨rfl,rfl⟩:=e;exact hw
theorem Rd.Jm (R:Rd cs ls L P)(n:jZ L){a b:T}(ha:ai cs a=true)(hb:ai cs b=true)(h:Cl ls b a):∃d:Int,0<=d/\c8 [RR cs ls,a,b] = .ok (.int d):=by
 obtain⟨v,rfl,_⟩:=sI (gA hb);obtain⟨w,s,rfl,_,hs,k⟩:=R.known hb h;obtain⟨f,S,e⟩:=R.JF n (R.inP hb) (R.inP ha);obtain⟨d,ws,q,hd⟩:=S.least v (by simp) w s k
 rw[q]at e;refine⟨-d,by omega,a6 rfl ?_⟩
 show eI [.va (RR cs ls),.va (en w),.va (en v),.em] =_
 unfold eI;rw[aw (Z':=[.va (RR cs ls),.va (en w),.va (en v),.va (.int d)]) (bZ (aG (ts:=[RR cs ls,en v,en w]) rfl e) rfl)];exact bH ((zX (p:=false) (bj (aD (t:=.int d) (u:=.non) rfl rfl rfl))).trans ((Hz (t:=.int d) rfl rfl)))
end
theorem vE {g:T->En->Rs En}{fe:En->Rs T}{h:T->T}(I:En->Prop):∀(ts:List T) (Z:En),I Z->(∀t∈ts,∀Z,I Z->∃Z1,g t Z= .ok Z1/\I Z1/\fe Z1= .ok (h t))->cq g bT fe ts Z= .ok (ts.map h)
 | [],_,_,_=>rfl
 | t::r,Z,hI,hf=>by
  obtain⟨Z1,e1,i1,e3⟩:=hf t JO Z hI
  have ih:=vE I r Z1 i1 λu hu=>hf u (JJ _ hu)
  unfold cq;simp only[e1,aB,show bT Z1= .ok true from rfl,if_true,e3,ih,JP]
theorem Dw (b:Bool):kX (.bl b) (.bl b)= .ok (.bl false):=jM rfl (by simp[T.dep])
theorem Dx {a b:Bool}(h:a=b):kX (.bl a) (.bl b)= .ok (.bl false):=h▸Dw a
def leC (u:T):T:=match u with
 | .tup [.int i,.int j] => .bl (decide (i<=j))
 | _=> .non
theorem Hs {n:Nat}(hn:n<=4){f:Nat->Nat}{h:Nat->Nat}{Z:En}{j k:Nat}(e1:vr j Z= .ok (.tup ((J2 n).map λc=> .int (f c:Nat))))(e2:vr k Z= .ok (.tup ((J2 n).map λc=> .int (h c:Nat)))) :
  o2 bz (cn (.bl false)) (dU (iZ (ae (vr j) (ae (vr k) aj))) [none,none] (gT 2 (jy (gN 0) (jy (gN 1) sv))) bT (o2 Cu (vr 0) (vr 1))) Z= .ok (.bl ((J2 n).all λc=>decide (f c<=h c))):=by
 have hz:iZ (ae (vr j) (ae (vr k) aj)) Z= .ok ((J2 n).map λc=> .tup [.int (f c:Nat),.int (h c:Nat)]):=by
  unfold iZ;rw[ax e1 (ax e2 rfl)]
  show Rs.ok ((((J2 n).map λc=>T.int (f c:Nat)).zip ((J2 n).map λc=>T.int (h c:Nat))).map λp=>T.tup [p.1,p.2])=_
  rw[List.zip_map',Lc]
  rfl
 have q:=vE (g:=gT 2 (jy (gN 0) (jy (gN 1) sv))) (fe:=o2 Cu (vr 0) (vr 1)) (h:=leC) (λZ=> ∃a b,Z= [a,b]) ((J2 n).map λc=> .tup [.int (f c:Nat),.int (h c:Nat)]) (b5 [none,none] Z) ⟨_,_,rfl⟩ λu hu Z' hI=>by
  obtain⟨c,_,rfl⟩:=J5.mp hu;obtain⟨a,b,rfl⟩:=hI;exact⟨[.va (.int (f c:Nat)),.va (.int (h c:Nat))],rfl,⟨_,_,rfl⟩,rfl⟩
 rw[Lc]at q
 have hl:dU (iZ (ae (vr j) (ae (vr k) aj))) [none,none] (gT 2 (jy (gN 0) (jy (gN 1) sv))) bT (o2 Cu (vr 0) (vr 1)) Z= .ok (.lst ((J2 n).map λc=> .bl (decide (f c<=h c)))):=by
  unfold dU;rw[hz,aB,if_pos (aF (k:=4) (by rw[JQ,KR];exact hn)),q]
  show Rs.ok (T.lst _)=_
  congr 2
  refine KO λc _=> ?_
  show T.bl (decide ((f c:Int)<=(h c:Int)))=_
  congr 1
  exact decide_eq_decide.mpr Int.ofNat_le
 refine aD (t:=.bl false) rfl hl ?_
 show(if ((T.bl false).dep<=60\/_)/\(T.bl false).nd=true/\(T.lst _).nd=true then Rs.ok (T.bl (!a0 (.bl false) ((J2 n).map λc=> .bl (decide (f c<=h c)))))else .bad)=_
 rw[if_pos ⟨.inl (by simp[T.dep]),rfl,T.Gc _ (by show plS _=true;exact gY λt ht=>by obtain⟨c,_,rfl⟩:=J5.mp ht;rfl)⟩]
 congr 2
 unfold a0;rw[List.any_map,List.not_any_eq_all_not]
 congr 1
 funext c
 show(!aM (.bl (decide (f c<=h c))) (.bl false))=_
 cases decide (f c<=h c) <;> rfl
section
variable {cs ls:List T}{L:cC N2}{P:List N2}{a b:T}
theorem zM (g:Good cs ls){X Y:List T}{f:En->Rs T}{p:En->Rs T}{src:List (Option Nat)}{Z:En}(hX:∀x∈X,ai cs x=true)(hl:X.length<=16)(hY:∀x∈Y,ai cs x=true)(e:f Z= .ok (.lst X))(hn:0<src.length)(v0:∀t,vr 0 ((b5 src Z).set 0 (.va t))= .ok t)(e2:∀t,p ((b5 src Z).set 0 (.va t))= .ok (.lst Y))(sub:∀x∈X,x∈Y) :
  dU (iS f) src (gN 0) (tb (o2 bz (vr 0) p)) (vr 0) Z= .ok (.lst []):=by
 rw[zW (ts:=X) (p:=λx=> !a0 x Y) (h:=id) (fz e) (aF (k:=16) hl) hn λt ht=>⟨bj (aD (t:=t) (v0 t) (e2 t) (fo (hX t ht) hY)),λ_=>v0 t⟩]
 rw[MW.mpr λt ht=>by rw[(qD (hX t ht) hY).mpr (sub t ht)];simp]
 rfl
theorem zA:kX (.lst []) (.lst [])= .ok (.bl false):=jM rfl (by simp[T.dep,deps])
theorem Rd.Jp (R:Rd cs ls L P)(ha:ai cs a=true)(hb:ai cs b=true):cY [RR cs ls,a,b] = .ok (.bl true):=by
 have g:=R.g;obtain⟨a1,a2,a3⟩:=jt g ha;obtain⟨b1,b2,b3⟩:=jt g hb
 have sa:=qm g ha
 have sb:=qm g hb
 have iff:a0 a (sk (RR cs ls) b)=true↔Cl ls b a:=jl g hb ha
 have sub:Cl ls b a->∀x∈sk (RR cs ls) a,x∈sk (RR cs ls) b:=λh x hx=>(gn g hb).mpr (h.trans ((gn g ha).mp hx))
 have le:Cl ls b a->∀c,tF (sk (RR cs ls) a) c<=tF (sk (RR cs ls) b) c:=λh c=>C1 (Dn g ha) (sub h) c
 obtain⟨c,k,e,hc⟩:=gz ha
 have k1:a0 a (sk (RR cs ls) b)=decide (k<tF (sk (RR cs ls) b) c):=by
  rw[NM,decide_eq_true_iff,iff,<-vZ g hb,<-e,gn g hb]
 have k2:a0 a (sk (RR cs ls) b)=((J2 cs.length).all λc=>decide (tF (sk (RR cs ls) a) c<=tF (sk (RR cs ls) b) c)):=by
  rw[NM,Ka];refine⟨λh d _=>decide_eq_true (le (iff.mp h) d),λh=> ?_⟩
  have h1:=of_decide_eq_true (h c (Kz.mpr hc))
  have h2:=(vZ g ha c k).mp (e▸(gn g ha).mpr Cl.here);rw[k1];exact decide_eq_true (by omega)
 generalize hk:a0 a (sk (RR cs ls) b)=kn at k1 k2 iff
 have c4:=(bF g.c).2.2;refine a6 rfl ?_
 show fW [.va (RR cs ls),.va a,.va b,.em,.em,.em,.em] =_
 unfold fW;rw[aw (Z':=[.va (RR cs ls),.va a,.va b,.va (stp (sk (RR cs ls) a) cs.length),.va (stp (sk (RR cs ls) b) cs.length),.em,.em]) (bZ (p2 (aG (ts:=[RR cs ls,a]) rfl sa) (aG (ts:=[RR cs ls,b]) rfl sb)) rfl)];rw[aw (Z':=[.va (RR cs ls),.va a,.va b,.va (stp (sk (RR cs ls) a) cs.length),.va (stp (sk (RR cs ls) b) cs.length),.va (.bl kn),.em]) (bZ (aD (t:=a) rfl (aG (ts:=[RR cs ls,b]) rfl b1) (by rw[DE ha b2,hk])) rfl)]
 rw[tQ,tQ];rw[aw ((b6 (bj (aD (t:=.bl kn) (u:=.bl (decide ((k:Int)<(tF (sk (RR cs ls) b) c:Nat)))) rfl (aD (t:=.int (tF (sk (RR cs ls) b) c:Nat)) (u:=.int k) (FF (n:=c) rfl (aD (t:=a) (u:=.int 0) rfl rfl (by rw[e];rfl)) (by rw[Kk,QR hc];rfl)) (aD (t:=a) (u:=.int 1) rfl rfl (by rw[e];rfl)) rfl) (Dx (k1.trans (decide_eq_decide.mpr Sh.symm)))))).trans rfl)]
 rw[aw ((b6 (bj (aD (t:=.bl kn) rfl (Hs c4 (j:=3) (k:=4) rfl rfl) (Dx k2)))).trans rfl)]
 generalize T.tup ((J2 cs.length).map λc=> .int (tF (sk (RR cs ls) a) c:Nat))=m1
 generalize T.tup ((J2 cs.length).map λc=> .int (tF (sk (RR cs ls) b) c:Nat))=m2
 rw[aw (Z':=[.va (RR cs ls),.va a,.va b,.va m1,.va m2,.va (.bl kn),.va (.lst (sk (RR cs ls) b))]) (bZ (aG (ts:=[RR cs ls,b]) rfl b1) rfl)]
 cases kn with
 | false=>
  rw[aw ((b6 (z0 (bj rfl))).trans rfl)]
  exact bH (p6 (p8 (k:=false) rfl))
 | true=>
  have hcl:=iff.mp rfl;rw[aw ((b6 (zZ (bj rfl) (bj (aD (t:=.lst []) (u:=.lst []) (zM g (src:=[none,some 6]) a2 a3 b2 (aG (ts:=[RR cs ls,a]) rfl a1) (by simp) (λ_=>rfl) (λ_=>rfl) (sub hcl)) rfl zA)))).trans rfl)]
  refine bH ((p7 (p8 (k:=true) rfl)).trans ?_)
  obtain⟨hw,e1,i⟩:=R.Jt
  cases hw with
  | false=>exact p6 (p8 (k:=false) (aG (ts:=[RR cs ls]) rfl e1))
  | true=>
   refine(p7 (p8 (k:=true) (aG (ts:=[RR cs ls]) rfl e1))).trans ?_
   obtain⟨d,hd,e2⟩:=R.Jm (i.mp rfl) ha hb hcl;refine aD (t:=.int d) (u:=.int 0) (aG (ts:=[RR cs ls,a,b]) rfl e2) rfl ?_
   show Rs.ok (T.bl (decide (0<=d)))=_
   rw[decide_eq_true hd]
end
section
variable {cs ls ms:List T}{a b x y t u:T}{l:List T}
def PrE (cs:List T)(t:T):Prop:=∃x y,t= .tup [x,y]/\ai cs x=true/\ai cs y=true
theorem PrE.pl (h:PrE cs t):t.pl=true:=by
 obtain⟨x,y,rfl,hx,hy⟩:=h;exact pB (jh hx) (jh hy)
theorem PrE.dep (h:PrE cs t):t.dep<=60:=by
 obtain⟨x,y,rfl,hx,hy⟩:=h
 have:=(kL hx).2
 have:=(kL hy).2;unfold T.dep deps deps deps;omega
theorem AD (ht:PrE cs t)(hu:PrE cs u):aM t u=true↔t=u:=by
 obtain⟨x,y,rfl,hx,hy⟩:=ht;obtain⟨x',y',rfl,hx',hy'⟩:=hu
 have:aM (.tup [x,y]) (.tup [x',y'])=(aM x x'&&(aM y y'&&true)):=by simp[aM,beqTs]
 rw[this,Rm,JM,kB hx hx',kB hy hy'];simp
theorem AI (ht:PrE cs t)(hl:∀u∈l,PrE cs u):a0 t l=true↔t∈l:=by
 unfold a0;rw[Nv];exact⟨λ⟨y,hy,e⟩=>(AD (hl y hy) ht).mp e▸hy,λh=>⟨t,h,(AD ht ht).mpr rfl⟩⟩
theorem yV (hl:∀u∈l,PrE cs u):(T.lst l).nd=true:=T.Gc _ (by show plS l=true;exact gY λt ht=>(hl t ht).pl)
theorem HH (ht:PrE cs t)(hl:∀u∈l,PrE cs u):tE t (.lst l)= .ok (.bl (a0 t l)):=by
 show(if (t.dep<=60\/deps l<=60)/\t.nd=true/\(T.lst l).nd=true then Rs.ok (T.bl (a0 t l))else .bad)=_
 rw[if_pos ⟨.inl ht.dep,T.Gc _ ht.pl,yV hl⟩]
theorem zq (ht:PrE cs t)(hl:∀u∈l,PrE cs u):bz t (.lst l)= .ok (.bl (!a0 t l)):=by
 show(if (t.dep<=60\/deps l<=60)/\t.nd=true/\(T.lst l).nd=true then Rs.ok (T.bl (!a0 t l))else .bad)=_
 rw[if_pos ⟨.inl ht.dep,T.Gc _ ht.pl,yV hl⟩]
abbrev up (cs ls:List T):List T:=lp (RR cs ls) (bJ 0 cs)
theorem oR:up cs ls=(bJ 0 cs).flatMap λx=>((bJ 0 cs).filter (qq (RR cs ls) x)).map (yY x):=(zJ _ (qj cs 0) (bJ 0 cs) [] rfl).symm
theorem up_mem:t∈up cs ls↔ ∃x y,ai cs x=true/\ai cs y=true/\qq (RR cs ls) x y=true/\t=yY x y:=by
 rw[oR,MN]
 constructor
 ·rintro ⟨x,hx,h⟩
  obtain⟨y,hy,rfl⟩:=J5.mp h;obtain⟨h1,h2⟩:=Kt.mp hy;exact⟨x,y,gh hx,gh h1,h2,rfl⟩
 ·rintro ⟨x,y,hx,hy,h,rfl⟩
  exact⟨x,gA hx,J5.mpr ⟨y,Kt.mpr ⟨gA hy,h⟩,rfl⟩⟩
theorem kF:∀t∈up cs ls,PrE cs t:=λt ht=>by
 obtain⟨x,y,hx,hy,_,e⟩:=up_mem.mp ht;exact⟨x,y,e,hx,hy⟩
theorem DT (g:Good cs ls):(up cs ls).length<=256:=by
 rw[oR,QZ]
 have hl:=mI g.c
 have:∀(P:List T),(P.map λx=>(((bJ 0 cs).filter (qq (RR cs ls) x)).map (yY x)).length).sum<=P.length*16:=λP=>by
  induction P with
  | nil=>simp
  | cons x P ih=>
   rw[JP,LP,JR,JQ,Nat.add_mul]
   have:=Ol (qq (RR cs ls) x) (bJ 0 cs);omega
 have:=this (bJ 0 cs);omega
theorem BV (R x y:T):q2 R x y=q2 R y x:=by unfold q2;rw[Bool.and_comm]
theorem BU (g:Good cs ls)(h:ai cs x=true):q2 (RR cs ls) x x=false:=by
 unfold q2;rw[(jl g h h).mpr Cl.here]
 rfl
theorem Fj (ha:ai cs a=true)(hb:ai cs b=true):kI [a,b] = .ok (if a7 (bx b) (bx a)=true then b else a):=by
 obtain⟨c,k,rfl⟩:=aI ha;obtain⟨c',k',rfl⟩:=aI hb
 rfl
theorem Fo (ha:ai cs a=true)(hb:ai cs b=true):kJ [a,b] = .ok (if a7 (bx a) (bx b)=true then b else a):=by
 obtain⟨c,k,rfl⟩:=aI ha;obtain⟨c',k',rfl⟩:=aI hb
 rfl
theorem Bv (ha:ai cs a=true)(hb:ai cs b=true)(h:bx a=bx b):a=b:=by rw[<-lD ha,h,lD hb]
theorem Gg (ha:ai cs a=true)(hb:ai cs b=true):a0 (yY a b) (up cs ls)=qq (RR cs ls) a b:=by
 rw[NM,AI (cs:=cs) ⟨a,b,rfl,ha,hb⟩ kF,up_mem]
 constructor
 ·rintro ⟨x,y,_,_,h,e⟩
  cases e;exact h
 ·exact λh=>⟨a,b,ha,hb,h,rfl⟩
theorem DV (g:Good cs ls)(ha:ai cs a=true)(hb:ai cs b=true){f h p:En->Rs T}{Z:En}(ef:f Z= .ok a)(eh:h Z= .ok b)(ep:p Z= .ok (.lst (up cs ls))) :
  o2 tE (br (ae (cl kI (ae f (ae h aj))) (ae (cl kJ (ae f (ae h aj))) aj))) p Z= .ok (.bl (q2 (RR cs ls) a b)):=by
 have m1:cl kI (ae f (ae h aj)) Z=_:=aG (ax ef (ax eh rfl)) (Fj ha hb)
 have m2:cl kJ (ae f (ae h aj)) Z=_:=aG (ax ef (ax eh rfl)) (Fo ha hb)
 have fin:∀{x y:T},ai cs x=true->ai cs y=true->cl kI (ae f (ae h aj)) Z= .ok x->cl kJ (ae f (ae h aj)) Z= .ok y->qq (RR cs ls) x y=q2 (RR cs ls) a b->o2 tE (br (ae (cl kI (ae f (ae h aj))) (ae (cl kJ (ae f (ae h aj))) aj))) p Z= .ok (.bl (q2 (RR cs ls) a b)):=λ{x y} hx hy e1 e2 e3=>
  aD (t:=.tup [x,y]) (p2 e1 e2) ep (by rw[HH (cs:=cs) ⟨x,y,rfl,hx,hy⟩ kF,Gg hx hy,e3])
 cases z:a7 (bx a) (bx b)with
 | true=>
  have z2:a7 (bx b) (bx a)=false:=by
   cases w:a7 (bx b) (bx a)with
   | false=>rfl
   | true=>have:=gy _ _ _ z w;rw[dA]at this;cases this
  rw[z2,if_neg J3]at m1;rw[z,if_pos rfl]at m2
  exact fin ha hb m1 m2 (by show(a7 _ _&&_)=_;rw[z,LN])
 | false=>
  rw[z,if_neg J3]at m2
  cases w:a7 (bx b) (bx a)with
  | true=>
   rw[w,if_pos rfl]at m1
   exact fin hb ha m1 m2 (by show(a7 _ _&&_)=_;rw[w,LN,BV])
  | false=>
   rw[w,if_neg J3]at m1
   have:a=b:=Bv ha hb (ia _ _ z w);subst this;exact fin ha ha m1 m2 (by show(a7 _ _&&_)=_;rw[z,QM,BU g ha])
theorem Af (g:Good cs ls){c k:Nat}(h:ai cs (.tup [.int c,.int k])=true):∃j:Nat,j<=k/\hd ((bJ 0 cs).filter (pF (RR cs ls) (.tup [.int c,.int k]) (.int c)))= .tup [.int c,.int j]:=by
 have hin:T.tup [.int c,.int k] ∈(bJ 0 cs).filter (pF (RR cs ls) (.tup [.int c,.int k]) (.int c)):=Kt.mpr ⟨gA h,by
  show(Dv c (.tup [.int c,.int k])&&a0 _ _)=true
  rw[kh,decide_eq_true rfl,(jl g h h).mpr Cl.here];rfl⟩
 have pw:=(qj cs 0).filter (pF (RR cs ls) (.tup [.int c,.int k]) (.int c))
 have hp:∀x∈(bJ 0 cs).filter (pF (RR cs ls) (.tup [.int c,.int k]) (.int c)),∃j:Nat,x= .tup [.int c,.int j]:=λx hx=>by
  obtain⟨h1,h2⟩:=Kt.mp hx;obtain⟨c',j,rfl,_⟩:=gz (gh h1)
  have h2:(Dv c (.tup [.int c',.int j])&&a0 _ _)=true:=h2;rw[kh,JM,decide_eq_true_iff]at h2;rw[h2.1];exact⟨j,rfl⟩
 generalize (bJ 0 cs).filter (pF (RR cs ls) (.tup [.int c,.int k]) (.int c))=F at hin pw hp
 cases F with
 | nil=>cases hin
 | cons f r=>
  obtain⟨j,rfl⟩:=hp f JO;refine⟨j,?_,rfl⟩
  rcases JT.mp hin with e | e
  ·simp only[T.tup.injEq,Lq,T.int.injEq,and_true,true_and]at e
   omega
  ·have q:a7 [(c:Int),(j:Int)] [(c:Int),(k:Int)] =true:=(Ph.mp pw).1 _ e
   rw[lj,if_pos rfl]at q
   have:=of_decide_eq_true q;omega
def e9 (p:Nat×Nat):T:=.tup [.int (p.1:Nat),.int (p.2:Nat)]
def qE:Nat->List T->List (Nat×Nat)
 | _,[] => []
 | i,c::cs=>(J2 (xS c)).map (λk=>(i,k))++qE (i+1) cs
theorem vP:∀(cs:List T) (i:Nat),bJ i cs=(qE i cs).map e9
 | [],_=>rfl
 | c::cs,i=>by
  rw[bJ,qE,Ld,<-vP cs (i+1)]
  congr 1
  unfold ik;rw[jH,Lc,Lc]
  rfl
def e3:Nat->Nat->List (Nat×Nat)
 | _,0=> []
 | i,m+1=>(J2 3).map (λk=>(i,k))++e3 (i+1) m
theorem yH {n m:Nat}(h:n<=m):(J2 n).Sublist (J2 m):=by
 obtain⟨d,rfl⟩:=Nat.le.dest h;rw[List.range_add];exact List.sublist_append_left _ _
theorem yR:∀{cs:List T} {i m:Nat},cs.length<=m->(∀c∈cs,xS c<=3)->(qE i cs).Sublist (e3 i m)
 | [],i,m,_,_=>Sz _
 | c::cs,i,0,h,_=>by simp at h
 | c::cs,i,m+1,h,hr=>((yH (hr c JO)).map _).append (yR (by simpa using h) λd hd=>hr d (JJ _ hd))
theorem mG {α β:Type}{f h:α->List β}(hs:∀a,(f a).Sublist (h a)):∀{Q E:List α},Q.Sublist E->(Q.flatMap f).Sublist (E.flatMap h)
 | _,_,.slnil=> .slnil
 | _,_,.cons a s=>(mG hs s).trans (List.sublist_append_right _ _)
 | _,_,.cons₂ a s=>(hs a).append (mG hs s)
theorem z8 (p q:Nat×Nat×Nat×Nat):HG p (uV q)=true↔p=q:=by
 obtain⟨a,b,c,d⟩:=p;obtain⟨a',b',c',d'⟩:=q
 show([(a':Int),(b':Int),(c':Int),(d':Int)] == [(a:Int),(b:Int),(c:Int),(d:Int)])=true↔_
 simp only[beq_iff_eq,Lq,and_true,PQ];omega
theorem oS:∀{ps ks:List (Nat×Nat×Nat×Nat)},ks.Sublist ps->mY ps (ks.map uV)=true
 | [],ks,h=>by rw[List.sublist_nil.mp h];rfl
 | p::ps,[],_=>rfl
 | p::ps,k::ks,h=>by
  show(if HG p (uV k)=true then mY ps (ks.map uV)else mY ps ((k::ks).map uV))=true
  split
  ·refine oS ?_
   cases h with
   | cons _ s=>exact(List.sublist_cons_self _ _).trans s
   | cons_cons _ s=>exact s
  ·rename_i n
   refine oS ?_
   cases h with
   | cons _ s=>exact s
   | cons_cons _ s=>exact absurd ((z8 _ _).mpr rfl) n
theorem DS (g:Good cs ls)(h3:cs.length<=3)(hr:∀c∈cs,xS c<=3):mY prsL (up cs ls)=true:=by
 have e:up cs ls=((qE 0 cs).flatMap λa=>((qE 0 cs).filter λb=>qq (RR cs ls) (e9 a) (e9 b)).map λb=>(a.1,a.2,b.1,b.2)).map uV:=by
  rw[oR,vP,List.flatMap_map,List.map_flatMap]
  congr 1
  funext a
  rw[List.filter_map,Lc,Lc]
  rfl
 rw[e];refine oS ?_
 have s9:(qE 0 cs).Sublist ev9:=yR (m:=3) h3 hr
 have all:∀p∈((qE 0 cs).flatMap λa=>((qE 0 cs).filter λb=>qq (RR cs ls) (e9 a) (e9 b)).map λb=>(a.1,a.2,b.1,b.2)),decide (p.1<p.2.2.1)=true:=λp hp=>by
  obtain⟨a,ha,hp⟩:=MN.mp hp;obtain⟨b,hb,rfl⟩:=J5.mp hp;obtain⟨b1,b2⟩:=Kt.mp hb
  have ea:ai cs (e9 a)=true:=gh (vP cs 0▸NA ha)
  have eb:ai cs (e9 b)=true:=gh (vP cs 0▸NA b1)
  have b2:(a7 [(a.1:Int),(a.2:Int)] [(b.1:Int),(b.2:Int)] &&q2 (RR cs ls) (e9 a) (e9 b))=true:=b2;rw[JM,lj]at b2;refine decide_eq_true (show a.1<b.1 from ?_)
  by_cases q:(a.1:Int)=(b.1:Int)
  ·rw[if_pos q]at b2
   have lt:=of_decide_eq_true b2.1
   have kn:Cl ls (e9 b) (e9 a):=by
    have:=qr (ls:=ls) (e:=e9 b) (c:=.int (b.1:Nat)) b.2 Cl.here a.2 (by omega)
    rw[<-q]at this;exact this
   have:=b2.2;unfold q2 at this;rw[(jl g eb ea).mpr kn]at this
   simp at this
  ·rw[if_neg q]at b2
   have:=of_decide_eq_true b2.1;omega
 rw[<-Q0.mpr all];exact(mG (λa=>(List.filter_sublist.trans s9).map _) s9).filter _
theorem H0 (h:Dc x):xS x<=3:=by
 obtain⟨a,b,l,rfl,_,hl⟩:=h
 show(l.map T.int).length<=3
 rw[JQ];exact hl
theorem Be (g:Good cs ls)(g2:Good cs ms)(h:∀t∈ls,t∈ms):∀t∈up cs ms,t∈up cs ls:=λt ht=>by
 obtain⟨x,y,hx,hy,q,rfl⟩:=up_mem.mp ht;refine up_mem.mpr ⟨x,y,hx,hy,?_,rfl⟩
 have q:(a7 (bx x) (bx y)&&(!a0 x (sk (RR cs ms) y)&& !a0 y (sk (RR cs ms) x)))=true:=q
 show(a7 (bx x) (bx y)&&(!a0 x (sk (RR cs ls) y)&& !a0 y (sk (RR cs ls) x)))=true
 simp only[JM,PF]at q ⊢
 have no:∀{a b:T},ai cs a=true->ai cs b=true->a0 a (sk (RR cs ms) b)=false->a0 a (sk (RR cs ls) b)=false:=λ{a b} ha hb h0=>by
  cases z:a0 a (sk (RR cs ls) b)with
  | false=>rfl
  | true=>
   rw[(jl g2 hb ha).mpr (((jl g hb ha).mp z).mono h)]at h0;cases h0
 exact⟨q.1,no hx hy q.2.1,no hy hx q.2.2⟩
end
section
variable {cs ls:List T}{L:cC N2}{P:List N2}{a b:T}{ns:List Int}
abbrev fr (ns:List Int)(cs ls:List T)(s4 s5 s6 s7 s8 s9 s10:Sl):En:=[.va (.scr ns),.va (RR cs ls),.va (.lst (bJ 0 cs)),.va (.lst (up cs ls)),s4,s5,s6,s7,s8,s9,s10]
abbrev W5:En->Rs Fl:=ay (eO (eF (tb (cl cY (ae (vr 1) (ae (vr 4) (ae (vr 5) aj)))))) (aO (cn (.bl false))) sN) (ay (cw (cU (o2 bz (vr 4) (cl aT (ae (vr 1) (ae (vr 5) aj)))) (o2 bz (vr 5) (cl aT (ae (vr 1) (ae (vr 4) aj))))) (gN 6)) (eO (tb (o2 kX (o2 tE (br (ae (cl kI (ae (vr 4) (ae (vr 5) aj))) (ae (cl kJ (ae (vr 4) (ae (vr 5) aj))) aj))) (vr 3)) (vr 6))) (aO (cn (.bl false))) sN))
theorem Rd.w5 (R:Rd cs ls L P)(ha:ai cs a=true)(hb:ai cs b=true)(s6 s7 s8 s9 s10:Sl):W5 (fr ns cs ls (.va a) (.va b) s6 s7 s8 s9 s10)= .ok (.nx (fr ns cs ls (.va a) (.va b) (.va (.bl (q2 (RR cs ls) a b))) s7 s8 s9 s10)):=by
 have g:=R.g;obtain⟨a1,a2,_⟩:=jt g ha;obtain⟨b1,b2,_⟩:=jt g hb;rw[W5,aw ((b6 (eR (k:=true) (bj (aG (ts:=[RR cs ls,a,b]) rfl (R.Jp ha hb))))).trans rfl)];rw[aw (Z':=fr ns cs ls (.va a) (.va b) (.va (.bl (q2 (RR cs ls) a b))) s7 s8 s9 s10) (bZ (iP (aD (t:=a) rfl (aG (ts:=[RR cs ls,b]) rfl b1) (fo ha b2)) λ_=>aD (t:=b) rfl (aG (ts:=[RR cs ls,a]) rfl a1) (fo hb a2)) rfl)]
 exact(b6 (bj (aD (u:=.bl (q2 (RR cs ls) a b)) (DV g ha hb rfl rfl rfl) rfl (Dw _)))).trans rfl
abbrev W7:En->Rs Fl:=ay (cw (cl cz (ae (vr 1) (ae (vr 4) (ae (o2 aS (vr 4) (cn (.int 0))) aj)))) (gN 7)) (ay (eO (tD (tb (o2 jQ (vr 7) (cn .non))) (tD (tb (o2 kX (o2 aS (vr 7) (cn (.int 0))) (o2 aS (vr 4) (cn (.int 0))))) (tb (o2 Gm (o2 aS (vr 7) (cn (.int 1))) (o2 aS (vr 4) (cn (.int 1))))))) (aO (cn (.bl false))) sN) (eO (tb (o2 kX (cl yy (ae (cl fK (ae (vr 1) (ae (vr 4) aj))) aj)) (cl cH (ae (cl aT (ae (vr 1) (ae (vr 4) aj))) aj)))) (aO (cn (.bl false))) sN))
theorem w7 (g:Good cs ls)(ha:ai cs a=true)(s5 s6 s7 s8 s9 s10:Sl):∃s,W7 (fr ns cs ls (.va a) s5 s6 s7 s8 s9 s10)= .ok (.nx (fr ns cs ls (.va a) s5 s6 s s8 s9 s10)):=by
 obtain⟨c,k,rfl,hc⟩:=gz ha;obtain⟨j,hj,e⟩:=Af g ha
 have e1:=CO g ha c hc;rw[e]at e1;obtain⟨a1,a2,_⟩:=jt g ha;refine⟨.va (.tup [.int c,.int j]),?_⟩
 rw[W7,aw (Z':=fr ns cs ls (.va (.tup [.int c,.int k])) s5 s6 (.va (.tup [.int c,.int j])) s8 s9 s10) (bZ (aG (ts:=[RR cs ls,.tup [.int c,.int k],.int c]) rfl e1) rfl)];rw[aw ((b6 (kK (bj (aD (t:=.tup [.int c,.int j]) (u:=.non) rfl rfl rfl)) (kK (bj (aD (t:=.int c) (u:=.int c) rfl rfl (jM rfl (by simp[T.dep])))) (bj (aD (t:=.int j) (u:=.int k) rfl rfl (by show Rs.ok (T.bl (decide ((k:Int)<(j:Int))))=_;rw[decide_eq_false (by omega)])))))).trans rfl)]
 exact(b6 (bj (aD (t:=.int ((sk (RR cs ls) (.tup [.int c,.int k])).length:Nat)) (u:=.int ((sk (RR cs ls) (.tup [.int c,.int k])).length:Nat)) (aG (ax (aG (ts:=[RR cs ls,.tup [.int c,.int k]]) rfl (qm g ha)) rfl) (Bj a2)) (aG (ax (aG (ts:=[RR cs ls,.tup [.int c,.int k]]) rfl a1) rfl) rfl) (jM rfl (by simp[T.dep]))))).trans rfl
theorem Rd.w3 (R:Rd cs ls L P)(s8 s9 s10:Sl):∃s4 s5 s6 s7,dY (iS (vr 2)) (gN 4) (ay (dY (iS (vr 2)) (gN 5) W5) W7) (fr ns cs ls .em .em .em .em s8 s9 s10)= .ok (.nx (fr ns cs ls s4 s5 s6 s7 s8 s9 s10)):=by
 obtain⟨Z',e,s4,s5,s6,s7,rfl⟩:=ko (g:=gN 4) (F:=ay (dY (iS (vr 2)) (gN 5) W5) W7) (λZ=> ∃s4 s5 s6 s7,Z=fr ns cs ls s4 s5 s6 s7 s8 s9 s10) (ts:=bJ 0 cs) (λx hx Z hh_=>by
  obtain⟨s4,s5,s6,s7,hρ⟩:=hh_;subst hρ
  have ex:=gh hx
  obtain⟨Z',e,t5,t6,rfl⟩:=ko (g:=gN 5) (F:=W5) (λZ=> ∃s5 s6,Z=fr ns cs ls (.va x) s5 s6 s7 s8 s9 s10) (ts:=bJ 0 cs) (λy hy Z hh_=>by
   obtain⟨s5,s6,hρ⟩:=hh_;subst hρ;exact⟨fr ns cs ls (.va x) (.va y) s6 s7 s8 s9 s10,_,rfl,R.w5 ex (gh hy) s6 s7 s8 s9 s10,_,_,rfl⟩) ⟨s5,s6,rfl⟩
  obtain⟨s,e7⟩:=w7 (ns:=ns) R.g ex t5 t6 s7 s8 s9 s10;exact⟨fr ns cs ls (.va x) s5 s6 s7 s8 s9 s10,_,rfl,(aw (eU (ts:=bJ 0 cs) (fz rfl) e)).trans e7,_,_,_,_,rfl⟩) ⟨.em,.em,.em,.em,rfl⟩
 exact⟨s4,s5,s6,s7,eU (ts:=bJ 0 cs) (fz rfl) e⟩
end
theorem Hl {cs ls:List T}:kX (.lst (up cs ls)) (.lst (up cs ls))= .ok (.bl false):=Fi (n:=59) (JW _) λt ht=>⟨(kF t ht).pl,by
 obtain⟨x,y,rfl,hx,hy⟩:=kF t ht
 have:=(kL hx).2
 have:=(kL hy).2;unfold T.dep deps deps deps
 omega⟩
theorem pure_law (ns:List Int)(hn:ns.length<=63):m_law [.scr ns] = .ok (.bl true):=by
 obtain⟨cs,ls,e1,hc,h3,hs,hl,h5,dc⟩:=F0 ns hn 0 5 (by omega)
 obtain⟨ok,sm8⟩:=yI hc hs hl (by omega)
 have g:Good cs ls:=ve ok (tU sm8);obtain⟨L,P,R⟩:=vf g;obtain⟨r,er,hr⟩:=oo ns hn 80 cs hc;refine a6 rfl ?_
 show AV [.va (.scr ns),.em,.em,.em,.em,.em,.em,.em,.em,.em,.em] =_
 unfold AV;rw[aw (Z':=[.va (.scr ns),.va (RR cs ls),.em,.em,.em,.em,.em,.em,.em,.em,.em]) (bZ (aG (ts:=[.scr ns,.int 0,.int 5]) rfl e1) rfl)];rw[aw (Z':=[.va (.scr ns),.va (RR cs ls),.va (.lst (bJ 0 cs)),.em,.em,.em,.em,.em,.em,.em,.em]) (bZ (aG (ts:=[RR cs ls]) rfl (gZ g)) rfl)];rw[aw (Z':=fr ns cs ls .em .em .em .em .em .em .em) (bZ (aG (ts:=[RR cs ls]) rfl (om g)) rfl)];obtain⟨s4,s5,s6,s7,e3⟩:=R.w3 (ns:=ns) .em .em .em
 rw[aw e3]
 have ss:gW [.lst (up cs ls)] = .ok (.lst (up cs ls)):=by
  show(if mY prsL (up cs ls)=true then Rs.ok (T.lst (up cs ls))else .bad)=_
  rw[if_pos (DS g h3 λc h=>H0 (dc c h))]
 rw[aw ((b6 (bj (aD (t:=.lst (up cs ls)) (u:=.lst (up cs ls)) rfl (aG (ts:=[.lst (up cs ls)]) rfl ss) Hl))).trans rfl)];rw[aw (Z':=fr ns cs ls s4 s5 s6 s7 (.va r) .em .em) (bZ (aG (ts:=[.scr ns,.int 80,.tup cs]) rfl er) rfl)];rcases hr with rfl | ⟨hr,smr⟩
 ·exact fy ((d8 (vJ (bj (aD (t:=.non) (u:=.non) rfl rfl rfl)))).trans rfl)
 obtain⟨x,y,d,m,rfl,hd,hx,hy,_⟩:=dB hr;rw[aw ((b6 (kK (bj (aD (t:=.tup [x,y,d,m]) (u:=.non) rfl rfl rfl)) (bj (aD (t:=.int (ls.length:Nat)) (u:=.int 7) (aG (ts:=[.tup ls]) rfl rfl) rfl (by show Rs.ok (T.bl (decide (7<(ls.length:Int))))=_;rw[decide_eq_false (by omega)]))))).trans rfl)]
 have hl2:uN cs (ls++ [.tup [x,y,d,m]]):=λt ht=>(Kg.mp ht).elim (hl t) λh=>by rw[JX.mp h];exact⟨hr,smr⟩
 obtain⟨ok2,sm2⟩:=yI hc hs hl2 (by rw[JZ,Lb];omega)
 have g2:Good cs (ls++ [.tup [x,y,d,m]]):=ve ok2 (tU sm2)
 have sub:∀t∈ls,t∈ls++ [.tup [x,y,d,m]]:=λt ht=>K6 _ ht
 have ew:cW [RR cs ls,.tup [x,y,d,m]] = .ok (RR cs (ls++ [.tup [x,y,d,m]])):=by
  rw[pG (g.parts.1) g.pls (by omega) (tU smr) ok]
  unfold rz;rw[if_pos ok2]
 have kn:Cl (ls++ [.tup [x,y,d,m]]) y x:=Cl.here.on (K6 _ (J5.mpr ⟨.tup [x,y,d,m],Kt.mpr ⟨by simp,(kB hy hy).mpr rfl⟩,rfl⟩))
 clear hl2 ok2 sm2
 generalize ls++ [.tup [x,y,d,m]] =ms at sub g2 kn ew
 rw[aw (Z':=fr ns cs ls s4 s5 s6 s7 (.va (.tup [x,y,d,m])) (.va (RR cs ms)) .em) (bZ (aG (ts:=[RR cs ls,.tup [x,y,d,m]]) rfl ew) rfl)];obtain⟨y1,y2,_⟩:=jt g2 hy
 have t8:o2 bz (o2 aS (vr 8) (cn (.int 0))) (cl aT (ae (vr 9) (ae (o2 aS (vr 8) (cn (.int 1))) aj))) (fr ns cs ls s4 s5 s6 s7 (.va (.tup [x,y,d,m])) (.va (RR cs ms)) .em)= .ok (.bl (!a0 x (sk (RR cs ms) y))):=aD (t:=x) (u:=.lst (sk (RR cs ms) y)) rfl (aG (ts:=[RR cs ms,y]) rfl y1) (fo hx y2);rw[(jl g2 hy hx).mpr kn]at t8;rw[aw ((b6 (bj t8)).trans rfl)]
 obtain⟨Z',e9,s10,rfl⟩:=ko (g:=gN 10) (F:=eO (tb (o2 kX (dU (iS (cl aT (ae (vr 1) (ae (vr 10) aj)))) [none,some 9,some 10] (gN 0) (tb (o2 bz (vr 0) (cl aT (ae (vr 1) (ae (vr 2) aj))))) (vr 0)) (fD aj))) (aO (cn (.bl false))) sN) (λZ=> ∃s10,Z=fr ns cs ls s4 s5 s6 s7 (.va (.tup [x,y,d,m])) (.va (RR cs ms)) s10) (ts:=bJ 0 cs) (λe he Z hh_=>by
  obtain⟨s10,hρ⟩:=hh_;subst hρ
  have ee:=gh he;obtain⟨a1,a2,a3⟩:=jt g ee;obtain⟨b1,b2,_⟩:=jt g2 ee;exact⟨fr ns cs ls s4 s5 s6 s7 (.va (.tup [x,y,d,m])) (.va (RR cs ms)) (.va e),_,rfl,(b6 (bj (aD (t:=.lst []) (u:=.lst []) (zM g (src:=[none,some 9,some 10]) a2 a3 b2 (aG (ts:=[RR cs ls,e]) rfl a1) (by simp) (λ_=>rfl) (λt=>aG (ts:=[RR cs ms,e]) rfl b1) λz hz=>(gn g2 ee).mpr (((gn g ee).mp hz).mono sub)) rfl zA))).trans rfl,_,rfl⟩) ⟨.em,rfl⟩
 rw[aw (eU (ts:=bJ 0 cs) (fz rfl) e9)];refine bH (aD (t:=.lst []) (u:=.lst []) ?_ rfl (CJ rfl (by simp[T.dep,deps])))
 rw[zW (ts:=up cs ms) (p:=λt=> !a0 t (up cs ls)) (h:=id) (fz (aG (ts:=[RR cs ms]) rfl (om g2))) (aF (k:=256) (DT g2)) (by simp) λt ht=>⟨bj (aD (t:=t) rfl rfl (zq (kF t ht) kF)),λ_=>rfl⟩]
 rw[MW.mpr λt ht=>by rw[(AI (kF t ht) kF).mpr (Be g g2 sub t ht)];simp]
 rfl
end G
end
open PySem PySem.W PyProof.Rows
set_option maxRecDepth 100000 in
set_option maxHeartbeats 0 in
theorem PySem.Challenge.cw_farclocks_k44_whole_knowing_holds : PySem.Challenge.rw_farclocks_k44_whole_knowing.Holds := by
  w_on; o_law
  refine holds_open (q := G.vw) (loose := G.lse) (Xt := λ_ => true) (XP := λ_ _ => True) (Yf := (Tr.hookC G.asks G.top).obs) (Ya := (Tr.hookC G.asks G.top).val) (YP := (Tr.hookC G.asks G.top).says) (N := 9000) (Tr.left_of (by rfl) (by rfl) (λ_ => rfl) λw os => ?hl) (Tr.hookC G.asks G.top).of (Tr.hookC G.asks G.top).keeps (λ_ _ => trivial) (λ_ _ _ _ _ => trivial) (by rfl) (by rfl) (by rfl) (λs _ => recFacts_of (s := s) rfl) (by rfl) (by assumption) (by decide +kernel) ⟨rfl, rfl, rfl, rfl, rfl, by decide +kernel⟩ ?hw ?hc
  case hl => exact G.JA w os
  case hw => w_witness2
  case hc => exact Tr.walk_c (n := 63) (k := 16) (x := "_law_script") (CX := L2.CX0) (sp := λK => Tr.spP K 1 G.m_law) rfl (by decide) rfl ⟨rfl, by decide, by decide⟩ (λw K mg fa h X e g hf => G.all_ok X e g hf) (λK H a ns hl _ hS => Tr.sp_script hS (G.pure_law ns hl)) λ_ _ _ _ z => z
