import PyProof.Rows.All
import Wide.All
import OpenK.AllK
import Wide.FinOn
import Lean
import PyProof.EqAt
import PyProof.EqKinds
import PyProof.TupleCall
import PyProof.ExcClass3
import PyProof.StationsW
import PyProof.ExcBaseAll.ValueError
import PyProof.ExcArgsOwn
import PyProof.IsiBase
import PyProof.IsiH_tuple
import PyProof.ExcAttrAll.ValueError
import PyProof.Rows.RuleN_isinstance
import PyProof.MeetsSeq
import PyProof.RulesAs
import PyProof.IsiH_list
import PyProof.AttrMiss
import KE.KDictOf
import PyProof.Rows.SumAny
import PyProof.Rows.MinMaxN
import PyProof.Rows.SortShellK
import PyProof.Rows.SortWalk
import KE.KSortTup
import PyProof.ZipIter
import PyProof.WalksMore
import PyProof.DictWalks
import PyProof.AutoSeq1
import PyProof.Rows.Range3
import PyProof.CollectWalk
import PyProof.EnumMake
import PyProof.ListRange
import KE.KRevIter
import PyProof.SetScanFacts
import PyProof.SetKind
import PyProof.DictKinds
import PyProof.FactsAll.set_0
import PyProof.FactsAll.set_1
import PyProof.FactsAll.set_2
import PyProof.FactsAll.set_3
import PyProof.FactsLen
import PyProof.TupleIter
import PyProof.Rows.SetFrom
import PyProof.Rows.SortShell
import PyProof.CallStr
import PyProof.RulesTry
import KE.KIntText
import PyProof.Conv_int
import PyProof.ReprStr
import Flt.Str
import PySem.Challenge.RW_farclocks_k93_whole_times_read
variable{M N a i j j1 j2 k kk l1 n t' t2 x1:Nat}{Pp:Prop}{Ty:String}{ab ab' f hdct hdct':Bool}{b ks l p r v w y:List Nat}{col col':Option Bool}{g:Int->Int->Int}{hi lo:Option Int}{m s:Int}{ns:List Int}{ps:List (List Nat)}{x:Int×List Nat}{α β κ:Type}
noncomputable section
open PySem.Challenge renaming pw_farclocks_k93_whole_times_read→JU,rw_farclocks_k93_whole_times_read→Oa
open PySem.Builtin.SmallTypes renaming ownedTupleHandOut→La,ownedTupleIsFree→JT,nextOf→J2
open PySem.AutoListH renaming list___mul___list_int_3→QC
open Array renaming all_eq_true_iff_forall_mem→Nn,getElem?_eq_some_iff→Kj,getElem?_toList→Pu,length_toList→Mj,find?_toList→Qy,toList→Po
open PyProof.Rows renaming slot_tuple_getitem→KF,callWith_builtin1→ND,callWith_type1→KG,subscriptTail_builtinR→Pk,entry_tuple_getitem→Qo,args_tuple_getitem→Q5,subscriptTail→O5,Constant_none→QY,tupleItemsOf_→Q6,Subscript_→Rv,boot_all→Rf,IntsAre→Ot,AllBare→PH,IsTup→SA
open PySem.F renaming args_tuple_iterator_next_1→NO,entry_tuple_iterator_next→NY,slot_tuple_iterator_next→LN,excBase_ValueError→N9,slot_list_getattribute→L7,args_tuple_add_2→MY,slot_zip_getattribute→Mo,entry_tuple_add→Na,plainAttrs_list→Nb,args_dict_get_2→OS,slot_tuple_add→Np,plainAttrs_str→Nq,entry_dict_get→Pf,slot_dict_get→NF,slot_enumerate_next→Pq,kt_typeCall_dict_1→PX,args_object_init_3→PY,slot_str_partition→PZ,args_str_split_2→Oh,args_dict_init_2→QJ,args_zip_next_1→MH,entry_str_split→OJ,args_int_rmul_2→Rk,slot_tuple_rmul→Rm,entry_dict_init→Rn,entry_zip_next→MT,slot_str_split→MU,slot_tuple_mul→O9,slot_int_index→RN,entry_int_rmul→RO,kt_called_dict→RS,typeCall_zip_2→RT,type_str_split→RU,slot_zip_next→Lf,slot_int_rmul→NW,fills_int_mul→Sf,slot_zip_iter→Sh,newCall_zip_2→Si,entry_zip_new→Sj,called_int→Oi
open PySem.Builtin.Slice renaming slicePartIndex→R7,sliceApplied→N6,slicePlaces→LY,sliceAdjust→MP
open List renaming getD_eq_getElem?_getD→Kq,getElem?_append_right→Kz,nodup_iff_pairwise_ne→Oc,getElem?_eq_some_iff→Kb,getElem?_append_left→Lc,drop_eq_getElem_cons→Ld,getElem?_eq_getElem→JW,append_cancel_right→OL,getElem?_cons_succ→Ml,getElem?_replicate→Nf,filter_cons_of_pos→OZ,filter_cons_of_neg→O0,append_cancel_left→O4,getElem?_set_self→Kk,drop_eq_nil_of_le→Mt,take_of_length_le→Nr,filter_eq_nil_iff→Nt,mem_append_right→JV,length_singleton→Ka,getElem?_eq_none→NH,take_append_drop→Pv,eq_nil_or_concat→Pz,concat_eq_append→PB,length_filter_le→PC,mem_cons_of_mem→JF,getElem?_set_ne→Ki,mem_append_left→K4,mem_of_getElem?→K5,mem_erase_of_ne→P2,map_congr_left→Kp,filterMap_cons→KJ,replicate_succ→Ls,map_eq_nil_iff→LH,getElem_of_mem→Mk,drop_succ_cons→Qn,length_append→JC,mem_cons_self→JI,mem_singleton→JY,length_range'→Mu,mem_filterMap→Od,getElem?_drop→Ol,forIn_toArray→QK,zip_cons_cons→QR,filter_append→QV,map_inj_right→QX,append_assoc→JX,size_toArray→J0,getElem?_map→Ko,flatten_cons→K0,nodup_append→LC,length_range→L6,mem_range'_1→L8,map_inj_left→MI,flatMap_cons→OK,isEmpty_cons→Rp,length_cons→JJ,all_eq_true→J4,not_mem_nil→KN,lookup_cons→KY,getElem_mem→Lg,length_drop→Lo,length_take→LQ,drop_length→O8,getElem_map→Pa,zipIdx_cons→Pb,filter_cons→RV,mem_flatMap→RX,range'_succ→RY,length_map→JE,mem_append→JR,map_append→Kh,append_nil→Kr,nodup_cons→KA,length_nil→Le,length_set→Ll,mem_filter→Lw,forIn_cons→L5,of_mem_zip→My,nil_append→Mz,find?_cons→MA,zipIdx_nil→Pt,range_succ→Pw,idxOf_cons→Sn,replicate→J9,mem_range→Lu,forIn_nil→MQ,nodup_nil→MR,drop_drop→Oq,drop_zero→Qa,drop_left→Qb,take_left→Qc,map_cons→JG,mem_cons→JL,sum_cons→K1,any_cons→LU,all_cons→QF,mem_map→JQ,map_map→J6,map_nil→NG,toArray→RB,length→Lh,range'→LI,lookup→Nx,range→KS,Nodup→Ny,foldl→OG,cons→QM
open PySem renaming wpAny_newFunctionEnv_cells→LP,wpAny_binaryOp_repeat_ref→Ou,wpAny_callSpecial?_slot→Ku,wpAny_Call_method_late→LM,wpAny_nextOf_list_item→Nv,wpAny_pyNext_list_item→Pj,codeAny_handlers_suite→Pl,builtinLookup_eq_fast→ME,wpAny_pyNext_list_end→PJ,codeAny_call_function→PL,wpAny_notOrdered_dict→PM,wpAny_nextOf_list_end→PN,pythonCodeMadeTheCall→PP,codeAny_handlers_test→PQ,wpAny_updateSeq_pair→LZ,wpAny_loadName_local→P4,wpAny_raiseAttrError→P5,codeAny_call_builtin→P6,wpAny_setFlight_none→P7,mem_of_lookup→LD,wpAny_isSubtype_exc→Qq,plainExc_ValueError→Qr,wpAny_raiseNew_none→Qs,wpAny_handleBy_cons→Qt,wpAny_setField_rec→KR,wpAny_Call_Name_kw→Lm,wpAny_pyIter_tuple→LX,tupleKind_room_in1→Mw,wpAny_List_spliced→QZ,sub_AttributeError→Q8,wpAny_dictSet_heap→Q9,wpAny_newExc_plain→Rc,wpAny_Constant_str→Re,foldedSetIterable→J8,wpAny_truthy_bool→K2,wpAny_newObj_type→Lj,wpAny_pyIter_list→MK,wpAny_Return_some→ON,wpAny_assign_Name→Rt,wpAny_sequenceKey→Ru,wpAny_pyIter_enum→Rw,wpAny_loadPart_at→Rx,wpAny_call_entry→KZ,wpAny_execs_cons→NM,noFill_tuple_add→Pc,wpAny_isInstance→Pd,wpAny_comp_letGo→Pe,seqSlot_of→RQ,kt_code_dict_new→RZ,wpAny_pyIter_zip→R4,wpAny_pyRepr_str→R5,checkBuiltinCall→R6,wpAny_execs_nil→L9,letOwnedTupleGo→Ma,wpAny_loadPart'→Mc,leftWithCleanup→MF,pushCells_keeps→Nl,theTreesLotGoes→N3,typeLookup_type→N4,codeAny_builtin→N5,importedModules→PF,wpAny_passesOwn→Sq,wpAny_seqItems→KD,newFunctionEnv→Ov,wpAny_setField→Ox,wpAny_newEntry→Oy,recursionLimit→Qd,isSubtype_stop→Qe,wpAny_newTuple→Qg,isSubtype_type→Qh,attributeBase→Kx,wpAny_holding→KM,behindInMarks→ML,wpAny_onRaise→MM,swapsWithSole→Nj,swappedStores→Nk,wpAny_attempt→Nm,wpAny_standAt→NQ,comprehension→NR,plainId_quiet→NS,seq_tuple_add→Q3,evalPart_none→Q7,Comprehension→Ra,bootBuiltins→Ke,wpAny_typeOf→M6,concat_meets→RG,callType_new→RH,callSpecial?→RI,wpAny_field→Kd,mainGlobals→Km,sizeLine_eq→KW,excClassObj→MX,sliceBounds→NA,wpAny_of_eq→NB,wpAny_letGo→O6,subscripted→Qp,keywordEach→Sr,wpAny_point→Sv,wpAny_bind→Jy,wpAny_pure→JK,wpAny_mono→Kw,assignEach→K3,wpAny_rule→Mb,sysModules→Mr,call_meets→Ms,builtinsNs→NU,typeLookup→OP,typeIs_int→PU,wpAny_Name→Rr,compareOp→KU,swapsWith→Lx,cellsFrom→LJ,Str→LR,noteFrame→MD,pushCells→NL,tupleKind→N1,Ctx→OF,Arguments→OM,specialOf→OQ,treeTable→PD,numTextOf→Rb,strValues→Su,numSeenOf→Sw,starEach→JZ,FuncData→KO,binaryOp→Lz,boot_len→LB,NameKind→Mv,compPost→PV,bindArgs→Q0,GenState→R8,evalArgs→R9,entryFor→Sa,callWith→Sb,intText?→Sd,Program→J1,OsState→Nz,BindsTo→PK,Keyword→Ss,Shared→JB,Around→Kc,IsPair→Mx,Result→Nu,IsPart→Q4,Paired→Sz,Value→JD,World→Ks,Scope→MJ,Model→Os,Drawn→Sx,CmpOp→Sy
open PySem.Builtin.Tuple renaming tupleItemsOf→N7,tupleIsExact→N8,tupleExact→Ly
open PySem.Calls renaming Name_function_global→Ob,callWith_builtin→Lp,evalArgs_plain→Ln,spliced_cons→K7,Constant_str→Qw,spliced_nil→Li
open Classical renaming byContradiction→Oo
open PySem.Builtin.List renaming listTooLong→L4
open Option renaming isSome_iff_exists→M4,map_eq_some_iff→Ph,isSome_some→QD,getD_none→RM,some→KH
open PySem.Builtin.Dict renaming addKeywords→OA,selfAndRest→OB,updateFrom→Mh,pairItems→Pg
open Int renaming eq_ofNat_of_zero_le→KL,emod_lt_of_pos→Oj,toNat_natCast→Kl,emod_nonneg→Py,le_refl→So
open PySem.Builtin.Str renaming occurrences→Mi,strKind→KC,strSub→Nd,glued→Rj
open PySem.Heap renaming get?_push_of_some→JA,get?_update_other→LL,get?_update_self→NI,get?_push_size→JP,NewAttrErr→NZ,size_push→Kv,lt_size→JM,SameBut→Me,ExtBut→Sg
open PySem.W renaming cellsFrom_some→LK,hideAll_none→MN,hideAll_get→Lq,of_hideAll→M8,codeRec_of→M9,callWith_K→Qu,methodObj→Oz,hasDictIn→Rg,kitx_list→Rh,kitx_dict→Ri,plainGet→O7,openSeen→RJ,openGood→RL,kia_one→K9,topFrom→M7,hideAll→NV,instObj→Pm,keepIn→Mp,codeIn→Om,lookIn→P8,findIn→P9,mg_of→Nc,Frag→Jz,fnOf→Md,nsIn→MZ
open PySem.Obj renaming isFreed_of_fields→NJ,data_mapFields→LV,mapFields→Mm
open Bool renaming and_eq_false_iff→Px,and_eq_true_iff→Ky,false_ne_true→J7,false_eq_true→KQ,not_eq_true'→Ro,and_eq_true→JH,false_and→On,true_and→Ni,and_true→OY,or_false→QB,false_or→QH,or_true→RC
open PySem.Around renaming under_plainId→MO,units→Og
open PySem.Heap.SameBut renaming update→Qi
open Nat renaming lt_of_lt_of_le→JS,lt_of_le_of_lt→QQ,lt_succ_of_lt→OH,le_of_succ_le→OI,lt_trichotomy→Rq,lt_succ_self→RP,mod_eq_of_lt→RW,strongRecOn→Sk,lt_irrefl→J3,le_trans→J5,ne_of_lt→K6,le_of_eq→LS,le_of_lt→Mf,sub_zero→Mg,sub_self→MB,ne_of_gt→M0,zero_add→M5,toDigits→NK,succ_mul→Oe,add_comm→Of,mul_comm→Ry,lt_trans→RA,le_refl→JO,zero_le→KI
open PySem.Str renaming ofString→KP,ofString→JN,join→QU
open PySem.Heap.IsSliceOf renaming new→Qv
open Option.some renaming inj→Kn
open ForInStep renaming yield→LF
open List.cons renaming injEq→Pn
open PySem.Expr renaming Attribute→MS,Subscript→NC,ListComp→NP,Constant→OV,Compare→RD,UnaryOp→RE,BoolOp→MW,Name→KB,Call→LW
open PySem.NameKind renaming free→Kt,cell→Lk
open PySem.Txt renaming partition→LA,split→LG
open PySem.Paired renaming length→NN
open PySem.Code renaming isCaller→QN
open PySem.ExcName renaming means→QP
open PySem.Sem renaming wp_mono→N0,wp→Pr
open Prod.mk renaming inj→OR
open PySem.Shared renaming heap→OU
open PySem.Stmt renaming Assign→OW
open PySem.Scope renaming names→Ql
open PySem.Pos renaming endLine→Qm,line→Nh
open PySem.Data renaming fields→Se,cell→Qx
open PySem.Value renaming none→Kg,bool→K8,type→MG,ref→Kf,str→Lb,int→Lv
open False renaming elim→Lr
open True renaming intro→Mq
open Char renaming toNat→NT
open PySem.Env renaming scope→MC
open And renaming intro→Ng
open PyProof.Rows.IsTup renaming new→Qz
open PySem.BoolOp renaming Or→QL
open Eq renaming trans→PR
open Ne renaming symm→MV
open Iff renaming rfl→NX
open Sum renaming inl→Qj,inr→Qk
open Prod renaming mk→Rl
open Option renaming some→ZA,none→ZB
open Bool renaming true→ZC,false→ZD
open PySem renaming Addr→ZE,Stmt→ZF,Expr→ZG,Heap→ZH,sizeLine→ZI,wpAny→ZJ,model→ZK
set_option Elab.async false
set_option linter.all false
set_option maxRecDepth 100000
set_option maxHeartbeats 8000000
abbrev V0:=PySem.Str->Option JD
abbrev V2:=JD->JB->Prop
abbrev V3:=List (PySem.Addr×PySem.Obj)
variable{A Ar:Kc}{C cdv doc oc res ux vl vu:JD}{E Q Qf:V2}{K:Jz}{M:Os}{P prog q:J1}{R Rz:Nu->JB->Prop}{Xt:JB->Bool}{bm bmE bs' ds its sub sub' us vs:List JD}{d':Sx}{fd:KO}{h:Option JD}{op:Sy}{os:Nz}{params:OM}{s s' s0 s1:JB}{sc scope:MJ}{w:Ks}{Γ:OF}
noncomputable section
abbrev nDb(x:LR):Prop:=(x == KP "__debug__")=ZD
def qr_(h:True:=by first|exact .inl rfl|exact .inr rfl|assumption):True:=trivial
def r_:=qr_._auto_1
def qs_(h:True:=by decide):True:=trivial
def s_:=qs_._auto_1
def qt_(h:True:=by intro _;rfl):True:=trivial
def t_:=qt_._auto_1
def qu_(h:True:=by rfl):True:=trivial
def u_:=qu_._auto_1
def qv_(h:True:=by first|exact Or.inl rfl|exact Or.inr (Or.inl rfl)|exact Or.inr (Or.inr rfl)):True:=trivial
def v_:=qv_._auto_1
def qw_(h:True:=by with_unfolding_all rfl):True:=trivial
def w_:=qw_._auto_1
def qx_(h:True:=by intro _ _;rfl):True:=trivial
def x_:=qx_._auto_1
def qy_(h:True:=by first|exact Or.inl rfl|exact Or.inr rfl):True:=trivial
def y_:=qy_._auto_1
def qz_(h:True:=by decide+kernel):True:=trivial
def z_:=qz_._auto_1
def qa_(h:True:=by exact fsc):True:=trivial
def a_:=qa_._auto_1
def qb_(h:True:=by intro x;cases x):True:=trivial
def b_:=qb_._auto_1
namespace L2
open PySem PySem.Spec PyProof.Rows
inductive V where
 |non|bl (b:Bool)|int (i:Int)|str (x:Str)|byt (b:Array UInt8)|flt (b:UInt64)|ref (a:ZE)|ty (n:String)
 deriving DecidableEq
def BE(s:ZF)(j:Nat):ZF:=match s with
 |.ClassDef _ _ _ body _ _ _ _ _ _ _=>body.getD j (.Pass ⟨0,0,0,0⟩)
 |_=>.Pass ⟨0,0,0,0⟩
def fg(s:ZF):OM:=match s with
 |.FunctionDef _ a _ _ _ _ _ _ _ _=>a
 |_=>{posonlyargs:=[],args:=[],vararg:=ZB,kwonlyargs:=[],kw_defaults:=[],kwarg:=ZB,defaults:=[]}
def bP(s:ZF):List ZF:=match s with
 |.FunctionDef _ _ b _ _ _ _ _ _ _=>b
 |_=>[]
def aq(s:ZF):MJ:=match s with
 |.FunctionDef _ _ _ _ _ _ sc _ _ _=>sc
 |_=>{kind:=.function,names:=[],isGenerator:=ZD,isCoroutine:=ZD}
end L2
namespace Tr
open PySem PySem.Spec PyProof.Rows L2
inductive T where
 |non|bl (b:Bool)|int (i:Int)|str (x:Str)|tup (l:List T)|lst (l:List T)
 /-- the law's script: a list of ints that is only read -/
 |scr (l:List Int)
 /-- a dict: its keys,its values -/
 |dct (ks vs:List T)
 /-- an instance: its class,the names of its attributes,what they are -/
 |ob (C:Str) (ns:List Str) (ts:List T)
inductive OT where
 |lst (l:List T)|dct (ks ts:List T)|dd (ks:List T) (rows:List (List T×List T))
 /-- an instance,its attributes own lists -/
 |ob (C:Str) (ns:List Str) (ls:List (List T))
 /-- a list of own lists -/
 |ll (ls:List (List T))
def OT.view:OT->T
 |.lst l=>.lst l
 |.dct ks ts=>.dct ks ts
 |.dd ks rows=>.dct ks (rows.map λr=>.dct r.1 r.2)
 |.ob C ns ls=>.ob C ns (ls.map T.lst)
 |.ll ls=>.lst (ls.map T.lst)
def T.ty:T->Option String
 |.non=>ZA "NoneType"
 |.bl _=>ZA "bool"
 |.int _=>ZA "int"
 |.str _=>ZA "str"
 |.tup _=>ZA "tuple"
 |.lst _=>ZA "list"
 |.scr _=>ZB
 |.dct _ _=>ZB
 |.ob _ _ _=>ZB
def calmNames:List Str:=["__init__","__getattribute__","__getattr__","__class__"]
def xv:JD->Bool
 |.str _ _=>ZC
 |_=>ZD
def fB:List Int->List Int->Bool
 |[],[] =>ZD
 |[],_::_=>ZC
 |_::_,[] =>ZD
 |a::l,b::m=>if a=b then fB l m else decide (a<b)
open PySem.W
structure RK where
 V:ZH->JD->List Int->Prop
 inj:∀{h v a b},V h v a->V h v b->a=b
 on:∀{h h':ZH} {v a},V h v a->(∀b o,h.get? b=ZA o->h'.get? b=ZA o)->V h' v a
 b:Bool
 ty:String
 hb:(MG ty != MG "tuple")=b
 ht:(MG ty == MG ty)=ZC
 fst:∀{h v a},V h v a->∃ad o xs n f,v=.ref ad/\h.get? ad=ZA o/\o.cls=.type "tuple"/\o.data=.seq xs n/\xs[0]?=ZA f/\∀M,Looks M h (typeOf f) (.type ty)
 lt:∀{prog w A s E x y a c} {Q:Bool->JB->Prop},A.units+60<cLine->V s.heap x a->V s.heap y c->Q (fB a c) s->ZJ (ZK prog w) A (keyLt' (tuples' b) x y) Q E s
variable (R:RK)
open Classical in
def RK.key(h:ZH)(v:JD):Option (List Int):=if e:∃ns,R.V h v ns then ZA e.choose else ZB
variable {R:RK}
end Tr
namespace Tr
open PySem PySem.Spec PyProof.Rows L2 PySem.W
def rN(h:ZH):Frag:=(KS h.objs.size).filterMap λa=>(h.get? a).map λo=>(a,o)
def obF(K:Frag)(n:Str):Option (Str×Str×OM×FuncBody×MJ×ZE×List (Str×ZE)×JD×ZE×Bool×Bool):=match nsIn K Km n with
 |some (ZA (.ref f))=>match K.lookup f with
  |some ⟨_,_,.func d,_⟩=>ZA (d.name,d.qualname,d.params,d.body,d.scope,d.globals,d.closure,d.defaults,d.builtins,codeIn K d.code n,keepIn K (.ref f))
  |_=>ZB
 |_=>ZB
def exF(n:Str)(st:ZF):Option (Str×Str×OM×FuncBody×MJ×ZE×List (Str×ZE)×JD×ZE×Bool×Bool):=
 ZA (n,n,fg st,.stmts (bP st),aq st,Km,[],.none,NU,ZC,ZC)
def G7(K:Frag)(N:ZE)(n:Str):Bool:=match nsIn K N n with|some ZB=>ZC|_=>ZD
def Ij(K:Frag)(n:Str):Option Int:=match nsIn K Km n with|some (ZA (.int i _))=>ZA i|_=>ZB
def ug:List JD->Bool
 |[.type a,.type b,.type c,.type d] =>a == "ValueError" &&b == "Exception" &&c == "BaseException" &&d == "object"
 |_=>ZD
def under(D:Option ZE)(m:List JD):Bool:=match D with
 |none=>ug m
 |some D=>match m with
  |.ref E::m=>E == D&&ug m
  |_=>ZD
def Bk(K:Frag)(D:Option ZE)(n:Str):Option ZE:=match nsIn K Km n with
 |some (ZA (.ref C))=>match K.lookup C with
  |some ⟨.type t,_,.cls c,⟨[_,_,_,_,ZA (.builtin b),_]⟩⟩=>match c.mro,K.lookup c.ns with
   |.ref E::m,ZA ⟨_,_,.dict es _,_⟩=>
    if (t == "type" &&b == "ValueError.__new__" && !c.hasDel&&(es.toList.all λe=>xv e.key)&&calmNames.all (G7 K c.ns)&&E == C&&under D m)=ZC then ZA C else ZB
   |_,_=>ZB
  |_=>ZB
 |_=>ZB
def tO{α:Type}:List (Option α)->Option (List α)
 |[] =>ZA []
 |none::_=>ZB
 |some a::r=>match tO r with|some l=>ZA (a::l)|none=>ZB
def pR:List ZE->Bool
 |[] =>ZC
 |a::r=>(r.all λb=>!(a == b))&&pR r
def Ii(K:Frag):List Str->Bool
 |[] =>ZC
 |m::es=>match Bk K ZB m with
  |some D=>match tO (es.map (Bk K (ZA D)))with|some l=>pR (l++[D])|none=>ZD
  |none=>ZD
structure wN where
 tab:List (Str×Nat)
 zs:List Str
 cs:List (Str×Int)
 es:List Str
def pO(S:wN)(K:Frag):=(S.tab.map (λp=>obF K p.1),S.zs.all (G7 K Km),S.cs.map (λc=>Ij K c.1),Ii K S.es)
def oR(S:wN)(top:Nat->ZF):=(S.tab.map (λp=>exF p.1 (top p.2)),ZC,S.cs.map (λc=>ZA c.2),ZC)
def obM(K:Frag)(C:ZE)(m q:Str):Option (Str×Str×OM×FuncBody×MJ×ZE×List (Str×ZE)×JD×ZE×Bool×Bool×Bool):=match findIn K (.ref C) m with
 |some (ZA (.ref f))=>match K.lookup f with
  |some ⟨_,_,.func d,_⟩=>ZA (d.name,d.qualname,d.params,d.body,d.scope,d.globals,d.closure,d.defaults,d.builtins,codeIn K d.code q,keepIn K (.ref f),isFn K (.ref f))
  |_=>ZB
 |_=>ZB
def exM(m q:Str)(st:ZF):Option (Str×Str×OM×FuncBody×MJ×ZE×List (Str×ZE)×JD×ZE×Bool×Bool×Bool):=
 ZA (m,q,fg st,.stmts (bP st),aq st,Km,[],.none,NU,ZC,ZC,ZC)
def noAt(K:Frag)(C:ZE)(f:Str):Bool:=match findIn K (.ref C) f with|some ZB=>ZC|_=>ZD
def saOk(K:Frag)(C:ZE):Bool:=match findIn K (.ref C) "__setattr__" with|some (ZA (.builtin b))=>b == "object.__setattr__" |_=>ZD
def HL(K:Frag)(C:ZE)(as:List Str):Bool:=plainGet K C Str.empty&&hasDictIn K C&&plainOver K C&&saOk K C&&makesIn K C&&keepIn K (.ref C)&&as.all (noAt K C)
structure FC where
 c:Str
 i:Nat
 as:List Str
 ms:List (Str×Str×Nat)
def obK(K:Frag)(A:FC):=match nsIn K Km A.c with
 |some (ZA (.ref C))=>ZA (HL K C A.as,A.ms.map λ(m:Str×Str×Nat)=>obM K C m.1 m.2.1)
 |_=>ZB
def exK(top:Nat->ZF)(A:FC):=ZA (ZC,A.ms.map λ(m:Str×Str×Nat)=>exM m.1 m.2.1 (BE (top A.i) m.2.2))
structure si where
 a:wN
 ks:List FC
def yk(S:si)(K:Frag):=(pO S.a K,S.ks.map (obK K))
def xf(S:si)(top:Nat->ZF):=(oR S.a top,S.ks.map (exK top))
end Tr
namespace G
open PySem PySem.Spec PyProof.Rows L2 Tr
def top(i:Nat):ZF:=JU.main.body.getD i (.Pass ⟨0,0,0,0⟩)
def zL:wN:=⟨([("_law_cell",56),("_law_drawn",57),("_law_events",60),("_law_letter",59),("_law_clock",58),("_law_record",61),("is_long",16),("is_whole",14),("is_within",15),("is_pace",19),("rises",17),("are_readings",18),("is_clock",20),("are_clocks",21),("is_event",22)]:List (Str×Nat))++([("is_delay",23),("is_letter",24),("are_letters",25),("is_record",26),("need_record",27),("events",29),("is_better",49),("settle",48),("greatest_world",51),("bounds_of_clock",32),("bounds_of_letter",33),("bounds",34),("world",52),("has_world",53),("_law_times",62)]:List (Str×Nat))++([("are_times",35),("can_be_written",43),("need_event",28),("reading_of",30),("line_text",44),("times_text",45),("number_of",40),("read_times",46),("holds",36),("broken",37),("is_world",38),("_law_read",63),("moved_by",54),("law",64)]:List (Str×Nat)),(["ValueError","all","bool","dict","enumerate","int","isinstance","len","range","str","tuple","zip"]:List Str),[("MOST_CLOCKS",4),("MOST_LETTERS",8),("MOST_READINGS",4),("LAST_READING",99),("SLOWEST",9),("LONGEST",999),("FARTHEST",999999999)],["ClockError","NoRecord","NoEvent","NoNumber","NoWorld","NoText"]⟩
def asks:si:=⟨zL,[]⟩
def vw:J1:=PySem.W.view JU [64]
def lse:List Str:=(["ClockError","NoRecord","NoEvent","NoNumber","NoWorld","NoText","MOST_CLOCKS","MOST_LETTERS","MOST_READINGS","LAST_READING","SLOWEST","LONGEST","is_whole","is_within","is_long","rises","are_readings","is_pace","is_clock","are_clocks"]:List Str)++(["is_event","is_delay","is_letter","are_letters","is_record","need_record","need_event","events","reading_of","bounds_of_clock","bounds_of_letter","bounds","are_times","holds","broken","is_world","number_of","FARTHEST","can_be_written","line_text"]:List Str)++(["times_text","read_times","settle","is_better","greatest_world","world","has_world","moved_by","_law_cell","_law_drawn","_law_clock","_law_letter","_law_events","_law_record","_law_times","_law_read"]:List Str)
def lhs(w:Ks)(h:ZH)(d:Sx)(t:Nat)(os:Nz):=(M7 PD JU w 9000 ⟨h,⟨[]⟩,d,t,os⟩).map (λs=>(RJ vw lse (PF JU.main.body) (λ_=>ZC) ZC s,(yk asks (rN s.heap),Nat.ble 1 s.toks)))
def rhs(w:Ks):=ZA (RL vw lse,(xf asks top,ZC))
open PySem.W
def lhA(w:Ks)(h:ZH)(d:Sx)(t:Nat)(os:Nz):=(M7 PD JU w 9000 ⟨h,⟨[]⟩,d,t,os⟩).map λs=>RJ vw lse (PF JU.main.body) (λ_=>ZC) ZC s
def rhA(_:Ks):=ZA (RL vw lse)
def lhA_r:lhA=lhA:=rfl
def rhA_r:rhA=rhA:=rfl
def lhB(w:Ks)(h:ZH)(d:Sx)(t:Nat)(os:Nz):=(M7 PD JU w 9000 ⟨h,⟨[]⟩,d,t,os⟩).map λs=>pO asks.a (rN s.heap)
def rhB(_:Ks):=ZA (oR asks.a top)
def lhB_r:lhB=lhB:=rfl
def rhB_r:rhB=rhB:=rfl
def lhC(w:Ks)(h:ZH)(d:Sx)(t:Nat)(os:Nz):=(M7 PD JU w 9000 ⟨h,⟨[]⟩,d,t,os⟩).map λs=>asks.ks.map (obK (rN s.heap))
def rhC(_:Ks):=ZA (asks.ks.map (exK top))
def lhC_r:lhC=lhC:=rfl
def rhC_r:rhC=rhC:=rfl
def lhD(w:Ks)(h:ZH)(d:Sx)(t:Nat)(os:Nz):=(M7 PD JU w 9000 ⟨h,⟨[]⟩,d,t,os⟩).map λs=>Nat.ble 1 s.toks
def rhD(_:Ks):=ZA (ZC)
def lhD_r:lhD=lhD:=rfl
def rhD_r:rhD=rhD:=rfl
def join3{γ δ:Type}{o:Option α}{f:α->β}{g:α->γ}{k:α->δ}{a:β}{b:γ}{c:δ}(h1:o.map f=ZA a)(h2:o.map g=ZA b)(h3:o.map k=ZA c):o.map (λs=>(f s,g s,k s))=ZA (a,b,c):=by
 cases o with
 |none=>cases h1
 |some s=>cases h1;cases h2;cases h3;rfl
def join4{γ δ ε:Type}{o:Option α}{f:α->β}{g:α->γ}{k:α->δ}{m:α->ε}{a:β}{b:γ}{c:δ}{d:ε}(h1:o.map f=ZA a)(h2:o.map g=ZA b)(h3:o.map k=ZA c)(h4:o.map m=ZA d):o.map (λs=>(f s,((g s,k s),m s)))=ZA (a,((b,c),d)):=by
 cases o with
 |none=>cases h1
 |some s=>cases h1;cases h2;cases h3;cases h4;rfl
end G
lay_quick G.lhA G.rhA G.lhB G.rhB G.lhC G.rhC G.lhD
name_quick lhAz for G.lhA by G.lhA_r
name_quick rhAz for G.rhA by G.rhA_r
name_quick lhBz for G.lhB by G.lhB_r
name_quick rhBz for G.rhB by G.rhB_r
name_quick lhCz for G.lhC by G.lhC_r
name_quick rhCz for G.rhC by G.rhC_r
name_quick lhDz for G.lhD by G.lhD_r
section
open PySem PySem.W PyProof.Rows
set_option maxRecDepth 100000 in
theorem G.Jr(w:Ks)(os:Nz):PySem.W.Fast.lhAz w (boot_heap w.params) boot_drawn boot_toks os=PySem.W.Fast.rhAz w:=by kernel_rfl
set_option maxRecDepth 100000 in
theorem G.Jp(w:Ks)(os:Nz):PySem.W.Fast.lhBz w (boot_heap w.params) boot_drawn boot_toks os=PySem.W.Fast.rhBz w:=by kernel_rfl
set_option maxRecDepth 100000 in
theorem G.Jm(w:Ks)(os:Nz):PySem.W.Fast.lhCz w (boot_heap w.params) boot_drawn boot_toks os=PySem.W.Fast.rhCz w:=by kernel_rfl
set_option maxRecDepth 100000 in
theorem G.Jq(w:Ks)(os:Nz):PySem.W.Fast.lhDz w (boot_heap w.params) boot_drawn boot_toks os=G.rhD w:=by kernel_rfl
def G.Jh(w:Ks)(os:Nz):G.lhs w (boot_heap w.params) boot_drawn boot_toks os=G.rhs w:=G.join4 (((congrFun (congrFun (congrFun (congrFun (congrFun PySem.W.Fast.lhAz_eq w) _) _) _) os).trans (G.Jr w os)).trans (congrFun PySem.W.Fast.rhAz_eq w).symm) (((congrFun (congrFun (congrFun (congrFun (congrFun PySem.W.Fast.lhBz_eq w) _) _) _) os).trans (G.Jp w os)).trans (congrFun PySem.W.Fast.rhBz_eq w).symm) (((congrFun (congrFun (congrFun (congrFun (congrFun PySem.W.Fast.lhCz_eq w) _) _) _) os).trans (G.Jm w os)).trans (congrFun PySem.W.Fast.rhCz_eq w).symm) ((congrFun (congrFun (congrFun (congrFun (congrFun PySem.W.Fast.lhDz_eq w) _) _) _) os).trans (G.Jq w os))
end
variable{v:JD}
namespace L2
open PySem PySem.Spec PyProof.Rows
abbrev Key:=Sum Int Str
def nX:Key->JD->Bool
 |.inl k,v=>Value.isInt k v
 |.inr x,v=>Value.isStrOf x v
def keyH(w:Ks):Key->Int
 |.inl k=>hashInt k
 |.inr x=>hashStr w x
theorem ck:∀{k:Key}{v:JD},nX k v=ZC->(∃i t,k=Qj i/\v=Lv i t)\/(∃x t,k=Qk x/\v=Lb x t)
 |.inl i,v,h=>by
  obtain⟨t,e⟩:=Value.isInt_shape (k:=i) (v:=v) h
  exact .inl ⟨i,t,rfl,e⟩
 |.inr x,v,h=>by
  obtain⟨t,e⟩:=Value.isStrOf_shape (x:=x) (v:=v) h;exact .inr ⟨x,t,rfl,e⟩
def wa(i:Int)(t:Tok):nX (.inl i) (.int i t)=ZC:=by simp[nX,Value.isInt]
def v9(x:Str)(t:Tok):nX (.inr x) (.str x t)=ZC:=by simp[nX,Value.isStrOf]
def EB(a b:Int):decide ((Qj a:Key)=Qj b)=(a == b):=by
 by_cases e:a=b
 ·subst e;simp
 ·have h:¬ (Qj a:Key)=Qj b:=λq=>e (Qj.inj q)
  rw[decide_eq_false h];exact(beq_eq_false_iff_ne.mpr e).symm
def Ey(a b:Str):decide ((Qk a:Key)=Qk b)=decide (a=b):=by
 by_cases e:a=b
 ·subst e;simp
 ·have h:¬ (Qk a:Key)=Qk b:=λq=>e (Qk.inj q)
  rw[decide_eq_false h,decide_eq_false e]
def EA(a:Int)(b:Str):decide ((Qj a:Key)=Qk b)=ZD:=decide_eq_false (λq=>nomatch q)
def Ez(a:Str)(b:Int):decide ((Qk a:Key)=Qj b)=ZD:=decide_eq_false (λq=>nomatch q)
def cb(prog:J1)(w:Ks):PySem.KeyKind prog w Key where
 is:=nX
 hash:=keyH w
 inj:=λv a b ha hb=>by
  rcases ck ha with⟨i,t,rfl,rfl⟩|⟨x,t,rfl,rfl⟩
  ·rcases ck hb with⟨j,u,rfl,e⟩|⟨y,u,rfl,e⟩
   ·injection e with e1 _;rw[e1]
   ·exact nomatch e
  ·rcases ck hb with⟨j,u,rfl,e⟩|⟨y,u,rfl,e⟩
   ·exact nomatch e
   ·injection e with e1 _;rw[e1]
 byValue:=λk v h=>by
  rcases ck h with⟨i,t,rfl,rfl⟩|⟨x,t,rfl,rfl⟩ <;> rfl
 pyHash:=λhv h=>by
  rcases ck hv with⟨i,t,rfl,rfl⟩|⟨x,t,rfl,rfl⟩
  ·exact wpAny_pyHash_int h
  ·exact wpAny_pyHash_str h
 eqBool:=λhu hv h=>by
  rcases ck hu with⟨i,t,rfl,rfl⟩|⟨x,t,rfl,rfl⟩
  ·rcases ck hv with⟨j,u,rfl,rfl⟩|⟨y,u,rfl,rfl⟩
   ·rw[EB]at h;exact wpAny_eqBool_int h
   ·rw[EA]at h;exact SeqAt.EqAt.int_str i t y u _ _ _ _ h
  ·rcases ck hv with⟨j,u,rfl,rfl⟩|⟨y,u,rfl,rfl⟩
   ·rw[Ez]at h;exact SeqAt.EqAt.str_int x t j u _ _ _ _ h
   ·rw[Ey]at h;exact wpAny_eqBool_str h
 «strs»:=λk x t v h=>by
  rcases ck h with⟨i,u,rfl,e⟩|⟨y,u,rfl,e⟩
  ·exact nomatch e
  ·injection e with e1 _
   subst e1;cases v <;> rfl
def rH(prog:J1)(w:Ks)(i:Int)(t:Tok):(cb prog w).is (.inl i) (.int i t)=ZC:=wa i t
def rG(prog:J1)(w:Ks)(x:Str)(t:Tok):(cb prog w).is (.inr x) (.str x t)=ZC:=v9 x t
def RelV:V->JD->Prop
 |.non,u=>u=Kg
 |.bl b,u=>u=K8 b
 |.int i,u=>∃t,u=Lv i t
 |.str x,u=>∃t,u=Lb x t
 |.byt b,u=>∃t,u=Value.bytes b t
 |.flt b,u=>∃t,u=Value.float b t
 |.ref a,u=>u=Kf a
 |.ty n,u=>u=MG n
abbrev Vals:List V->List JD->Prop:=Sz RelV
variable{xs:List V}
def Vals.length(r:Vals xs us):xs.length=us.length:=NN r
theorem Vals.get:∀{xs:List V}{us:List JD}{i:Nat}{x:V},Vals xs us->xs[i]?=ZA x->∃u,us[i]?=ZA u/\RelV x u
 |_,_,_,_,.nil,e=>by simp at e
 |_,_,0,_,.cons r _,e=>by simp at e;subst e;exact⟨_,rfl,r⟩
 |_,_,i+1,x,.cons _ t,e=>by
  obtain⟨u,h1,h2⟩:=Vals.get (i:=i) (x:=x) t (by simpa using e)
  exact⟨u,by simpa using h1,h2⟩
theorem Vals.append:∀{xs ys:List V}{us ws:List JD},Vals xs us->Vals ys ws->Vals (xs++ys) (us++ws)
 |_,_,_,_,.nil,s=>s
 |_,_,_,_,.cons r t,s=>.cons r (Vals.append t s)
theorem Vals.take:∀{xs:List V}{us:List JD}(n:Nat),Vals xs us->Vals (xs.take n) (us.take n)
 |_,_,0,_=>.nil
 |_,_,_+1,.nil=>.nil
 |_,_,n+1,.cons r t=>.cons r (Vals.take n t)
theorem Vals.drop:∀{xs:List V}{us:List JD}(n:Nat),Vals xs us->Vals (xs.drop n) (us.drop n)
 |_,_,0,r=>r
 |_,_,_+1,.nil=>.nil
 |_,_,n+1,.cons _ t=>Vals.drop n t
def RelO:Option V->Option JD->Prop
 |some v,ZA u=>RelV v u
 |none,ZB=>True
 |_,_=>False
def KV{κ:Type}:List (κ×V)->List (κ×JD)->Prop:=Sz λ(p:κ×V)(q:κ×JD)=>p.1=q.1/\RelV p.2 q.2
def kV:Key->V
 |.inl i=>.int i
 |.inr x=>.str x
inductive HO where
 /-- a list -/
 |lst (xs:List V)
 /-- a tuple (never changes) -/
 |tup (xs:List V)
 /-- a dict whose keys are ints and texts;one whose keys are tuples of ints and texts (the empty one is both) -/
 |dK (kvs:List (Key×V))|dT (kvs:List (List Key×V))
 /-- a set of ints: its members,its size -/
 |set (S:Int->Bool) (n:Nat)
 /-- an instance of the class at C,its dict at dx,its attributes -/
 |ins (C dx:ZE) (fs:List (Str×V))
 /-- the dict of the instance at x -/
 |own (x:ZE)
 /-- the dict of an exception -/
 |xd (fs:List (Str×V))
 /-- a bound method,f of x -/
 |met (f x:ZE)
 /-- a range object lo,lo+1,.. below hi -/
 |rng (lo hi:Int)
 /-- a thing that is known to the object (the script;a dict while a loop walks it): read,never written while it is so -/
 |frz (o:Obj) (u:HO)
 /-- a code object's table -/
 |tbl (ps:Array JD)
 /-- any other thing,by what is ZC of its one object (a def of one's own: SetO a S n:=HO.ext λh=>..) -/
 |ext (φ:ZH->Prop)
abbrev Hp:=ZE->Option HO
def upd(H:Hp)(a:ZE)(o:HO):Hp:=λb=>if b=a then ZA o else H b
variable{H:Hp}{a:ZE}
def aZ{o:HO}:upd H a o a=ZA o:=by unfold upd;rw[if_pos rfl]
variable{b:ZE}
def aM{o:HO}(h:b≠a):upd H a o b=H b:=by unfold upd;rw[if_neg h]
def iI{o u:HO}:upd (upd H a o) a u=upd H a u:=by
 funext b;unfold upd;split <;> rfl
def md{o u:HO}(h:H a=ZA o)(h':H b=ZA u)(d:o≠u):a≠b:=by
 intro e;subst e;rw[h]at h';exact d (Kn h')
def bX{o:HO}(h:H a=ZA o)(h':H b=ZB):a≠b:=by
 intro e;subst e;rw[h]at h';cases h'
section
variable (P:J1)(w:Ks)
def ObjOk(H:Hp)(h:ZH)(a:ZE):HO->Prop
 |.lst xs=>xs.length<=ZI/\∃(its:List JD)(n:Nat),Vals xs its/\h.get? a=ZA {cls:=.type "list",data:=.seq its.toArray n}
 |.tup xs=>xs.length<=ZI/\∃its:List JD,Vals xs its/\SA h a its.toArray
 |.dK kvs=>kvs.length<=ZI/\(a == Mr)=ZD/\∃vs,KV kvs vs/\h.DictOf (cb P w) a vs
 |.dT kvs=>kvs.length<=ZI/\(a == Mr)=ZD/\∃xs:List (List Key×ZE×JD),
   Sz (λ(p:List Key×V)(q:List Key×ZE×JD)=>p.1=q.1/\H q.2.1=ZA (.tup (p.1.map kV))/\RelV p.2 q.2.2) kvs xs ∧
   ∃o es ep,h.get? a=ZA o/\o.ExactDict/\o.data=.dict es ep/\es.toList=xs.map (entryOfKey (N1 (cb P w)))/\(xs.map (·.1)).Nodup
 |.set S n=>h.SetOf (intKind P w) a S n
 |.ins C dx fs=>H dx=ZA (.own a)/\fs.length<=1000/\dx≠a/\h.get? a=ZA (Pm C dx) ∧
   ∃mA,h.Ns1 dx mA/\(∀f,RelO (fs.lookup f) (mA f))/\PySem.Within mA (fs.map (·.1))
 |.own _=>∃o,h.get? a=ZA o
 |.xd fs=>∃mA,h.Ns1 a mA/\∀f,RelO (fs.lookup f) (mA f)
 |.rng lo hi=>∃t u v,h.get? a=ZA {cls:=.type "range",data:=.fields #[.int lo t,.int hi u,.int 1 v]}
 |.frz o u=>h.get? a=ZA o/\ObjOk H h a u
 |.tbl ps=>h.get? a=ZA {cls:=.none,data:=.fields ps}
 |.met f x=>h.get? a=ZA (Oz (.ref f) (.ref x))
 |.ext φ=>φ h/\(∃o,h.get? a=ZA o)/\∀h1 h2:ZH,φ h1->(∀o,h1.get? a=ZA o->h2.get? a=ZA o)->φ h2
def HOk(H:Hp)(h:ZH):Prop:=∀a o,H a=ZA o->ObjOk P w H h a o
end
variable{H':Hp}{h h':ZH}
section
variable {o:HO}
theorem ObjOk.lt(x:ObjOk P w H h a o):a<h.objs.size:=by
 cases o with
 |lst xs=>obtain⟨_,_,_,_,e⟩:=x;exact JM e
 |tup xs=>obtain⟨_,_,_,p⟩:=x;exact p.lt
 |dK kvs=>obtain⟨_,_,_,_,o,_,_,e,_⟩:=x;exact JM e
 |dT kvs=>obtain⟨_,_,_,_,o,_,_,e,_⟩:=x;exact JM e
 |set S n=>obtain⟨o,_,_,_,e,_⟩:=x;exact JM e
 |ins C dx fs=>obtain⟨_,_,_,e,_⟩:=x;exact JM e
 |own y=>obtain⟨_,e⟩:=x;exact JM e
 |xd fs=>obtain⟨_,⟨_,_,_,e,_⟩,_⟩:=x;exact JM e
 |rng lo hi=>obtain⟨_,_,_,e⟩:=x;exact JM e
 |frz ob u=>obtain⟨e,_⟩:=x;exact JM e
 |tbl ps=>exact JM (show h.get? a=ZA _ from x)
 |met f y=>exact JM (show h.get? a=ZA _ from x)
 |ext φ=>obtain⟨_,⟨_,e⟩,_⟩:=x;exact JM e
theorem Paired.Ja{F G:α->β->Prop}:∀{l₁:List α}{l₂:List β},Sz F l₁ l₂->(∀a b,F a b->G a b)->Sz G l₁ l₂
 |_,_,.nil,_=>.nil
 |_,_,.cons r t,f=>.cons (f _ _ r) (Paired.Ja t f)
def ObjOk.IA(x:ObjOk P w H h a o)(k:∀b u,(b=a\/H b=ZA (.own a))->h.get? b=ZA u->h'.get? b=ZA u)
  (ho:∀b,H b=ZA (.own a)->H' b=ZA (.own a)) (ht:∀b xs,H b=ZA (.tup xs)->H' b=ZA (.tup xs)):ObjOk P w H' h' a o:=by
 induction o with
 |lst xs=>obtain⟨z,its,n,r,e⟩:=x;exact⟨z,its,n,r,k _ _ (.inl rfl) e⟩
 |tup xs=>obtain⟨z,its,r,ob,e,c⟩:=x;exact⟨z,its,r,ob,k _ _ (.inl rfl) e,c⟩
 |dK kvs=>obtain⟨z,y,vs,r,ob,es,ep,e,c⟩:=x;exact⟨z,y,vs,r,ob,es,ep,k _ _ (.inl rfl) e,c⟩
 |dT kvs=>
  obtain⟨z,y,xs,r,ob,es,ep,e,c⟩:=x
  exact⟨z,y,xs,Paired.Ja r λp q z=>⟨z.1,ht _ _ z.2.1,z.2.2⟩,ob,es,ep,k _ _ (.inl rfl) e,c⟩
 |set S n=>obtain⟨ob,es,ep,t,e,c⟩:=x;exact⟨ob,es,ep,t,k _ _ (.inl rfl) e,c⟩
 |ins C dx fs=>
  obtain⟨d,z,ne,e,mA,⟨od,es,ep,e2,c⟩,r⟩:=x
  exact⟨ho _ d,z,ne,k _ _ (.inl rfl) e,mA,⟨od,es,ep,k _ _ (.inr d) e2,c⟩,r⟩
 |own y=>obtain⟨ob,e⟩:=x;exact⟨ob,k _ _ (.inl rfl) e⟩
 |xd fs=>obtain⟨mA,⟨od,es,ep,e,c⟩,r⟩:=x;exact⟨mA,⟨od,es,ep,k _ _ (.inl rfl) e,c⟩,r⟩
 |rng lo hi=>obtain⟨t,u,v,e⟩:=x;exact⟨t,u,v,k _ _ (.inl rfl) e⟩
 |frz ob u ih=>obtain⟨e,q⟩:=x;exact⟨k _ _ (.inl rfl) e,ih q⟩
 |tbl ps=>
  have e:h.get? a=ZA {cls:=.none,data:=.fields ps}:=x
  show h'.get? a=ZA {cls:=.none,data:=.fields ps}
  exact k a _ (.inl rfl) e
 |met f y=>
  have e:h.get? a=ZA (Oz (.ref f) (.ref y)):=x
  show h'.get? a=ZA (Oz (.ref f) (.ref y))
  exact k a _ (.inl rfl) e
 |ext φ=>obtain⟨p,⟨o,e⟩,st⟩:=x;exact⟨st _ _ p λo q=>k _ _ (.inl rfl) q,⟨o,k _ _ (.inl rfl) e⟩,st⟩
theorem HOk.lt(x:HOk P w H h)(e:H a=ZA o):a<h.objs.size:=(x a o e).lt
def HOk.fresh(x:HOk P w H h)(e:h.objs.size<=a):H a=ZB:=by
 cases q:H a with
 |none=>rfl
 |some u=>exact absurd (JS (x.lt q) e) (J3 _)
def HOk.kept(x:HOk P w H h)(k:∀b u,h.get? b=ZA u->h'.get? b=ZA u):HOk P w H h':=λa o e=>
 (x a o e).IA (λb u _ q=>k b u q) (λ_ q=>q) λ_ _ q=>q
def HOk.laid(x:HOk P w H h)(k:∀b u,h.get? b=ZA u->h'.get? b=ZA u)(hp:h.objs.size<=a)(new:ObjOk P w (upd H a o) h' a o):HOk P w (upd H a o) h':=λb u e=>by
 have hn:=x.fresh hp
 by_cases hb:b=a
 ·subst hb;rw[aZ]at e;cases e;exact new
 ·rw[aM hb]at e
  exact(x b u e).IA (λc v _ q=>k c v q) (λc q=>by rw[aM (bX q hn)];exact q) λc xs q=>by rw[aM (bX q hn)];exact q
end
def Rd(H:Hp)(a:ZE)(u:HO):Prop:=H a=ZA u\/∃o,H a=ZA (.frz o u)
def Rd.ok{u:HO}(r:Rd H a u)(x:HOk P w H h):ObjOk P w H h a u:=by
 rcases r with r|⟨o,r⟩
 ·exact x a u r
 ·obtain⟨_,q⟩:=x a _ r
  exact q
def HV:Option HO->Prop
 |some (.lst _)=>True
 |some (.dK _)=>True
 |some (.dT _)=>True
 |some (.set _ _)=>True
 |some (.ins _ _ _)=>True
 |some (.ext _)=>True
 |_=>False
variable{e:ZE}
section
variable {x:ZE}{o':HO}
def HOk.write(ok:HOk P w H h)(mu:HV (H x))(he:e=x\/H e=ZA (.own x))(k:∀b u,b≠e->h.get? b=ZA u->h'.get? b=ZA u)(heo:∃u,h'.get? e=ZA u)
  (new:ObjOk P w (upd H x o') h' x o'):HOk P w (upd H x o') h':=λb u q=>by
 have nown:∀c y,H c=ZA (.own y)->c≠x:=λc y r z=>by subst z;rw[r]at mu;exact mu
 have ntup:∀c xs,H c=ZA (.tup xs)->c≠x:=λc xs r z=>by subst z;rw[r]at mu;exact mu
 by_cases hb:b=x
 ·subst hb;rw[aZ]at q;cases q;exact new
 ·rw[aM hb]at q
  by_cases hbe:b=e
  ·have q':H b=ZA (.own x):=by
    rcases he with z|z
    ·exact absurd (hbe.trans z) hb
    ·rw[hbe];exact z
   rw[q]at q';cases q';obtain⟨v,hv⟩:=heo;exact⟨v,by rw[hbe];exact hv⟩
  ·refine(ok b u q).IA (λc v hc r=>k c v ?_ r) (λc r=>by rw[aM (nown c b r)];exact r) λc xs r=>by rw[aM (ntup c xs r)];exact r
   rcases hc with rfl|hc
   ·exact hbe
   ·rintro rfl
    rcases he with z|z
    ·exact nown c b hc z
    ·rw[hc]at z;cases z;exact hb rfl
end
structure Un (fs ex:List ZE)(H H':Hp)(h h':ZH):Prop where
 keep:∀b o,h.get? b=ZA o->H b=ZB->b∉fs->b∉ex->h'.get? b=ZA o
 slot:∀b o,h.get? b=ZA o->H b=ZB->b∈fs->b∉ex->∃sl,h'.get? b=ZA {o with slots:=sl}
 free:∀b o,h.get? b=ZA o->H b=ZB->b∉ex->H' b=ZB
 there:∀b o,h.get? b=ZA o->b∉ex->∃o',h'.get? b=ZA o'
 tups:∀b xs,H b=ZA (.tup xs)->H' b=ZA (.tup xs)
 frzs:∀b o u,H b=ZA (.frz o u)->H' b=ZA (.frz o u)
 tbls:∀b ps,H b=ZA (.tbl ps)->∃more,H' b=ZA (.tbl (ps++more))
section
variable {fs fs' ex ex':List ZE}{H1 H2:Hp}{h1 h2:ZH}{x:ZE}{o:HO}
def Un.any(u:Un fs ex H H1 h h1){ob:Obj}(q:h.get? b=ZA ob)(n:H b=ZB)(hx:b∉ex):∃sl,h1.get? b=ZA {ob with slots:=sl}:=by
 by_cases hb:b∈fs
 ·exact u.slot b ob q n hb hx
 ·exact⟨ob.slots,u.keep b ob q n hb hx⟩
def Un.kept(k:∀b u,h.get? b=ZA u->h'.get? b=ZA u):Un fs ex H H h h':=
 ⟨λb ob q _ _ _=>k b ob q,λb ob q _ _ _=>⟨ob.slots,k b ob q⟩,λ_ _ _ n _=>n,λb ob q _=>⟨ob,k b ob q⟩,λ_ _ q=>q,λ_ _ _ q=>q,λ_ ps q=>⟨#[],by rw[q];simp⟩⟩
def Un.refl:Un fs ex H H h h:=Un.kept λ_ _ q=>q
def Un.laid(k:∀b u,h.get? b=ZA u->h'.get? b=ZA u)(hp:h.objs.size<=a)(hn:H a=ZB):Un fs ex H (upd H a o) h h' where
 keep:=λb u q _ _ _=>k b u q
 slot:=λb u q _ _ _=>⟨u.slots,k b u q⟩
 free:=λb u q n _=>by rw[aM (K6 (JS (JM q) hp))];exact n
 there:=λb u q _=>⟨u,k b u q⟩
 tups:=λb xs q=>by rw[aM (bX q hn)];exact q
 frzs:=λb u xs q=>by rw[aM (bX q hn)];exact q
 tbls:=λb ps q=>⟨#[],by rw[aM (bX q hn),q];simp⟩
def Un.write(mu:HV (H x))(he:e=x\/H e=ZA (.own x))(k:∀b u,b≠e->h.get? b=ZA u->h'.get? b=ZA u)(heo:∃u,h'.get? e=ZA u):Un fs ex H (upd H x o) h h':=by
 have hx:∀b,H b=ZB->b≠x:=λb n z=>by subst z;rw[n]at mu;exact mu
 have hb:∀b,H b=ZB->b≠e:=λb n z=>by
  subst z;rcases he with r|r
  ·exact hx b n r
  ·rw[n]at r;cases r
 have hm:∀b u,H b=ZA u->¬ HV (ZA u)->b≠x:=λb u q nm z=>by subst z;rw[q]at mu;exact nm mu
 refine⟨λb u q n _ _=>k b u (hb b n) q,λb u q n _ _=>⟨u.slots,k b u (hb b n) q⟩,λb u q n _=>by rw[aM (hx b n)];exact n,λb u q _=>?_,
  λb xs q=>by rw[aM (hm b _ q λz=>z)];exact q,λb u xs q=>by rw[aM (hm b _ q λz=>z)];exact q,λb ps q=>⟨#[],by rw[aM (hm b _ q λz=>z),q];simp⟩⟩
 by_cases hbe:b=e
 ·subst hbe;exact heo
 ·exact⟨u,k b u hbe q⟩
end
def trk(h:ZH)(H:Hp):List ZE:=(KS h.objs.size).filter λa=>(H a).isSome
def p0(h:ZH)(H:Hp):ZH:=NV h (trk h H)
def wm(h:ZH)(H:Hp):(p0 h H).objs.size=h.objs.size:=PySem.W.hideAll_size _ _
def y9{o:Obj}(e:h.get? b=ZA o)(n:H b=ZB):(p0 h H).get? b=ZA o:=
 Lq _ e λhm=>by
  have q:(H b).isSome=ZC:=(Lw.mp hm).2;rw[n]at q;simp at q
def Bj{o:Obj}(e:(p0 h H).get? b=ZA o):h.get? b=ZA o/\H b=ZB:=by
 have e':h.get? b=ZA o:=M8 (trk h H) e;refine⟨e',?_⟩
 cases q:H b with
 |none=>rfl
 |some x=>
  have hm:b∈trk h H:=Lw.mpr ⟨Lu.mpr (JM e'),by simp[q]⟩
  have z:(p0 h H).get? b=ZB:=MN (trk h H) hm;rw[z]at e;cases e
def Cb(g h:ZH)(L:ZE):V3:=(KS h.objs.size).filterMap λa=>if a=L\/(g.get? a).isSome=ZC then ZB else(h.get? a).map λo=>(a,o)
def br(g h:ZH)(L d:ZE):V3:=(Cb g h L).filter λp=>decide (p.1≠d)
structure Mod (K:Jz)(mg:V0)(base:ZH):Prop where
 kin:K.In base
 glob:base.Ns Km mg
 blt:∃mb,base.Ns NU mb/\∀x:Str,x≠ "__name__"->mb x=Ke x
 nolimit:base.NoLimit
structure Cx where
 prog:J1
 w:Ks
 K:Jz
 mg:V0
 base:ZH
 A:Kc
 N:List Str
 s₀:JB
 H₀:Hp
 env:Env
 outer:List Env
 stack:List Env
 ex:List ZE
 fn:Str->Bool
 calm:Bool
 pn:V3
 xe:V2
def kj(l:List Env):List ZE:=l.filterMap (·.frame)
abbrev Cx.fs(X:Cx):List ZE:=kj X.outer
def vn(sc:MJ)(x:Str):Prop:=sc.names.lookup x=ZA .local\/sc.names.lookup x=ZA .cell\/sc.names.lookup x=ZA .free
def Loc(sc:MJ)(x:Str):Prop:=sc.names.lookup x=ZA .local\/sc.names.lookup x=ZA .cell
def Look(env:Env)(h:ZH)(m:V0)(x:Str)(u:JD):Prop:=
 (env.kindOf x=ZA .local/\m x=ZA u)\/((env.kindOf x=ZA .cell\/env.kindOf x=ZA .free)/\∃c,env.cells.lookup x=ZA c/\h.IsCell c (ZA u))
structure Cx.Ok (X:Cx):Prop where
 mod:Mod X.K X.mg X.base
 kind:X.env.scope.kind=.function
 glob:X.env.globals=Km
 blt:X.env.builtins=NU
 above:X.s₀.heap.objs.size<=X.env.locals
 inj:∀x y c,X.env.cells.lookup x=ZA c->X.env.cells.lookup y=ZA c->x=y
 has:∀x,(X.env.kindOf x=ZA .cell\/X.env.kindOf x=ZA .free)->∃c,X.env.cells.lookup x=ZA c
 cab:∀x c,X.fn x=ZC->X.env.cells.lookup x=ZA c->X.s₀.heap.objs.size<=c
 hd:X.calm=ZC->X.A.handled=ZB
 frames:X.A.frames=ZA X.stack
 stk:X.stack=X.outer\/(X.stack=X.env::X.outer/\X.env.frame=ZA X.env.locals)
 exf:∀b∈X.ex,b≠X.env.locals/\∀x c,X.env.cells.lookup x=ZA c->c≠b
 bs:∀b o,X.base.get? b=ZA o->X.s₀.heap.get? b=ZA o/\X.H₀ b=ZB
 bsz:X.base.objs.size<=X.s₀.heap.objs.size
 noex:∀b o,X.base.get? b=ZA o->b∉X.ex
 exfs:∀b∈X.ex,b∉X.fs
 funs:X.s₀.heap.FunFrames X.base X.outer
 frf:∀b∈X.fs,X.H₀ b=ZB
structure Inv (X:Cx)(ca:V3)(σ:List (Option V))(H:Hp)(s:JB):Prop where
 ok:X.Ok
 os:s.os=X.s₀.os
 bare:PH s.gens
 base:Un X.fs X.ex X.H₀ H X.s₀.heap s.heap
 loc:∃m,s.heap.Ns X.env.locals m/\∀(i:Nat)(x:Str)(v:V),X.N[i]?=ZA x->σ[i]?=ZA (ZA v)->vn X.env.scope x->∃u,RelV v u/\Look X.env s.heap m x u
 cell:∀x c,X.env.cells.lookup x=ZA c->∃v,s.heap.IsCell c v
 free:H X.env.locals=ZB
 freeC:∀x c,X.env.cells.lookup x=ZA c->H c=ZB
 pin:∀p∈X.pn++ca,s.heap.get? p.1=ZA p.2/\H p.1=ZB/\p.1≠X.env.locals/\p.1∉X.fs/\∀v,p.2.data≠ .cell v
 hok:HOk X.prog X.w H s.heap
 len:σ.length=X.N.length
variable{N:List Str}{X:Cx}{g':Array R8}{it:ZE}{ca:V3}{v:V}{x:Str}
section
variable {σ:List (Option V)}
def Cx.Ok.Jx(ok:X.Ok){o:Obj}(e:X.base.get? b=ZA o):b∉X.fs:=λhb=>by
 have:=(ok.funs.mem hb).1;rw[e]at this;cases this
theorem Inv.bs(I:Inv X ca σ H s):∀b o,X.base.get? b=ZA o->s.heap.get? b=ZA o/\H b=ZB:=λb o e=>
 ⟨I.base.keep b o (I.ok.bs b o e).1 (I.ok.bs b o e).2 (I.ok.Jx e) (I.ok.noex b o e),I.base.free b o (I.ok.bs b o e).1 (I.ok.bs b o e).2 (I.ok.noex b o e)⟩
def Inv.bk(I:Inv X ca σ H s):∀b o,X.base.get? b=ZA o->s.heap.get? b=ZA o:=λb o e=>(I.bs b o e).1
theorem Inv.mod(I:Inv X ca σ H s):Mod X.K X.mg X.base:=I.ok.mod
def Inv.kIn(I:Inv X ca σ H s):X.K.In s.heap:=I.ok.mod.kin.keeps I.bk
theorem Inv.lt(I:Inv X ca σ H s):X.env.locals<s.heap.objs.size:=let ⟨_,hn,_⟩:=I.loc;hn.lt
def Inv.sz(I:Inv X ca σ H s):X.s₀.heap.objs.size<=s.heap.objs.size:=J5 I.ok.above (Mf I.lt)
def Inv.Jw(I:Inv X ca σ H s)(h:s.heap.objs.size<=a):a∉X.fs:=λhb=>by
 obtain⟨_,o,ho,_⟩:=I.ok.funs.mem hb;exact absurd (JS (JM ho) (J5 I.sz h)) (J3 _)
def Inv.cne(I:Inv X ca σ H s):∀x c,X.env.cells.lookup x=ZA c->c≠X.env.locals:=λx c e z=>by
 obtain⟨v,o,ho,hd⟩:=I.cell x c e;obtain⟨m,⟨o',es,ep,ho',hd',_⟩,_⟩:=I.loc;rw[z,ho']at ho;cases ho;rw[hd']at hd;cases hd
theorem Inv.funs(I:Inv X ca σ H s):s.heap.FunFrames X.base X.outer:=by
 have all:∀(l:List Env),(∀b∈kj l,b∈X.fs)->X.s₀.heap.FunFrames X.base l->s.heap.FunFrames X.base l:=by
  intro l
  induction l with
  |nil=>intro _ _;trivial
  |cons env r ih=>
   intro hs hl;obtain⟨hk,⟨L,o,hf,hn,ho,hd⟩,hr⟩:=hl
   have hL:L∈X.fs:=hs L (by unfold kj;rw[KJ,hf];exact JI)
   obtain⟨sl,e⟩:=I.base.slot L o ho (I.ok.frf L hL) hL λz=>I.ok.exfs L z hL
   exact⟨hk,⟨L,_,hf,hn,e,hd⟩,ih (λb hb=>hs b (by unfold kj;rw[KJ,hf];exact JF _ hb)) hr⟩
 exact all X.outer (λ_ hb=>hb) I.ok.funs
def Inv.stack(I:Inv X ca σ H s):s.heap.FunFrames X.base X.stack:=by
 rcases I.ok.stk with e|⟨e,hf⟩
 ·rw[e];exact I.funs
 ·rw[e]
  obtain⟨m,hn,_⟩:=I.loc;refine .cons (by rw[I.ok.kind];decide) hf hn ?_ I.funs
  exact Heap.get?_none_of_le (J5 I.ok.bsz I.ok.above)
def Inv.IF(I:Inv X ca σ H s):∀b∈kj X.stack,b∈X.env.locals::X.fs:=λb hb=>by
 rcases I.ok.stk with e|⟨e,hf⟩
 ·rw[e]at hb;exact JF _ hb
 ·rw[e]at hb
  unfold kj at hb;rw[KJ,hf]at hb;exact hb
def Inv.Ip(I:Inv X ca σ H s):∀b∈kj X.stack,H b=ZB:=λb hb=>by
 rcases JL.mp (I.IF b hb)with e|hb
 ·rw[e];exact I.free
 ·obtain⟨_,o,ho,_⟩:=I.ok.funs.mem hb
  exact I.base.free b o ho (I.ok.frf b hb) λz=>I.ok.exfs b z hb
def Inv.step{ch:List ZE}(I:Inv X ca σ H s)
  (hch:∀b∈ch,(b∈X.ex\/X.s₀.heap.objs.size<=b)/\b≠X.env.locals/\(∀x c,X.env.cells.lookup x=ZA c->c≠b)/\∀p∈X.pn++ca,p.1≠b)
  (keep:∀b o,b≠X.env.locals->b∉X.fs->b∉ch->s.heap.get? b=ZA o->H b=ZB->h'.get? b=ZA o)
  (slot:∀b o,b≠X.env.locals->b∈X.fs->b∉ch->s.heap.get? b=ZA o->H b=ZB->∃sl,h'.get? b=ZA {o with slots:=sl}) (free:∀b o,b∉ch->s.heap.get? b=ZA o->H b=ZB->H' b=ZB)
  (there:∀b o,b∉ch->s.heap.get? b=ZA o->∃o',h'.get? b=ZA o')
  (tups:∀b xs,H b=ZA (.tup xs)->H' b=ZA (.tup xs)) (frzs:∀b o u,H b=ZA (.frz o u)->H' b=ZA (.frz o u)) (tbls:∀b ps,H b=ZA (.tbl ps)->∃more,H' b=ZA (.tbl (ps++more)))
  (ns:∀m,s.heap.Ns X.env.locals m->h'.Ns X.env.locals m) (hok:HOk X.prog X.w H' h') (hg:PH g'):
  Inv X ca σ H' {s with heap:=h',gens:=g',drawn:=d',toks:=t'}:=by
 have neL:∀b o,X.s₀.heap.get? b=ZA o->b≠X.env.locals:=λb o e=>K6 (JS (JM e) I.ok.above)
 have neC:∀b o,X.s₀.heap.get? b=ZA o->b∉X.ex->b∉ch:=λb o e hx hb=>by
  rcases(hch b hb).1 with z|z
  ·exact hx z
  ·exact absurd (JS (JM e) z) (J3 _)
 have cellK:∀x c,X.env.cells.lookup x=ZA c->∀v,s.heap.IsCell c v->h'.IsCell c v:=λx c e v hh_=>by
  obtain⟨o,ho,hd⟩:=hh_
  have nch:c∉ch:=λz=>(hch c z).2.2.1 x c e rfl
  by_cases hc:c∈X.fs
  ·obtain⟨sl,q⟩:=slot c o (I.cne x c e) hc nch ho (I.freeC x c e)
   exact⟨_,q,hd⟩
  ·exact⟨o,keep c o (I.cne x c e) hc nch ho (I.freeC x c e),hd⟩
 refine⟨I.ok,I.os,hg,⟨λb o e n hb hx=>?_,λb o e n hb hx=>?_,λb o e n hx=>?_,λb o e hx=>?_,λb xs e=>tups b xs (I.base.tups b xs e),λb o xs e=>frzs b o xs (I.base.frzs b o xs e),λb ps e=>?_⟩,?_,λx c e=>?_,?_,λx c e=>?_,λp hp=>?_,hok,I.len⟩
 ·exact keep b o (neL b o e) hb (neC b o e hx) (I.base.keep b o e n hb hx) (I.base.free b o e n hx)
 ·obtain⟨sl,e1⟩:=I.base.slot b o e n hb hx
  obtain⟨sl',e2⟩:=slot b _ (neL b o e) hb (neC b o e hx) e1 (I.base.free b o e n hx);exact⟨sl',e2⟩
 ·obtain⟨o',e1⟩:=I.base.there b o e hx
  exact free b o' (neC b o e hx) e1 (I.base.free b o e n hx)
 ·obtain⟨o',e1⟩:=I.base.there b o e hx
  exact there b o' (neC b o e hx) e1
 ·obtain⟨m1,e1⟩:=I.base.tbls b ps e
  obtain⟨m2,e2⟩:=tbls b _ e1;exact⟨m1++m2,by rw[e2,Array.append_assoc]⟩
 ·obtain⟨m,hn,hl⟩:=I.loc
  refine⟨m,ns m hn,λi x v e1 e2 e3=>?_⟩
  obtain⟨u,r,l⟩:=hl i x v e1 e2 e3;refine⟨u,r,?_⟩
  rcases l with l|⟨k,c,e,z⟩
  ·exact .inl l
  ·exact .inr ⟨k,c,e,cellK x c e _ z⟩
 ·obtain⟨v,z⟩:=I.cell x c e
  exact⟨v,cellK x c e v z⟩
 ·obtain⟨m,⟨o,_,_,ho,_⟩,_⟩:=I.loc
  exact free _ o (λz=>(hch _ z).2.1 rfl) ho I.free
 ·obtain⟨v,o,ho,hd⟩:=I.cell x c e
  exact free c o (λz=>(hch c z).2.2.1 x c e rfl) ho (I.freeC x c e)
 ·obtain⟨e,n,ne,nf,d⟩:=I.pin p hp
  have nch:p.1∉ch:=λz=>(hch p.1 z).2.2.2 p hp rfl
  exact⟨keep p.1 p.2 ne nf nch e n,free p.1 p.2 nch e n,ne,nf,d⟩
def Inv.un(I:Inv X ca σ H s)(u:Un X.fs [] H H' s.heap h')(hok:HOk X.prog X.w H' h'):Inv X ca σ H' {s with heap:=h',toks:=t'}:=by
 obtain⟨m,⟨o,es,ep,ho,r⟩,_⟩:=id I.loc;obtain⟨sl,hL⟩:=u.any ho I.free (by simp)
 exact I.step (g':=s.gens) (d':=s.drawn) (ch:=[]) (λ_ z=>nomatch z) (λb o _ hb _ e n=>u.keep b o e n hb (by simp)) (λb o _ hb _ e n=>u.slot b o e n hb (by simp)) (λb o _ e n=>u.free b o e n (by simp)) (λb o _ e=>u.there b o e (by simp)) u.tups u.frzs u.tbls (λm' hm=>by
  obtain⟨o',es',ep',ho',r'⟩:=hm;rw[ho]at ho';cases ho';exact⟨_,es',ep',hL,r'⟩) hok I.bare
def Inv.call{ch:List ZE}(I:Inv X ca σ H s)(u:Un (kj X.stack) ch H H' s.heap h')(hok:HOk X.prog X.w H' h')(hg:PH g')
  (hch:∀b∈ch,(b∈X.ex\/X.s₀.heap.objs.size<=b)/\b≠X.env.locals/\(∀x c,X.env.cells.lookup x=ZA c->c≠b)/\∀p∈X.pn++ca,p.1≠b):
  Inv X ca σ H' {s with heap:=h',gens:=g',drawn:=d',toks:=t'}:=by
 obtain⟨m,⟨o,es,ep,ho,r⟩,_⟩:=id I.loc;obtain⟨sl,hL⟩:=u.any ho I.free λz=>(hch _ z).2.1 rfl
 exact I.step (ch:=ch) hch (λb o hL hb hc e n=>u.keep b o e n (λz=>(JL.mp (I.IF b z)).elim hL hb) hc) (λb o _ _ hc e n=>u.any e n hc) (λb o hc e n=>u.free b o e n hc) (λb o hc e=>u.there b o e hc) u.tups u.frzs u.tbls (λm' hm=>by
  obtain⟨o',es',ep',ho',r'⟩:=hm;rw[ho]at ho';cases ho';exact⟨_,es',ep',hL,r'⟩) hok hg
def Inv.turned(I:Inv X ca σ H s)(k:∀b o,b≠it->s.heap.get? b=ZA o->h'.get? b=ZA o)(hn:H it=ZB)(hL:it≠X.env.locals)
  (h1:it∈X.ex\/X.s₀.heap.objs.size<=it) (h2:∀x c,X.env.cells.lookup x=ZA c->c≠it) (h3:∀p∈X.pn++ca,p.1≠it):Inv X ca σ H {s with heap:=h',toks:=t'}:=by
 have nit:∀b u,H b=ZA u->b≠it:=λb u e z=>by rw[z,hn]at e;cases e
 refine I.step (g':=s.gens) (d':=s.drawn) (ch:=[it]) (λb hb=>?_) (λb o _ _ hc e _=>k b o (λz=>hc (by simp[z])) e) (λb o _ _ hc e _=>⟨o.slots,k b o (λz=>hc (by simp[z])) e⟩) (λ_ _ _ _ n=>n)
  (λb o hc e=>⟨o,k b o (λz=>hc (by simp[z])) e⟩) (λ_ _ e=>e) (λ_ _ _ e=>e) (λb ps e=>⟨#[],by rw[e];simp⟩) (λm hm=>?_) (λb u e=>?_) I.bare
 ·have e:b=it:=by simpa using hb
  subst e;exact⟨h1,hL,h2,h3⟩
 ·obtain⟨o,es,ep,ho,r⟩:=hm
  exact⟨o,es,ep,k _ o (MV hL) ho,r⟩
 ·refine(I.hok b u e).IA (λc v hc q=>k c v ?_ q) (λ_ q=>q) λ_ _ q=>q
  rcases hc with z|z
  ·rw[z];exact nit b u e
  ·exact nit c _ z
def Inv.tok(I:Inv X ca σ H s)(t:Nat):Inv X ca σ H {s with toks:=t}:=I.un (h':=s.heap) (t':=t) Un.refl I.hok
theorem Inv.kept(I:Inv X ca σ H s)(k:∀b u,s.heap.get? b=ZA u->h'.get? b=ZA u):Inv X ca σ H {s with heap:=h',toks:=t'}:=I.un (Un.kept k) (I.hok.kept k)
theorem Inv.laid{o:HO}(I:Inv X ca σ H s)(k:∀b u,s.heap.get? b=ZA u->h'.get? b=ZA u)(hp:s.heap.objs.size<=a)(new:ObjOk X.prog X.w (upd H a o) h' a o):
  Inv X ca σ (upd H a o) {s with heap:=h',toks:=t'}:=I.un (Un.laid k hp (I.hok.fresh hp)) (I.hok.laid k hp new)
theorem Inv.write{x:ZE}{o:HO}(I:Inv X ca σ H s)(mu:HV (H x))(he:e=x\/H e=ZA (.own x))(k:∀b u,b≠e->s.heap.get? b=ZA u->h'.get? b=ZA u)(heo:∃u,h'.get? e=ZA u)
  (new:ObjOk X.prog X.w (upd H x o) h' x o):Inv X ca σ (upd H x o) {s with heap:=h',toks:=t'}:=I.un (Un.write mu he k heo) (I.hok.write mu he k heo new)
def Inv.IQ{pins':V3}(I:Inv X ca σ H s)(h:∀p∈pins',s.heap.get? p.1=ZA p.2/\H p.1=ZB/\p.1≠X.env.locals/\p.1∉X.fs/\∀v,p.2.data≠ .cell v):Inv X pins' σ H s:=
 ⟨I.ok,I.os,I.bare,I.base,I.loc,I.cell,I.free,I.freeC,λp hp=>(JR.mp hp).elim (λz=>I.pin p (K4 _ z)) (h p),I.hok,I.len⟩
def rB(hN:N.Nodup)(a:N[i]?=ZA x)(b:N[j]?=ZA x):i=j:=by
 obtain⟨h1,e1⟩:=Kb.mp a
 obtain⟨h2,e2⟩:=Kb.mp b
 exact(List.getElem_inj hN).mp (e1.trans e2.symm)
variable{Q:Unit->JB->Prop}
def nH{u:JD}(I:Inv X ca σ H s)(hN:X.N.Nodup)(hi:X.N[i]?=ZA x)(hx:Loc X.env.scope x)(r:RelV v u)
  (h:∀s',Inv X ca (σ.set i (ZA v)) H s'->(∃a,Me a s.heap s'.heap/\(a=X.env.locals\/X.env.cells.lookup x=ZA a))->Q () s') (hf:autoParam (X.fn x=ZC\/X.env.scope.names.lookup x=ZA .local) r_):ZJ M A (storeName X.env x u) Q E s:=by
 obtain⟨m,hn,hl⟩:=id I.loc
 have hcls:(X.env.scope.kind == .class||(X.env.scope.kind == .module&&X.env.locals != X.env.globals))=ZD:=by rw[I.ok.kind];rfl
 have hiσ:i<σ.length:=by rw[I.len];exact(Kb.mp hi).1
 have cne:=I.cne
 have tracked:∀{a:ZE}{h':ZH},(∃o,s.heap.get? a=ZA o/\H a=ZB)->Me a s.heap h'->HOk X.prog X.w H h':=λ{a h'} ha hs b ob e=>by
  obtain⟨_,_,hfree⟩:=ha;refine(I.hok b ob e).IA (λc w' hc q=>(hs.2 c ?_).trans q) (λ_ q=>q) λ_ _ q=>q
  rintro rfl
  rcases hc with rfl|hc
  ·rw[hfree]at e;cases e
  ·rw[hfree]at hc;cases hc
 rcases hx with hk|hk
 ·refine wpAny_storeName_local hk hn (λh' hn' hs=>?_) hcls
  obtain⟨oL,_,_,hoL,_⟩:=id hn;refine h _ ⟨I.ok,I.os,I.bare,⟨λb o e n hb hx=>?_,λb o e n hb hx=>?_,I.base.free,λb o e hx=>?_,I.base.tups,I.base.frzs,I.base.tbls⟩,⟨_,hn',λj y v' e1 e2 e3=>?_⟩,λy c e=>?_,I.free,I.freeC,λp hp=>?_,tracked ⟨oL,hoL,I.free⟩ hs,by simpa using I.len⟩ ⟨_,hs,.inl rfl⟩
  ·exact(hs.2 b (K6 (JS (JM e) I.ok.above))).trans (I.base.keep b o e n hb hx)
  ·obtain⟨sl,e1⟩:=I.base.slot b o e n hb hx
   exact⟨sl,(hs.2 b (K6 (JS (JM e) I.ok.above))).trans e1⟩
  ·obtain⟨o',e1⟩:=I.base.there b o e hx
   exact⟨o',(hs.2 b (K6 (JS (JM e) I.ok.above))).trans e1⟩
  ·by_cases hj:j=i
   ·subst hj
    rw[hi]at e1;cases e1;rw[Kk hiσ]at e2
    cases e2;exact⟨u,r,.inl ⟨hk,by simp⟩⟩
   ·rw[Ki (MV hj)]at e2
    obtain⟨u',r',q⟩:=hl j y v' e1 e2 e3;refine⟨u',r',?_⟩
    rcases q with⟨k,e⟩|⟨k,c,e,z⟩
    ·refine .inl ⟨k,?_⟩
     have:y≠x:=λe=>hj (rB hN e1 (e▸hi))
     simp[this,e]
    ·exact .inr ⟨k,c,e,z.sameBut hs (cne y c e)⟩
  ·obtain⟨w',z⟩:=I.cell y c e
   exact⟨w',z.sameBut hs (cne y c e)⟩
  ·obtain⟨e,n,ne,nf,d⟩:=I.pin p hp
   exact⟨(hs.2 p.1 ne).trans e,n,ne,nf,d⟩
 ·have hfn:X.fn x=ZC:=by
   rcases hf with z|z
   ·exact z
   ·rw[z]at hk;cases hk
  obtain⟨c,hc⟩:=I.ok.has x (.inl hk);obtain⟨w',z⟩:=I.cell x c hc;refine wpAny_storeName_cell I.ok.kind hk hc z (λh' hc' hs=>?_)
  obtain⟨oc,hoc,hocd⟩:=id z;refine h {s with heap:=h'} ⟨I.ok,I.os,I.bare,⟨λb o e n hb hx=>?_,λb o e n hb hx=>?_,I.base.free,λb o e hx=>?_,I.base.tups,I.base.frzs,I.base.tbls⟩,⟨m,hn.sameBut hs (MV (cne x c hc)),λj y v' e1 e2 e3=>?_⟩,λy c' e=>?_,I.free,I.freeC,λp hp=>?_,tracked ⟨oc,hoc,I.freeC x c hc⟩ hs,by simpa using I.len⟩ ⟨c,hs,.inr hc⟩
  ·exact(hs.2 b (K6 (JS (JM e) (I.ok.cab x c hfn hc)))).trans (I.base.keep b o e n hb hx)
  ·obtain⟨sl,e1⟩:=I.base.slot b o e n hb hx
   exact⟨sl,(hs.2 b (K6 (JS (JM e) (I.ok.cab x c hfn hc)))).trans e1⟩
  ·obtain⟨o',e1⟩:=I.base.there b o e hx
   exact⟨o',(hs.2 b (K6 (JS (JM e) (I.ok.cab x c hfn hc)))).trans e1⟩
  ·by_cases hj:j=i
   ·subst hj
    rw[hi]at e1;cases e1;rw[Kk hiσ]at e2
    cases e2;exact⟨u,r,.inr ⟨.inl hk,c,hc,hc'⟩⟩
   ·rw[Ki (MV hj)]at e2
    obtain⟨u',r',q⟩:=hl j y v' e1 e2 e3;refine⟨u',r',?_⟩
    rcases q with q|⟨k,c',e,z'⟩
    ·exact .inl q
    ·refine .inr ⟨k,c',e,z'.sameBut hs ?_⟩
     rintro rfl
     exact hj (rB hN e1 (I.ok.inj _ _ _ e hc▸hi))
  ·by_cases hcc:c'=c
   ·subst hcc;exact⟨_,hc'⟩
   ·obtain⟨w2,z2⟩:=I.cell y c' e
    exact⟨w2,z2.sameBut hs hcc⟩
  ·obtain⟨e,n,ne,nf,d⟩:=I.pin p hp
   refine⟨(hs.2 p.1 ?_).trans e,n,ne,nf,d⟩
   intro q;rw[q,hoc]at e
   have q':oc=p.2:=Kn e;exact d w' (by rw[<-q'];exact hocd)
def qL{u:JD}(I:Inv X ca σ H s)(hN:X.N.Nodup)(hi:X.N[i]?=ZA x)(hx:Loc X.env.scope x)(r:RelV v u)
  (h:∀s',Inv X ca (σ.set i (ZA v)) H s'->Q () s') (hf:autoParam (X.fn x=ZC\/X.env.scope.names.lookup x=ZA .local) r_):ZJ M A (storeName X.env x u) Q E s:=
 nH I hN hi hx r (λs' I' _=>h s' I') hf
def Inv.IM{ch:List ZE}(I:Inv X ca σ H s)(ho:s'.os=s.os)(u:Un (kj X.stack) ch H H' s.heap s'.heap)(hok:HOk X.prog X.w H' s'.heap)(hg:PH s'.gens)
  (hch:∀b∈ch,(b∈X.ex\/X.s₀.heap.objs.size<=b)/\b≠X.env.locals/\(∀x c,X.env.cells.lookup x=ZA c->c≠b)/\∀p∈X.pn++ca,p.1≠b):Inv X ca σ H' s':=by
 obtain⟨h',g',d',t',o'⟩:=s'
 have e:o'=s.os:=ho;subst e;exact I.call (g':=g') (t':=t') (d':=d') u hok hg hch
end
abbrev XK:=JD->Option ZE->Hp->Prop
abbrev St:=List (Option V)
abbrev VK:=V->Hp->Prop
abbrev TE:=St->Hp->VK->Prop
abbrev TT:=St->Hp->(Bool->Hp->Prop)->Prop
abbrev TA:=St->Hp->(List V->Hp->Prop)->Prop
structure Ends where
 nx:St->Hp->Prop
 rt:VK
 bk:St->Hp->Prop:=λ_ _=>False
 ct:St->Hp->Prop:=λ_ _=>False
abbrev TS:=Ends->St->Hp->Prop
def EP(X:Cx)(ca:V3)(σ:St)(Q:VK)(u:JD)(s':JB):Prop:=∃v H',Inv X ca σ H' s'/\RelV v u/\Q v H'
def TP(X:Cx)(ca:V3)(σ:St)(Q:Bool->Hp->Prop)(b:Bool)(s':JB):Prop:=∃H',Inv X ca σ H' s'/\Q b H'
def AP(X:Cx)(ca:V3)(σ:St)(Q:List V->Hp->Prop)(us:List JD)(s':JB):Prop:=∃vs H',Inv X ca σ H' s'/\Vals vs us/\Q vs H'
def SP(X:Cx)(ca:V3)(D:Ends)(f:Flow)(s':JB):Prop:=
 match f with
 |.next=>∃σ' H',Inv X ca σ' H' s'/\D.nx σ' H'
 |.brk=>∃σ' H',Inv X ca σ' H' s'/\D.bk σ' H'
 |.cont=>∃σ' H',Inv X ca σ' H' s'/\D.ct σ' H'
 |.ret u=>∃v σ' H',Inv X ca σ' H' s'/\RelV v u/\D.rt v H'
def PE(X:Cx)(e:ZG)(t:TE):Prop:=
 ∀(ca:V3)(s:JB)(σ:St)(H:Hp)(Q:VK),Inv X ca σ H s->t σ H Q->ZJ (ZK X.prog X.w) X.A (eval e X.env) (EP X ca σ Q) X.xe s
def PT(X:Cx)(e:ZG)(t:TT):Prop:=
 ∀(ca:V3)(s:JB)(σ:St)(H:Hp)(Q:Bool->Hp->Prop),Inv X ca σ H s->t σ H Q->ZJ (ZK X.prog X.w) X.A (isTrue e X.env (eval e X.env)) (TP X ca σ Q) X.xe s
def PW(X:Cx)(e:ZG)(t:TT):Prop:=
 ∀(whole:Sem JD)(ca:V3)(s:JB)(σ:St)(H:Hp)(Q:Bool->Hp->Prop),Inv X ca σ H s->t σ H Q->ZJ (ZK X.prog X.w) X.A (isTrue e X.env whole) (TP X ca σ Q) X.xe s
variable{e:ZG}
def PW.pt{t:TT}(h:PW X e t):PT X e t:=h _
def PA(X:Cx)(es:List ZG)(t:TA):Prop:=
 ∀(pos:Pos)(ca:V3)(s:JB)(σ:St)(H:Hp)(Q:List V->Hp->Prop),Inv X ca σ H s->t σ H Q->ZJ (ZK X.prog X.w) X.A (spliced (backTo pos (JZ es X.env))) (AP X ca σ Q) X.xe s
def PS(X:Cx)(st:ZF)(t:TS):Prop:=
 ∀(ca:V3)(s:JB)(σ:St)(H:Hp)(D:Ends),Inv X ca σ H s->t D σ H->ZJ (ZK X.prog X.w) X.A (exec st X.env) (SP X ca D) X.xe s
def PSs(X:Cx)(st:List ZF)(t:TS):Prop:=
 ∀(ca:V3)(s:JB)(σ:St)(H:Hp)(D:Ends),Inv X ca σ H s->t D σ H->ZJ (ZK X.prog X.w) X.A (execs st X.env) (SP X ca D) X.xe s
def bN{t:Sem α}{Q Q':α->JB->Prop}(h:ZJ M A t Q E s)(hQ:∀a s,Q a s->Q' a s):ZJ M A t Q' E s:=Kw h hQ λ_ _ x=>x
variable{ta:TE}{σ:St}
section
def tVar(i:Nat):TE:=λσ H Q=>∃v,σ[i]?=ZA (ZA v)/\Q v H
def tC(v:V):TE:=λ_ H Q=>Q v H
def pA{pos:Pos}(hN:X.N[i]?=ZA x)(hv:vn X.env.scope x)(hd:autoParam ((x == ("__debug__" : Str))=ZD) s_)(hcd:autoParam ((x == ("__classdict__" : Str))=ZD) s_):PE X (.Name x pos) (tVar i):=by
 intro ca s σ H Q I h;obtain⟨v,e,h⟩:=h;obtain⟨m,hn,hl⟩:=I.loc;obtain⟨u,r,l⟩:=hl i x v hN e hv
 have fin:EP X ca σ Q u s:=⟨v,H,I,r,h⟩;rcases l with⟨hk,hm⟩|⟨hk,c,hc,hcell⟩
 ·exact Rr (P4 I.ok.kind hk hn hm fin) hd
 ·rcases hk with hk|hk
  ·exact Rr (wpAny_loadName_cell I.ok.kind hk hc hcell fin) hd
  ·exact Rr (wpAny_loadName_free I.ok.kind hk hc hcell fin hcd) hd
def Ea{i j pos}:PE X (.Constant (.int i) j pos) (tC (.int i)):=λ_ _ _ H _ I h=>wpAny_Constant_int ⟨.int i,H,I.tok _,⟨_,rfl⟩,h⟩
def GY{b j pos}:PE X (.Constant (.bool b) j pos) (tC (.bl b)):=λ_ _ _ H _ I h=>Constant_bool ⟨.bl b,H,I,rfl,h⟩
def D8{j pos}:PE X (.Constant .none j pos) (tC .non):=λ_ _ _ H _ I h=>QY ⟨.non,H,I,rfl,h⟩
def D5{x j pos}:PE X (.Constant (.str x) j pos) (tC (.str x)):=λ_ _ _ H _ I h=>Qw ⟨.str x,H,I.tok _,⟨_,rfl⟩,h⟩
def Gl(X:Cx)(x:Str):Prop:=X.env.kindOf x=ZA .globalImplicit
def iQ{u:JD}{pos:Pos}(I:Inv X ca σ H s)(hg:Gl X x)(hm:X.mg x=ZA u)(h:Q u s)
  (hd:autoParam ((x == ("__debug__" : Str))=ZD) s_):ZJ (ZK X.prog X.w) X.A (eval (.Name x pos) X.env) Q E s:=
 Ob I.ok.kind hg (Calls.loadGlobal_global (by rw[I.ok.glob];exact I.mod.glob.keeps I.bk) hm h) hd
def eg{u:JD}{pos:Pos}(I:Inv X ca σ H s)(hg:Gl X x)(hm:X.mg x=ZB)(hv:Ke x=ZA u)(h:Q u s)
  (hn:autoParam (x≠ "__name__") s_) (hd:autoParam ((x == ("__debug__" : Str))=ZD) s_):ZJ (ZK X.prog X.w) X.A (eval (.Name x pos) X.env) Q E s:=by
 obtain⟨mb,h1,h2⟩:=I.mod.blt;exact Ob I.ok.kind hg (Calls.loadGlobal_builtin (by rw[I.ok.glob];exact I.mod.glob.keeps I.bk) hm (by rw[I.ok.blt];exact h1.keeps I.bk) ((h2 x hn).trans hv) h) hd
def Bc{u:JD}{pos:Pos}(hg:Gl X x)(hm:X.mg x=ZA u)(r:RelV v u)(hd:autoParam ((x == ("__debug__" : Str))=ZD) s_):PE X (.Name x pos) (tC v):=
 λ_ _ _ H _ I h=>iQ I hg hm ⟨v,H,I,r,h⟩ hd
def Be{u:JD}{pos:Pos}(hg:Gl X x)(hm:X.mg x=ZB)(hv:Ke x=ZA u)(r:RelV v u)(hn:autoParam (x≠ "__name__") s_)(hd:autoParam ((x == ("__debug__" : Str))=ZD) s_):PE X (.Name x pos) (tC v):=
 λ_ _ _ H _ I h=>eg I hg hm hv ⟨v,H,I,r,h⟩ hn hd
variable {a b:ZG}{tb:TE}{pos:Pos}
def tB(t:TE):TT:=λσ H Q=>t σ H λx H1=>∃c,x=.bl c/\Q c H1
def DQ{t:TE}(h:PE X e t)(he:autoParam (∀whole,isTrue e X.env whole=(do let v <-whole;standAt e.pos;holding [v] (truthy v))) t_):PT X e (tB t):=by
 intro ca s σ H Q I hw;refine isTrue_plain (bN (h ca s σ H _ I hw) λv s1 ⟨x,H1,I1,r1,q1⟩=>?_) (he _)
 obtain⟨d,rfl,q⟩:=q1;cases r1;exact K2 ⟨H1,I1,q⟩
variable {tA tB':TT}{br:List ZG}
def tAnd(t u:TT):TT:=λσ H Q=>t σ H λc H1=>if c=ZC then u σ H1 Q else Q ZD H1
def tOr(t u:TT):TT:=λσ H Q=>t σ H λc H1=>if c=ZC then Q ZC H1 else u σ H1 Q
def F8(t:TT):TT:=λσ H Q=>t σ H λc H1=>Q (!c) H1
def DP(ha:PT X a tA):PW X (.BoolOp .Or [a] pos) tA:=by
 intro wh ca s σ H Q I h;refine isTrue_or (bN (ha ca s σ H Q I h) λc s1 e=>?_)
 cases c with
 |false=>exact isTrue_or_nil e
 |true=>exact e
def GS(ha:PT X a tA)(hb:PW X (.BoolOp .Or (b::br) pos) tB'):PW X (.BoolOp .Or (a::b::br) pos) (tOr tA tB'):=by
 intro wh ca s σ H Q I h;refine isTrue_or (bN (ha ca s σ H _ I h) λc s1 hh_=>?_)
 obtain⟨H1,I1,q1⟩:=hh_
 cases c with
 |true=>exact⟨H1,I1,q1⟩
 |false=>exact hb wh ca s1 σ H1 Q I1 q1
def DU(ha:PT X a tA):PT X (.UnaryOp .Not a pos) (F8 tA):=by
 intro ca s σ H Q I h;exact isTrue_not (ha ca s σ H (λc H1=>Q (!c) H1) I h)
def Gj(ta tb:TE):TE:=λσ H Q=>ta σ H λx H1=>∃c,x=.bl c/\if c=ZC then tb σ H1 Q else Q (.bl ZD) H1
def tOrV(ta tb:TE):TE:=λσ H Q=>ta σ H λx H1=>∃c,x=.bl c/\if c=ZC then Q (.bl ZC) H1 else tb σ H1 Q
def F7(ta:TE):TE:=λσ H Q=>ta σ H λx H1=>∃c,x=.bl c/\Q (.bl (!c)) H1
def D6{op}{t:TE}(h:PE X a t):PE X (.BoolOp op [a] pos) t:=λca s σ H Q I hw=>BoolOp_one (h ca s σ H Q I hw)
def Eb(ha:PE X a ta)(hb:PE X (.BoolOp .And (b::br) pos) tb):PE X (.BoolOp .And (a::b::br) pos) (Gj ta tb):=by
 intro ca s σ H Q I h;refine BoolOp_and (bN (ha ca s σ H _ I h) λv s1 hh_=>?_)
 obtain⟨x,H1,I1,r1,q1⟩:=hh_;obtain⟨c,rfl,q1⟩:=q1;cases r1;refine K2 ?_
 cases c with
 |true=>exact hb ca s1 σ H1 Q I1 q1
 |false=>exact⟨.bl ZD,H1,I1,rfl,q1⟩
def GX(ha:PE X a ta)(hb:PE X (.BoolOp .Or (b::br) pos) tb):PE X (.BoolOp .Or (a::b::br) pos) (tOrV ta tb):=by
 intro ca s σ H Q I h;refine BoolOp_or (bN (ha ca s σ H _ I h) λv s1 hh_=>?_)
 obtain⟨x,H1,I1,r1,q1⟩:=hh_;obtain⟨c,rfl,q1⟩:=q1;cases r1;refine K2 ?_
 cases c with
 |false=>exact hb ca s1 σ H1 Q I1 q1
 |true=>exact⟨.bl ZC,H1,I1,rfl,q1⟩
def D7(ha:PE X a ta):PE X (.UnaryOp .Not a pos) (F7 ta):=by
 intro ca s σ H Q I h;refine UnaryOp_ (bN (ha ca s σ H _ I h) λv s1 hh_=>?_)
 obtain⟨x,H1,I1,r1,q1⟩:=hh_;obtain⟨c,rfl,q1⟩:=q1;cases r1;exact not_of (K2 ⟨.bl (!c),H1,I1,rfl,q1⟩)
def tIf(t:TT)(ta tb:TE):TE:=λσ H Q=>t σ H λc H1=>if c=ZC then ta σ H1 Q else tb σ H1 Q
def x6{c:ZG}(hc:PT X c tA)(ha:PE X a ta)(hb:PE X b tb):PE X (.IfExp c a b pos) (tIf tA ta tb):=by
 intro ca s σ H Q I h;refine wpAny_IfExp (bN (hc ca s σ H _ I h) λd s1 hh_=>?_)
 obtain⟨H1,I1,q1⟩:=hh_
 cases d with
 |true=>exact ha ca s1 σ H1 Q I1 q1
 |false=>exact hb ca s1 σ H1 Q I1 q1
end
def SqL(K:Jz)(H:Hp)(a:ZE)(xs:List V):Prop:=
 Rd H a (.lst xs) ∨
  ∃(o:Obj)(its:Array JD)(n:Nat),K.lookup a=ZA o/\o.cls=.type "list"/\o.dict=ZB/\o.data=.seq its n/\its.size<=ZI/\Vals xs its.toList
def SqT(K:Jz)(H:Hp)(a:ZE)(xs:List V):Prop:=
 Rd H a (.tup xs) ∨
  ∃(o:Obj)(its:Array JD)(n:Nat),K.lookup a=ZA o/\o.cls=.type "tuple"/\o.data=.seq its n/\its.size<=ZI/\Vals xs its.toList
def absV:JD->Option V
 |.none=>ZA .non
 |.bool b=>ZA (.bl b)
 |.int i _=>ZA (.int i)
 |.str x _=>ZA (.str x)
 |.bytes b _=>ZA (.byt b)
 |.float b _=>ZA (.flt b)
 |.ref a=>ZA (.ref a)
 |.type n=>ZA (.ty n)
 |_=>ZB
def RelV.abs{x:V}{u:JD}(r:RelV x u):absV u=ZA x:=by
 cases x with
 |non=>cases r;rfl
 |bl _=>cases r;rfl
 |int _=>obtain⟨t,rfl⟩:=r;rfl
 |str _=>obtain⟨t,rfl⟩:=r;rfl
 |byt _=>obtain⟨t,rfl⟩:=r;rfl
 |flt _=>obtain⟨t,rfl⟩:=r;rfl
 |ref _=>cases r;rfl
 |ty _=>cases r;rfl
def RelV.inj{x y:V}{u:JD}(r:RelV x u)(q:RelV y u):x=y:=Kn (r.abs.symm.trans q.abs)
theorem Vals.inj:∀{xs ys:List V}{us:List JD},Vals xs us->Vals ys us->xs=ys
 |_,_,_,.nil,.nil=>rfl
 |_,_,_,.cons r t,.cons r' t'=>by rw[r.inj r',Vals.inj t t']
section
variable {ys:List V}
def SqL.of(h:H a=ZA (.lst xs)):SqL K H a xs:=.inl (.inl h)
def SqT.of(h:H a=ZA (.tup xs)):SqT K H a xs:=.inl (.inl h)
def Inv.list(I:Inv X ca σ H s)(h:SqL X.K H a xs):∃its:List JD,Vals xs its/\PlainL s.heap a its.toArray/\xs.length<=ZI:=by
 rcases h with h|⟨o,its,n,hk,hc,hd,hs,hz,r⟩
 ·obtain⟨z,its,n,r,e⟩:=h.ok I.hok
  exact⟨its,r,⟨_,n,e,rfl,rfl,rfl⟩,z⟩
 ·refine⟨its.toList,r,⟨o,n,I.kIn a o hk,hc,hd,by simpa using hs⟩,?_⟩
  have e:=r.length;simp only[Mj]at e;omega
def Inv.tuple(I:Inv X ca σ H s)(h:SqT X.K H a xs):∃its:List JD,Vals xs its/\SA s.heap a its.toArray/\xs.length<=ZI:=by
 rcases h with h|⟨o,its,n,hk,hc,hs,hz,r⟩
 ·obtain⟨z,its,r,p⟩:=h.ok I.hok
  exact⟨its,r,p,z⟩
 ·refine⟨its.toList,r,⟨o,I.kIn a o hk,hc,n,by simpa using hs⟩,?_⟩
  have e:=r.length;simp only[Mj]at e;omega
def Inv.ID(I:Inv X ca σ H s)(h:SqL X.K H a xs)(h':SqL X.K H a ys):xs=ys:=by
 obtain⟨its,r,⟨o,n,e,_,_,d⟩,_⟩:=I.list h;obtain⟨its',r',⟨o',n',e',_,_,d'⟩,_⟩:=I.list h';rw[e]at e';cases e';rw[d]at d';injection d' with d1 _
 have:its=its':=by simpa using congrArg Po d1
 subst this;exact r.inj r'
def Inv.IB(I:Inv X ca σ H s)(h:SqT X.K H a xs)(h':SqT X.K H a ys):xs=ys:=by
 obtain⟨its,r,⟨o,e,_,n,d⟩,_⟩:=I.tuple h;obtain⟨its',r',⟨o',e',_,n',d'⟩,_⟩:=I.tuple h';rw[e]at e';cases e';rw[d]at d';injection d' with d1 _
 have:its=its':=by simpa using congrArg Po d1
 subst this;exact r.inj r'
end
abbrev Cx.FM(X:Cx)(E:V2):Cx:={X with xe:=E}
abbrev Cx.nox(X:Cx):Cx:=X.FM λ_ _=>False
def Cx.Ok.FM(ok:X.Ok)(E:V2):(X.FM E).Ok:=
 ⟨ok.mod,ok.kind,ok.glob,ok.blt,ok.above,ok.inj,ok.has,ok.cab,ok.hd,ok.frames,ok.stk,ok.exf,ok.bs,ok.bsz,ok.noex,ok.exfs,ok.funs,ok.frf⟩
def Cx.Ok.Iu(ok:(X.FM E).Ok):X.Ok:=
 ⟨ok.mod,ok.kind,ok.glob,ok.blt,ok.above,ok.inj,ok.has,ok.cab,ok.hd,ok.frames,ok.stk,ok.exf,ok.bs,ok.bsz,ok.noex,ok.exfs,ok.funs,ok.frf⟩
theorem Inv.FM(I:Inv X ca σ H s)(E:V2):Inv (X.FM E) ca σ H s:=⟨I.ok.FM E,I.os,I.bare,I.base,I.loc,I.cell,I.free,I.freeC,I.pin,I.hok,I.len⟩
theorem Inv.Iu(I:Inv (X.FM E) ca σ H s):Inv X ca σ H s:=⟨I.ok.Iu,I.os,I.bare,I.base,I.loc,I.cell,I.free,I.freeC,I.pin,I.hok,I.len⟩
theorem SP.Iu{D:Ends}{f:Flow}(h:SP (X.FM E) ca D f s'):SP X ca D f s':=by
 cases f with
 |next=>obtain⟨σ',H',I,q⟩:=h;exact⟨σ',H',I.Iu,q⟩
 |brk=>obtain⟨σ',H',I,q⟩:=h;exact⟨σ',H',I.Iu,q⟩
 |cont=>obtain⟨σ',H',I,q⟩:=h;exact⟨σ',H',I.Iu,q⟩
 |ret u=>obtain⟨v,σ',H',I,r,q⟩:=h;exact⟨v,σ',H',I.Iu,r,q⟩
def PSs.nox{st:List ZF}{t:TS}(h:PSs X.nox st t):PSs X st t:=λca s σ H D I hw=>
 Kw (h ca s σ H D (I.FM _) hw) (λ_ _ q=>q.Iu) λ_ _ z=>Lr z
variable{tc:TT}{te:TE}
section
variable {st:ZF}{br:List ZF}{t u:TS}{pos:Pos}
def Ga:TS:=λD σ H=>D.nx σ H
def F4(t u:TS):TS:=λD σ H=>t {D with nx:=u D} σ H
def AZ:PSs X [] Ga:=λ_ _ σ H _ I h=>L9 ⟨σ,H,I,h⟩
def xT(h1:PS X st t)(h2:PSs X br u):PSs X (st::br) (F4 t u):=by
 intro ca s σ H D I h;refine NM (bN (h1 ca s σ H {D with nx:=u D} I h) λf s1 q=>?_)
 cases f with
 |next=>
  obtain⟨σ',H',I',q⟩:=q
  exact h2 ca s1 σ' H' D I' q
 |ret v=>exact q
 |brk=>exact q
 |cont=>exact q
def AY(h1:PS X st t):PSs X [st] t:=by
 intro ca s σ H D I h;refine NM (bN (h1 ca s σ H D I h) λf s1 q=>?_)
 cases f with
 |next=>exact L9 q
 |ret v=>exact q
 |brk=>exact q
 |cont=>exact q
def Gh:TS:=λD σ H=>D.ct σ H
def rh:PS X (.Continue pos) Gh:=λ_ _ σ H _ I h=>wpAny_Continue ⟨σ,H,I,h⟩
def Inv.quiet(I:Inv X ca σ H s):interactive X.env=ZD:=by simp[interactive,I.ok.kind]
def Gf(te:TE):TS:=λD σ H=>te σ H λ_ H1=>D.nx σ H1
def pz(he:PE X e te)(hs:autoParam (Lx e ZB pos.line X.env=pure ZD) u_):PS X (.Expr e pos) (Gf te):=by
 intro ca s σ H D I h;exact wpAny_Expr_any (bN (he ca s σ H _ I h) λv s1 ⟨x,H1,I1,r1,q1⟩=>⟨σ,H1,I1,q1⟩) I.quiet hs
def F5(te:TE):TS:=λD σ H=>te σ H D.rt
def DV(he:PE X e te):PS X (.Return (ZA e) pos) (F5 te):=by
 intro ca s σ H D I h;exact ON (bN (he ca s σ H _ I h) λv s1 ⟨x,H1,I1,r1,q1⟩=>⟨x,σ,H1,I1,r1,q1⟩)
def Gd(c:TT)(t u:TS):TS:=λD σ H=>c σ H λb H1=>if b=ZC then t D σ H1 else u D σ H1
def GV{c:ZG}{a b:List ZF}(hc:PT X c tc)(ha:PSs X a t)(hb:PSs X b u):PS X (.If c a b pos) (Gd tc t u):=by
 intro ca s σ H D I h;refine wpAny_If (bN (hc ca s σ H _ I h) λd s1 hh_=>?_)
 obtain⟨H1,I1,q1⟩:=hh_
 cases d with
 |true=>exact ha ca s1 σ H1 D I1 q1
 |false=>exact hb ca s1 σ H1 D I1 q1
end
abbrev TG:=V->St->Hp->(St->Hp->Prop)->Prop
abbrev Cc:=List V->St->Hp->(St->Hp->Prop)->Prop
def PG(X:Cx)(target:ZG)(t:TG):Prop:=
 ∀(ca:V3)(s:JB)(σ:St)(H:Hp)(v:V)(u:JD)(Q:St->Hp->Prop),Inv X ca σ H s->RelV v u->t v σ H Q →
  ZJ (ZK X.prog X.w) X.A (assign target X.env u) (λ_ s'=>∃σ' H',Inv X ca σ' H' s'/\Q σ' H') X.xe s
def PGs(X:Cx)(ts:List ZG)(t:Cc):Prop:=
 ∀(ca:V3)(s:JB)(σ:St)(H:Hp)(vs:List V)(us:List JD)(Q:St->Hp->Prop),Inv X ca σ H s->Vals vs us->t vs σ H Q →
  ZJ (ZK X.prog X.w) X.A (assignInOrder ((K3 ts X.env).map (·.2)) us) (λ_ s'=>∃σ' H',Inv X ca σ' H' s'/\Q σ' H') X.xe s
variable{es:List ZG}{tg:ZG}
section
variable {pos:Pos}
def zc(i:Nat):TG:=λv σ H Q=>Q (σ.set i (ZA v)) H
def Ba(hN:X.N.Nodup)(hi:X.N[i]?=ZA x)(hx:Loc X.env.scope x)(hf:autoParam (X.fn x=ZC\/X.env.scope.names.lookup x=ZA .local) r_):PG X (.Name x pos) (zc i):=by
 intro ca s σ H v u Q I r h;exact Rt (qL I hN hi hx r (λs' I'=>⟨_,H,I',h⟩) hf)
def gNil:Cc:=λvs σ H Q=>vs=[]/\Q σ H
def Hv(t:TG)(u:Cc):Cc:=λvs σ H Q=>∃v r,vs=v::r/\t v σ H λσ' H'=>u r σ' H' Q
def A9:PGs X [] gNil:=by
 intro ca s σ H vs us Q I r h;obtain⟨e,h⟩:=h;subst e;cases r;exact assignInOrder_nil ⟨σ,H,I,h⟩
def xY{t:TG}{u:Cc}(h1:PG X e t)(h2:PGs X es u)
  (hs:autoParam ((K3 (e::es) X.env).map (·.2)=assign e X.env::(K3 es X.env).map (·.2)) u_):PGs X (e::es) (Hv t u):=by
 intro ca s σ H vs us Q I r h;obtain⟨v,vr,e1,h⟩:=h;subst e1
 cases r with
 |cons r rr=>
  rw[hs];refine assignInOrder_cons (bN (h1 ca s σ H _ _ _ I r h) λ_ s1 hh_=>?_)
  obtain⟨σ1,H1,I1,q1⟩:=hh_;exact h2 ca s1 σ1 H1 _ _ Q I1 rr q1
def gTup(K:Jz)(n:Nat)(t:Cc):TG:=λv σ H Q=>∃a xs,v=.ref a/\SqT K H a xs/\xs.length=n/\t xs σ H Q
def D1{t:Cc}(hc:X.calm=ZC)(h:PGs X es t)
  (hn:autoParam ((K3 es X.env).length=n) u_) (hst:autoParam ((K3 es X.env).findIdx? (·.1)=ZB) u_):PG X (.Tuple es k pos) (gTup X.K n t):=by
 intro ca s σ H v u Q I r hw;obtain⟨a,xs,e1,hq,hl,hw⟩:=hw;subst e1;cases r;obtain⟨its,rv,ht,hz⟩:=I.tuple hq;refine assign_Tuple_tuple (I.ok.hd hc) ht (by simp[hn,<-hl,rv.length]) hst λh' hx=>?_
 have I1:Inv X ca σ H {s with heap:=h'}:=I.kept (t':=s.toks) λb o e=>hx b o (K6 (JM e)) e
 exact h ca _ σ H xs _ Q I1 (by simpa using rv) hw
def xt(te:TE)(g:TG):TS:=λD σ H=>te σ H λx H1=>g x σ H1 D.nx
def DX{g:TG}(he:PE X e te)(hg:PG X tg g)(hs:autoParam (Nj [tg] e pos.line X.env=pure ZD) u_)(hw:autoParam (Nk [tg] e X.env=pure ZB) u_)
  (h1:autoParam ((K3 [tg] X.env).map (·.2)=[assign tg X.env]) u_):PS X (.Assign [tg] e pos) (xt te g):=by
 intro ca s σ H D I h;refine wpAny_Assign_stores (bN (he ca s σ H _ I h) λv s1 ⟨x,H1,I1,r1,q1⟩=>?_) hs hw
 rw[h1];exact bN (hg ca s1 σ H1 x v _ I1 r1 q1) λ_ s2 q=>q
def xV{pos':Pos}(hN:X.N.Nodup)(hi:X.N[i]?=ZA x)(hx:Loc X.env.scope x)(he:PE X e te)(hs:autoParam (Lx e (ZA (.Name x pos')) pos.line X.env=pure ZD) u_)(hf:autoParam (X.fn x=ZC\/X.env.scope.names.lookup x=ZA .local) r_):
  PS X (.Assign [.Name x pos'] e pos) (xt te (zc i)):=by
 intro ca s σ H D I h;refine wpAny_Assign_Name (bN (he ca s σ H _ I h) λv s1 ⟨y,H1,I1,r1,q1⟩=>?_) hs
 exact qL I1 hN hi hx r1 (λs2 I2=>⟨_,H1,I2,q1⟩) hf
end
variable{body:List ZF}
section
variable {pos:Pos}
def sG(c:TT)(tb:TS):TS:=λD σ H=>∃W:Nat->St->Hp->Prop,(∃m,W m σ H)/\∀m σ H,W m σ H →
 c σ H λb H1=>if b=ZC then ∃N:St->Hp->Prop,(∀σ' H',N σ' H'->∃m',m'<m/\W m' σ' H')/\tb {D with nx:=N,ct:=N,bk:=D.nx} σ H1 else D.nx σ H1
def xU{c:ZG}{tb:TS}(hp:PassesOwn (ZK X.prog X.w) X.A X.env X.xe)(hc:PT X c tc)(hb:PSs X body tb):PS X (.While c body [] pos) (sG tc tb):=by
 intro ca s σ H D I h;obtain⟨W,⟨m0,w0⟩,turn⟩:=h;refine wpAny_While (codeAny_whileLoop (λn s'=>∃σ' H',Inv X ca σ' H' s'/\W n σ' H') ?_ m0 ⟨σ,H,I,w0⟩)
 rintro n s1 ⟨σ1,H1,I1,w1⟩
 refine Sq hp (bN (hc ca s1 σ1 H1 _ I1 (turn n σ1 H1 w1)) λb s2 hh_=>?_)
 obtain⟨H2,I2,q2⟩:=hh_
 cases b with
 |true=>
  obtain⟨N,hN,q2⟩:=q2;rw[if_pos rfl];refine Sq hp (bN (hb ca s2 σ1 H2 _ I2 q2) λf s3 q3=>?_)
  cases f with
  |next=>
   obtain⟨σ3,H3,I3,n3⟩:=q3;obtain⟨m',hm,w3⟩:=hN σ3 H3 n3
   exact⟨m',hm,σ3,H3,I3,w3⟩
  |cont=>
   obtain⟨σ3,H3,I3,n3⟩:=q3;obtain⟨m',hm,w3⟩:=hN σ3 H3 n3
   exact⟨m',hm,σ3,H3,I3,w3⟩
  |brk=>exact q3
  |ret v=>exact q3
 |false=>
  rw[if_neg J7];exact L9 ⟨σ1,H2,I2,q2⟩
end
structure It where
 go:Nat->Hp->Prop
 yld:Nat->Hp->V->Hp->Prop
 stop:Nat->Hp->Prop
def gZ(X:Cx)(ca:V3)(H:Hp)(b:ZE):Prop:=
 H b=ZB/\b≠X.env.locals/\b∉X.fs/\(b∈X.ex\/X.s₀.heap.objs.size<=b)/\(∀x c,X.env.cells.lookup x=ZA c->c≠b)/\∀p∈X.pn++ca,p.1≠b
def Inv.IH(I:Inv X ca σ H s)(hb:s.heap.objs.size<=b)(hn:H' b=ZB):gZ X ca H' b:=by
 refine⟨hn,M0 (JS I.lt hb),I.Jw hb,.inr (J5 I.sz hb),λx c e z=>?_,λp hp z=>?_⟩
 ·obtain⟨v,q⟩:=I.cell x c e
  exact absurd (JS q.lt (by rw[z];exact hb)) (J3 _)
 ·exact absurd (JS (JM (I.pin p hp).1) (by rw[z];exact hb)) (J3 _)
structure wI (P:J1)(w:Ks)(K:Jz)(tg:ZG)(J:It)(fp:List ZE)(it:ZE)(tn:Nat->ZH->Prop):Prop where
 mem:it∈fp
 obj:∀i h,tn i h->∀b∈fp,∃o,h.get? b=ZA o/\∀v,o.data≠ .cell v
 keep:∀i h h',tn i h->(∀b∈fp,∀o,h.get? b=ZA o->h'.get? b=ZA o)->tn i h'
 item:∀(X:Cx),X.prog=P->X.w=w->X.K=K->X.calm=ZC->∀(i:Nat)(ca:V3)(s:JB)(σ:St)(H:Hp)(E:V2),Inv X ca σ H s->(∀b∈fp,gZ X ca H b)->tn i s.heap->J.go i H →
  ZJ (ZK P w) X.A (pyNext (.ref it)) (λr s1=>∃u,r=ZA u ∧
   ZJ (ZK P w) X.A (Ma tg (.ref it) u) (λ_ s2=>∃x H',Inv X ca σ H' s2/\RelV x u/\J.yld i H x H'/\tn (i+1) s2.heap/\∀b∈fp,H' b=ZB) E s1) E s
 done:∀(X:Cx),X.prog=P->X.w=w->X.K=K->X.calm=ZC->∀(i:Nat)(ca:V3)(s:JB)(σ:St)(H:Hp)(E:V2),Inv X ca σ H s->(∀b∈fp,gZ X ca H b)->tn i s.heap->J.stop i H →
  ZJ (ZK P w) X.A (pyNext (.ref it)) (λr s1=>r=ZB/\Inv X ca σ H s1) E s
 self:∀(A:Kc)(i:Nat)(s:JB)(Q:V2)(E:V2),tn i s.heap->Q (.ref it) s->ZJ (ZK P w) A (pyIter (.ref it)) Q E s
abbrev TI:=St->Hp->(It->Hp->Prop)->Prop
def PIE(X:Cx)(ca:V3)(σ:St)(tg:ZG)(R:It->Hp->Prop)(itv:JD)(s2:JB):Prop:=
 ∃(it:ZE)(fp:List ZE)(tn:Nat->ZH->Prop)(J:It)(H':Hp),itv=.ref it/\Inv X ca σ H' s2/\wI X.prog X.w X.K tg J fp it tn/\tn 0 s2.heap/\(∀b∈fp,gZ X ca H' b)/\R J H'
def PI(X:Cx)(tg iter:ZG)(wi:TI):Prop:=
 ∀(ca:V3)(s:JB)(σ:St)(H:Hp)(R:It->Hp->Prop),Inv X ca σ H s->wi σ H R →
  ZJ (ZK X.prog X.w) X.A (eval iter X.env) (λv s1=>ZJ (ZK X.prog X.w) X.A (pyIter v) (PIE X ca σ tg R) X.xe s1) X.xe s
def za{u:JD}{o:Obj}{n:String}{vs:Array JD}{Q:Unit->JB->Prop}(ho:s.heap.get? it=ZA o)(hc:o.cls=.type n)(hd:o.data=.fields vs)
  (hn:["enumerate","zip","dict_itemiterator","dict_reverseitemiterator","odict_iterator","itertools.zip_longest","itertools.pairwise"].contains n=ZD) (hQ:Q () s):ZJ M A (Ma tg (.ref it) u) Q E s:=by
 unfold Ma
 cases tg <;> first
  |exact JK hQ
  | (cases u <;> first
    |exact JK hQ
    | (refine Jy (wpAny_load ho ?_)
       rw[hc,hd]
       show ZJ M A (if (["enumerate","zip","dict_itemiterator","dict_reverseitemiterator","odict_iterator","itertools.zip_longest","itertools.pairwise"].contains n&&vs[0]? == ZA (rawInt _))=ZC then _ else _) Q E s
       rw[if_neg (by intro h;rw[hn,On]at h;cases h)]
       exact JK hQ))
def Itl(K:Jz)(a:ZE):It:=
 ⟨λi H=>∃xs x,SqL K H a xs/\xs[i]?=ZA x,λi H x H'=>H'=H/\∀xs,SqL K H a xs->xs[i]?=ZA x,λi H=>∃xs,SqL K H a xs/\xs.length<=i⟩
def Itt(K:Jz)(a:ZE):It:=
 ⟨λi H=>∃xs x,SqT K H a xs/\xs[i]?=ZA x,λi H x H'=>H'=H/\∀xs,SqT K H a xs->xs[i]?=ZA x,λi H=>∃xs,SqT K H a xs/\xs.length<=i⟩
def Itr(lo:Int)(n:Nat):It:=⟨λi _=>i<n,λi H x H'=>H'=H/\x=.int (lo+i),λi _=>n<=i⟩
def vG(a it:ZE):wI P w K tg (Itl K a) [it] it (λi h=>h.IsListIter it a i) where
 mem:=by simp
 obj:=λi h st b hb=>by
  have e:b=it:=by simpa using hb
  subst e;obtain⟨o,e,c,d⟩:=st;exact⟨o,e,λv z=>by rw[d]at z;cases z⟩
 keep:=λi h h' st k=>st.at λo e=>k it (by simp) o e
 item:=by
  intro X hP hw hK hc i ca s σ H E I hf st hg;subst hP hw hK;obtain⟨xs,x,hq,hx⟩:=hg;obtain⟨its,rv,p,hz⟩:=I.list hq;obtain⟨u,hu,ru⟩:=rv.get hx;obtain⟨f0,f1,f2,f3,f4,f5⟩:=hf it (by simp)
  refine Pj st p.isList (x:=u) (by simpa using hu) λh' st' sb=>?_
  have I1:Inv X ca σ H {s with heap:=h'}:=I.turned (t':=s.toks) (λb o hb e=>(sb.2 b hb).trans e) f0 f1 f3 f4 f5
  obtain⟨o,e,c,d⟩:=id st';exact⟨u,rfl,za (s:={s with heap:=h'}) e c d (by decide) ⟨x,H,I1,ru,⟨rfl,λys hy=>by rw[I.ID hy hq];exact hx⟩,st',λb hb=>(hf b hb).1⟩⟩
 done:=by
  intro X hP hw hK hc i ca s σ H E I hf st hg;subst hP hw hK;obtain⟨xs,hq,hx⟩:=hg;obtain⟨its,rv,p,hz⟩:=I.list hq;obtain⟨f0,f1,f2,f3,f4,f5⟩:=hf it (by simp)
  have hl:=rv.length;exact PJ (I.ok.hd hc) st p.isList (by simp;omega) λh' eb=>⟨rfl,I.turned (t':=s.toks) (λb o hb e=>eb b o hb e) f0 f1 f3 f4 f5⟩
 self:=λ_ _ _ _ _ st h=>wpAny_pyIter_listiter st h
def sA(a it:ZE):wI P w K tg (Itt K a) [it] it (λi h=>h.IsTupleIter it a i) where
 mem:=by simp
 obj:=λi h st b hb=>by
  have e:b=it:=by simpa using hb
  subst e;obtain⟨o,e,c,d⟩:=st;exact⟨o,e,λv z=>by rw[d]at z;cases z⟩
 keep:=λi h h' st k=>st.at λo e=>k it (by simp) o e
 item:=by
  intro X hP hw hK hc i ca s σ H E I hf st hg;subst hP hw hK;obtain⟨xs,x,hq,hx⟩:=hg;obtain⟨its,rv,p,hz⟩:=I.tuple hq;obtain⟨u,hu,ru⟩:=rv.get hx;obtain⟨f0,f1,f2,f3,f4,f5⟩:=hf it (by simp)
  refine wpAny_pyNext_tuple_item st (show s.heap.IsTuple a its.toArray from p) (x:=u) (by simpa using hu) λh' st' sb=>?_
  have I1:Inv X ca σ H {s with heap:=h'}:=I.turned (t':=s.toks) (λb o hb e=>(sb.2 b hb).trans e) f0 f1 f3 f4 f5
  obtain⟨o,e,c,d⟩:=id st';exact⟨u,rfl,za (s:={s with heap:=h'}) e c d (by decide) ⟨x,H,I1,ru,⟨rfl,λys hy=>by rw[I.IB hy hq];exact hx⟩,st',λb hb=>(hf b hb).1⟩⟩
 done:=by
  intro X hP hw hK hc i ca s σ H E I hf st hg;subst hP hw hK;obtain⟨xs,hq,hx⟩:=hg;obtain⟨its,rv,p,hz⟩:=I.tuple hq;obtain⟨f0,f1,f2,f3,f4,f5⟩:=hf it (by simp)
  have hl:=rv.length;exact wpAny_pyNext_tuple_end (I.ok.hd hc) st (show s.heap.IsTuple a its.toArray from p) (by simp;omega) λh' eb=>⟨rfl,I.turned (t':=s.toks) (λb o hb e=>eb b o hb e) f0 f1 f3 f4 f5⟩
 self:=λ_ _ _ _ _ st h=>wpAny_pyIter_tupleiter st h
def sC(it:ZE)(lo:Int)(n:Nat):wI P w K tg (Itr lo n) [it] it (λi h=>IsRangeIter h it (lo+(i:Nat)*1) ((n:Int) - (i:Nat)) 1) where
 mem:=by simp
 obj:=λi h st b hb=>by
  have e:b=it:=by simpa using hb
  subst e
  exact⟨_,st,λv z=>by
   have z':Se _=Qx v:=z;cases z'⟩
 keep:=λi h h' st k=>k it (by simp) _ st
 item:=by
  intro X hP hw hK hc i ca s σ H E I hf st hg;subst hP hw hK;obtain⟨f0,f1,f2,f3,f4,f5⟩:=hf it (by simp)
  have W:=Walks.range (prog:=X.prog) (w:=X.w) (I.ok.hd hc) it lo 1 n;refine W.item i s _ _ hg st λv h' tk hv st' kk=>?_
  obtain⟨t,rfl⟩:=hv
  have I1:Inv X ca σ H {s with heap:=h',toks:=tk}:=I.turned (λb o hb e=>kk b o (by simpa using hb) e) f0 f1 f3 f4 f5
  refine⟨_,rfl,za (s:={s with heap:=h',toks:=tk}) (n:="range_iterator") st' rfl rfl (by decide) ⟨.int (lo+i),H,I1,⟨t,?_⟩,⟨rfl,rfl⟩,st',λb hb=>(hf b hb).1⟩⟩
  rw[Int.mul_one]
 done:=by
  intro X hP hw hK hc i ca s σ H E I hf st hg;subst hP hw hK;obtain⟨f0,f1,f2,f3,f4,f5⟩:=hf it (by simp)
  exact wpAny_pyNext_range_end (I.ok.hd hc) st (by have:n<=i:=hg;omega) λh' eb=>⟨rfl,I.turned (t':=s.toks) (λb o hb e=>eb b o hb e) f0 f1 f3 f4 f5⟩
 self:=λ_ _ _ _ _ st h=>wpAny_pyIter_rangeiter st h
variable{fp:List ZE}{l:ZG}{tl:TE}
def Ht(K:Jz)(tl:TE):TI:=λσ H R=>tl σ H λx H1=>∃a,x=.ref a/\(∃xs,SqL K H1 a xs)/\R (Itl K a) H1
def iTup(K:Jz)(tl:TE):TI:=λσ H R=>tl σ H λx H1=>∃a,x=.ref a/\(∃xs,SqT K H1 a xs)/\R (Itt K a) H1
def A7(hl:PE X l tl):PI X tg l (Ht X.K tl):=by
 intro ca s σ H R I h;refine bN (hl ca s σ H _ I h) λv s1 hh_=>?_
 obtain⟨x,H1,I1,r1,q1⟩:=hh_;obtain⟨a,e,⟨xs,hq⟩,q⟩:=q1;subst e;cases r1;obtain⟨its,rv,p,hz⟩:=I1.list hq;refine MK p.isList ?_
 refine⟨s1.heap.objs.size,[s1.heap.objs.size],_,_,H1,rfl,I1.kept (t':=s1.toks) λb o e=>JA _ e,vG a _,⟨_,JP _ rfl,rfl,rfl⟩,λb hb=>?_,q⟩
 have e:b=s1.heap.objs.size:=by simpa using hb
 subst e;exact I1.IH (JO _) (I1.hok.fresh (JO _))
def DZ(hl:PE X l tl):PI X tg l (iTup X.K tl):=by
 intro ca s σ H R I h;refine bN (hl ca s σ H _ I h) λv s1 hh_=>?_
 obtain⟨x,H1,I1,r1,q1⟩:=hh_;obtain⟨a,e,⟨xs,hq⟩,q⟩:=q1;subst e;cases r1;obtain⟨its,rv,p,hz⟩:=I1.tuple hq;refine LX (show s1.heap.IsTuple a its.toArray from p) ?_
 refine⟨s1.heap.objs.size,[s1.heap.objs.size],_,_,H1,rfl,I1.kept (t':=s1.toks) λb o e=>JA _ e,sA a _,⟨_,JP _ rfl,rfl,rfl⟩,λb hb=>?_,q⟩
 have e:b=s1.heap.objs.size:=by simpa using hb
 subst e;exact I1.IH (JO _) (I1.hok.fresh (JO _))
def rg{R:It->Hp->Prop}{lo hi:Int}{t u v:Tok}{tk:Nat}(I:Inv X ca σ H s)(h1 : -(2 ^ 62)<=lo)(h2:lo<2 ^ 62)(h3 : -(2 ^ 62)<=hi)(h4:hi<2 ^ 62)
  (q:R (Itr lo (hi - lo).toNat) H):ZJ (ZK X.prog X.w) X.A (pyIter (.ref s.heap.objs.size)) (PIE X ca σ tg R) E {s with heap:=s.heap.push {cls:=.type "range",data:=.fields #[.int lo t,.int hi u,.int 1 v]},toks:=tk}:=by
 refine wpAny_pyIter_range (IsRange.new ..) (small_one h1 h2 h3 h4) ?_
 have I1:Inv X ca σ H {s with heap:=s.heap.push {cls:=.type "range",data:=.fields #[.int lo t,.int hi u,.int 1 v]},toks:=tk}:=I.kept λb o e=>JA _ e
 refine⟨(s.heap.push {cls:=.type "range",data:=.fields #[.int lo t,.int hi u,.int 1 v]}).objs.size,[(s.heap.push {cls:=.type "range",data:=.fields #[.int lo t,.int hi u,.int 1 v]}).objs.size],_,_,H,rfl,
  I1.kept (t':=tk) λb o e=>JA _ e,sC _ lo (hi - lo).toNat,?_,λb hb=>?_,q⟩
 ·have e1:lo+((0:Nat):Int)*1=lo:=by simp
  have e2:(((hi - lo).toNat:Nat):Int) - ((0:Nat):Int)=Builtin.Range.rangeSize lo hi 1:=by rw[rangeSize_one];split <;> omega
  show IsRangeIter _ _ (lo+((0:Nat):Int)*1) ((((hi - lo).toNat:Nat):Int) - ((0:Nat):Int)) 1
  rw[e1,e2];exact JP _ rfl
 ·have e:b=(s.heap.push {cls:=.type "range",data:=.fields #[.int lo t,.int hi u,.int 1 v]}).objs.size:=by simpa using hb
  subst e;exact I1.IH (JO _) (I1.hok.fresh (JO _))
def Ge(wi:TI)(g:TG)(tb:TS):TS:=λD σ H=>wi σ H λJ H1=>∃W:Nat->Nat->St->Hp->Prop,(∃m,W 0 m σ H1)/\∀i m σ H,W i m σ H →
 (J.stop i H/\D.nx σ H)\/(J.go i H/\∃N:St->Hp->Prop,(∀σ' H',N σ' H'->∃m',m'<m/\W (i+1) m' σ' H')/\∀x H',J.yld i H x H'->g x σ H' λσ2 H2=>tb {D with nx:=N,ct:=N,bk:=D.nx} σ2 H2)
def jx(fp:List ZE)(h:ZH):V3:=fp.filterMap λb=>(h.get? b).map λo=>(b,o)
def df{o:Obj}(hb:b∈fp)(e:h.get? b=ZA o):(b,o)∈jx fp h:=Od.mpr ⟨b,hb,by rw[e];rfl⟩
def vV{p:ZE×Obj}(hp:p∈jx fp h):p.1∈fp/\h.get? p.1=ZA p.2:=by
 obtain⟨b,hb,e⟩:=Od.mp hp
 cases q:h.get? b with
 |none=>rw[q]at e;cases e
 |some o=>
  rw[q]at e
  have e':(b,o)=p:=Kn e;subst e';exact⟨hb,q⟩
def Inv.pinned(I:Inv X ca σ H s)(hf:∀b∈fp,gZ X ca H b)(ho:∀b∈fp,∃o,s.heap.get? b=ZA o/\∀v,o.data≠ .cell v):Inv X (ca++jx fp s.heap) σ H s:=
 I.IQ λp hp=>(JR.mp hp).elim (λz=>I.pin p (JV _ z)) λz=>by
  obtain⟨hb,e⟩:=vV z;obtain⟨f0,f1,f2,_⟩:=hf p.1 hb;obtain⟨o,e',d⟩:=ho p.1 hb;rw[e]at e';cases e';exact⟨e,f0,f1,f2,d⟩
def Inv.GM{pl:V3}(I:Inv X (ca++pl) σ H s):Inv X ca σ H s:=I.IQ λp hp=>I.pin p (JV _ (K4 _ hp))
abbrev R2:=V->V->Hp->VK->Prop
def qv(X:Cx)(f:JD->JD->Sem JD)(r:R2):Prop:=
 ∀(ca:V3)(s:JB)(σ:St)(H:Hp)(x y:V)(v u:JD)(Q:VK),Inv X ca σ H s->RelV x v->RelV y u->r x y H Q →
  ZJ (ZK X.prog X.w) X.A (f v u) (EP X ca σ Q) X.xe s
def UnR(X:Cx)(f:JD->Sem JD)(r:V->Hp->VK->Prop):Prop:=
 ∀(ca:V3)(s:JB)(σ:St)(H:Hp)(x:V)(v:JD)(Q:VK),Inv X ca σ H s->RelV x v->r x H Q →
  ZJ (ZK X.prog X.w) X.A (f v) (EP X ca σ Q) X.xe s
def CallR(X:Cx)(f:JD)(r:List V->Hp->VK->Prop):Prop:=
 ∀(ca:V3)(s:JB)(σ:St)(H:Hp)(xs:List V)(us:List JD)(Q:VK),Inv X ca σ H s->Vals xs us->r xs H Q →
  ZJ (ZK X.prog X.w) X.A (call f us) (EP X ca σ Q) X.xe s
def tUn(r:V->Hp->VK->Prop)(ta:TE):TE:=λσ H Q=>ta σ H λx H1=>r x H1 Q
def rI(C:Int->Int->Prop)(g:Int->Int->V):R2:=λx y H Q=>∃i j,x=.int i/\y=.int j/\C i j/\Q (g i j) H
def Dn(g:Int->Int->V):R2:=λx y H Q=>∃i j,x=.int i/\y=.int j/\Q (g i j) H
def rU(g:Int->V):V->Hp->VK->Prop:=λx H Q=>∃i,x=.int i/\Q (g i) H
variable{f:JD->JD->Sem JD}
section
variable {a b c:ZG}{tb tc:TE}{pos:Pos}
def GW{op:UnaryOp}{r:V->Hp->VK->Prop}(ho:UnR X (unaryOp op) r)(ha:PE X a ta):PE X (.UnaryOp op a pos) (tUn r ta):=by
 intro ca s σ H Q I h;exact UnaryOp_ (bN (ha ca s σ H _ I h) λv s1 ⟨x,H1,I1,r1,q1⟩=>ho ca s1 σ H1 x v Q I1 r1 q1)
def opI{C:Int->Int->Prop}
  (rule:∀(i j:Int)(t u:Tok)(s:JB)(Q:V2)(E:V2),C i j->Q (.int (g i j) s.toks) {s with toks:=s.toks+1}->ZJ (ZK X.prog X.w) X.A (f (.int i t) (.int j u)) Q E s):
  qv X f (rI C λi j=>.int (g i j)):=by
 intro ca s σ H x y v u Q I rx ry h;obtain⟨i,j,rfl,rfl,hc,q⟩:=h;obtain⟨t,rfl⟩:=rx;obtain⟨t',rfl⟩:=ry;exact rule i j t t' s _ _ hc ⟨.int (g i j),H,I.tok _,⟨_,rfl⟩,q⟩
def G5 
  (rule:∀(i j:Int)(t u:Tok)(s:JB)(Q:V2)(E:V2),Q (.int (g i j) s.toks) {s with toks:=s.toks+1}->ZJ (ZK X.prog X.w) X.A (f (.int i t) (.int j u)) Q E s):
  qv X f (Dn λi j=>.int (g i j)):=by
 intro ca s σ H x y v u Q I rx ry h;obtain⟨i,j,rfl,rfl,q⟩:=h;obtain⟨t,rfl⟩:=rx;obtain⟨t',rfl⟩:=ry;exact rule i j t t' s _ _ ⟨.int (g i j),H,I.tok _,⟨_,rfl⟩,q⟩
def G6{g:Int->Int->Bool}
  (rule:∀(i j:Int)(t u:Tok)(s:JB)(Q:V2)(E:V2),Q (.bool (g i j)) s->ZJ (ZK X.prog X.w) X.A (f (.int i t) (.int j u)) Q E s):
  qv X f (Dn λi j=>.bl (g i j)):=by
 intro ca s σ H x y v u Q I rx ry h;obtain⟨i,j,rfl,rfl,q⟩:=h;obtain⟨t,rfl⟩:=rx;obtain⟨t',rfl⟩:=ry;exact rule i j t t' s _ _ ⟨.bl (g i j),H,I,rfl,q⟩
def CDiv(i j:Int):Prop:=0<j/\j<1073741824
def CMul(i j:Int):Prop:=(-(2 ^ 64)<i/\i<2 ^ 64)\/(-(2 ^ 64)<j/\j<2 ^ 64)
def CMul.ok{i j:Int}(h:CMul i j):IntMulOk i j:=by
 rcases h with⟨h1,h2⟩|⟨h1,h2⟩
 ·exact .of_left (intBits_le_64 h1 h2)
 ·exact .of_right (intBits_le_64 h1 h2)
def El:qv X (Lz .Add) (Dn λi j=>.int (i+j)):=G5 λ_ _ _ _ _ _ _ q=>add_int q
def Ee:qv X (Lz .Sub) (Dn λi j=>.int (i - j)):=G5 λ_ _ _ _ _ _ _ q=>sub_int q
def Eh:qv X (Lz .Mult) (rI CMul λi j=>.int (i*j)):=opI λ_ _ _ _ _ _ _ hc q=>mul_int q hc.ok
def Bh:qv X (Lz .FloorDiv) (rI CDiv λi j=>.int (i / j)):=opI λi j _ _ _ _ _ hc q=>by
 have h1:(0:Int)<j:=hc.1
 have h2:j<1073741824:=hc.2;exact floordiv_int (by omega) (by rw[Int.fdiv_eq_ediv_of_nonneg i (by omega)];exact q) (.inl (PyProof.noPylong_small (by omega)))
def Ei:qv X (Lz .Mod) (rI (λ_ j=>0<j) λi j=>.int (i % j)):=opI λi j _ _ _ _ _ hc q=>by
 have h1:(0:Int)<j:=hc;exact mod_int' (by omega) (by rw[Int.fmod_eq_emod_of_nonneg i (by omega)];exact q)
def unI{f:JD->Sem JD}{g:Int->Int}
  (rule:∀(i:Int)(t:Tok)(s:JB)(Q:V2)(E:V2),Q (.int (g i) s.toks) {s with toks:=s.toks+1}->ZJ (ZK X.prog X.w) X.A (f (.int i t)) Q E s):
  UnR X f (rU λi=>.int (g i)):=by
 intro ca s σ H x v Q I rx h;obtain⟨i,rfl,q⟩:=h;obtain⟨t,rfl⟩:=rx;exact rule i t s _ _ ⟨.int (g i),H,I.tok _,⟨_,rfl⟩,q⟩
def C0:UnR X (unaryOp .USub) (rU λi=>.int (-i)):=unI λ_ _ _ _ _ q=>neg_int q
end
section
variable {a b c:ZG}{tb tc:TE}{pos:Pos}
def ze{Q:VK}{k k':Bool}(I:Inv X ca σ H s)(q:Q (.bl k) H)(e:k=k'):EP X ca σ Q (.bool k') s:=by
 subst e;exact⟨.bl k,H,I,rfl,q⟩
def G3:qv X (KU .Lt) (Dn λi j=>.bl (decide (i<j))):=G6 λ_ _ _ _ _ _ _ q=>lt_int q
def G4:qv X (KU .LtE) (Dn λi j=>.bl (decide (i<=j))):=G6 λ_ _ _ _ _ _ _ q=>le_int q
def Ej:qv X (KU .Is) (λx y H Q=>y=.non/\Q (.bl (decide (x=.non))) H):=by
 intro ca s σ H x y v u Q I rx ry h;obtain⟨rfl,q⟩:=h;cases ry;refine is_none_gen (ze I q ?_)
 cases x <;> first
  | (cases rx;rfl)
  | (obtain⟨t,rfl⟩:=rx;rfl)
def Bg:qv X (KU .IsNot) (λx y H Q=>y=.non/\Q (.bl (!decide (x=.non))) H):=by
 intro ca s σ H x y v u Q I rx ry h;obtain⟨rfl,q⟩:=h;cases ry;refine isnot_none_gen (ze I q ?_)
 cases x <;> first
  | (cases rx;rfl)
  | (obtain⟨t,rfl⟩:=rx;rfl)
def mf:(ZI:Nat)<2 ^ 63:=by rw[KW];decide
def sW:qv X (Lz .Add) (λx y H Q=>∃i j,x=.str i/\y=.str j/\i.length+j.length<=ZI/\Q (.str (i++j)) H):=by
 intro ca s σ H x y v u Q I rx ry h;obtain⟨i,j,rfl,rfl,hz,q⟩:=h;obtain⟨t,rfl⟩:=rx;obtain⟨t',rfl⟩:=ry;exact add_str (λt' tk=>⟨.str (i++j),H,I.tok _,⟨_,rfl⟩,q⟩) hz
def lP{x:V}(r:Vals [x] us):∃u,us=[u]/\RelV x u:=by
 cases r with
 |cons r1 r2=>cases r2;exact⟨_,rfl,r1⟩
def FW{x y:V}(r:Vals [x,y] us):∃u w',us=[u,w']/\RelV x u/\RelV y w':=by
 cases r with
 |cons r1 r2=>
  cases r2 with
  |cons r3 r4=>cases r4;exact⟨_,_,rfl,r1,r3⟩
def wG:CallR X (.type "int") (λxs H Q=>(∃i,xs=[.int i]/\Q (.int i) H)\/∃k,xs=[.bl k]/\Q (.int (if k then 1 else 0)) H):=by
 intro ca s σ H xs us Q I r h;rcases h with⟨i,rfl,q⟩|⟨k,rfl,q⟩
 ·obtain⟨u,rfl,t,rfl⟩:=lP r
  exact call_int_int ⟨.int i,H,I,⟨_,rfl⟩,q⟩
 ·obtain⟨u,rfl,r1⟩:=lP r
  cases r1;exact call_int_bool ⟨.int (if k then 1 else 0),H,I.tok _,⟨_,rfl⟩,q⟩
end
structure ObjM (h:ZH)(x dx C:ZE)(mA:V0):Prop where
 obj:h.get? x=ZA (Pm C dx)
 ns:h.Ns1 dx mA
 ne:dx≠x
variable{dx:ZE}{mA:V0}
def v5(n:h.Ns1 dx mA):∃od,h.get? dx=ZA od/\∀name,P8 name od=ZA (mA name):=by
 obtain⟨o,es,ep,ho,hd,hk,_,hm⟩:=n;refine⟨o,ho,λname=>?_⟩
 have e:=hm name;unfold nsFind findBy at e;rw[<-Qy]at e
 unfold P8;rw[hd]
 dsimp only
 split
 ·rename_i y q
  rw[q]at e;exact congrArg ZA e
 ·rename_i q
  rw[q]at e
  have a:es.toList.any (·.refKey)=ZD:=by
   rw[List.any_eq_false];intro y hy;obtain⟨z,t,hkey⟩:=hk y (Array.mem_toList_iff.mp hy);simp[DictEntry.refKey,hkey]
  have a':¬ es.toList.any (·.refKey)=ZC:=by rw[a];exact J7
  rw[if_neg a'];exact congrArg ZA e
variable{C:ZE}
def ObjM.look{x:ZE}(I:ObjM h x dx C mA):∃od,PySem.W.InstAt h x (Pm C dx) C (ZA od)/\∀name,P8 name od=ZA (mA name):=
 let ⟨od,ho,hl⟩:=v5 I.ns
 ⟨od,⟨I.obj,rfl,rfl,ho⟩,hl⟩
variable{f:ZE}{name:Str}{v:JD}
section
variable {x:ZE}
def iW{expr:Bool}(X:K.In s.heap)(I:ObjM s.heap x dx C mA)(hg:O7 K C name=ZC)(hh:Rg K C=ZC)
  (ha:P9 K (.ref C) name=ZA ZB) (hv:mA name=ZA v) (hv':PySem.W.handedIn v=ZC) (h:Q v {s with toks:=s.toks+1}):
  ZJ (ZK prog w) A (getAttr (.ref x) name expr) Q E s:=by
 obtain⟨od,J,hl⟩:=I.look;exact PySem.W.get_value X J (PySem.W.plainGet_of hg).1 (PySem.W.findObj_own hh ha rfl (by rw[hl,hv])) hv' h
end
def RelO.some_of{v:V}{o:Option JD}(r:RelO (ZA v) o):∃u,o=ZA u/\RelV v u:=by
 cases o with
 |none=>exact(show False from r).elim
 |some u=>exact⟨u,rfl,r⟩
section
variable {fs fs':List (Str×V)}
def BD(hok:HOk P w H h)(e:H a=ZA (.ins C dx fs)):∃mA,ObjM h a dx C mA/\(∀f,RelO (fs.lookup f) (mA f))/\PySem.Within mA (fs.map (·.1))/\fs.length<=1000/\H dx=ZA (.own a):=by
 obtain⟨d,z,ne,ob,mA,n,r,q⟩:=(show ObjOk P w H h a (.ins C dx fs)from hok a _ e)
 exact⟨mA,⟨ob,n,ne⟩,r,q,z,d⟩
end
structure Cls (K:Jz)(C:ZE):Prop where
 pg:O7 K C Str.empty=ZC
 hd:Rg K C=ZC
 po:PySem.W.plainOver K C=ZC
 sa:P9 K (.ref C) "__setattr__" =ZA (ZA (.builtin "object.__setattr__"))
def Cls.get(c:Cls K C)(f:Str):O7 K C f=ZC:=c.pg
section
variable {c:JD}{b:Bool}
inductive kK (K:Jz) (H:Hp):V->JD->Prop where
 |non:kK K H .non (.type "NoneType")
 |bl (x:Bool):kK K H (.bl x) (.type "bool")
 |int (i:Int):kK K H (.int i) (.type "int")
 |str (x:Str):kK K H (.str x) (.type "str")
 |flt (x:UInt64):kK K H (.flt x) (.type "float")
 |lst {a:ZE} {xs:List V} (e:H a=ZA (.lst xs)):kK K H (.ref a) (.type "list")
 |frz {a:ZE} {o:Obj} {xs:List V} (e:H a=ZA (.frz o (.lst xs))):kK K H (.ref a) (.type "list")
 |tup {a:ZE} {xs:List V} (e:H a=ZA (.tup xs)):kK K H (.ref a) (.type "tuple")
 |dK {a:ZE} {kvs:List (Key×V)} (e:H a=ZA (.dK kvs)):kK K H (.ref a) (.type "dict")
 |dT {a:ZE} {kvs:List (List Key×V)} (e:H a=ZA (.dT kvs)):kK K H (.ref a) (.type "dict")
 |ins {a C dx:ZE} {fs:List (Str×V)} (e:H a=ZA (.ins C dx fs)) (cl:Cls K C) (ha:P9 K (.ref C) "__class__" =ZA (ZA (.builtin "object.__class__")))
   (hn:PySem.W.specialIn K (.builtin "object.__class__") "__get__" =ZA (ZA (.builtin "getset_descriptor.__get__"))) (htk:PySem.W.takesIn K (.builtin "object.__class__")=ZA ZC)
   (hm:PySem.W.mroIn K C (.type "object")=ZA ZC):kK K H (.ref a) (.ref C)
def wg{x:V}{u t:JD}(I:Inv X ca σ H s)(rx:RelV x u)(ty:kK X.K H x t)(e:PySem.W.kitOne X.K t c=ZA b)(h:∀tk,Q (.bool b) {s with toks:=tk}):
  ZJ (ZK X.prog X.w) A (call (.builtin "isinstance") [u,c]) Q E s:=by
 cases ty with
 |non=>cases (show u=Kg from rx);exact K9 PySem.W.kitx_none I.kIn Mq e (λz=>nomatch z) h
 |bl y=>cases (show u=K8 y from rx);exact K9 PySem.W.kitx_bool I.kIn Mq e (λz=>nomatch z) h
 |int i=>obtain⟨t,q⟩:=(show ∃t,u=Lv i t from rx);cases q;exact K9 PySem.W.kitx_int I.kIn Mq e (λz=>nomatch z) h
 |str y=>obtain⟨t,q⟩:=(show ∃t,u=Lb y t from rx);cases q;exact K9 PySem.W.kitx_str I.kIn Mq e (λz=>nomatch z) h
 |flt y=>obtain⟨t,q⟩:=(show ∃t,u=Value.float y t from rx);cases q;exact K9 PySem.W.kitx_float I.kIn Mq e (λz=>nomatch z) h
 |@lst a xs ea=>
  cases (show u=Kf a from rx)
  obtain⟨_,_,n,_,h1⟩:=(show ObjOk X.prog X.w H s.heap a (.lst xs)from I.hok a _ ea)
  exact K9 Rh I.kIn ⟨_,h1,rfl⟩ e (λz=>nomatch z) h
 |@frz a ob xs ea=>
  cases (show u=Kf a from rx)
  obtain⟨_,_,_,n,_,h1⟩:=(show ObjOk X.prog X.w H s.heap a (.frz ob (.lst xs))from I.hok a _ ea)
  exact K9 Rh I.kIn ⟨_,h1,rfl⟩ e (λz=>nomatch z) h
 |@tup a xs ea=>
  cases (show u=Kf a from rx)
  obtain⟨_,_,_,p⟩:=(show ObjOk X.prog X.w H s.heap a (.tup xs)from I.hok a _ ea)
  obtain⟨o,h1,h2,_⟩:=p
  exact K9 PySem.W.kitx_tuple I.kIn ⟨o,h1,h2⟩ e (λz=>nomatch z) h
 |@dK a kvs ea=>
  cases (show u=Kf a from rx)
  obtain⟨_,_,vs,_,p⟩:=(show ObjOk X.prog X.w H s.heap a (.dK kvs)from I.hok a _ ea)
  obtain⟨o,es,ep,h1,h2,_⟩:=p
  exact K9 Ri I.kIn ⟨o,h1,h2.1⟩ e (λz=>nomatch z) h
 |@dT a kvs ea=>
  cases (show u=Kf a from rx)
  obtain⟨_,_,xs,_,o,es,ep,h1,h2,_⟩:=(show ObjOk X.prog X.w H s.heap a (.dT kvs)from I.hok a _ ea)
  exact K9 Ri I.kIn ⟨o,h1,h2.1⟩ e (λz=>nomatch z) h
 |@ins a C dx fs ea cl ha hn htk hm=>
  cases (show u=Kf a from rx)
  obtain⟨mA,O,_⟩:=BD I.hok ea;obtain⟨od,J,_⟩:=O.look;exact K9 (PySem.W.kitx_own (cl.get _) cl.hd ha hn htk hm) I.kIn J e (λz=>nomatch z) h
end
structure Room (k:Nat)(A:Kc):Prop where
 hd:A.handled=ZB
 dp:A.depth+3*k+5<Qd
 un:A.units+16*k+200<cLine
def Room.mono(r:Room k A)(h:j<=k):Room j A:=⟨r.hd,by have:=r.dp;omega,by have:=r.un;omega⟩
def Room.deeper(r:Room (k+1) A)(env:Env):Room k (A.deeper env):=
 ⟨r.hd,by have:=r.dp;show A.depth+1+3*k+5<_;omega,by have:=r.un;show A.units+3+16*k+200<_;omega⟩
def Room.depth(r:Room k A):A.depth<Qd:=by have:=r.dp;omega
def F9:TA:=λ_ H Q=>Q [] H
def ui(ta:TE)(tr:TA):TA:=λσ H Q=>ta σ H λx H1=>tr σ H1 λxs H2=>Q (x::xs) H2
section
variable {t:TA}{pos:Pos}
def lY:PA X [] F9:=λ_ _ _ _ H Q I h=>Li ⟨[],H,I,.nil,h⟩
def iM(ha:PE X e te)(hr:PA X es t)(hs:autoParam (JZ (e::es) X.env=(ZD,eval e X.env)::JZ es X.env) u_):PA X (e::es) (ui te t):=by
 intro pos ca s σ H Q I h;rw[hs]
 show ZJ _ _ (spliced ((ZD,eval e X.env)::backTo pos (JZ es X.env))) _ _ s
 refine K7 (bN (ha ca s σ H _ I h) λu s1 hh_=>?_)
 obtain⟨x,H1,I1,r1,q1⟩:=hh_;exact bN (hr pos ca s1 σ H1 _ I1 q1) λus s2 ⟨xs,H2,I2,r2,q2⟩=>⟨x::xs,H2,I2,.cons r1 r2,q2⟩
def tTup(t:TA):TE:=λσ H Q=>t σ H λxs H1=>xs.length<=ZI/\∀p,H1 p=ZB->Q (.ref p) (upd H1 p (.tup xs))
def tLst(t:TA):TE:=λσ H Q=>t σ H λxs H1=>xs.length<=ZI/\∀p,H1 p=ZB->Q (.ref p) (upd H1 p (.lst xs))
def D2{x1}(h:PA X es t):PE X (.Tuple es x1 pos) (tTup t):=by
 intro ca s σ H Q I hq;refine wpAny_Tuple_spliced (bN (h pos ca s σ H _ I hq) λus s1 ⟨xs,H1,I1,r,z,q⟩=>⟨by rw[<-r.length];exact z,?_⟩)
 have hf:H1 s1.heap.objs.size=ZB:=I1.hok.fresh (JO _);refine⟨.ref s1.heap.objs.size,upd H1 s1.heap.objs.size (.tup xs),I1.laid (t':=s1.toks) (λb u e=>JA _ e) (JO _) ?_,rfl,q _ hf⟩
 exact⟨z,us,r,⟨_,JP _ rfl,rfl,_,rfl⟩⟩
def D9(h:PA X es t):PE X (.List es pos) (tLst t):=by
 intro ca s σ H Q I hq;refine QZ (bN (h pos ca s σ H _ I hq) λus s1 ⟨xs,H1,I1,r,z,q⟩=>⟨by rw[<-r.length];exact z,?_⟩)
 have hf:H1 s1.heap.objs.size=ZB:=I1.hok.fresh (JO _);refine⟨.ref s1.heap.objs.size,upd H1 s1.heap.objs.size (.lst xs),I1.laid (t':=s1.toks) (λb u e=>JA _ e) (JO _) ?_,rfl,q _ hf⟩
 exact⟨z,us,0,r,JP _ rfl⟩
end
abbrev Sp:=List V->Hp->VK->XK->Prop
abbrev wM:=List Env->Hp->JB->XK->V2
structure tU (P:J1)(w:Ks)(K:Jz)(mg:V0)(base:ZH)(A:Kc)(outer:List Env)(s:JB)(H:Hp):Prop where
 frames:A.frames=ZA outer
 mod:Mod K mg base
 bs:∀b o,base.get? b=ZA o->s.heap.get? b=ZA o/\H b=ZB
 bsz:base.objs.size<=s.heap.objs.size
 funs:s.heap.FunFrames base outer
 frf:∀b∈kj outer,H b=ZB
 hok:HOk P w H s.heap
 bare:PH s.gens
def CE(outer:List Env)(P:J1)(w:Ks)(H:Hp)(s:JB)(Q:VK)(u:JD)(s':JB):Prop:=
 ∃v H',s'.os=s.os/\PH s'.gens/\Un (kj outer) [] H H' s.heap s'.heap/\HOk P w H' s'.heap/\RelV v u/\Q v H'
def CR(CX:wM)(outer:List Env)(P:J1)(w:Ks)(H:Hp)(s:JB)(Q:VK)(E:XK)(r:Nu)(s':JB):Prop:=
 match r with
 |.ok (.ret u)=>CE outer P w H s Q u s'
 |.ok _=>False
 |.error e=>CX outer H s E e s'
structure wL (P:J1)(w:Ks)(K:Jz)(mg:V0)(base:ZH)(CX:wM)(k:Nat)(f:ZE)(fd:KO)(ps:List Str)(sp:Sp):Prop where
 len:∀vs H Q E,sp vs H Q E->vs.length=ps.length
 run:∀(A:Kc)(outer:List Env)(s:JB)(H:Hp)(args:Args)(us:List JD)(vs:List V)(Q:VK)(E:XK),Room k A->tU P w K mg base A outer s H->PK s fd args (ps.zip us)->Vals vs us->sp vs H Q E →
  codeAny (ZK P w) A (.call (.ref f) args) (CR CX outer P w H s Q E) s
variable{Q:VK}
def Inv.IW(I:Inv X ca σ H s):tU X.prog X.w X.K X.mg X.base X.A X.stack s H:=
 ⟨I.ok.frames,I.ok.mod,I.bs,J5 I.ok.bsz I.sz,I.stack,I.Ip,I.hok,I.bare⟩
def Inv.after{u:JD}(I:Inv X ca σ H s)(h:CE X.stack X.prog X.w H s Q u s'):EP X ca σ Q u s':=by
 obtain⟨v,H',os,bare,un,hok,r,q⟩:=h;obtain⟨hh,g,d,t,os'⟩:=s';obtain rfl:os'=s.os:=os;exact⟨v,H',I.call (h':=hh) (g':=g) (d':=d) (t':=t) (ch:=[]) un hok bare (λb z=>absurd z (by simp)),r,q⟩
def Gi(sp:Sp)(dvs:List V)(E:XK)(t:TA):TE:=λσ H Q=>t σ H λvs H1=>sp (vs++dvs) H1 Q E
def Binds(K:Jz)(fd:KO)(ps:List Str)(ds:List JD):Prop:=
 ∀(s:JB)(us:List JD),K.In s.heap->(us++ds).length=ps.length->PK s fd ⟨us,[]⟩ (ps.zip (us++ds))
variable{ps:List Str}
def Binds.all(h:∀us:List JD,us.length=ps.length->Q0 fd ⟨us,[]⟩=pure (ps.zip us)):Binds K fd ps []:=λs us _ hl=>by
 rw[Kr]at hl ⊢;exact .of_eq (h us hl)
def qr(CX:wM)(X:Cx)(E:XK):Prop:=∀(ca:V3)(σ:St)(H:Hp)(s:JB)(e:JD)(s':JB),Inv X ca σ H s->CX X.stack H s E e s'->X.xe e s'
variable{CX:wM}{E:XK}{sp:Sp}{vs:List V}
section
variable {dvs:List V}{m:Str}{p pos apos:Pos}{o:ZG}{t:TA}
def Di(F:wL X.prog X.w X.K X.mg X.base CX k f fd ps sp)(hr:Room k X.A)(hb:Binds X.K fd ps ds)(hd:Vals dvs ds)(hx:qr CX X E)
  (I:Inv X ca σ H s) (r:Vals vs us) (h:sp (vs++dvs) H Q E):ZJ (ZK X.prog X.w) X.A (call (.ref f) us) (EP X ca σ Q) X.xe s:=by
 have r2:Vals (vs++dvs) (us++ds):=r.append hd
 have hl:(us++ds).length=ps.length:=by rw[<-r2.length];exact F.len _ _ _ _ h
 refine wpAny_call (codeAny_mono (F.run X.A X.stack s H ⟨us,[]⟩ (us++ds) (vs++dvs) Q E hr I.IW (hb s us I.kIn hl) r2 h) λr s' hq=>?_)
 cases r with
 |error e=>exact hx ca σ H s e s' I hq
 |ok fl=>
  cases fl with
  |ret u=>exact I.after hq
  |next=>exact Lr hq
  |brk=>exact Lr hq
  |cont=>exact Lr hq
def uz(F:wL X.prog X.w X.K X.mg X.base CX k f fd ps sp)(hr:Room k X.A)(hg:Gl X x)(hm:X.mg x=ZA (.ref f))(hk:Mp X.K (.ref f)=ZC)(hb:Binds X.K fd ps ds)(hd:Vals dvs ds)(hx:qr CX X E)
  (ha:PA X (e::es) t) (hdb:autoParam ((x == ("__debug__" : Str))=ZD) s_) (he:autoParam (JZ (e::es) X.env=(ZD,eval e X.env)::JZ es X.env) u_) (hpl:autoParam ((backTo pos (JZ es X.env)).any (·.1)=ZD) u_):
  PE X (.Call (.Name x p) (e::es) [] pos) (Gi sp dvs E t):=by
 intro ca s σ H Q I h;refine Lm (iQ I hg hm ?_ hdb)
 refine Qu (h₀:=X.base) I.ok.mod.kin hk (bN (ha pos ca s σ H _ I h) λus s1 ⟨vs,H1,I1,r,q⟩=>⟨I1.kIn,?_⟩) he hpl
 exact Di F hr hb hd hx I1 r q
end
structure cG (N P:List Str)(sc:MJ):Prop where
 kind:sc.kind=.function
 co:sc.isCoroutine=ZD
 gen:sc.isGenerator=ZD
 nd:N.Nodup
 pre:N.take P.length=P
 par:∀x∈P,sc.names.lookup x=ZA .local\/sc.names.lookup x=ZA .cell
 nofree:∀y∈sc.names,y.2≠ .free
variable{kindOf:Str->Option Mv}
theorem ou:∀{binds:List (Str×JD)}{m:V0},(∀v,(x,v)∉binds)->bindL kindOf binds m x=m x
 |[],_,_=>rfl
 | (n,v)::r,m,h=>by
  unfold bindL;rw[ou λw hw=>h w (JF _ hw)]
  split
  ·have:x≠n:=by rintro rfl;exact h v JI
   simp[this]
  ·rfl
theorem oy:∀{binds:List (Str×JD)}{m:V0},(∀v,(x,v)∉binds)->bindC kindOf binds m x=m x
 |[],_,_=>rfl
 | (n,v)::r,m,h=>by
  unfold bindC;rw[oy λw hw=>h w (JF _ hw)]
  split
  ·rfl
  ·have:x≠n:=by rintro rfl;exact h v JI
   simp[this]
theorem ox:∀{P:List Str}{vs:List JD}{i:Nat}{m:V0},P.Nodup->P[i]?=ZA x->vs[i]?=ZA v->kindOf x=ZA .local →
  bindL kindOf (P.zip vs) m x=ZA v
 |[],_,_,_,_,h,_,_=>by simp at h
 |_::_,[],_,_,_,_,h,_=>by simp at h
 |p::P,w::vs,0,m,nd,h1,h2,hk=>by
  simp at h1 h2;subst h1;subst h2
  show bindL kindOf ((p,w)::P.zip vs) m p=_
  unfold bindL;rw[ou λv hv=>(KA.mp nd).1 (My hv).1,if_pos hk]
  simp
 |p::P,w::vs,i+1,m,nd,h1,h2,hk=>by
  show bindL kindOf ((p,w)::P.zip vs) m x=_
  unfold bindL;exact ox (i:=i) (KA.mp nd).2 (by simpa using h1) (by simpa using h2) hk
theorem oA:∀{P:List Str}{vs:List JD}{i:Nat}{m:V0},P.Nodup->P[i]?=ZA x->vs[i]?=ZA v->kindOf x≠ZA .local →
  bindC kindOf (P.zip vs) m x=ZA v
 |[],_,_,_,_,h,_,_=>by simp at h
 |_::_,[],_,_,_,_,h,_=>by simp at h
 |p::P,w::vs,0,m,nd,h1,h2,hk=>by
  simp at h1 h2;subst h1;subst h2
  show bindC kindOf ((p,w)::P.zip vs) m p=_
  unfold bindC;rw[oy λv hv=>(KA.mp nd).1 (My hv).1,if_neg hk]
  simp
 |p::P,w::vs,i+1,m,nd,h1,h2,hk=>by
  show bindC kindOf ((p,w)::P.zip vs) m x=_
  unfold bindC;exact oA (i:=i) (KA.mp nd).2 (by simpa using h1) (by simpa using h2) hk
def start(N:List Str)(vs:List V):St:=vs.map ZA++J9 (N.length - vs.length) ZB
def fG(CX:wM)(P:J1)(w:Ks)(K:Jz)(mg:V0)(base:ZH)(N:List Str)(qual:Str)(scope:MJ)(f:ZE)(cd:JD)(A:Kc)(outer:List Env)(s:JB)(H:Hp)(E:XK):Cx where
 prog:=P
 w:=w
 K:=K
 mg:=mg
 base:=base
 A:=A.deeper (envOfC qual scope s.heap.objs.size f cd)
 N:=N
 s₀:=s
 H₀:=H
 env:=envOfC qual scope s.heap.objs.size f cd
 outer:=outer
 stack:=envOfC qual scope s.heap.objs.size f cd::outer
 ex:=[]
 calm:=ZC
 fn:=λ_=>ZC
 pn:=[]
 xe:=λe s'=>ZJ (ZK P w) (A.deeper (envOfC qual scope s.heap.objs.size f cd)) (leaving (envOfC qual scope s.heap.objs.size f cd) e) (λ_ s''=>CX outer H s E e s'') (λe' s''=>CX outer H s E e' s'') s'
def r8(h:sc.names.lookup x=ZA .cell):∃c,(LJ n sc.names []).lookup x=ZA c:=by
 have q:=LK sc.names n [] (.inl h);exact M4.mp q
variable{mg:V0}{qual:Str}
def iV{base:ZH}{cd:JD}{outer:List Env}
  (S:cG N ps scope) (hd:A.handled=ZB) (e0:tU P w K mg base A outer s H) (hl:vs.length=ps.length) (r:Vals vs us)
  (x:InCallC s s.heap.objs.size (bindL (envOfC qual scope s.heap.objs.size f cd).kindOf (ps.zip us) λ_=>ZB) (LJ (s.heap.objs.size+1) scope.names []) (bindC (envOfC qual scope s.heap.objs.size f cd).kindOf (ps.zip us) λ_=>ZB) s1):
  Inv (fG CX P w K mg base N qual scope f cd A outer s H E) [] (start N vs) H s1:=by
 have hpl:ps.length<=N.length:=by have:=congrArg Lh S.pre;rw[LQ]at this;omega
 obtain⟨h1,tk,rfl,hk⟩:=x.done
 have noA:∀b:ZE,b∉(fG CX P w K mg base N qual scope f cd A outer s H E).ex:=λb z=>absurd (show b∈([]:List ZE)from z) (by simp)
 refine⟨⟨e0.mod,S.kind,rfl,rfl,JO _,λy z c h1 h2=>?_,λy hy=>?_,λy c _ h=>?_,λ_=>hd,Around.frames_deeper e0.frames,.inr ⟨rfl,rfl⟩,λb z=>absurd z (noA b),e0.bs,e0.bsz,λb _ _=>noA b,λb z=>absurd z (noA b),e0.funs,e0.frf⟩,
  rfl,e0.bare,Un.kept hk,⟨_,x.toInCall.ns,λi y v h1 h2 h3=>?_⟩,λy c h=>⟨_,x.cell y c h⟩,e0.hok.fresh (JO _),λy c h=>?_,λp hp=>absurd (show p∈([]:V3)from hp) (by simp),e0.hok.kept hk,?_⟩
 ·exact name_of_addr x.apart (LD h1) (LD h2)
 ·have hy:scope.names.lookup y=ZA .cell\/scope.names.lookup y=ZA .free:=hy
  rcases hy with hy|hy
  ·exact r8 hy
  ·exact absurd rfl (S.nofree _ (LD hy))
 ·exact Mf (x.above y c (LD h))
 ·have hi:i<vs.length:=by
   unfold start at h2
   by_cases hi:i<vs.length
   ·exact hi
   ·rw[Kz (by simpa using hi)]at h2
    rw[Nf]at h2
    split at h2 <;> cases h2
  have ha:vs[i]?=ZA v:=by
   unfold start at h2;rw[Lc (by simpa using hi),Ko]at h2
   cases e:vs[i]? with
   |none=>rw[e]at h2;cases h2
   |some a=>rw[e]at h2;cases h2;rfl
  obtain⟨u,hu,rv⟩:=r.get ha
  have hp:ps[i]?=ZA y:=by
   rw[<-S.pre,List.getElem?_take_of_lt (by omega)];exact h1
  have ndP:ps.Nodup:=by rw[<-S.pre];exact S.nd.sublist (List.take_sublist _ _)
  refine⟨u,rv,?_⟩
  rcases S.par y (K5 hp)with k|k
  ·exact .inl ⟨k,ox ndP hp hu k⟩
  ·obtain⟨c,e⟩:=r8 (n:=s.heap.objs.size+1) k
   refine .inr ⟨.inl k,c,e,?_⟩
   have q:=x.cell y c e;rw[oA ndP hp hu (by show scope.names.lookup y≠_;rw[k];decide)]at q
   exact q
 ·exact e0.hok.fresh (Mf (x.above y c (LD h)))
 ·unfold start
  show _=N.length
  rw[JC,JE,List.length_replicate];omega
def uU{base:ZH}{dV kV pm ct:JD}{an od:Option ZE}
  {osl:Array (Option JD)}   (lk:K.lookup f=ZA ⟨oc,od,.func (Md name qual params body scope dV kV doc pm an cdv ct),osl⟩) (hcd:Om K cdv qual=ZC) (S:cG N ps scope)
  (len:∀vs H Q E,sp vs H Q E->vs.length=ps.length)
  (hbody:∀(A:Kc)(outer:List Env)(s:JB)(H:Hp)(vs:List V)(Q:VK)(E:XK),Room k (A.deeper (envOfC qual scope s.heap.objs.size f cdv))->sp vs H Q E →
   ∃t,PSs (fG CX P w K mg base N qual scope f cdv A outer s H E) body t/\t {nx:=λ_ H'=>Q .non H',rt:=Q} (start N vs) H):
  wL P w K mg base CX (k+1) f (Md name qual params body scope dV kV doc pm an cdv ct) ps sp:=by
 refine⟨len,λA outer s H args us vs Q E hr e0 hb r hsp=>?_⟩
 have hl:=len _ _ _ _ hsp
 have KX:K.In s.heap:=e0.mod.kin.keeps λb o e=>(e0.bs b o e).1
 have lim:s.heap.NoLimit:=e0.mod.nolimit.keeps λb o e=>(e0.bs b o e).1
 have hkind:∀y∈ps.zip us,scope.names.lookup y.1=ZA .local\/(scope.names.lookup y.1=ZA .cell/\((LJ (s.heap.objs.size+1) scope.names []).lookup y.1).isSome=ZC):=λ⟨n,v⟩ hy=>by
  rcases S.par n (My hy).1 with q|q
  ·exact .inl q
  ·exact .inr ⟨q,LK _ _ _ (.inl q)⟩
 refine PL hr.depth (KX _ _ lk) rfl S.co S.gen rfl (M9 KX hcd) (hb _ _ _ _ ?_)
 refine LP S.kind hkind λenv he s1 x=>?_
 subst he;refine⟨lim.keeps x.toInCall.keep,codeAny_func ?_⟩
 obtain⟨t,ht,hq⟩:=hbody A outer s H vs Q E (hr.deeper _) hsp
 have I:Inv (fG CX P w K mg base N qual scope f cdv A outer s H E) [] (start N vs) H s1:=iV S hr.hd e0 hl r x;refine Kw (ht [] s1 (start N vs) H _ I hq) (λfl s' hs=>?_) λe s' hs=>hs
 have fin:∀{σ':St}{H':Hp}{v:V}{u:JD},Inv (fG CX P w K mg base N qual scope f cdv A outer s H E) [] σ' H' s'->RelV v u->Q v H'->CE outer P w H s Q u s':=
  λ{σ' H' v u} J rv q=>⟨v,H',J.os,J.bare,J.base,J.hok,rv,q⟩
 cases fl with
 |ret u=>
  obtain⟨v,σ',H',J,rv,q⟩:=hs
  exact fin J rv q
 |next=>
  obtain⟨σ',H',J,q⟩:=hs
  exact fin (v:=V.non) (u:=Kg) J rfl q
 |brk=>
  obtain⟨_,_,_,q⟩:=hs
  exact Lr q
 |cont=>
  obtain⟨_,_,_,q⟩:=hs;exact Lr q
end L2
namespace HT
open PySem PyProof.Rows
def cat_tup{t b:ZE}{ws:List JD}(ht:SA s.heap t vs.toArray)(hb:SA s.heap b ws.toArray)(hv:vs≠ [])
  (h1:ws=[]->Q (.ref t) s) (h2:ws≠ []->Q (.ref s.heap.objs.size) {s with heap:=s.heap.push {cls:=.type "tuple",data:=.seq (vs++ws).toArray}})
  (hsz:vs.length+ws.length<=ZI):ZJ (ZK prog w) A (Lz .Add (.ref t) (.ref b)) Q E s:=by
 obtain⟨⟨cls,dd,data,sl⟩,ho,hc,n,hd⟩:=id ht;obtain⟨⟨cls2,dd2,data2,sl2⟩,ho2,hc2,n2,hd2⟩:=id hb;simp only at hc hd hc2 hd2;subst hc hd hc2 hd2
 have e:vs.toArray++ws.toArray=(vs++ws).toArray:=by simp
 by_cases hw:ws=[]
 ·exact RG ⟨_,ho,rfl⟩ ⟨_,ho2,rfl⟩ Pc Q3 Np Na (MY _ _)
   (tuple_addW1 t b vs.toArray ws.toArray n n2 dd dd2 sl sl2 (by simpa using hv) (by simp[hw])) ⟨ho,ho2,h1 hw⟩
 ·refine RG ⟨_,ho,rfl⟩ ⟨_,ho2,rfl⟩ Pc Q3 Np Na (MY _ _)
   (tuple_addW2 t b vs.toArray ws.toArray n n2 dd dd2 sl sl2 (by simpa using hv) (by simpa using hw) (by rw[J0,J0];exact hsz)) ⟨ho,ho2,?_⟩
  rw[e];exact h2 hw
def sIx(n d:Nat):Option Int->Nat
 |none=>d
 |some v=>if v<0 then(v+(n:Int)).toNat else min v.toNat n
def sIx_none(n d:Nat):sIx n d ZB=d:=rfl
def sIx_nat(n d k:Nat):sIx n d (ZA (k:Int))=min k n:=by
 show(if (k:Int)<0 then((k:Int)+(n:Int)).toNat else min (k:Int).toNat n)=min k n
 rw[if_neg (by omega),Kl]
def Dh(n d:Nat)(hd:d<=n)(o:Option Int):sIx n d o<=n:=by
 cases o with
 |none=>exact hd
 |some v=>
  show(if v<0 then(v+(n:Int)).toNat else min v.toNat n)<=n
  by_cases hv:v<0
  ·rw[if_pos hv];omega
  ·rw[if_neg hv];exact Nat.min_le_right _ _
def vc(v:Int)(n d:Nat):(if v<0 then max (v+(n:Int)) 0 else min v (n:Int))=((sIx n d (ZA v):Nat):Int):=by
 show(if v<0 then max (v+(n:Int)) 0 else min v (n:Int))=(((if v<0 then(v+(n:Int)).toNat else min v.toNat n):Nat):Int)
 by_cases hv:v<0
 ·simp only[if_pos hv];omega
 ·simp only[if_neg hv];omega
def tQ(lo hi:Option Int)(n:Nat):MP lo hi 1 (n:Int)=(((sIx n 0 lo:Nat):Int),((sIx n n hi:Nat):Int)):=by
 have h1:¬ ((1:Int)<0):=by omega
 unfold MP;simp only[h1,if_false];refine Prod.ext ?_ ?_
 ·cases lo with
  |none=>rfl
  |some v=>exact vc v n 0
 ·cases hi with
  |none=>rfl
  |some v=>exact vc v n n
def sV(i j:Nat):LY (i:Int) (j:Int) 1=j - i:=by
 unfold LY
 have h1:(1:Int) > 0:=by omega
 simp only[h1,if_true,Int.ediv_one]
 split <;> omega
def lW{o:Option Int}{Q:Option Int->JB->Prop}(p:Q4 v o)(h:Q o s):ZJ (ZK prog w) A (R7 v) Q E s:=by
 cases p with
 |none=>exact slicePart_none h
 |int i t=>exact slicePart_int h
def gi{sl:ZE}{Q:Int×Int×Nat->JB->Prop}(hs:s.heap.IsSliceOf sl vl vu .none)(pl:Q4 vl lo)(pu:Q4 vu hi)
  (h:Q (((sIx n 0 lo:Nat):Int),1,sIx n n hi - sIx n 0 lo) s):ZJ (ZK prog w) A (N6 (.ref sl) (pure (n:Int))) Q E s:=by
 obtain⟨os,hos,hcs,hds⟩:=id hs;unfold N6 Builtin.Slice.sliceFields;refine Jy (Jy (Kd hos hds (x:=vl) rfl (Jy (Kd hos hds (x:=vu) rfl (Jy (Kd hos hds (x:=.none) rfl (JK ?_)))))))
 refine Jy (slicePart_none ?_)
 show ZJ _ _ (if ((1:Int) == 0)=ZC then _ else _) _ _ s
 rw[if_neg (by decide)]
 refine Jy (lW pl (Jy (lW pu (Jy (JK ?_)))))
 show ZJ _ _ (match MP lo hi 1 (n:Int)with| (lo,hi)=>pure (lo,(1:Int),LY lo hi 1)) _ _ s
 rw[tQ lo hi n]
 show ZJ _ _ (pure (((sIx n 0 lo:Nat):Int),(1:Int),LY ((sIx n 0 lo:Nat):Int) ((sIx n n hi:Nat):Int) 1)) _ _ s
 rw[sV];exact JK h
def xX(xs:Array JD)(i k:Nat):((KS k).filterMap λ(m:Nat)=>xs[((i:Int)+(m:Int)*1).toNat]?).toArray=((xs.toList.drop i).take k).toArray:=by
 have e:(λ(m:Nat)=>xs[((i:Int)+(m:Int)*1).toNat]?)=λm=>xs[i+m]?:=by
  funext m
  have:((i:Int)+(m:Int)*1).toNat=i+m:=by omega
  rw[this]
 rw[e]
 have:=pick_run xs i k;rw[List.filterMap_map]at this
 have e2:((λx=>xs[x]?)∘λx=>i+x)=λm=>xs[i+m]?:=rfl
 rw[e2]at this;rw[this]
def getItem_tuple_cut{t sl:ZE}{items:Array JD}(ht:SA s.heap t items)(hs:s.heap.IsSliceOf sl vl vu .none)(pl:Q4 vl lo)(pu:Q4 vu hi)
  (hw:¬ (sIx items.size 0 lo=0/\sIx items.size items.size hi=items.size))
  (h:Q (.ref s.heap.objs.size) {s with heap:=s.heap.push {cls:=.type "tuple",data:=.seq ((items.toList.drop (sIx items.size 0 lo)).take (sIx items.size items.size hi - sIx items.size 0 lo)).toArray}})
  (hsz:items.size<=ZI):ZJ (ZK prog w) A (getItem (.ref t) (.ref sl)) Q E s:=by
 have htake:sizeOk (.seq ((items.toList.drop (sIx items.size 0 lo)).take (sIx items.size items.size hi - sIx items.size 0 lo)).toArray):=by
  show((items.toList.drop (sIx items.size 0 lo)).take (sIx items.size items.size hi - sIx items.size 0 lo)).toArray.size<=ZI
  rw[J0,LQ,Lo,Mj];omega
 have hj:sIx items.size items.size hi<=items.size:=Dh _ _ (JO _) hi;obtain⟨os,hos,hcs,hds⟩:=id hs
 have hTs:s.TypeIs (.ref sl) "slice":=⟨os,hos,hcs⟩;unfold getItem
 try with_reducible refine KM ?_
 first|refine Jy (JK ?_)|skip
 refine Jy (Ru ht.typeIs (by decide) ?_)
 refine Jy (Ku (name:=JN "__getitem__") ht.typeIs KF
  (KZ KF ht.typeIs Qo ?_ (Q5 _ _)))
 show ZJ _ _ (N7 (.ref t) >>= _) _ _ s
 refine Jy (Q6 ht ?_)
 refine Jy (M6 hTs ?_)
 rw[if_pos (by decide)]
 refine Jy (gi hs pl pu ?_)
 have hno:¬ ((((sIx items.size 0 lo:Nat):Int) == 0&&(1:Int) == 1&&(sIx items.size items.size hi - sIx items.size 0 lo) == items.size)=ZC):=by
  intro q;rw[JH,JH]at q
  have q1:((sIx items.size 0 lo:Nat):Int)=0:=eq_of_beq q.1.1
  have q2:sIx items.size items.size hi - sIx items.size 0 lo=items.size:=eq_of_beq q.2;exact hw ⟨by omega,by omega⟩
 show ZJ _ _ (if (((sIx items.size 0 lo:Nat):Int) == 0&&(1:Int) == 1&&(sIx items.size items.size hi - sIx items.size 0 lo) == items.size)=ZC then _ else _) _ _ s
 rw[if_neg hno,xX]
 first
  |exact Jy (m:=Ly _) (Lj (JK ⟨_,rfl,JK h⟩) htake)
  |exact Jy (m:=Ly _) (Lj (Jy (JK (JK ⟨_,rfl,JK h⟩))) htake)
  |exact Jy (Jy (m:=Ly _) (Lj (JK (JK ⟨_,rfl,JK h⟩)) htake))
  |exact Jy (Jy (m:=Ly _) (Lj (JK ⟨_,rfl,JK h⟩) htake))
end HT
variable{i:Int}
namespace L2
open PySem PySem.Spec PyProof.Rows
abbrev TO:=St->Hp->(Option Int->Hp->Prop)->Prop
def PO(X:Cx)(e:Option ZG)(t:TO):Prop:=
 ∀(ca:V3)(s:JB)(σ:St)(H:Hp)(Q:Option Int->Hp->Prop),Inv X ca σ H s->t σ H Q →
  ZJ (ZK X.prog X.w) X.A (evalPart e X.env) (λu s'=>∃o H',Inv X ca σ H' s'/\Q4 u o/\Q o H') X.xe s
def Aw:TO:=λ_ H Q=>Q ZB H
def F6(t:TE):TO:=λσ H Q=>t σ H λx H1=>∃i,x=.int i/\Q (ZA i) H1
def tD:∀{us:List JD},Vals (ns.map V.int) us->Ot us ns:=by
 induction ns with
 |nil=>intro us r;rw[NG]at r;cases r;exact .nil
 |cons n ns ih=>
  intro us r;rw[JG]at r
  cases r with
  |cons r1 r2=>
   obtain⟨t,e⟩:=r1;subst e;exact .cons n t (ih r2)
variable{X:Cx}{e:ZG}{r:V->Option Int->Option Int->Hp->VK->Prop}{xs:List V}
section
variable {te:TE}{lo hi:Option ZG}{tl th:TO}{pos p2:Pos}
def A4:PO X ZB Aw:=by
 intro ca s σ H Q I h;rw[Q7];exact JK ⟨ZB,H,I,.none,h⟩
def A3(h:PE X e te):PO X (ZA e) (F6 te):=by
 intro ca s σ H Q I hw;rw[evalPart_some];refine bN (h ca s σ H _ I hw) λu s1 hh_=>?_
 obtain⟨x,H1,I1,r1,q1⟩:=hh_;obtain⟨i,rfl,q⟩:=q1;obtain⟨t,rfl⟩:=r1;exact⟨ZA i,H1,I1,.int i t,q⟩
def SlR(X:Cx)(r:V->Option Int->Option Int->Hp->VK->Prop):Prop:=
 ∀(ca:V3)(s:JB)(σ:St)(H:Hp)(x:V)(v vl vu:JD)(lo hi:Option Int)(sl:ZE)(Q:VK),Inv X ca σ H s->RelV x v->s.heap.IsSliceOf sl vl vu .none->Q4 vl lo->Q4 vu hi->r x lo hi H Q →
  ∃T id,OP (.type T) "__getitem__" =pure (ZA (.builtin id))/\s.TypeIs v T/\ZJ (ZK X.prog X.w) X.A (getItem v (.ref sl)) (EP X ca σ Q) X.xe s
def SlR.or{r':V->Option Int->Option Int->Hp->VK->Prop}(h:SlR X r)(h':SlR X r'):SlR X (λx lo hi H Q=>r x lo hi H Q\/r' x lo hi H Q):=by
 intro ca s σ H x v vl vu lo hi sl Q I rx hs pl pu q;rcases q with q|q
 ·exact h ca s σ H x v vl vu lo hi sl Q I rx hs pl pu q
 ·exact h' ca s σ H x v vl vu lo hi sl Q I rx hs pl pu q
def tSl(r:V->Option Int->Option Int->Hp->VK->Prop)(te:TE)(tl th:TO):TE:=λσ H Q=>te σ H λx H1=>tl σ H1 λl H2=>th σ H2 λu H3=>r x l u H3 Q
def xZ(hr:SlR X r)(he:PE X e te)(hl:PO X lo tl)(hu:PO X hi th):PE X (.Subscript e (.Slice lo hi ZB p2) pos) (tSl r te tl th):=by
 intro ca s σ H Q I h;refine Rv (bN (he ca s σ H _ I h) λv s1 hh_=>?_)
 obtain⟨x,H1,I1,r1,q1⟩:=hh_;refine wpAny_Slice (bN (hl ca s1 σ H1 _ I1 q1) λvl s2 ⟨l,H2,I2,pl,q2⟩=>bN (hu ca s2 σ H2 _ I2 q2) λvu s3 hh_=>?_)
 obtain⟨u,H3,I3,pu,q3⟩:=hh_;rw[Q7];refine JK ?_
 have I4:Inv X ca σ H3 {s3 with heap:=s3.heap.push {cls:=.type "slice",data:=.fields #[vl,vu,.none]}}:=I3.kept (t':=s3.toks) λb ob q=>JA _ q
 obtain⟨T,id,hT,ht,hg⟩:=hr ca {s3 with heap:=s3.heap.push {cls:=.type "slice",data:=.fields #[vl,vu,.none]}} σ H3 x v vl vu l u s3.heap.objs.size Q I4 r1 (Qv ..) pl pu q3
 show ZJ (ZK X.prog X.w) X.A (O5 e (.Slice lo hi ZB p2) v (.ref s3.heap.objs.size)) (EP X ca σ Q) X.xe {s3 with heap:=s3.heap.push {cls:=.type "slice",data:=.fields #[vl,vu,.none]}}
 exact tail_any (ops:=[.ref s3.heap.objs.size,v]) ht hT hg (by with_unfolding_all rfl)
def r0(xs:List V)(lo hi:Option Int):List V:=(xs.drop (HT.sIx xs.length 0 lo)).take (HT.sIx xs.length xs.length hi - HT.sIx xs.length 0 lo)
def k7(xs:List V)(lo hi:Option Int):(r0 xs lo hi).length<=xs.length:=by
 unfold r0;rw[LQ,Lo];omega
def rSlT(K:Jz):V->Option Int->Option Int->Hp->VK->Prop:=λx lo hi H Q=>∃a xs,x=.ref a/\SqT K H a xs ∧
 ¬(HT.sIx xs.length 0 lo=0/\HT.sIx xs.length xs.length hi=xs.length)/\∀p,H p=ZB->Q (.ref p) (upd H p (.tup (r0 xs lo hi)))
def sl_tup:SlR X (rSlT X.K):=by
 intro ca s σ H x v vl vu lo hi sl Q I rx hs pl pu h;obtain⟨a,xs,rfl,hx,hw,q⟩:=h;cases rx;obtain⟨its,r,ht,hz⟩:=I.tuple hx
 have hlen:its.toArray.size=xs.length:=by rw[J0];exact r.length.symm
 refine⟨"tuple",_,KF.lookup,ht.typeIs,?_⟩
 refine HT.getItem_tuple_cut ht hs pl pu (by rw[hlen];exact hw) ?_ (by rw[hlen];exact hz)
 rw[hlen];refine⟨.ref s.heap.objs.size,_,I.laid (t':=s.toks) (o:=.tup (r0 xs lo hi)) (λb ob q=>JA _ q) (JO _) ?_,rfl,q _ (I.hok.fresh (JO _))⟩
 exact⟨J5 (k7 xs lo hi) hz,_,(r.drop (HT.sIx xs.length 0 lo)).take (HT.sIx xs.length xs.length hi - HT.sIx xs.length 0 lo),Qz _ _⟩
def Gw(K:Jz):R2:=λx y H Q=>∃a b xs ys,x=.ref a/\y=.ref b/\SqT K H a xs/\SqT K H b ys/\xs≠ []/\xs.length+ys.length<=ZI ∧
 (ys=[]->Q (.ref a) H)/\(ys≠ []->∀p,H p=ZB->Q (.ref p) (upd H p (.tup (xs++ys))))
def Vals.Da(r:Vals xs us):us=[] ↔xs=[]:=by
 cases r with
 |nil=>simp
 |cons _ _=>simp
def Bi:qv X (Lz .Add) (Gw X.K):=by
 intro ca s σ H x y v u Q I rx ry h;obtain⟨a,b,xs,ys,rfl,rfl,ha,hb,hx,hz,q1,q2⟩:=h;cases rx;cases ry;obtain⟨its,r1,p1,_⟩:=I.tuple ha;obtain⟨its2,r2,p2,_⟩:=I.tuple hb;refine HT.cat_tup p1 p2 (λz=>hx (r1.Da.mp z)) (λz=>⟨.ref a,H,I,rfl,q1 (r2.Da.mp z)⟩) (λz=>?_) (by rw[<-r1.length,<-r2.length];exact hz)
 refine⟨.ref s.heap.objs.size,_,I.laid (t':=s.toks) (o:=.tup (xs++ys)) (λb ob q=>JA _ q) (JO _) ?_,rfl,q2 (λw=>z (r2.Da.mpr w)) _ (I.hok.fresh (JO _))⟩
 exact⟨by rw[JC];exact hz,_,r1.append r2,Qz _ _⟩
end
def ixN(n:Nat)(i:Int):Option Nat:=if 0<=i then(if i<n then ZA i.toNat else ZB)else if -(n:Int)<=i then ZA (i+n).toNat else ZB
def atI{α:Type}(xs:List α)(i:Int):Option α:=(ixN xs.length i).bind λj=>xs[j]?
def BB(h:ixN n i=ZA j):seqIndex? i n=ZA j/\j<n/\-(n:Int)<=i/\i<n:=by
 unfold ixN at h
 by_cases h0:0<=i
 ·rw[if_pos h0]at h
  by_cases h1:i<n
  ·rw[if_pos h1]at h
   have e:i.toNat=j:=Kn h;exact⟨by rw[seqIndex_of h0 h1,e],by omega,by omega,h1⟩
  ·rw[if_neg h1]at h;cases h
 ·rw[if_neg h0]at h
  by_cases h1 : -(n:Int)<=i
  ·rw[if_pos h1]at h
   have e:(i+n).toNat=j:=Kn h;exact⟨by rw[seqIndex_neg (by omega) h1,e],by omega,h1,by omega⟩
  ·rw[if_neg h1]at h;cases h
def ql{xs:List α}{v:α}(h:atI xs i=ZA v):∃j,seqIndex? i xs.length=ZA j/\xs[j]?=ZA v/\j<xs.length/\-(xs.length:Int)<=i/\i<xs.length:=by
 unfold atI at h
 cases e:ixN xs.length i with
 |none=>rw[e]at h;cases h
 |some j=>
  rw[e]at h;obtain⟨h1,h2,h3,h4⟩:=BB e;exact⟨j,h1,h,h2,h3,h4⟩
def vo(b:ZG):Prop:=∀o i,Qp b ZD o i=operate [o,i] (getItem o i)
def IxR(X:Cx)(r:R2):Prop:=
 ∀(value slice:ZG)(ca:V3)(s:JB)(σ:St)(H:Hp)(x y:V)(v u:JD)(Q:VK),Inv X ca σ H s->RelV x v->RelV y u->r x y H Q →
  Qp slice ZD v u=operate [v,u] (getItem v u)->ZJ (ZK X.prog X.w) X.A (O5 value slice v u) (EP X ca σ Q) X.xe s
def MtR(X:Cx)(id:String)(r:V->List V->Hp->VK->Prop):Prop:=
 ∀(ca:V3)(s:JB)(σ:St)(H:Hp)(x:V)(xs:List V)(v:JD)(us:List JD)(Q:VK),Inv X ca σ H s->RelV x v->Vals xs us->r x xs H Q →
  ZJ (ZK X.prog X.w) X.A (call (.builtin id) (v::us)) (EP X ca σ Q) X.xe s
variable{H:Hp}{ca:V3}{σ:St}
section
variable {a b:ZG}{ta tb:TE}{pos:Pos}
def IxR.or{r r':R2}(h:IxR X r)(h':IxR X r'):IxR X (λx y H Q=>r x y H Q\/r' x y H Q):=by
 intro value slice ca s σ H x y v u Q I rx ry q hs;rcases q with q|q
 ·exact h value slice ca s σ H x y v u Q I rx ry q hs
 ·exact h' value slice ca s σ H x y v u Q I rx ry q hs
def Gv(K:Jz):R2:=λx y H Q=>∃p xs i v,x=.ref p/\y=.int i/\SqL K H p xs/\atI xs i=ZA v/\Q v H
def Gs(K:Jz):R2:=λx y H Q=>∃p xs i v,x=.ref p/\y=.int i/\SqT K H p xs/\atI xs i=ZA v/\Q v H
def Gu:R2:=λx y H Q=>∃z i c,x=.str z/\y=.int i/\z.length<=ZI/\atI z.cps.toList i=ZA c/\Q (.str ⟨#[c]⟩) H
def ix_list:IxR X (Gv X.K):=by
 intro value slice ca s σ H x y v u Q I rx ry h hs;obtain⟨p,xs,i,z,rfl,rfl,hq,he,q⟩:=h;cases rx;obtain⟨t,rfl⟩:=ry;obtain⟨its,r,pl,hz⟩:=I.list hq;obtain⟨j,h1,h2,h3,h4,h5⟩:=ql he;obtain⟨w,ew,rw'⟩:=r.get h2
 have hl:=r.length
 have hn:=mf
 have fin:EP X ca σ Q w s:=⟨z,H,I,rw',q⟩
 by_cases h0:0<=i
 ·have hj:i.toNat=j:=by
   rw[seqIndex_of h0 h5]at h1;exact Kn h1
  exact item_listR pl.isList h0 (by omega) (by rw[hj];simpa using ew) fin hs
 ·have hj:(i+(its.toArray.size:Int)).toNat=j:=by
   rw[seqIndex_neg (by omega) h4]at h1
   rw[J0,<-hl];exact Kn h1
  exact Pk (x:=w) pl.isList.typeIs slot_list_getitem.lookup
   (wpAny_getItem_list_neg (Q:=λr s'=>r=w/\EP X ca σ Q r s') pl.isList (by omega) (by rw[J0] <;> omega) (by omega) (by rw[hj];simpa using ew) ⟨rfl,fin⟩) hs
def ix_tup:IxR X (Gs X.K):=by
 intro value slice ca s σ H x y v u Q I rx ry h hs;obtain⟨p,xs,i,z,rfl,rfl,hq,he,q⟩:=h;cases rx;obtain⟨t,rfl⟩:=ry;obtain⟨its,r,pl,hz⟩:=I.tuple hq;obtain⟨j,h1,h2,h3,h4,h5⟩:=ql he;obtain⟨w,ew,rw'⟩:=r.get h2
 have hl:=r.length
 have hn:=mf
 have fin:EP X ca σ Q w s:=⟨z,H,I,rw',q⟩
 exact Pk (x:=w) pl.typeIs slot_tuple_getitem.lookup
  (getItem_tuple (j:=j) (Q:=λr s'=>r=w/\EP X ca σ Q r s') pl (by omega) (by omega) (by rw[J0,<-hl];exact h1) (by simpa using ew) ⟨rfl,fin⟩) hs
def EL:IxR X Gu:=by
 intro value slice ca s σ H x y v u Q I rx ry h hs;obtain⟨z,i,c,rfl,rfl,hz,he,q⟩:=h;obtain⟨t,rfl⟩:=rx;obtain⟨t',rfl⟩:=ry;obtain⟨j,h1,h2,h3,h4,h5⟩:=ql he
 have hl:z.cps.toList.length=z.length:=by simp[Str.length]
 rw[hl]at h1 h4 h5
 have hn:=mf
 exact tail_any (typeIs_str s z t) slot_str_getitem.lookup (getItem_str (c:=c) (by
  have e1:decide (i< -(2 ^ 63:Int))=ZD:=decide_eq_false (by omega)
  have e2:decide (i ≥ 2 ^ 63)=ZD:=decide_eq_false (by omega)
  rw[e1,e2,QB]) (by rw[h1];simpa using h2) ⟨.str ⟨#[c]⟩,H,I.tok _,⟨_,rfl⟩,q⟩) hs
def rIx(K:Jz):R2:=λx y H Q=>Gv K x y H Q\/Gs K x y H Q\/Gu x y H Q
def EM:IxR X (rIx X.K):=ix_list.or (ix_tup.or EL)
def pd(lo hi:Option Int)(n:Nat):(NA lo hi ZB n).1=((HT.sIx n 0 lo:Nat):Int)/\(NA lo hi ZB n).2.1=((HT.sIx n n hi:Nat):Int)/\(NA lo hi ZB n).2.2=1:=by
 refine⟨?_,?_,rfl⟩
 ·cases lo with
  |none=>simp[NA,HT.sIx]
  |some i=>
   simp only[NA,HT.sIx,RM,show(1:Int) > 0 by decide,if_true]
   by_cases h:i<0
   ·simp only[h,if_true] <;> omega
   ·simp only[h,if_false] <;> omega
 ·cases hi with
  |none=>simp[NA,HT.sIx]
  |some i=>
   simp only[NA,HT.sIx,RM,show(1:Int) > 0 by decide,if_true]
   by_cases h:i<0
   ·simp only[h,if_true] <;> omega
   ·simp only[h,if_false] <;> omega
def ng(its:List JD)(lo hi:Option Int):slicePick its.toArray lo hi ZB=((its.drop (HT.sIx its.length 0 lo)).take (HT.sIx its.length its.length hi - HT.sIx its.length 0 lo)).toArray:=by
 obtain⟨h1,h2,h3⟩:=pd lo hi its.toArray.size;unfold slicePick;rw[h1,h2,h3];simp only[sliceRange_one,pick_run,J0] <;> rfl
def rSlL(K:Jz):V->Option Int->Option Int->Hp->VK->Prop:=λx lo hi H Q=>∃a xs,x=.ref a/\SqL K H a xs/\∀p,H p=ZB->Q (.ref p) (upd H p (.lst (r0 xs lo hi)))
def um:SlR X (rSlL X.K):=by
 intro ca s σ H x v vl vu lo hi sl Q I rx hs pl pu h;obtain⟨a,xs,rfl,hx,q⟩:=h;cases rx;obtain⟨its,r,ht,hz⟩:=I.list hx
 have hlen:=r.length;refine⟨"list",_,slot_list_getitem.lookup,ht.isList.typeIs,?_⟩
 refine wpAny_getItem_list_slice ht.isList hs pl pu .none (by simp) ?_ (by rw[J0] <;> omega)
 rw[ng,<-hlen];refine⟨.ref s.heap.objs.size,_,I.laid (t':=s.toks) (o:=.lst (r0 xs lo hi)) (λb ob q=>JA _ q) (JO _) ?_,rfl,q _ (I.hok.fresh (JO _))⟩
 exact⟨J5 (k7 xs lo hi) hz,_,0,(r.drop (HT.sIx xs.length 0 lo)).take (HT.sIx xs.length xs.length hi - HT.sIx xs.length 0 lo),JP _ rfl⟩
def call_len_seq:CallR X (.builtin "len") (λxs H Q=>∃p ys,xs=[.ref p]/\(SqL X.K H p ys\/SqT X.K H p ys)/\Q (.int ys.length) H):=by
 intro ca s σ H xs us Q I r h;obtain⟨p,ys,rfl,hq,q⟩:=h;obtain⟨u,rfl,rx⟩:=lP r;cases rx
 have hn:=mf;rcases hq with hq|hq
 ·obtain⟨its,r',pl,hz⟩:=I.list hq
  have hlen:=r'.length;exact Calls.call_len_list pl.isList (by simp only[J0] <;> omega) ⟨.int ys.length,H,I.tok _,⟨s.toks+1,by rw[J0,hlen]⟩,q⟩
 ·obtain⟨its,r',pl,hz⟩:=I.tuple hq
  have hlen:=r'.length;exact len_tuple pl (by simp only[J0] <;> omega) ⟨.int ys.length,H,I.tok _,⟨s.toks+1,by rw[J0,hlen]⟩,q⟩
def qh:CallR X (.builtin "len") (λxs H Q=>∃z,xs=[.str z]/\z.length<=ZI/\Q (.int z.length) H):=by
 intro ca s σ H xs us Q I r h;obtain⟨z,rfl,hz,q⟩:=h;obtain⟨u,rfl,t,rfl⟩:=lP r
 have hn:=mf;exact len_str (by omega) ⟨.int z.length,H,I.tok _,⟨_,rfl⟩,q⟩
def CallR.or{f:JD}{r r':List V->Hp->VK->Prop}(h:CallR X f r)(h':CallR X f r'):CallR X f (λxs H Q=>r xs H Q\/r' xs H Q):=by
 intro ca s σ H xs us Q I rs q;rcases q with q|q
 ·exact h ca s σ H xs us Q I rs q
 ·exact h' ca s σ H xs us Q I rs q
def nB:CallR X (.type "tuple") (λxs H Q=>∃p ys,xs=[.ref p]/\((SqL X.K H p ys/\∀l,H l=ZB->Q (.ref l) (upd H l (.tup ys)))\/(SqT X.K H p ys/\Q (.ref p) H))):=by
 intro ca s σ H xs us Q I r h;obtain⟨p,ys,rfl,h⟩:=h;obtain⟨u,rfl,rx⟩:=lP r;cases rx;rcases h with⟨hq,q⟩|⟨hq,q⟩
 ·obtain⟨its,r',pl,hz⟩:=I.list hq
  have hlen:=r'.length;refine call_tuple_list pl.isList (λh' kp=>?_) (by simp only[J0] <;> omega)
  have I1:Inv X ca σ H {s with heap:=h'}:=I.kept (t':=s.toks) kp
  have I2:Inv X ca σ (upd H h'.objs.size (.tup ys)) {s with heap:=h'.push {cls:=.type "tuple",data:=.seq its.toArray}}:=
   I1.laid (t':=s.toks) (λb o e=>JA _ e) (JO _) (show ObjOk X.prog X.w _ _ _ (.tup ys)from⟨hz,its,r',Qz _ _⟩)
  exact⟨.ref h'.objs.size,_,I2,rfl,q _ (I1.hok.fresh (JO _))⟩
 ·obtain⟨its,r',pl,hz⟩:=I.tuple hq
  exact call_tuple_same pl ⟨.ref p,H,I,rfl,q⟩
def tyV(K:Jz)(T:String)(x:V)(H:Hp):Prop:=match x with
 |.str _=>T= "str"
 |.int _=>T= "int"
 |.ref p=>(T= "list"/\∃xs,SqL K H p xs)\/(T= "tuple"/\∃o,K.lookup p=ZA o/\o.cls=.type "tuple"/\o.dict=ZB) ∨
   (T= "dict"/\((∃kvs,H p=ZA (.dK kvs))\/∃kvs,H p=ZA (.dT kvs)))\/(T= "set"/\∃S n,H p=ZA (.set S n))
 |_=>False
def xj{T:String}{x:V}(I:Inv X ca σ H s)(r:RelV x v)(ty:tyV X.K T x H):
  s.TypeIs v T/\∀a,v=.ref a->∃ob,s.heap.get? a=ZA ob/\ob.dict=ZB:=by
 cases x with
 |str z=>
  obtain⟨t,rfl⟩:=r;cases (show T= "str" from ty)
  exact⟨typeIs_str s z t,λ_ e=>nomatch e⟩
 |int i=>
  obtain⟨t,rfl⟩:=r;cases (show T= "int" from ty)
  exact⟨PU s i t,λ_ e=>nomatch e⟩
 |ref p=>
  cases r;rcases ty with⟨rfl,xs,hq⟩|⟨rfl,o,hk,hc,hd⟩|⟨rfl,hk⟩|⟨rfl,S,n,hk⟩
  ·obtain⟨its,_,pl,_⟩:=I.list hq
   refine⟨pl.isList.typeIs,λa e=>?_⟩
   cases e;obtain⟨o,n,e,c,hd,_⟩:=pl;exact⟨o,e,hd⟩
  ·refine⟨⟨o,I.kIn p o hk,hc⟩,λa e=>?_⟩
   cases e;exact⟨o,I.kIn _ o hk,hd⟩
  ·have z:∃o,s.heap.get? p=ZA o/\o.ExactDict:=by
    rcases hk with⟨kvs,hk⟩|⟨kvs,hk⟩
    ·obtain⟨_,_,_,_,o,_,_,e,ex,_⟩:=I.hok p _ hk
     exact⟨o,e,ex⟩
    ·obtain⟨_,_,_,_,o,_,_,e,ex,_⟩:=I.hok p _ hk
     exact⟨o,e,ex⟩
   obtain⟨o,e,ex⟩:=z;refine⟨⟨o,e,ex.1⟩,λa e2=>?_⟩
   cases e2;exact⟨o,e,ex.2.1⟩
  ·obtain⟨o,_,_,_,e,ex,_⟩:=I.hok p _ hk
   refine⟨⟨o,e,ex.1⟩,λa e2=>?_⟩
   cases e2
   exact⟨o,e,ex.2.1⟩
 |_=>exact Lr ty
def tBM(K:Jz)(T:String)(r:V->List V->Hp->VK->Prop)(to:TE)(t:TA):TE:=λσ H Q=>to σ H λx H1=>tyV K T x H1/\t σ H1 λxs H2=>r x xs H2 Q
variable {o:ZG}{es:List ZG}{to:TE}{t:TA}{name:Str}{apos cpos:Pos}{T id:String}{r:V->List V->Hp->VK->Prop}
def Cy(pa:PlainAttrs T)(slot:Slot T name id)(hty:typeOf (.builtin id)=pure (.type "method_descriptor"))(hm:MtR X id r)(ho:PE X o to)(ha:PA X (e::es) t)
  (hbase:autoParam (Kx o name X.env (eval o X.env)=eval o X.env) u_)
  (hfew:((backTo cpos (JZ (e::es) X.env)).all (λx=>!x.1)&&(backToKw cpos (Sr [] X.env)).all (λx=>x.1.isSome)
   &&decide ((e::es).length+([]:List Ss).length+(if ([]:List Ss).isEmpty then 0 else 1)<30))=ZC:=by rfl)
  (hline:autoParam ((apos.endLine == cpos.line)=ZC) u_) (hs:autoParam (JZ (e::es) X.env=(ZD,eval e X.env)::JZ es X.env) u_) (hplain:autoParam ((backTo cpos (JZ es X.env)).any (·.1)=ZD) u_):
  PE X (.Call (.Attribute o name apos) (e::es) [] cpos) (tBM X.K T r to t):=by
 intro ca s σ H Q I h;refine LM hbase hfew hline rfl (bN (ho ca s σ H _ I h) λv s1 hh_=>?_)
 obtain⟨x,H1,I1,r1,ty,q1⟩:=hh_;obtain⟨h1,h2⟩:=xj I1 r1 ty;refine⟨T,id,pa,slot,hty,h1,h2,?_⟩
 have hA:=ha cpos ca s1 σ H1 _ I1 q1;rw[hs]at hA ⊢;refine Lp (by show(ZD||(backTo cpos (JZ es X.env)).any (·.1))=ZD;rw[hplain] <;> rfl) (Ln ?_)
 exact bN hA λus s2 ⟨vs,H2,I2,r2,q2⟩=>hm ca s2 σ H2 x vs v us Q I2 r1 r2 q2
end
def MtM(X:Cx)(id:String)(r:V->List V->Hp->VK->Prop):Prop:=
 ∀(ca:V3)(s:JB)(σ:St)(H:Hp)(x:V)(xs:List V)(v:JD)(us:List JD)(Q:VK),Inv X ca σ H s->RelV x v->Vals xs us->r x xs H Q →
  ZJ (ZK X.prog X.w) X.A (call (.builtin id) (v::us)) (EP X ca σ Q) X.xe s
theorem Vals.one:∀{x:V}{us:List JD},Vals [x] us->∃u,us=[u]/\RelV x u
 |_,_,.cons r .nil=>⟨_,rfl,r⟩
theorem Vals.rep(h:Vals xs us):∀k:Nat,Vals (J9 k xs).flatten (J9 k us).flatten
 |0=>.nil
 |k+1=>by
  rw[Ls,Ls,K0,K0];exact Vals.append h (Vals.rep h k)
theorem foldl_rep(its:List JD):∀(k:Nat)(acc:List JD),
  OG (λx1 x2=>x1++x2) acc.toArray (J9 k its.toArray)=(acc++(J9 k its).flatten).toArray
 |0,acc=>by simp
 |k+1,acc=>by
  have e:acc.toArray++its.toArray=(acc++its).toArray:=by simp
  have e2:(acc++its)++(J9 k its).flatten=acc++(J9 (k+1) its).flatten:=by
   rw[Ls,K0,JX]
  rw[<-e2,<-foldl_rep its k (acc++its),<-e,Ls,List.foldl_cons]
section
variable {l b:ZE}{ys zs:List V}
def Inv.Js{its':List JD}{f:Array JD->Array JD}(I:Inv X ca σ H s)(hH:H l=ZA (.lst xs))
  (e:s.heap.get? l=ZA {cls:=.type "list",data:=.seq its.toArray n}) (hf:f its.toArray=its'.toArray) (hv:Vals ys its') (hz:ys.length<=ZI):
  Inv X ca σ (upd H l (.lst ys)) {s with heap:=s.heap.update l (Obj.mapSeq f),toks:=t'}:=by
 have q:=PySem.IsL.update e f;rw[hf]at q;refine I.write (x:=l) (e:=l) (by rw[hH];exact trivial) (.inl rfl) (λb' u hb hu=>(LL s.heap (Obj.mapSeq f) (MV hb)).trans hu) ⟨_,q⟩ ?_
 exact⟨hz,its',_,hv,q⟩
def Inv.IU(I:Inv X ca σ H s)(hv:Vals ys its)(hz:ys.length<=ZI):
  Inv X ca σ (upd H s.heap.objs.size (.lst ys)) {s with heap:=s.heap.push {cls:=.type "list",data:=.seq its.toArray},toks:=t'}:=
 I.laid (λ_ _ q=>JA _ q) (JO _) ⟨hz,its,0,hv,JP _ rfl⟩
theorem Inv.fresh(I:Inv X ca σ H s):H s.heap.objs.size=ZB:=I.hok.fresh (JO _)
def Inv.IC(I:Inv X ca σ H s)(hH:H l=ZA (.lst xs)):xs.length<=ZI/\∃(its:List JD)(n:Nat),Vals xs its/\xs.length=its.length/\s.heap.get? l=ZA {cls:=.type "list",data:=.seq its.toArray n}:=by
 obtain⟨z,its,n,r,e⟩:=I.hok l _ hH;exact⟨z,its,n,r,r.length,e⟩
def rA(h:n<=ZI):L4 n=ZD:=by
 unfold L4;exact decide_eq_false (by omega)
end
def AF:V->List V->Hp->VK->Prop:=λx vs H Q=>∃l xs y,x=.ref l/\vs=[y]/\H l=ZA (.lst xs)/\xs.length<ZI/\Q .non (upd H l (.lst (xs++[y])))
def kC:MtM X "list.append" AF:=by
 intro ca s σ H x vs v us Q I rx rv h;obtain⟨l,xs,y,rfl,rfl,hH,hz,q⟩:=h;cases rx;obtain⟨u,rfl,ru⟩:=rv.one;obtain⟨z,its,n,r,hl,e⟩:=I.IC hH;refine Ms F.slot_list_append ⟨_,e,rfl⟩ F.entry_list_append (F.args_list_append_2 _ _) (PySem.list_append l its.toArray n u (by rw[J0];omega)) ⟨e,?_⟩
 refine⟨.non,_,I.Js (its':=its++[u]) hH e (by simp) (r.append (.cons ru .nil)) ?_,rfl,q⟩
 rw[JC,Ka];omega
def AE:V->List V->Hp->VK->Prop:=λx vs H Q=>∃l b xs zs,x=.ref l/\vs=[.ref b]/\H l=ZA (.lst xs)/\H b=ZA (.lst zs)/\xs.length+zs.length<=ZI/\Q .non (upd H l (.lst (xs++zs)))
def vX:MtM X "list.extend" AE:=by
 intro ca s σ H x vs v us Q I rx rv h;obtain⟨l,b,xs,zs,rfl,rfl,hH,hB,hz,q⟩:=h;cases rx;obtain⟨u,rfl,ru⟩:=rv.one;cases ru;obtain⟨z,its,n,r,hl,e⟩:=I.IC hH;obtain⟨z2,its2,n2,r2,hl2,e2⟩:=I.IC hB
 have hsz:its.toArray.size+its2.toArray.size<=ZI:=by rw[J0,J0];omega
 have hlong:¬ (!its.toArray.isEmpty&&L4 (its.toArray.size+its2.toArray.size))=ZC:=by
  rw[rA hsz,Bool.and_false];exact J7
 refine Ms F.slot_list_extend ⟨_,e,rfl⟩ F.entry_list_extend (F.args_list_extend_2 _ _)
  (AutoSeq1.list_extend_list_list_0 l its.toArray n b its2.toArray n2 hlong (by rw[J0];omega) (by omega)) ⟨e,e2,?_⟩
 refine⟨.non,_,I.Js (its':=its++its2) hH e (by simp) (r.append r2) ?_,rfl,q⟩
 rw[JC];omega
def rCat:R2:=λx y H Q=>∃l b xs zs,x=.ref l/\y=.ref b/\H l=ZA (.lst xs)/\H b=ZA (.lst zs)/\xs.length+zs.length<=ZI/\∀p,H p=ZB->Q (.ref p) (upd H p (.lst (xs++zs)))
def Ek:qv X (Lz .Add) rCat:=by
 intro ca s σ H x y v u Q I rx ry h;obtain⟨l,b,xs,zs,rfl,rfl,hH,hB,hz,q⟩:=h;cases rx;cases ry;obtain⟨z,its,n,r,hl,e⟩:=I.IC hH;obtain⟨z2,its2,n2,r2,hl2,e2⟩:=I.IC hB;refine PySem.P.add_list e e2 ?_ (by rw[J0,J0];omega)
 have ea:its.toArray++its2.toArray=(its++its2).toArray:=by simp
 rw[ea];exact⟨.ref _,_,I.IU (t':=s.toks) (r.append r2) (by rw[JC];omega),rfl,q _ I.fresh⟩
def rRep:R2:=λx y H Q=>∃l k xs,x=.ref l/\y=.int k/\H l=ZA (.lst xs)/\-(2 ^ 63)<=k/\k<2 ^ 63/\xs.length*k.toNat<=ZI ∧
 ∀p,H p=ZB->Q (.ref p) (upd H p (.lst (J9 k.toNat xs).flatten))
def len_rep(xs:List α)(k:Nat):(J9 k xs).flatten.length=k*xs.length:=by
 induction k with
 |zero=>simp
 |succ k ih=>rw[Ls,K0,JC,ih,Oe,Of]
def Ef:qv X (Lz .Mult) rRep:=by
 intro ca s σ H x y v u Q I rx ry h;obtain⟨l,k,xs,rfl,rfl,hH,h1,h2,hz,q⟩:=h;cases rx;obtain⟨t,rfl⟩:=ry;obtain⟨z,its,n,r,hl,e⟩:=I.IC hH
 have hlen:its.toArray.size*k.toNat<=ZI:=by rw[J0,<-hl];exact hz
 have hcap:¬ its.toArray.size*k.toNat > (2 ^ 63 - 1) / 8:=by
  have:(ZI:Nat)<=(2 ^ 63 - 1) / 8:=by decide
  omega
 have hfit:¬ (!Builtin.List.listFitsIndex k)=ZC:=by
  rw[fitsIndex_both h1 h2];exact J7
 have hlong:¬ L4 (its.toArray.size*k.toNat)=ZC:=by
  rw[rA hlen];exact J7
 have hnew:OG (λx1 x2=>x1++x2) #[] (J9 (if its.toArray.isEmpty=ZC then 0 else k.toNat) its.toArray)=(J9 k.toNat its).flatten.toArray:=by
  have f0:∀m:Nat,OG (λx1 x2=>x1++x2) #[] (J9 m its.toArray)=(J9 m its).flatten.toArray:=λm=>by
   have:=foldl_rep its m [];rw[Mz]at this;exact this
  rw[f0]
  cases its with
  |nil=>simp
  |cons a r'=>rw[if_neg (by simp)]
 refine Ou (T:="list") (U:="int") (by decide) ⟨_,e,rfl⟩ (λs'=>PU s' k t) noFill_list_mul Sf NW repeat_list RN.lookup
  (Ms NW (PU s k t) RO (Rk _ _) (int___rmul___int_list k t l its.toArray n)
   ⟨e,rfl,⟨_,e,rfl⟩,Ms F.slot_list_mul ⟨_,e,rfl⟩ F.entry_list_mul (F.args_list_mul_2 _ _) (QC l its.toArray n k t hfit hcap hlong) ⟨e,?_⟩⟩)
 rw[hnew];exact⟨.ref _,_,I.IU (t':=s.toks) (r.rep k.toNat) (by rw[len_rep,Ry];exact hz),rfl,q _ I.fresh⟩
end L2
namespace Att
open PySem PySem.W PySem.Calls PyProof.Rows
variable{P:Params}{h:ZH}
def lj:∀(ns:List Int)(vs:List JD),WellAll P h vs (ns.map WData.int)->Ot vs ns:=by
 intro ns
 induction ns with
 |nil=>
  intro vs w;rw[NG]at w;cases w
  exact .nil
 |cons n ns ih=>
  intro vs w;rw[JG]at w
  cases w with
  |cons a b=>
   cases a;exact .cons _ _ (ih _ b)
def script_of{l:OpenLaw}(hn:l.most=ZA n){args:List WData}{vals:List JD}
  (hpre:l.row.toRowW.claim.pre args=ZC) (hwl:WellAll P h vals args):
  ∃a vs ns,vals=[Kf a]/\args=[WData.list (ns.map WData.int)]/\h.get? a=ZA {cls:=.type "list",data:=.seq vs.toArray}/\Ot vs ns/\ns.length<=n:=by
 have hsh:WShape.hasAll [] args [.list .int]=ZC:=(pre_splitW hpre).1
 have hc:l.pre.holds [] {args:=args}=ZC:=(pre_splitW hpre).2;obtain⟨d,r,rfl,h1,h2⟩:=hasAllW_cons hsh;obtain rfl:=hasAllW_nil h2;obtain⟨xs,rfl,h3⟩:=hasW_list h1;obtain⟨ns,rfl⟩:=items_int h3
 have hlen:ns.length<=n:=by
  unfold OpenLaw.pre at hc
  have h4:(WTm.not (.lt (.lit (.int (n:Int))) (.len (.arg 0)))).holds [] {args:=[.list (ns.map .int)]}=ZC:=by
   have h4:=(holds_andW hc).1;rw[hn]at h4;exact h4
  have h5:=condW_of h4 (w_not (w_lt w_lit (w_len_list (w_arg rfl))));rw[JE]at h5;refine Nat.le_of_not_lt λq=>?_
  have q':(n:Int)<((ns.length:Nat):Int):=by omega
  first
   | (rw[decide_eq_true q']at h5;exact absurd h5 (by decide))
   | (simp at h5;omega)
 cases hwl with
 |cons w1 w2=>
  cases w2
  cases w1 with
  |list ho hall=>exact⟨_,_,ns,rfl,rfl,ho,lj ns _ hall,hlen⟩
def post_true(l:OpenLaw)(args:List WData):l.row.toRowW.claim.post args (.bool ZC) args=ZC:=
 postW_of (r:=l.row.toRowW) (X:=(ZC == ZC))
  (show WShape.has [] (.bool ZC) .bool=ZC by first|rfl|decide|simp[WShape.has,WShape.arms,WShape.armsAll])
  (show(WTm.eq .res (.lit (.bool ZC))).value [] {args:=args,res:=ZA (.bool ZC),after:=args}=ZA (.bool (ZC == ZC))from w_eq_bool (w_res rfl) w_lit) rfl
end Att
namespace L2
open PySem PySem.Spec PyProof.Rows
theorem nG:∀{vs:List JD}{ns:List Int},Ot vs ns->Vals (ns.map V.int) vs
 |_,_,.nil=>.nil
 |_,_,.cons n t h=>.cons ⟨t,rfl⟩ (nG h)
def Fy(H:Hp):Prop:=∀b,H b=ZB\/∃o xs,H b=ZA (.frz o (.lst xs))
abbrev CX0:wM:=λ_ _ _ _ _ _=>False
abbrev E0:XK:=λ_ _ _=>False
variable{X:Cx}
def ya:qr CX0 X E0:=λ_ _ _ _ _ _ _ h=>h.elim
structure Fun (K:Jz)(x qual:Str)(st:ZF)(f:ZE)(fd:KO):Prop where
 ex:∃(oc:JD)(od:Option ZE)(kV doc pm:JD)(an:Option ZE)(cdv ct:JD)(osl:Array (Option JD)),
  fd=Md x qual (fg st) (bP st) (aq st) .none kV doc pm an cdv ct/\K.lookup f=ZA ⟨oc,od,.func fd,osl⟩/\Om K cdv qual=ZC
 kp:Mp K (.ref f)=ZC
variable{f:ZE}{ps:List Str}{qual x:Str}{st:ZF}
section
variable {mg:V0}{base:ZH}
def Fun.ok{N:List Str}{sp:Sp}(F:Fun K x qual st f fd)(S:cG N ps (aq st))(len:∀vs H Q E,sp vs H Q E->vs.length=ps.length)
  (hbody:∀(cdv:JD)(A:Kc)(outer:List Env)(s:JB)(H:Hp)(vs:List V)(Q:VK)(E:XK),Room k (A.deeper (envOfC qual (aq st) s.heap.objs.size f cdv))->sp vs H Q E →
   ∃t,PSs (fG CX0 P w K mg base N qual (aq st) f cdv A outer s H E).nox (bP st) t/\t {nx:=λ_ H'=>Q .non H',rt:=Q} (start N vs) H):wL P w K mg base CX0 (k+1) f fd ps sp:=by
 obtain⟨oc,od,kV,doc,pm,an,cdv,ct,osl,rfl,lk,hcd⟩:=F.ex;refine uU lk hcd S len λA outer s H vs Q E hr hsp=>?_
 obtain⟨t,h,q⟩:=hbody cdv A outer s H vs Q E hr hsp;exact⟨t,h.nox,q⟩
def Fun.binds(F:Fun K x qual st f fd)
  (h:∀(kV doc pm:JD)(an:Option ZE)(cdv ct:JD)(us:List JD),us.length=ps.length->Q0 (Md x qual (fg st) (bP st) (aq st) .none kV doc pm an cdv ct) ⟨us,[]⟩=pure (ps.zip us)):Binds K fd ps []:=by
 obtain⟨oc,od,kV,doc,pm,an,cdv,ct,osl,rfl,lk,hcd⟩:=F.ex;exact .all (h kV doc pm an cdv ct)
def ES{od an:Option ZE}{osl:Array (Option JD)}{kV pm ct:JD}(l:K.lookup f=ZA ⟨oc,od,.func (Md x qual (fg st) (bP st) (aq st) .none kV doc pm an cdv ct),osl⟩)
  (c:Om K cdv qual=ZC) (k:Mp K (.ref f)=ZC):Fun K x qual st f (Md x qual (fg st) (bP st) (aq st) .none kV doc pm an cdv ct):=⟨⟨oc,od,kV,doc,pm,an,cdv,ct,osl,rfl,l,c⟩,k⟩
end
def iteF{A B:Prop}(h:B):if ZD=ZC then A else B:=by
 rw[if_neg J7];exact h
def iteT{A B:Prop}(h:A):if ZC=ZC then A else B:=by
 rw[if_pos rfl];exact h
def Same(H H':Hp):Prop:=∀b o,H b=ZA o->H' b=ZA o
def Same.refl(H:Hp):Same H H:=λ_ _ h=>h
def Same.trans{H H1 H2:Hp}(a:Same H H1)(b:Same H1 H2):Same H H2:=λc o h=>b c o (a c o h)
variable{env:Env}
theorem jD:∀(names:List (Str×Mv))(acc:List (Str×ZE)),
  (∀x,(x,Kt)∈names->∃c,env.cells.lookup x=ZA c) →
  (∀x c,acc.lookup x=ZA c->env.cells.lookup x=ZA c) →
  ∃cl,(forIn (m:=Sem) names acc (λx cs=>(if (x.2 == Kt)=ZC then do let a <-cellOf env x.1;pure (LF ((x.1,a)::cs))else pure (LF cs))))=pure cl ∧
   (∀x c,cl.lookup x=ZA c->env.cells.lookup x=ZA c) ∧
   (∀x,(x,Kt)∈names->∃c,cl.lookup x=ZA c)/\(∀x c,acc.lookup x=ZA c->∃c',cl.lookup x=ZA c')
 |[],acc,_,h=>⟨acc,rfl,h,λx hx=>by simp at hx,λx c e=>⟨c,e⟩⟩
 | (n,k)::r,acc,hf,h=>by
  by_cases hk:k=Kt
  ·subst hk
   obtain⟨c,hc⟩:=hf n (by simp)
   have h':∀x c',((n,c)::acc).lookup x=ZA c'->env.cells.lookup x=ZA c':=λx c' e=>by
    rw[KY]at e
    cases q:x == n with
    |true=>
     rw[q]at e
     have e2:c=c':=Kn e
     have e3:x=n:=by simpa using q
     rw[<-e2,e3];exact hc
    |false=>rw[q]at e;exact h x c' e
   obtain⟨cl,e1,e2,e3,e4⟩:=jD r ((n,c)::acc) (λx hx=>hf x (JF _ hx)) h'
   refine⟨cl,?_,e2,λx hx=>?_,λx c' e=>?_⟩
   ·rw[L5]
    simp only[beq_self_eq_true,if_true,cellOf,hc,pure_bind];exact e1
   ·rcases JL.mp hx with z|z
    ·have z1:x=n:=by injection z
     subst z1;exact e4 x c (by simp[KY])
    ·exact e3 x z
   ·cases q:x == n with
    |true=>exact e4 x c (by simp[KY,q])
    |false=>exact e4 x c' (by simp[KY,q,e])
  ·have hb:(k == Kt)=ZD:=by simpa using hk
   obtain⟨cl,e1,e2,e3,e4⟩:=jD r acc (λx hx=>hf x (JF _ hx)) h
   refine⟨cl,?_,e2,λx hx=>?_,e4⟩
   ·rw[L5]
    simp only[hb,KQ,if_false,pure_bind];exact e1
   ·rcases JL.mp hx with z|z
    ·have z1:Kt=k:=by injection z
     exact absurd z1.symm hk
    ·exact e3 x z
def mL(hf:∀x,(x,Kt)∈scope.names->∃c,env.cells.lookup x=ZA c):
  ∃cl,closureFor scope env=pure cl/\(∀x c,cl.lookup x=ZA c->env.cells.lookup x=ZA c)/\(∀x,(x,Kt)∈scope.names->∃c,cl.lookup x=ZA c):=by
 obtain⟨cl,e1,e2,e3,_⟩:=jD scope.names [] hf (λx c e=>by simp at e)
 refine⟨cl,?_,e2,e3⟩
 unfold closureFor;refine PR ?_ (congrArg (λz=>z >>= pure) e1|>.trans (by simp))
 rfl
variable{tg:ZG}
def qf{pr:J1}{wd:Ks}{el it0:ZG}{cs:List ZG}{ps:Pos}{itv av:JD}{ev:Env}(W:Nat->JB->Prop)
  (go:∀k st,W k st->ZJ (ZK pr wd) Ar (pyNext itv) (λr s1=>match r with
   |none=>Rz (.ok .next) s1
   |some v=>ZJ (ZK pr wd) Ar (Ma tg itv v) (λ_ s2=>ZJ (ZK pr wd) Ar (assign tg ev v) (λ_ s3=>
     ZJ (ZK pr wd) Ar (forIn cs ZC λc b=>if b=ZC then do let z <-isTrue c ev (eval c ev);pure (LF z)else pure (LF b)) (λz s4=>
      if z=ZC then ZJ (ZK pr wd) Ar (eval el ev) (λy s5=>
       ZJ (ZK pr wd) Ar (call (.builtin "list.append") [av,y]) (λ_ s6=>∃m,m<k/\W m s6) (λ_ _=>False) s5) (λ_ _=>False) s4
      else ∃m,m<k/\W m s4) (λ_ _=>False) s3) (λ_ _=>False) s2) (λ_ _=>False) s1) (λ_ _=>False) st)
  (k:Nat) (hk:W k s0):codeAny (ZK pr wd) Ar (.compLoop (.ListComp el [⟨tg,it0,cs,0⟩] sc ps) 0 itv av ev) Rz s0:=by
 refine codeAny_loop rfl W (λk st hw=>?_) k hk
 show ZJ (ZK pr wd) Ar ((compTurn (.ListComp el [⟨tg,it0,cs,0⟩] sc ps) 0 itv av ev).onRaise (λz=>do MD z ev;N3 z)) _ _ st
 refine wpAny_noted ?_
 rw[compTurn_list]
 have no:∀{α:Type}{t:Sem α}{Q Q':α->JB->Prop}{E':V2}{x:JB},ZJ (ZK pr wd) Ar t Q (λ_ _=>False) x->(∀y z,Q y z->Q' y z)->ZJ (ZK pr wd) Ar t Q' E' x:=λh f=>Kw h f λ_ _ z=>z.elim
 refine Jy (NQ (Jy (no (go k st hw) λr s1 g1=>?_)))
 cases r with
 |none=>exact JK g1
 |some v=>
  refine Jy (no g1 λ_ s2 g2=>Jy (no g2 λ_ s3 g3=>Jy (no g3 λz s4 g4=>?_)))
  cases z with
  |false=>exact JK (Ng rfl g4)
  |true=>exact Jy (Jy (no g4 λy s5 g5=>Jy (no g5 λ_ s6 g6=>JK (JK (Ng rfl g6)))))
def ba(X:Cx)(scope:MJ)(cl:List (Str×ZE))(N':List Str)(C:ZE)(s₀:JB)(H₀:Hp)(fp:List ZE):Cx:=
 {X with N:=N',s₀:=s₀,H₀:=H₀,env:=compEnvC scope cl C X.env,outer:=X.stack,stack:=X.stack,ex:=fp,fn:=λx=>scope.names.lookup x == ZA .cell,xe:=λ_ _=>False}
def dt(src:List (Option Nat))(σ:St):St:=src.map λo=>match o with
 |some i=>(σ[i]?).join
 |none=>ZB
theorem fA{env:Env}:∀{names:List (Str×Mv)}{x:Str}{k:Mv},
  (names.map λ(n,k)=>if (k == Kt&&env.scope.kind == .function&&env.kindOf n == ZA .cell)then(n,Lk)else(n,k)).lookup x=ZA k →
  ∃k',names.lookup x=ZA k'/\(k=k'\/k'=.free)
 |[],_,_,h=>by simp at h
 | (n,k0)::r,x,k,h=>by
  have ih:=@fA env r x k
  have h':Nx x ((if (k0 == Kt&&env.scope.kind == .function&&env.kindOf n == ZA .cell)=ZC then(n,Lk)else(n,k0))::(r.map λ(n,k)=>if (k == Kt&&env.scope.kind == .function&&env.kindOf n == ZA .cell)then(n,Lk)else(n,k)))=ZA k:=h
  by_cases hc:(k0 == Kt&&env.scope.kind == .function&&env.kindOf n == ZA .cell)=ZC
  ·rw[if_pos hc]at h'
   rw[KY]at h' ⊢
   cases hx:x == n with
   |true=>
    refine⟨k0,rfl,.inr ?_⟩
    have:=Ky.mp hc|>.1
    have:=Ky.mp this|>.1
    simpa using this
   |false=>rw[hx]at h';exact ih h'
  ·rw[if_neg hc]at h'
   rw[KY]at h' ⊢
   cases hx:x == n with
   |true=>rw[hx]at h';exact⟨k0,rfl,.inl (Kn h').symm⟩
   |false=>rw[hx]at h';exact ih h'
def dI{names:List (Str×Mv)}{k:Mv}(h:names.lookup x=ZA k):(x,k)∈names:=LD h
theorem eU{env:Env}:∀{names:List (Str×Mv)}{x:Str},names.lookup x=ZA .free →
  (names.map λ(n,k)=>if (k == Kt&&env.scope.kind == .function&&env.kindOf n == ZA .cell)then(n,Lk)else(n,k)).lookup x=ZA .cell ∨
  (names.map λ(n,k)=>if (k == Kt&&env.scope.kind == .function&&env.kindOf n == ZA .cell)then(n,Lk)else(n,k)).lookup x=ZA .free
 |[],_,h=>by simp at h
 | (n,k0)::r,x,h=>by
  have ih:=@eU env r x
  show Nx x ((if (k0 == Kt&&env.scope.kind == .function&&env.kindOf n == ZA .cell)=ZC then(n,Lk)else(n,k0))::_)=_\/Nx x ((if (k0 == Kt&&env.scope.kind == .function&&env.kindOf n == ZA .cell)=ZC then(n,Lk)else(n,k0))::_)=_
  rw[KY]at h
  by_cases hc:(k0 == Kt&&env.scope.kind == .function&&env.kindOf n == ZA .cell)=ZC
  ·rw[if_pos hc]
   rw[KY]
   cases hx:x == n with
   |true=>exact .inl rfl
   |false=>rw[hx]at h;exact ih h
  ·rw[if_neg hc]
   rw[KY]
   cases hx:x == n with
   |true=>rw[hx]at h;exact .inr h
   |false=>rw[hx]at h;exact ih h
variable{N':List Str}{elt iter:ZG}{g:TG}{ifs:List ZG}{tc:TT}{te:TE}{wi:TI}
structure LcScope (X:Cx)(scope:MJ)(N':List Str)(src:List (Option Nat)):Prop where
 kind:scope.kind=.function
 cel:∀y∈scope.names,y.2=.cell->scope.names.lookup y.1=ZA .cell
 loc:∀y∈scope.names,y.2=.local->scope.names.lookup y.1=ZA .local
 len:src.length=N'.length
 from_:∀(j i:Nat)(x:Str),src[j]?=ZA (ZA i)->N'[j]?=ZA x->X.N[i]?=ZA x/\scope.names.lookup x=ZA .free
 free:∀x,(x,Kt)∈scope.names->X.env.kindOf x=ZA .cell\/X.env.kindOf x=ZA .free
def C5(K:Jz)(wi:TI)(src:List (Option Nat))(g:TG)(tc:TT)(te:TE):TE:=λσ H Q=>wi σ H λJ H1=>∀D,H1 D=ZB->K.lookup D=ZB →
 ∃W:Nat->Nat->St->List V->Hp->Prop,(∃m,W 0 m (dt src σ) [] (upd H1 D (.lst [])))/\∀i m σ ys H,W i m σ ys H->H D=ZA (.lst ys) ∧
  ((J.stop i H/\Q (.ref D) H)\/(J.go i H/\ys.length<ZI/\∀x H',J.yld i H x H'->g x σ H' λσ2 H2=>tc σ2 H2 λb H3=>
   if b=ZC then te σ2 H3 λv H4=>H4 D=ZA (.lst ys)/\∃m',m'<m/\W (i+1) m' σ2 (ys++[v]) (upd H4 D (.lst (ys++[v])))else ∃m',m'<m/\W (i+1) m' σ2 ys H3))
def sr(X:Cx)(ifs:List ZG)(t:TT):Prop:=
 ∀(ca:V3)(s:JB)(σ:St)(H:Hp)(Q:Bool->Hp->Prop),Inv X ca σ H s->t σ H Q →
  ZJ (ZK X.prog X.w) X.A (forIn ifs ZC λc r=>if r=ZC then do let ok <-isTrue c X.env (eval c X.env);pure (LF ok)else pure (LF r)) (TP X ca σ Q) X.xe s
def F3:TT:=λ_ H Q=>Q ZC H
def A6:sr X [] F3:=λ_ _ _ H _ I h=>wpAny_tests_nil ⟨H,I,h⟩
def A5{c:ZG}{t:TT}(h:PT X c t):sr X [c] t:=λca s σ H Q I q=>wpAny_tests_one (h ca s σ H Q I q)
theorem i0:∀(names:List (Str×Mv))(h:ZH)(acc:List (Str×ZE)),(∀x y c,acc.lookup x=ZA c->acc.lookup y=ZA c->x=y)->(∀x c,acc.lookup x=ZA c->c<h.objs.size) →
  (∀x c,(LJ h.objs.size names acc).lookup x=ZA c->acc.lookup x=ZA c\/(h.objs.size<=c/\(NL h names).IsCell c ZB)) ∧
  (∀x y c,(LJ h.objs.size names acc).lookup x=ZA c->(LJ h.objs.size names acc).lookup y=ZA c->x=y) ∧
  (∀x,(x,Lk)∉names->(LJ h.objs.size names acc).lookup x=acc.lookup x) ∧
  (∀x,((x,Lk)∈names\/∃c,acc.lookup x=ZA c)->∃c,(LJ h.objs.size names acc).lookup x=ZA c) ∧
  (∀x c,(x,Lk)∈names->(LJ h.objs.size names acc).lookup x=ZA c->h.objs.size<=c)
 |[],h,acc,hi,_=>⟨λ_ _ e=>.inl e,hi,λ_ _=>rfl,λx e=>e.elim (λz=>absurd z KN) id,λ_ _ z=>absurd z KN⟩
 | (n,k)::r,h,acc,hi,hl=>by
  unfold LJ NL
  by_cases hk:k=.cell
  ·subst hk
   rw[if_pos (by rfl),if_pos (by rfl)]
   have hz:(h.push {cls:=.type "cell",data:=.cell ZB}).objs.size=h.objs.size+1:=Kv ..
   have lk:∀x,((n,h.objs.size)::acc).lookup x=if x=n then ZA h.objs.size else acc.lookup x:=λx=>by
    rw[KY]
    by_cases e:x=n
    ·rw[if_pos e,beq_iff_eq.mpr e]
    ·rw[if_neg e,beq_eq_false_iff_ne.mpr e]
   obtain⟨c1,c2,c3,c4,c5⟩:=i0 r (h.push {cls:=.type "cell",data:=.cell ZB}) ((n,h.objs.size)::acc) (λx y c e1 e2=>by
     rw[lk]at e1 e2
     by_cases q1:x=n
     ·by_cases q2:y=n
      ·rw[q1,q2]
      ·rw[if_pos q1]at e1;rw[if_neg q2]at e2
       cases e1;exact absurd (hl _ _ e2) (J3 _)
     ·rw[if_neg q1]at e1
      by_cases q2:y=n
      ·rw[if_pos q2]at e2
       cases e2;exact absurd (hl _ _ e1) (J3 _)
      ·rw[if_neg q2]at e2;exact hi x y c e1 e2) (λx c e=>by
     rw[lk]at e;rw[hz]
     by_cases q:x=n
     ·rw[if_pos q]at e;cases e;exact RP _
     ·rw[if_neg q]at e;exact OH (hl x c e))
   rw[hz]at c1 c2 c3 c4 c5;refine⟨λx c e=>?_,c2,λx hx=>?_,λx hx=>?_,λx c hx e=>?_⟩
   ·rcases c1 x c e with z|z
    ·rw[lk]at z
     by_cases q:x=n
     ·rw[if_pos q]at z;cases z
      exact .inr ⟨JO _,_,Nl r _ _ _ (JP _ rfl),rfl⟩
     ·rw[if_neg q]at z;exact .inl z
    ·exact .inr ⟨OI z.1,z.2⟩
   ·rw[c3 x λz=>hx (JF _ z),lk,if_neg λz=>hx (by rw[z];exact JI)]
   ·refine c4 x ?_
    rcases hx with hx|hx
    ·rcases JL.mp hx with z|z
     ·cases z
      exact .inr ⟨_,by rw[lk,if_pos rfl]⟩
     ·exact .inl z
    ·by_cases q:x=n
     ·exact .inr ⟨_,by rw[lk,if_pos q]⟩
     ·exact .inr (by rw[lk,if_neg q];exact hx)
   ·rcases JL.mp hx with z|z
    ·have q:x=n:=(OR z).1
     rcases c1 x c e with y|y
     ·rw[lk,if_pos q]at y;cases y;exact JO _
     ·exact OI y.1
    ·exact OI (c5 x c z e)
  ·have hb:¬ (k == Lk)=ZC:=λz=>hk (by simpa using z)
   rw[if_neg hb,if_neg hb];obtain⟨c1,c2,c3,c4,c5⟩:=i0 r h acc hi hl;exact⟨c1,c2,λx hx=>c3 x λz=>hx (JF _ z),λx hx=>c4 x (hx.imp (λz=>(JL.mp z).resolve_left λz=>hk (OR z).2.symm) id),λx c hx=>c5 x c ((JL.mp hx).resolve_left λz=>hk (OR z).2.symm)⟩
def nU{globals:ZE}{cl:List (Str×ZE)}{Q:Env->JB->Prop}
  (q:Q (newEnv scope s.heap.objs.size globals (LJ (s.heap.objs.size+1) scope.names cl) qual ZB .none (ZA env) NU) {s with heap:=NL (s.heap.push {cls:=.type "dict",data:=.dict #[]}) scope.names}):
  ZJ M A (Ov scope globals cl [] qual ZB .none (ZA env)) Q E s:=by
 simp only[Ov,QD,if_true];refine Jy (wpAny_alloc (Jy (wpAny_layCells _ (λname kind cells=>by cases hkc:kind == Lk <;> simp[hkc]) _ _ _ _ ?_)))
 rw[show({s with heap:=s.heap.push {cls:=.type "dict",data:=.dict #[]}}:JB).heap.objs.size=s.heap.objs.size+1 from Kv ..]
 rw[MQ];exact Jy (JK (JK q))
def uH{pos fpos:Pos}{src:List (Option Nat)}{use:Option (JD->Sem Unit)}
  {ca:V3}  {σ:St} {H:Hp} {Q:VK}
  (hc:X.calm=ZC) (S:LcScope X scope N' src) (hi:PI X tg iter wi)
  (block:∀cl C s₀ H₀ fp,PG (ba X scope cl N' C s₀ H₀ fp) tg g/\sr (ba X scope cl N' C s₀ H₀ fp) ifs tc/\PE (ba X scope cl N' C s₀ H₀ fp) elt te)
  (hs:∀x,J8 iter X.env x=pure x) (I:Inv X ca σ H s) (h:C5 X.K wi src g tc te σ H Q)
  (hend:∀(D C:ZE)(H':Hp)(s':JB),(∃m,s'.heap.Ns C m)->(∀h',Me C s'.heap h'->Inv X ca σ H' {s' with heap:=h'})->(H' C=ZB/\C≠X.env.locals/\X.s₀.heap.objs.size<=C/\(∀x c,X.env.cells.lookup x=ZA c->c≠C)/\∀p∈X.pn++ca,p.1≠C)->Q (.ref D) H' →
   PV (ZK X.prog X.w) X.A X.xe use Qf (.ref D) C (.ok .next) s'):
  ZJ (ZK X.prog X.w) X.A (NR (.ListComp elt [⟨tg,iter,ifs,0⟩] scope pos) scope X.env fpos (newList []) ZD (eval iter X.env) use) Qf X.xe s:=by
 have hcell:∀x,(x,Kt)∈scope.names->∃c,X.env.cells.lookup x=ZA c:=λx hx=>I.ok.has x (S.free x hx)
 obtain⟨cl0,hcl,cl01,cl02⟩:=mL (env:=X.env) (scope:=scope) hcell;refine wpAny_comprehension_free (use:=use) rfl hs hcl S.kind S.loc (bN (hi ca s σ H _ I h) λv s1 h1=>bN h1 λitv s2 h2=>?_)
 obtain⟨it,fp,tn,J,H2,e,I2,T,st2,f2,hq⟩:=h2;subst e
 refine Lj ?_
 have hD:H2 s2.heap.objs.size=ZB:=I2.hok.fresh (JO _)
 have hDK:X.K.lookup s2.heap.objs.size=ZB:=by
  cases q:X.K.lookup s2.heap.objs.size with
  |none=>rfl
  |some o=>exact absurd (JM (I2.kIn _ o q)) (J3 _)
 obtain⟨W,⟨m0,w0⟩,turn⟩:=hq s2.heap.objs.size hD hDK
 have I3:=I2.IU (its:=[]) (ys:=[]) (t':=s2.toks) .nil (KI _)
 generalize hs3:({s2 with heap:=s2.heap.push {cls:=.type "list",data:=.seq ([]:List JD).toArray},toks:=s2.toks}:JB)=s3 at I3
 generalize hH3:upd H2 s2.heap.objs.size (.lst [])=H3 at I3 w0
 have hDsz:s2.heap.objs.size<s3.heap.objs.size:=by rw[<-hs3];simp[Kv]
 have fr3:∀b∈fp,H3 b=ZB:=λb hb=>by
  obtain⟨o,eo,_⟩:=T.obj _ _ st2 b hb;rw[<-hH3,aM (K6 (JM eo))];exact(f2 b hb).1
 have st3:tn 0 s3.heap:=T.keep _ _ _ st2 λb hb o e=>by rw[<-hs3];exact JA _ e
 have f3:∀b∈fp,gZ X ca H3 b:=λb hb=>⟨fr3 b hb,(f2 b hb).2⟩
 have D3:H3 s2.heap.objs.size=ZA (.lst []):=by rw[<-hH3];exact aZ
 generalize s2.heap.objs.size=D at*
 clear hs3 hH3 hD hDK
 refine nU ?_
 have old:∀b o,s3.heap.get? b=ZA o->(NL (s3.heap.push {cls:=.type "dict",data:=.dict #[]}) scope.names).get? b=ZA o:=λb o e=>Nl _ _ b o (JA _ e)
 have hns₁:(NL (s3.heap.push {cls:=.type "dict",data:=.dict #[]}) scope.names).Ns s3.heap.objs.size (λ_=>ZB):=(Heap.Ns.new s3.heap (.type "dict")).keeps (Nl _ _)
 have hz3:(s3.heap.push {cls:=.type "dict",data:=.dict #[]}).objs.size=s3.heap.objs.size+1:=Kv ..
 have lt0:∀x c,cl0.lookup x=ZA c->c<s3.heap.objs.size:=λx c e=>let ⟨_,ic⟩:=I3.cell x c (cl01 x c e);ic.lt
 obtain⟨c1,c2,c3,c4,c5⟩:=i0 scope.names (s3.heap.push {cls:=.type "dict",data:=.dict #[]}) cl0 (λx y c e1 e2=>I3.ok.inj x y c (cl01 x c e1) (cl01 y c e2)) λx c e=>by rw[hz3];exact OH (lt0 x c e)
 rw[hz3]at c1 c2 c3 c4 c5
 generalize hcl':LJ (s3.heap.objs.size+1) scope.names cl0=cl at*
 generalize hh₁:NL (s3.heap.push {cls:=.type "dict",data:=.dict #[]}) scope.names=h₁ at*
 have below:∀b o,s3.heap.get? b=ZA o->b≠s3.heap.objs.size:=λb o e=>K6 (JM e)
 have cl1:∀x c,cl.lookup x=ZA c->X.env.cells.lookup x=ZA c\/(s3.heap.objs.size<c/\h₁.IsCell c ZB):=λx c e=>(c1 x c e).imp (cl01 x c) id
 generalize hC:s3.heap.objs.size=C at*
 have stk:∀b,b≠X.env.locals->b∉X.fs->b∉kj X.stack:=λb h1 h2 z=>(JL.mp (I3.IF b z)).elim h1 h2
 have apart:∀b∈fp,∀x c,cl.lookup x=ZA c->c≠b:=λb hb x c e=>by
  rcases cl1 x c e with z|z
  ·exact(f3 b hb).2.2.2.2.1 x c z
  ·obtain⟨o,eo,_⟩:=T.obj _ _ st3 b hb
   have h1:=JM eo;rw[hC]at h1;exact M0 (RA h1 z.1)
 have I4:Inv (ba X scope cl N' C s3 H3 fp) ca (dt src σ) H3 {s3 with heap:=h₁}:=by
  refine⟨⟨I3.ok.mod,S.kind,I3.ok.glob,I3.ok.blt,LS hC,c2,λx hx=>?_,λx c hx e=>Mf (hC▸c5 x c (dI (beq_iff_eq.mp hx)) e),I3.ok.hd,I3.ok.frames,.inl rfl,
    λb hb=>⟨?_,λx c e=>apart b hb x c e⟩,I3.bs,J5 I3.ok.bsz I3.sz,λb o e z=>?_,λb hb=>stk b (f3 b hb).2.1 (f3 b hb).2.2.1,I3.stack,I3.Ip⟩,
   rfl,I3.bare,Un.kept old,⟨_,hns₁,λj x v e1 e2 e3=>?_⟩,λx c e=>?_,I3.hok.fresh (LS hC),λx c e=>(cl1 x c e).elim (I3.freeC x c) λz=>I3.hok.fresh (by rw[hC];exact Mf z.1),λp hp=>?_,I3.hok.kept old,?_⟩
  ·have key:∀k,(relabel scope X.env).names.lookup x=ZA k->(k=.cell\/k=.free)->∃c,cl.lookup x=ZA c:=λk e hk=>by
    obtain⟨k',e',z⟩:=fA e
    have hk':k'=.cell\/k'=.free:=z.elim (λz=>z▸hk) .inr
    rcases hk' with q|q
    ·exact c4 x (.inl (q▸dI e'))
    ·exact c4 x (.inr (cl02 x (q▸dI e')))
   rcases hx with hx|hx
   ·exact key _ hx (.inl rfl)
   ·exact key _ hx (.inr rfl)
  ·obtain⟨o,eo,_⟩:=T.obj _ _ st3 b hb
   show b≠C
   exact below b o eo
  ·have z':b∈fp:=z
   obtain⟨_,_,_,z1,_⟩:=f3 b z';rcases z1 with z1|z1
   ·exact I3.ok.noex b o e z1
   ·exact absurd (JS (JM (I3.ok.bs b o e).1) z1) (J3 _)
  ·unfold dt at e2
   rw[Ko]at e2
   cases q:src[j]? with
   |none=>rw[q]at e2;simp at e2
   |some o=>
    rw[q]at e2
    cases o with
    |none=>simp at e2
    |some i=>
     have e2':(σ[i]?).join=ZA v:=by simpa using e2
     have e2'':σ[i]?=ZA (ZA v):=by
      cases q2:σ[i]? with
      |none=>rw[q2]at e2';simp at e2'
      |some z=>rw[q2]at e2';simp at e2';rw[e2']
     obtain⟨hN,hfree⟩:=S.from_ j i x q e1
     have hm:=dI hfree
     have hk:=S.free x hm;obtain⟨m,hn,hl⟩:=I3.loc
     have hv:vn X.env.scope x:=by
      rcases hk with z|z
      ·exact .inr (.inl z)
      ·exact .inr (.inr z)
     obtain⟨u,r,l⟩:=hl i x v hN e2'' hv;refine⟨u,r,.inr ⟨?_,?_⟩⟩
     ·exact eU hfree
     ·rcases l with⟨z,_⟩|⟨_,c,ec,ic⟩
      ·rcases hk with z'|z' <;> rw[z']at z <;> cases z
      ·obtain⟨c',ec0⟩:=cl02 x hm
       have ec':cl.lookup x=ZA c':=(c3 x λz=>by have:=S.cel _ z rfl;rw[hfree]at this;cases this).trans ec0
       have:=cl01 x c' ec0;rw[ec]at this;cases this;obtain⟨o,ho,hd⟩:=ic;exact⟨c,ec',o,old _ _ ho,hd⟩
  ·rcases cl1 x c e with z|z
   ·obtain⟨v,o,ho,hd⟩:=I3.cell x c z
    exact⟨v,o,old _ _ ho,hd⟩
   ·exact⟨ZB,z.2⟩
  ·obtain⟨e,n,ne,nf,d⟩:=I3.pin p hp
   exact⟨old _ _ e,n,below _ _ e,stk _ ne nf,d⟩
  ·show(dt src σ).length=N'.length
   unfold dt;rw[JE];exact S.len
 obtain⟨bG,bI,bE⟩:=block cl C s3 H3 fp
 have stat:∀{H':Hp},(∀b∈fp,H' b=ZB)->∀b∈fp,gZ (ba X scope cl N' C s3 H3 fp) ca H' b:=λhn b hb=>by
  obtain⟨o,eo,_⟩:=T.obj _ _ st3 b hb;exact⟨hn b hb,below b o eo,stk b (f3 b hb).2.1 (f3 b hb).2.2.1,.inl hb,apart b hb,(f3 b hb).2.2.2.2.2⟩
 have st4:tn 0 h₁:=T.keep _ _ _ st3 λb hb o e=>old b o e
 have after:∀(H':Hp)(s':JB)(σ':St),Inv (ba X scope cl N' C s3 H3 fp) ca σ' H' s'->Q (.ref D) H' →
   PV (ZK X.prog X.w) X.A X.xe use Qf (.ref D) C (.ok .next) s':=λH' s' σ' I' q=>by
  obtain⟨m,hn,_⟩:=id I'.loc
  have fC:X.s₀.heap.objs.size<=C:=by rw[<-hC];exact I3.sz
  have ltC:∀b o,s3.heap.get? b=ZA o->b<C:=λb o e=>by rw[<-hC];exact JM e
  refine hend D C H' s' ⟨m,hn⟩ (λh' hsb=>?_) ⟨I'.free,?_,fC,λx c e z=>?_,λp hp z=>?_⟩ q
  rotate_left
  ·have:=I3.lt;rw[hC]at this;exact M0 this
  ·obtain⟨v,ic⟩:=I3.cell x c e
   have:=ic.lt;rw[hC,z]at this;exact J3 _ this
  ·have:=ltC _ _ (I3.pin p hp).1;rw[z]at this;exact J3 _ this
  have u:Un (kj X.stack) fp H3 H' s3.heap s'.heap:=I'.base
  have lift:∀b o,s3.heap.get? b=ZA o->∀o',s'.heap.get? b=ZA o'->h'.get? b=ZA o':=λb o e o' e'=>hsb.extBut b o' (below b o e) e'
  have u':Un (kj X.stack) fp H3 H' s3.heap h':=
   ⟨λb o e n hb hx=>lift b o e o (u.keep b o e n hb hx),λb o e n hb hx=>by
     obtain⟨sl,z⟩:=u.slot b o e n hb hx;exact⟨sl,lift b o e _ z⟩,u.free,λb o e hx=>by
     obtain⟨o',z⟩:=u.there b o e hx;exact⟨o',lift b o e _ z⟩,u.tups,u.frzs,u.tbls⟩
  have hCn:H' C=ZB:=I'.free
  have hok':HOk X.prog X.w H' h':=λb ob e=>by
   refine(I'.hok b ob e).IA (λc w' hc' q'=>(hsb.2 c ?_).trans q') (λ_ q=>q) λ_ _ q=>q
   rintro rfl
   rcases hc' with rfl|hc'
   ·rw[hCn]at e;cases e
   ·rw[hCn]at hc';cases hc'
  have I5:Inv X ca σ H' {s' with heap:=h'}:=I3.IM (s':={s' with heap:=h'}) (ch:=fp) I'.os u' hok' I'.bare λb hb=>⟨(f3 b hb).2.2.2.1,(f3 b hb).2.1,(f3 b hb).2.2.2.2.1,(f3 b hb).2.2.2.2.2⟩
  exact I5
 have loop:codeAny (ZK X.prog X.w) X.A (.compLoop (.ListComp elt [⟨tg,iter,ifs,0⟩] scope pos) 0 (.ref it) (.ref D) (compEnvC scope cl C X.env))
   (PV (ZK X.prog X.w) X.A X.xe use Qf (.ref D) C) {s3 with heap:=h₁}:=by
  refine qf (λn s'=>∃i σ' ys H',Inv (ba X scope cl N' C s3 H3 fp) ca σ' H' s'/\tn i s'.heap/\(∀b∈fp,H' b=ZB)/\W i n σ' ys H') ?_ m0 ⟨0,_,[],H3,I4,st4,fr3,w0⟩
  rintro n s5 ⟨i,σ5,ys,H5,I5,st5,fr5,w5⟩
  obtain⟨hDl,alt⟩:=turn i n σ5 ys H5 w5;rcases alt with⟨stop,qn⟩|⟨go,hlen,step⟩
  ·refine bN (T.done (ba X scope cl N' C s3 H3 fp) rfl rfl rfl hc i ca s5 σ5 H5 _ I5 (stat fr5) st5 stop) λr s6 ⟨hr,I6⟩=>?_
   subst hr;exact after H5 s6 σ5 I6 qn
  ·refine bN (T.item (ba X scope cl N' C s3 H3 fp) rfl rfl rfl hc i ca s5 σ5 H5 _ I5 (stat fr5) st5 go) λr s6 ⟨u,hr,h6⟩=>?_
   subst hr;refine bN h6 λ_ s7 hh_=>?_
   obtain⟨x,H7,I7,r7,y7,st7,fr7⟩:=hh_
   have I7':=I7.pinned (stat fr7) (T.obj _ _ st7);refine bN (bG _ s7 σ5 H7 x u _ I7' r7 (step x H7 y7)) λ_ s8 hh_=>?_
   obtain⟨σ8,H8,I8,q8⟩:=hh_;refine bN (bI _ s8 σ8 H8 _ I8 q8) λok s9 hh_=>?_
   obtain⟨H9,I9,q9⟩:=hh_
   have again:∀{σx:St}{Hx:Hp}{sx:JB}{ys':List V},Inv (ba X scope cl N' C s3 H3 fp) (ca++jx fp s7.heap) σx Hx sx->(∃m',m'<n/\W (i+1) m' σx ys' Hx) →
     ∃m,m<n/\∃i σ' ys H',Inv (ba X scope cl N' C s3 H3 fp) ca σ' H' sx/\tn i sx.heap/\(∀b∈fp,H' b=ZB)/\W i m σ' ys H':=λ{σx Hx sx ys'} Ix nx=>by
    obtain⟨m',hm,wx⟩:=nx;refine⟨m',hm,i+1,σx,ys',Hx,Ix.GM,T.keep _ _ _ st7 λb hb o e=>(Ix.pin (b,o) (JV _ (JV _ (df hb e)))).1,λb hb=>?_,wx⟩
    obtain⟨o,e,d⟩:=T.obj _ _ st7 b hb;exact(Ix.pin (b,o) (JV _ (JV _ (df hb e)))).2.1
   cases ok with
   |false=>
    rw[if_neg J7]at q9 ⊢
    exact again I9 q9
   |true=>
    rw[if_pos rfl]at q9 ⊢;refine bN (bE _ s9 σ8 H9 _ I9 q9) λv s10 hh_=>?_
    obtain⟨y,H10,I10,r10,hD10,q10⟩:=hh_;refine bN (kC _ s10 σ8 H10 (.ref D) [y] (.ref D) [v] (λ_ H'=>H'=upd H10 D (.lst (ys++[y]))) I10 rfl (.cons r10 .nil) ⟨D,ys,y,rfl,rfl,hD10,hlen,rfl⟩) λ_ s11 hh_=>?_
    obtain⟨_,H11,I11,_,e11⟩:=hh_;subst e11;exact again I11 q10
 exact codeAny_compStart_list loop (T.self _ 0 _ _ _ st4 loop)
def x5{pos:Pos}{src:List (Option Nat)}
  (hc:X.calm=ZC) (S:LcScope X scope N' src) (hi:PI X tg iter wi)
  (block:∀cl C s₀ H₀ fp,PG (ba X scope cl N' C s₀ H₀ fp) tg g/\sr (ba X scope cl N' C s₀ H₀ fp) ifs tc/\PE (ba X scope cl N' C s₀ H₀ fp) elt te)
  (hs:autoParam (∀x,J8 iter X.env x=pure x) t_):
  PE X (.ListComp elt [⟨tg,iter,ifs,0⟩] scope pos) (C5 X.K wi src g tc te):=by
 intro ca s σ H Q I h;rw[eval_ListComp];exact uH (use:=ZB) hc S hi block hs I h λD C H' s' ⟨m,hn⟩ inv _ q=>⟨m,hn,λh' hsb=>⟨.ref D,H',inv h' hsb,rfl,q⟩⟩
def GU{pos py spos:Pos}{src:List (Option Nat)}{i:Nat}{y:Str}
  (hc:X.calm=ZC) (S:LcScope X scope N' src) (hi:PI X tg iter wi)
  (block:∀cl C s₀ H₀ fp,PG (ba X scope cl N' C s₀ H₀ fp) tg g/\sr (ba X scope cl N' C s₀ H₀ fp) ifs tc/\PE (ba X scope cl N' C s₀ H₀ fp) elt te)
  (hN:X.N.Nodup) (hiy:X.N[i]?=ZA y) (hy:Loc X.env.scope y) (hsw:Lx (.ListComp elt [⟨tg,iter,ifs,0⟩] scope pos) (ZA (.Name y py)) spos.line X.env=pure ZC)
  (hf:X.fn y=ZC\/X.env.scope.names.lookup y=ZA .local) (hs:autoParam (∀x,J8 iter X.env x=pure x) t_):
  PS X (.Assign [.Name y py] (.ListComp elt [⟨tg,iter,ifs,0⟩] scope pos) spos) (xt (C5 X.K wi src g tc te) (zc i)):=by
 intro ca s σ H D I h;rw[exec_Assign_Name_used _ _ _ _ hsw];refine Jy (NQ (Jy ?_))
 show ZJ (ZK X.prog X.w) X.A (do let _ <-NR (.ListComp elt [⟨tg,iter,ifs,0⟩] scope pos) scope X.env _ (newList []) ZD (eval iter X.env) (ZA (assign (.Name y py) X.env))) _ _ s
 refine Jy (bN (uH (use:=ZA (assign (.Name y py) X.env)) (Qf:=λ_ s'=>SP X ca D .next s') (Q:=λv H'=>D.nx (σ.set i (ZA v)) H') hc S hi block hs I h λL C H' s' ⟨m,hn⟩ inv ⟨c0,c1,c2,c3,c4⟩ q=>?_) λ_ s' hq=>JK (JK hq))
 have I0:Inv X ca σ H' s':=inv s'.heap (Heap.SameBut.refl ..)
 show ZJ (ZK X.prog X.w) X.A (assign (.Name y py) X.env (.ref L)) _ _ s'
 refine Rt (nH I0 hN hiy hy (v:=.ref L) rfl (λs2 I2 ⟨b,sb,hb⟩=>?_) hf)
 have hbC:C≠b:=by
  rcases hb with z|z
  ·rw[z];exact c1
  ·exact λw=>c3 y b z w.symm
 refine⟨m,hn.sameBut sb hbC,λh' hsb=>?_⟩
 exact⟨_,H',I2.turned (t':=s2.toks) (λb' o hb' e=>(hsb.2 b' hb').trans e) c0 c1 (.inr c2) c3 c4,q⟩
end L2
namespace Tr
open PySem PySem.Spec PyProof.Rows L2
def Ft(K:Jz)(c:Str):ZE:=match MZ K Km c with
 |some (ZA (.ref C))=>C
 |_=>0
def CB:T->Option Key
 |.int i=>ZA (.inl i)
 |.str x=>ZA (.inr x)
 |_=>ZB
def mq:List T->Option (List Key)
 |[] =>ZA []
 |t::l=>match CB t,mq l with
  |some k,ZA r=>ZA (k::r)
  |_,_=>ZB
def keyOf:T->Option (List Key)
 |.tup l=>mq l
 |_=>ZB
inductive Rs (α:Type) where
 |ok (a:α)|err (c:Str)|bad
def Rs.bind{α β:Type}(x:Rs α)(f:α->Rs β):Rs β:=match x with
 |.ok a=>f a
 |.err c=>.err c
 |.bad=>.bad
instance:Monad Rs where
 pure:=Rs.ok
 bind:=Rs.bind
@[simp] theorem aA {α β:Type} (a:α) (f:α->Rs β):(Rs.ok a >>= f)=f a:=rfl
@[simp] theorem Ih {α:Type} (a:α):(pure a:Rs α)=Rs.ok a:=rfl
@[simp] theorem HR {α β:Type} (f:α->Rs β):((Rs.bad:Rs α) >>= f)=.bad:=rfl
@[simp] theorem HE {α β:Type} (c:Str) (f:α->Rs β):((Rs.err c:Rs α) >>= f)=.err c:=rfl
abbrev Ow:=ZE->Prop
def ObN(O:Ow)(H:Hp)(a dx:ZE)(fs:List (Str×V)):Prop:=(¬O a/\¬ O dx/\H dx=ZA (.own a))/\∃as:List ZE,fs.map (·.2)=as.map V.ref/\a∉as/\dx∉as/\dx≠a/\as.Nodup/\(fs.map (·.1)).Nodup
mutual
def Rep(K:Jz)(O:Ow)(H:Hp):T->V->Prop
 |.non,v=>v=.non
 |.bl b,v=>v=.bl b
 |.int i,v=>v=.int i
 |.str x,v=>v=.str x
 |.tup l,v=>∃a vs,v=.ref a/\¬ O a/\H a=ZA (.tup vs)/\Reps K O H l vs
 |.lst l,v=>∃a vs,v=.ref a/\¬ O a/\H a=ZA (.lst vs)/\Reps K O H l vs
 |.scr l,v=>∃a,v=.ref a/\¬ O a/\SqL K H a (l.map V.int)
 |.dct ks ts,v=>∃a kvs,v=.ref a/\¬ O a/\Rd H a (.dT kvs)/\ks.map keyOf=kvs.map (λp=>ZA p.1)/\Reps K O H ts (kvs.map (·.2))
 |.ob C ns ts,v=>∃a dx fs,v=.ref a/\ObN O H a dx fs/\H a=ZA (.ins (Ft K C) dx fs)/\fs.map (·.1)=ns/\Reps K O H ts (fs.map (·.2))
def Reps(K:Jz)(O:Ow)(H:Hp):List T->List V->Prop
 |[],vs=>vs=[]
 |t::r,vs=>∃v ws,vs=v::ws/\Rep K O H t v/\Reps K O H r ws
end
def SameO(P:Ow)(H H':Hp):Prop:=∀b o,H b=ZA o->¬ P b->H' b=ZA o
variable{H H':Hp}{P:Ow}
def SameO.of(h:Same H H'):SameO P H H':=λb o e _=>h b o e
variable{a:ZE}
def Rd.IZ{u:HO}(h:SameO P H H')(n:¬ P a)(q:Rd H a u):Rd H' a u:=q.elim (λe=>.inl (h _ _ e n)) λ⟨o,e⟩=>.inr ⟨o,h _ _ e n⟩
variable{vs:List V}
def SqL.keep(h:SameO P H H')(n:¬ P a)(q:SqL K H a vs):SqL K H' a vs:=by
 rcases q with(q|⟨o,q⟩)|q
 ·exact .inl (.inl (h _ _ q n))
 ·exact .inl (.inr ⟨o,h _ _ q n⟩)
 ·exact .inr q
mutual
theorem Rep.keep{K:Jz}{O P:Ow}{H H':Hp}(h:SameO P H H')(sub:∀a,P a->O a):∀{t:T}{v:V},Rep K O H t v->Rep K O H' t v
 |.non,_,r=>by unfold Rep at r ⊢;exact r
 |.bl _,_,r=>by unfold Rep at r ⊢;exact r
 |.int _,_,r=>by unfold Rep at r ⊢;exact r
 |.str _,_,r=>by unfold Rep at r ⊢;exact r
 |.tup l,_,r=>by
  unfold Rep at r ⊢;obtain⟨a,vs,e,n,q,z⟩:=r
  exact⟨a,vs,e,n,h _ _ q (λp=>n (sub a p)),Reps.keep h sub z⟩
 |.lst l,_,r=>by
  unfold Rep at r ⊢;obtain⟨a,vs,e,n,q,z⟩:=r
  exact⟨a,vs,e,n,h _ _ q (λp=>n (sub a p)),Reps.keep h sub z⟩
 |.scr l,_,r=>by
  unfold Rep at r ⊢;obtain⟨a,e,n,q⟩:=r
  exact⟨a,e,n,SqL.keep h (λp=>n (sub a p)) q⟩
 |.dct ks ts,_,r=>by
  unfold Rep at r ⊢;obtain⟨a,kvs,e,n,q,k,z⟩:=r
  exact⟨a,kvs,e,n,Rd.IZ h (λp=>n (sub a p)) q,k,Reps.keep h sub z⟩
 |.ob C ns ts,_,r=>by
  unfold Rep at r ⊢;obtain⟨a,dx,fs,e,n,q,k,z⟩:=r;exact⟨a,dx,fs,e,⟨⟨n.1.1,n.1.2.1,h _ _ n.1.2.2 λp=>n.1.2.1 (sub dx p)⟩,n.2⟩,h _ _ q (λp=>n.1.1 (sub a p)),k,Reps.keep h sub z⟩
theorem Reps.keep{K:Jz}{O P:Ow}{H H':Hp}(h:SameO P H H')(sub:∀a,P a->O a):∀{l:List T}{vs:List V},Reps K O H l vs->Reps K O H' l vs
 |[],_,r=>by unfold Reps at r ⊢;exact r
 |t::l,_,r=>by
  unfold Reps at r ⊢;obtain⟨v,ws,e,p,q⟩:=r;exact⟨v,ws,e,Rep.keep h sub p,Reps.keep h sub q⟩
end
mutual
theorem Rep.less{K:Jz}{O O':Ow}{H:Hp}(sub:∀a,O' a->O a):∀{t:T}{v:V},Rep K O H t v->Rep K O' H t v
 |.non,_,r=>by unfold Rep at r ⊢;exact r
 |.bl _,_,r=>by unfold Rep at r ⊢;exact r
 |.int _,_,r=>by unfold Rep at r ⊢;exact r
 |.str _,_,r=>by unfold Rep at r ⊢;exact r
 |.tup l,_,r=>by
  unfold Rep at r ⊢;obtain⟨a,vs,e,n,q,z⟩:=r
  exact⟨a,vs,e,λp=>n (sub a p),q,Reps.less sub z⟩
 |.lst l,_,r=>by
  unfold Rep at r ⊢;obtain⟨a,vs,e,n,q,z⟩:=r
  exact⟨a,vs,e,λp=>n (sub a p),q,Reps.less sub z⟩
 |.scr l,_,r=>by
  unfold Rep at r ⊢;obtain⟨a,e,n,z⟩:=r
  exact⟨a,e,λp=>n (sub a p),z⟩
 |.dct ks ts,_,r=>by
  unfold Rep at r ⊢;obtain⟨a,kvs,e,n,q,k,z⟩:=r
  exact⟨a,kvs,e,λp=>n (sub a p),q,k,Reps.less sub z⟩
 |.ob C ns ts,_,r=>by
  unfold Rep at r ⊢;obtain⟨a,dx,fs,e,n,q,k,z⟩:=r;exact⟨a,dx,fs,e,⟨⟨λp=>n.1.1 (sub a p),λp=>n.1.2.1 (sub dx p),n.1.2.2⟩,n.2⟩,q,k,Reps.less sub z⟩
theorem Reps.less{K:Jz}{O O':Ow}{H:Hp}(sub:∀a,O' a->O a):∀{l:List T}{vs:List V},Reps K O H l vs->Reps K O' H l vs
 |[],_,r=>by unfold Reps at r ⊢;exact r
 |t::l,_,r=>by
  unfold Reps at r ⊢;obtain⟨v,ws,e,p,q⟩:=r;exact⟨v,ws,e,Rep.less sub p,Reps.less sub q⟩
end
variable{O:Ow}{l ts:List T}{v:V}
section
variable {t:T}
def Rep.same(h:Same H H')(r:Rep K O H t v):Rep K O H' t v:=Rep.keep (P:=λ_=>False) (SameO.of h) (λ_ z=>z.elim) r
def Reps.same(h:Same H H')(r:Reps K O H l vs):Reps K O H' l vs:=Reps.keep (P:=λ_=>False) (SameO.of h) (λ_ z=>z.elim) r
def Rep.IR:Rep K O H .non .non:=by unfold Rep;rfl
def Rep.bl_(b:Bool):Rep K O H (.bl b) (.bl b):=by unfold Rep;rfl
def Rep.Iv(i:Int):Rep K O H (.int i) (.int i):=by unfold Rep;rfl
def Rep.IG(x:Str):Rep K O H (.str x) (.str x):=by unfold Rep;rfl
def Rep.FB:Rep K O H (.tup l) v↔ ∃a vs,v=.ref a/\¬ O a/\H a=ZA (.tup vs)/\Reps K O H l vs:=by unfold Rep;exact NX
def Rep.Fk:Rep K O H (.lst l) v↔ ∃a vs,v=.ref a/\¬ O a/\H a=ZA (.lst vs)/\Reps K O H l vs:=by unfold Rep;exact NX
def Rep.Iq{ks:List T}:Rep K O H (.dct ks ts) v↔ ∃a kvs,v=.ref a/\¬ O a/\Rd H a (.dT kvs)/\ks.map keyOf=kvs.map (λp=>ZA p.1)/\Reps K O H ts (kvs.map (·.2)):=by unfold Rep;exact NX
def Rep.IT{C:Str}{ns:List Str}:Rep K O H (.ob C ns ts) v↔ ∃a dx fs,v=.ref a/\ObN O H a dx fs/\H a=ZA (.ins (Ft K C) dx fs)/\fs.map (·.1)=ns/\Reps K O H ts (fs.map (·.2)):=by unfold Rep;exact NX
def Rep.Do:Rep K O H (.int i) v↔v=.int i:=by unfold Rep;exact NX
def Rep.Gc{b:Bool}:Rep K O H (.bl b) v↔v=.bl b:=by unfold Rep;exact NX
def Rep.FS{b:Str}:Rep K O H (.str b) v↔v=.str b:=by unfold Rep;exact NX
def Rep.Iy:Rep K O H .non v↔v=.non:=by unfold Rep;exact NX
def Reps.GT:Reps K O H [] []:=by unfold Reps;rfl
def Reps.GE(r:Rep K O H t v)(q:Reps K O H l vs):Reps K O H (t::l) (v::vs):=by unfold Reps;exact⟨v,vs,rfl,r,q⟩
def Reps.Da:Reps K O H [] vs↔vs=[]:=by unfold Reps;exact NX
def Reps.AC:Reps K O H (t::l) vs↔ ∃v ws,vs=v::ws/\Rep K O H t v/\Reps K O H l ws:=by
 constructor
 ·intro h;unfold Reps at h;exact h
 ·intro h;unfold Reps;exact h
end
theorem Reps.length:∀{l:List T}{vs:List V},Reps K O H l vs->l.length=vs.length
 |[],vs,r=>by rw[Reps.Da.mp r];rfl
 |t::l,vs,r=>by
  obtain⟨v,ws,rfl,_,q⟩:=Reps.AC.mp r;simp[q.length]
theorem Reps.get:∀{l:List T}{vs:List V}{i:Nat}{t:T},Reps K O H l vs->l[i]?=ZA t->∃v,vs[i]?=ZA v/\Rep K O H t v
 |[],_,_,_,_,e=>by simp at e
 |t::l,vs,i,u,r,e=>by
  obtain⟨v,ws,rfl,p,q⟩:=Reps.AC.mp r
  cases i with
  |zero=>simp at e;subst e;exact⟨v,rfl,p⟩
  |succ i=>
   obtain⟨z,e1,e2⟩:=q.get (i:=i) (t:=u) (by simpa using e)
   exact⟨z,by simpa using e1,e2⟩
theorem Reps.append:∀{l m:List T}{vs ws:List V},Reps K O H l vs->Reps K O H m ws->Reps K O H (l++m) (vs++ws)
 |[],_,vs,_,r,s=>by rw[Reps.Da.mp r];exact s
 |t::l,m,vs,ws,r,s=>by
  obtain⟨v,us,rfl,p,q⟩:=Reps.AC.mp r;exact Reps.GE p (q.append s)
theorem Reps.take:∀{l:List T}{vs:List V}(n:Nat),Reps K O H l vs->Reps K O H (l.take n) (vs.take n)
 |_,_,0,_=>Reps.GT
 |[],vs,n+1,r=>by rw[Reps.Da.mp r];exact Reps.GT
 |t::l,vs,n+1,r=>by
  obtain⟨v,us,rfl,p,q⟩:=Reps.AC.mp r;exact Reps.GE p (q.take n)
theorem Reps.drop:∀{l:List T}{vs:List V}(n:Nat),Reps K O H l vs->Reps K O H (l.drop n) (vs.drop n)
 |_,_,0,r=>r
 |[],vs,n+1,r=>by rw[Reps.Da.mp r];exact Reps.GT
 |t::l,vs,n+1,r=>by
  obtain⟨v,us,rfl,p,q⟩:=Reps.AC.mp r;exact q.drop n
theorem Reps.ints:∀{ns:List Int},Reps K O H (ns.map T.int) (ns.map V.int)
 |[] =>Reps.GT
 |n::r=>Reps.GE (Rep.Iv n) Reps.ints
def RowsR(K:Jz)(O:Ow)(H:Hp):List (List T×List T)->List ZE->Prop
 |[],as=>as=[]
 |r::rs,as=>∃b bs kvs,as=b::bs/\H b=ZA (.dT kvs)/\r.1.map keyOf=kvs.map (λp=>ZA p.1)/\Reps K O H r.2 (kvs.map (·.2))/\RowsR K O H rs bs
def LsR(K:Jz)(O:Ow)(H:Hp):List (List T)->List ZE->Prop
 |[],as=>as=[]
 |l::ls,as=>∃b bs vs,as=b::bs/\H b=ZA (.lst vs)/\Reps K O H l vs/\LsR K O H ls bs
def ORep(K:Jz)(O M:Ow)(H:Hp):OT->V->Prop
 |.lst l,v=>∃a vs,v=.ref a/\(∀b,M b↔b=a)/\H a=ZA (.lst vs)/\Reps K O H l vs
 |.dct ks ts,v=>∃a kvs,v=.ref a/\(∀b,M b↔b=a)/\H a=ZA (.dT kvs)/\ks.map keyOf=kvs.map (λp=>ZA p.1)/\Reps K O H ts (kvs.map (·.2))
 |.dd ks rows,v=>∃a kvs as,v=.ref a/\(∀b,M b↔b=a\/b∈as)/\a∉as/\as.Nodup/\H a=ZA (.dT kvs)/\ks.map keyOf=kvs.map (λp=>ZA p.1)/\kvs.map (·.2)=as.map V.ref/\RowsR K O H rows as
 |.ob C ns ls,v=>∃a dx as,v=.ref a/\(∀b,M b↔b=a\/b=dx\/b∈as)/\(a∉as/\dx∉as/\dx≠a/\as.Nodup)/\H a=ZA (.ins (Ft K C) dx (ns.zip (as.map V.ref)))/\H dx=ZA (.own a)/\ns.length=as.length/\ns.Nodup/\LsR K O H ls as
 |.ll ls,v=>∃a as,v=.ref a/\(∀b,M b↔b=a\/b∈as)/\a∉as/\as.Nodup/\H a=ZA (.lst (as.map V.ref))/\LsR K O H ls as
inductive Sl where
 |em|va (t:T)|ow (o:OT)
abbrev En:=List Sl
abbrev V7:=En->Rs Bool
abbrev V6:=En->Rs T
abbrev V4:=En->Rs (List T)
abbrev Mn:=Nat->Ow
def Mn.u(M:Mn):Ow:=λa=>∃i,M i a
def isO:HO->Bool
 |.ins _ _ _=>ZC
 |.own _=>ZC
 |_=>ZD
def Mtb(H:Hp)(a:ZE):Prop:=(∃vs,H a=ZA (.lst vs))\/(∃kvs,H a=ZA (.dT kvs))\/∃o,H a=ZA o/\isO o=ZC
def Mtb.some(h:Mtb H a):∃o,H a=ZA o:=by
 rcases h with⟨_,e⟩|⟨_,e⟩|⟨_,e,_⟩ <;> exact⟨_,e⟩
def Mtb.at(s:∀o,H a=KH o->H' a=KH o)(h:Mtb H a):Mtb H' a:=by
 rcases h with⟨vs,e⟩|⟨k,e⟩|⟨o,e,q⟩
 ·exact .inl ⟨vs,s _ e⟩
 ·exact .inr (.inl ⟨k,s _ e⟩)
 ·exact .inr (.inr ⟨o,s _ e,q⟩)
def Mtb.same(s:Same H H')(h:Mtb H a):Mtb H' a:=h.at λo e=>s a o e
structure EnvM (K:Jz)(O:Ow)(M:Mn)(H:Hp)(ρ:En)(σ:L2.St):Prop where
 len:ρ.length=σ.length
 val:∀(i:Nat)(t:T),ρ[i]?=ZA (.va t)->∃v,σ[i]?=ZA (ZA v)/\Rep K O H t v
 own:∀(i:Nat)(o:OT),ρ[i]?=ZA (.ow o)->∃v,σ[i]?=ZA (ZA v)/\ORep K O (M i) H o v
 sub:∀(i:Nat)(a:ZE),M i a->O a
 dis:∀(i j:Nat)(a:ZE),M i a->M j a->i=j
 trk:∀(a:ZE),O a->Mtb H a
theorem RowsR.same(h:Same H H'):∀{rs:List (List T×List T)}{as:List ZE},RowsR K O H rs as->RowsR K O H' rs as
 |[],_,r=>r
 |_::_,_,⟨b,bs,kvs,e1,e2,e3,e4,e5⟩=>⟨b,bs,kvs,e1,h _ _ e2,e3,e4.same h,e5.same h⟩
theorem LsR.same(h:Same H H'):∀{ls:List (List T)}{as:List ZE},LsR K O H ls as->LsR K O H' ls as
 |[],_,r=>r
 |_::_,_,⟨b,bs,vs,e1,e2,e3,e4⟩=>⟨b,bs,vs,e1,h _ _ e2,e3.same h,e4.same h⟩
theorem ORep.same{M:Ow}(h:Same H H'){o:OT}(r:ORep K O M H o v):ORep K O M H' o v:=by
 cases o with
 |lst l=>obtain⟨a,vs,e1,e2,e3,e4⟩:=r;exact⟨a,vs,e1,e2,h _ _ e3,e4.same h⟩
 |dct ks ts=>obtain⟨a,kvs,e1,e2,e3,e4,e5⟩:=r;exact⟨a,kvs,e1,e2,h _ _ e3,e4,e5.same h⟩
 |dd ks rows=>obtain⟨a,kvs,as,e1,e2,e3,e4,e5,e6,e7,e8⟩:=r;exact⟨a,kvs,as,e1,e2,e3,e4,h _ _ e5,e6,e7,e8.same h⟩
 |ob C ns ls=>obtain⟨a,dx,as,e1,e2,e3,e4,e5,e6,e7,e8⟩:=r;exact⟨a,dx,as,e1,e2,e3,h _ _ e4,h _ _ e5,e6,e7,e8.same h⟩
 |ll ls=>obtain⟨a,as,e1,e2,e3,e4,e5,e6⟩:=r;exact⟨a,as,e1,e2,e3,e4,h _ _ e5,e6.same h⟩
variable{ρ:En}{σ:L2.St}
theorem EnvM.same{M:Mn}(h:Same H H')(e:EnvM K O M H ρ σ):EnvM K O M H' ρ σ where
 len:=e.len
 val:=λi t q=>let ⟨v,e1,e2⟩:=e.val i t q;⟨v,e1,e2.same h⟩
 own:=λi o q=>let ⟨v,e1,e2⟩:=e.own i o q;⟨v,e1,e2.same h⟩
 sub:=e.sub
 dis:=e.dis
 trk:=λa q=>(e.trk a q).same h
def EnvO(K:Jz)(O:Ow)(H:Hp)(ρ:En)(σ:L2.St):Prop:=∃M,EnvM K O M H ρ σ
variable{p:ZE}
theorem EnvO.val(e:EnvO K O H ρ σ)(i:Nat)(t:T)(q:ρ[i]?=ZA (.va t)):∃v,σ[i]?=ZA (ZA v)/\Rep K O H t v:=e.elim λ_ e=>e.val i t q
def EnvO.mtb(e:EnvO K O H ρ σ):∀a,O a->Mtb H a:=e.elim λ_ e=>e.trk
def EnvO.trk(e:EnvO K O H ρ σ)(a:ZE)(z:O a):∃o,H a=ZA o:=(e.mtb a z).some
theorem EnvO.same(h:Same H H')(e:EnvO K O H ρ σ):EnvO K O H' ρ σ:=e.elim λM e=>⟨M,e.same h⟩
def EnvO.fresh(e:EnvO K O H ρ σ)(h:H p=ZB):¬ O p:=λz=>by
 obtain⟨o,q⟩:=e.trk p z;rw[h]at q;cases q
def Flt(h:ZH)(C e:ZE):Option ZE->Prop
 |none=>∃oe vs,h.get? e=ZA oe/\oe.cls=.ref C/\oe.data=.fields vs/\vs[1]?=ZA .none
 |some T=>T≠e/\∃oe vs,h.get? e=ZA oe/\oe.cls=.ref C/\oe.data=.fields vs/\vs[1]?=ZA (.ref T)/\∃oT ts,h.get? T=ZA oT/\oT.data=.fields ts/\ts[3]?=ZA .none
def RzP(X:Cx)(ca:V3)(P:Ow)(H:Hp)(c:Str)(ev:JD)(s':JB):Prop:=
 ∃e T C σ' H',ev=.ref e/\X.mg c=ZA (.ref C)/\Inv X ca σ' H' s'/\SameO P H H'/\H' e=ZB/\(X.ex=[]->X.s₀.heap.get? e=ZB)/\Flt s'.heap C e T/\(∀t,T=ZA t->H' t=ZB/\(X.ex=[]->X.s₀.heap.get? t=ZB))/\∀p∈X.pn++ca,p.1≠e/\T≠ZA p.1
def Nw(K:Jz)(H:Hp):Ow:=λa=>H a=ZB/\K.lookup a=ZB
variable{H1:Hp}
def eZ(h:SameO P H H1)(n:Nw K H1 a):P a\/Nw K H a:=by
 by_cases hp:P a
 ·exact .inl hp
 ·refine .inr ⟨?_,n.2⟩
  cases q:H a with
  |none=>rfl
  |some o=>have:=h a o q hp;rw[n.1]at this;cases this
def SameO.trans{P1:Ow}{H2:Hp}(h:SameO P H H1)(h1:SameO P1 H1 H2)(sub:∀a,P1 a->P a\/Nw K H a):SameO P H H2:=λb o e n=>
 h1 b o (h b o e n) λz=>(sub b z).elim n λw=>by rw[w.1]at e;cases e
def XA(X:Cx)(P:Ow)(H:Hp)(c:Str):Prop:=∀ca ev s',RzP X ca P H c ev s'->X.xe ev s'
variable{X:Cx}
def XA.later{P1:Ow}{c:Str}(h:XA X P H c)(s:SameO P H H1)(sub:∀a,P1 a->P a\/Nw X.K H a):XA X P1 H1 c:=λca ev s' ⟨e,T,C,σ',H',a1,a2,a3,a4,a5⟩=>
 h ca ev s' ⟨e,T,C,σ',H',a1,a2,a3,s.trans a4 sub,a5⟩
abbrev vW:Ow:=λ_=>False
def Post{α:Type}(X:Cx)(H:Hp)(r:Rs α)(k:α->Hp->Prop):Prop:=match r with
 |.ok t=>∀H',Same H H'->k t H'
 |.err c=>XA X vW H c
 |.bad=>False
def Post.mono{r:Rs α}{k k':α->Hp->Prop}(h:Post X H r k)(f:∀t H',Same H H'->k t H'->k' t H'):Post X H r k':=by
 cases r with
 |ok t=>exact λH' s=>f t H' s (h H' s)
 |err c=>exact h
 |bad=>exact h
theorem Post.later{r:Rs α}{k:α->Hp->Prop}(h:Post X H r k)(s:Same H H1):Post X H1 r k:=by
 cases r with
 |ok t=>exact λH' s'=>h H' (s.trans s')
 |err c=>exact XA.later h (SameO.of s) λ_ z=>z.elim
 |bad=>exact h
def Post.bind{r:Rs α}{f:α->Rs β}{k:β->Hp->Prop}(h:Post X H (r >>= f) k):Post X H r λt H'=>Post X H' (f t) k:=by
 cases r with
 |ok t=>exact λH' s=>Post.later h s
 |err c=>exact h
 |bad=>exact h
def tP(X:Cx)(f:V6):TE:=λσ H Q=>∃ρ O,EnvO X.K O H ρ σ/\Post X H (f ρ) λt H'=>∀v,Rep X.K O H' t v->Q v H'
def tPA(X:Cx)(f:V4):TA:=λσ H Q=>∃ρ O,EnvO X.K O H ρ σ/\Post X H (f ρ) λt H'=>∀v,Reps X.K O H' t v->Q v H'
def uh(X:Cx)(f:V7):TT:=λσ H Q=>∃ρ O,EnvO X.K O H ρ σ/\Post X H (f ρ) λb H'=>Q b H'
abbrev cy(X:Cx)(e:ZG)(f:V6):Prop:=PE X e (tP X f)
abbrev qu(X:Cx)(e:List ZG)(f:V4):Prop:=PA X e (tPA X f)
abbrev vp(X:Cx)(e:ZG)(f:V7):Prop:=PT X e (uh X f)
variable{e:ZG}
def PE.imp{t t':TE}(h:PE X e t)(w:∀σ H Q,t' σ H Q->t σ H Q):PE X e t':=λca s σ H Q I q=>h ca s σ H Q I (w σ H Q q)
def PA.imp{e:List ZG}{t t':TA}(h:PA X e t)(w:∀σ H Q,t' σ H Q->t σ H Q):PA X e t':=λpos ca s σ H Q I q=>h pos ca s σ H Q I (w σ H Q q)
def PT.imp{t t':TT}(h:PT X e t)(w:∀σ H Q,t' σ H Q->t σ H Q):PT X e t':=λca s σ H Q I q=>h ca s σ H Q I (w σ H Q q)
def PS.imp{e:ZF}{t t':TS}(h:PS X e t)(w:∀D σ H,t' D σ H->t D σ H):PS X e t':=λca s σ H D I q=>h ca s σ H D I (w D σ H q)
def PSs.imp{e:List ZF}{t t':TS}(h:PSs X e t)(w:∀D σ H,t' D σ H->t D σ H):PSs X e t':=λca s σ H D I q=>h ca s σ H D I (w D σ H q)
variable{es:List ZG}{f:V4}{x:Str}
def aO{f:V6}{k:T->Rs α}{Q:α->Hp->Prop}(E:EnvO X.K O H ρ σ)(h:Post X H (f ρ >>= k) Q):
  tP X f σ H λv H'=>∃t,Rep X.K O H' t v/\Same H H'/\EnvO X.K O H' ρ σ/\Post X H' (k t) Q:=
 ⟨ρ,O,E,Post.mono h.bind λt H' s q v r=>⟨t,r,s,E.same s,q⟩⟩
def dR{k:List T->Rs α}{Q:α->Hp->Prop}(E:EnvO X.K O H ρ σ)(h:Post X H (f ρ >>= k) Q):
  tPA X f σ H λv H'=>∃t,Reps X.K O H' t v/\Same H H'/\EnvO X.K O H' ρ σ/\Post X H' (k t) Q:=
 ⟨ρ,O,E,Post.mono h.bind λt H' s q v r=>⟨t,r,s,E.same s,q⟩⟩
def hG{f:V7}{k:Bool->Rs α}{Q:α->Hp->Prop}(E:EnvO X.K O H ρ σ)(h:Post X H (f ρ >>= k) Q):
  uh X f σ H λb H'=>Same H H'/\EnvO X.K O H' ρ σ/\Post X H' (k b) Q:=
 ⟨ρ,O,E,Post.mono h.bind λt H' s q=>⟨s,E.same s,q⟩⟩
noncomputable def vr(i:Nat)(ρ:En):Rs T:=match ρ[i]? with
 |some (.va t)=>.ok t
 |_=>.bad
def cn(t:T)(_:En):Rs T:=.ok t
def GC(i:Nat){pos:Pos}(hN:autoParam (X.N[i]?=ZA x) u_)(hv:autoParam (vn X.env.scope x) v_)(hd:autoParam ((x == ("__debug__" : Str))=ZD) s_)
  (hcd:autoParam ((x == ("__classdict__" : Str))=ZD) s_):cy X (.Name x pos) (vr i):=PE.imp (pA hN hv hd hcd) λσ H Q hh_=>by
 obtain⟨ρ,O,E,h⟩:=hh_;unfold vr at h
 split at h
 ·rename_i t e
  obtain⟨v,e1,e2⟩:=E.val i t e;exact⟨v,e1,h H (Same.refl H) v e2⟩
 ·exact h.elim
def GN{i j pos}:cy X (.Constant (.int i) j pos) (cn (.int i)):=PE.imp Ea λσ H Q ⟨ρ,O,E,h⟩=>h H (Same.refl H) _ (Rep.Iv i)
def q_bl{i j pos}:cy X (.Constant (.bool i) j pos) (cn (.bl i)):=PE.imp GY λσ H Q ⟨ρ,O,E,h⟩=>h H (Same.refl H) _ (Rep.bl_ i)
def GI{j pos}:cy X (.Constant .none j pos) (cn .non):=PE.imp D8 λσ H Q ⟨ρ,O,E,h⟩=>h H (Same.refl H) _ Rep.IR
def GF{i j pos}:cy X (.Constant (.str i) j pos) (cn (.str i)):=PE.imp D5 λσ H Q ⟨ρ,O,E,h⟩=>h H (Same.refl H) _ (Rep.IG i)
def DJ{u:JD}{pos:Pos}(hm:X.mg x=ZA u)(r:RelV (.int i) u)(hg:autoParam (Gl X x) u_)(hd:autoParam ((x == ("__debug__" : Str))=ZD) s_):cy X (.Name x pos) (cn (.int i)):=
 PE.imp (Bc hg hm r hd) λσ H Q ⟨ρ,O,E,h⟩=>h H (Same.refl H) _ (Rep.Iv i)
def ai(_:En):Rs (List T):=.ok []
def ae(f:V6)(g:V4)(ρ:En):Rs (List T):=do
 let t <-f ρ
 let r <-g ρ
 .ok (t::r)
def DI:qu X [] ai:=PA.imp lY λσ H Q ⟨ρ,O,E,h⟩=>h H (Same.refl H) _ Reps.GT
def AS{f:V6}{g:V4}(he:cy X e f)(hr:qu X es g)(hs:autoParam (JZ (e::es) X.env=(ZD,eval e X.env)::JZ es X.env) u_):qu X (e::es) (ae f g):=by
 intro pos ca s σ H Q I h;obtain⟨ρ,O,E,h⟩:=h;refine iM he hr hs pos ca s σ H Q I ?_
 obtain⟨ρ1,O1,E1,h1⟩:=aO E h;refine⟨ρ1,O1,E1,Post.mono h1 λt H' s q v r=>?_⟩
 obtain⟨t',r',s',E',q'⟩:=q v r;refine⟨ρ,O,E',Post.mono q'.bind λts H2 s2 q2 vs rs=>?_⟩
 exact q2 H2 (Same.refl H2) _ (Reps.GE (r'.same s2) rs)
variable{g:T->T->Rs T}
section
def gW(l:List T):Rs T:=if l.length<=ZI then .ok (.tup l)else .bad
def jl(l:List T):Rs T:=if l.length<=ZI then .ok (.lst l)else .bad
def a8(f:V4)(ρ:En):Rs T:=f ρ >>= gW
def ez(f:V4)(ρ:En):Rs T:=f ρ >>= jl
def aV(h:H p=ZB)(o:HO):Same H (upd H p o):=λb u q=>by rw[aM (bX q h)];exact q
def dS(h:H p=ZB)(n:¬ O p)(r:Reps K O H l vs):Rep K O (upd H p (.tup vs)) (.tup l) (.ref p):=
 Rep.FB.mpr ⟨p,vs,rfl,n,aZ,r.same (aV h _)⟩
def gj(h:H p=ZB)(n:¬ O p)(r:Reps K O H l vs):Rep K O (upd H p (.lst vs)) (.lst l) (.ref p):=
 Rep.Fk.mpr ⟨p,vs,rfl,n,aZ,r.same (aV h _)⟩
def GD{pos:Pos}(h:qu X es f):cy X (.Tuple es x1 pos) (a8 f):=by
 intro ca s σ H Q I ⟨ρ,O,E,hq⟩;refine D2 h ca s σ H Q I ?_
 obtain⟨ρ1,O1,E1,h1⟩:=dR E hq;refine⟨ρ1,O1,E1,Post.mono h1 λts H1 s1 q vs r=>?_⟩
 obtain⟨t',r',s',E',q'⟩:=q vs r;unfold gW at q'
 split at q'
 ·rename_i hz
  refine⟨by rw[<-r'.length];exact hz,λp hp=>?_⟩
  exact q' _ (aV hp _) _ (dS hp (E'.fresh hp) r')
 ·exact q'.elim
def GK{pos:Pos}(h:qu X es f):cy X (.List es pos) (ez f):=by
 intro ca s σ H Q I ⟨ρ,O,E,hq⟩;refine D9 h ca s σ H Q I ?_
 obtain⟨ρ1,O1,E1,h1⟩:=dR E hq;refine⟨ρ1,O1,E1,Post.mono h1 λts H1 s1 q vs r=>?_⟩
 obtain⟨t',r',s',E',q'⟩:=q vs r;unfold jl at q'
 split at q'
 ·rename_i hz
  refine⟨by rw[<-r'.length];exact hz,λp hp=>?_⟩
  exact q' _ (aV hp _) _ (gj hp (E'.fresh hp) r')
 ·exact q'.elim
def OpT(X:Cx)(f:JD->JD->Sem JD)(g:T->T->Rs T):Prop:=
 ∀(ca:V3)(s:JB)(σ:L2.St)(H:Hp)(O:Ow)(x y:T)(vx vy:V)(ux uy:JD)(Q:VK),Inv X ca σ H s->(∀p,H p=ZB->¬ O p)->Rep X.K O H x vx->Rep X.K O H y vy->RelV vx ux->RelV vy uy →
  Post X H (g x y) (λt H'=>∀v,Rep X.K O H' t v->Q v H')->ZJ (ZK X.prog X.w) X.A (f ux uy) (EP X ca σ Q) X.xe s
def o2(g:T->T->Rs T)(fa fb:V6)(ρ:En):Rs T:=do
 let x <-fa ρ
 let y <-fb ρ
 g x y
variable {a b c:ZG}{fa fb fc:V6}{pos:Pos}
def GQ{op:Operator}(ho:OpT X (Lz op) g)(ha:cy X a fa)(hb:cy X b fb):cy X (.BinOp a op b pos) (o2 g fa fb):=by
 intro ca s σ H Q I ⟨ρ,O,E,hq⟩
 have h1:=aO E hq;refine wpAny_BinOp (bN (ha ca s σ H _ I h1) λv s1 hh_=>?_)
 obtain⟨x,H1,I1,r1,t,rt,s',E',q1⟩:=hh_
 have h2:=aO (f:=fb) E' q1;refine bN (hb ca s1 σ H1 _ I1 h2) λu s2 hh_=>?_
 obtain⟨y,H2,I2,r2,t2,rt2,s'',E'',q2⟩:=hh_;exact ho ca s2 σ H2 O t t2 x y v u Q I2 (λp=>E''.fresh) (rt.same s'') rt2 r1 r2 q2
def GP(ho:OpT X (KU op) g)(ha:cy X a fa)(hb:cy X b fb)(hm:autoParam (ML op b=ZD) u_):cy X (.Compare a [op] [b] pos) (o2 g fa fb):=by
 intro ca s σ H Q I ⟨ρ,O,E,hq⟩
 have h1:=aO E hq;refine wpAny_Compare1 (bN (ha ca s σ H _ I h1) λv s1 ⟨x,H1,I1,r1,t,rt,s',E',q1⟩=>?_) hm
 have h2:=aO (f:=fb) E' q1;refine bN (hb ca s1 σ H1 _ I1 h2) λu s2 hh_=>?_
 obtain⟨y,H2,I2,r2,t2,rt2,s'',E'',q2⟩:=hh_;exact ho ca s2 σ H2 O t t2 x y v u Q I2 (λp=>E''.fresh) (rt.same s'') rt2 r1 r2 q2
def OpT.of{f:JD->JD->Sem JD}{r:R2}(h:qv X f r)
  (w:∀(H:Hp)(O:Ow)(x y:T)(vx vy:V)(Q:VK),(∀p,H p=ZB->¬ O p)->Rep X.K O H x vx->Rep X.K O H y vy->Post X H (g x y) (λt H'=>∀v,Rep X.K O H' t v->Q v H')->r vx vy H Q):OpT X f g:=
 λca s σ H O x y vx vy ux uy Q I hf rx ry r1 r2 hp=>h ca s σ H vx vy ux uy Q I r1 r2 (w H O x y vx vy Q hf rx ry hp)
def gg:T->T->Rs T
 |.int i,.int j=>.ok (.int (i - j))
 |_,_=>.bad
def gA:OpT X (Lz .Sub) gg:=OpT.of Ee λH O x y vx vy Q hf rx ry hp=>by
 unfold gg at hp
 split at hp
 ·exact⟨_,_,Rep.Do.mp rx,Rep.Do.mp ry,hp H (Same.refl H) _ (Rep.Iv _)⟩
 ·exact hp.elim
def j7:T->T->Rs T
 |.int i,.int j=>if 0<j/\j<1073741824 then .ok (.int (i / j))else .bad
 |_,_=>.bad
def j0:T->T->Rs T
 |.int i,.int j=>if 0<j then .ok (.int (i % j))else .bad
 |_,_=>.bad
def lz:OpT X (Lz .FloorDiv) j7:=OpT.of Bh λH O x y vx vy Q hf rx ry hp=>by
 unfold j7 at hp
 split at hp
 ·split at hp
  ·rename_i h
   exact⟨_,_,Rep.Do.mp rx,Rep.Do.mp ry,h,hp H (Same.refl H) _ (Rep.Iv _)⟩
  ·exact hp.elim
 ·exact hp.elim
def jy:OpT X (Lz .Mod) j0:=OpT.of Ei λH O x y vx vy Q hf rx ry hp=>by
 unfold j0 at hp
 split at hp
 ·split at hp
  ·rename_i h
   exact⟨_,_,Rep.Do.mp rx,Rep.Do.mp ry,h,hp H (Same.refl H) _ (Rep.Iv _)⟩
  ·exact hp.elim
 ·exact hp.elim
def yf:qv X (Lz .Add) (λx y H Q=>∃a b ys,x=.ref a/\y=.ref b/\SqT X.K H a []/\SqT X.K H b ys/\Q (.ref b) H):=by
 intro ca s σ H x y v u Q I rx ry h;obtain⟨a,b,ys,rfl,rfl,ha,hb,q⟩:=h;cases rx;cases ry;obtain⟨its,r1,p1,_⟩:=I.tuple ha;obtain⟨its2,r2,p2,_⟩:=I.tuple hb;obtain⟨⟨cls,dd,data,sl⟩,ho,hc,n,hd⟩:=id p1;obtain⟨⟨cls2,dd2,data2,sl2⟩,ho2,hc2,n2,hd2⟩:=id p2;simp only at hc hd hc2 hd2;subst hc hd hc2 hd2
 have e:its=[]:=by cases r1;rfl
 subst e;exact HT_concat0 ho ho2 ⟨.ref b,H,I,rfl,q⟩
where
 HT_concat0 {prog:J1} {w:Ks} {A:Kc} {E:V2} {s:JB} {t b:ZE} {ws:Array JD} {n n2:Nat} {dd dd2:Option ZE} {sl sl2:Array (Option JD)} {Q:V2}
   (ho:s.heap.get? t=ZA {cls:=.type "tuple",dict:=dd,data:=.seq (([]:List JD).toArray) n,slots:=sl}) (ho2:s.heap.get? b=ZA {cls:=.type "tuple",dict:=dd2,data:=.seq ws n2,slots:=sl2}) (h:Q (.ref b) s):
   ZJ (ZK prog w) A (Lz .Add (.ref t) (.ref b)) Q E s:=
  RG ⟨_,ho,rfl⟩ ⟨_,ho2,rfl⟩ Pc Q3 Np Na (MY _ _)
   (tuple_addW0 t b _ _ n n2 dd dd2 sl sl2 (by simp)) ⟨ho,ho2,h⟩
def aG:T->T->Rs T
 |.int i,.int j=>.ok (.int (i+j))
 |.str i,.str j=>if i.length+j.length<=ZI then .ok (.str (i++j))else .bad
 |.tup l,.tup m=>gW (l++m)
 |.lst l,.lst m=>jl (l++m)
 |_,_=>.bad
def aH:OpT X (Lz .Add) aG:=by
 intro ca s σ H O x y vx vy ux uy Q I hf rx ry r1 r2 hp;unfold aG at hp
 split at hp
 ·exact El ca s σ H vx vy ux uy Q I r1 r2 ⟨_,_,Rep.Do.mp rx,Rep.Do.mp ry,hp H (Same.refl H) _ (Rep.Iv _)⟩
 ·split at hp
  ·rename_i h
   exact sW ca s σ H vx vy ux uy Q I r1 r2 ⟨_,_,Rep.FS.mp rx,Rep.FS.mp ry,h,hp H (Same.refl H) _ (Rep.IG _)⟩
  ·exact hp.elim
 ·rename_i l m
  unfold gW at hp
  split at hp
  ·rename_i h
   obtain⟨a,vs,e1,n1,q1,z1⟩:=Rep.FB.mp rx;obtain⟨b,ws,e2,n2,q2,z2⟩:=Rep.FB.mp ry
   have hl1:=z1.length
   have hl2:=z2.length;rw[JC]at h
   cases vs with
   |nil=>
    have e:l=[]:=by cases l with
     |nil=>rfl
     |cons _ _=>simp at hl1
    subst e
    exact yf ca s σ H vx vy ux uy Q I r1 r2 ⟨a,b,ws,e1,e2,SqT.of q1,SqT.of q2,hp H (Same.refl H) _ (Rep.FB.mpr ⟨b,ws,rfl,n2,q2,z2⟩)⟩
   |cons v0 vr=>
    refine Bi ca s σ H vx vy ux uy Q I r1 r2 ⟨a,b,v0::vr,ws,e1,e2,SqT.of q1,SqT.of q2,by simp,by omega,λhw=>?_,λ_ p hpn=>?_⟩
    ·subst hw
     have e:m=[]:=by cases m with
      |nil=>rfl
      |cons _ _=>simp at hl2
     subst e;rw[Kr]at hp;exact hp H (Same.refl H) _ (Rep.FB.mpr ⟨a,_,rfl,n1,q1,z1⟩)
    ·exact hp _ (aV hpn _) _ (dS hpn (hf p hpn) (z1.append z2))
  ·exact hp.elim
 ·rename_i l m
  unfold jl at hp
  split at hp
  ·rename_i h
   obtain⟨a,vs,e1,n1,q1,z1⟩:=Rep.Fk.mp rx;obtain⟨b,ws,e2,n2,q2,z2⟩:=Rep.Fk.mp ry
   have hl1:=z1.length
   have hl2:=z2.length;rw[JC]at h;exact Ek ca s σ H vx vy ux uy Q I r1 r2 ⟨a,b,vs,ws,e1,e2,q1,q2,by omega,λp hpn=>hp _ (aV hpn _) _ (gj hpn (hf p hpn) (z1.append z2))⟩
  ·exact hp.elim
 ·exact hp.elim
def tj:T->T->Rs T
 |.int i,.int j=>if (-(2 ^ 64)<i/\i<2 ^ 64)\/(-(2 ^ 64)<j/\j<2 ^ 64)then .ok (.int (i*j))else .bad
 |.lst l,.int k=>if -(2 ^ 63)<=k/\k<2 ^ 63/\l.length*k.toNat<=ZI then .ok (.lst (J9 k.toNat l).flatten)else .bad
 |_,_=>.bad
theorem Reps.rep(h:Reps K O H l vs):∀k:Nat,Reps K O H (J9 k l).flatten (J9 k vs).flatten
 |0=>Reps.GT
 |k+1=>by rw[Ls,Ls,K0,K0];exact h.append (h.rep k)
def Ed:OpT X (Lz .Mult) tj:=by
 intro ca s σ H O x y vx vy ux uy Q I hf rx ry r1 r2 hp;unfold tj at hp
 split at hp
 ·split at hp
  ·rename_i h
   exact Eh ca s σ H vx vy ux uy Q I r1 r2 ⟨_,_,Rep.Do.mp rx,Rep.Do.mp ry,h,hp H (Same.refl H) _ (Rep.Iv _)⟩
  ·exact hp.elim
 ·split at hp
  ·rename_i l k h
   obtain⟨a,vs,e1,n1,q1,z1⟩:=Rep.Fk.mp rx
   have hl1:=z1.length;exact Ef ca s σ H vx vy ux uy Q I r1 r2 ⟨a,k,vs,e1,Rep.Do.mp ry,q1,h.1,h.2.1,by rw[<-hl1];exact h.2.2,λp hpn=>hp _ (aV hpn _) _ (gj hpn (hf p hpn) (z1.rep _))⟩
  ·exact hp.elim
 ·exact hp.elim
def eR:T->Rs T
 |.int i=>.ok (.int (-i))
 |_=>.bad
def o1(g:T->Rs T)(fa:V6)(ρ:En):Rs T:=fa ρ >>= g
def GJ(ha:cy X a fa):cy X (.UnaryOp .USub a pos) (o1 eR fa):=by
 intro ca s σ H Q I ⟨ρ,O,E,hq⟩;refine GW C0 ha ca s σ H Q I ?_
 obtain⟨ρ1,O1,E1,h1⟩:=aO E hq;refine⟨ρ1,O1,E1,Post.mono h1 λts H1 s1 q vs r=>?_⟩
 obtain⟨t',r',s',E',q'⟩:=q vs r;unfold eR at q'
 split at q'
 ·exact⟨_,Rep.Do.mp r',q' H1 (Same.refl H1) _ (Rep.Iv _)⟩
 ·exact q'.elim
def tJ(p:Int->Int->Bool):T->T->Rs T
 |.int i,.int j=>.ok (.bl (p i j))
 |_,_=>.bad
def uC{p:Int->Int->Bool}(h:qv X (KU op) (Dn λi j=>.bl (p i j))):OpT X (KU op) (tJ p):=OpT.of h λH O x y vx vy Q hf rx ry hp=>by
 unfold tJ at hp
 split at hp
 ·exact⟨_,_,Rep.Do.mp rx,Rep.Do.mp ry,hp H (Same.refl H) _ (Rep.bl_ _)⟩
 ·exact hp.elim
abbrev FF:=tJ λi j=>decide (i<j)
abbrev Eu:=tJ λi j=>decide (i<=j)
def ye:OpT X (KU .Lt) FF:=uC G3
def rj:OpT X (KU .LtE) Eu:=uC G4
def T.isN:T->Bool
 |.non=>ZC
 |_=>ZD
def Rep.isN{t:T}(r:Rep K O H t v):decide (v=.non)=t.isN:=by
 cases t with
 |non=>rw[Rep.Iy.mp r];rfl
 |bl _=>rw[Rep.Gc.mp r];rfl
 |int _=>rw[Rep.Do.mp r];rfl
 |str _=>rw[Rep.FS.mp r];rfl
 |tup _=>obtain⟨a,vs,e,_⟩:=Rep.FB.mp r;rw[e];rfl
 |lst _=>obtain⟨a,vs,e,_⟩:=Rep.Fk.mp r;rw[e];rfl
 |scr _=>unfold Rep at r;obtain⟨a,e,_⟩:=r;rw[e];rfl
 |dct _ _=>obtain⟨a,_,e,_⟩:=Rep.Iq.mp r;rw[e];rfl
 |ob _ _ _=>obtain⟨a,_,_,e,_⟩:=Rep.IT.mp r;rw[e];rfl
def lh:T->T->Rs T
 |x,.non=>.ok (.bl x.isN)
 |_,_=>.bad
def gm:T->T->Rs T
 |x,.non=>.ok (.bl (!x.isN))
 |_,_=>.bad
def uB:OpT X (KU .Is) lh:=OpT.of Ej λH O x y vx vy Q hf rx ry hp=>by
 unfold lh at hp
 split at hp
 ·exact⟨Rep.Iy.mp ry,hp H (Same.refl H) _ (by rw[rx.isN];exact Rep.bl_ _)⟩
 ·exact hp.elim
def ij:OpT X (KU .IsNot) gm:=OpT.of Bg λH O x y vx vy Q hf rx ry hp=>by
 unfold gm at hp
 split at hp
 ·exact⟨Rep.Iy.mp ry,hp H (Same.refl H) _ (by rw[rx.isN];exact Rep.bl_ _)⟩
 ·exact hp.elim
end
open PySem.SeqAt
mutual
def ReV(s:JB):T->JD->Prop
 |.non,u=>u=.none
 |.bl b,u=>u=.bool b
 |.int i,u=>∃t,u=.int i t
 |.str x,u=>∃t,u=.str x t
 |.tup l,u=>∃a its,u=.ref a/\s.heap.IsTuple a (RB its)/\ReVs s l its
 |.lst l,u=>∃a its,u=.ref a/\s.heap.IsList a (RB its)/\ReVs s l its
 |.scr l,u=>∃a its,u=.ref a/\s.heap.IsList a (RB its)/\Ot its l
 |.dct _ _,_=>False
 |.ob _ _ _,_=>False
def ReVs(s:JB):List T->List JD->Prop
 |[],us=>us=[]
 |t::r,us=>∃u ws,us=u::ws/\ReV s t u/\ReVs s r ws
end
def ReVs.Da:ReVs s [] us↔us=[]:=by unfold ReVs;exact NX
def ReVs.AC{t:T}:ReVs s (t::l) us↔ ∃u ws,us=u::ws/\ReV s t u/\ReVs s l ws:=by
 constructor
 ·intro h;unfold ReVs at h;exact h
 ·intro h;unfold ReVs;exact h
theorem ReVs.length:∀{l:List T}{us:List JD},ReVs s l us->l.length=us.length
 |[],us,r=>by rw[ReVs.Da.mp r];rfl
 |t::l,us,r=>by
  obtain⟨v,ws,rfl,_,q⟩:=ReVs.AC.mp r;simp[q.length]
theorem ReVs.get:∀{l:List T}{us:List JD}{i:Nat}{t:T},ReVs s l us->l[i]?=ZA t->∃v,us[i]?=ZA v/\ReV s t v
 |[],_,_,_,_,e=>by simp at e
 |t::l,vs,i,u,r,e=>by
  obtain⟨v,ws,rfl,p,q⟩:=ReVs.AC.mp r
  cases i with
  |zero=>simp at e;subst e;exact⟨v,rfl,p⟩
  |succ i=>
   obtain⟨z,e1,e2⟩:=q.get (i:=i) (t:=u) (by simpa using e)
   exact⟨z,by simpa using e1,e2⟩
mutual
def T.nd:T->Bool
 |.dct _ _=>ZD
 |.ob _ _ _=>ZD
 |.tup l=>nds l
 |.lst l=>nds l
 |_=>ZC
def nds:List T->Bool
 |[] =>ZC
 |t::l=>t.nd&&nds l
end
def rF{t:T}(h:nds (t::l)=ZC):t.nd=ZC/\nds l=ZC:=by unfold nds at h;exact Ky.mp h
section
variable {ca:V3}
mutual
theorem Rep.val(I:Inv X ca σ H s):∀{t:T}{v:V}{u:JD},t.nd=ZC->Rep X.K O H t v->RelV v u->ReV s t u
 |.non,v,u,hn,r,q=>by cases Rep.Iy.mp r;unfold ReV;exact q
 |.bl b,v,u,hn,r,q=>by cases Rep.Gc.mp r;unfold ReV;exact q
 |.int b,v,u,hn,r,q=>by cases Rep.Do.mp r;unfold ReV;exact q
 |.str b,v,u,hn,r,q=>by cases Rep.FS.mp r;unfold ReV;exact q
 |.tup l,v,u,hn,r,q=>by
  obtain⟨a,vs,rfl,_,z,w⟩:=Rep.FB.mp r;cases q;obtain⟨its,rv,p,_⟩:=I.tuple (SqT.of z);unfold ReV
  exact⟨a,its,rfl,p,Reps.val I (by unfold T.nd at hn;exact hn) w rv⟩
 |.lst l,v,u,hn,r,q=>by
  obtain⟨a,vs,rfl,_,z,w⟩:=Rep.Fk.mp r;cases q;obtain⟨its,rv,p,_⟩:=I.list (SqL.of z);unfold ReV
  exact⟨a,its,rfl,p.isList,Reps.val I (by unfold T.nd at hn;exact hn) w rv⟩
 |.scr l,v,u,hn,r,q=>by
  unfold Rep at r;obtain⟨a,rfl,_,z⟩:=r;cases q;obtain⟨its,rv,p,_⟩:=I.list z;unfold ReV
  exact⟨a,its,rfl,p.isList,tD rv⟩
 |.dct _ _,v,u,hn,r,q=>by cases hn
 |.ob _ _ _,v,u,hn,r,q=>by cases hn
theorem Reps.val(I:Inv X ca σ H s):∀{l:List T}{vs:List V}{us:List JD},nds l=ZC->Reps X.K O H l vs->Vals vs us->ReVs s l us
 |[],vs,us,hn,r,q=>by
  cases Reps.Da.mp r;cases q
  exact ReVs.Da.mpr rfl
 |t::l,vs,us,hn,r,q=>by
  obtain⟨v,ws,rfl,p,z⟩:=Reps.AC.mp r
  cases q with
  |cons q1 q2=>exact ReVs.AC.mpr ⟨_,_,rfl,Rep.val I (rF hn).1 p q1,Reps.val I (rF hn).2 z q2⟩
end
end
mutual
def T.dep:T->Nat
 |.tup l=>deps l+1
 |.lst l=>deps l+1
 |.scr _=>1
 |_=>0
def deps:List T->Nat
 |[] =>0
 |t::l=>max t.dep (deps l)
end
def B7(i:Int):T->Bool
 |.int j=>i == j
 |.bl b=>i == (if b then 1 else 0)
 |_=>ZD
def jq:List Int->List T->Bool
 |[],[] =>ZC
 |i::r,t::l=>B7 i t&&jq r l
 |_,_=>ZD
mutual
def aX:T->T->Bool
 |.non,.non=>ZC
 |.bl a,.bl b=>a == b
 |.bl a,.int b=>(if a then 1 else 0) == b
 |.int a,.bl b=>a == (if b then 1 else 0)
 |.int a,.int b=>a == b
 |.str a,.str b=>a == b
 |.tup l,.tup m=>beqTs l m
 |.lst l,.lst m=>beqTs l m
 |.lst l,.scr m=>beqTs l (m.map .int)
 |.scr l,.lst m=>jq l m
 |.scr l,.scr m=>l == m
 |_,_=>ZD
def beqTs:List T->List T->Bool
 |[],[] =>ZC
 |t::l,u::m=>aX t u&&beqTs l m
 |_,_=>ZD
end
def mW(n:Nat)(e:Nat->Bool):(KS (n+1)).all e=(e 0&&(KS n).all λj=>e (j+1)):=by
 rw[List.range_succ_eq_map,QF,List.all_map];rfl
theorem kI:∀(l m:List T)(e:Nat->Bool),(∀(j:Nat) t u,l[j]?=ZA t->m[j]?=ZA u->e j=aX t u) →
  beqTs l m=((KS (min l.length m.length)).all e&&l.length == m.length)
 |[],[],_,_=>by simp[beqTs]
 |[],_::_,_,_=>by simp[beqTs]
 |_::_,[],_,_=>by simp[beqTs]
 |t::l,u::m,e,h=>by
  have ih:=kI l m (λj=>e (j+1)) λj t' u' h1 h2=>h (j+1) t' u' (by simpa using h1) (by simpa using h2)
  rw[beqTs,ih]
  have h0:=h 0 t u rfl rfl;simp only[JJ];rw[Nat.succ_min_succ,mW,h0,Bool.and_assoc]
  congr 2
  simp
theorem oB:∀{l m:List T},l.length≠m.length->beqTs l m=ZD
 |[],[],h=>absurd rfl h
 |[],_::_,_=>by simp[beqTs]
 |_::_,[],_=>by simp[beqTs]
 |t::l,u::m,h=>by
  rw[beqTs,oB (l:=l) (m:=m) (by intro z;exact h (by simp[z]))]
  simp
theorem ix:∀{l:List T}{i:Nat}{t:T},l[i]?=ZA t->t.dep<=deps l
 |[],_,_,e=>by simp at e
 |t::l,0,u,e=>by simp at e;subst e;unfold deps;exact Nat.le_max_left _ _
 |t::l,i+1,u,e=>by
  have:=ix (l:=l) (i:=i) (t:=u) (by simpa using e)
  unfold deps;exact J5 this (Nat.le_max_right _ _)
def ir{x y:List JD}(h:s.heap.IsTuple a x.toArray)(h':s.heap.IsTuple a y.toArray):x=y:=by
 obtain⟨o,e,_,n,d⟩:=h;obtain⟨o',e',_,n',d'⟩:=h';rw[e]at e';cases e';rw[d]at d';injection d' with d1 _
 simpa using congrArg Po d1
def cV{x y:List JD}(h:s.heap.IsList a x.toArray)(h':s.heap.IsList a y.toArray):x=y:=by
 obtain⟨o,e,_,n,d⟩:=h;obtain⟨o',e',_,n',d'⟩:=h';rw[e]at e';cases e';rw[d]at d';injection d' with d1 _
 simpa using congrArg Po d1
variable{k:Tok}
def wH{t:T}(r:ReV s t (.int i k)):B7 i t=ZC:=by
 cases t with
 |non=>unfold ReV at r;cases r
 |bl b=>unfold ReV at r;cases r
 |int j=>unfold ReV at r;obtain⟨t,e⟩:=r;injection e with e1 _;subst e1;simp[B7]
 |str x=>unfold ReV at r;obtain⟨t,e⟩:=r;cases e
 |tup l=>unfold ReV at r;obtain⟨a,its,e,_⟩:=r;cases e
 |lst l=>unfold ReV at r;obtain⟨a,its,e,_⟩:=r;cases e
 |scr l=>unfold ReV at r;obtain⟨a,its,e,_⟩:=r;cases e
 |dct _ _=>unfold ReV at r;exact r.elim
 |ob _ _ _=>unfold ReV at r;exact r.elim
theorem mV:∀{ns:List Int}{us:List JD}{l:List T},Ot us ns->ReVs s l us->jq ns l=ZC
 |[],us,l,h,r=>by
  cases h
  cases l with
  |nil=>rfl
  |cons t l=>obtain⟨_,_,e,_⟩:=ReVs.AC.mp r;cases e
 |n::ns,us,l,h,r=>by
  cases h with
  |cons a b hh=>
   cases l with
   |nil=>have:=ReVs.Da.mp r;cases this
   |cons t l=>
    obtain⟨u,ws,e,p,q⟩:=ReVs.AC.mp r;injection e with e1 e2
    subst e1 e2;rw[jq,wH p,mV hh q];rfl
theorem dH:∀{us:List JD}{ns:List Int},Ot us ns->ReVs s (ns.map T.int) us
 |_,_,.nil=>ReVs.Da.mpr rfl
 |_,_,.cons n t h=>ReVs.AC.mpr ⟨_,_,rfl,by unfold ReV;exact⟨_,rfl⟩,dH h⟩
theorem iu:∀{us:List JD}{ns ms:List Int},Ot us ns->Ot us ms->ns=ms
 |_,_,_,.nil,.nil=>rfl
 |_,_,_,.cons n t h,.cons _ _ h'=>by rw[iu h h']
mutual
theorem ReV.refl{s:JB}:∀{t u:T}{v:JD},ReV s t v->ReV s u v->aX t u=ZC
 |.non,u,v,r,q=>by
  unfold ReV at r;subst r
  cases u <;> (unfold ReV at q) <;> first|rfl| (cases q;done)| (obtain⟨_,e⟩:=q;cases e;done)| (obtain⟨_,_,e,_⟩:=q;cases e;done)
 |.bl b,u,v,r,q=>by
  unfold ReV at r;subst r
  cases u <;> (unfold ReV at q) <;> first| (cases q;done)| (cases q;simp[aX];done)| (obtain⟨_,e⟩:=q;cases e;done)| (obtain⟨_,_,e,_⟩:=q;cases e;done)
 |.int b,u,v,r,q=>by
  unfold ReV at r;obtain⟨k,rfl⟩:=r
  cases u <;> (unfold ReV at q) <;> first| (cases q;done)| (obtain⟨_,e⟩:=q;cases e;simp[aX];done)| (obtain⟨_,e⟩:=q;cases e;done)| (obtain⟨_,_,e,_⟩:=q;cases e;done)
 |.str b,u,v,r,q=>by
  unfold ReV at r;obtain⟨k,rfl⟩:=r
  cases u <;> (unfold ReV at q) <;> first| (cases q;done)| (obtain⟨_,e⟩:=q;cases e;simp[aX];done)| (obtain⟨_,e⟩:=q;cases e;done)| (obtain⟨_,_,e,_⟩:=q;cases e;done)
 |.tup l,u,v,r,q=>by
  unfold ReV at r;obtain⟨a,its,rfl,h1,h2⟩:=r
  cases u with
  |non=>unfold ReV at q;cases q
  |dct _ _=>unfold ReV at q;exact q.elim
  |ob _ _ _=>unfold ReV at q;exact q.elim
  |bl _=>unfold ReV at q;cases q
  |int _=>unfold ReV at q;obtain⟨_,e⟩:=q;cases e
  |str _=>unfold ReV at q;obtain⟨_,e⟩:=q;cases e
  |tup m=>
   unfold ReV at q;obtain⟨a',its',e,h1',h2'⟩:=q;injection e with e;subst e
   have:=ir h1 h1';subst this;unfold aX
   exact ReVs.refl h2 h2'
  |lst m=>unfold ReV at q;obtain⟨a',its',e,h1',h2'⟩:=q;injection e with e;subst e;exact absurd rfl (ne_of_list_tuple h1' h1)
  |scr m=>unfold ReV at q;obtain⟨a',its',e,h1',h2'⟩:=q;injection e with e;subst e;exact absurd rfl (ne_of_list_tuple h1' h1)
 |.lst l,u,v,r,q=>by
  unfold ReV at r;obtain⟨a,its,rfl,h1,h2⟩:=r
  cases u with
  |non=>unfold ReV at q;cases q
  |dct _ _=>unfold ReV at q;exact q.elim
  |ob _ _ _=>unfold ReV at q;exact q.elim
  |bl _=>unfold ReV at q;cases q
  |int _=>unfold ReV at q;obtain⟨_,e⟩:=q;cases e
  |str _=>unfold ReV at q;obtain⟨_,e⟩:=q;cases e
  |lst m=>
   unfold ReV at q;obtain⟨a',its',e,h1',h2'⟩:=q;injection e with e;subst e
   have:=cV h1 h1';subst this;unfold aX
   exact ReVs.refl h2 h2'
  |tup m=>unfold ReV at q;obtain⟨a',its',e,h1',h2'⟩:=q;injection e with e;subst e;exact absurd rfl (ne_of_list_tuple h1 h1')
  |scr m=>
   unfold ReV at q;obtain⟨a',its',e,h1',h2'⟩:=q;injection e with e;subst e
   have:=cV h1 h1';subst this;unfold aX
   exact ReVs.refl h2 (dH h2')
 |.scr l,u,v,r,q=>by
  unfold ReV at r;obtain⟨a,its,rfl,h1,h2⟩:=r
  cases u with
  |non=>unfold ReV at q;cases q
  |dct _ _=>unfold ReV at q;exact q.elim
  |ob _ _ _=>unfold ReV at q;exact q.elim
  |bl _=>unfold ReV at q;cases q
  |int _=>unfold ReV at q;obtain⟨_,e⟩:=q;cases e
  |str _=>unfold ReV at q;obtain⟨_,e⟩:=q;cases e
  |lst m=>
   unfold ReV at q;obtain⟨a',its',e,h1',h2'⟩:=q;injection e with e;subst e
   have:=cV h1 h1';subst this;unfold aX
   exact mV h2 h2'
  |tup m=>unfold ReV at q;obtain⟨a',its',e,h1',h2'⟩:=q;injection e with e;subst e;exact absurd rfl (ne_of_list_tuple h1 h1')
  |scr m=>
   unfold ReV at q;obtain⟨a',its',e,h1',h2'⟩:=q;injection e with e;subst e
   have:=cV h1 h1';subst this;unfold aX
   have:=iu h2 h2'
   simp[this]
 |.dct _ _,u,v,r,q=>by unfold ReV at r;exact r.elim
 |.ob _ _ _,u,v,r,q=>by unfold ReV at r;exact r.elim
theorem ReVs.refl{s:JB}:∀{l m:List T}{us:List JD},ReVs s l us->ReVs s m us->beqTs l m=ZC
 |[],m,us,r,q=>by
  cases ReVs.Da.mp r
  cases m with
  |nil=>simp[beqTs]
  |cons _ _=>obtain⟨_,_,e,_⟩:=ReVs.AC.mp q;cases e
 |t::l,m,us,r,q=>by
  obtain⟨v,ws,rfl,p,z⟩:=ReVs.AC.mp r
  cases m with
  |nil=>cases ReVs.Da.mp q
  |cons u m=>
   obtain⟨v',ws',e,p',z'⟩:=ReVs.AC.mp q;injection e with e1 e2
   subst e1 e2;rw[beqTs,ReV.refl p p',ReVs.refl z z'];rfl
end
theorem mU:∀(l:List Int)(m:List T),jq l m=beqTs (l.map T.int) m
 |[],[] =>by simp[jq,beqTs]
 |[],_::_=>by simp[jq,beqTs]
 |_::_,[] =>by simp[jq,beqTs]
 |i::l,t::m=>by
  rw[jq,JG,beqTs,mU l m]
  congr 1
  cases t <;> simp[B7,aX]
theorem pf:∀(l m:List Int),(l == m)=beqTs (l.map T.int) (m.map T.int)
 |[],[] =>by simp[beqTs]
 |[],_::_=>by simp[beqTs]
 |_::_,[] =>by simp[beqTs]
 |i::l,t::m=>by
  rw[JG,JG,beqTs,<-pf l m];simp[aX]
theorem fo:∀(l:List Int),deps (l.map T.int)=0
 |[] =>rfl
 |i::l=>by rw[JG,deps,fo l];simp[T.dep]
def iN:T->T->Prop
 |.tup _,.tup _=>False
 |.lst _,.lst _=>False
 |.lst _,.scr _=>False
 |.scr _,.lst _=>False
 |.scr _,.scr _=>False
 |_,_=>True
def rQ(A:Kc)(s:JB)(x y:T)(u v:JD)(hn:iN x y)(hu:A.units<cLine)(rx:ReV s x u)(ry:ReV s y v):EqAt A s u v (aX x y)/\RcAt A s u v (aX x y)/\RcNeAt A s u v (!aX x y):=by
 match x,y,hn,rx,ry with
 |.dct _ _,_,_,rx,_=>exact(by unfold ReV at rx;exact rx:False).elim
 |.ob _ _ _,_,_,rx,_=>exact(by unfold ReV at rx;exact rx:False).elim
 |_,.dct _ _,_,_,ry=>exact(by unfold ReV at ry;exact ry:False).elim
 |_,.ob _ _ _,_,_,ry=>exact(by unfold ReV at ry;exact ry:False).elim
 |.non,.non,hn,rx,ry=>
  obtain rfl:u=Kg:=by unfold ReV at rx;exact rx
  obtain rfl:v=Kg:=by unfold ReV at ry;exact ry
  exact⟨EqAt.same _,RcAt.none_none ,RcNeAt.none_none ⟩
 |.non,.bl b2,hn,rx,ry=>
  obtain rfl:u=Kg:=by unfold ReV at rx;exact rx
  obtain rfl:v=K8 b2:=by unfold ReV at ry;exact ry
  exact⟨EqAt.none_bool b2,RcAt.none_bool b2,RcNeAt.none_bool b2⟩
 |.non,.int i2,hn,rx,ry=>
  obtain rfl:u=Kg:=by unfold ReV at rx;exact rx
  obtain⟨k2,rfl⟩:∃k,v=Lv i2 k:=by unfold ReV at ry;exact ry
  exact⟨EqAt.none_int i2 k2,RcAt.none_int i2 k2,RcNeAt.none_int i2 k2⟩
 |.non,.str x2,hn,rx,ry=>
  obtain rfl:u=Kg:=by unfold ReV at rx;exact rx
  obtain⟨k2,rfl⟩:∃k,v=Lb x2 k:=by unfold ReV at ry;exact ry
  exact⟨EqAt.none_str x2 k2,RcAt.none_str x2 k2,RcNeAt.none_str x2 k2⟩
 |.non,.tup l2,hn,rx,ry=>
  obtain rfl:u=Kg:=by unfold ReV at rx;exact rx
  unfold ReV at ry;obtain⟨a2,us2,rfl,h2,q2⟩:=ry
  exact⟨EqAt.none_tuple h2 hu,RcAt.none_tuple h2 hu,RcNeAt.none_tuple h2 hu⟩
 |.non,.lst l2,hn,rx,ry=>
  obtain rfl:u=Kg:=by unfold ReV at rx;exact rx
  unfold ReV at ry;obtain⟨a2,us2,rfl,h2,q2⟩:=ry
  exact⟨EqAt.none_list h2 hu,RcAt.none_list h2 hu,RcNeAt.none_list h2 hu⟩
 |.non,.scr l2,hn,rx,ry=>
  obtain rfl:u=Kg:=by unfold ReV at rx;exact rx
  unfold ReV at ry;obtain⟨a2,us2,rfl,h2,q2⟩:=ry
  exact⟨EqAt.none_list h2 hu,RcAt.none_list h2 hu,RcNeAt.none_list h2 hu⟩
 |.bl b1,.non,hn,rx,ry=>
  obtain rfl:u=K8 b1:=by unfold ReV at rx;exact rx
  obtain rfl:v=Kg:=by unfold ReV at ry;exact ry
  exact⟨EqAt.bool_none b1,RcAt.bool_none b1,RcNeAt.bool_none b1⟩
 |.bl b1,.bl b2,hn,rx,ry=>
  obtain rfl:u=K8 b1:=by unfold ReV at rx;exact rx
  obtain rfl:v=K8 b2:=by unfold ReV at ry;exact ry
  exact⟨EqAt.bool_bool b1 b2,RcAt.bool_bool b1 b2,RcNeAt.bool_bool b1 b2⟩
 |.bl b1,.int i2,hn,rx,ry=>
  obtain rfl:u=K8 b1:=by unfold ReV at rx;exact rx
  obtain⟨k2,rfl⟩:∃k,v=Lv i2 k:=by unfold ReV at ry;exact ry
  exact⟨EqAt.bool_int b1 i2 k2,RcAt.bool_int b1 i2 k2,RcNeAt.bool_int b1 i2 k2⟩
 |.bl b1,.str x2,hn,rx,ry=>
  obtain rfl:u=K8 b1:=by unfold ReV at rx;exact rx
  obtain⟨k2,rfl⟩:∃k,v=Lb x2 k:=by unfold ReV at ry;exact ry
  exact⟨EqAt.bool_str b1 x2 k2,RcAt.bool_str b1 x2 k2,RcNeAt.bool_str b1 x2 k2⟩
 |.bl b1,.tup l2,hn,rx,ry=>
  obtain rfl:u=K8 b1:=by unfold ReV at rx;exact rx
  unfold ReV at ry;obtain⟨a2,us2,rfl,h2,q2⟩:=ry
  exact⟨EqAt.bool_tuple b1 h2 hu,RcAt.bool_tuple b1 h2 hu,RcNeAt.bool_tuple b1 h2 hu⟩
 |.bl b1,.lst l2,hn,rx,ry=>
  obtain rfl:u=K8 b1:=by unfold ReV at rx;exact rx
  unfold ReV at ry;obtain⟨a2,us2,rfl,h2,q2⟩:=ry
  exact⟨EqAt.bool_list b1 h2 hu,RcAt.bool_list b1 h2 hu,RcNeAt.bool_list b1 h2 hu⟩
 |.bl b1,.scr l2,hn,rx,ry=>
  obtain rfl:u=K8 b1:=by unfold ReV at rx;exact rx
  unfold ReV at ry;obtain⟨a2,us2,rfl,h2,q2⟩:=ry
  exact⟨EqAt.bool_list b1 h2 hu,RcAt.bool_list b1 h2 hu,RcNeAt.bool_list b1 h2 hu⟩
 |.int i1,.non,hn,rx,ry=>
  obtain⟨k1,rfl⟩:∃k,u=Lv i1 k:=by unfold ReV at rx;exact rx
  obtain rfl:v=Kg:=by unfold ReV at ry;exact ry
  exact⟨EqAt.int_none i1 k1,RcAt.int_none i1 k1,RcNeAt.int_none i1 k1⟩
 |.int i1,.bl b2,hn,rx,ry=>
  obtain⟨k1,rfl⟩:∃k,u=Lv i1 k:=by unfold ReV at rx;exact rx
  obtain rfl:v=K8 b2:=by unfold ReV at ry;exact ry
  exact⟨EqAt.int_bool i1 k1 b2,RcAt.int_bool i1 k1 b2,RcNeAt.int_bool i1 k1 b2⟩
 |.int i1,.int i2,hn,rx,ry=>
  obtain⟨k1,rfl⟩:∃k,u=Lv i1 k:=by unfold ReV at rx;exact rx
  obtain⟨k2,rfl⟩:∃k,v=Lv i2 k:=by unfold ReV at ry;exact ry
  exact⟨EqAt.int_int i1 k1 i2 k2,RcAt.int_int i1 k1 i2 k2,RcNeAt.int_int i1 k1 i2 k2⟩
 |.int i1,.str x2,hn,rx,ry=>
  obtain⟨k1,rfl⟩:∃k,u=Lv i1 k:=by unfold ReV at rx;exact rx
  obtain⟨k2,rfl⟩:∃k,v=Lb x2 k:=by unfold ReV at ry;exact ry
  exact⟨EqAt.int_str i1 k1 x2 k2,RcAt.int_str i1 k1 x2 k2,RcNeAt.int_str i1 k1 x2 k2⟩
 |.int i1,.tup l2,hn,rx,ry=>
  obtain⟨k1,rfl⟩:∃k,u=Lv i1 k:=by unfold ReV at rx;exact rx
  unfold ReV at ry;obtain⟨a2,us2,rfl,h2,q2⟩:=ry
  exact⟨EqAt.int_tuple i1 k1 h2 hu,RcAt.int_tuple i1 k1 h2 hu,RcNeAt.int_tuple i1 k1 h2 hu⟩
 |.int i1,.lst l2,hn,rx,ry=>
  obtain⟨k1,rfl⟩:∃k,u=Lv i1 k:=by unfold ReV at rx;exact rx
  unfold ReV at ry;obtain⟨a2,us2,rfl,h2,q2⟩:=ry
  exact⟨EqAt.int_list i1 k1 h2 hu,RcAt.int_list i1 k1 h2 hu,RcNeAt.int_list i1 k1 h2 hu⟩
 |.int i1,.scr l2,hn,rx,ry=>
  obtain⟨k1,rfl⟩:∃k,u=Lv i1 k:=by unfold ReV at rx;exact rx
  unfold ReV at ry;obtain⟨a2,us2,rfl,h2,q2⟩:=ry
  exact⟨EqAt.int_list i1 k1 h2 hu,RcAt.int_list i1 k1 h2 hu,RcNeAt.int_list i1 k1 h2 hu⟩
 |.str x1,.non,hn,rx,ry=>
  obtain⟨k1,rfl⟩:∃k,u=Lb x1 k:=by unfold ReV at rx;exact rx
  obtain rfl:v=Kg:=by unfold ReV at ry;exact ry
  exact⟨EqAt.str_none x1 k1,RcAt.str_none x1 k1,RcNeAt.str_none x1 k1⟩
 |.str x1,.bl b2,hn,rx,ry=>
  obtain⟨k1,rfl⟩:∃k,u=Lb x1 k:=by unfold ReV at rx;exact rx
  obtain rfl:v=K8 b2:=by unfold ReV at ry;exact ry
  exact⟨EqAt.str_bool x1 k1 b2,RcAt.str_bool x1 k1 b2,RcNeAt.str_bool x1 k1 b2⟩
 |.str x1,.int i2,hn,rx,ry=>
  obtain⟨k1,rfl⟩:∃k,u=Lb x1 k:=by unfold ReV at rx;exact rx
  obtain⟨k2,rfl⟩:∃k,v=Lv i2 k:=by unfold ReV at ry;exact ry
  exact⟨EqAt.str_int x1 k1 i2 k2,RcAt.str_int x1 k1 i2 k2,RcNeAt.str_int x1 k1 i2 k2⟩
 |.str x1,.str x2,hn,rx,ry=>
  obtain⟨k1,rfl⟩:∃k,u=Lb x1 k:=by unfold ReV at rx;exact rx
  obtain⟨k2,rfl⟩:∃k,v=Lb x2 k:=by unfold ReV at ry;exact ry
  exact⟨EqAt.str_str x1 k1 x2 k2,RcAt.str_str x1 k1 x2 k2,RcNeAt.str_str x1 k1 x2 k2⟩
 |.str x1,.tup l2,hn,rx,ry=>
  obtain⟨k1,rfl⟩:∃k,u=Lb x1 k:=by unfold ReV at rx;exact rx
  unfold ReV at ry;obtain⟨a2,us2,rfl,h2,q2⟩:=ry
  exact⟨EqAt.str_tuple x1 k1 h2 hu,RcAt.str_tuple x1 k1 h2 hu,RcNeAt.str_tuple x1 k1 h2 hu⟩
 |.str x1,.lst l2,hn,rx,ry=>
  obtain⟨k1,rfl⟩:∃k,u=Lb x1 k:=by unfold ReV at rx;exact rx
  unfold ReV at ry;obtain⟨a2,us2,rfl,h2,q2⟩:=ry
  exact⟨EqAt.str_list x1 k1 h2 hu,RcAt.str_list x1 k1 h2 hu,RcNeAt.str_list x1 k1 h2 hu⟩
 |.str x1,.scr l2,hn,rx,ry=>
  obtain⟨k1,rfl⟩:∃k,u=Lb x1 k:=by unfold ReV at rx;exact rx
  unfold ReV at ry;obtain⟨a2,us2,rfl,h2,q2⟩:=ry
  exact⟨EqAt.str_list x1 k1 h2 hu,RcAt.str_list x1 k1 h2 hu,RcNeAt.str_list x1 k1 h2 hu⟩
 |.tup l1,.non,hn,rx,ry=>
  unfold ReV at rx;obtain⟨a1,us1,rfl,h1,q1⟩:=rx;obtain rfl:v=Kg:=by unfold ReV at ry;exact ry
  exact⟨EqAt.tuple_none h1 hu,RcAt.tuple_none h1 hu,RcNeAt.tuple_none h1 hu⟩
 |.tup l1,.bl b2,hn,rx,ry=>
  unfold ReV at rx;obtain⟨a1,us1,rfl,h1,q1⟩:=rx;obtain rfl:v=K8 b2:=by unfold ReV at ry;exact ry
  exact⟨EqAt.tuple_bool b2 h1 hu,RcAt.tuple_bool b2 h1 hu,RcNeAt.tuple_bool b2 h1 hu⟩
 |.tup l1,.int i2,hn,rx,ry=>
  unfold ReV at rx;obtain⟨a1,us1,rfl,h1,q1⟩:=rx;obtain⟨k2,rfl⟩:∃k,v=Lv i2 k:=by unfold ReV at ry;exact ry
  exact⟨EqAt.tuple_int i2 k2 h1 hu,RcAt.tuple_int i2 k2 h1 hu,RcNeAt.tuple_int i2 k2 h1 hu⟩
 |.tup l1,.str x2,hn,rx,ry=>
  unfold ReV at rx;obtain⟨a1,us1,rfl,h1,q1⟩:=rx;obtain⟨k2,rfl⟩:∃k,v=Lb x2 k:=by unfold ReV at ry;exact ry
  exact⟨EqAt.tuple_str x2 k2 h1 hu,RcAt.tuple_str x2 k2 h1 hu,RcNeAt.tuple_str x2 k2 h1 hu⟩
 |.tup _,.tup _,hn,_,_=>exact hn.elim
 |.tup l1,.lst l2,hn,rx,ry=>
  unfold ReV at rx;obtain⟨a1,us1,rfl,h1,q1⟩:=rx;unfold ReV at ry;obtain⟨a2,us2,rfl,h2,q2⟩:=ry
  exact⟨EqAt.tuple_list h1 h2 hu,RcAt.tuple_list h1 h2 hu,RcNeAt.tuple_list h1 h2 hu⟩
 |.tup l1,.scr l2,hn,rx,ry=>
  unfold ReV at rx;obtain⟨a1,us1,rfl,h1,q1⟩:=rx;unfold ReV at ry;obtain⟨a2,us2,rfl,h2,q2⟩:=ry
  exact⟨EqAt.tuple_list h1 h2 hu,RcAt.tuple_list h1 h2 hu,RcNeAt.tuple_list h1 h2 hu⟩
 |.lst l1,.non,hn,rx,ry=>
  unfold ReV at rx;obtain⟨a1,us1,rfl,h1,q1⟩:=rx;obtain rfl:v=Kg:=by unfold ReV at ry;exact ry
  exact⟨EqAt.list_none h1 hu,RcAt.list_none h1 hu,RcNeAt.list_none h1 hu⟩
 |.lst l1,.bl b2,hn,rx,ry=>
  unfold ReV at rx;obtain⟨a1,us1,rfl,h1,q1⟩:=rx;obtain rfl:v=K8 b2:=by unfold ReV at ry;exact ry
  exact⟨EqAt.list_bool b2 h1 hu,RcAt.list_bool b2 h1 hu,RcNeAt.list_bool b2 h1 hu⟩
 |.lst l1,.int i2,hn,rx,ry=>
  unfold ReV at rx;obtain⟨a1,us1,rfl,h1,q1⟩:=rx;obtain⟨k2,rfl⟩:∃k,v=Lv i2 k:=by unfold ReV at ry;exact ry
  exact⟨EqAt.list_int i2 k2 h1 hu,RcAt.list_int i2 k2 h1 hu,RcNeAt.list_int i2 k2 h1 hu⟩
 |.lst l1,.str x2,hn,rx,ry=>
  unfold ReV at rx;obtain⟨a1,us1,rfl,h1,q1⟩:=rx;obtain⟨k2,rfl⟩:∃k,v=Lb x2 k:=by unfold ReV at ry;exact ry
  exact⟨EqAt.list_str x2 k2 h1 hu,RcAt.list_str x2 k2 h1 hu,RcNeAt.list_str x2 k2 h1 hu⟩
 |.lst l1,.tup l2,hn,rx,ry=>
  unfold ReV at rx;obtain⟨a1,us1,rfl,h1,q1⟩:=rx;unfold ReV at ry;obtain⟨a2,us2,rfl,h2,q2⟩:=ry
  exact⟨EqAt.list_tuple h1 h2 hu,RcAt.list_tuple h1 h2 hu,RcNeAt.list_tuple h1 h2 hu⟩
 |.lst _,.lst _,hn,_,_=>exact hn.elim
 |.lst _,.scr _,hn,_,_=>exact hn.elim
 |.scr l1,.non,hn,rx,ry=>
  unfold ReV at rx;obtain⟨a1,us1,rfl,h1,q1⟩:=rx;obtain rfl:v=Kg:=by unfold ReV at ry;exact ry
  exact⟨EqAt.list_none h1 hu,RcAt.list_none h1 hu,RcNeAt.list_none h1 hu⟩
 |.scr l1,.bl b2,hn,rx,ry=>
  unfold ReV at rx;obtain⟨a1,us1,rfl,h1,q1⟩:=rx;obtain rfl:v=K8 b2:=by unfold ReV at ry;exact ry
  exact⟨EqAt.list_bool b2 h1 hu,RcAt.list_bool b2 h1 hu,RcNeAt.list_bool b2 h1 hu⟩
 |.scr l1,.int i2,hn,rx,ry=>
  unfold ReV at rx;obtain⟨a1,us1,rfl,h1,q1⟩:=rx;obtain⟨k2,rfl⟩:∃k,v=Lv i2 k:=by unfold ReV at ry;exact ry
  exact⟨EqAt.list_int i2 k2 h1 hu,RcAt.list_int i2 k2 h1 hu,RcNeAt.list_int i2 k2 h1 hu⟩
 |.scr l1,.str x2,hn,rx,ry=>
  unfold ReV at rx;obtain⟨a1,us1,rfl,h1,q1⟩:=rx;obtain⟨k2,rfl⟩:∃k,v=Lb x2 k:=by unfold ReV at ry;exact ry
  exact⟨EqAt.list_str x2 k2 h1 hu,RcAt.list_str x2 k2 h1 hu,RcNeAt.list_str x2 k2 h1 hu⟩
 |.scr l1,.tup l2,hn,rx,ry=>
  unfold ReV at rx;obtain⟨a1,us1,rfl,h1,q1⟩:=rx;unfold ReV at ry;obtain⟨a2,us2,rfl,h2,q2⟩:=ry
  exact⟨EqAt.list_tuple h1 h2 hu,RcAt.list_tuple h1 h2 hu,RcNeAt.list_tuple h1 h2 hu⟩
 |.scr _,.lst _,hn,_,_=>exact hn.elim
 |.scr _,.scr _,hn,_,_=>exact hn.elim
def BK:∀(n:Nat)(A:Kc)(s:JB)(x y:T)(u v:JD),(x.dep<=n\/y.dep<=n)->A.units+n<cLine->ReV s x u->ReV s y v->EqAt A s u v (aX x y)/\RcAt A s u v (aX x y)/\RcNeAt A s u v (!aX x y):=by
 intro n
 induction n with
 |zero=>
  intro A s x y u v hd hu rx ry
  exact rQ A s x y u v (by cases x <;> cases y <;> simp_all [iN,T.dep]) (by omega) rx ry
 |succ n ih=>
  intro A s x y u v hd hu rx ry
  have hin:A.in1.units+n<cLine:=by show A.units+1+n<cLine;omega
  have items:∀(l m:List T)(us vs:List JD),(deps l<=n\/deps m<=n)->ReVs s l us->ReVs s m vs->∃e:Nat->Bool,(∀j (h1:j<us.toArray.size) (h2:j<vs.toArray.size),EqAt A.in1 s us.toArray[j] vs.toArray[j] (e j)) ∧
    (∀(j:Nat) t u,l[j]?=ZA t->m[j]?=ZA u->e j=aX t u):=λl m us vs hd r1 r2=>by
   refine⟨λj=>aX (l.getD j .non) (m.getD j .non),λj h1 h2=>?_,λj t u e1 e2=>by simp[List.getD,e1,e2]⟩
   have l1:=r1.length
   have l2:=r2.length
   have h1':j<l.length:=by rw[l1];simpa using h1
   have h2':j<m.length:=by rw[l2];simpa using h2
   have e1:l[j]?=ZA l[j]:=by simp
   have e2:m[j]?=ZA m[j]:=by simp
   obtain⟨u1,z1,w1⟩:=r1.get e1;obtain⟨u2,z2,w2⟩:=r2.get e2
   have q1:us.toArray[j]=u1:=by
    have:us[j]?=ZA us.toArray[j]:=by simp
    rw[z1]at this;exact(Kn this).symm
   have q2:vs.toArray[j]=u2:=by
    have:vs[j]?=ZA vs.toArray[j]:=by simp
    rw[z2]at this;exact(Kn this).symm
   rw[q1,q2]
   have g1:l.getD j .non=l[j]:=by simp[List.getD,e1]
   have g2:m.getD j .non=m[j]:=by simp[List.getD,e2]
   show EqAt A.in1 s u1 u2 (aX (l.getD j .non) (m.getD j .non))
   rw[g1,g2];refine(ih A.in1 s l[j] m[j] u1 u2 ?_ hin w1 w2).1
   rcases hd with hd|hd
   ·exact .inl (J5 (ix e1) hd)
   ·exact .inr (J5 (ix e2) hd)
  have lists:∀(l m:List T)(a b:ZE)(us vs:List JD),(deps l<=n\/deps m<=n)->ReVs s l us->ReVs s m vs->s.heap.IsList a us.toArray->s.heap.IsList b vs.toArray →
    EqAt A s (.ref a) (.ref b) (beqTs l m)/\RcAt A s (.ref a) (.ref b) (beqTs l m)/\RcNeAt A s (.ref a) (.ref b) (!beqTs l m):=λl m a b us vs hd r1 r2 h1 h2=>by
   have l1:=r1.length
   have l2:=r2.length
   have key:RcAt A s (.ref a) (.ref b) (beqTs l m)/\RcNeAt A s (.ref a) (.ref b) (!beqTs l m):=by
    by_cases hl:l.length=m.length
    ·obtain⟨e,he,hb⟩:=items l m us vs hd r1 r2
     have q:=kI l m e hb
     have q2:beqTs l m=(KS us.toArray.size).all e:=by
      rw[q,hl,Nat.min_self];simp[l2.symm,hl.symm,l1]
     rw[q2]
     have hsz:us.toArray.size=vs.toArray.size:=by simp;omega
     exact⟨RcAt.lists h1 h2 hsz (by omega) he,RcNeAt.lists h1 h2 hsz (by omega) he⟩
    ·rw[oB hl]
     have hsz:(us.toArray.size != vs.toArray.size)=ZC:=by simp;omega
     exact⟨RcAt.lists_lengths h1 h2 hsz (by omega),RcNeAt.lists_lengths h1 h2 hsz (by omega)⟩
   refine⟨?_,key⟩
   by_cases hab:a=b
   ·subst hab
    have:=cV h1 h2;subst this;rw[ReVs.refl r1 r2];exact EqAt.same _
   ·exact EqAt.of_refs hab key.1
  cases x with
  |tup l=>
   cases y with
   |tup m=>
    unfold ReV at rx ry;obtain⟨a,us,rfl,h1,r1⟩:=rx;obtain⟨b,vs,rfl,h2,r2⟩:=ry
    have hd':deps l<=n\/deps m<=n:=by
     simp only[T.dep]at hd;omega
    have l1:=r1.length
    have l2:=r2.length;obtain⟨e,he,hb⟩:=items l m us vs hd' r1 r2
    have q:=kI l m e hb
    have q2:beqTs l m=((KS (min us.toArray.size vs.toArray.size)).all e&&us.toArray.size == vs.toArray.size):=by
     rw[q];simp[l1,l2]
    have key:RcAt A s (.ref a) (.ref b) (beqTs l m)/\RcNeAt A s (.ref a) (.ref b) (!beqTs l m):=by
     rw[q2];exact⟨RcAt.tuples h1 h2 (by omega) he,RcNeAt.tuples h1 h2 (by omega) he⟩
    unfold aX;refine⟨?_,key⟩
    by_cases hab:a=b
    ·subst hab
     have:=ir h1 h2;subst this;rw[ReVs.refl r1 r2];exact EqAt.same _
    ·exact EqAt.of_refs hab key.1
   |_=>exact rQ A s _ _ u v (by simp[iN]) (by omega) rx ry
  |lst l=>
   cases y with
   |lst m=>
    unfold ReV at rx ry;obtain⟨a,us,rfl,h1,r1⟩:=rx;obtain⟨b,vs,rfl,h2,r2⟩:=ry;unfold aX
    exact lists l m a b us vs (by simp only[T.dep]at hd;omega) r1 r2 h1 h2
   |scr m=>
    unfold ReV at rx ry;obtain⟨a,us,rfl,h1,r1⟩:=rx;obtain⟨b,vs,rfl,h2,r2⟩:=ry;unfold aX
    exact lists l (m.map T.int) a b us vs (by rw[fo];omega) r1 (dH r2) h1 h2
   |_=>exact rQ A s _ _ u v (by simp[iN]) (by omega) rx ry
  |scr l=>
   cases y with
   |lst m=>
    unfold ReV at rx ry;obtain⟨a,us,rfl,h1,r1⟩:=rx;obtain⟨b,vs,rfl,h2,r2⟩:=ry;unfold aX;rw[mU]
    exact lists (l.map T.int) m a b us vs (by rw[fo];omega) (dH r1) r2 h1 h2
   |scr m=>
    unfold ReV at rx ry;obtain⟨a,us,rfl,h1,r1⟩:=rx;obtain⟨b,vs,rfl,h2,r2⟩:=ry;unfold aX;rw[pf]
    exact lists (l.map T.int) (m.map T.int) a b us vs (by rw[fo];omega) (dH r1) (dH r2) h1 h2
   |_=>exact rQ A s _ _ u v (by simp[iN]) (by omega) rx ry
  |_=>exact rQ A s _ _ u v (by simp[iN]) (by omega) rx ry
mutual
def T.nf:T->T
 |.tup l=>.tup (nfs l)
 |.lst l=>.lst (nfs l)
 |.scr l=>.lst (l.map .int)
 |.non=>.non
 |.bl b=>.bl b
 |.int b=>.int b
 |.str b=>.str b
 |.dct a b=>.dct a b
 |.ob a b c=>.ob a b c
def nfs:List T->List T
 |[] =>[]
 |t::l=>t.nf::nfs l
end
theorem rE:∀(l:List Int),nfs (l.map T.int)=l.map T.int
 |[] =>rfl
 |i::l=>by rw[JG,nfs,rE l];simp[T.nf]
mutual
theorem kg:∀(t x:T),aX t.nf x=aX t x
 |.non,x=>by simp[T.nf]
 |.bl _,x=>by simp[T.nf]
 |.int _,x=>by simp[T.nf]
 |.str _,x=>by simp[T.nf]
 |.tup l,x=>by cases x <;> simp[T.nf,aX,beqTs_nf l]
 |.lst l,x=>by cases x <;> simp[T.nf,aX,beqTs_nf l]
 |.scr l,x=>by cases x <;> simp[T.nf,aX,mU,pf]
 |.dct _ _,x=>by simp[T.nf]
 |.ob _ _ _,x=>by simp[T.nf]
theorem beqTs_nf:∀(l m:List T),beqTs (nfs l) m=beqTs l m
 |[],m=>by simp[nfs]
 |t::l,m=>by cases m <;> simp[nfs,beqTs,kg t,beqTs_nf l]
end
def EO{t:T}(r:ReV s t (.int i k)):t.nf=.int i:=by
 cases t with
 |non=>unfold ReV at r;cases r
 |bl b=>unfold ReV at r;cases r
 |int j=>unfold ReV at r;obtain⟨t,e⟩:=r;injection e with e1 _;subst e1;rfl
 |str x=>unfold ReV at r;obtain⟨t,e⟩:=r;cases e
 |tup l=>unfold ReV at r;obtain⟨a,its,e,_⟩:=r;cases e
 |lst l=>unfold ReV at r;obtain⟨a,its,e,_⟩:=r;cases e
 |scr l=>unfold ReV at r;obtain⟨a,its,e,_⟩:=r;cases e
 |dct _ _=>unfold ReV at r;exact r.elim
 |ob _ _ _=>unfold ReV at r;exact r.elim
theorem uS:∀{l:List T}{us:List JD}{ns:List Int},ReVs s l us->Ot us ns->nfs l=ns.map T.int
 |[],us,ns,r,h=>by cases ReVs.Da.mp r;cases h;rfl
 |t::l,us,ns,r,h=>by
  obtain⟨u,ws,rfl,p,q⟩:=ReVs.AC.mp r
  cases h with
  |cons a b hh=>rw[nfs,EO p,uS q hh];rfl
mutual
theorem ReV.nf{s:JB}:∀{t u:T}{v:JD},ReV s t v->ReV s u v->t.nf=u.nf
 |.non,u,v,r,q=>by
  unfold ReV at r;subst r
  cases u <;> (unfold ReV at q) <;> first|rfl| (cases q;done)| (obtain⟨_,e⟩:=q;cases e;done)| (obtain⟨_,_,e,_⟩:=q;cases e;done)
 |.bl b,u,v,r,q=>by
  unfold ReV at r;subst r
  cases u <;> (unfold ReV at q) <;> first| (cases q;done)| (cases q;rfl)| (obtain⟨_,e⟩:=q;cases e;done)| (obtain⟨_,_,e,_⟩:=q;cases e;done)
 |.int b,u,v,r,q=>by
  unfold ReV at r;obtain⟨k,rfl⟩:=r
  cases u <;> (unfold ReV at q) <;> first| (cases q;done)| (obtain⟨_,e⟩:=q;cases e;done)| (obtain⟨_,e⟩:=q;cases e;rfl)| (obtain⟨_,_,e,_⟩:=q;cases e;done)
 |.str b,u,v,r,q=>by
  unfold ReV at r;obtain⟨k,rfl⟩:=r
  cases u <;> (unfold ReV at q) <;> first| (cases q;done)| (obtain⟨_,e⟩:=q;cases e;done)| (obtain⟨_,e⟩:=q;cases e;rfl)| (obtain⟨_,_,e,_⟩:=q;cases e;done)
 |.tup l,u,v,r,q=>by
  unfold ReV at r;obtain⟨a,its,rfl,h1,h2⟩:=r
  cases u with
  |non=>unfold ReV at q;cases q
  |dct _ _=>unfold ReV at q;exact q.elim
  |ob _ _ _=>unfold ReV at q;exact q.elim
  |bl _=>unfold ReV at q;cases q
  |int _=>unfold ReV at q;obtain⟨_,e⟩:=q;cases e
  |str _=>unfold ReV at q;obtain⟨_,e⟩:=q;cases e
  |tup m=>
   unfold ReV at q;obtain⟨a',its',e,h1',h2'⟩:=q;injection e with e;subst e
   have:=ir h1 h1';subst this;unfold T.nf
   rw[ReVs.nf h2 h2']
  |lst m=>unfold ReV at q;obtain⟨a',its',e,h1',h2'⟩:=q;injection e with e;subst e;exact absurd rfl (ne_of_list_tuple h1' h1)
  |scr m=>unfold ReV at q;obtain⟨a',its',e,h1',h2'⟩:=q;injection e with e;subst e;exact absurd rfl (ne_of_list_tuple h1' h1)
 |.lst l,u,v,r,q=>by
  unfold ReV at r;obtain⟨a,its,rfl,h1,h2⟩:=r
  cases u with
  |non=>unfold ReV at q;cases q
  |dct _ _=>unfold ReV at q;exact q.elim
  |ob _ _ _=>unfold ReV at q;exact q.elim
  |bl _=>unfold ReV at q;cases q
  |int _=>unfold ReV at q;obtain⟨_,e⟩:=q;cases e
  |str _=>unfold ReV at q;obtain⟨_,e⟩:=q;cases e
  |lst m=>
   unfold ReV at q;obtain⟨a',its',e,h1',h2'⟩:=q;injection e with e;subst e
   have:=cV h1 h1';subst this;unfold T.nf
   rw[ReVs.nf h2 h2']
  |tup m=>unfold ReV at q;obtain⟨a',its',e,h1',h2'⟩:=q;injection e with e;subst e;exact absurd rfl (ne_of_list_tuple h1 h1')
  |scr m=>
   unfold ReV at q;obtain⟨a',its',e,h1',h2'⟩:=q;injection e with e;subst e
   have:=cV h1 h1';subst this;unfold T.nf
   rw[ReVs.nf h2 (dH h2'),rE]
 |.scr l,u,v,r,q=>by
  unfold ReV at r;obtain⟨a,its,rfl,h1,h2⟩:=r
  cases u with
  |non=>unfold ReV at q;cases q
  |dct _ _=>unfold ReV at q;exact q.elim
  |ob _ _ _=>unfold ReV at q;exact q.elim
  |bl _=>unfold ReV at q;cases q
  |int _=>unfold ReV at q;obtain⟨_,e⟩:=q;cases e
  |str _=>unfold ReV at q;obtain⟨_,e⟩:=q;cases e
  |lst m=>
   unfold ReV at q;obtain⟨a',its',e,h1',h2'⟩:=q;injection e with e;subst e
   have:=cV h1 h1';subst this
   have z:=uS h2' h2;unfold T.nf
   rw[z]
  |tup m=>unfold ReV at q;obtain⟨a',its',e,h1',h2'⟩:=q;injection e with e;subst e;exact absurd rfl (ne_of_list_tuple h1 h1')
  |scr m=>
   unfold ReV at q;obtain⟨a',its',e,h1',h2'⟩:=q;injection e with e;subst e
   have:=cV h1 h1';subst this
   rw[iu h2 h2']
 |.dct _ _,u,v,r,q=>by unfold ReV at r;exact r.elim
 |.ob _ _ _,u,v,r,q=>by unfold ReV at r;exact r.elim
theorem ReVs.nf{s:JB}:∀{l m:List T}{us:List JD},ReVs s l us->ReVs s m us->nfs l=nfs m
 |[],m,us,r,q=>by
  cases ReVs.Da.mp r
  cases m with
  |nil=>rfl
  |cons _ _=>obtain⟨_,_,e,_⟩:=ReVs.AC.mp q;cases e
 |t::l,m,us,r,q=>by
  obtain⟨v,ws,rfl,p,z⟩:=ReVs.AC.mp r
  cases m with
  |nil=>cases ReVs.Da.mp q
  |cons u m=>
   obtain⟨v',ws',e,p',z'⟩:=ReVs.AC.mp q;injection e with e1 e2
   subst e1 e2;rw[nfs,nfs,ReV.nf p p',ReVs.nf z z']
end
variable{x y:T}
section
variable {a b c:ZG}{fa fb fc:V6}{pos:Pos}
def fD(x y:T):Bool:=(decide (x.dep<=60)||decide (y.dep<=60))&&(x.nd&&y.nd)
def eqT(x y:T):Rs T:=if fD x y=ZC then .ok (.bl (aX x y))else .bad
def neT(x y:T):Rs T:=if fD x y=ZC then .ok (.bl (!aX x y))else .bad
def eK(h:x.dep<=60)(hx:x.nd=ZC)(hy:y.nd=ZC):fD x y=ZC:=by unfold fD;rw[decide_eq_true h,hx,hy];rfl
def rO(h:y.dep<=60)(hx:x.nd=ZC)(hy:y.nd=ZC):fD x y=ZC:=by unfold fD;rw[decide_eq_true h,hx,hy,RC];rfl
def iX(h:fD x y=ZC):x.nd=ZC/\y.nd=ZC:=by
 unfold fD at h;exact Ky.mp (Ky.mp h).2
def n8(h:fD x y=ZC):x.dep<=60\/y.dep<=60:=by
 unfold fD at h
 replace h:=(Ky.mp h).1
 rcases Bool.or_eq_true_iff.mp h with h|h
 ·exact .inl (of_decide_eq_true h)
 ·exact .inr (of_decide_eq_true h)
def nQ(hu:X.A.units+60<cLine):OpT X (KU .Eq) eqT:=by
 intro ca s σ H O x y vx vy ux uy Q I hf rx ry r1 r2 hp;unfold eqT at hp
 split at hp
 ·rename_i h
  have z:=BK 60 X.A s x y ux uy (n8 h) hu (Rep.val I (iX h).1 rx r1) (Rep.val I (iX h).2 ry r2);exact z.2.1 _ _ _ _ ⟨.bl _,H,I,rfl,hp H (Same.refl H) _ (Rep.bl_ _)⟩
 ·exact hp.elim
def jh(hu:X.A.units+60<cLine):OpT X (KU .NotEq) neT:=by
 intro ca s σ H O x y vx vy ux uy Q I hf rx ry r1 r2 hp;unfold neT at hp
 split at hp
 ·rename_i h
  have z:=BK 60 X.A s x y ux uy (n8 h) hu (Rep.val I (iX h).1 rx r1) (Rep.val I (iX h).2 ry r2);exact z.2.2 _ _ _ _ ⟨.bl _,H,I,rfl,hp H (Same.refl H) _ (Rep.bl_ _)⟩
 ·exact hp.elim
def T.items:T->Option (List T)
 |.tup l=>ZA l
 |.lst l=>ZA l
 |.scr l=>ZA (l.map T.int)
 |_=>ZB
def oE(x:T)(l:List T):Bool:=l.any λy=>aX y x
def FI(x y:T):Rs T:=match y.items with
 |some l=>if (x.dep<=60\/deps l<=60)/\x.nd=ZC/\y.nd=ZC then .ok (.bl (oE x l))else .bad
 |none=>.bad
def Bs(rx:ReV s x ux)(hu:A.units+60<cLine)(hd:x.dep<=60\/deps l<=60)(r:ReVs s l us):
  ∃e:JD->Bool,(∀y∈us,EqAt A s y ux (e y))/\us.any e=oE x l:=by
 classical
 have ex:∀y∈us,∃t∈l,ReV s t y:=λy hy=>by
  obtain⟨i,hi,rfl⟩:=Mk hy
  have hl:=r.length
  have e1:l[i]?=ZA l[i]:=by simp
  obtain⟨u,q1,q2⟩:=r.get e1
  have:us[i]?=ZA us[i]:=by simp
  rw[this]at q1;cases q1;exact⟨l[i],Lg _,q2⟩
 let e:JD->Bool:=λy=>decide (∃t∈l,ReV s t y/\aX t x=ZC)
 have dep:∀t∈l,t.dep<=60\/x.dep<=60:=λt ht=>by
  rcases hd with h|h
  ·exact .inr h
  ·obtain⟨i,hi,rfl⟩:=Mk ht
   exact .inl (J5 (ix (i:=i) (by simp)) h)
 have uniq:∀y t t',ReV s t y->ReV s t' y->aX t x=aX t' x:=λy t t' z z'=>by
  rw[<-kg t,<-kg t',ReV.nf z z']
 have agree:∀y t,t∈l->ReV s t y->e y=aX t x:=λy t h z=>by
  show decide (∃t∈l,ReV s t y/\aX t x=ZC)=aX t x
  cases q:aX t x with
  |true=>exact decide_eq_true ⟨t,h,z,q⟩
  |false=>
   refine decide_eq_false ?_
   rintro ⟨t',h',z',q'⟩
   rw[<-uniq y t t' z z',q]at q';cases q'
 refine⟨e,λy hy=>?_,?_⟩
 ·obtain⟨t,h,z⟩:=ex y hy
  rw[agree y t h z];exact(BK 60 A s t x y ux (dep t h) hu z rx).1
 ·have go:∀(l':List T)(us':List JD),(∀t∈l',t∈l)->ReVs s l' us'->us'.any e=l'.any λy=>aX y x:=by
   intro l'
   induction l' with
   |nil=>intro us' _ r';rw[ReVs.Da.mp r'];rfl
   |cons t l' ih=>
    intro us' sub r';obtain⟨u,ws,rfl,p,q⟩:=ReVs.AC.mp r';rw[LU,LU,ih ws (λt ht=>sub t (JF _ ht)) q,agree u t (sub t JI) p]
  exact go l us (λ_ h=>h) r
def we{u:JD}(r:ReV s y u)(h:y.items=ZA l):∃a us,u=.ref a/\ReVs s l us/\(s.heap.IsTuple a us.toArray\/s.heap.IsList a us.toArray):=by
 cases y with
 |tup m=>cases h;unfold ReV at r;obtain⟨a,us,e,h1,h2⟩:=r;exact⟨a,us,e,h2,.inl h1⟩
 |lst m=>cases h;unfold ReV at r;obtain⟨a,us,e,h1,h2⟩:=r;exact⟨a,us,e,h2,.inr h1⟩
 |scr m=>cases h;unfold ReV at r;obtain⟨a,us,e,h1,h2⟩:=r;exact⟨a,us,e,dH h2,.inr h1⟩
 |_=>cases h
def G2(hu:X.A.units+61<cLine):OpT X (KU .In) FI:=by
 intro ca s σ H O x y vx vy ux uy Q I hf rx ry r1 r2 hp;unfold FI at hp
 split at hp
 ·rename_i l hl
  split at hp
  ·rename_i hd3
   obtain⟨hd,hnx,hny⟩:=hd3;obtain⟨a,us,rfl,rs,hh⟩:=we (Rep.val I hny ry r2) hl;obtain⟨e,he,ha⟩:=Bs (A:=X.A.in1) (Rep.val I hnx rx r1) (by show X.A.units+1+60<cLine;omega) hd rs
   have q:=hp H (Same.refl H) _ (Rep.bl_ (oE x l))
   have he':∀y,y∈us.toArray->EqAt X.A.in1 s y ux (e y):=λy hy=>he y (by simpa using hy)
   have ha':us.toArray.any e=oE x l:=by simpa using ha
   rcases hh with hh|hh
   ·exact in_tupleAt e hh he' (by rw[ha'];exact⟨.bl _,H,I,rfl,q⟩)
   ·exact in_listAt e hh he' (by rw[ha'];exact⟨.bl _,H,I,rfl,q⟩)
  ·exact hp.elim
 ·exact hp.elim
def ch(g g':T->T->Rs T)(fa fb fc:V6)(ρ:En):Rs T:=do
 let x <-fa ρ
 let y <-fb ρ
 let z <-g x y
 match z with
 |.bl ZC=>do
  let w <-fc ρ
  g' y w
 |.bl ZD=>.ok (.bl ZD)
 |_=>.bad
def AV{op':Sy}{g g':T->T->Rs T}(ho:OpT X (KU op) g)(ho':OpT X (KU op') g')(ha:cy X a fa)(hb:cy X b fb)(hc:cy X c fc)
  (hm:autoParam (lastMarks [op,op'] [b,c]=ZD) w_):cy X (.Compare a [op,op'] [b,c] pos) (ch g g' fa fb fc):=by
 intro ca s σ H Q I ⟨ρ,O,E,hq⟩
 have h1:=aO E hq;refine Compare_chain (bN (ha ca s σ H _ I h1) λv s1 ⟨x,H1,I1,r1,t,rt,s',E',q1⟩=>chain_link ?_) hm
 have h2:=aO (f:=fb) E' q1;refine bN (hb ca s1 σ H1 _ I1 h2) λu s2 hh_=>?_
 obtain⟨y,H2,I2,r2,t2,rt2,s'',E'',q2⟩:=hh_
 refine bN (ho ca s2 σ H2 O t t2 x y v u (λv' H'=>∃t',Rep X.K O H' t' v'/\Same H2 H'/\Post X H' (match t' with
  |.bl ZC=>fc ρ >>= λw=>g' t2 w
  |.bl ZD=>.ok (.bl ZD)
  |_=>.bad) (λt H'=>∀v,Rep X.K O H' t v->Q v H')) I2 (λp=>E''.fresh) (rt.same s'') rt2 r1 r2 (Post.mono q2.bind λt' H' s3 q v rv=>⟨t',rv,s3,q⟩)) λd s3 ⟨z,H3,I3,r3,t3,rt3,sm3,q3⟩=>?_
 have E3:=E''.same sm3
 split at q3
 ·cases Rep.Gc.mp rt3
  cases r3;refine K2 (ite_tt (chain_last ?_))
  have h4:=aO (f:=fc) E3 q3;refine bN (hc ca s3 σ H3 _ I3 h4) λw' s4 ⟨z',H4,I4,r4,t4,rt4,s4',E4,q4⟩=>?_
  exact ho' ca s4 σ H4 O t2 t4 y z' u w' Q I4 (λp=>E4.fresh) ((rt2.same sm3).same s4') rt4 r2 r4 q4
 ·cases Rep.Gc.mp rt3
  cases r3;refine K2 (ite_ff ⟨.bl ZD,H3,I3,rfl,q3 H3 (Same.refl H3) _ (Rep.bl_ ZD)⟩)
 ·exact q3.elim
def tb(f:V6)(ρ:En):Rs Bool:=do
 let x <-f ρ
 match x with
 |.bl k=>.ok k
 |_=>.bad
def bt(f:V7)(ρ:En):Rs T:=do
 let k <-f ρ
 .ok (.bl k)
def Dq{f:V6}(h:cy X e f)(he:autoParam (∀whole,isTrue e X.env whole=(do let v <-whole;standAt e.pos;holding [v] (truthy v))) t_):vp X e (tb f):=by
 intro ca s σ H Q I ⟨ρ,O,E,hq⟩;refine DQ h he ca s σ H Q I ?_
 obtain⟨ρ1,O1,E1,h1⟩:=aO E hq;refine⟨ρ1,O1,E1,Post.mono h1 λts H1 s1 q vs r=>?_⟩
 obtain⟨t',r',s',E',q'⟩:=q vs r
 split at q'
 ·exact⟨_,Rep.Gc.mp r',q' H1 (Same.refl H1)⟩
 ·exact q'.elim
def Ds{g:T->T->Rs T}(ho:OpT X (KU op) g)(ha:cy X a fa)(hb:cy X b fb)(hm:autoParam (ML op b=ZD) u_):vp X (.Compare a [op] [b] pos) (tb (o2 g fa fb)):=by
 intro ca s σ H Q I ⟨ρ,O,E,hq⟩
 have hq':Post X H (o2 g fa fb ρ) λt H'=>∀v,Rep X.K O H' t v->∃k,v=.bl k/\Q k H':=Post.mono hq.bind λt H' s' q v r=>by
  split at q
  ·exact⟨_,Rep.Gc.mp r,q H' (Same.refl H')⟩
  ·exact q.elim
 have h1:=aO E hq';refine wpAny_isTrue_Compare1 (bN (ha ca s σ H _ I h1) λv s1 ⟨x,H1,I1,r1,t,rt,s',E',q1⟩=>?_) hm
 have h2:=aO (f:=fb) E' q1;refine bN (hb ca s1 σ H1 _ I1 h2) λu s2 hh_=>?_
 obtain⟨y,H2,I2,r2,t2,rt2,s'',E'',q2⟩:=hh_;refine bN (ho ca s2 σ H2 O t t2 x y v u _ I2 (λp=>E''.fresh) (rt.same s'') rt2 r1 r2 q2) λd s3 hh_=>?_
 obtain⟨z,H3,I3,r3,k,e,q3⟩:=hh_;subst e;cases r3;exact K2 ⟨H3,I3,q3⟩
def qm(f g:V7)(ρ:En):Rs Bool:=do
 let k <-f ρ
 if k then g ρ else .ok ZD
def lZ(f g:V7)(ρ:En):Rs Bool:=do
 let k <-f ρ
 if k then .ok ZC else g ρ
def cI(f:V7)(ρ:En):Rs Bool:=do
 let k <-f ρ
 .ok (!k)
variable {f g:V7}{br:List ZG}
abbrev HU(X:Cx)(e:ZG)(f:V7):Prop:=PW X e (uh X f)
def Dp(ha:vp X a f):HU X (.BoolOp .Or [a] pos) f:=DP ha
def Gx(ha:vp X a f)(hb:HU X (.BoolOp .Or (b::br) pos) g):HU X (.BoolOp .Or (a::b::br) pos) (lZ f g):=by
 intro wh ca s σ H Q I ⟨ρ,O,E,hq⟩;refine GS ha hb wh ca s σ H Q I ?_
 obtain⟨ρ1,O1,E1,h1⟩:=hG E hq;refine⟨ρ1,O1,E1,Post.mono h1 λk H1 s1 q=>?_⟩
 obtain⟨s',E',q'⟩:=q
 cases k with
 |true=>rw[if_pos rfl];exact q' H1 (Same.refl H1)
 |false=>rw[if_neg J7];exact⟨ρ,O,E',by simpa using q'⟩
def qt_w(h:HU X e f):vp X e f:=h.pt
def Dr(ha:vp X a f):vp X (.UnaryOp .Not a pos) (cI f):=by
 intro ca s σ H Q I ⟨ρ,O,E,hq⟩;refine DU ha ca s σ H Q I ?_
 obtain⟨ρ1,O1,E1,h1⟩:=hG E hq;exact⟨ρ1,O1,E1,Post.mono h1 λk H1 s1 ⟨s',E',q'⟩=>q' H1 (Same.refl H1)⟩
def bZ(f g:V6)(ρ:En):Rs T:=do
 let x <-f ρ
 match x with
 |.bl ZC=>g ρ
 |.bl ZD=>.ok (.bl ZD)
 |_=>.bad
def z0(f g:V6)(ρ:En):Rs T:=do
 let x <-f ρ
 match x with
 |.bl ZC=>.ok (.bl ZC)
 |.bl ZD=>g ρ
 |_=>.bad
def Bp:T->Rs T
 |.bl k=>.ok (.bl (!k))
 |_=>.bad
def GG{op}(h:cy X a fa):cy X (.BoolOp op [a] pos) fa:=D6 h
def GR(ha:cy X a fa)(hb:cy X (.BoolOp .And (b::br) pos) fb):cy X (.BoolOp .And (a::b::br) pos) (bZ fa fb):=by
 intro ca s σ H Q I ⟨ρ,O,E,hq⟩;refine Eb ha hb ca s σ H Q I ?_
 obtain⟨ρ1,O1,E1,h1⟩:=aO E hq;refine⟨ρ1,O1,E1,Post.mono h1 λts H1 s1 q vs r=>?_⟩
 obtain⟨t',r',s',E',q'⟩:=q vs r
 split at q'
 ·exact⟨ZC,Rep.Gc.mp r',by rw[if_pos rfl];exact⟨ρ,O,E',q'⟩⟩
 ·exact⟨ZD,Rep.Gc.mp r',by rw[if_neg J7];exact q' H1 (Same.refl H1) _ (Rep.bl_ ZD)⟩
 ·exact q'.elim
def q_or(ha:cy X a fa)(hb:cy X (.BoolOp .Or (b::br) pos) fb):cy X (.BoolOp .Or (a::b::br) pos) (z0 fa fb):=by
 intro ca s σ H Q I ⟨ρ,O,E,hq⟩;refine GX ha hb ca s σ H Q I ?_
 obtain⟨ρ1,O1,E1,h1⟩:=aO E hq;refine⟨ρ1,O1,E1,Post.mono h1 λts H1 s1 q vs r=>?_⟩
 obtain⟨t',r',s',E',q'⟩:=q vs r
 split at q'
 ·exact⟨ZC,Rep.Gc.mp r',by rw[if_pos rfl];exact q' H1 (Same.refl H1) _ (Rep.bl_ ZC)⟩
 ·exact⟨ZD,Rep.Gc.mp r',by rw[if_neg J7];exact⟨ρ,O,E',q'⟩⟩
 ·exact q'.elim
def GH(ha:cy X a fa):cy X (.UnaryOp .Not a pos) (o1 Bp fa):=by
 intro ca s σ H Q I ⟨ρ,O,E,hq⟩;refine D7 ha ca s σ H Q I ?_
 obtain⟨ρ1,O1,E1,h1⟩:=aO E hq;refine⟨ρ1,O1,E1,Post.mono h1 λts H1 s1 q vs r=>?_⟩
 obtain⟨t',r',s',E',q'⟩:=q vs r;unfold Bp at q'
 split at q'
 ·exact⟨_,Rep.Gc.mp r',q' H1 (Same.refl H1) _ (Rep.bl_ _)⟩
 ·exact q'.elim
def FJ(f:V7)(fa fb:V6)(ρ:En):Rs T:=do
 let k <-f ρ
 if k then fa ρ else fb ρ
def q_if(hc:vp X c f)(ha:cy X a fa)(hb:cy X b fb):cy X (.IfExp c a b pos) (FJ f fa fb):=by
 intro ca s σ H Q I ⟨ρ,O,E,hq⟩;refine x6 hc ha hb ca s σ H Q I ?_
 obtain⟨ρ1,O1,E1,h1⟩:=hG E hq;refine⟨ρ1,O1,E1,Post.mono h1 λk H1 s1 q=>?_⟩
 obtain⟨s',E',q'⟩:=q
 cases k with
 |true=>rw[if_pos rfl];exact⟨ρ,O,E',by simpa using q'⟩
 |false=>rw[if_neg J7];exact⟨ρ,O,E',by simpa using q'⟩
end
end Tr
namespace HT
open PySem PyProof.Rows
def jb{t:ZE}{items:Array JD}{Q:Bool->JB->Prop}(ht:SA s.heap t items)(h:Q ZC s):ZJ (ZK prog w) A (N8 (.ref t)) Q E s:=by
 unfold N8;refine Jy (M6 ht.typeIs (JK ?_))
 exact h
def getItem_tuple_whole{t sl:ZE}{items:Array JD}(ht:SA s.heap t items)(hs:s.heap.IsSliceOf sl vl vu .none)(pl:Q4 vl lo)(pu:Q4 vu hi)
  (hw:sIx items.size 0 lo=0/\sIx items.size items.size hi=items.size) (h:Q (.ref t) s):ZJ (ZK prog w) A (getItem (.ref t) (.ref sl)) Q E s:=by
 obtain⟨os,hos,hcs,hds⟩:=id hs
 have hTs:s.TypeIs (.ref sl) "slice":=⟨os,hos,hcs⟩;unfold getItem
 try with_reducible refine KM ?_
 first|refine Jy (JK ?_)|skip
 refine Jy (Ru ht.typeIs (by decide) ?_)
 refine Jy (Ku (name:=JN "__getitem__") ht.typeIs KF
  (KZ KF ht.typeIs Qo ?_ (Q5 _ _)))
 show ZJ _ _ (N7 (.ref t) >>= _) _ _ s
 refine Jy (Q6 ht ?_)
 refine Jy (M6 hTs ?_)
 rw[if_pos (by decide)]
 refine Jy (gi hs pl pu ?_)
 have hyes:(((sIx items.size 0 lo:Nat):Int) == 0&&(1:Int) == 1&&(sIx items.size items.size hi - sIx items.size 0 lo) == items.size)=ZC:=by
  rw[hw.1,hw.2];simp
 show ZJ _ _ (if (((sIx items.size 0 lo:Nat):Int) == 0&&(1:Int) == 1&&(sIx items.size items.size hi - sIx items.size 0 lo) == items.size)=ZC then _ else _) _ _ s
 rw[if_pos hyes]
 first
  |refine Jy (jb ht ?_)
  |refine jb ht ?_
 try rw[if_pos rfl]
 first
  |exact Jy (Mb (JK ⟨_,rfl,JK h⟩))
  |exact Jy (Mb (Jy (JK (JK ⟨_,rfl,JK h⟩))))
end HT
variable{i:Nat}
namespace Tr
open PySem PySem.Spec PyProof.Rows L2
variable{H:Hp}{O:Ow}{X:Cx}{e:ZG}{es:List ZG}{fa fb fc:V6}{l:List T}{p:Pos}{v:V}{vs:List V}{x:Str}{ρ:En}{σ:L2.St}
section
variable {a b c:ZG}{pos:Pos}
theorem Reps.atI{i:Int}{t:T}(r:Reps K O H l vs)(e:L2.atI l i=ZA t):∃v,L2.atI vs i=ZA v/\Rep K O H t v:=by
 unfold L2.atI at e ⊢;rw[r.length]at e
 cases q:ixN vs.length i with
 |none=>rw[q]at e;cases e
 |some j=>
  rw[q]at e;obtain⟨v,e1,e2⟩:=r.get (i:=j) (t:=t) e;exact⟨v,e1,e2⟩
def aS(x y:T):Rs T:=match x.items,y with
 |some l,.int i=>match L2.atI l i with
  |some t=>.ok t
  |none=>.bad
 |_,_=>.bad
def q_ix(ha:cy X a fa)(hb:cy X b fb)(hs:autoParam (vo b) x_):cy X (.Subscript a b pos) (o2 aS fa fb):=by
 intro ca s σ H Q I ⟨ρ,O,E,hq⟩
 have h1:=aO E hq;refine Rv (bN (ha ca s σ H _ I h1) λv s1 hh_=>?_)
 obtain⟨x,H1,I1,r1,t,rt,s',E',q1⟩:=hh_
 have h2:=aO (f:=fb) E' q1;refine bN (hb ca s1 σ H1 _ I1 h2) λu s2 hh_=>?_
 obtain⟨y,H2,I2,r2,t2,rt2,s'',E'',q2⟩:=hh_
 have rt':=rt.same s'';unfold aS at q2
 split at q2
 ·rename_i l i hl
  split at q2
  ·rename_i z hz
   have hy:=Rep.Do.mp rt2;refine EM a b ca s2 σ H2 x y v u Q I2 r1 r2 ?_ (hs _ _)
   cases t with
   |tup m=>
    cases hl;obtain⟨p,vs,e,n,q,rr⟩:=Rep.FB.mp rt';obtain⟨w,ew,rw'⟩:=rr.atI hz
    exact .inr (.inl ⟨p,vs,i,w,e,hy,SqT.of q,ew,q2 H2 (Same.refl H2) _ rw'⟩)
   |lst m=>
    cases hl;obtain⟨p,vs,e,n,q,rr⟩:=Rep.Fk.mp rt';obtain⟨w,ew,rw'⟩:=rr.atI hz
    exact .inl ⟨p,vs,i,w,e,hy,SqL.of q,ew,q2 H2 (Same.refl H2) _ rw'⟩
   |scr m=>
    cases hl;unfold Rep at rt';obtain⟨p,e,n,q⟩:=rt';obtain⟨w,ew,rw'⟩:=(Reps.ints (K:=X.K) (O:=O) (H:=H2) (ns:=m)).atI hz
    exact .inl ⟨p,_,i,w,e,hy,q,ew,q2 H2 (Same.refl H2) _ rw'⟩
   |_=>cases hl
  ·exact q2.elim
 ·exact q2.elim
def kc(l:List T)(lo hi:Option Int):List T:=(l.drop (HT.sIx l.length 0 lo)).take (HT.sIx l.length l.length hi - HT.sIx l.length 0 lo)
def Reps.cut(r:Reps K O H l vs)(lo hi:Option Int):Reps K O H (kc l lo hi) (r0 vs lo hi):=by
 unfold kc r0;rw[r.length];exact(r.drop _).take _
def om(h:HT.sIx l.length 0 lo=0/\HT.sIx l.length l.length hi=l.length):kc l lo hi=l:=by
 unfold kc;rw[h.1,h.2];simp
def sl_tup_whole:SlR X (λx lo hi H Q=>∃a xs,x=.ref a/\SqT X.K H a xs/\(HT.sIx xs.length 0 lo=0/\HT.sIx xs.length xs.length hi=xs.length)/\Q (.ref a) H):=by
 intro ca s σ H x v vl vu lo hi sl Q I rx hs pl pu h;obtain⟨a,xs,rfl,hx,hw,q⟩:=h;cases rx;obtain⟨its,r,ht,hz⟩:=I.tuple hx
 have hlen:its.toArray.size=xs.length:=by rw[J0];exact r.length.symm
 refine⟨"tuple",_,KF.lookup,ht.typeIs,?_⟩
 exact HT.getItem_tuple_whole ht hs pl pu (by rw[hlen];exact hw) ⟨.ref a,H,I,rfl,q⟩
def pN(_:En):Rs (Option Int):=.ok ZB
def pS(f:V6)(ρ:En):Rs (Option Int):=do
 let x <-f ρ
 match x with
 |.int i=>.ok (ZA i)
 |_=>.bad
def tPO(X:Cx)(f:En->Rs (Option Int)):TO:=λσ H Q=>∃ρ O,EnvO X.K O H ρ σ/\Post X H (f ρ) λb H'=>Q b H'
abbrev Fw(X:Cx)(e:Option ZG)(f:En->Rs (Option Int)):Prop:=PO X e (tPO X f)
def AL:Fw X ZB pN:=by
 intro ca s σ H Q I ⟨ρ,O,E,hq⟩;exact A4 ca s σ H Q I (hq H (Same.refl H))
def AK(ha:cy X a fa):Fw X (ZA a) (pS fa):=by
 intro ca s σ H Q I ⟨ρ,O,E,hq⟩;refine A3 ha ca s σ H Q I ?_
 obtain⟨ρ1,O1,E1,h1⟩:=aO E hq;refine⟨ρ1,O1,E1,Post.mono h1 λts H1 s1 q vs r=>?_⟩
 obtain⟨t',r',s',E',q'⟩:=q vs r
 split at q'
 ·exact⟨_,Rep.Do.mp r',q' H1 (Same.refl H1)⟩
 ·exact q'.elim
def slT(x:T)(lo hi:Option Int):Rs T:=match x with
 |.tup l=>.ok (.tup (kc l lo hi))
 |.lst l=>.ok (.lst (kc l lo hi))
 |_=>.bad
def sl(fe:V6)(fl fu:En->Rs (Option Int))(ρ:En):Rs T:=do
 let x <-fe ρ
 let l <-fl ρ
 let u <-fu ρ
 slT x l u
def jN{f:En->Rs (Option Int)}{k:Option Int->Rs α}{Q:α->Hp->Prop}(E:EnvO X.K O H ρ σ)(h:Post X H (f ρ >>= k) Q):
  tPO X f σ H λb H'=>Same H H'/\EnvO X.K O H' ρ σ/\Post X H' (k b) Q:=
 ⟨ρ,O,E,Post.mono h.bind λt H' s q=>⟨s,E.same s,q⟩⟩
def AU{lo hi:Option ZG}{p2:Pos}{fl fu:En->Rs (Option Int)}(ha:cy X a fa)(hl:Fw X lo fl)(hu:Fw X hi fu):cy X (.Subscript a (.Slice lo hi ZB p2) pos) (sl fa fl fu):=by
 intro ca s σ H Q I ⟨ρ,O,E,hq⟩;refine xZ (sl_tup.or (sl_tup_whole.or um)) ha hl hu ca s σ H Q I ?_
 obtain⟨ρ1,O1,E1,h1⟩:=aO E hq;refine⟨ρ1,O1,E1,Post.mono h1 λts H1 s1 q vs r=>?_⟩
 obtain⟨t',r',s',E',q'⟩:=q vs r;obtain⟨ρ2,O2,E2,h2⟩:=jN E' q';refine⟨ρ2,O2,E2,Post.mono h2 λo1 H2 s2 q=>?_⟩
 obtain⟨s2',E2',q2⟩:=q;obtain⟨ρ3,O3,E3,h3⟩:=jN E2' q2;refine⟨ρ3,O3,E3,Post.mono h3 λo2 H3 s3 q=>?_⟩
 obtain⟨s3',E3',q3⟩:=q
 have rt:=(r'.same s2').same s3';unfold slT at q3
 split at q3
 ·rename_i l
  obtain⟨p,ws,e,n,q,rr⟩:=Rep.FB.mp rt
  have hlen:=rr.length
  by_cases hw:HT.sIx ws.length 0 o1=0/\HT.sIx ws.length ws.length o2=ws.length
  ·refine .inr (.inl ⟨p,ws,e,SqT.of q,hw,?_⟩)
   rw[<-hlen]at hw;refine q3 H3 (Same.refl H3) _ ?_
   rw[om hw];exact Rep.FB.mpr ⟨p,ws,rfl,n,q,rr⟩
  ·exact .inl ⟨p,ws,e,SqT.of q,hw,λp' hp=>q3 _ (aV hp _) _ (dS hp (E3'.fresh hp) (rr.cut o1 o2))⟩
 ·rename_i l
  obtain⟨p,ws,e,n,q,rr⟩:=Rep.Fk.mp rt;exact .inr (.inr ⟨p,ws,e,SqL.of q,λp' hp=>q3 _ (aV hp _) _ (gj hp (E3'.fresh hp) (rr.cut o1 o2))⟩)
 ·exact q3.elim
def CallT(X:Cx)(f:JD)(g:List T->Rs T):Prop:=
 ∀(ca:V3)(s:JB)(σ:L2.St)(H:Hp)(O:Ow)(ts:List T)(vs:List V)(us:List JD)(Q:VK),Inv X ca σ H s->(∀p,H p=ZB->¬ O p)->Reps X.K O H ts vs->Vals vs us →
  Post X H (g ts) (λt H'=>∀v,Rep X.K O H' t v->Q v H')->ZJ (ZK X.prog X.w) X.A (call f us) (EP X ca σ Q) X.xe s
def CallT.of{f:JD}{r:List V->Hp->VK->Prop}(h:CallR X f r){g:List T->Rs T}
  (w:∀(H:Hp)(O:Ow)(ts:List T)(vs:List V)(Q:VK),(∀p,H p=ZB->¬ O p)->Reps X.K O H ts vs->Post X H (g ts) (λt H'=>∀v,Rep X.K O H' t v->Q v H')->r vs H Q):CallT X f g:=
 λca s σ H O ts vs us Q I hf rs rv hp=>h ca s σ H vs us Q I rv (w H O ts vs Q hf rs hp)
def cl(g:List T->Rs T)(fs:V4)(ρ:En):Rs T:=fs ρ >>= g
variable {fs:V4}{id:String}{g:List T->Rs T}
def AW(hc:CallT X (.builtin id) g)(hm:X.mg x=ZB)(hv:Ke x=ZA (.builtin id))(ha:qu X (e::es) fs)(hg:autoParam (Gl X x) u_)(hn:autoParam (x≠ "__name__") s_)(hdb:autoParam ((x == ("__debug__" : Str))=ZD) s_)
  (he:autoParam (JZ (e::es) X.env=(ZD,eval e X.env)::JZ es X.env) u_) (hpl:autoParam ((backTo pos (JZ es X.env)).any (·.1)=ZD) u_):cy X (.Call (.Name x p) (e::es) [] pos) (cl g fs):=by
 intro ca s σ H Q I ⟨ρ,O,E,hq⟩;refine Lm (eg I hg hm hv ?_ hn hdb)
 have h1:=dR E hq;exact ND (bN (ha pos ca s σ H _ I h1) λus s1 ⟨vs,H1,I1,r1,ts,rs,s',E',q1⟩=>hc ca s1 σ H1 O ts vs us Q I1 (λp=>E'.fresh) rs r1 q1) he hpl
def xR(hc:CallT X (.type Ty) g)(hm:X.mg x=ZB)(hv:Ke x=ZA (.type Ty))(ha:qu X (e::es) fs)(hg:autoParam (Gl X x) u_)(hn:autoParam (x≠ "__name__") s_)(hdb:autoParam ((x == ("__debug__" : Str))=ZD) s_)
  (he:autoParam (JZ (e::es) X.env=(ZD,eval e X.env)::JZ es X.env) u_) (hpl:autoParam ((backTo pos (JZ es X.env)).any (·.1)=ZD) u_):cy X (.Call (.Name x p) (e::es) [] pos) (cl g fs):=by
 intro ca s σ H Q I ⟨ρ,O,E,hq⟩;refine Lm (eg I hg hm hv ?_ hn hdb)
 have h1:=dR E hq;exact KG (bN (ha pos ca s σ H _ I h1) λus s1 ⟨vs,H1,I1,r1,ts,rs,s',E',q1⟩=>hc ca s1 σ H1 O ts vs us Q I1 (λp=>E'.fresh) rs r1 q1) he hpl
def Reps.one{t:T}(r:Reps K O H [t] vs):∃v,vs=[v]/\Rep K O H t v:=by
 obtain⟨v,ws,rfl,p,q⟩:=Reps.AC.mp r;cases Reps.Da.mp q;exact⟨v,rfl,p⟩
def Rep.sq{t:T}(r:Rep K O H t v)(h:t.items=ZA l):∃a vs,v=.ref a/\¬ O a/\Reps K O H l vs/\(SqL K H a vs\/SqT K H a vs):=by
 cases t with
 |tup m=>cases h;obtain⟨a,vs,e,n,q,z⟩:=Rep.FB.mp r;exact⟨a,vs,e,n,z,.inr (SqT.of q)⟩
 |lst m=>cases h;obtain⟨a,vs,e,n,q,z⟩:=Rep.Fk.mp r;exact⟨a,vs,e,n,z,.inl (SqL.of q)⟩
 |scr m=>cases h;unfold Rep at r;obtain⟨a,e,n,q⟩:=r;exact⟨a,_,e,n,Reps.ints,.inl q⟩
 |_=>cases h
def cA:List T->Rs T
 |[.str x] =>if x.length<=ZI then .ok (.int x.length)else .bad
 |[x] =>match x.items with
  |some l=>.ok (.int l.length)
  |none=>.bad
 |_=>.bad
def cL:CallT X (.builtin "len") cA:=CallT.of (call_len_seq.or qh) λH O ts vs Q hf rs hp=>by
 unfold cA at hp
 split at hp
 ·obtain⟨v,rfl,r⟩:=rs.one
  split at hp
  ·rename_i h
   exact .inr ⟨_,by rw[Rep.FS.mp r],h,hp H (Same.refl H) _ (Rep.Iv _)⟩
  ·exact hp.elim
 ·obtain⟨v,rfl,r⟩:=rs.one
  split at hp
  ·rename_i l hl
   obtain⟨a,vs,rfl,n,z,q⟩:=r.sq hl;exact .inl ⟨a,vs,rfl,q,hp H (Same.refl H) _ (by rw[<-z.length];exact Rep.Iv _)⟩
  ·exact hp.elim
 ·exact hp.elim
def fU:List T->Rs T
 |[.tup l] =>.ok (.tup l)
 |[.lst l] =>.ok (.tup l)
 |_=>.bad
def iy:CallT X (.type "tuple") fU:=CallT.of nB λH O ts vs Q hf rs hp=>by
 unfold fU at hp
 split at hp
 ·obtain⟨v,rfl,r⟩:=rs.one
  obtain⟨a,ws,rfl,n,q,z⟩:=Rep.FB.mp r;exact⟨a,ws,rfl,.inr ⟨SqT.of q,hp H (Same.refl H) _ (Rep.FB.mpr ⟨a,ws,rfl,n,q,z⟩)⟩⟩
 ·obtain⟨v,rfl,r⟩:=rs.one
  obtain⟨a,ws,rfl,n,q,z⟩:=Rep.Fk.mp r;exact⟨a,ws,rfl,.inl ⟨SqL.of q,λl hl=>hp _ (aV hl _) _ (dS hl (hf l hl) z)⟩⟩
 ·exact hp.elim
def y1:List T->Rs T
 |[.int i] =>.ok (.int i)
 |[.bl k] =>.ok (.int (if k then 1 else 0))
 |_=>.bad
def Fs:CallT X (.type "int") y1:=CallT.of wG λH O ts vs Q hf rs hp=>by
 unfold y1 at hp
 split at hp
 ·obtain⟨v,rfl,r⟩:=rs.one
  exact .inl ⟨_,by rw[Rep.Do.mp r],hp H (Same.refl H) _ (Rep.Iv _)⟩
 ·obtain⟨v,rfl,r⟩:=rs.one
  exact .inr ⟨_,by rw[Rep.Gc.mp r],hp H (Same.refl H) _ (Rep.Iv _)⟩
 ·exact hp.elim
def mS:List T->Option (List Bool)
 |[] =>ZA []
 |.bl k::r=>(mS r).map (k:: ·)
 |_=>ZB
def lu:List T->Rs T
 |[.lst l] =>match mS l with
  |some ks=>.ok (.bl (ks.all λk=>k))
  |none=>.bad
 |_=>.bad
theorem mQ:∀{l:List T}{ks:List Bool}{vs:List V}{us:List JD},mS l=ZA ks->Reps K O H l vs->Vals vs us->us=ks.map K8
 |[],ks,vs,us,e,r,v=>by cases e;cases Reps.Da.mp r;cases v;rfl
 |t::l,ks,vs,us,e,r,v=>by
  obtain⟨w,ws,rfl,p,q⟩:=Reps.AC.mp r
  cases t with
  |bl k=>
   unfold mS at e
   cases z:mS l with
   |none=>rw[z]at e;cases e
   |some ks'=>
    rw[z]at e;cases e
    cases v with
    |cons v1 v2=>
     cases Rep.Gc.mp p;cases v1
     rw[mQ z q v2];rfl
  |_=>cases e
def kH(hc:X.calm=ZC):CallT X (.builtin "all") lu:=by
 intro ca s σ H O ts vs us Q I hf rs rv hp;unfold lu at hp
 split at hp
 ·obtain⟨v,rfl,r⟩:=rs.one
  split at hp
  ·rename_i ks hk
   obtain⟨a,ws,rfl,n,q,z⟩:=Rep.Fk.mp r;obtain⟨u,rfl,ru⟩:=lP rv;cases ru;obtain⟨its,r',pl,hz⟩:=I.list (SqL.of q)
   have hits:=mQ hk z r';refine call_all_walk (MK pl.isList ?_)
   have hne:a≠s.heap.objs.size:=λe=>by
    obtain⟨o,ho,_⟩:=pl.isList;rw[e]at ho;exact absurd (JM ho) (J3 _)
   refine⟨s.heap.objs.size,_,_,_,_,_,λi=>(ks[i]?).getD ZC,rfl,Walks.list (A:=X.A.in1) (I.ok.hd hc) s.heap.objs.size a hne its.toArray,⟨⟨_,JP _ rfl,rfl,rfl⟩,?_⟩,?_,?_⟩
   ·obtain⟨o,ho,hh⟩:=pl.isList
    exact⟨o,JA _ ho,hh⟩
   ·intro i v s' Q' E' hP hQ'
    subst hits
    dsimp only at hQ'
    have hP':(ks.map K8)[i]?=ZA v:=by simpa using hP
    rw[Ko]at hP'
    cases e:ks[i]? with
    |none=>rw[e]at hP';cases hP'
    |some k=>
     rw[e]at hP' hQ';cases hP';exact K2 hQ'
   ·intro h' tk hk'
    have hlen:its.toArray.size=ks.length:=by rw[hits];simp
    have e:((KS its.toArray.size).all λi=>(ks[i]?).getD ZC)=(ks.all λk=>k):=by
     rw[hlen];rw[Bool.eq_iff_iff,J4,J4]
     constructor
     ·intro h x hx
      obtain⟨i,hi,rfl⟩:=Mk hx
      have:=h i (Lu.mpr hi)
      simpa [hi]using this
     ·intro h i hi
      have hi':=Lu.mp hi
      have:=h ks[i] (Lg hi')
      simpa [hi']using this
    rw[e]
    have I1:Inv X ca σ H {s with heap:=s.heap.push {cls:=.type "list_iterator",data:=.fields #[.ref a,.int 0 0]}}:=I.kept (t':=s.toks) λb o e=>JA _ e
    have I2:Inv X ca σ H {s with heap:=h',toks:=tk}:=by
     have:=I1.turned (h':=h') (t':=tk) (it:=s.heap.objs.size) (λb o hb e=>hk' b o (by simpa using hb) e) (I.hok.fresh (JO _))
      (M0 I.lt) (.inr I.sz) (λx c e z=>?_) (λp hp z=>?_)
     ·exact this
     ·obtain⟨v,q⟩:=I.cell x c e
      exact absurd (JS q.lt (LS z.symm)) (J3 _)
     ·exact absurd (JS (JM (I.pin p hp).1) (LS z.symm)) (J3 _)
    exact⟨.bl _,H,I2,rfl,hp H (Same.refl H) _ (Rep.bl_ _)⟩
  ·exact hp.elim
 ·exact hp.elim
end
def five(i b t l s:Bool)(Ty:String):Option Bool:=match Ty with
 | "int" =>ZA i| "bool" =>ZA b| "tuple" =>ZA t| "list" =>ZA l| "str" =>ZA s
 |_=>ZB
def uP(n Ty:String):Option Bool:=match n with
 | "NoneType" =>five ZD ZD ZD ZD ZD Ty
 | "bool" =>five ZC ZC ZD ZD ZD Ty
 | "int" =>five ZC ZD ZD ZD ZD Ty
 | "str" =>five ZD ZD ZD ZD ZC Ty
 | "tuple" =>five ZD ZD ZC ZD ZD Ty
 | "list" =>five ZD ZD ZD ZC ZD Ty
 |_=>ZB
def wj(K:Jz){n:String}{b:Bool}(h:uP n Ty=ZA b):PySem.W.kitOne K (.type n) (.type Ty)=ZA b:=by
 unfold uP at h
 split at h <;> first| (cases h;done)| (unfold five at h;split at h <;> first| (cases h;done)| (cases h;kernel_rfl))
def z6(Ty:String)(t:T):Rs T:=match t.ty with
 |some n=>match uP n Ty with
  |some b=>.ok (.bl b)
  |none=>.bad
 |none=>.bad
def Rep.Jv{t:T}{n:String}(r:Rep K O H t v)(h:t.ty=ZA n):kK K H v (.type n):=by
 cases t with
 |non=>cases h;cases Rep.Iy.mp r;exact .non
 |bl b=>cases h;cases Rep.Gc.mp r;exact .bl b
 |int b=>cases h;cases Rep.Do.mp r;exact .int b
 |str b=>cases h;cases Rep.FS.mp r;exact .str b
 |tup l=>cases h;obtain⟨a,vs,rfl,_,q,_⟩:=Rep.FB.mp r;exact .tup q
 |lst l=>cases h;obtain⟨a,vs,rfl,_,q,_⟩:=Rep.Fk.mp r;exact .lst q
 |scr l=>cases h
 |dct _ _=>cases h
 |ob _ _ _=>cases h
variable{H':Hp}{M:Mn}{O':Ow}{g:T->En->Rs En}{gs:List T->En->Rs En}{iter tg:ZG}{ca:V3}{ps:List Str}
section
variable {a b c:ZG}{fs:V4}{pos p2:Pos}
def lr:Ke "isinstance" =ZA (.builtin "isinstance"):=by decide+kernel
def GL{tn:Str}(hm:X.mg "isinstance" =ZB)(hmt:X.mg tn=ZB)(hv:Ke tn=ZA (.type Ty))(ha:cy X a fa)(hg:autoParam (Gl X "isinstance") u_)(hgt:autoParam (Gl X tn) u_)
  (hn:autoParam (tn≠ "__name__") s_) (hd:autoParam ((tn == ("__debug__" : Str))=ZD) s_)
  (he:autoParam (JZ [a,.Name tn p2] X.env=(ZD,eval a X.env)::JZ [.Name tn p2] X.env) u_) (hpl:autoParam ((backTo pos (JZ [.Name tn p2] X.env)).any (·.1)=ZD) u_)
  (hs:autoParam (JZ [.Name tn p2] X.env=(ZD,eval (.Name tn p2) X.env)::JZ [] X.env) u_):
  cy X (.Call (.Name "isinstance" p) [a,.Name tn p2] [] pos) (o1 (z6 Ty) fa):=by
 intro ca s σ H Q I ⟨ρ,O,E,hq⟩;refine Lm (eg I hg hm lr ?_ (by decide) (by decide))
 have hA:PA X [a,.Name tn p2] (ui (tP X fa) (ui (tC (.ty Ty)) F9)):=iM ha (iM (Be (v:=.ty Ty) hgt hmt hv rfl hn hd) lY hs) he;obtain⟨ρ1,O1,E1,h1⟩:=aO E hq;refine ND (bN (hA pos ca s σ H (λvs H'=>∃v t,vs=[v,.ty Ty]/\Rep X.K O H' t v/\Post X H' (z6 Ty t) (λt H'=>∀v,Rep X.K O H' t v->Q v H')) I ?_) λus s1 ⟨vs,H1,I1,r1,v,t,e1,rt,q⟩=>?_) he hpl
 ·refine⟨ρ1,O1,E1,Post.mono h1 λts H1 s1 q vs r=>?_⟩
  obtain⟨t',r',s',E',q'⟩:=q vs r;exact⟨vs,t',rfl,r',q'⟩
 ·subst e1
  obtain⟨u,w',rfl,ru,rw'⟩:=FW r1;cases rw';unfold z6 at q
  split at q
  ·rename_i n hn'
   split at q
   ·rename_i bb hb
    exact wg I1 ru (rt.Jv hn') (wj _ hb) λtk=>⟨.bl bb,H1,I1.tok _,rfl,q H1 (Same.refl H1) _ (Rep.bl_ _)⟩
   ·exact q.elim
  ·exact q.elim
def spP(K:Jz)(n:Nat)(g:List T->Rs T):Sp:=λvs H Q _=>∃ts O,Reps K O H ts vs/\(∀a,O a->Mtb H a)/\ts.length=n ∧
 match g ts with
 |.ok t=>∀v H',Same H H'->Rep K O H' t v->Q v H'
 |_=>False
def RzC(P:J1)(w:Ks)(mg:V0)(outer:List Env)(H:Hp)(s:JB)(c:Str)(ev:JD)(s':JB):Prop:=
 ∃e T C H',ev=.ref e/\mg c=ZA (.ref C)/\s'.os=s.os/\PH s'.gens/\Un (kj outer) [] H H' s.heap s'.heap/\HOk P w H' s'.heap/\Same H H'/\H' e=ZB/\s.heap.get? e=ZB/\Flt s'.heap C e (ZA T)/\H' T=ZB/\s.heap.get? T=ZB
def FnX(P:J1)(w:Ks)(K:Jz)(mg:V0)(base:ZH)(k:Nat)(f:ZE)(fd:KO)(ps:List Str)(n:Nat)(g:List T->Rs T):Prop:=
 ∀(A:Kc)(outer:List Env)(s:JB)(H:Hp)(args:Args)(us:List JD)(vs:List V)(O:Ow)(ts:List T)(c:Str)(R:Nu->JB->Prop),Room k A->tU P w K mg base A outer s H->PK s fd args (ps.zip us)->Vals vs us →
  Reps K O H ts vs->(∀a,O a->Mtb H a)->ts.length=n->g ts=.err c->(∀ev s',RzC P w mg outer H s c ev s'->R (.error ev) s')->codeAny (ZK P w) A (.call (.ref f) args) R s
structure FO (P:J1)(w:Ks)(K:Jz)(mg:V0)(base:ZH)(k:Nat)(f:ZE)(fd:KO)(ps:List Str)(n:Nat)(g:List T->Rs T):Prop where
 h:wL P w K mg base CX0 k f fd ps (spP K n g)
 x:FnX P w K mg base k f fd ps n g
def yh{h:ZH}{a:ZE}{o:HO}(x:ObjOk P w H h a o):∃u,h.get? a=ZA u:=by
 cases o with
 |lst xs=>obtain⟨_,_,_,_,e⟩:=x;exact⟨_,e⟩
 |tup xs=>obtain⟨_,_,_,ob,e,_⟩:=x;exact⟨_,e⟩
 |dK kvs=>obtain⟨_,_,_,_,o,_,_,e,_⟩:=x;exact⟨_,e⟩
 |dT kvs=>obtain⟨_,_,_,_,o,_,_,e,_⟩:=x;exact⟨_,e⟩
 |set S n=>obtain⟨o,_,_,_,e,_⟩:=x;exact⟨_,e⟩
 |ins C dx fs=>obtain⟨_,_,_,e,_⟩:=x;exact⟨_,e⟩
 |own y=>obtain⟨_,e⟩:=x;exact⟨_,e⟩
 |xd fs=>obtain⟨_,⟨_,_,_,e,_⟩,_⟩:=x;exact⟨_,e⟩
 |rng lo hi=>obtain⟨_,_,_,e⟩:=x;exact⟨_,e⟩
 |frz ob u=>obtain⟨e,_⟩:=x;exact⟨_,e⟩
 |tbl ps=>exact⟨_,(show h.get? a=ZA _ from x)⟩
 |met f y=>exact⟨_,(show h.get? a=ZA _ from x)⟩
 |ext φ=>obtain⟨_,⟨_,e⟩,_⟩:=x;exact⟨_,e⟩
def gn(I:Inv X ca σ H s){e:ZE}(n:s.heap.get? e=ZB):H e=ZB:=by
 cases z:H e with
 |none=>rfl
 |some o=>
  obtain⟨o',ho'⟩:=yh (I.hok e o z);rw[n]at ho';cases ho'
def fX(I:Inv X ca σ H s)(hex:X.ex=[]){e:ZE}(n:s.heap.get? e=ZB):X.s₀.heap.get? e=ZB:=by
 cases z:X.s₀.heap.get? e with
 |none=>rfl
 |some o=>
  obtain⟨o',ho'⟩:=I.base.there e o z (by rw[hex];simp)
  rw[n]at ho';cases ho'
def DM{f:ZE}{g:List T->Rs T}(F:FO X.prog X.w X.K X.mg X.base k f fd ps n g)(hr:Room k X.A)(hm:X.mg x=ZA (.ref f))(hk:Mp X.K (.ref f)=ZC)(hb:Binds X.K fd ps [])(hps:ps.length=n)
  (hl:∀ρ ts,fs ρ=.ok ts->ts.length=n) (ha:qu X (e::es) fs) (hg:autoParam (Gl X x) u_) (hdb:autoParam ((x == ("__debug__" : Str))=ZD) s_) (he:autoParam (JZ (e::es) X.env=(ZD,eval e X.env)::JZ es X.env) u_) (hpl:autoParam ((backTo pos (JZ es X.env)).any (·.1)=ZD) u_):
  cy X (.Call (.Name x p) (e::es) [] pos) (cl g fs):=by
 intro ca s σ H Q I ⟨ρ,O,E,hq⟩
 have hq':Post X H (fs ρ >>= g) λt H'=>∀v,Rep X.K O H' t v->Q v H':=hq
 cases q:fs ρ with
 |bad=>rw[q]at hq';exact hq'.elim
 |err c=>
  rw[q]at hq';refine uz (E:=E0) F.h hr hg hm hk hb .nil ya ha hdb he hpl ca s σ H Q I ⟨ρ,O,E,?_⟩
  rw[q]
  exact hq'
 |ok ts=>
  rw[q]at hq'
  have hq2:Post X H (g ts) λt H'=>∀v,Rep X.K O H' t v->Q v H':=hq'
  cases q2:g ts with
  |bad=>rw[q2]at hq2;exact hq2.elim
  |ok t=>
   rw[q2]at hq2;refine uz (E:=E0) F.h hr hg hm hk hb .nil ya ha hdb he hpl ca s σ H Q I ⟨ρ,O,E,?_⟩
   rw[q];intro H1 s1 vs rs;rw[Kr];refine⟨ts,O,rs,(E.same s1).mtb,hl ρ ts q,?_⟩
   rw[q2]
   exact λv H' s2 r=>hq2 H' (s1.trans s2) v r
  |err c=>
   rw[q2]at hq2;refine Lm (iQ I hg hm ?_ hdb)
   refine Qu (h₀:=X.base) I.ok.mod.kin hk (bN (ha pos ca s σ H (λvs H'=>Same H H'/\Reps X.K O H' ts vs) I ⟨ρ,O,E,?_⟩) (λus s1 ⟨vs,H1,I1,r,sm,rs⟩=>⟨I1.kIn,?_⟩)) he hpl
   ·rw[q];exact λH' sm vs rs=>⟨sm,rs⟩
   ·have hlen:us.length=ps.length:=by rw[<-r.length,<-rs.length,hl ρ ts q,hps]
    have hb':=hb s1 us I1.kIn (by rw[Kr];exact hlen)
    rw[Kr]at hb';refine wpAny_call (codeAny_mono (F.x X.A X.stack s1 H1 ⟨us,[]⟩ us vs O ts c (λr s'=>match r with|.error ev=>X.xe ev s'|_=>False) hr I1.IW hb' r rs (E.same sm).mtb (hl ρ ts q) q2 λev s' w=>?_) λr s' hq=>?_)
    ·obtain⟨ea,T,C,H',rfl,hmc,ho,hbare,hun,hok,sm2,hea,heo,fl,hT,hTo⟩:=w
     have I2:Inv X ca σ H' s':=I1.IM ho hun hok hbare (λb z=>absurd z (by simp))
     exact hq2 ca _ _ ⟨ea,ZA T,C,σ,H',rfl,hmc,I2,λb o q _=>sm2 b o (sm b o q),hea,λhex=>fX I1 hex heo,fl,(λt zt=>by cases zt;exact⟨hT,λhex=>fX I1 hex hTo⟩),λpp hpp=>⟨λzz=>(by have:=(I1.pin pp hpp).1;rw[zz,heo]at this;cases this),λzz=>(by cases zz;have:=(I1.pin pp hpp).1;rw[hTo]at this;cases this)⟩⟩
    ·cases r with
     |error ev=>exact hq
     |ok fl=>exact hq.elim
def zX(X:Cx)(g:T->En->Rs En):TG:=λv σ H Q=>∃ρ O M t,EnvM X.K O M H ρ σ/\Rep X.K O H t v/\match g t ρ with
 |.ok ρ'=>∀σ',EnvM X.K O M H ρ' σ'->Q σ' H
 |_=>False
abbrev zR(X:Cx)(tg:ZG)(g:T->En->Rs En):Prop:=PG X tg (zX X g)
def tPGs(X:Cx)(g:List T->En->Rs En):Cc:=λvs σ H Q=>∃ρ O M ts,EnvM X.K O M H ρ σ/\Reps X.K O H ts vs/\match g ts ρ with
 |.ok ρ'=>∀σ',EnvM X.K O M H ρ' σ'->Q σ' H
 |_=>False
abbrev zS(X:Cx)(tg:List ZG)(g:List T->En->Rs En):Prop:=PGs X tg (tPGs X g)
def PG.imp{t t':TG}(h:PG X e t)(w:∀v σ H Q,t' v σ H Q->t v σ H Q):PG X e t':=λca s σ H v u Q I r q=>h ca s σ H v u Q I r (w v σ H Q q)
def PGs.imp{e:List ZG}{t t':Cc}(h:PGs X e t)(w:∀v σ H Q,t' v σ H Q->t v σ H Q):PGs X e t':=λca s σ H v u Q I r q=>h ca s σ H v u Q I r (w v σ H Q q)
def gN(i:Nat)(t:T)(ρ:En):Rs En:=if i<ρ.length then .ok (ρ.set i (.va t))else .bad
def EnvM.set{t:T}(E:EnvM K O M H ρ σ)(hi:i<ρ.length)(r:Rep K O H t v):EnvM K O M H (ρ.set i (.va t)) (σ.set i (ZA v)) where
 len:=by rw[Ll,Ll];exact E.len
 val:=λj u e=>by
  by_cases hj:i=j
  ·subst hj
   rw[Kk hi]at e
   cases e;exact⟨v,Kk (by rw[<-E.len];exact hi),r⟩
  ·rw[Ki hj]at e
   obtain⟨w,e1,e2⟩:=E.val j u e;exact⟨w,by rw[Ki hj];exact e1,e2⟩
 own:=λj o e=>by
  by_cases hj:i=j
  ·subst hj
   rw[Kk hi]at e
   cases e
  ·rw[Ki hj]at e
   obtain⟨w,e1,e2⟩:=E.own j o e;exact⟨w,by rw[Ki hj];exact e1,e2⟩
 sub:=E.sub
 dis:=E.dis
 trk:=E.trk
def AR(i:Nat)(hN:X.N.Nodup)(hi:autoParam (X.N[i]?=ZA x) u_)(hx:autoParam (Loc X.env.scope x) y_)(hf:autoParam (X.fn x=ZC\/X.env.scope.names.lookup x=ZA .local) r_):zR X (.Name x pos) (gN i):=
 PG.imp (Ba hN hi hx hf) λv σ H Q hh_=>by
  obtain⟨ρ,O,M,t,E,r,h⟩:=hh_;unfold gN at h
  split at h
  ·rename_i ρ' e
   split at e
   ·rename_i hl
    cases e;exact h _ (E.set hl r)
   ·cases e
  ·exact h.elim
def wo(ts:List T)(ρ:En):Rs En:=match ts with
 |[] =>.ok ρ
 |_=>.bad
def mG(g:T->En->Rs En)(gs:List T->En->Rs En)(ts:List T)(ρ:En):Rs En:=match ts with
 |t::r=>do
  let ρ1 <-g t ρ
  gs r ρ1
 |[] =>.bad
def AQ:zS X [] wo:=PGs.imp A9 λvs σ H Q hh_=>by
 obtain⟨ρ,O,M,ts,E,r,h⟩:=hh_;unfold wo at h
 cases ts with
 |nil=>exact⟨Reps.Da.mp r,h σ E⟩
 |cons _ _=>exact h.elim
def xO(h1:zR X e g)(h2:zS X es gs)
  (hs:autoParam ((K3 (e::es) X.env).map (·.2)=assign e X.env::(K3 es X.env).map (·.2)) u_):zS X (e::es) (mG g gs):=
 PGs.imp (xY h1 h2 hs) λvs σ H Q hh_=>by
  obtain⟨ρ,O,M,ts,E,r,h⟩:=hh_
  cases ts with
  |nil=>exact h.elim
  |cons t ts=>
   obtain⟨v,ws,rfl,p,q⟩:=Reps.AC.mp r;refine⟨v,ws,rfl,ρ,O,M,t,E,p,?_⟩
   unfold mG at h
   cases e1:g t ρ with
   |bad=>simp[e1]at h
   |err c=>simp[e1]at h
   |ok ρ1=>
    intro σ1 E1;refine⟨ρ1,O,M,ts,E1,q,?_⟩
    simp only[e1,aA]at h
    cases e2:gs ts ρ1 with
    |bad=>simp[e2]at h
    |err c=>simp[e2]at h
    |ok ρ2=>
     simp only[e2]at h;exact λσ2 E2=>h σ2 E2
def gT(n:Nat)(gs:List T->En->Rs En)(t:T)(ρ:En):Rs En:=match t with
 |.tup l=>if l.length=n then gs l ρ else .bad
 |_=>.bad
def DH(hc:X.calm=ZC)(h:zS X es gs)(hn:autoParam ((K3 es X.env).length=n) u_)(hst:autoParam ((K3 es X.env).findIdx? (·.1)=ZB) u_):zR X (.Tuple es k pos) (gT n gs):=
 PG.imp (D1 hc h hn hst) λv σ H Q hh_=>by
  obtain⟨ρ,O,M,t,E,r,h⟩:=hh_;unfold gT at h
  cases t with
  |tup l=>
   obtain⟨a,vs,rfl,n',q,z⟩:=Rep.FB.mp r
   by_cases hl:l.length=n
   ·simp only[if_pos hl]at h
    exact⟨a,vs,rfl,SqT.of q,by rw[<-z.length];exact hl,ρ,O,M,l,E,z,h⟩
   ·simp only[if_neg hl]at h
  |_=>exact h.elim
def SqL.nn{a:ZE}(q:SqL K H a vs):¬ Nw K H a:=λ⟨h1,h2⟩=>by
 rcases q with(q|⟨o,q⟩)|⟨o,_,_,q,_⟩
 ·rw[h1]at q;cases q
 ·rw[h1]at q;cases q
 ·rw[h2]at q;cases q
mutual
theorem Rep.more{K:Jz}{O O':Ow}{H:Hp}(sub:∀a,O' a->O a\/Nw K H a):∀{t:T}{v:V},Rep K O H t v->Rep K O' H t v
 |.non,_,r=>by unfold Rep at r ⊢;exact r
 |.bl _,_,r=>by unfold Rep at r ⊢;exact r
 |.int _,_,r=>by unfold Rep at r ⊢;exact r
 |.str _,_,r=>by unfold Rep at r ⊢;exact r
 |.tup l,_,r=>by
  unfold Rep at r ⊢;obtain⟨a,vs,e,n,q,z⟩:=r
  exact⟨a,vs,e,λp=>(sub a p).elim n λw=>(by rw[w.1]at q;cases q),q,Reps.more sub z⟩
 |.lst l,_,r=>by
  unfold Rep at r ⊢;obtain⟨a,vs,e,n,q,z⟩:=r
  exact⟨a,vs,e,λp=>(sub a p).elim n λw=>(by rw[w.1]at q;cases q),q,Reps.more sub z⟩
 |.scr l,_,r=>by
  unfold Rep at r ⊢;obtain⟨a,e,n,q⟩:=r
  exact⟨a,e,λp=>(sub a p).elim n λw=>Tr.SqL.nn q w,q⟩
 |.dct ks ts,_,r=>by
  unfold Rep at r ⊢;obtain⟨a,kvs,e,n,q,k,z⟩:=r
  exact⟨a,kvs,e,λp=>(sub a p).elim n λw=>(by rcases q with q|⟨_,q⟩ <;> rw[w.1]at q <;> cases q),q,k,Reps.more sub z⟩
 |.ob C ns ts,_,r=>by
  unfold Rep at r ⊢;obtain⟨a,dx,fs,e,n,q,k,z⟩:=r;exact⟨a,dx,fs,e,⟨⟨λp=>(sub a p).elim n.1.1 λw=>(by rw[w.1]at q;cases q),λp=>(sub dx p).elim n.1.2.1 λw=>(by have:=n.1.2.2;rw[w.1]at this;cases this),n.1.2.2⟩,n.2⟩,q,k,Reps.more sub z⟩
theorem Reps.more{K:Jz}{O O':Ow}{H:Hp}(sub:∀a,O' a->O a\/Nw K H a):∀{l:List T}{vs:List V},Reps K O H l vs->Reps K O' H l vs
 |[],_,r=>by unfold Reps at r ⊢;exact r
 |t::l,_,r=>by
  unfold Reps at r ⊢;obtain⟨v,ws,e,p,q⟩:=r;exact⟨v,ws,e,Rep.more sub p,Reps.more sub q⟩
end
def Rep.move{P:Ow}{t:T}(hP:∀a,P a->O a\/Nw K H a)(hO:∀a,O' a->O a\/Nw K H a)(h:SameO P H H')(r:Rep K O H t v):Rep K O' H' t v:=
 Rep.less (O:=λa=>O' a\/P a) (λ_ z=>.inl z) (Rep.keep h (λ_ z=>.inr z) (Rep.more (λa z=>z.elim (hO a) (hP a)) r))
def Reps.move{P:Ow}{t:List T}{v:List V}(hP:∀a,P a->O a\/Nw K H a)(hO:∀a,O' a->O a\/Nw K H a)(h:SameO P H H')(r:Reps K O H t v):Reps K O' H' t v:=
 Reps.less (O:=λa=>O' a\/P a) (λ_ z=>.inl z) (Reps.keep h (λ_ z=>.inr z) (Reps.more (λa z=>z.elim (hO a) (hP a)) r))
def ItT(K:Jz)(O:Ow)(H:Hp)(ts:List T)(J:It):Prop:=∀(P O':Ow),(∀a,P a->O a\/Nw K H a)->(∀a,O' a->O a\/Nw K H a)->∀(i:Nat)(Hc:Hp),SameO P H Hc->(∀a,O' a->∃o,Hc a=ZA o) →
 (ts.length<=i->J.stop i Hc)/\(∀t,ts[i]?=ZA t->J.go i Hc/\∀x Hc',J.yld i Hc x Hc'->Same Hc Hc'/\Rep K O' Hc' t x)
def tPI(X:Cx)(f:V4):TI:=λσ H R=>∃ρ O,EnvO X.K O H ρ σ/\Post X H (f ρ) λts H'=>∀J,ItT X.K O H' ts J->R J H'
abbrev wR(X:Cx)(tg iter:ZG)(f:V4):Prop:=PI X tg iter (tPI X f)
def PI.imp{t t':TI}(h:PI X tg iter t)(w:∀σ H R,t' σ H R->t σ H R):PI X tg iter t':=λca s σ H R I q=>h ca s σ H R I (w σ H R q)
def iL(f:V6)(ρ:En):Rs (List T):=do
 let x <-f ρ
 match x with
 |.lst l=>.ok l
 |_=>.bad
def iT(f:V6)(ρ:En):Rs (List T):=do
 let x <-f ρ
 match x with
 |.tup l=>.ok l
 |_=>.bad
def ur(ha:cy X a fa):wR X tg a (iL fa):=PI.imp (A7 ha) λσ H R hh_=>by
 obtain⟨ρ,O,E,h⟩:=hh_;obtain⟨ρ1,O1,E1,h1⟩:=aO E h;refine⟨ρ1,O1,E1,Post.mono h1 λts H1 s1 q vs r=>?_⟩
 obtain⟨t',r',s',E',q'⟩:=q vs r
 split at q'
 ·rename_i l
  obtain⟨a,ws,rfl,n,q,z⟩:=Rep.Fk.mp r';refine⟨a,rfl,⟨ws,SqL.of q⟩,q' H1 (Same.refl H1) _ λP O' hP hO i Hc hs ht=>?_⟩
  have hnP:¬ P a:=λz=>(hP a z).elim n λw=>by rw[w.1]at q;cases q
  refine⟨λhi=>⟨ws,SqL.of (hs _ _ q hnP),by rw[<-z.length];exact hi⟩,λt ht'=>?_⟩
  obtain⟨v,e1,e2⟩:=z.get ht';refine⟨⟨ws,v,SqL.of (hs _ _ q hnP),e1⟩,λx Hc' y=>?_⟩
  obtain⟨e,y⟩:=y;subst e
  have:=y ws (SqL.of (hs _ _ q hnP));rw[e1]at this;cases this;exact⟨Same.refl _,e2.move hP hO hs⟩
 ·exact q'.elim
def DF(ha:cy X a fa):wR X tg a (iT fa):=PI.imp (DZ ha) λσ H R hh_=>by
 obtain⟨ρ,O,E,h⟩:=hh_;obtain⟨ρ1,O1,E1,h1⟩:=aO E h;refine⟨ρ1,O1,E1,Post.mono h1 λts H1 s1 q vs r=>?_⟩
 obtain⟨t',r',s',E',q'⟩:=q vs r
 split at q'
 ·rename_i l
  obtain⟨a,ws,rfl,n,q,z⟩:=Rep.FB.mp r';refine⟨a,rfl,⟨ws,SqT.of q⟩,q' H1 (Same.refl H1) _ λP O' hP hO i Hc hs ht=>?_⟩
  have hnP:¬ P a:=λz=>(hP a z).elim n λw=>by rw[w.1]at q;cases q
  refine⟨λhi=>⟨ws,SqT.of (hs _ _ q hnP),by rw[<-z.length];exact hi⟩,λt ht'=>?_⟩
  obtain⟨v,e1,e2⟩:=z.get ht';refine⟨⟨ws,v,SqT.of (hs _ _ q hnP),e1⟩,λx Hc' y=>?_⟩
  obtain⟨e,y⟩:=y;subst e
  have:=y ws (SqT.of (hs _ _ q hnP));rw[e1]at this;cases this;exact⟨Same.refl _,e2.move hP hO hs⟩
 ·exact q'.elim
def rng(lo hi:Int):List T:=(KS (hi - lo).toNat).map λ(k:Nat)=>T.int (lo+(k:Int))
def z7(i:Int):Bool:=decide (-(2 ^ 62)<=i)&&decide (i<2 ^ 62)
def iR(f:V4)(ρ:En):Rs (List T):=do
 let x <-f ρ
 match x with
 |[.int j] =>if z7 j then .ok (rng 0 j)else .bad
 |[.int i,.int j] =>if z7 i&&z7 j then .ok (rng i j)else .bad
 |_=>.bad
def pZ{i:Int}(h:z7 i=ZC): -(2 ^ 62)<=i/\i<2 ^ 62:=by
 unfold z7 at h;rw[JH]at h;exact⟨of_decide_eq_true h.1,of_decide_eq_true h.2⟩
def uO(lo hi:Int):ItT K O H (rng lo hi) (Itr lo (hi - lo).toNat):=λP O' hP hO i Hc hs ht=>by
 refine⟨λh=>?_,λt h=>?_⟩
 ·show(hi - lo).toNat<=i
  unfold rng at h;rw[JE,L6]at h;exact h
 ·unfold rng at h
  rw[Ko]at h
  by_cases hi':i<(hi - lo).toNat
  ·rw[List.getElem?_range hi']at h
   cases h;refine⟨hi',λx Hc' y=>?_⟩
   obtain⟨e,y⟩:=y;subst e y;exact⟨Same.refl _,Rep.Iv _⟩
  ·rw[NH (by simpa using hi')]at h
   cases h
def vN(hm:X.mg "range" =ZB)(ha:qu X [a] fs)(hg:autoParam (Gl X "range") u_)(hs:autoParam (JZ [a] X.env=[(ZD,eval a X.env)]) u_):wR X tg (.Call (.Name "range" p) [a] [] pos) (iR fs):=by
 intro ca s σ H R I ⟨ρ,O,E,h⟩
 have h1:=dR E h;refine Call_ (eg I hg hm boot_range (KG (bN (ha pos ca s σ H _ I h1) λus s1 ⟨vs,H1,I1,r1,ts,rs,s',E',q1⟩=>?_) hs rfl))
 split at q1
 ·obtain⟨v,rfl,r⟩:=rs.one
  split at q1
  ·rename_i j hj
   obtain⟨b1,b2⟩:=pZ hj;cases Rep.Do.mp r
   cases r1 with
   |cons r rr=>
    cases rr;obtain⟨t,rfl⟩:=r;exact call_range_1 (rg I1 (by omega) (by omega) b1 b2 (q1 H1 (Same.refl H1) _ (uO 0 j)))
  ·exact q1.elim
 ·obtain⟨v,ws,rfl,p1,q⟩:=Reps.AC.mp rs
  obtain⟨v2,rfl,r⟩:=q.one
  split at q1
  ·rename_i i j hj
   rw[JH]at hj;obtain⟨b1,b2⟩:=pZ hj.1;obtain⟨b3,b4⟩:=pZ hj.2;cases Rep.Do.mp p1;cases Rep.Do.mp r
   cases r1 with
   |cons r rr=>
    cases rr with
    |cons r' rr=>
     cases rr;obtain⟨t,rfl⟩:=r;obtain⟨t',rfl⟩:=r';exact call_range_2 (rg I1 b1 b2 b3 b4 (q1 H1 (Same.refl H1) _ (uO i j)))
  ·exact q1.elim
 ·exact q1.elim
end
variable{B:Ow}{D:Ends}{N':List Str}{Q:VK}{body:List ZF}{f:V7}{fe:V6}{fi:V4}{ifs:List ZG}{st:ZF}{tgt:T->En->Rs En}{ts:List T}
section
variable {a b c:ZG}{fs:V4}{pos p2:Pos}
def cJ(src:List (Option Nat))(ρ:En):En:=src.map λo=>match o with
 |some i=>match ρ[i]? with
  |some (.va t)=>.va t
  |_=>.em
 |none=>.em
def cT(tgt:T->En->Rs En)(fc:V7)(fe:V6):List T->V4
 |[],_=>.ok []
 |t::r,ρ=>do
  let ρ1 <-tgt t ρ
  let k <-fc ρ1
  if k then do
   let y <-fe ρ1
   let ys <-cT tgt fc fe r ρ1
   .ok (y::ys)
  else cT tgt fc fe r ρ1
def d9(fi:V4)(src:List (Option Nat))(tgt:T->En->Rs En)(fc:V7)(fe:V6)(ρ:En):Rs T:=do
 let ts <-fi ρ
 if ts.length<=ZI then match cT tgt fc fe ts (cJ src ρ)with
  |.ok ys=>.ok (.lst ys)
  |_=>.bad
 else .bad
def bT(_:En):Rs Bool:=.ok ZC
def tP0(K:Jz)(f:V6):TE:=λσ H Q=>∃ρ O,EnvO K O H ρ σ/\match f ρ with
 |.ok t=>∀H',Same H H'->∀v,Rep K O H' t v->Q v H'
 |_=>False
def tPT0(K:Jz)(f:V7):TT:=λσ H Q=>∃ρ O,EnvO K O H ρ σ/\match f ρ with
 |.ok t=>∀H',Same H H'->Q t H'
 |_=>False
def tP0.up{f:V6}(h:tP0 X.K f σ H Q):tP X f σ H Q:=by
 obtain⟨ρ,O,E,h⟩:=h;refine⟨ρ,O,E,?_⟩
 cases q:f ρ with
 |ok t=>rw[q]at h;exact h
 |err c=>rw[q]at h;exact h.elim
 |bad=>rw[q]at h;exact h.elim
def tPT0.up{Q:Bool->Hp->Prop}(h:tPT0 X.K f σ H Q):uh X f σ H Q:=by
 obtain⟨ρ,O,E,h⟩:=h;refine⟨ρ,O,E,?_⟩
 cases q:f ρ with
 |ok t=>rw[q]at h;exact h
 |err c=>rw[q]at h;exact h.elim
 |bad=>rw[q]at h;exact h.elim
def AN:sr X [] (uh X bT):=λca s σ H Q I ⟨ρ,O,E,h⟩=>A6 ca s σ H Q I (h H (Same.refl H))
def AM(h:vp X c f):sr X [c] (uh X f):=A5 h
abbrev noM:Mn:=λ_ _=>False
def v7{src:List (Option Nat)}{o:OT}(e:(cJ src ρ)[j]?=ZA (.ow o)):False:=by
 unfold cJ at e;rw[Ko]at e
 cases q:src[j]? with
 |none=>rw[q]at e;cases e
 |some o'=>
  rw[q]at e
  cases o' with
  |none=>cases e
  |some i=>
   have e':(match ρ[i]? with|some (Sl.va t)=>Sl.va t|_=>Sl.em)=Sl.ow o:=Kn e
   split at e' <;> cases e'
def yH(E:EnvO K O H ρ σ)(src:List (Option Nat)):EnvM K O noM H (cJ src ρ) (dt src σ) where
 len:=by unfold cJ dt;rw[JE,JE]
 val:=λj t e=>by
  unfold cJ at e;unfold dt;rw[Ko]at e ⊢
  cases q:src[j]? with
  |none=>rw[q]at e;cases e
  |some o=>
   rw[q]at e
   cases o with
   |none=>cases e
   |some i=>
    have e':(match ρ[i]? with|some (Sl.va t)=>Sl.va t|_=>Sl.em)=Sl.va t:=Kn e
    cases q2:ρ[i]? with
    |none=>rw[q2]at e';cases e'
    |some z=>
     rw[q2]at e'
     cases z with
     |em=>cases e'
     |ow l=>cases e'
     |va t'=>
      cases e';obtain⟨v,e1,e2⟩:=E.val i _ q2;exact⟨v,by simp[e1],e2⟩
 own:=λj o e=>(v7 e).elim
 sub:=λ_ _ z=>z.elim
 dis:=λ_ _ _ z=>z.elim
 trk:=E.mtb
def ORep.no{o:OT}(r:ORep K O vW H o v):False:=by
 cases o with
 |lst l=>obtain⟨a,_,_,e,_⟩:=r;exact(e a).mpr rfl
 |dct ks ts=>obtain⟨a,_,_,e,_⟩:=r;exact(e a).mpr rfl
 |dd ks rows=>obtain⟨a,_,_,_,e,_⟩:=r;exact(e a).mpr (.inl rfl)
 |ob C ns ls=>obtain⟨a,_,_,_,e,_⟩:=r;exact(e a).mpr (.inl rfl)
 |ll ls=>obtain⟨a,_,_,e,_⟩:=r;exact(e a).mpr (.inl rfl)
theorem EnvM.move{P:Ow}(E:EnvM K O noM H ρ σ)(hP:∀a,P a->O a\/Nw K H a)(hO:∀a,O' a->O a\/Nw K H a)(h:SameO P H H')(trk:∀a,O' a->Mtb H' a):EnvM K O' noM H' ρ σ where
 len:=E.len
 val:=λi t e=>let ⟨v,e1,e2⟩:=E.val i t e;⟨v,e1,e2.move hP hO h⟩
 own:=λi o e=>let ⟨_,_,r⟩:=E.own i o e;r.no.elim
 sub:=λ_ _ z=>z.elim
 dis:=λ_ _ _ z=>z.elim
 trk:=trk
def FG(fi:V4)(src:List (Option Nat))(tgt:T->En->Rs En)(fc:V7)(fe:V6)(ρ:En):Rs (List T):=fi ρ >>= λts=>if ts.length<=ZI then(match cT tgt fc fe ts (cJ src ρ)with|.ok ys=>Rs.ok ys|_=>.bad)else .bad
def yG{src:List (Option Nat)}{fc:V7}:d9 fi src tgt fc fe ρ=FG fi src tgt fc fe ρ >>= λl=>.ok (.lst l):=by
 unfold d9 FG
 cases fi ρ with
 |bad=>rfl
 |err c=>rfl
 |ok ts=>
  rw[aA,aA]
  by_cases hz:ts.length<=ZI
  ·rw[if_pos hz,if_pos hz]
   cases cT tgt fc fe ts (cJ src ρ) <;> rfl
  ·rw[if_neg hz,if_neg hz];rfl
abbrev LcW(K:Jz)(O':Ow)(D:ZE)(H1:Hp)(ts:List T)(tgt:T->En->Rs En)(fc:V7)(fe:V6)(all:List T)(i m:Nat)(σ':L2.St)(ys:List V)(H':Hp):Prop:=m=ts.length - i/\i<=ts.length/\ys.length<=i/\H' D=ZA (.lst ys)/\SameO (λa=>a=D) (upd H1 D (.lst [])) H'/\∃ρ' yts zs,EnvM K O' noM H' ρ' σ'/\Reps K O' H' yts ys/\cT tgt fc fe (ts.drop i) ρ'=.ok zs/\yts++zs=all
def LcW.use{D:ZE}{H1:Hp}{all:List T}{fc:V7}{m:Nat}{σ':L2.St}{ys:List V}(w:LcW K O' D H1 ts tgt fc fe all i m σ' ys H')(k:m=ts.length - i->i<=ts.length->ys.length<=i->H' D=ZA (.lst ys)->SameO (λa=>a=D) (upd H1 D (.lst [])) H'->∀ρ' yts zs,EnvM K O' noM H' ρ' σ'->Reps K O' H' yts ys->cT tgt fc fe (ts.drop i) ρ'=.ok zs->yts++zs=all->Pp):Pp:=by
 obtain⟨a1,a2,a3,a4,a5,ρ',yts,zs,b1,b2,b3,b4⟩:=w;exact k a1 a2 a3 a4 a5 ρ' yts zs b1 b2 b3 b4
def yE{src:List (Option Nat)}{fc:V7}(E:EnvO X.K O H ρ σ)
  (hq1:Post X H (FG fi src tgt fc fe ρ) λall H1=>∀D ys H',Nw X.K H1 D->Same H1 H'->H' D=ZA (.lst ys)->Reps X.K (λa=>O a\/a=D) H' all ys->Q (.ref D) H'):C5 X.K (tPI X fi) src (zX X tgt) (tPT0 X.K fc) (tP0 X.K fe) σ H Q:=by
 unfold FG at hq1;refine⟨ρ,O,E,Post.mono hq1.bind λts H1 s1 q1 J hJ D hD hK=>?_⟩
 have E1:=E.same s1
 by_cases hz:ts.length<=ZI
 ·rw[if_pos hz]at q1
  cases hall:cT tgt fc fe ts (cJ src ρ)with
  |bad=>rw[hall]at q1;exact q1.elim
  |err c=>rw[hall]at q1;exact q1.elim
  |ok all=>
   rw[hall]at q1
   have q2:∀D ys H',Nw X.K H1 D->Same H1 H'->H' D=ZA (.lst ys)->Reps X.K (λa=>O a\/a=D) H' all ys->Q (.ref D) H':=q1 H1 (Same.refl H1)
   have nD:Nw X.K H1 D:=⟨hD,hK⟩
   let O':Ow:=λa=>O a\/a=D
   have subO:∀a,O' a->O a\/Nw X.K H1 a:=λa z=>z.elim .inl λw=>.inr (w▸nD)
   refine⟨LcW X.K O' D H1 ts tgt fc fe all,⟨ts.length,?_⟩,?_⟩
   ·have sN:Same H1 (upd H1 D (.lst [])):=aV hD _
    refine⟨by omega,KI _,JO _,aZ,λb o e _=>e,cJ src ρ,[],all,?_,Reps.GT,by simpa using hall,rfl⟩
    have E2:EnvM X.K O noM H1 (cJ src ρ) (dt src σ):=yH E1 src
    exact E2.move (P:=λa=>a=D) (λa z=>.inr (z▸nD)) subO (λb o e _=>sN b o e) λa z=>by
     rcases z with z|z
     ·exact(E1.mtb a z).same sN
     ·rw[z];exact .inl ⟨_,aZ⟩
   ·refine λi m σ' ys H' w=>w.use λe0 hi' hyl hDl hsm ρ' yts zs E' ry hl hyz=>?_
    subst e0;refine⟨hDl,?_⟩
    have sm1:SameO (λa=>a=D) H1 H':=λb o e nb=>hsm b o (by rw[aM nb];exact e) nb
    have it:=hJ (λa=>a=D) O' (λa z=>.inr (z▸nD)) subO i H' sm1 (λa z=>(E'.trk a z).some)
    by_cases hlt:i<ts.length
    ·refine .inr ?_
     have hti:ts[i]?=ZA ts[i]:=by simp
     obtain⟨go,yl⟩:=it.2 ts[i] hti;refine⟨go,by omega,λxx Hc y=>?_⟩
     obtain⟨sc,rx⟩:=yl xx Hc y
     have Ec:=E'.same sc;rw[Ld hlt]at hl;unfold cT at hl;refine⟨ρ',O',noM,ts[i],Ec,rx,?_⟩
     cases e1:tgt ts[i] ρ' with
     |bad=>rw[e1]at hl;cases hl
     |err cc=>rw[e1]at hl;cases hl
     |ok ρ1=>
      rw[e1,aA]at hl;intro σ1 Eg;refine⟨ρ1,O',⟨noM,Eg⟩,?_⟩
      cases e2:fc ρ1 with
      |bad=>rw[e2]at hl;cases hl
      |err cc=>rw[e2]at hl;cases hl
      |ok k=>
       rw[e2,aA]at hl;intro H3 s3
       have E3:=Eg.same s3
       have tot:Same H' H3:=sc.trans s3
       have D3:H3 D=ZA (.lst ys):=tot _ _ hDl
       have sm3:SameO (λa=>a=D) (upd H1 D (.lst [])) H3:=λb o e nb=>tot _ _ (hsm b o e nb)
       cases k with
       |false=>
        refine L2.iteF ?_
        have hl':cT tgt fc fe (ts.drop (i+1)) ρ1=.ok zs:=by simpa using hl
        exact⟨ts.length - (i+1),by omega,rfl,hlt,by omega,D3,sm3,ρ1,yts,zs,E3,ry.same tot,hl',hyz⟩
       |true=>
        refine L2.iteT ?_
        have hl':(fe ρ1 >>= λy=>cT tgt fc fe (ts.drop (i+1)) ρ1 >>= λys=>Rs.ok (y::ys))=.ok zs:=by simpa using hl
        refine⟨ρ1,O',⟨noM,E3⟩,?_⟩
        cases e3:fe ρ1 with
        |bad=>rw[e3]at hl';cases hl'
        |err cc=>rw[e3]at hl';cases hl'
        |ok yt=>
         rw[e3,aA]at hl'
         cases e4:cT tgt fc fe (ts.drop (i+1)) ρ1 with
         |bad=>rw[e4]at hl';cases hl'
         |err cc=>rw[e4]at hl';cases hl'
         |ok zs'=>
          rw[e4,aA]at hl'
          have hzs:yt::zs'=zs:=by injection hl'
          intro H4 s4 v rv
          have D4:H4 D=ZA (.lst ys):=s4 _ _ D3
          have E4:=E3.same s4
          have tot4:Same H' H4:=tot.trans s4
          have smD:SameO (λa=>a=D) H4 (upd H4 D (.lst (ys++[v]))):=λb o e nb=>by rw[aM nb];exact e
          have inO:∀a,a=D->O' a\/Nw X.K H4 a:=λa z=>.inl (.inr z)
          refine⟨D4,ts.length - (i+1),by omega,rfl,hlt,?_,aZ,λb o e nb=>smD b o (s4 _ _ (sm3 b o e nb)) nb,ρ1,yts++[yt],zs',?_,?_,e4,?_⟩
          ·rw[JC,Ka];omega
          ·exact E4.move inO (λa z=>.inl z) smD λaa z=>by
            by_cases hz:aa=D
            ·rw[hz];exact .inl ⟨_,aZ⟩
            ·unfold Mtb;rw[aM hz];exact E4.trk aa z
          ·have r1:Reps X.K O' H4 (yts++[yt]) (ys++[v]):=(ry.same tot4).append (Reps.GE rv Reps.GT)
           exact r1.move inO (λa z=>.inl z) smD
          ·rw[JX,List.singleton_append,hzs];exact hyz
    ·refine .inl ⟨it.1 (by omega),?_⟩
     have hi2:i=ts.length:=by omega
     subst hi2;rw[O8]at hl
     have hzs:zs=[]:=by unfold cT at hl;injection hl with hl;exact hl.symm
     subst hzs;rw[Kr]at hyz;subst hyz
     have sF:Same H1 H':=λb o e=>sm1 b o e λz=>by rw[z,hD]at e;cases e
     exact q2 D ys H' nD sF hDl ry
 ·rw[if_neg hz]at q1
  exact q1.elim
def pW{src:List (Option Nat)}{fc:V7}(h0:tP X (d9 fi src tgt fc fe) σ H Q):C5 X.K (tPI X fi) src (zX X tgt) (tPT0 X.K fc) (tP0 X.K fe) σ H Q:=by
 obtain⟨ρ,O,E,hq⟩:=h0;refine yE E ?_
 have e:d9 fi src tgt fc fe ρ=FG fi src tgt fc fe ρ >>= λl=>.ok (.lst l):=yG
 rw[e]at hq
 cases q:FG fi src tgt fc fe ρ with
 |bad=>rw[q]at hq;exact hq.elim
 |err c=>rw[q]at hq;exact hq
 |ok l=>
  rw[q,aA]at hq;intro H1 s1 D ys H' nD sD eD rD;exact hq H' (s1.trans sD) _ (Rep.Fk.mpr ⟨D,ys,rfl,λz=>(E.same s1).fresh nD.1 z,eD,rD.less λa z=>.inl z⟩)
def q_lc{elt:ZG}{src:List (Option Nat)}{fc:V7}
  (hc:X.calm=ZC) (S:LcScope X scope N' src) (hi:wR X tg iter fi)
  (block:∀cl C s₀ H₀ fp,zR (ba X scope cl N' C s₀ H₀ fp) tg tgt/\sr (ba X scope cl N' C s₀ H₀ fp) ifs (uh (ba X scope cl N' C s₀ H₀ fp) fc)/\cy (ba X scope cl N' C s₀ H₀ fp) elt fe)
  (hs:autoParam (∀x,J8 iter X.env x=pure x) t_):
  cy X (.ListComp elt [⟨tg,iter,ifs,0⟩] scope pos) (d9 fi src tgt fc fe):=by
 have hPG:∀cl C s₀ H₀ fp,PG (ba X scope cl N' C s₀ H₀ fp) tg (zX X tgt):=λcl C s₀ H₀ fp=>(block cl C s₀ H₀ fp).1
 have hPI:∀cl C s₀ H₀ fp,sr (ba X scope cl N' C s₀ H₀ fp) ifs (tPT0 X.K fc):=λcl C s₀ H₀ fp ca s σ H Q I h=>(block cl C s₀ H₀ fp).2.1 ca s σ H Q I (tPT0.up (X:=ba X scope cl N' C s₀ H₀ fp) h)
 have hPE:∀cl C s₀ H₀ fp,PE (ba X scope cl N' C s₀ H₀ fp) elt (tP0 X.K fe):=λcl C s₀ H₀ fp ca s σ H Q I h=>(block cl C s₀ H₀ fp).2.2 ca s σ H Q I (tP0.up (X:=ba X scope cl N' C s₀ H₀ fp) h)
 exact PE.imp (x5 (g:=zX X tgt) (tc:=tPT0 X.K fc) (te:=tP0 X.K fe) hc S hi (λcl C s₀ H₀ fp=>⟨hPG cl C s₀ H₀ fp,hPI cl C s₀ H₀ fp,hPE cl C s₀ H₀ fp⟩) hs) λσ H Q h=>pW h
inductive Fl where
 |nx (ρ:En)|rt (t:T)|bk (ρ:En)|ct (ρ:En)
abbrev V5:=En->Rs Fl
def OO(B:Ow)(M:Mn):Ow:=λa=>B a\/M.u a
structure Ev (K:Jz)(B:Ow)(M:Mn)(H:Hp)(ρ:En)(σ:L2.St):Prop where
 env:EnvM K (OO B M) M H ρ σ
 mine:∀a,M.u a->¬ B a
theorem Ev.same(h:Same H H')(e:Ev K B M H ρ σ):Ev K B M H' ρ σ:=⟨e.env.same h,e.mine⟩
def Ev.o(e:Ev K B M H ρ σ):EnvO K (OO B M) H ρ σ:=⟨M,e.env⟩
def PostF(X:Cx)(B P:Ow)(H:Hp)(r:Rs Fl)(D:Ends):Prop:=match r with
 |.ok (.nx ρ')=>∀σ' H' M',SameO P H H'->Ev X.K B M' H' ρ' σ'->(∀a,M'.u a->P a\/Nw X.K H a)->D.nx σ' H'
 |.ok (.rt t)=>∀v H',SameO P H H'->Rep X.K B H' t v->D.rt v H'
 |.ok (.bk ρ')=>∀σ' H' M',SameO P H H'->Ev X.K B M' H' ρ' σ'->(∀a,M'.u a->P a\/Nw X.K H a)->D.bk σ' H'
 |.ok (.ct ρ')=>∀σ' H' M',SameO P H H'->Ev X.K B M' H' ρ' σ'->(∀a,M'.u a->P a\/Nw X.K H a)->D.ct σ' H'
 |.err c=>XA X P H c
 |.bad=>False
def FD(X:Cx)(F:V5):TS:=λD σ H=>∃ρ B M,Ev X.K B M H ρ σ/\PostF X B M.u H (F ρ) D
abbrev qt(X:Cx)(s:ZF)(F:V5):Prop:=PS X s (FD X F)
abbrev lx(X:Cx)(s:List ZF)(F:V5):Prop:=PSs X s (FD X F)
theorem PostF.later{P P1:Ow}{H1:Hp}{r:Rs Fl}(h:PostF X B P H r D)(s:SameO P H H1)(sub:∀a,P1 a->P a\/Nw X.K H a):PostF X B P1 H1 r D:=by
 have back:∀a,P1 a\/Nw X.K H1 a->P a\/Nw X.K H a:=λa z=>z.elim (sub a) (eZ s)
 cases r with
 |bad=>exact h
 |err c=>exact XA.later h s sub
 |ok f=>
  cases f with
  |nx ρ'=>exact λσ' H' M' s' E' o'=>h σ' H' M' (s.trans s' sub) E' λa z=>back a (o' a z)
  |rt t=>exact λv H' s' r=>h v H' (s.trans s' sub) r
  |bk ρ'=>exact λσ' H' M' s' E' o'=>h σ' H' M' (s.trans s' sub) E' λa z=>back a (o' a z)
  |ct ρ'=>exact λσ' H' M' s' E' o'=>h σ' H' M' (s.trans s' sub) E' λa z=>back a (o' a z)
def PostF.xa{P:Ow}{c:Str}(h:PostF X B P H (.err c) D):XA X vW H c:=XA.later (P:=P) h (λ_ _ e _=>e) λ_ z=>z.elim
def sN(ρ:En):Rs Fl:=.ok (.nx ρ)
def ay(F G:V5)(ρ:En):Rs Fl:=do
 let f <-F ρ
 match f with
 |.nx ρ'=>G ρ'
 |f=>.ok f
def Dw:lx X [] sN:=PSs.imp AZ λD σ H ⟨ρ,B,M,E,h⟩=>h σ H M (λ_ _ e _=>e) E λa z=>.inl z
def AJ{br:List ZF}{F G:V5}(h1:qt X st F)(h2:lx X br G):lx X (st::br) (ay F G):=PSs.imp (xT h1 h2) λD σ H hh_=>by
 obtain⟨ρ,B,M,E,h⟩:=hh_;refine⟨ρ,B,M,E,?_⟩
 unfold ay at h
 cases q:F ρ with
 |bad=>rw[q]at h;exact h.elim
 |err c=>rw[q]at h;exact h
 |ok f=>
  rw[q,aA]at h
  cases f with
  |nx ρ'=>exact λσ' H' M' s' E' o'=>⟨ρ',B,M',E',h.later s' o'⟩
  |rt t=>exact h
  |bk ρ'=>exact h
  |ct ρ'=>exact h
def Dv{F:V5}(h:qt X st F):lx X [st] F:=AY h
def aF(f:V6)(ρ:En):Rs Fl:=do
 let t <-f ρ
 .ok (.rt t)
def Dt(ha:cy X a fa):qt X (.Return (ZA a) pos) (aF fa):=PS.imp (DV ha) λD σ H hh_=>by
 obtain⟨ρ,B,M,E,h⟩:=hh_;refine⟨ρ,OO B M,E.o,?_⟩
 unfold aF at h
 cases q:fa ρ with
 |bad=>rw[q]at h;exact h.elim
 |err c=>rw[q]at h;exact PostF.xa h
 |ok t=>
  rw[q,aA]at h;exact λH' s v r=>h v H' (SameO.of s) (r.less λ_ z=>.inl z)
def dP(f:V7)(F G:V5)(ρ:En):Rs Fl:=do
 let k <-f ρ
 if k then F ρ else G ρ
def GA{A B:List ZF}{F G:V5}(hc:vp X c f)(ha:lx X A F)(hb:lx X B G):qt X (.If c A B pos) (dP f F G):=PS.imp (GV hc ha hb) λD σ H hh_=>by
 obtain⟨ρ,B,M,E,h⟩:=hh_;refine⟨ρ,OO B M,E.o,?_⟩
 unfold dP at h
 cases q:f ρ with
 |bad=>rw[q]at h;exact h.elim
 |err c=>rw[q]at h;exact PostF.xa h
 |ok k=>
  rw[q,aA]at h;intro H' s
  have E':Ev X.K B M H' ρ σ:=E.same s
  cases k with
  |true=>refine L2.iteT ?_;exact⟨ρ,B,M,E',PostF.later (by simpa using h) (SameO.of s) λa z=>.inl z⟩
  |false=>refine L2.iteF ?_;exact⟨ρ,B,M,E',PostF.later (by simpa using h) (SameO.of s) λa z=>.inl z⟩
def cu(f:V6)(g:T->En->Rs En)(ρ:En):Rs Fl:=do
 let t <-f ρ
 match g t ρ with
 |.ok ρ'=>.ok (.nx ρ')
 |_=>.bad
variable{f:V6}
def sQ(E:Ev X.K B M H ρ σ)(h:PostF X B M.u H (cu f g ρ) D):xt (tP X f) (zX X g) D σ H:=by
 refine⟨ρ,OO B M,E.o,?_⟩
 unfold cu at h
 cases q:f ρ with
 |bad=>rw[q]at h;exact h.elim
 |err c=>rw[q]at h;exact PostF.xa h
 |ok t=>
  rw[q,aA]at h;intro H' s v r;refine⟨ρ,OO B M,M,t,E.env.same s,r,?_⟩
  cases q2:g t ρ with
  |bad=>rw[q2]at h;exact h.elim
  |err c=>rw[q2]at h;exact h.elim
  |ok ρ'=>
   rw[q2]at h;exact λσ' E'=>h σ' H' M (SameO.of s) ⟨E',E.mine⟩ λa z=>.inl z
def Av{Q':VK}(h:tP X f σ H Q)(w:∀v H',Q v H'->Q' v H'):tP X f σ H Q':=by
 obtain⟨ρ,O,E,q⟩:=h;exact⟨ρ,O,E,Post.mono q λt H' _ z v r=>w v H' (z v r)⟩
def Gz{elt:ZG}{spos py:Pos}{src:List (Option Nat)}{fc:V7}(i:Nat){y:Str}
  (hc:X.calm=ZC) (S:LcScope X scope N' src) (hi:wR X tg iter fi)
  (block:∀cl C s₀ H₀ fp,zR (ba X scope cl N' C s₀ H₀ fp) tg tgt/\sr (ba X scope cl N' C s₀ H₀ fp) ifs (uh (ba X scope cl N' C s₀ H₀ fp) fc)/\cy (ba X scope cl N' C s₀ H₀ fp) elt fe)
  (hN:X.N.Nodup) (hiy:autoParam (X.N[i]?=ZA y) u_) (hy:autoParam (Loc X.env.scope y) y_) (hsw:autoParam (Lx (.ListComp elt [⟨tg,iter,ifs,0⟩] scope pos) (ZA (.Name y py)) spos.line X.env=pure ZC) u_)
  (hf:autoParam (X.fn y=ZC\/X.env.scope.names.lookup y=ZA .local) r_) (hs:autoParam (∀x,J8 iter X.env x=pure x) t_):
  qt X (.Assign [.Name y py] (.ListComp elt [⟨tg,iter,ifs,0⟩] scope pos) spos) (cu (d9 fi src tgt fc fe) (gN i)):=by
 have hPG:∀cl C s₀ H₀ fp,PG (ba X scope cl N' C s₀ H₀ fp) tg (zX X tgt):=λcl C s₀ H₀ fp=>(block cl C s₀ H₀ fp).1
 have hPI:∀cl C s₀ H₀ fp,sr (ba X scope cl N' C s₀ H₀ fp) ifs (tPT0 X.K fc):=λcl C s₀ H₀ fp ca s σ H Q I h=>(block cl C s₀ H₀ fp).2.1 ca s σ H Q I (tPT0.up (X:=ba X scope cl N' C s₀ H₀ fp) h)
 have hPE:∀cl C s₀ H₀ fp,PE (ba X scope cl N' C s₀ H₀ fp) elt (tP0 X.K fe):=λcl C s₀ H₀ fp ca s σ H Q I h=>(block cl C s₀ H₀ fp).2.2 ca s σ H Q I (tP0.up (X:=ba X scope cl N' C s₀ H₀ fp) h)
 refine PS.imp (GU (g:=zX X tgt) (tc:=tPT0 X.K fc) (te:=tP0 X.K fe) (i:=i) hc S hi (λcl C s₀ H₀ fp=>⟨hPG cl C s₀ H₀ fp,hPI cl C s₀ H₀ fp,hPE cl C s₀ H₀ fp⟩) hN hiy hy hsw hf hs) λD σ H ⟨ρ,B,M,E,h⟩=>pW (Av (sQ E h) λv H' z=>?_)
 obtain⟨ρ',O,M',t,E',r,q⟩:=z;unfold gN at q
 split at q
 ·rename_i ρ2 e
  split at e
  ·rename_i hl
   cases e;exact q _ (E'.set hl r)
  ·cases e
 ·exact q.elim
def DB(ha:cy X a fa)(hg:zR X tg g)(hs:autoParam (Nj [tg] a pos.line X.env=pure ZD) u_)(hw:autoParam (Nk [tg] a X.env=pure ZB) u_)
  (h1:autoParam ((K3 [tg] X.env).map (·.2)=[assign tg X.env]) u_):qt X (.Assign [tg] a pos) (cu fa g):=PS.imp (DX ha hg hs hw h1) λD σ H ⟨ρ,B,M,E,h⟩=>sQ E h
def zZ(f:V6)(ρ:En):Rs Fl:=do
 let _ <-f ρ
 .ok (.nx ρ)
def AI(ha:cy X a fa)(hs:autoParam (Lx a ZB pos.line X.env=pure ZD) u_):qt X (.Expr a pos) (zZ fa):=PS.imp (pz ha hs) λD σ H hh_=>by
 obtain⟨ρ,B,M,E,h⟩:=hh_;refine⟨ρ,OO B M,E.o,?_⟩
 unfold zZ at h
 cases q:fa ρ with
 |bad=>rw[q]at h;exact h.elim
 |err c=>rw[q]at h;exact PostF.xa h
 |ok t=>
  rw[q,aA]at h;exact λH' s v r=>h σ H' M (SameO.of s) (E.same s) λa z=>.inl z
def bw(g:T->En->Rs En)(F:V5):List T->V5
 |[],ρ=>.ok (.nx ρ)
 |t::r,ρ=>do
  let ρ1 <-g t ρ
  let f <-F ρ1
  match f with
  |.nx ρ2=>bw g F r ρ2
  |.ct ρ2=>bw g F r ρ2
  |.bk ρ2=>.ok (.nx ρ2)
  |.rt t=>.ok (.rt t)
def gz(fi:V4)(g:T->En->Rs En)(F:V5)(ρ:En):Rs Fl:=do
 let ts <-fi ρ
 match bw g F ts ρ with
 |.ok f=>.ok f
 |_=>.bad
def fW{t:Sem α}{Q:α->JB->Prop}(h:ZJ (ZK P w) A t Q (λ_ _=>False) s):ZJ (ZK P w) A t Q E s:=Kw h (λ_ _ q=>q) λ_ _ z=>z.elim
def A0{wi:TI}{g:TG}{tb:TS}{pos:Pos}(hc:X.calm=ZC)(hi:PI X tg iter wi)(hg:PG X.nox tg g)(hb:PSs X.nox body tb)
  (hs:autoParam (∀x,J8 iter X.env x=pure x) t_):PS X (.For tg iter body [] pos) (Ge wi g tb):=by
 intro ca s σ H D I h;refine wpAny_For (bN (hi ca s σ H _ I h) λv s1 h1=>bN h1 λitv s2 h2=>?_) hs
 obtain⟨it,fp,tn,J,H2,e,I2,T,st2,f2,W,⟨m0,w0⟩,turn⟩:=h2;subst e
 have stat:∀{H':Hp},(∀b∈fp,H' b=ZB)->∀b∈fp,gZ X ca H' b:=λhn b hb=>⟨hn b hb,(f2 b hb).2⟩
 refine codeAny_forLoop_any (λn s'=>∃i σ' H',Inv X ca σ' H' s'/\tn i s'.heap/\(∀b∈fp,H' b=ZB)/\W i n σ' H') ?_ m0 ⟨0,σ,H2,I2,st2,λb hb=>(f2 b hb).1,w0⟩
 rintro n s3 ⟨i,σ3,H3,I3,st3,fr3,w3⟩
 rcases turn i n σ3 H3 w3 with⟨stop,qn⟩|⟨go,N,hN,step⟩
 ·refine fW (bN (T.done X.nox rfl rfl rfl hc i ca s3 σ3 H3 _ (I3.FM _) (stat fr3) st3 stop) λr s4 ⟨hr,I4⟩=>?_)
  subst hr;exact L9 ⟨σ3,H3,I4.FM _,qn⟩
 ·refine fW (bN (T.item X.nox rfl rfl rfl hc i ca s3 σ3 H3 _ (I3.FM _) (stat fr3) st3 go) λr s4 ⟨u,hr,h4⟩=>?_)
  subst hr;refine fW (bN h4 λ_ s5 hh_=>?_)
  obtain⟨x,H5,I5,r5,y5,st5,fr5⟩:=hh_
  have I5':=Inv.pinned (X:=X.nox) I5 (stat fr5) (T.obj _ _ st5);refine fW (bN (hg _ s5 σ3 H5 x u _ I5' r5 (step x H5 y5)) λ_ s6 hh_=>?_)
  obtain⟨σ6,H6,I6,q6⟩:=hh_;refine fW (bN (hb _ s6 σ6 H6 _ I6 q6) λf s7 q7=>?_)
  have again:∀{σ7:L2.St}{H7:Hp},Inv X.nox (ca++jx fp s5.heap) σ7 H7 s7->N σ7 H7->∃m,m<n/\∃i σ' H',Inv X ca σ' H' s7/\tn i s7.heap/\(∀b∈fp,H' b=ZB)/\W i m σ' H':=λ{σ7 H7} I7 n7=>by
   obtain⟨m',hm,w7⟩:=hN σ7 H7 n7;refine⟨m',hm,i+1,σ7,H7,(Inv.GM (X:=X.nox) I7).FM _,T.keep _ _ _ st5 λb hb o e=>(I7.pin (b,o) (JV _ (JV _ (df hb e)))).1,λb hb=>?_,w7⟩
   obtain⟨o,e,d⟩:=T.obj _ _ st5 b hb;exact(I7.pin (b,o) (JV _ (JV _ (df hb e)))).2.1
  cases f with
  |next=>obtain⟨σ7,H7,I7,n7⟩:=q7;exact again I7 n7
  |cont=>obtain⟨σ7,H7,I7,n7⟩:=q7;exact again I7 n7
  |brk=>obtain⟨σ7,H7,I7,q7⟩:=q7;exact⟨σ7,H7,(Inv.GM (X:=X.nox) I7).FM _,q7⟩
  |ret v=>obtain⟨x7,σ7,H7,I7,r7,q7⟩:=q7;exact⟨x7,σ7,H7,(Inv.GM (X:=X.nox) I7).FM _,r7,q7⟩
def Dx{F:V5}(hc:X.calm=ZC)(hi:wR X tg iter fi)(hg:zR X.nox tg g)(hb:lx X.nox body F)
  (hs:autoParam (∀x,J8 iter X.env x=pure x) t_):qt X (.For tg iter body [] pos) (gz fi g F):=PS.imp (A0 hc hi hg hb hs) λD σ H hh_=>by
 obtain⟨ρ,B,M,E,h⟩:=hh_;refine⟨ρ,OO B M,E.o,?_⟩
 unfold gz at h
 cases q:fi ρ with
 |bad=>rw[q]at h;exact h.elim
 |err c=>rw[q]at h;exact PostF.xa h
 |ok ts=>
  rw[q,aA]at h
  cases qq:bw g F ts ρ with
  |bad=>rw[qq]at h;exact h.elim
  |err c=>rw[qq]at h;exact h.elim
  |ok fin=>
  rw[qq]at h;intro H1 s1 J hJ
  have E1:Ev X.K B M H1 ρ σ:=E.same s1
  have h1:PostF X B M.u H1 (.ok fin) D:=PostF.later h (SameO.of s1) λa z=>.inl z
  refine⟨λi m σ' H'=>m=ts.length - i/\i<=ts.length/\SameO M.u H1 H'/\∃ρ' M',Ev X.K B M' H' ρ' σ'/\(∀a,M'.u a->M.u a\/Nw X.K H1 a)/\bw g F (ts.drop i) ρ'=.ok fin,
   ⟨ts.length,by omega,KI _,λ_ _ e _=>e,ρ,M,E1,λa z=>.inl z,by simpa using qq⟩,?_⟩
  rintro i m σ' H' ⟨rfl,hi',sm,ρ',M',E',ow,hl⟩
  have it:=hJ M.u (OO B M') (λa z=>.inl (.inr z)) (λa z=>z.elim (λw=>.inl (.inl w)) λw=>(ow a w).elim (λy=>.inl (.inr y)) .inr) i H' sm (λa z=>(E'.env.trk a z).some)
  by_cases hlt:i<ts.length
  ·have hti:ts[i]?=ZA ts[i]:=by simp
   obtain⟨go,yl⟩:=it.2 ts[i] hti;rw[Ld hlt]at hl;unfold bw at hl;refine .inr ⟨go,λσ2 H2=>∃m',m'<ts.length - i/\(m'=ts.length - (i+1)/\i+1<=ts.length/\SameO M.u H1 H2/\∃ρ2 M2,Ev X.K B M2 H2 ρ2 σ2/\(∀a,M2.u a->M.u a\/Nw X.K H1 a)/\bw g F (ts.drop (i+1)) ρ2=.ok fin),λσ2 H2 z=>z,λx Hc y=>?_⟩
   obtain⟨sc,rx⟩:=yl x Hc y;refine⟨ρ',OO B M',M',ts[i],E'.env.same sc,rx,?_⟩
   cases e1:g ts[i] ρ' with
   |bad=>rw[e1]at hl;cases hl
   |err cc=>rw[e1]at hl;cases hl
   |ok ρ1=>
    rw[e1,aA]at hl;intro σ1 Eg
    have E2:Ev X.K B M' Hc ρ1 σ1:=⟨Eg,E'.mine⟩;refine⟨ρ1,B,M',E2,?_⟩
    have smc:SameO M.u H1 Hc:=λb o e n=>sc _ _ (sm b o e n)
    have onward:∀{σ3:L2.St}{H3:Hp}{ρ3:En}{M3:Mn},SameO M'.u Hc H3->Ev X.K B M3 H3 ρ3 σ3->(∀a,M3.u a->M'.u a\/Nw X.K Hc a)->bw g F (ts.drop (i+1)) ρ3=.ok fin →
      ∃m',m'<ts.length - i/\(m'=ts.length - (i+1)/\i+1<=ts.length/\SameO M.u H1 H3/\∃ρ2 M2,Ev X.K B M2 H3 ρ2 σ3/\(∀a,M2.u a->M.u a\/Nw X.K H1 a)/\bw g F (ts.drop (i+1)) ρ2=.ok fin):=
     λ{σ3 H3 ρ3 M3} s3 E3 o3 p3=>⟨_,by omega,rfl,hlt,smc.trans s3 ow,ρ3,M3,E3,λa z=>(o3 a z).elim (ow a) (eZ smc),p3⟩
    cases e2:F ρ1 with
    |bad=>rw[e2]at hl;cases hl
    |err cc=>rw[e2]at hl;cases hl
    |ok f=>
     rw[e2,aA]at hl
     cases f with
     |nx ρ2=>exact λσ3 H3 M3 s3 E3 o3=>onward s3 E3 o3 hl
     |ct ρ2=>exact λσ3 H3 M3 s3 E3 o3=>onward s3 E3 o3 hl
     |bk ρ2=>
      cases hl
      exact λσ3 H3 M3 s3 E3 o3=>h1 σ3 H3 M3 (smc.trans s3 ow) E3 λa z=>(o3 a z).elim (ow a) (eZ smc)
     |rt t=>
      cases hl;exact λv H3 s3 r=>h1 v H3 (smc.trans s3 ow) r
  ·refine .inl ⟨it.1 (by omega),?_⟩
   have hi2:i=ts.length:=by omega
   subst hi2;rw[O8]at hl;cases hl;exact h1 σ' H' M' sm E' ow
def bH(c:V7)(F:V5):Nat->V5
 |0,_=>.bad
 |n+1,ρ=>match c ρ with
  |.ok ZD=>.ok (.nx ρ)
  |.ok ZC=>match F ρ with
   |.ok (.nx ρ')=>bH c F n ρ'
   |.ok (.ct ρ')=>bH c F n ρ'
   |.ok (.bk ρ')=>.ok (.nx ρ')
   |.ok (.rt t)=>.ok (.rt t)
   |_=>.bad
  |_=>.bad
def xM{c:ZG}{fc:V7}{F:V5}(n:Nat)(hc:vp X.nox c fc)(hb:lx X.nox body F):qt X (.While c body [] pos) (bH fc F n):=by
 have base:PS X.nox (.While c body [] pos) (sG (uh X.nox fc) (FD X.nox F)):=xU PassesOwn.never hc hb;intro ca s σ H D I ⟨ρ,B,M,E,h⟩
 cases qq:bH fc F n ρ with
 |bad=>rw[qq]at h;exact h.elim
 |err c=>
  exfalso
  have:∀n ρ,bH fc F n ρ≠ .err c:=by
   intro n
   induction n with
   |zero=>intro ρ z;cases z
   |succ n ih=>
    intro ρ z;unfold bH at z
    split at z
    ·cases z
    ·split at z <;> first|exact ih _ z|cases z
    ·cases z
  exact this n ρ qq
 |ok fin=>
  rw[qq]at h
  have goal:sG (uh X.nox fc) (FD X.nox F) D σ H:=by
   refine⟨λm σ' H'=>SameO M.u H H'/\∃ρ' M',Ev X.K B M' H' ρ' σ'/\(∀a,M'.u a->M.u a\/Nw X.K H a)/\bH fc F m ρ'=.ok fin,⟨n,λ_ _ e _=>e,ρ,M,E,λa z=>.inl z,qq⟩,?_⟩
   rintro m σ' H' ⟨sm,ρ',M',E',ow,hl⟩
   cases m with
   |zero=>cases hl
   |succ m=>
    refine⟨ρ',OO B M',E'.o,?_⟩
    unfold bH at hl
    cases e1:fc ρ' with
    |bad=>rw[e1]at hl;cases hl
    |err cc=>rw[e1]at hl;cases hl
    |ok k=>
     rw[e1]at hl;intro H2 s2
     have E2:Ev X.K B M' H2 ρ' σ':=E'.same s2
     have sm2:SameO M.u H H2:=λb o e n=>s2 _ _ (sm b o e n)
     cases k with
     |false=>
      cases hl;refine L2.iteF ?_
      exact h σ' H2 M' sm2 E2 ow
     |true=>
      refine L2.iteT ?_
      refine⟨λσ3 H3=>SameO M.u H H3/\∃ρ3 M3,Ev X.K B M3 H3 ρ3 σ3/\(∀a,M3.u a->M.u a\/Nw X.K H a)/\bH fc F m ρ3=.ok fin,λσ3 H3 z=>⟨m,RP m,z⟩,ρ',B,M',E2,?_⟩
      have hl':(match F ρ' with|.ok (.nx ρ')=>bH fc F m ρ'|.ok (.ct ρ')=>bH fc F m ρ'|.ok (.bk ρ')=>.ok (.nx ρ')|.ok (.rt t)=>.ok (.rt t)|_=>.bad)=.ok fin:=hl
      cases e2:F ρ' with
      |bad=>rw[e2]at hl';cases hl'
      |err cc=>rw[e2]at hl';cases hl'
      |ok f=>
       rw[e2]at hl'
       cases f with
       |nx ρ2=>exact λσ3 H3 M3 s3 E3 o3=>⟨sm2.trans s3 ow,ρ2,M3,E3,λa z=>(o3 a z).elim (ow a) (eZ sm2),hl'⟩
       |ct ρ2=>exact λσ3 H3 M3 s3 E3 o3=>⟨sm2.trans s3 ow,ρ2,M3,E3,λa z=>(o3 a z).elim (ow a) (eZ sm2),hl'⟩
       |bk ρ2=>
        cases hl'
        exact λσ3 H3 M3 s3 E3 o3=>h σ3 H3 M3 (sm2.trans s3 ow) E3 λa z=>(o3 a z).elim (ow a) (eZ sm2)
       |rt t=>
        cases hl';exact λv H3 s3 r=>h v H3 (sm2.trans s3 ow) r
  refine fW (bN (base ca s σ H D (I.FM _) goal) λf s' q=>?_)
  cases f with
  |next=>obtain⟨σ7,H7,I7,n7⟩:=q;exact⟨σ7,H7,I7.FM _,n7⟩
  |cont=>obtain⟨σ7,H7,I7,n7⟩:=q;exact⟨σ7,H7,I7.FM _,n7⟩
  |brk=>obtain⟨σ7,H7,I7,n7⟩:=q;exact⟨σ7,H7,I7.FM _,n7⟩
  |ret v=>obtain⟨x7,σ7,H7,I7,r7,q7⟩:=q;exact⟨x7,σ7,H7,I7.FM _,r7,q7⟩
def Cw(ρ:En):Rs Fl:=.ok (.ct ρ)
end
def bA(F:V5)(ρ:En):Rs T:=do
 let f <-F ρ
 match f with
 |.nx _=>.ok .non
 |.rt t=>.ok t
 |_=>.bad
def aK(n:Nat)(ts:List T):En:=ts.map Sl.va++J9 (n - ts.length) Sl.em
def vJ{o:OT}(e:(aK n ts)[i]?=ZA (.ow o)):False:=by
 unfold aK at e
 by_cases hi:i<ts.length
 ·rw[Lc (by simpa using hi),Ko,JW hi]at e
  cases e
 ·rw[Kz (by simpa using hi),Nf]at e
  split at e <;> cases e
variable{N:List Str}
def iJ(r:Reps K O H ts vs)(hl:ts.length<=N.length)(trk:∀a,O a->Mtb H a):Ev K O noM H (aK N.length ts) (start N vs):=by
 have hlen:=r.length
 have sub:∀a,OO O noM a->O a:=λa z=>z.elim id λ⟨_,w⟩=>w.elim
 refine⟨⟨by unfold aK L2.start;simp;omega,λi t e=>?_,λi o e=>(vJ e).elim,λ_ _ z=>z.elim,λ_ _ _ z=>z.elim,λa z=>trk a (sub a z)⟩,λa ⟨_,z⟩=>z.elim⟩
 unfold aK at e;unfold L2.start
 by_cases hi:i<ts.length
 ·rw[Lc (by simpa using hi),Ko,JW hi]at e
  have e':ts[i]=t:=by injection e with e;injection e
  obtain⟨v,e1,e2⟩:=r.get (i:=i) (t:=t) (by rw[<-e'];simp)
  refine⟨v,?_,e2.less sub⟩
  rw[Lc (by simp;omega),Ko,e1];rfl
 ·rw[Kz (by simpa using hi),Nf]at e
  split at e <;> cases e
section
variable {mg:V0}{base:ZH}
def HA{qual:Str}{f:ZE}{g:List T->Rs T}(Fn:L2.Fun K x qual st f fd)(S:cG N ps (aq st))(hn:ps.length=n)
  (hbody:∀(cdv:JD)(A:Kc)(outer:List Env)(s:JB)(H:Hp)(E:XK),Room k (A.deeper (envOfC qual (aq st) s.heap.objs.size f cdv)) →
   ∃F,lx (fG CX0 P w K mg base N qual (aq st) f cdv A outer s H E).nox (bP st) F/\∀ts,ts.length=n->∀t,g ts=.ok t->bA F (aK N.length ts)=.ok t):wL P w K mg base CX0 (k+1) f fd ps (spP K n g):=by
 have hpl:ps.length<=N.length:=by have:=congrArg Lh S.pre;rw[LQ]at this;omega
 refine Fn.ok S (λvs H Q E h=>?_) (λcdv A outer s H vs Q E hr h=>?_)
 ·obtain⟨ts,O,r,_,hl,_⟩:=h
  rw[<-r.length,hl,hn]
 ·obtain⟨ts,O,r,trk,hl,h⟩:=h
  obtain⟨F,hF,hv⟩:=hbody cdv A outer s H E hr;refine⟨_,hF,aK N.length ts,O,noM,iJ r (by omega) trk,?_⟩
  have no:∀a,¬noM.u a:=λa ⟨_,z⟩=>z
  cases q:g ts with
  |bad=>rw[q]at h;exact h.elim
  |err c=>rw[q]at h;exact h.elim
  |ok t=>
   rw[q]at h
   have hb:=hv ts hl t q;unfold bA at hb
   cases q2:F (aK N.length ts)with
   |bad=>rw[q2]at hb;cases hb
   |err c=>rw[q2]at hb;cases hb
   |ok fl=>
    rw[q2,aA]at hb
    have sameOf:∀H',SameO noM.u H H'->Same H H':=λH' s b o e=>s b o e (no b)
    cases fl with
    |nx ρ'=>cases hb;exact λσ' H' M' s' E' o'=>h .non H' (sameOf H' s') Rep.IR
    |rt t'=>cases hb;exact λv H' s' r'=>h v H' (sameOf H' s') r'
    |bk ρ'=>cases hb
    |ct ρ'=>cases hb
end
end Tr
namespace Enu
open PySem
open AutoSeq1 (wpAny_loadPart')
variable{its:Array JD}
def tupNext{it tt:ZE}{x:JD}(hi:s.heap.IsTupleIter it tt k)(ht:s.heap.IsTuple tt its)(hx:its[k]?=ZA x)
  (hQ:∀h',h'.IsTupleIter it tt (k+1)->Me it s.heap h'->Q x {s with heap:=h'}):ZJ (ZK prog w) A (J2 (.ref it)) Q E s:=by
 obtain⟨ob,g1,g2,g3⟩:=id hi;obtain⟨ot,k1,_,m,k3⟩:=ht;unfold J2;refine Jy (Ku (name:=JN "__next__") hi.typeIs LN (KZ LN hi.typeIs NY ?_ (NO _)))
 show ZJ (ZK prog w) _ (field (.ref it) 0 >>= _) _ _ s
 refine Jy (Kd g1 g3 (x:=.ref tt) rfl ?_)
 show ZJ (ZK prog w) _ (if (Kf tt == Kg)=ZC then _ else _) _ _ s
 rw[if_neg (show ¬((Kf tt == Kg)=ZC)by exact J7)]
 show ZJ (ZK prog w) _ (field (.ref it) 1 >>= _) _ _ s
 refine Jy (Kd g1 g3 (x:=.int k 0) rfl ?_)
 show ZJ (ZK prog w) _ (seqItems? (.ref tt) >>= _) _ _ s
 refine Jy (KD k1 k3 ?_)
 simp only[hx,Kl];refine Jy (Ox g1 g3 (by simp) (JK ⟨x,rfl,JK (hQ _ ?_ (Qi ..))⟩))
 refine⟨_,NI _ g1 (NJ (LV g3 _)),(Obj.cls_mapFields ..).trans g2,?_⟩
 rw[LV g3];simp[rawInt]
def tupStop{it tt:ZE}(hh:A.handled=ZB)(hi:s.heap.IsTupleIter it tt k)(ht:s.heap.IsTuple tt its)(hx:its[k]?=ZB)
  (hE:∀h' e,Sg it s.heap h'->(∃o,h'.get? e=ZA o/\o.cls=.type "StopIteration")->E (.ref e) {s with heap:=h'}):ZJ (ZK prog w) A (J2 (.ref it)) Q E s:=by
 obtain⟨ob,g1,g2,g3⟩:=id hi;obtain⟨ot,k1,_,m,k3⟩:=ht;unfold J2;refine Jy (Ku (name:=JN "__next__") hi.typeIs LN (KZ LN hi.typeIs NY ?_ (NO _)))
 show ZJ (ZK prog w) _ (field (.ref it) 0 >>= _) _ _ s
 refine Jy (Kd g1 g3 (x:=.ref tt) rfl ?_)
 show ZJ (ZK prog w) _ (if (Kf tt == Kg)=ZC then _ else _) _ _ s
 rw[if_neg (show ¬((Kf tt == Kg)=ZC)by exact J7)]
 show ZJ (ZK prog w) _ (field (.ref it) 1 >>= _) _ _ s
 refine Jy (Kd g1 g3 (x:=.int k 0) rfl ?_)
 show ZJ (ZK prog w) _ (seqItems? (.ref tt) >>= _) _ _ s
 refine Jy (KD k1 k3 ?_)
 simp only[hx,Kl];refine Jy (Mb (Jy (Ox g1 g3 (by simp) ?_)))
 show ZJ (ZK prog w) _ (newExc (.type "StopIteration") [] >>= _) _ _ _
 refine Jy ?_
 simp only[newTuple,newExc];refine Jy (Lj ?_ (by size_fits))
 refine Jy (m:=firstArgMember _ _) (NB (a:=Kg) (by first| (simp only[firstArgMember];rfl)|rfl) ?_)
 refine Lj ?_ (by size_fits)
 simp only[raiseNew];refine Jy (wpAny_handled ?_)
 first|rw[hh]|rw[show A.in1.handled=ZB from hh]
 refine Jy (JK (wpAny_throw ?_))
 refine hE _ _ (((Qi ..).extBut.push _).push _) ⟨_,JP _ rfl,rfl⟩
def tupDraws(hh:A.handled=ZB)(it tt:ZE)(hne:tt≠it)(its:Array JD):
  Draws prog w A it [it,tt] its.size (λi v=>its[i]?=ZA v) (λi h=>h.IsTupleIter it tt i/\h.IsTuple tt its) where
 live:=λ_ _ st=>by obtain⟨o,ho,_⟩:=st.1;exact⟨o,ho⟩
 frame:=λ_ _ _ st hk=>by
  obtain⟨⟨o,e,r⟩,⟨o',e',r'⟩⟩:=st;exact⟨⟨o,hk it (by simp) o e,r⟩,⟨o',hk tt (by simp) o' e',r'⟩⟩
 item:=λi s Q E hi st hQ=>by
  refine tupNext st.1 st.2 (x:=its[i]) (by simp[hi]) λh' hit' hs'=>?_
  obtain⟨o',e',r'⟩:=st.2;exact hQ _ h' s.toks (by simp[hi]) ⟨hit',⟨o',(hs'.2 tt hne).trans e',r'⟩⟩ hs'
 done:=λs Q E st hE=>tupStop hh st.1 st.2 (by simp) hE
def newT(l:ZE)(items:Array JD)(n:Nat)(dct:Option ZE)(sl:Array (Option JD)):
  Meets (Builtin.«enumerate.__new__» ⟨[.type "enumerate",.ref l],[]⟩) (λ_ R s=>s.heap.get? l=ZA {cls:=.type "tuple",dict:=dct,data:=.seq items n,slots:=sl} ∧
   R (.ok (.ret (.ref (s.heap.push {cls:=.type "tuple_iterator",data:=.fields #[.ref l,.int 0 0]}).objs.size)))
    {s with heap:=(s.heap.push {cls:=.type "tuple_iterator",data:=.fields #[.ref l,.int 0 0]}).push {cls:=.type "enumerate",data:=.fields #[.none,.bool ZD,.ref s.heap.objs.size,rawInt 0,.none,.none]}}):=
 .of_wp λprog w A R s h=>by
  obtain⟨hp,g,d,tk,os⟩:=s;obtain⟨hl,h⟩:=h
  have hsub:=sub_enumerate
  have hT:Heap.IsTuple (OU ⟨hp,g,d,tk,os⟩) l items:=⟨_,hl,rfl,n,rfl⟩
  wp_walk using Mc hl
  refine wpAny_stack_any λst=>JK ?_
  split
  ·rename_i c _ _ _ _ _
   cases (c == MG "enumerate")
   ·wp_walk using Mc hl,LX hT
    exact⟨_,rfl,h⟩
   ·wp_walk using Mc hl,LX hT
    exact⟨_,rfl,h⟩
  ·wp_walk using Mc hl,LX hT
   exact⟨_,rfl,h⟩
def callT{l:ZE}{items:Array JD}(hL:s.heap.IsTuple l items)
  (h:∀h',IsEnum h' (s.heap.objs.size+1) s.heap.objs.size 0 .none->h'.IsTupleIter s.heap.objs.size l 0->h'.objs.size=s.heap.objs.size+2 →
   (∀b o,s.heap.get? b=ZA o->h'.get? b=ZA o)->Q (.ref (s.heap.objs.size+1)) {s with heap:=h'}):ZJ (ZK prog w) A (call (.type "enumerate") [.ref l]) Q E s:=by
 obtain⟨⟨cc,dc,dd,ss⟩,hl,hc,n,hd⟩:=hL
 replace hc:cc=.type "tuple":=hc
 replace hd:dd=.seq items n:=hd
 subst hc hd;refine RH F.called_enumerate (by decide) (F.typeCall_enumerate_1 _) (F.newCall_enumerate_1 _) (λobj=>F.args_object_init_2 obj _) F.entry_enumerate_new (newT l items n dc ss) ⟨hl,?_⟩
 have hz:(s.heap.push {cls:=.type "tuple_iterator",data:=.fields #[.ref l,.int 0 0]}).objs.size=s.heap.objs.size+1:=Kv ..
 show _/\_
 rw[hz]
 have he:IsEnum ((s.heap.push {cls:=.type "tuple_iterator",data:=.fields #[.ref l,.int 0 0]}).push
   {cls:=.type "enumerate",data:=.fields #[.none,.bool ZD,.ref s.heap.objs.size,rawInt 0,.none,.none]}) (s.heap.objs.size+1) s.heap.objs.size 0 .none:=by
  have q:=JP (s.heap.push {cls:=.type "tuple_iterator",data:=.fields #[.ref l,.int 0 0]})
   (o:={cls:=.type "enumerate",data:=.fields #[.none,.bool ZD,.ref s.heap.objs.size,rawInt 0,.none,.none]}) rfl
  rw[hz]at q;exact q
 refine⟨⟨_,he,rfl⟩,h _ he ⟨_,JA _ (JP _ rfl),rfl,rfl⟩ (by rw[Kv,hz]) λb o x=>JA _ (JA _ x)⟩
end Enu
namespace L2
open PySem PySem.Spec PyProof.Rows
variable{X:Cx}{fp:List ZE}{h':ZH}
section
variable {ca:V3}{σ:L2.St}{H:Hp}
def Inv.IP{Tp:ZE}{xs:List V}(I:Inv X ca σ H s)(hf:∀b∈fp,gZ X ca H b)(k:∀b o,b∉fp->s.heap.get? b=ZA o->h'.get? b=ZA o)
  (ht:∀b∈fp,∃o,h'.get? b=ZA o) (hT:s.heap.objs.size<=Tp) (new:ObjOk X.prog X.w (upd H Tp (.tup xs)) h' Tp (.tup xs)):Inv X ca σ (upd H Tp (.tup xs)) {s with heap:=h',toks:=t'}:=by
 have hn:H Tp=ZB:=I.hok.fresh hT
 have neT:∀b o,s.heap.get? b=ZA o->b≠Tp:=λb o e=>K6 (JS (JM e) hT)
 have nf:∀b u,H b=ZA u->b∉fp:=λb u e z=>by rw[(hf b z).1]at e;cases e
 refine I.step (g':=s.gens) (d':=s.drawn) (ch:=fp) (λb hb=>⟨(hf b hb).2.2.2.1,(hf b hb).2.1,(hf b hb).2.2.2.2.1,(hf b hb).2.2.2.2.2⟩) (λb o _ _ hc e _=>k b o hc e) (λb o _ _ hc e _=>⟨o.slots,k b o hc e⟩)
  (λb o _ e n=>by rw[aM (neT b o e)];exact n) (λb o hc e=>⟨o,k b o hc e⟩) (λb ys e=>by rw[aM (bX e hn)];exact e) (λb o u e=>by rw[aM (bX e hn)];exact e)
  (λb ps e=>⟨#[],by rw[aM (bX e hn),e];simp⟩) (λm hm=>?_) (λb u e=>?_) I.bare
 ·obtain⟨o,es,ep,ho,r⟩:=hm
  exact⟨o,es,ep,k _ o (λz=>(hf _ z).2.1 rfl) ho,r⟩
 ·by_cases hb:b=Tp
  ·subst hb;rw[aZ]at e;cases e;exact new
  ·rw[aM hb]at e
   refine(I.hok b u e).IA (λc v hc q=>k c v ?_ q) (λc q=>by rw[aM (bX q hn)];exact q) λc ys q=>by rw[aM (bX q hn)];exact q
   rcases hc with z|z
   ·rw[z];exact nf b u e
   ·exact nf c _ z
def Inv.Ir(I:Inv X ca σ H s)(hf:∀b∈fp,gZ X ca H b)(k:∀b o,b∉fp->s.heap.get? b=ZA o->h'.get? b=ZA o):Inv X ca σ H {s with heap:=h',toks:=t'}:=by
 have nf:∀b u,H b=ZA u->b∉fp:=λb u e z=>by rw[(hf b z).1]at e;cases e
 refine I.step (g':=s.gens) (d':=s.drawn) (ch:=fp) (λb hb=>⟨(hf b hb).2.2.2.1,(hf b hb).2.1,(hf b hb).2.2.2.2.1,(hf b hb).2.2.2.2.2⟩) (λb o _ _ hc e _=>k b o hc e) (λb o _ _ hc e _=>⟨o.slots,k b o hc e⟩)
  (λb o _ e n=>n) (λb o hc e=>⟨o,k b o hc e⟩) (λb ys e=>e) (λb o u e=>e)
  (λb ps e=>⟨#[],by rw[e];simp⟩) (λm hm=>?_) (λb u e=>?_) I.bare
 ·obtain⟨o,es,ep,ho,r⟩:=hm
  exact⟨o,es,ep,k _ o (λz=>(hf _ z).2.1 rfl) ho,r⟩
 ·refine(I.hok b u e).IA (λc v hc q=>k c v ?_ q) (λc q=>q) λc ys q=>q
  rcases hc with z|z
  ·rw[z];exact nf b u e
  ·exact nf c _ z
end
def mX(K:Jz)(H:Hp)(a:ZE)(tt:Bool)(xs:List V):Prop:=if tt then SqT K H a xs else SqL K H a xs
def Im(K:Jz)(a:ZE)(tt:Bool):It:=
 ⟨λi H=>∃xs x,mX K H a tt xs/\xs[i]?=ZA x,λi H x H'=>∃p v,x=.ref p/\H p=ZB/\H'=upd H p (.tup [.int (i:Nat),v])/\∀xs,mX K H a tt xs->xs[i]?=ZA v,λi H=>∃xs,mX K H a tt xs/\xs.length<=i⟩
def itAt(tt:Bool)(h:ZH)(it a:ZE)(i:Nat):Prop:=if tt then h.IsTupleIter it a i else h.IsListIter it a i
variable{h:ZH}
def itAt.obj{tt:Bool}{it a:ZE}(st:itAt tt h it a i):∃o,h.get? it=ZA o/\∀v,o.data≠ .cell v:=by
 cases tt with
 |true=>obtain⟨o,e,c,d⟩:=(show h.IsTupleIter it a i from st);exact⟨o,e,λv z=>by rw[d]at z;cases z⟩
 |false=>obtain⟨o,e,c,d⟩:=(show h.IsListIter it a i from st);exact⟨o,e,λv z=>by rw[d]at z;cases z⟩
def itAt.keep{tt:Bool}{it a:ZE}(st:itAt tt h it a i)(k:∀o,h.get? it=ZA o->h'.get? it=ZA o):itAt tt h' it a i:=by
 cases tt with
 |true=>obtain⟨o,e,r⟩:=(show h.IsTupleIter it a i from st);exact(show h'.IsTupleIter it a i from⟨o,k o e,r⟩)
 |false=>obtain⟨o,e,r⟩:=(show h.IsListIter it a i from st);exact(show h'.IsListIter it a i from⟨o,k o e,r⟩)
variable{elts:List ZG}
def vH{pos:Pos}(tt:Bool)(a e it:ZE)(hei:e≠it):
  wI P w K (.Tuple elts kk pos) (Im K a tt) [e,it] e (λi h=>(∃old,IsEnum h e it i old)/\itAt tt h it a i) where
 mem:=by simp
 obj:=λi h st b hb=>by
  obtain⟨⟨old,he⟩,hi⟩:=st;rcases JL.mp hb with rfl|hb
  ·exact⟨_,he,λv z=>by have z':Se _=Qx v:=z;cases z'⟩
  ·rw[JY.mp hb];exact hi.obj
 keep:=λi h h' st k=>by
  obtain⟨⟨old,he⟩,hi⟩:=st;exact⟨⟨old,k e (by simp) _ he⟩,hi.keep λo q=>k it (by simp) o q⟩
 item:=by
  intro X hP hw hK hc i ca s σ H E I hf st hg;subst hP hw hK;obtain⟨xs,x,hq,hx⟩:=hg;obtain⟨⟨old,he⟩,hi⟩:=st
  have key:∀(its:List JD),Vals xs its->(∀ys,mX X.K H a tt ys->ys=xs)->∀(fp0:List ZE)(St:Nat->ZH->Prop),Draws X.prog X.w X.A.in1 it fp0 its.toArray.size (λi v=>its.toArray[i]?=ZA v) St->e∉fp0->it∈fp0->St i s.heap →
    (∀h',St (i+1) h'->itAt tt h' it a (i+1)) →
    ZJ (ZK X.prog X.w) X.A (pyNext (.ref e)) (λr s1=>∃u,r=ZA u/\ZJ (ZK X.prog X.w) X.A (Ma (.Tuple elts kk pos) (.ref e) u) (λ_ s2=>∃x' H',Inv X ca σ H' s2/\RelV x' u/\(Im X.K a tt).yld i H x' H' ∧
     ((∃old,IsEnum s2.heap e it (i+1:Nat) old)/\itAt tt s2.heap it a (i+1))/\∀b∈ [e,it],H' b=ZB) E s1) E s:=by
   intro its rv uniq fp0 St D hef hif hst hnext;obtain⟨u,hu,ru⟩:=rv.get hx
   have hlt:i<its.toArray.size:=by
    have:=(Kb.mp hu).1
    simpa using this
   have W:=WalksT.enumerateD D e hei hef hif;refine W.item i s _ _ hlt ⟨⟨old,he⟩,hst⟩ λTp vals h1 tk hPt hTsz hTup hMid hk=>⟨.ref Tp,rfl,?_⟩
   refine W.go elts kk pos i Tp {s with heap:=h1,toks:=tk} _ _ hMid λh2 hst2 hk2=>?_
   obtain⟨t,x',hPx,hvals⟩:=hPt;subst hvals
   have hxe:x'=u:=by
    have h1':its.toArray[i]?=ZA x':=hPx
    have h2':its.toArray[i]?=ZA u:=by simpa using hu
    rw[h1']at h2';exact Kn h2'
   subst hxe
   have hTw:=W.apart i Tp h1 hMid;obtain⟨oT,eT,rT⟩:=hTup
   have eT2:h2.get? Tp=ZA oT:=hk2 Tp oT hTw eT
   have kAll:∀b o,b∉ [e,it]->s.heap.get? b=ZA o->h2.get? b=ZA o:=λb o hb q=>hk2 b o hb (hk b o hb q)
   obtain⟨⟨old2,he2⟩,hs2⟩:=hst2
   have hit2:=hnext h2 hs2
   have there:∀b∈ [e,it],∃o,h2.get? b=ZA o:=λb hb=>by
    rcases JL.mp hb with rfl|hb
    ·exact⟨_,he2⟩
    ·rw[JY.mp hb];obtain⟨o,q,_⟩:=hit2.obj;exact⟨o,q⟩
   have hn:H Tp=ZB:=I.hok.fresh hTsz
   have new:ObjOk X.prog X.w (upd H Tp (.tup [.int (i:Nat),x])) h2 Tp (.tup [.int (i:Nat),x]):=
    ⟨by show 2<=ZI;decide,[.int (i:Nat) t,x'],.cons ⟨t,rfl⟩ (.cons ru .nil),⟨oT,eT2,rT⟩⟩
   have I2:=I.IP (t':=tk) hf kAll there hTsz new;refine⟨.ref Tp,_,I2,rfl,⟨Tp,x,rfl,hn,rfl,λys hy=>by rw[uniq ys hy];exact hx⟩,⟨⟨old2,he2⟩,hit2⟩,λb hb=>?_⟩
   have hbT:b≠Tp:=λz=>by
    obtain⟨o,q⟩:∃o,s.heap.get? b=ZA o:=by
     rcases JL.mp hb with rfl|hb
     ·exact⟨_,he⟩
     ·rw[JY.mp hb];obtain⟨o,q,_⟩:=hi.obj;exact⟨o,q⟩
    exact absurd (JS (JM q) hTsz) (by rw[z];exact J3 _)
   rw[aM hbT];exact(hf b hb).1
  have hne:∀b∈ [e,it],a≠b:=λb hb z=>by
   have hb':=(hf b hb).1;rw[<-z]at hb'
   have hbs:=hf b hb
   cases tt with
   |true=>
    have hq':SqT X.K H a xs:=hq;rcases hq' with(q|⟨o,q⟩)|⟨o,its,n,q,_⟩
    ·rw[hb']at q;cases q
    ·rw[hb']at q;cases q
    ·rcases hbs.2.2.2.1 with z1|z1
     ·exact I.ok.noex a o (I.ok.mod.kin a o q) (z▸z1)
     ·exact absurd (JS (JM (I.ok.bs a o (I.ok.mod.kin a o q)).1) (z▸z1)) (J3 _)
   |false=>
    have hq':SqL X.K H a xs:=hq;rcases hq' with(q|⟨o,q⟩)|⟨o,its,n,q,_⟩
    ·rw[hb']at q;cases q
    ·rw[hb']at q;cases q
    ·rcases hbs.2.2.2.1 with z1|z1
     ·exact I.ok.noex a o (I.ok.mod.kin a o q) (z▸z1)
     ·exact absurd (JS (JM (I.ok.bs a o (I.ok.mod.kin a o q)).1) (z▸z1)) (J3 _)
  have hea:e≠a:=λz=>hne e (by simp) z.symm
  have hia:it≠a:=λz=>hne it (by simp) z.symm
  cases tt with
  |true=>
   have hq':SqT X.K H a xs:=hq;obtain⟨its,rv,p,hz⟩:=I.tuple hq'
   exact key its rv (λys hy=>I.IB hy hq') _ _ (Enu.tupDraws (A:=X.A.in1) (I.ok.hd hc) it a (MV hia) its.toArray) (by simp[hei,hea]) (by simp) ⟨hi,p⟩ λh' z=>z.1
  |false=>
   have hq':SqL X.K H a xs:=hq;obtain⟨its,rv,p,hz⟩:=I.list hq';exact key its rv (λys hy=>I.ID hy hq') _ _ (Draws.list (A:=X.A.in1) (I.ok.hd hc) it a (MV hia) its.toArray) (by simp[hei,hea]) (by simp) ⟨hi,p.isList⟩ λh' z=>z.1
 done:=by
  intro X hP hw hK hc i ca s σ H E I hf st hg;subst hP hw hK;obtain⟨xs,hq,hx⟩:=hg;obtain⟨⟨old,he⟩,hi⟩:=st
  have fin:∀h',Sg it s.heap h'->(ZB:Option JD)=ZB/\Inv X ca σ H {s with heap:=h'}:=λh' eb=>⟨rfl,I.Ir (t':=s.toks) hf λb o hb q=>eb b o (λz=>hb (by simp[z])) q⟩
  cases tt with
  |true=>
   have hq':SqT X.K H a xs:=hq;obtain⟨its,rv,p,hz⟩:=I.tuple hq'
   have hl:=rv.length
   have hnone:its.toArray[i]?=ZB:=by simp;omega
   have hT:s.TypeIs (.ref e) "enumerate":=⟨_,he,rfl⟩;unfold pyNext;refine Jy (Nm (Ku (name:=JN "__next__") hT Pq (KZ Pq hT F.entry_enumerate_next ?_ (F.args_enumerate_next_1 _))))
   show ZJ (ZK X.prog X.w) _ (field (.ref e) 2 >>= _) _ _ _
   refine Jy (Kd he rfl (x:=.ref it) rfl ?_)
   refine Jy (Enu.tupStop (I.ok.hd hc) hi p hnone λh' x he' hx'=>?_)
   obtain⟨o,ho,hcl⟩:=hx'
   exact Jy (Pd (T:="StopIteration") (b:=ZC) ⟨o,ho,hcl⟩ Qe (JK (fin h' he')))
  |false=>
   have hq':SqL X.K H a xs:=hq;obtain⟨its,rv,p,hz⟩:=I.list hq'
   have hl:=rv.length
   have hnone:its.toArray[i]?=ZB:=by simp;omega
   exact wpAny_pyNext_enum_end (I.ok.hd hc) he hi p.isList hnone fin
 self:=λ_ _ _ _ _ st h=>by
  obtain⟨⟨old,he⟩,_⟩:=st;exact Rw he h
section
variable {tpos:Pos}
def mP:Ke "enumerate" =ZA (.type "enumerate"):=by decide+kernel
def iEnu(K:Jz)(tl:TA):TI:=λσ H R=>tl σ H λvs H1=>∃a tt,vs=[.ref a]/\(∃xs,mX K H1 a tt xs)/\R (Im K a tt) H1
def A8{l:ZG}{tl:TA}{p pos:Pos}(hg:Gl X "enumerate")(hm:X.mg "enumerate" =ZB)(hl:PA X [l] tl)(hs:autoParam (JZ [l] X.env=[(ZD,eval l X.env)]) u_):PI X (.Tuple elts kk tpos) (.Call (.Name "enumerate" p) [l] [] pos) (iEnu X.K tl):=by
 intro ca s σ H R I h;refine Call_ (eg I hg hm mP (KG (bN (hl pos ca s σ H _ I h) λus s1 ⟨vs,H1,I1,r1,q1⟩=>?_) hs rfl))
 obtain⟨a,tt,e,⟨xs,hq⟩,q⟩:=q1;subst e;obtain⟨u,rfl,ru⟩:=lP r1;cases ru
 have fin:∀h',IsEnum h' (s1.heap.objs.size+1) s1.heap.objs.size 0 .none->itAt tt h' s1.heap.objs.size a 0->h'.objs.size=s1.heap.objs.size+2->(∀b o,s1.heap.get? b=ZA o->h'.get? b=ZA o) →
   ZJ (ZK X.prog X.w) X.A (pyIter (.ref (s1.heap.objs.size+1))) (PIE X ca σ (.Tuple elts kk tpos) R) X.xe {s1 with heap:=h'}:=λh' he hi hsz hk=>by
  refine Rw he ?_
  have I2:Inv X ca σ H1 {s1 with heap:=h'}:=I1.kept (t':=s1.toks) hk
  refine⟨s1.heap.objs.size+1,[s1.heap.objs.size+1,s1.heap.objs.size],_,_,H1,rfl,I2,vH tt a (s1.heap.objs.size+1) s1.heap.objs.size (Nat.succ_ne_self _),⟨⟨_,he⟩,hi⟩,λb hb=>?_,q⟩
  rcases JL.mp hb with rfl|hb
  ·exact I1.IH (by omega) (I1.hok.fresh (by omega))
  ·rw[JY.mp hb];exact I1.IH (JO _) (I1.hok.fresh (JO _))
 cases tt with
 |true=>
  have hq':SqT X.K H1 a xs:=hq;obtain⟨its,rv,pl,hz⟩:=I1.tuple hq'
  exact Enu.callT pl λh' he hi hsz hk=>fin h' he hi hsz hk
 |false=>
  have hq':SqL X.K H1 a xs:=hq;obtain⟨its,rv,pl,hz⟩:=I1.list hq';exact call_enumerate_list pl.isList λh' he hi hsz hk=>fin h' he hi hsz hk
end
end L2
namespace Tr
open PySem PySem.Spec PyProof.Rows L2
section
variable {X:Cx}{a:ZG}{fa:V6}{fs:V4}{p pos:Pos}
def iS(f:V6)(ρ:En):Rs (List T):=do
 let x <-f ρ
 match x with
 |.lst l=>.ok l
 |.tup l=>.ok l
 |_=>.bad
def DG{tg:ZG}(ha:cy X a fa):wR X tg a (iS fa):=by
 intro ca s σ H R I ⟨ρ,O,E,h⟩;unfold iS at h
 cases q:fa ρ with
 |bad=>rw[q]at h;exact h.elim
 |err c=>exact ur ha ca s σ H R I ⟨ρ,O,E,by unfold iL;rw[q]at h ⊢;exact h⟩
 |ok x=>
  rw[q,aA]at h
  cases x with
  |lst l=>exact ur ha ca s σ H R I ⟨ρ,O,E,by unfold iL;rw[q];exact h⟩
  |tup l=>exact DF ha ca s σ H R I ⟨ρ,O,E,by unfold iT;rw[q];exact h⟩
  |_=>exact h.elim
def bO:Nat->List T->List T
 |_,[] =>[]
 |n,t::r=>.tup [.int n,t] ::bO (n+1) r
theorem oh:∀(l:List T)(n i:Nat),(bO n l)[i]?=(l[i]?).map λt=>T.tup [.int ((n+i:Nat):Int),t]
 |[],n,i=>by simp[bO]
 |t::l,n,0=>by simp[bO]
 |t::l,n,i+1=>by
  rw[bO,Ml,oh l (n+1) i,Ml]
  congr 2
  funext t
  congr 4
  omega
theorem og:∀(l:List T)(n:Nat),(bO n l).length=l.length
 |[],n=>rfl
 |t::l,n=>by rw[bO,JJ,JJ,og l]
def iE(f:V4)(ρ:En):Rs (List T):=do
 let xs <-f ρ
 match xs with
 |[x] =>match x.items with
  |some l=>.ok (bO 0 l)
  |none=>.bad
 |_=>.bad
def AO{elts:List ZG}{tpos:Pos}(hm:X.mg "enumerate" =ZB)(ha:qu X [a] fs)(hg:autoParam (Gl X "enumerate") u_)(hs:autoParam (JZ [a] X.env=[(ZD,eval a X.env)]) u_):
  wR X (.Tuple elts kk tpos) (.Call (.Name "enumerate" p) [a] [] pos) (iE fs):=PI.imp (A8 hg hm ha hs) λσ H R hh_=>by
 obtain⟨ρ,O,E,h⟩:=hh_;obtain⟨ρ1,O1,E1,h1⟩:=dR E h;refine⟨ρ1,O1,E1,Post.mono h1 λts H1 s1 q vs r=>?_⟩
 obtain⟨t',r',s',E',q'⟩:=q vs r
 split at q'
 ·rename_i x0
  obtain⟨v,rfl,rv⟩:=r'.one
  split at q'
  ·rename_i l hl
   have main:∀(aa:ZE)(tt:Bool)(ws:List V),v=.ref aa->¬ O aa->Reps X.K O H1 l ws->mX X.K H1 aa tt ws->(∀P Hc,SameO P H1 Hc->¬ P aa->mX X.K Hc aa tt ws)->¬ Nw X.K H1 aa →
     ∃a tt,[v]=[V.ref a]/\(∃xs,mX X.K H1 a tt xs)/\R (Im X.K a tt) H1:=λaa tt ws e n z sq mv nn=>by
    refine⟨aa,tt,by rw[e],⟨ws,sq⟩,q' H1 (Same.refl H1) _ λP O' hP hO i Hc hsm htr=>?_⟩
    have hnP:¬ P aa:=λy=>(hP aa y).elim n nn
    have sqc:=mv P Hc hsm hnP;refine⟨λhi=>⟨ws,sqc,by rw[<-z.length,<-og l 0];exact hi⟩,λt ht=>?_⟩
    rw[oh]at ht
    cases e1:l[i]? with
    |none=>rw[e1]at ht;cases ht
    |some t0=>
     rw[e1]at ht;cases ht;obtain⟨v0,f1,f2⟩:=z.get e1;refine⟨⟨ws,v0,sqc,f1⟩,λx Hc' y=>?_⟩
     obtain⟨pp,vv,e2,hpn,e3,hy⟩:=y
     have:=hy ws sqc;rw[f1]at this;cases this;subst e2 e3;refine⟨aV hpn _,dS hpn (λzz=>?_) (Reps.GE (by simpa using Rep.Iv _) (Reps.GE (f2.move hP hO hsm) Reps.GT))⟩
     obtain⟨o,w⟩:=htr pp zz;rw[hpn]at w;cases w
   cases x0 with
   |tup m=>
    cases hl;obtain⟨aa,ws,e,n,qq,z⟩:=Rep.FB.mp rv
    exact main aa ZC ws e n z (show SqT X.K H1 aa ws from SqT.of qq) (λP Hc hsm hn=>show SqT X.K Hc aa ws from SqT.of (hsm _ _ qq hn)) λw=>by rw[w.1]at qq;cases qq
   |lst m=>
    cases hl;obtain⟨aa,ws,e,n,qq,z⟩:=Rep.Fk.mp rv
    exact main aa ZD ws e n z (show SqL X.K H1 aa ws from SqL.of qq) (λP Hc hsm hn=>show SqL X.K Hc aa ws from SqL.of (hsm _ _ qq hn)) λw=>by rw[w.1]at qq;cases qq
   |scr m=>
    cases hl;unfold Rep at rv;obtain⟨aa,e,n,qq⟩:=rv
    exact main aa ZD _ e n Reps.ints (show SqL X.K H1 aa _ from qq) (λP Hc hsm hn=>show SqL X.K Hc aa _ from Tr.SqL.keep hsm hn qq) (Tr.SqL.nn qq)
   |_=>cases hl
  ·exact q'.elim
 ·exact q'.elim
end
end Tr
namespace Tm
open PySem PyProof.Rows
def kA:fillsNumberSlot (.type "tuple") "mul" =pure ZD:=
 PySem.fillsNumberSlot_seq (id:="tuple.__mul__") (r:=ZA (.builtin "tuple.__rmul__")) O9.lookup (by decide+kernel) Rm.lookup (by decide+kernel)
def pk:seqRepeat? (.type "tuple")=pure (ZA (.builtin "tuple.__mul__")):=by
 unfold seqRepeat?;rw[RQ (T:="tuple") (name:="__mul__") (id:="tuple.__mul__") O9.lookup (by decide+kernel),RQ (T:="tuple") (name:="__rmul__") (id:="tuple.__rmul__") Rm.lookup (by decide+kernel)]
 rfl
def sR(a:Int)(t:Tok)(l:ZE)(items:Array JD)(n:Nat)(dd:Option ZE)(sl:Array (Option JD)):
  Meets (Builtin.«int.__rmul__» ⟨[.int a t,.ref l],[]⟩) (λ_ R s=>s.heap.get? l=ZA {cls:=.type "tuple",dict:=dd,data:=.seq items n,slots:=sl}/\R (.ok (.ret Value.notImplemented)) s):=
 .of_wp λprog w A R s h=>by obtain⟨hp,g,d,tk,os⟩:=s;obtain⟨hl,h⟩:=h;wp_walk;exact⟨_,rfl,h⟩
open AutoSeq1 (wpAny_loadPart')
def yw(l:ZE)(items:Array JD)(n:Nat)(dd:Option ZE)(sl:Array (Option JD))(x:Int)(u:Tok)(h1:1<x)(h2:x<2 ^ 31)(hne:items.isEmpty=ZD)(hz:items.size*x.toNat<=ZI)
  (hz2:(OG (λa b=>a++b) #[] (J9 x.toNat items)).size<=ZI):
  Meets (Builtin.«tuple.__mul__» ⟨[.ref l,.int x u],[]⟩) (λ_ R s=>s.heap.get? l=ZA {cls:=.type "tuple",dict:=dd,data:=.seq items n,slots:=sl} ∧
   R (.ok (.ret (Kf s.heap.objs.size))) {s with heap:=s.heap.push {cls:=MG "tuple",data:=Data.seq (OG (λa b=>a++b) #[] (J9 x.toNat items))}}):=
 .of_wp λprog w A R s h=>by
  obtain⟨hp,g,d,tk,os⟩:=s;obtain⟨hl,h⟩:=h
  have hT:SA hp l items:=⟨_,hl,rfl,n,rfl⟩
  have hx:((items.size:Nat):Int)*x=((items.size*x.toNat:Nat):Int):=by
   have e:x=((x.toNat:Nat):Int):=by omega
   rw[Int.natCast_mul,<-e]
  wp_walk using Mc hl
  rw[if_neg (by simp;omega)]
  refine Jy (Q6 (s:=⟨hp,g,d,tk,os⟩) hT ?_)
  dsimp only
  rw[if_neg (by rw[hne];simp;omega),if_neg (by rw[hne];simp;omega),hx,if_neg (by have:(ZI:Nat)<=1000000000:=(by decide);omega),if_neg (by unfold Builtin.Tuple.tupleTooMany;rw[decide_eq_true_iff];omega)]
  refine Jy (m:=Ly _) (Lj ?_ hz2)
  exact JK ⟨_,rfl,h⟩
def mul_tuple{t:ZE}{k:Int}{tk:Tok}(ht:SA s.heap t vs.toArray)(h1:1<k)(h2:k<2 ^ 31)(hv:vs≠ [])(hz:vs.length*k.toNat<=ZI)
  (h:Q (.ref s.heap.objs.size) {s with heap:=s.heap.push {cls:=.type "tuple",data:=.seq (J9 k.toNat vs).flatten.toArray}}):
  ZJ (ZK prog w) A (Lz .Mult (.ref t) (.int k tk)) Q E s:=by
 obtain⟨⟨cls,dd,data,sl⟩,ho,hc,n,hd⟩:=id ht;simp only at hc hd;subst hc hd
 have e:OG (λa b=>a++b) #[] (J9 k.toNat vs.toArray)=(J9 k.toNat vs).flatten.toArray:=by
  have q:=L2.foldl_rep vs k.toNat []
  simpa using q
 refine Ou (T:="tuple") (U:="int") (by decide) ⟨_,ho,rfl⟩ (λs'=>PU s' k tk) kA Sf NW pk RN.lookup
  (Ms NW (PU s k tk) RO (Rk _ _) (sR k tk t vs.toArray n dd sl)
   ⟨ho,rfl,⟨_,ho,rfl⟩,Ms O9 ⟨_,ho,rfl⟩ F.entry_tuple_mul (F.args_tuple_mul_2 _ _) (yw t vs.toArray n dd sl k tk h1 h2 (by simpa using hv) (by simpa using hz) (by rw[e,J0,L2.len_rep,Ry];exact hz)) ⟨ho,?_⟩⟩)
 rw[e];exact h
end Tm
namespace Tr
open PySem PySem.Spec PyProof.Rows L2
variable{X:Cx}
def cz(x y:T):Rs T:=match x,y with
 |.tup l,.int k=>if 1<k/\k<2 ^ 31/\l≠ []/\l.length*k.toNat<=ZI then .ok (.tup (J9 k.toNat l).flatten)else .bad
 |x,y=>tj x y
instance (l:List T):Decidable (l≠ []):=by cases l <;> simp <;> infer_instance
def dB:OpT X (Lz .Mult) cz:=by
 intro ca s σ H O x y vx vy ux uy Q I hf rx ry r1 r2 hp;unfold cz at hp
 split at hp
 ·rename_i l k
  split at hp
  ·rename_i h
   obtain⟨a,vs,e1,n1,q1,z1⟩:=Rep.FB.mp rx;subst e1;cases Rep.Do.mp ry;cases r1;obtain⟨tk,rfl⟩:=r2;obtain⟨its,rv,pl,hz⟩:=I.tuple (SqT.of q1)
   have hl1:=z1.length
   have hl2:=rv.length
   have hne:its≠ []:=λz=>h.2.2.1 (List.eq_nil_of_length_eq_zero (by rw[hl1,hl2,z];rfl))
   refine Tm.mul_tuple pl h.1 h.2.1 hne (by rw[<-hl2,<-hl1];exact h.2.2.2) ?_
   have hn:=I.hok.fresh (JO _);refine⟨.ref _,_,I.laid (t':=s.toks) (o:=.tup (J9 k.toNat vs).flatten) (λb ob q=>JA _ q) (JO _) ?_,rfl,hp _ (aV hn _) _ (dS hn (hf _ hn) (z1.rep _))⟩
   refine⟨?_,_,rv.rep k.toNat,Qz _ _⟩
   rw[len_rep,Ry,<-hl1];exact h.2.2.2
  ·exact hp.elim
 ·exact Ed ca s σ H O _ _ vx vy ux uy Q I hf rx ry r1 r2 hp
def Bv(outer:List (Str×Mv))(N:List Str)(names:List (Str×Mv))(N':List Str)(src:List (Option Nat)):Bool:=
 names.all (λy=>y.2 != .cell||names.lookup y.1 == ZA .cell)&&names.all (λy=>y.2 != .local||names.lookup y.1 == ZA .local)&&src.length == N'.length&&
 (KS N'.length).all (λj=>match src[j]? with
  |some (ZA i)=>match N'[j]? with
   |some x=>N[i]? == ZA x&&names.lookup x == ZA .free
   |none=>ZC
  |_=>ZC)&&
 names.all (λy=>y.2 != .free||(outer.lookup y.1 == ZA .cell||outer.lookup y.1 == ZA .free))
variable{N:List Str}
theorem LcScope.by{N':List Str}{src:List (Option Nat)}{names:List (Str×Mv)}(hN:X.N=N)(hs:X.env.scope.names=names)(hk:scope.kind=.function)(h:Bv names N scope.names N' src=ZC):LcScope X scope N' src:=by
 unfold Bv at h;simp only[JH]at h;obtain⟨⟨⟨⟨h1,h2⟩,h3⟩,h4⟩,h5⟩:=h
 have a1:=J4.mp h1
 have a2:=J4.mp h2
 have a4:=J4.mp h4
 have a5:=J4.mp h5;refine⟨hk,λy hy hl=>by have:=a1 y hy;rw[hl]at this;simpa using this,λy hy hl=>?_,by simpa using h3,λj i x e1 e2=>?_,λx hx=>?_⟩
 ·have:=a2 y hy
  rw[hl]at this
  simpa using this
 ·have hj:j<N'.length:=(Kb.mp e2).1
  have:=a4 j (Lu.mpr hj);rw[e1]at this;simp only[e2]at this;rw[JH]at this;rw[hN];exact⟨by simpa using this.1,by simpa using this.2⟩
 ·have:=a5 _ hx
  simp only[bne_self_eq_false,QH,Bool.or_eq_true]at this
  show X.env.scope.names.lookup x=_\/X.env.scope.names.lookup x=_
  rw[hs];rcases this with z|z
  ·exact .inl (by simpa using z)
  ·exact .inr (by simpa using z)
def bx:ZG->Bool
 |.Starred .. =>ZD
 |_=>ZC
def aW:List ZG->Bool
 |[] =>ZC
 |e::r=>bx e&&aW r
variable{e:ZG}{env:Env}{es:List ZG}
def a7(h:bx e=ZC):JZ (e::es) env=(ZD,eval e env)::JZ es env:=by
 cases e <;> first|rfl|cases h
theorem dy{pos:Pos}{env:Env}:∀{es:List ZG},aW es=ZC->(backTo pos (JZ es env)).any (·.1)=ZD
 |[],_=>rfl
 |e::r,h=>by
  unfold aW at h;rw[JH]at h;rw[a7 h.1]
  have ih:=dy (pos:=pos) (env:=env) h.2
  show(ZD||(backTo pos (JZ r env)).any (·.1))=ZD
  rw[ih];rfl
variable{a:ZG}{f fa:V6}{g:List T->Rs T}{ps:List Str}{x:Str}
section
variable {b:ZG}{fs:V4}{pos p p2:Pos}
def qa_c{g:V4}(he:cy X e f)(hr:qu X es g)(hn:autoParam (bx e=ZC) u_):qu X (e::es) (ae f g):=AS he hr (a7 hn)
def q_cB{id:String}(hc:CallT X (.builtin id) g)(hm:X.mg x=ZB)(hv:Ke x=ZA (.builtin id))(ha:qu X (e::es) fs)(hn:autoParam (aW (e::es)=ZC) u_)(hg:autoParam (Gl X x) u_)(h1:autoParam (x≠ "__name__") s_)(h2:autoParam ((x == ("__debug__" : Str))=ZD) s_):
  cy X (.Call (.Name x p) (e::es) [] pos) (cl g fs):=by
 unfold aW at hn;rw[JH]at hn;exact AW hc hm hv ha hg h1 h2 (a7 hn.1) (dy hn.2)
def q_cT(hc:CallT X (.type Ty) g)(hm:X.mg x=ZB)(hv:Ke x=ZA (.type Ty))(ha:qu X (e::es) fs)(hn:autoParam (aW (e::es)=ZC) u_)(hg:autoParam (Gl X x) u_)(h1:autoParam (x≠ "__name__") s_)(h2:autoParam ((x == ("__debug__" : Str))=ZD) s_):
  cy X (.Call (.Name x p) (e::es) [] pos) (cl g fs):=by
 unfold aW at hn;rw[JH]at hn;exact xR hc hm hv ha hg h1 h2 (a7 hn.1) (dy hn.2)
def q_c{f:ZE}(F:FO X.prog X.w X.K X.mg X.base k f fd ps n g)(hr:Room k X.A)(hm:X.mg x=ZA (.ref f))(hk:Mp X.K (.ref f)=ZC)(hb:Binds X.K fd ps [])
  (hl:∀ρ ts,fs ρ=.ok ts->ts.length=n) (ha:qu X (e::es) fs) (hps:autoParam (ps.length=n) u_) (hn:autoParam (aW (e::es)=ZC) u_) (hg:autoParam (Gl X x) u_) (h2:autoParam ((x == ("__debug__" : Str))=ZD) s_):cy X (.Call (.Name x p) (e::es) [] pos) (cl g fs):=by
 unfold aW at hn;rw[JH]at hn;exact DM F hr hm hk hb hps hl ha hg h2 (a7 hn.1) (dy hn.2)
def q_is{tn:Str}(hm:X.mg "isinstance" =ZB)(hmt:X.mg tn=ZB)(hv:Ke tn=ZA (.type Ty))(ha:cy X a fa)(hn:autoParam (bx a=ZC) u_)(hg:autoParam (Gl X "isinstance") u_)(hgt:autoParam (Gl X tn) u_)
  (h1:autoParam (tn≠ "__name__") s_) (h2:autoParam ((tn == ("__debug__" : Str))=ZD) s_):cy X (.Call (.Name "isinstance" p) [a,.Name tn p2] [] pos) (o1 (z6 Ty) fa):=
 GL hm hmt hv ha hg hgt h1 h2 (a7 hn) (dy rfl) (a7 rfl)
end
def CM(ρ:En)(ts:List T)(h:ai ρ=.ok ts):ts.length=0:=by cases h;rfl
def CL{g:V4}(hg:∀ρ ts,g ρ=.ok ts->ts.length=n)(ρ:En)(ts:List T)(h:ae f g ρ=.ok ts):ts.length=n+1:=by
 unfold ae at h
 cases q:f ρ with
 |bad=>rw[q]at h;cases h
 |err c=>rw[q]at h;cases h
 |ok t=>
  rw[q,aA]at h
  cases q2:g ρ with
  |bad=>rw[q2]at h;cases h
  |err c=>rw[q2]at h;cases h
  |ok r=>
   rw[q2,aA]at h;cases h;rw[JJ,hg ρ r q2]
def i9(h:Room k A):A.units+60<cLine:=by have:=h.un;omega
def Hu(h:Room k A):A.units+61<cLine:=by have:=h.un;omega
structure Fn (K:Jz)(mg:V0)(x:Str)(st:ZF)(ps:List Str)(f:ZE)(fd:KO):Prop where
 fn:L2.Fun K x x st f fd
 bd:Binds K fd ps []
 mg:mg x=ZA (.ref f)
def val(n m:Nat)(F:V5)(ts:List T):Rs T:=if ts.length=n then bA F (aK m ts)else .bad
variable{ts:List T}
def xb{m:Nat}{F:V5}{t:T}(h:val n m F ts=.ok t):bA F (aK m ts)=.ok t:=by
 unfold val at h
 split at h
 ·exact h
 ·cases h
variable{H:Hp}
def sp_script{a:ZE}{E:XK}(hS:SqL K H a (ns.map V.int))(h:g [.scr ns]=.ok (.bl ZC)):spP K 1 g [.ref a] H (λv _=>v=.bl ZC) E:=by
 refine⟨[.scr ns],λ_=>False,Reps.GE ?_ Reps.GT,λ_ z=>z.elim,rfl,?_⟩
 ·unfold Rep;exact⟨a,rfl,λz=>z,hS⟩
 ·rw[h];exact λv H' _ r=>Rep.Gc.mp r
def qV{l:List α}{z:α}(h:l[i]?=ZA z):l.set i z=l:=by
 obtain⟨hi,rfl⟩:=Kb.mp h
 exact List.set_getElem_self hi
def Mn.set(M:Mn)(i:Nat)(m:Ow):Mn:=λj=>if j=i then m else M j
variable{M:Mn}{m:Ow}
def Mn.IJ{a:ZE}(h:(M.set i m).u a):m a\/M.u a:=by
 obtain⟨j,h⟩:=h;unfold Mn.set at h
 by_cases z:j=i
 ·rw[if_pos z]at h;exact .inl h
 ·rw[if_neg z]at h;exact .inr ⟨j,h⟩
def Mn.Je:M.set i m i=m:=by unfold Mn.set;rw[if_pos rfl]
def Mn.IL(h:j≠i):M.set i m j=M j:=by unfold Mn.set;rw[if_neg h]
variable{H':Hp}{O O':Ow}
theorem RowsR.move{P:Ow}(hP:∀a,P a->O a\/Nw K H a)(hO:∀a,O' a->O a\/Nw K H a)(h:SameO P H H'):∀{rs:List (List T×List T)}{as:List ZE},(∀b∈as,¬P b)->RowsR K O H rs as->RowsR K O' H' rs as
 |[],_,_,r=>r
 |_::_,_,hb,⟨b,bs,kvs,e1,e2,e3,e4,e5⟩=>by
  subst e1;exact⟨b,bs,kvs,rfl,h _ _ e2 (hb b JI),e3,e4.move hP hO h,e5.move hP hO h λc hc=>hb c (JF _ hc)⟩
theorem LsR.move{P:Ow}(hP:∀a,P a->O a\/Nw K H a)(hO:∀a,O' a->O a\/Nw K H a)(h:SameO P H H'):∀{rs:List (List T)}{as:List ZE},(∀b∈as,¬P b)->LsR K O H rs as->LsR K O' H' rs as
 |[],_,_,r=>r
 |_::_,_,hb,⟨b,bs,vs,e1,e2,e4,e5⟩=>by
  subst e1;exact⟨b,bs,vs,rfl,h _ _ e2 (hb b JI),e4.move hP hO h,e5.move hP hO h λc hc=>hb c (JF _ hc)⟩
variable{v:V}
theorem ORep.move{P M:Ow}{o:OT}(hP:∀a,P a->O a\/Nw K H a)(hO:∀a,O' a->O a\/Nw K H a)(h:SameO P H H')(hM:∀a,M a->¬ P a)(r:ORep K O M H o v):ORep K O' M H' o v:=by
 cases o with
 |lst l=>obtain⟨a,vs,e1,e2,e3,e4⟩:=r;exact⟨a,vs,e1,e2,h _ _ e3 (hM a ((e2 a).mpr rfl)),e4.move hP hO h⟩
 |dct ks ts=>obtain⟨a,kvs,e1,e2,e3,e4,e5⟩:=r;exact⟨a,kvs,e1,e2,h _ _ e3 (hM a ((e2 a).mpr rfl)),e4,e5.move hP hO h⟩
 |dd ks rows=>
  obtain⟨a,kvs,as,e1,e2,e3,e4,e5,e6,e7,e8⟩:=r
  exact⟨a,kvs,as,e1,e2,e3,e4,h _ _ e5 (hM a ((e2 a).mpr (.inl rfl))),e6,e7,e8.move hP hO h λb hb=>hM b ((e2 b).mpr (.inr hb))⟩
 |ob C ns ls=>
  obtain⟨a,dx,as,e1,e2,e3,e4,e5,e6,e7,e8⟩:=r
  exact⟨a,dx,as,e1,e2,e3,h _ _ e4 (hM a ((e2 a).mpr (.inl rfl))),h _ _ e5 (hM dx ((e2 dx).mpr (.inr (.inl rfl)))),e6,e7,e8.move hP hO h λb hb=>hM b ((e2 b).mpr (.inr (.inr hb)))⟩
 |ll ls=>
  obtain⟨a,as,e1,e2,e3,e4,e5,e6⟩:=r;exact⟨a,as,e1,e2,e3,e4,h _ _ e5 (hM a ((e2 a).mpr (.inl rfl))),e6.move hP hO h λb hb=>hM b ((e2 b).mpr (.inr hb))⟩
theorem RowsR.mtb:∀{rs:List (List T×List T)}{as:List ZE},RowsR K O H rs as->∀b∈as,∃kvs,H b=ZA (.dT kvs)
 |[],_,r,b,hb=>by unfold RowsR at r;subst r;simp at hb
 |_::_,_,⟨b0,bs,kvs,e1,e2,e3,e4,e5⟩,b,hb=>by
  subst e1;rcases JL.mp hb with rfl|hb
  ·exact⟨kvs,e2⟩
  ·exact e5.mtb b hb
theorem LsR.mtb:∀{rs:List (List T)}{as:List ZE},LsR K O H rs as->∀b∈as,∃vs,H b=ZA (.lst vs)
 |[],_,r,b,hb=>by unfold LsR at r;subst r;simp at hb
 |_::_,_,⟨b0,bs,kvs,e1,e2,e4,e5⟩,b,hb=>by
  subst e1;rcases JL.mp hb with rfl|hb
  ·exact⟨kvs,e2⟩
  ·exact e5.mtb b hb
def LO(H:Hp)(a:ZE):Prop:=(∃vs,H a=ZA (.lst vs))\/∃o,H a=ZA o/\isO o=ZC
def OT.isD:OT->Bool
 |.lst _=>ZD
 |.ob _ _ _=>ZD
 |.ll _=>ZD
 |_=>ZC
def ORep.kind{M:Ow}{o:OT}(r:ORep K O M H o v):∀a,M a->if o.isD then ∃kvs,H a=ZA (.dT kvs)else LO H a:=λa z=>by
 cases o with
 |lst l=>obtain⟨b,vs,e1,e2,e3,e4⟩:=r;cases (e2 a).mp z;exact .inl ⟨vs,e3⟩
 |dct ks ts=>obtain⟨b,kvs,e1,e2,e3,e4,e5⟩:=r;cases (e2 a).mp z;exact⟨kvs,e3⟩
 |dd ks rows=>
  obtain⟨b,kvs,as,e1,e2,e3,e4,e5,e6,e7,e8⟩:=r
  rcases(e2 a).mp z with z|z
  ·cases z;exact⟨kvs,e5⟩
  ·exact e8.mtb a z
 |ob C ns ls=>
  obtain⟨b,dx,as,e1,e2,e3,e4,e5,e6,e7,e8⟩:=r
  rcases(e2 a).mp z with z|z|z
  ·cases z;exact .inr ⟨_,e4,rfl⟩
  ·cases z;exact .inr ⟨_,e5,rfl⟩
  ·exact .inl (e8.mtb a z)
 |ll ls=>
  obtain⟨b,as,e1,e2,e3,e4,e5,e6⟩:=r
  rcases(e2 a).mp z with z|z
  ·cases z;exact .inl ⟨_,e5⟩
  ·exact .inl (e6.mtb a z)
def ORep.mtb{M:Ow}{o:OT}(r:ORep K O M H o v)(a:ZE)(z:M a):Mtb H a:=by
 have:=r.kind a z
 split at this
 ·exact .inr (.inl this)
 ·exact this.imp_right .inr
theorem qY:∀{rs:List (List T×List T)}{as:List ZE},(∀b∈as,¬O b)->RowsR K O H rs as->Reps K O H (rs.map λr=>T.dct r.1 r.2) (as.map V.ref)
 |[],_,_,r=>by unfold RowsR at r;subst r;exact Reps.GT
 |_::_,_,hn,⟨b,bs,kvs,e1,e2,e3,e4,e5⟩=>by
  subst e1;exact Reps.GE (Rep.Iq.mpr ⟨b,kvs,rfl,hn b JI,.inl e2,e3,e4⟩) (qY (λc hc=>hn c (JF _ hc)) e5)
theorem RowsR.less(sub:∀a,O' a->O a):∀{rs:List (List T×List T)}{as:List ZE},RowsR K O H rs as->RowsR K O' H rs as
 |[],_,r=>r
 |_::_,_,⟨b,bs,kvs,e1,e2,e3,e4,e5⟩=>⟨b,bs,kvs,e1,e2,e3,e4.less sub,e5.less sub⟩
theorem LsR.less(sub:∀a,O' a->O a):∀{rs:List (List T)}{as:List ZE},LsR K O H rs as->LsR K O' H rs as
 |[],_,r=>r
 |_::_,_,⟨b,bs,kvs,e1,e2,e4,e5⟩=>⟨b,bs,kvs,e1,e2,e4.less sub,e5.less sub⟩
theorem LsR.rep:∀{rs:List (List T)}{as:List ZE},(∀b∈as,¬O b)->LsR K O H rs as->Reps K O H (rs.map T.lst) (as.map V.ref)
 |[],_,_,r=>by unfold LsR at r;subst r;exact Reps.GT
 |_::_,_,hn,⟨b,bs,kvs,e1,e2,e4,e5⟩=>by
  subst e1;exact Reps.GE (Rep.Fk.mpr ⟨b,kvs,rfl,hn b JI,e2,e4⟩) (LsR.rep (λc hc=>hn c (JF _ hc)) e5)
theorem oO:∀{l:List α}{m:List β},l.length=m.length->(l.zip m).map (·.1)=l
 |[],[],_=>rfl
 |a::l,b::m,h=>by
  have h':l.length=m.length:=by simpa using h
  show a::(l.zip m).map (·.1)=_
  rw[oO h']
theorem oN:∀{l:List α}{m:List β},l.length=m.length->(l.zip m).map (·.2)=m
 |[],[],_=>rfl
 |a::l,b::m,h=>by
  have h':l.length=m.length:=by simpa using h
  show b::(l.zip m).map (·.2)=_
  rw[oN h']
theorem ORep.rep{M:Ow}{o:OT}(sub:∀a,O' a->O a)(hn:∀a,M a->¬ O' a)(r:ORep K O M H o v):Rep K O' H o.view v:=by
 cases o with
 |lst l=>obtain⟨a,vs,e1,e2,e3,e4⟩:=r;exact Rep.Fk.mpr ⟨a,vs,e1,hn a ((e2 a).mpr rfl),e3,e4.less sub⟩
 |dct ks ts=>obtain⟨a,kvs,e1,e2,e3,e4,e5⟩:=r;exact Rep.Iq.mpr ⟨a,kvs,e1,hn a ((e2 a).mpr rfl),.inl e3,e4,e5.less sub⟩
 |dd ks rows=>
  obtain⟨a,kvs,as,e1,e2,e3,e4,e5,e6,e7,e8⟩:=r;refine Rep.Iq.mpr ⟨a,kvs,e1,hn a ((e2 a).mpr (.inl rfl)),.inl e5,e6,?_⟩
  rw[e7]
  exact qY (λb hb=>hn b ((e2 b).mpr (.inr hb))) (e8.less sub)
 |ob C ns ls=>
  obtain⟨a,dx,as,e1,e2,e3,e4,e5,e6,e7,e8⟩:=r
  have hl:ns.length=(as.map V.ref).length:=by rw[JE];exact e6
  refine Rep.IT.mpr ⟨a,dx,_,e1,⟨⟨hn a ((e2 a).mpr (.inl rfl)),hn dx ((e2 dx).mpr (.inr (.inl rfl))),e5⟩,as,oN hl,e3.1,e3.2.1,e3.2.2.1,e3.2.2.2,by rw[oO hl];exact e7⟩,e4,oO hl,?_⟩
  rw[oN hl]
  exact(e8.less sub).rep λb hb=>hn b ((e2 b).mpr (.inr (.inr hb)))
 |ll ls=>
  obtain⟨a,as,e1,e2,e3,e4,e5,e6⟩:=r;exact Rep.Fk.mpr ⟨a,_,e1,hn a ((e2 a).mpr (.inl rfl)),e5,(e6.less sub).rep λb hb=>hn b ((e2 b).mpr (.inr hb))⟩
variable{B:Ow}{ρ:En}{σ:L2.St}
section
variable {o o':OT}
def Ev.new(E:Ev K B M H ρ σ)(hl:i<ρ.length)(hm:∀a,m a->Nw K H a)(s:Same H H')(r:ORep K (OO B (M.set i m)) m H' o v):
  Ev K B (M.set i m) H' (ρ.set i (.ow o)) (σ.set i (ZA v))/\∀a,(M.set i m).u a->M.u a\/Nw K H a:=by
 have hls:i<σ.length:=by rw[<-E.env.len];exact hl
 have sub:∀a,(M.set i m).u a->M.u a\/Nw K H a:=λa z=>(Mn.IJ z).elim (λw=>.inr (hm a w)) .inl
 have subO:∀a,OO B (M.set i m) a->OO B M a\/Nw K H a:=λa z=>z.elim (λw=>.inl (.inl w)) λw=>(sub a w).elim (λy=>.inl (.inr y)) .inr
 have cI:∀a,Nw K H a->¬ OO B M a:=λa w z=>by
  obtain⟨o,e⟩:=(E.env.trk a z).some;rw[w.1]at e;cases e
 refine⟨⟨⟨by rw[Ll,Ll];exact E.env.len,λj t e=>?_,λj o' e=>?_,λj a z=>.inr ⟨j,z⟩,λj k a z1 z2=>?_,λa z=>?_⟩,λa z=>?_⟩,sub⟩
 ·by_cases hj:i=j
  ·subst hj;rw[Kk hl]at e;cases e
  ·rw[Ki hj]at e
   obtain⟨w,e1,e2⟩:=E.env.val j t e;exact⟨w,by rw[Ki hj];exact e1,(e2.more subO).same s⟩
 ·by_cases hj:i=j
  ·subst hj
   rw[Kk hl]at e
   cases e;exact⟨v,Kk hls,by rw[Mn.Je];exact r⟩
  ·rw[Ki hj]at e
   obtain⟨w,e1,e2⟩:=E.env.own j o' e;refine⟨w,by rw[Ki hj];exact e1,?_⟩
   rw[Mn.IL (λz=>hj z.symm)]
   exact(e2.move (P:=vW) (λ_ z=>z.elim) subO (λb u q _=>q) λ_ _ z=>z).same s
 ·unfold Mn.set at z1 z2
  by_cases hj:j=i
  ·by_cases hk:k=i
   ·exact hj.trans hk.symm
   ·rw[if_pos hj]at z1;rw[if_neg hk]at z2
    exact(cI a (hm a z1) (.inr ⟨k,z2⟩)).elim
  ·by_cases hk:k=i
   ·rw[if_neg hj]at z1;rw[if_pos hk]at z2
    exact(cI a (hm a z2) (.inr ⟨j,z1⟩)).elim
   ·rw[if_neg hj]at z1;rw[if_neg hk]at z2
    exact E.env.dis j k a z1 z2
 ·rcases z with z|z
  ·exact(E.env.trk a (.inl z)).same s
  ·rcases Mn.IJ z with w|w
   ·exact r.mtb a w
   ·exact(E.env.trk a (.inr w)).same s
 ·intro hb
  rcases Mn.IJ z with w|w
  ·exact cI a (hm a w) (.inl hb)
  ·exact E.mine a w hb
def Ev.put(E:Ev K B M H ρ σ)(hi:ρ[i]?=ZA (.ow o))(hs:σ[i]?=ZA (ZA v))(s:SameO (M i) H H')(r:ORep K (OO B M) (M i) H' o' v):Ev K B M H' (ρ.set i (.ow o')) σ/\SameO M.u H H':=by
 have hl:i<ρ.length:=(Kb.mp hi).1
 have inO:∀a,M i a->OO B M a\/Nw K H a:=λa z=>.inl (.inr ⟨i,z⟩)
 have idO:∀a,OO B M a->OO B M a\/Nw K H a:=λa z=>.inl z
 refine⟨⟨⟨by rw[Ll];exact E.env.len,λj t e=>?_,λj o2 e=>?_,E.env.sub,E.env.dis,λa z=>?_⟩,E.mine⟩,λb u e n=>s b u e λz=>n ⟨i,z⟩⟩
 ·by_cases hj:i=j
  ·subst hj;rw[Kk hl]at e;cases e
  ·rw[Ki hj]at e
   obtain⟨w,e1,e2⟩:=E.env.val j t e;exact⟨w,e1,e2.move inO idO s⟩
 ·by_cases hj:i=j
  ·subst hj
   rw[Kk hl]at e
   cases e;exact⟨v,hs,r⟩
  ·rw[Ki hj]at e
   obtain⟨w,e1,e2⟩:=E.env.own j o2 e;exact⟨w,e1,e2.move inO idO s λa z y=>hj (E.env.dis i j a y z)⟩
 ·by_cases hz:M i a
  ·exact r.mtb a hz
  ·exact(E.env.trk a z).at λo e=>s _ _ e hz
def disown(i:Nat)(ρ:En):En:=match ρ[i]? with
 |some (.ow o)=>ρ.set i (.va o.view)
 |_=>ρ
theorem EnvM.disown(E:EnvM K O M H ρ σ)(i:Nat)(sub:∀a,O' a->O a)(hn:∀a,M i a->¬ O' a)(hin:∀j a,j≠i->M j a->O' a):EnvM K O' (M.set i vW) H (disown i ρ) σ:=by
 have base:EnvM K O' (M.set i vW) H (ρ.set i (match ρ[i]? with|some (.ow o)=>.va o.view|some x=>x|none=>.em)) σ:=by
  refine⟨by rw[Ll];exact E.len,λj t e=>?_,λj o e=>?_,λj a z=>?_,λj k a z1 z2=>?_,λa z=>E.trk a (sub a z)⟩
  ·by_cases hj:i=j
   ·subst hj
    by_cases hl:i<ρ.length
    ·rw[Kk hl]at e
     cases q:ρ[i]? with
     |none=>rw[q]at e;cases e
     |some z=>
      rw[q]at e
      cases z with
      |em=>cases e
      |va t'=>cases e;obtain⟨w,e1,e2⟩:=E.val i _ q;exact⟨w,e1,e2.less sub⟩
      |ow o=>cases e;obtain⟨w,e1,e2⟩:=E.own i _ q;exact⟨w,e1,e2.rep sub hn⟩
    ·rw[NH (by rw[Ll];omega)]at e;cases e
   ·rw[Ki hj]at e
    obtain⟨w,e1,e2⟩:=E.val j t e;exact⟨w,e1,e2.less sub⟩
  ·by_cases hj:i=j
   ·subst hj
    by_cases hl:i<ρ.length
    ·rw[Kk hl]at e
     cases q:ρ[i]? with
     |none=>rw[q]at e;cases e
     |some z=>
      rw[q]at e
      cases z with
      |em=>cases e
      |va t'=>cases e
      |ow o=>cases e
    ·rw[NH (by rw[Ll];omega)]at e;cases e
   ·rw[Ki hj]at e
    obtain⟨w,e1,e2⟩:=E.own j o e;refine⟨w,e1,?_⟩
    rw[Mn.IL (λz=>hj z.symm)]
    exact e2.move (P:=vW) (λ_ z=>z.elim) (λa z=>.inl (sub a z)) (λb u q _=>q) λ_ _ z=>z
  ·unfold Mn.set at z
   by_cases hj:j=i
   ·rw[if_pos hj]at z;exact z.elim
   ·rw[if_neg hj]at z;exact hin j a hj z
  ·unfold Mn.set at z1 z2
   by_cases hj:j=i
   ·rw[if_pos hj]at z1;exact z1.elim
   ·by_cases hk:k=i
    ·rw[if_pos hk]at z2;exact z2.elim
    ·rw[if_neg hj]at z1;rw[if_neg hk]at z2;exact E.dis j k a z1 z2
 unfold Tr.disown
 cases q:ρ[i]? with
 |none=>rw[q,List.set_eq_of_length_le (List.getElem?_eq_none_iff.mp q)]at base;exact base
 |some z=>
  rw[q]at base
  cases z with
  |em=>rw[qV q]at base;exact base
  |va t=>rw[qV q]at base;exact base
  |ow o=>exact base
theorem Ev.disown(E:Ev K B M H ρ σ)(i:Nat):Ev K B (M.set i vW) H (disown i ρ) σ/\∀a,(M.set i vW).u a->M.u a:=by
 have sub:∀a,(M.set i vW).u a->M.u a:=λa z=>(Mn.IJ z).elim (λw=>w.elim) id
 refine⟨⟨E.env.disown i (λa z=>z.elim .inl λw=>.inr (sub a w)) (λa z y=>?_) λj a hj z=>.inr ⟨j,by rw[Mn.IL hj];exact z⟩,λa z=>E.mine a (sub a z)⟩,sub⟩
 rcases y with y|⟨j,y⟩
 ·exact E.mine a ⟨i,z⟩ y
 ·unfold Mn.set at y
  by_cases hj:j=i
  ·rw[if_pos hj]at y;exact y
  ·rw[if_neg hj]at y;exact hj (E.env.dis j i a y z)
end
variable{apos cpos:Pos}{st:ZF}
section
variable {pos p2 p3:Pos}
def Ev.subO(hm:∀a,m a->Nw K H a)(a:ZE)(z:OO B (M.set i m) a):OO B M a\/Nw K H a:=
 z.elim (λw=>.inl (.inl w)) λw=>(Mn.IJ w).elim (λy=>.inr (hm a y)) λy=>.inl (.inr y)
def Bm{H1:Hp}(s:Same H H1){a:ZE}(n:Nw K H1 a):Nw K H a:=(eZ (SameO.of (P:=vW) s) n).elim (λz=>z.elim) id
def Gb(X:Cx)(t:TA):TE:=λσ H Q=>t σ H λxs H1=>xs.length<=ZI/\∀p,Nw X.K H1 p->Q (.ref p) (upd H1 p (.lst xs))
def Bb{t:TA}(h:PA X es t):PE X (.List es pos) (Gb X t):=by
 intro ca s σ H Q I hq;refine QZ (bN (h pos ca s σ H _ I hq) λus s1 ⟨xs,H1,I1,r,z,q⟩=>⟨by rw[<-r.length];exact z,?_⟩)
 have hf:H1 s1.heap.objs.size=ZB:=I1.hok.fresh (JO _)
 have hk:X.K.lookup s1.heap.objs.size=ZB:=by
  cases q:X.K.lookup s1.heap.objs.size with
  |none=>rfl
  |some o=>exact absurd (JM (I1.kIn _ o q)) (J3 _)
 refine⟨.ref s1.heap.objs.size,upd H1 s1.heap.objs.size (.lst xs),I1.laid (t':=s1.toks) (λb u e=>JA _ e) (JO _) ?_,rfl,q _ ⟨hf,hk⟩⟩
 exact⟨z,us,0,r,JP _ rfl⟩
def jg(i:Nat)(f:V4)(ρ:En):Rs Fl:=do
 let l <-f ρ
 if i<ρ.length/\l.length<=ZI then .ok (.nx (ρ.set i (.ow (.lst l))))else .bad
def AG(i:Nat){f:V4}(hN:X.N.Nodup)(ha:qu X es f)(hi:autoParam (X.N[i]?=ZA x) u_)(hx:autoParam (Loc X.env.scope x) y_)(hs:autoParam (Lx (.List es p2) (ZA (.Name x p3)) pos.line X.env=pure ZD) u_)
  (hf:autoParam (X.fn x=ZC\/X.env.scope.names.lookup x=ZA .local) r_):qt X (.Assign [.Name x p3] (.List es p2) pos) (jg i f):=PS.imp (xV hN hi hx (Bb ha) hs hf) λD σ H hh_=>by
 obtain⟨ρ,B,M,E,h⟩:=hh_;refine⟨ρ,OO B M,E.o,?_⟩
 unfold jg at h
 cases q:f ρ with
 |bad=>rw[q]at h;exact h.elim
 |err c=>rw[q]at h;exact PostF.xa h
 |ok l=>
  rw[q,aA]at h;intro H1 s1 vs rs
  by_cases hl:i<ρ.length/\l.length<=ZI
  ·rw[if_pos hl]at h
   refine⟨by rw[<-rs.length];exact hl.2,λp hp=>?_⟩
   have hm:∀a,a=p->Nw X.K H1 a:=λa z=>z▸hp
   obtain⟨E2,sub⟩:=(E.same s1).new (m:=λa=>a=p) (o:=.lst l) (v:=.ref p) (H':=upd H1 p (.lst vs)) hl.1 hm (aV hp.1 _) ⟨p,vs,rfl,λb=>NX,aZ,(rs.more (Ev.subO hm)).same (aV hp.1 _)⟩
   exact h _ _ _ (SameO.of (s1.trans (aV hp.1 _))) E2 λa z=>(sub a z).imp_right (Bm s1)
  ·rw[if_neg hl]at h
   exact h.elim
def nh(i:Nat)(f:V6)(ρ:En):Rs Fl:=match ρ[i]? with
 |some (.ow (.lst l))=>f ρ >>= λt=>if l.length<ZI then .ok (.nx (ρ.set i (.ow (.lst (l++[t])))))else .bad
 |_=>.bad
def Ev.putL{o:OT}{l':List T}{b:ZE}{vs':List V}(E:Ev K B M H ρ σ)(hi:ρ[i]?=ZA (.ow o))(hs:σ[i]?=ZA (ZA (.ref b)))(hM:∀c,M i c↔c=b)(r:Reps K (OO B M) H l' vs'):
  Ev K B M (upd H b (.lst vs')) (ρ.set i (.ow (.lst l'))) σ/\SameO M.u H (upd H b (.lst vs')):=by
 have sm:SameO (M i) H (upd H b (.lst vs')):=λc u e nb=>by rw[aM (λz=>nb ((hM c).mpr z))];exact e
 exact E.put hi hs sm ⟨b,vs',rfl,hM,aZ,r.move (P:=M i) (λa z=>.inl (.inr ⟨i,z⟩)) (λa z=>.inl z) sm⟩
def DC(i:Nat)(ha:cy X a fa)(hN:autoParam (X.N[i]?=ZA x) u_)(hv:autoParam (vn X.env.scope x) v_)(hn:autoParam (bx a=ZC) u_)
  (hbase:autoParam (Kx (.Name x p2) "append" X.env (eval (.Name x p2) X.env)=eval (.Name x p2) X.env) u_) (hline:autoParam ((apos.endLine == cpos.line)=ZC) u_)
  (hd:autoParam ((x == ("__debug__" : Str))=ZD) s_) (hcd:autoParam ((x == ("__classdict__" : Str))=ZD) s_)
  (hsw:autoParam (Lx (.Call (.Attribute (.Name x p2) "append" apos) [a] [] cpos) ZB pos.line X.env=pure ZD) u_):qt X (.Expr (.Call (.Attribute (.Name x p2) "append" apos) [a] [] cpos) pos) (nh i fa):=by
 have h1:JZ [a] X.env=(ZD,eval a X.env)::JZ [] X.env:=a7 hn;refine PS.imp (pz (Cy Nb PySem.F.slot_list_append PySem.F.type_list_append kC (pA hN hv hd hcd) (iM ha lY h1) hbase ?_ hline h1 rfl) hsw) λD σ H ⟨ρ,B,M,E,h⟩=>?_
 ·rw[h1];rfl
 unfold nh at h
 split at h
 ·rename_i l hl
  obtain⟨v0,e1,b,vs,rfl,hM,e3,e4⟩:=E.env.own i _ hl;refine⟨.ref b,e1,.inl ⟨rfl,vs,SqL.of e3⟩,ρ,OO B M,E.o,?_⟩
  cases q:fa ρ with
  |bad=>rw[q]at h;exact h.elim
  |err c=>rw[q]at h;exact PostF.xa h
  |ok t=>
   rw[q,aA]at h
   split at h
   ·rename_i hz
    intro H1 s1 v r
    have e3':=s1 _ _ e3;refine⟨b,vs,v,rfl,rfl,e3',by rw[<-e4.length];exact hz,?_⟩
    obtain⟨g1,g2⟩:=(E.same s1).putL (l':=l++[t]) (vs':=vs++[v]) hl e1 hM ((e4.same s1).append (Reps.GE r Reps.GT));exact h σ _ M (λc o e nb=>g2 c o (s1 _ _ e) nb) g1 λc z=>.inl z
   ·exact h.elim
 ·exact h.elim
def EX(i:Nat)(l:List T)(ρ:En):T->Rs Fl
 |.lst m=>if l.length+m.length<=ZI then .ok (.nx (ρ.set i (.ow (.lst (l++m)))))else .bad
 |_=>.bad
def lX(i:Nat)(f:V6)(ρ:En):Rs Fl:=match ρ[i]? with
 |some (.ow (.lst l))=>f ρ >>= EX i l ρ
 |_=>.bad
def Dy(i:Nat)(ha:cy X a fa)(hN:autoParam (X.N[i]?=ZA x) u_)(hv:autoParam (vn X.env.scope x) v_)(hn:autoParam (bx a=ZC) u_)
  (hbase:autoParam (Kx (.Name x p2) "extend" X.env (eval (.Name x p2) X.env)=eval (.Name x p2) X.env) u_) (hline:autoParam ((apos.endLine == cpos.line)=ZC) u_)
  (hd:autoParam ((x == ("__debug__" : Str))=ZD) s_) (hcd:autoParam ((x == ("__classdict__" : Str))=ZD) s_)
  (hsw:autoParam (Lx (.Call (.Attribute (.Name x p2) "extend" apos) [a] [] cpos) ZB pos.line X.env=pure ZD) u_):qt X (.Expr (.Call (.Attribute (.Name x p2) "extend" apos) [a] [] cpos) pos) (lX i fa):=by
 have h1:JZ [a] X.env=(ZD,eval a X.env)::JZ [] X.env:=a7 hn;refine PS.imp (pz (Cy Nb PySem.F.slot_list_extend PySem.F.type_list_extend vX (pA hN hv hd hcd) (iM ha lY h1) hbase ?_ hline h1 rfl) hsw) λD σ H ⟨ρ,B,M,E,h⟩=>?_
 ·rw[h1];rfl
 unfold lX at h
 split at h
 ·rename_i l hl
  obtain⟨v0,e1,b,vs,rfl,hM,e3,e4⟩:=E.env.own i _ hl;refine⟨.ref b,e1,.inl ⟨rfl,vs,SqL.of e3⟩,ρ,OO B M,E.o,?_⟩
  cases q:fa ρ with
  |bad=>rw[q]at h;exact h.elim
  |err c=>rw[q]at h;exact PostF.xa h
  |ok t=>
   rw[q,aA]at h;unfold EX at h
   split at h
   ·rename_i m
    split at h
    ·rename_i hz
     intro H1 s1 v r;obtain⟨c,ws,rfl,nO,hc,rm⟩:=Rep.Fk.mp r
     have e3':=s1 _ _ e3;refine⟨b,c,vs,ws,rfl,rfl,e3',hc,by rw[<-e4.length,<-rm.length];exact hz,?_⟩
     obtain⟨g1,g2⟩:=(E.same s1).putL (l':=l++m) (vs':=vs++ws) hl e1 hM ((e4.same s1).append rm);exact h σ _ M (λc o e nb=>g2 c o (s1 _ _ e) nb) g1 λc z=>.inl z
    ·exact h.elim
   ·exact h.elim
 ·exact h.elim
def pj(i:Nat)(F:V5)(ρ:En):Rs Fl:=F (disown i ρ)
def Dz(i:Nat){F:V5}(h:qt X st F):qt X st (pj i F):=PS.imp h λD σ H hh_=>by
 obtain⟨ρ,B,M,E,q⟩:=hh_;obtain⟨E',sub⟩:=E.disown i;exact⟨disown i ρ,B,_,E',PostF.later q (λ_ _ e _=>e) λa z=>.inl (sub a z)⟩
mutual
def T.nk(D:Bool):T->Bool
 |.scr _=>ZD
 |.dct _ ts=>!D&&nks D ts
 |.ob _ _ _=>ZD
 |.lst l=>D&&nks D l
 |.tup l=>nks D l
 |_=>ZC
def nks(D:Bool):List T->Bool
 |[] =>ZC
 |t::l=>t.nk D&&nks D l
end
mutual
theorem Rep.lend{K:Jz}{O O':Ow}{H:Hp}{D:Bool}(hk:∀a,O a->O' a\/if D then ∃kvs,Rd H a (.dT kvs)else LO H a):∀{t:T}{v:V},t.nk D=ZC->Rep K O' H t v->Rep K O H t v
 |.non,_,_,r=>by unfold Rep at r ⊢;exact r
 |.bl _,_,_,r=>by unfold Rep at r ⊢;exact r
 |.int _,_,_,r=>by unfold Rep at r ⊢;exact r
 |.str _,_,_,r=>by unfold Rep at r ⊢;exact r
 |.tup l,_,h,r=>by
  unfold Rep at r ⊢;unfold T.nk at h;obtain⟨a,vs,e,n,q,z⟩:=r;refine⟨a,vs,e,λp=>(hk a p).elim n λw=>?_,q,Reps.lend hk h z⟩
  split at w
  ·obtain⟨_,w|⟨_,w⟩⟩:=w <;> rw[q]at w <;> cases w
  ·rcases w with⟨_,w⟩|⟨_,w,y⟩ <;> rw[q]at w <;> cases w <;> cases y
 |.lst l,_,h,r=>by
  unfold Rep at r ⊢;unfold T.nk at h;rw[JH]at h;obtain⟨h1,h2⟩:=h;subst h1;obtain⟨a,vs,e,n,q,z⟩:=r;refine⟨a,vs,e,λp=>(hk a p).elim n λw=>?_,q,Reps.lend hk h2 z⟩
  rw[if_pos rfl]at w;obtain⟨_,w|⟨_,w⟩⟩:=w <;> rw[q]at w <;> cases w
 |.scr l,_,h,r=>by unfold T.nk at h;cases h
 |.dct ks ts,_,h,r=>by
  unfold Rep at r ⊢;unfold T.nk at h;rw[JH]at h;obtain⟨h1,h2⟩:=h
  cases D with
  |true=>cases h1
  |false=>
   obtain⟨a,kvs,e,n,q,k,z⟩:=r;refine⟨a,kvs,e,λp=>(hk a p).elim n λw=>?_,q,k,Reps.lend hk h2 z⟩
   rw[if_neg J7]at w;rcases w with⟨_,w⟩|⟨_,w,y⟩ <;> rcases q with q|⟨_,q⟩ <;> rw[q]at w <;> cases w <;> cases y
 |.ob _ _ _,_,h,r=>by unfold T.nk at h;cases h
theorem Reps.lend{K:Jz}{O O':Ow}{H:Hp}{D:Bool}(hk:∀a,O a->O' a\/if D then ∃kvs,Rd H a (.dT kvs)else LO H a):∀{l:List T}{vs:List V},nks D l=ZC->Reps K O' H l vs->Reps K O H l vs
 |[],_,_,r=>by unfold Reps at r ⊢;exact r
 |t::l,_,h,r=>by
  unfold Reps at r ⊢;unfold nks at h;rw[JH]at h;obtain⟨v,ws,e,p,q⟩:=r;exact⟨v,ws,e,Rep.lend hk h.1 p,Reps.lend hk h.2 q⟩
end
def ln(i:Nat)(f:V6)(ρ:En):Rs T:=match ρ[i]? with
 |some (.ow o)=>f (disown i ρ) >>= λt=>if t.nk o.isD=ZC then .ok t else .bad
 |_=>f ρ
def Et(i:Nat)(f:V7)(ρ:En):Rs Bool:=f (disown i ρ)
def oG(E:EnvM K O M H ρ σ)(i:Nat):EnvM K (λa=>O a/\¬ M i a) (M.set i vW) H (disown i ρ) σ:=
 E.disown i (λa z=>z.1) (λa z y=>y.2 z) λj a hj z=>⟨E.sub j a z,λy=>hj (E.dis j i a z y)⟩
def q_ln(i:Nat)(h:cy X e f):cy X e (ln i f):=PE.imp h λσ H Q ⟨ρ,O,⟨M,E⟩,q⟩=>by
 unfold ln at q
 split at q
 ·rename_i o hi
  refine⟨disown i ρ,_,⟨_,oG E i⟩,?_⟩
  obtain⟨w,e1,r⟩:=E.own i o hi;refine Post.mono (Post.bind q) λt H' s q2 v rv=>?_
  split at q2
  ·rename_i hk
   have kd:=(r.same s).kind;refine q2 H' (Same.refl _) v (Rep.lend (λa z=>?_) hk rv)
   by_cases hm:M i a
   ·refine .inr ?_
    have this:=kd a hm
    by_cases hD:o.isD=ZC
    ·rw[if_pos hD]at this ⊢;exact this.imp λ_ z=>.inl z
    ·rw[if_neg hD]at this ⊢;exact this
   ·exact .inl ⟨z,hm⟩
  ·exact q2.elim
 ·exact⟨ρ,O,⟨M,E⟩,q⟩
def Gy(i:Nat){f:V7}(h:vp X e f):vp X e (Et i f):=PT.imp h λσ H Q ⟨ρ,O,⟨M,E⟩,q⟩=>⟨disown i ρ,_,⟨_,oG E i⟩,q⟩
end
def mK:List T->List T->List Key->Option T
 |k'::ks,v::vs,k=>if keyOf k'=ZA k then ZA v else mK ks vs k
 |_,_,_=>ZB
def gF(k v:T):List T->List T->List T×List T
 |k'::ks,v'::vs=>if keyOf k'=keyOf k then(k'::ks,v::vs)else(k'::(gF k v ks vs).1,v'::(gF k v ks vs).2)
 |_,_=>([k],[v])
def ja(x y:T):Rs T:=match x,keyOf y with
 |.dct ks vs,ZA k=>match mK ks vs k with
  |some t=>.ok t
  |none=>.bad
 |_,_=>.bad
def gY(x y:T):Rs T:=match x,keyOf y with
 |.dct ks vs,ZA k=>match mK ks vs k with
  |some t=>.ok t
  |none=>.ok .non
 |_,_=>.bad
def oD(g:T->T->Rs T)(fa fb:V6)(ρ:En):Rs T:=fa ρ >>= λx=>match x with
 |.dct ks vs=>fb ρ >>= g (.dct ks vs)
 |_=>.bad
def oL(g:T->T->Rs T)(fa fb:V6)(ρ:En):Rs T:=fa ρ >>= λx=>match x with
 |.lst l=>fb ρ >>= g (.lst l)
 |_=>.bad
def FE:List T->Option (List (T×T))
 |[] =>ZA []
 |.tup [k,v] ::l=>match keyOf k,FE l with
  |some _,ZA r=>ZA ((k,v)::r)
  |_,_=>ZB
 |_=>ZB
def fF:List (T×T)->List T×List T->List T×List T
 |[],d=>d
 | (k,v)::r,d=>fF r (gF k v d.1 d.2)
def u7:List T->Rs T
 |[.lst l] =>match FE l with
  |some ps=>if l.length<=1000 then .ok (.dct (fF ps ([],[])).1 (fF ps ([],[])).2)else .bad
  |none=>.bad
 |_=>.bad
def kU:List T->Bool
 |[] =>ZC
 |k::l=>(keyOf k).isSome&&kU l
def nL(i:Nat)(f:V6)(ρ:En):Rs Fl:=f ρ >>= λt=>u7 [t] >>= λd=>match d with
 |.dct ks vs=>if i<ρ.length then .ok (.nx (ρ.set i (.ow (.dct ks vs))))else .bad
 |_=>.bad
def vL(i:Nat)(fk fv:V6)(ρ:En):Rs Fl:=match ρ[i]? with
 |some (.ow (.dct ks vs))=>fv ρ >>= λv=>fk ρ >>= λk=>match keyOf k with
  |some _=>if ks.length<1000 then .ok (.nx (ρ.set i (.ow (.dct (gF k v ks vs).1 (gF k v ks vs).2))))else .bad
  |none=>.bad
 |_=>.bad
def iY(x:T):List T->Nat->Option Nat
 |[],_=>ZB
 |t::l,n=>if aX t x then ZA n else iY x l (n+1)
def fP(y x:T):Rs T:=match y with
 |.lst l=>if (x.dep<=60\/deps l<=60)/\x.nd=ZC/\nds l=ZC then match iY x l 0 with
   |some n=>.ok (.int n)
   |none=>.bad
  else .bad
 |_=>.bad
def iZ(f:V4)(ρ:En):Rs (List T):=f ρ >>= λx=>match x with
 |[a,b] =>match a.items,b.items with
  |some l,ZA m=>.ok ((l.zip m).map λp=>.tup [p.1,p.2])
  |_,_=>.bad
 |_=>.bad
def FU:Nat:=1000000000000
variable{h:ZH}
theorem eG{b b':ZH}:∀{l:List Env},h.FunFrames b l->(∀a∈l.filterMap (·.frame),b'.get? a=ZB)->h.FunFrames b' l
 |[],_,_=>trivial
 |env::br,⟨hk,⟨L,o,hf,hn,ho,hd⟩,hr⟩,q=>by
  rw[KJ,hf]at q;exact⟨hk,⟨L,o,hf,q L JI,ho,hd⟩,eG hr λa ha=>q a (JF _ ha)⟩
variable{C e:ZE}{M:Os}{Q:Unit->JB->Prop}{outer:List Env}
structure zT (fs:List ZE)(C e:ZE)(T:Option ZE)(h h':ZH)(T':ZE):Prop where
 flt:Flt h' C e (ZA T')
 new:T=ZA T'\/h.get? T'=ZB
 keep:∀b o,b∉fs->b≠e->T≠ZA b->h.get? b=ZA o->h'.get? b=ZA o
 slot:∀b o,b∈fs->h.get? b=ZA o->∃sl,h'.get? b=ZA {o with slots:=sl}
def yD{base:ZH}{L:ZE}{T:Option ZE}(hfr:A.frames=ZA (env::outer))(hl:s.heap.FunFrames base (env::outer))(hf:env.frame=ZA L)
  (F:Flt s.heap C e T) (h:∀h' T',zT ((env::outer).filterMap (·.frame)) C e T s.heap h' T'->Q () {s with heap:=h'}):ZJ M A (leaving env (.ref e)) Q E s:=by
 generalize hB:NV s.heap (e::(T.toList++(env::outer).filterMap (·.frame)))=B
 have bm:∀b,b∈e::(T.toList++(env::outer).filterMap (·.frame))->B.get? b=ZB:=λb m=>by rw[<-hB];exact MN _ m
 have hl':s.heap.FunFrames B (env::outer):=eG hl λa ha=>bm a (JF _ (JV _ ha))
 have hst:B.StaysIn s.heap:=λb o q=>by rw[<-hB]at q;exact M8 _ q
 have hen:B.get? e=ZB:=bm e JI
 have main:∀h',Heap.Left B (env::outer) e (.ref C) s.heap h'->Q () {s with heap:=h'}:=λh' ⟨x1,x2,⟨oe,vs,T',oT,ts,he,hc,hd,h1,hnT,hTe,hT,hdT,h3⟩,x4⟩=>by
  refine h h' T' ⟨⟨hTe,oe,vs,he,hc,hd,h1,oT,ts,hT,hdT,h3⟩,?_,λb o n1 n2 n3 q=>?_,λb o m q=>?_⟩
  ·cases q:s.heap.get? T' with
   |none=>exact .inr rfl
   |some o=>
    left
    by_cases z:T'∈e::(T.toList++(env::outer).filterMap (·.frame))
    ·rcases JL.mp z with z|z
     ·exact absurd z hTe
     ·rcases JR.mp z with z|z
      ·cases T with
       |none=>simp at z
       |some t=>simp at z;rw[z]
      ·obtain⟨_,o',ho',hnf⟩:=x2.mem z
       rw[hT]at ho';cases ho';exact absurd hdT (hnf ts)
    ·rw[<-hB,Lq _ q z]at hnT;cases hnT
  ·refine x1 b o ?_
   rw[<-hB];refine Lq _ q λz=>?_
   rcases JL.mp z with z|z
   ·exact n2 z
   ·rcases JR.mp z with z|z
    ·cases T with
     |none=>simp at z
     |some t=>simp at z;exact n3 (by rw[z])
    ·exact n1 z
  ·obtain⟨_,o',ho',hnf⟩:=hl.mem m
   rw[q]at ho';cases ho';exact x4 b o q hnf
 cases T with
 |none=>
  obtain⟨oe,vs,he,hc,hd,h1⟩:=F;refine wpAny_leaving_first hfr hl' hf he hst hen hd h1 λh' x=>main h' ?_
  rw[hc]at x;exact x
 |some t=>
  obtain⟨hte,oe,vs,he,hc,hd,h1,oT,ts,hT,hdT,h3⟩:=F;exact wpAny_leaving_next hfr hl' hf ⟨oe,vs,t,oT,ts,he,hc,hd,h1,bm t (JF _ (K4 _ (by simp))),hte,hT,hdT,h3⟩ hst hen main
abbrev r9:List JD:=[.type "ValueError",.type "Exception",.type "BaseException",.type "object"]
structure OwnExc (K:Jz)(C:ZE)(bm:List JD):Prop where
 at_:∀h:ZH,K.In h->∃nm q N bs hdct sn sub ab col dd k0 k1 k2 k3 k5 mN,h.get? C=ZA (MX nm q C N bs bm hdct sn sub ab col dd k0 k1 k2 k3 k5 "ValueError.__new__")/\h.Ns N mN/\mN "__init__" =ZB/\OwnTail h r9 bm
def OwnExc.base(O:OwnExc K C bm)(k:K.In h):bm.contains (.type "BaseException")=ZC:=by
 obtain⟨_,_,_,_,_,_,_,_,_,_,_,_,_,_,_,_,_,_,_,T⟩:=O.at_ h k;exact T.hasType (by decide)
def ph(c:Str)(_:En):Rs Fl:=.err c
def xN{c:Str}{msg:Str}{np p1 pos:Pos}(O:OwnExc X.K C bm)(hc:X.calm=ZC)(hm:X.mg c=ZA (.ref C))(hg:autoParam (Gl X c) u_)(hd:autoParam ((c == ("__debug__" : Str))=ZD) s_):
  qt X (.Raise (ZA (.Call (.Name c np) [.Constant (.str msg) j p1] [] cpos)) ZB pos) (ph c):=by
 intro ca s σ H D I ⟨ρ,B,M,E,k⟩
 have k:XA X M.u H c:=k;obtain⟨nm,q,N,bs,hdct,sn,sub,ab,col,dd,k0,k1,k2,k3,k5,mN,hC,hN,hni,T⟩:=O.at_ s.heap I.kIn;refine wpAny_Raise_call_subU (C:=C) (mN:=mN) (nm:=nm) (q:=q) (N:=N) (bs:=bs) (hdct:=hdct) (sn:=sn) (sub:=sub) (ab:=ab) (col:=col) (dd:=dd) (k0:=k0) (k1:=k1) (k2:=k2) (k3:=k3) (k5:=k5) N9 (Bn:="ValueError") (by decide) N9 (O.base I.kIn) (I.ok.hd hc) (by rfl) hni (iQ I hg hm ⟨rfl,?_⟩ hd)
 show ZJ _ _ (R9 (.ref C) ZC ((ZD,eval (.Constant (.str msg) j p1) X.env)::backTo cpos (JZ [] X.env)) []) _ _ s
 refine Ln (K7 (Qw (Li ?_)))
 refine⟨rfl,by show 1<=ZI;decide,hC,hN,T,λh' e hm'=>k ca _ _ ?_⟩
 obtain⟨t,ht,ht2,ht3⟩:=hm'.there
 have I':Inv X ca σ H {s with heap:=h',toks:=s.toks+1}:=I.kept (t':=s.toks+1) λb o z=>hm'.keeps b o z
 refine⟨e,ZB,C,σ,H,rfl,hm,I',λb o z _=>z,?_,?_,⟨_,_,ht,rfl,rfl,rfl⟩,(λt z=>by cases z),λp hp=>⟨λz=>?_,λz=>by cases z⟩⟩
 ·exact gn I hm'.new
 ·exact λhex=>fX I hex hm'.new
 ·have:=(I.pin p hp).1
  rw[z,show s.heap.get? e=ZB from hm'.new]at this
  cases this
variable{f:ZE}{mg:V0}{qual:Str}
section
variable {base:ZH}
def ET(Fn:L2.Fun K x qual st f fd)(S:cG N ps (aq st))(hn:ps.length=n)
  (hbody:∀(cdv:JD)(A:Kc)(outer:List Env)(s:JB)(H:Hp)(E:XK),Room k (A.deeper (envOfC qual (aq st) s.heap.objs.size f cdv)) →
   ∃F,(∀xe,lx ((fG CX0 P w K mg base N qual (aq st) f cdv A outer s H E).FM xe) (bP st) F)/\∀ts,ts.length=n->∀c,g ts=.err c->F (aK N.length ts)=.err c):FnX P w K mg base (k+1) f fd ps n g:=by
 intro A outer s H args us vs O ts c R hr e0 hb r rs trk hl hg hR
 have hpl:ps.length<=N.length:=by have:=congrArg Lh S.pre;rw[LQ]at this;omega
 obtain⟨oc,od,kV,doc,pm,an,cdv,ct,osl,rfl,lk,hcd⟩:=Fn.ex
 have hlen:vs.length=ps.length:=by rw[<-rs.length,hl,hn]
 have KX:K.In s.heap:=e0.mod.kin.keeps λb o e=>(e0.bs b o e).1
 have lim:s.heap.NoLimit:=e0.mod.nolimit.keeps λb o e=>(e0.bs b o e).1
 have hkind:∀y∈ps.zip us,(aq st).names.lookup y.1=ZA .local\/((aq st).names.lookup y.1=ZA .cell/\((LJ (s.heap.objs.size+1) (aq st).names []).lookup y.1).isSome=ZC):=λ⟨n,v⟩ hy=>by
  rcases S.par n (My hy).1 with q|q
  ·exact .inl q
  ·exact .inr ⟨q,LK _ _ _ (.inl q)⟩
 refine PL hr.depth (KX _ _ lk) rfl S.co S.gen rfl (M9 KX hcd) (hb _ _ _ _ ?_)
 refine LP S.kind hkind λenv he s1 x=>?_
 subst he;refine⟨lim.keeps x.toInCall.keep,codeAny_func ?_⟩
 obtain⟨F,hF,hv⟩:=hbody cdv A outer s H E0 (hr.deeper _)
 let xe:V2:=λev s'=>ZJ (ZK P w) (A.deeper (envOfC qual (aq st) s.heap.objs.size f cdv)) (leaving (envOfC qual (aq st) s.heap.objs.size f cdv) ev) (λ_ s''=>R (.error ev) s'') (λe' s''=>R (.error e') s'') s'
 have I:Inv ((fG CX0 P w K mg base N qual (aq st) f cdv A outer s H E0).FM xe) [] (start N vs) H s1:=(iV S hr.hd e0 hlen r x).FM _
 have no:∀a,¬noM.u a:=λa ⟨_,z⟩=>z
 refine Kw (hF xe [] s1 (start N vs) H {nx:=λ_ _=>False,rt:=λ_ _=>False,bk:=λ_ _=>False,ct:=λ_ _=>False} I ⟨aK N.length ts,O,noM,iJ rs (by omega) trk,?_⟩) (λfl s' z=>?_) λe s' hs=>hs
 rotate_left
 ·cases fl with
  |next=>obtain⟨_,_,_,z⟩:=z;exact z.elim
  |cont=>obtain⟨_,_,_,z⟩:=z;exact z.elim
  |brk=>obtain⟨_,_,_,z⟩:=z;exact z.elim
  |ret v=>obtain⟨_,_,_,_,_,z⟩:=z;exact z.elim
 rw[hv ts hl c hg];intro ca ev s' w'
 show ZJ _ _ _ _ _ _
 obtain⟨e,T,C,σ',H',rfl,hm,I',sm,he,heo,fl,hT,_⟩:=w'
 have heo:=heo rfl
 have hT:∀t,T=ZA t->H' t=ZB/\s.heap.get? t=ZB:=λt z=>⟨(hT t z).1,(hT t z).2 rfl⟩
 refine yD (base:=base) (outer:=outer) (L:=s.heap.objs.size) I'.ok.frames I'.stack rfl fl λh' T' g=>hR _ _ ?_
 have hex:((fG CX0 P w K mg base N qual (aq st) f cdv A outer s H E0).FM xe).ex=[]:=rfl
 have Tn:H' T'=ZB/\s.heap.get? T'=ZB:=by
  rcases g.new with z|z
  ·exact hT T' z
  ·exact⟨gn I' z,fX I' hex z⟩
 have out:∀b o,s.heap.get? b=ZA o->b≠s.heap.objs.size:=λb o q z=>by
  have:=JM q;rw[z]at this;exact absurd this (J3 _)
 have mem:∀b,b∈kj ((envOfC qual (aq st) s.heap.objs.size f cdv)::outer)->b=s.heap.objs.size\/b∈kj outer:=λb z=>by
  have z':b∈s.heap.objs.size::kj outer:=z;exact JL.mp z'
 have ne:∀b o,s.heap.get? b=ZA o->b≠e/\T≠ZA b:=λb o q=>⟨λz=>(by subst z;rw[show s.heap.get? b=ZB from heo]at q;cases q),λz=>(by rw[show s.heap.get? b=ZB from(hT b z).2]at q;cases q)⟩
 have keepH:∀b u,H' b≠ZB->s'.heap.get? b=ZA u->h'.get? b=ZA u:=λb u hb q=>by
  refine g.keep b u (λz=>hb (I'.Ip b z)) (λz=>hb (by rw[z];exact he)) (λz=>hb (hT b z).1) q
 refine⟨e,T',C,H',rfl,hm,I'.os,I'.bare,⟨λb o q n hb hx=>?_,λb o q n hb hx=>?_,λb o q n hx=>I'.base.free b o q n hx,λb o q hx=>?_,I'.base.tups,I'.base.frzs,I'.base.tbls⟩,λa o q=>?_,λb o q=>sm b o q (no b),he,heo,g.flt,Tn.1,Tn.2⟩
 ·exact g.keep b o (λz=>(mem b z).elim (out b o q) hb) (ne b o q).1 (ne b o q).2 (I'.base.keep b o q n hb hx)
 ·obtain⟨sl,q1⟩:=I'.base.slot b o q n hb hx
  obtain⟨sl',q2⟩:=g.slot b _ (JF _ hb) q1;exact⟨sl',q2⟩
 ·obtain⟨o',q1⟩:=I'.base.there b o q hx
  by_cases z:b∈kj ((envOfC qual (aq st) s.heap.objs.size f cdv)::outer)
  ·obtain⟨sl,q2⟩:=g.slot b o' z q1
   exact⟨_,q2⟩
  ·exact⟨o',g.keep b o' z (ne b o q).1 (ne b o q).2 q1⟩
 ·refine(I'.hok a o q).IA (λb u hb z=>keepH b u ?_ z) (λ_ z=>z) λ_ _ z=>z
  rcases hb with rfl|hb
  ·rw[q];simp
  ·rw[hb];simp
end
def ud{m:Nat}{F:V5}{c:Str}(h:val n m F ts=.err c):F (aK m ts)=.err c:=by
 unfold val at h
 split at h
 ·unfold bA at h
  cases z:F (aK m ts)with
  |bad=>rw[z]at h;cases h
  |err c'=>rw[z]at h;cases h;rfl
  |ok f=>
   rw[z,aA]at h;cases f <;> cases h
 ·cases h
section
variable {base:ZH}
def EU{F:V5}(Fn:L2.Fun K x qual st f fd)(S:cG N ps (aq st))(hn:ps.length=n)
  (hbody:∀(cdv:JD)(A:Kc)(outer:List Env)(s:JB)(H:Hp)(E:XK),Room k (A.deeper (envOfC qual (aq st) s.heap.objs.size f cdv)) →
   ∀xe,lx ((fG CX0 P w K mg base N qual (aq st) f cdv A outer s H E).FM xe) (bP st) F):FO P w K mg base (k+1) f fd ps n (val n N.length F):=
 ⟨HA Fn S hn λcdv A outer s H E hr=>⟨F,hbody cdv A outer s H E hr _,λts _ _ h=>xb h⟩,ET Fn S hn λcdv A outer s H E hr=>⟨F,hbody cdv A outer s H E hr,λts _ c h=>ud h⟩⟩
end
section
variable {pos p:Pos}
def GB:qt X (.Continue pos) Cw:=PS.imp rh λD σ H ⟨ρ,B,M,E,h⟩=>h σ H M (λ_ _ e _=>e) E λa z=>.inl z
end
inductive OTail (h:ZH):List JD->Prop
 |base:OTail h r9
 |own {A:ZE} {c0:JD} {dd:Option ZE} {cd:ClassData} {sl:Array (Option JD)} {mA:V0} {tl:List JD} :
   h.get? A=ZA {cls:=c0,dict:=dd,data:=.cls cd,slots:=sl}->h.Ns cd.ns mA->(∀n∈calmNames,mA n=ZB)->OTail h tl->OTail h (.ref A::tl)
def OTail.tail{tl:List JD}(T:OTail h tl):OwnTail h r9 tl:=by
 induction T with
 |base=>exact .base
 |own hA hN hq _ ih=>exact .own hA hN (hq _ (.head _)) ih
structure OX (K:Jz)(C:ZE)(bm:List JD):Prop where
 at_:∀h:ZH,K.In h->∃nm q N bs hdct sn sub ab col dd k0 k1 k2 k3 k5 mN,h.get? C=ZA (MX nm q C N bs bm hdct sn sub ab col dd k0 k1 k2 k3 k5 "ValueError.__new__")/\h.Ns N mN/\(∀n∈calmNames,mN n=ZB)/\OTail h bm
def OX.own(O:OX K C bm):OwnExc K C bm:=⟨λh k=>by
 obtain⟨nm,q,N,bs,hdct,sn,sub,ab,col,dd,k0,k1,k2,k3,k5,mN,h1,h2,h3,h4⟩:=O.at_ h k;exact⟨nm,q,N,bs,hdct,sn,sub,ab,col,dd,k0,k1,k2,k3,k5,mN,h1,h2,h3 _ (.head _),h4.tail⟩⟩
def G9{base:ZH}{L:ZE}{T:Option ZE}(hfr:A.frames=ZA (env::outer))(hl:s.heap.FunFrames base (env::outer))(hf:env.frame=ZA L)
  (F:Flt s.heap C e T) (h:∀h' T',zT ((env::outer).filterMap (·.frame)) C e T s.heap h' T'->Q () {s with heap:=h'}):
  ZJ M A (MD (.ref e) env) (λ_ s'=>ZJ M A (setFlight (.ref e) ZB) Q E s') E s:=by
 generalize hB:NV s.heap (e::(T.toList++(env::outer).filterMap (·.frame)))=B
 have bm:∀b,b∈e::(T.toList++(env::outer).filterMap (·.frame))->B.get? b=ZB:=λb m=>by rw[<-hB];exact MN _ m
 have hl':s.heap.FunFrames B (env::outer):=eG hl λa ha=>bm a (JF _ (JV _ ha))
 have hst:B.StaysIn s.heap:=λb o q=>by rw[<-hB]at q;exact M8 _ q
 have hen:B.get? e=ZB:=bm e JI
 have main:∀h',Heap.Left B (env::outer) e (.ref C) s.heap h'->Q () {s with heap:=h'}:=λh' ⟨x1,x2,⟨oe,vs,T',oT,ts,he,hc,hd,h1,hnT,hTe,hT,hdT,h3⟩,x4⟩=>by
  refine h h' T' ⟨⟨hTe,oe,vs,he,hc,hd,h1,oT,ts,hT,hdT,h3⟩,?_,λb o n1 n2 n3 q=>?_,λb o m q=>?_⟩
  ·cases q:s.heap.get? T' with
   |none=>exact .inr rfl
   |some o=>
    left
    by_cases z:T'∈e::(T.toList++(env::outer).filterMap (·.frame))
    ·rcases JL.mp z with z|z
     ·exact absurd z hTe
     ·rcases JR.mp z with z|z
      ·cases T with
       |none=>simp at z
       |some t=>simp at z;rw[z]
      ·obtain⟨_,o',ho',hnf⟩:=x2.mem z
       rw[hT]at ho';cases ho';exact absurd hdT (hnf ts)
    ·rw[<-hB,Lq _ q z]at hnT;cases hnT
  ·refine x1 b o ?_
   rw[<-hB];refine Lq _ q λz=>?_
   rcases JL.mp z with z|z
   ·exact n2 z
   ·rcases JR.mp z with z|z
    ·cases T with
     |none=>simp at z
     |some t=>simp at z;exact n3 (by rw[z])
    ·exact n1 z
  ·obtain⟨_,o',ho',hnf⟩:=hl.mem m
   rw[q]at ho';cases ho';exact x4 b o q hnf
 cases T with
 |none=>
  obtain⟨oe,vs,he,hc,hd,h1⟩:=F;unfold MD;simp only[hf];refine Jy (Kd he hd h1 ?_)
  rw[if_neg (by decide)]
  refine Oy hfr hl' hf he hst hen hd (Kj.mp h1).1 λh' x=>main h' ?_
  rw[hc]at x;exact x
 |some t=>
  obtain⟨hte,oe,vs,he,hc,hd,h1,oT,ts,hT,hdT,h3⟩:=F
  have hnT:B.get? t=ZB:=bm t (JF _ (K4 _ (by simp)))
  unfold MD;simp only[hf];refine Jy (Kd he hd h1 ?_)
  rw[if_pos (show(Kf t != Kg)=ZC from by simp)]
  refine Jy (Kd hT hdT h3 ?_)
  rw[if_neg (show ¬((Kg == rawInt L)=ZC)from by simp[rawInt])]
  refine Jy (Ox hT hdT (Kj.mp h3).1 ?_)
  have other:∀b,b≠t->(s.heap.update t (Mm (·.setIfInBounds 3 Kg))).get? b=s.heap.get? b:=λb hb=>LL _ _ (MV hb)
  have noRec:∀b o,s.heap.get? b=ZA o->(∀vs,o.data≠ .fields vs)->b≠t:=λb o hb hnf q=>by
   rw[q,hT]at hb;injection hb with hb;subst hb;exact hnf ts hdT
  refine Oy hfr (hl'.of_keeps λb o hb hnf=>⟨o,(other b (noRec b o hb hnf)).trans hb,rfl⟩) hf ((other e (MV hte)).trans he)
   (λb o hbo=>(other b λq=>by rw[q,hnT]at hbo;cases hbo).trans (hst b o hbo)) hen hd (Kj.mp h1).1
   λh' x=>main h' ?_
  obtain⟨x1,x2,x3,x4⟩:=x;rw[hc]at x3;exact⟨x1,x2,x3,λb o hb hnf=>x4 b o ((other b (noRec b o hb hnf)).trans hb) hnf⟩
variable{ca:V3}
section
variable {h':ZH}
def Inv.gone{T':ZE}{T:Option ZE}(I:Inv X ca σ H s)(hst:X.stack=X.env::X.outer)(hfe:X.env.frame=ZA X.env.locals)(hcl:∀x c,X.env.cells.lookup x≠ZA c)(hex:X.ex=[])
  (g:zT ((X.env::X.outer).filterMap (·.frame)) C e T s.heap h' T') (he:H e=ZB) (heo:X.s₀.heap.get? e=ZB) (hT:∀t,T=ZA t->H t=ZB/\X.s₀.heap.get? t=ZB) (hp:∀p∈X.pn++ca,p.1≠e/\T≠ZA p.1):
  Inv X ca σ H {s with heap:=h'}:=by
 have mem:∀b,b∈(X.env::X.outer).filterMap (·.frame)↔b=X.env.locals\/b∈X.fs:=λb=>by
  rw[KJ,hfe];exact JL
 have out:∀b o,X.s₀.heap.get? b=ZA o->b≠X.env.locals:=λb o q z=>by
  have h1:=JM q
  have h2:=I.ok.above;rw[z]at h1;exact absurd (JS h1 h2) (J3 _)
 have ne:∀b o,X.s₀.heap.get? b=ZA o->b≠e/\T≠ZA b:=λb o q=>⟨λz=>(by subst z;rw[heo]at q;cases q),λz=>(by rw[(hT b z).2]at q;cases q)⟩
 have fr:∀b,b∈(X.env::X.outer).filterMap (·.frame)->H b=ZB:=λb z=>I.Ip b (by rw[hst];exact z)
 have keepH:∀b u,H b≠ZB->s.heap.get? b=ZA u->h'.get? b=ZA u:=λb u hb q=>by
  refine g.keep b u (λz=>hb (fr b z)) (λz=>hb (by rw[z];exact he)) (λz=>hb (hT b z).1) q
 refine⟨I.ok,I.os,I.bare,⟨λb o q n hb hx=>?_,λb o q n hb hx=>?_,I.base.free,λb o q hx=>?_,I.base.tups,I.base.frzs,I.base.tbls⟩,?_,λx c z=>absurd z (hcl x c),I.free,I.freeC,λp hp'=>?_,λa o q=>?_,I.len⟩
 ·exact g.keep b o (λz=>((mem b).mp z).elim (out b o q) hb) (ne b o q).1 (ne b o q).2 (I.base.keep b o q n hb hx)
 ·obtain⟨sl,q1⟩:=I.base.slot b o q n hb hx
  obtain⟨sl',q2⟩:=g.slot b _ ((mem b).mpr (.inr hb)) q1;exact⟨sl',q2⟩
 ·obtain⟨o',q1⟩:=I.base.there b o q hx
  by_cases z:b∈(X.env::X.outer).filterMap (·.frame)
  ·obtain⟨sl,q2⟩:=g.slot b o' z q1
   exact⟨_,q2⟩
  ·exact⟨o',g.keep b o' z (ne b o q).1 (ne b o q).2 q1⟩
 ·obtain⟨m,⟨o,es,ep,ho,hd,r⟩,hl⟩:=I.loc
  obtain⟨sl,q2⟩:=g.slot X.env.locals o ((mem _).mpr (.inl rfl)) ho;refine⟨m,⟨_,es,ep,q2,hd,r⟩,λi x v a1 a2 a3=>?_⟩
  obtain⟨u,ru,lk⟩:=hl i x v a1 a2 a3;refine⟨u,ru,?_⟩
  rcases lk with z|⟨_,c,z,_⟩
  ·exact .inl z
  ·exact absurd z (hcl x c)
 ·obtain⟨b1,b2,b3,b4,b5⟩:=I.pin p hp'
  exact⟨g.keep p.1 p.2 (λz=>((mem _).mp z).elim b3 b4) (hp p hp').1 (hp p hp').2 b1,b2,b3,b4,b5⟩
 ·refine(I.hok a o q).IA (λb u hb z=>keepH b u ?_ z) (λ_ z=>z) λ_ _ z=>z
  rcases hb with rfl|hb
  ·rw[q];simp
  ·rw[hb];simp
end
variable{N:ZE}{dd dd':Option ZE}{oe:Obj}{sn sn':List Str}
section
variable {g:Array R8}{d:Sx}{t:Nat}
variable {nm q:Str}{bs:List JD}{k0 k1 k2 k3 k5:Option JD}{newId:String}
variable {nm' q':Str}{D N':ZE}{bm':List JD}{k0' k1' k2' k3' k5':Option JD}{newId':String}
def vZ{Q:Bool->JB->Prop}(hC:h.get? C=ZA (MX nm q C N bs bm hdct sn sub ab col dd k0 k1 k2 k3 k5 newId))(hD:h.get? D=ZA (MX nm' q' D N' bs' bm' hdct' sn' sub' ab' col' dd' k0' k1' k2' k3' k5' newId'))
  (he:h.get? e=ZA oe) (hcls:oe.cls=.ref C) (hb:bm'.contains (.type "BaseException")=ZC) (hin:(Kf C::bm).contains (.ref D)=ZC) (hq:Q ZC ⟨h,g,d,t,os⟩):ZJ M A (excMatches (.ref e) (.ref D)) Q E ⟨h,g,d,t,os⟩:=by
 have hcB:(Kf D::bm').contains (.type "BaseException")=ZC:=by rw[List.contains_cons,hb,RC]
 have f:=tc_notTuple;unfold excMatches
 repeat (first| (with_reducible refine Rx he ?_;rw[hcls])|with_reducible refine Rx hD ?_| (with_reducible refine Qq hD ?_;rw[hcB])| (with_reducible refine Qq hC ?_;rw[hin])|wp_step)
 exact hq
end
abbrev z8(X:Cx)(e:ZE)(oe:Obj):Cx:={X with A:=X.A.mark (ZA (.ref e)),calm:=ZD,pn:=(e,oe)::X.pn,xe:=λ_ _=>False}
def lD(I:Inv X ca σ H s)(he:s.heap.get? e=ZA oe)(hH:H e=ZB)(hne:e≠X.env.locals)(hf:e∉X.fs)(hc:∀v,oe.data≠ .cell v):Inv (z8 X e oe) ca σ H s:=by
 have ok:=I.ok;refine⟨⟨ok.mod,ok.kind,ok.glob,ok.blt,ok.above,ok.inj,ok.has,ok.cab,(λz=>by cases z),?_,ok.stk,ok.exf,ok.bs,ok.bsz,ok.noex,ok.exfs,ok.funs,ok.frf⟩,I.os,I.bare,I.base,I.loc,I.cell,I.free,I.freeC,λp hp=>?_,I.hok,I.len⟩
 ·exact ok.frames
 ·rcases JL.mp (show p∈(e,oe)::(X.pn++ca)from hp)with z|z
  ·subst z;exact⟨he,hH,hne,hf,hc⟩
  ·exact I.pin p z
def uQ(ok:X.Ok)(I:Inv (z8 X e oe) ca σ H s):Inv X ca σ H s:=
 ⟨ok,I.os,I.bare,I.base,I.loc,I.cell,I.free,I.freeC,λp hp=>I.pin p (JF _ hp),I.hok,I.len⟩
def qX(F:V5)(h:Str->Rs T)(ρ:En):Rs Fl:=match F ρ with
 |.err c=>match h c with
  |.ok t=>.ok (.rt t)
  |_=>.bad
 |r=>r
def Inv.Jo(ca:V3)(I:Inv X ca σ H s):Inv {X with pn:=X.pn++ca} [] σ H s:=
 ⟨⟨I.ok.mod,I.ok.kind,I.ok.glob,I.ok.blt,I.ok.above,I.ok.inj,I.ok.has,I.ok.cab,I.ok.hd,I.ok.frames,I.ok.stk,I.ok.exf,I.ok.bs,I.ok.bsz,I.ok.noex,I.ok.exfs,I.ok.funs,I.ok.frf⟩,I.os,I.bare,I.base,I.loc,I.cell,I.free,I.freeC,λp hp=>I.pin p (by rw[Kr]at hp;exact hp),I.hok,I.len⟩
def Inv.Ji{pins1:V3}{xe:V2}(I:Inv {X with pn:=X.pn++ca,xe:=xe} pins1 σ H s):Inv X ca σ H s:=
 ⟨⟨I.ok.mod,I.ok.kind,I.ok.glob,I.ok.blt,I.ok.above,I.ok.inj,I.ok.has,I.ok.cab,I.ok.hd,I.ok.frames,I.ok.stk,I.ok.exf,I.ok.bs,I.ok.bsz,I.ok.noex,I.ok.exfs,I.ok.funs,I.ok.frf⟩,I.os,I.bare,I.base,I.loc,I.cell,I.free,I.freeC,λp hp=>I.pin p (K4 _ hp),I.hok,I.len⟩
def G8{ob:JD}{oe:Option ZE}{es:Array DictEntry}{oz:Array (Option JD)}(r:K.lookup N=ZA ⟨ob,oe,.dict es n,oz⟩)(s:(es.toList.all λe=>xv e.key)=ZC)
  (u0:MZ K N "__init__" =ZA ZB) (u1:MZ K N "__getattribute__" =ZA ZB) (u2:MZ K N "__getattr__" =ZA ZB) (u3:MZ K N "__class__" =ZA ZB):
  ∀h:ZH,K.In h->∃mN,h.Ns N mN/\∀n∈calmNames,mN n=ZB:=λh k=>by
 refine⟨nsFind es,⟨_,es,n,k _ _ r,rfl,λe he=>?_,λ_=>rfl⟩,λx hx=>?_⟩
 ·have:=J4.mp s e (by simpa using he)
  cases q:e.key <;> rw[q]at this <;> first|exact⟨_,_,rfl⟩|cases this
 ·have key:∀x,MZ K N x=ZA ZB->nsFind es x=ZB:=λx u=>by
   unfold MZ at u;rw[r]at u;simp only at u
   split at u
   ·cases u
   ·rename_i he
    unfold nsFind findBy;rw[<-Qy,he];rfl
  unfold calmNames at hx;simp only[JL,KN,or_false]at hx;rcases hx with rfl|rfl|rfl|rfl
  ·exact key _ u0
  ·exact key _ u1
  ·exact key _ u2
  ·exact key _ u3
section
variable {nm q:Str}{bs:List JD}{k0 k1 k2 k3 k5:Option JD}
variable {nm' q':Str}{D N':ZE}{k0' k1' k2' k3' k5':Option JD}
def Bf(w:K.lookup C=ZA (MX nm q C N bs r9 hdct sn sub ab col dd k0 k1 k2 k3 k5 "ValueError.__new__"))(ns:∀h:ZH,K.In h->∃mN,h.Ns N mN/\∀n∈calmNames,mN n=ZB):OX K C r9:=⟨λh k=>by
 obtain⟨mN,h1,h2⟩:=ns h k;exact⟨nm,q,N,bs,hdct,sn,sub,ab,col,dd,k0,k1,k2,k3,k5,mN,k _ _ w,h1,h2,.base⟩⟩
def yd(w:K.lookup C=ZA (MX nm q C N bs (.ref D::r9) hdct sn sub ab col dd k0 k1 k2 k3 k5 "ValueError.__new__"))(ns:∀h:ZH,K.In h->∃mN,h.Ns N mN/\∀n∈calmNames,mN n=ZB)
  (wD:K.lookup D=ZA (MX nm' q' D N' bs' r9 hdct' sn' sub' ab' col' dd' k0' k1' k2' k3' k5' "ValueError.__new__")) (nsD:∀h:ZH,K.In h->∃mN,h.Ns N' mN/\∀n∈calmNames,mN n=ZB):OX K C (.ref D::r9):=⟨λh k=>by
 obtain⟨mN,h1,h2⟩:=ns h k;obtain⟨mD,d1,d2⟩:=nsD h k;exact⟨nm,q,N,bs,hdct,sn,sub,ab,col,dd,k0,k1,k2,k3,k5,mN,k _ _ w,h1,h2,.own (k _ _ wD) d1 d2 .base⟩⟩
end
end Tr
namespace L2
open PySem PySem.Spec PyProof.Rows
variable{y:V}
section
variable {κ:Type}[DecidableEq κ]
def jt(kvs:List (κ×V))(k:κ):Option V:=(kvs.find? λkv=>decide (kv.1=k)).map (·.2)
def c7(kvs:List (κ×V))(k:κ)(v:V):List (κ×V):=
 if (kvs.any λkv=>decide (kv.1=k))=ZC then kvs.map (λkv=>if kv.1=k then(kv.1,v)else kv)else kvs++[(k,v)]
def xc{k:κ}:jt ([]:List (κ×V)) k=ZB:=rfl
def jL{p:κ×V}{r:List (κ×V)}{k:κ}(e:p.1=k):jt (p::r) k=ZA p.2:=by simp[jt,MA,e]
def jM{p:κ×V}{r:List (κ×V)}{k:κ}(e:¬ p.1=k):jt (p::r) k=jt r k:=by simp[jt,MA,e]
theorem qG(k:κ):∀kvs:List (κ×V),(kvs.any λkv=>decide (kv.1=k))=(jt kvs k).isSome
 |[] =>rfl
 |p::r=>by
  rw[LU]
  by_cases e:p.1=k
  ·simp only[jL e,decide_eq_true e,Bool.true_or,QD]
  ·rw[jM e,decide_eq_false e,QH];exact qG k r
def dM(kvs:List (κ×V))(k:κ)(v:V):(c7 kvs k v).length<=kvs.length+1:=by
 unfold c7;split
 ·rw[JE];omega
 ·rw[JC,JJ,Le];omega
def RelO.IS{o:Option V}{u:Option JD}(r:RelO o u):o.isSome=u.isSome:=by
 cases o with
 |none=>cases u with
  |none=>rfl
  |some _=>exact(show False from r).elim
 |some _=>cases u with
  |none=>exact(show False from r).elim
  |some _=>rfl
def RelO.getD{o:Option V}{u:Option JD}{d:V}{d':JD}(r:RelO o u)(rd:RelV d d'):RelV (o.getD d) (u.getD d'):=by
 cases o with
 |none=>cases u with
  |none=>exact rd
  |some _=>exact(show False from r).elim
 |some _=>cases u with
  |none=>exact(show False from r).elim
  |some _=>exact r
def KV.val{kvs:List (κ×V)}{vs:List (κ×JD)}(r:KV kvs vs)(k:κ):RelO (jt kvs k) (valueAt vs k):=by
 unfold KV at r
 induction r with
 |nil=>exact Mq
 |@cons p q ps qs h t ih=>
  obtain⟨h1,h2⟩:=h
  by_cases e:p.1=k
  ·have e':q.1=k:=h1.symm.trans e
   have b:valueAt (q::qs) k=ZA q.2:=by simp[valueAt,MA,e']
   rw[jL e,b];exact h2
  ·have e':¬ q.1=k:=λz=>e (h1.trans z)
   have b:valueAt (q::qs) k=valueAt qs k:=by simp[valueAt,MA,e']
   rw[jM e,b];exact ih
def KV.any{kvs:List (κ×V)}{vs:List (κ×JD)}(r:KV kvs vs)(k:κ):(kvs.any λkv=>decide (kv.1=k))=vs.any λkv=>decide (kv.1=k):=by
 unfold KV at r
 induction r with
 |nil=>rfl
 |cons h t ih=>rw[LU,LU,ih,h.1]
def KV.Jf{kvs:List (κ×V)}{vs:List (κ×JD)}(r:KV kvs vs)(k:κ){u:JD}(ry:RelV y u):
  KV (kvs.map λkv=>if kv.1=k then(kv.1,y)else kv) (vs.map λkv=>if kv.1=k then(kv.1,u)else kv):=by
 unfold KV at r ⊢
 induction r with
 |nil=>exact .nil
 |@cons p q ps qs h t ih=>
  rw[JG,JG];refine .cons ?_ ih
  obtain⟨h1,h2⟩:=h
  by_cases e:p.1=k
  ·rw[if_pos e,if_pos (h1.symm.trans e)];exact⟨h1,ry⟩
  ·rw[if_neg e,if_neg (λz=>e (h1.trans z))];exact⟨h1,h2⟩
def KV.put{kvs:List (κ×V)}{vs:List (κ×JD)}(r:KV kvs vs)(k:κ){u:JD}(ry:RelV y u):KV (c7 kvs k y) (stored vs k u):=by
 unfold c7 stored;rw[r.any k]
 by_cases e:(vs.any λkv=>decide (kv.1=k))=ZC
 ·rw[if_pos e,if_pos e];exact r.Jf k ry
 ·rw[if_neg e,if_neg e];exact Paired.snoc r ⟨rfl,ry⟩
def KV.length{kvs:List (κ×V)}{vs:List (κ×JD)}(r:KV kvs vs):kvs.length=vs.length:=NN r
end
def uM{k:Key}{u:JD}(r:RelV (kV k) u):(cb P w).is k u=ZC:=by
 cases k with
 |inl i=>obtain⟨t,e⟩:=(show ∃t,u=Lv i t from r);subst e;exact rH P w i t
 |inr x=>obtain⟨t,e⟩:=(show ∃t,u=Lb x t from r);subst e;exact rG P w x t
theorem nZ:∀{ks:List Key}{us:List JD},Vals (ks.map kV) us->ItemsAre (cb P w) ks us
 |[],_,r=>by rw[NG]at r;cases r;exact .nil
 |k::ks,_,r=>by
  rw[JG]at r
  cases r with
  |cons h t=>exact .cons (uM h) (nZ t)
abbrev KT(H:Hp):List (List Key×V)->List (List Key×ZE×JD)->Prop:=Sz λp q=>p.1=q.1/\H q.2.1=ZA (.tup (p.1.map kV))/\RelV p.2 q.2.2
variable{H:Hp}{kvs:List (List Key×V)}{xs:List (List Key×ZE×JD)}
def KT.val(r:KT H kvs xs)(k:List Key):RelO (jt kvs k) ((atKey xs k).map (·.2)):=by
 induction r with
 |nil=>exact Mq
 |@cons p q ps qs h t ih=>
  obtain⟨h1,_,h2⟩:=h
  by_cases e:p.1=k
  ·have e':q.1=k:=h1.symm.trans e
   have b:atKey (q::qs) k=ZA q.2:=by simp[atKey,MA,e']
   rw[jL e,b];exact h2
  ·have e':¬ q.1=k:=λz=>e (h1.trans z)
   have b:atKey (q::qs) k=atKey qs k:=by simp[atKey,MA,e']
   rw[jM e,b];exact ih
def KT.Jf(r:KT H kvs xs)(k:List Key){u:JD}(ry:RelV y u):
  KT H (kvs.map λkv=>if kv.1=k then(kv.1,y)else kv) (xs.map (putAt k u)):=by
 induction r with
 |nil=>exact .nil
 |@cons p q ps qs h t ih=>
  rw[JG,JG];refine .cons ?_ ih
  obtain⟨h1,h2,h3⟩:=h;unfold putAt
  by_cases e:p.1=k
  ·rw[if_pos e,if_pos (h1.symm.trans e)];exact⟨h1,h2,ry⟩
  ·rw[if_neg e,if_neg (λz=>e (h1.trans z))];exact⟨h1,h2,h3⟩
variable{b:ZE}
def KT.put(r:KT H kvs xs)(k:List Key){u:JD}(hb:H b=ZA (.tup (k.map kV)))(ry:RelV y u):
  KT H (c7 kvs k y) (storedH xs k b u):=by
 have e:(kvs.any λkv=>decide (kv.1=k))=(atKey xs k).isSome:=by
  rw[qG,(r.val k).IS,Option.isSome_map]
 unfold c7 storedH;rw[e]
 by_cases q:(atKey xs k).isSome=ZC
 ·rw[if_pos q,if_pos q];exact r.Jf k ry
 ·rw[if_neg q,if_neg q];exact Paired.snoc r ⟨rfl,hb,ry⟩
variable{H':Hp}
def KT.keeps(r:KT H kvs xs)(ht:∀b ys,H b=ZA (.tup ys)->H' b=ZA (.tup ys)):KT H' kvs xs:=
 Paired.Ja r λ_ _ z=>⟨z.1,ht _ _ z.2.1,z.2.2⟩
variable{a:ZE}
section
variable {h:ZH}
def nN{u:HO}(ok:HOk P w H h)(e:Rd H a u):ObjOk P w H h a u:=e.ok ok
def rY{kvs:List (Key×V)}(ok:HOk P w H h)(e:Rd H a (.dK kvs)):kvs.length<=ZI/\(a == Mr)=ZD/\∃vs,KV kvs vs/\h.DictOf (cb P w) a vs:=
 show ObjOk P w H h a (.dK kvs)from nN ok e
def HH{kvs:List (Key×V)}(ok:HOk P w H h)(e:H a=ZA (.dK kvs)):kvs.length<=ZI/\(a == Mr)=ZD/\∃vs,KV kvs vs/\h.DictOf (cb P w) a vs:=rY ok (.inl e)
def kE{ks:List Key}(ok:HOk P w H h)(e:H a=ZA (.tup (ks.map kV))):(N1 (cb P w)).is h ks a:=by
 obtain⟨_,its,r,o,h1,h2,n,h3⟩:=(show ObjOk P w H h a (.tup (ks.map kV))from ok a _ e)
 exact⟨o,its.toArray,n,h1,h2,h3,by simpa using nZ r⟩
def rV(ok:HOk P w H h)(e:Rd H a (.dT kvs)):kvs.length<=ZI/\(a == Mr)=ZD ∧
  ∃xs,KT H kvs xs/\h.DictOfH (N1 (cb P w)) a xs:=by
 obtain⟨z,y,xs,r,o,es,ep,h1,h2,h3,h4,h5⟩:=(show ObjOk P w H h a (.dT kvs)from nN ok e)
 refine⟨z,y,xs,r,o,es,ep,h1,h2,h3,h4,λx hx=>?_,h5⟩
 have all:∀{l:List (List Key×V)}{m:List (List Key×ZE×JD)},KT H l m->∀x∈m,(N1 (cb P w)).is h x.1 x.2.1:=by
  intro l m q
  induction q with
  |nil=>intro x hx;exact nomatch hx
  |@cons p q ps qs hq t ih=>
   intro x hx;rcases JL.mp hx with e|hx
   ·subst e
    exact kE ok (by rw[<-hq.1];exact hq.2.1)
   ·exact ih x hx
 exact all r x hx
def uY(ok:HOk P w H h)(e:H a=ZA (.dT kvs)):kvs.length<=ZI/\(a == Mr)=ZD ∧
  ∃xs,KT H kvs xs/\h.DictOfH (N1 (cb P w)) a xs:=rV ok (.inl e)
end
def DGet(H:Hp)(a:ZE)(y:V)(r:Option V):Prop:=
 (∃kvs k,Rd H a (.dK kvs)/\y=kV k/\r=jt kvs k)\/∃kvs k b,Rd H a (.dT kvs)/\y=.ref b/\H b=ZA (.tup (k.map kV))/\r=jt kvs k
def DPut(H:Hp)(a:ZE)(y v:V)(H':Hp):Prop:=
 (∃kvs k,H a=ZA (.dK kvs)/\y=kV k/\kvs.length<ZI/\H'=upd H a (.dK (c7 kvs k v))) ∨
 ∃kvs k b,H a=ZA (.dT kvs)/\y=.ref b/\H b=ZA (.tup (k.map kV))/\kvs.length<ZI/\H'=upd H a (.dT (c7 kvs k v))
def DPut.t{k:List Key}{v:V}(e:H a=ZA (.dT kvs))(eb:H b=ZA (.tup (k.map kV)))(hl:kvs.length<ZI):
  DPut H a (.ref b) v (upd H a (.dT (c7 kvs k v))):=.inr ⟨kvs,k,b,e,rfl,eb,hl,rfl⟩
variable{X:Cx}{h':ZH}{ca:V3}{σ:St}
section
variable {v:V}{u r:JD}{o:Option V}
def Inv.big(I:Inv X ca σ H s):Mr<s.heap.objs.size:=by
 have h:Km<s.heap.objs.size:=(I.mod.glob.keeps I.bk).lt;exact RA (by decide) h
def wA(hu:A.units+1<cLine)(I:Inv X ca σ H s)(g:DGet H a y (ZA v))(ry:RelV y u)(h:∀w' s',Inv X ca σ H s'->RelV v w'->Q w' s'):
  ZJ (ZK X.prog X.w) A (getItem (.ref a) u) Q E s:=by
 rcases g with⟨kvs,k,e,ey,l⟩|⟨kvs,k,b,e,ey,eb,l⟩
 ·subst ey
  obtain⟨z,hd,vs,rel,dd⟩:=rY I.hok e;obtain⟨w',hw,rw'⟩:=RelO.some_of (v:=v) (o:=valueAt vs k) (by rw[l];exact rel.val k)
  exact wpAny_getItem_of (uM ry) dd.mapOf hw (h w' _ (I.tok _) rw')
 ·subst ey
  cases (show u=Kf b from ry)
  obtain⟨z,hd,xs,rel,dd⟩:=rV I.hok e;obtain⟨w',hw,rw'⟩:=RelO.some_of (v:=v) (o:=(atKey xs k).map (·.2)) (by rw[l];exact rel.val k)
  obtain⟨p,hp,hp2⟩:=Ph.mp hw;refine wpAny_getItem_heap (Mw hu) (kE I.hok eb) dd hp ?_
  rw[hp2];exact h w' _ (I.tok _) rw'
def lH{ob:HO}(I:Inv X ca σ H s)(mu:HV (H a))(hs:Me a s.heap h')(he:∃q,h'.get? a=ZA q)(new:ObjOk X.prog X.w (upd H a ob) h' a ob):
  Inv X ca σ (upd H a ob) {s with heap:=h',toks:=t'}:=
 I.write (x:=a) (e:=a) mu (.inl rfl) (λb q hb z=>(hs.2 b hb).trans z) he new
def Fi{kvs:List (Key×V)}{vs:List (Key×JD)}(z:kvs.length<=ZI)(hd:(a == Mr)=ZD)(rel:KV kvs vs)(dd:h'.DictOf (cb P w) a vs):
  ObjOk P w H' h' a (.dK kvs):=⟨z,hd,vs,rel,dd⟩
def wz{Q:Unit->JB->Prop}(hu:A.units+1<cLine)(I:Inv X ca σ H s)(g:DPut H a y v H')(ry:RelV y u)(rv:RelV v r)(h:∀s',Inv X ca σ H' s'->Q () s'):
  ZJ (ZK X.prog X.w) A (setItem (.ref a) u r) Q E s:=by
 rcases g with⟨kvs,k,e,ey,l,eH⟩|⟨kvs,k,b,e,ey,eb,l,eH⟩
 ·subst ey eH
  obtain⟨z,hd,vs,rel,dd⟩:=HH I.hok e
  have hz:vs.length<=ZI:=by rw[<-rel.length];exact z
  have hl:(c7 kvs k v).length<=ZI:=by have:=dM kvs k v;omega
  refine wpAny_setItem_pairs (hsz:=hz) (uM ry) dd λh' dd' hs=>h _ ?_
  have he:∃q,h'.get? a=ZA q:=let ⟨q,_,_,hq,_⟩:=dd';⟨q,hq⟩
  exact lH I (by rw[e];exact Mq) hs he (Fi hl hd (rel.put k rv) dd')
 ·subst ey eH
  cases (show u=Kf b from ry)
  obtain⟨z,hd,xs,rel,dd⟩:=uY I.hok e
  have hz:xs.length<=ZI:=by rw[<-NN rel];exact z
  have hl:(c7 kvs k v).length<=ZI:=by have:=dM kvs k v;omega
  refine wpAny_setItem_heap (hsz:=hz) (Mw hu) (kE I.hok eb) dd λh' dd' hs=>h _ ?_
  obtain⟨q,es,ep,hq,h2,h3,h4,_,h5⟩:=dd';refine lH I (by rw[e];exact Mq) hs ⟨q,hq⟩ ⟨hl,hd,_,(rel.put k eb rv).keeps λc ys ec=>?_,q,es,ep,hq,h2,h3,h4,h5⟩
  rw[aM (md ec e (λz=>nomatch z))]
  exact ec
end
def Ce(i:ZG):Prop:=∀ov iv,Qp i ZD ov iv=operate [ov,iv] (getItem ov iv)
variable{value:ZG}
def Ax{env:Env}{slice:ZG}{pos:Pos}{T id:String}
  (hl:OP (.type T) "__getitem__" =pure (ZA (.builtin id))) (hs:Ce slice)
  (h:ZJ (ZK prog w) A (eval value env) (λo s₁=>ZJ (ZK prog w) A (eval slice env) (λi s₂=>s₂.TypeIs o T/\ZJ (ZK prog w) A (getItem o i) Q E s₂) E s₁) E s):
  ZJ (ZK prog w) A (eval (.Subscript value slice pos) env) Q E s:=by
 refine Rv (Kw h (λo s₁ h₁=>Kw h₁ (λi s₂ h₂=>?_) λ_ _ x=>x) λ_ _ x=>x)
 obtain⟨hT,h₂⟩:=h₂;unfold O5;refine Jy ?_
 rw[getitemInPython_of_ne hT.not_modules];refine Jy (wpAny_specialOf hT hl ?_)
 have fin:ZJ (ZK prog w) A (Qp slice ZD o i) (λr s₃=>ZJ (ZK prog w) A (letTemporaryGo value o r >>= λ_=>pure r) Q E s₃) E s₂:=by
  rw[hs o i];exact wpAny_operating (Kw h₂ (λr s₃ h₃=>Jy (wpAny_letTemporaryGo (JK h₃))) λ_ _ x=>x)
 first
  |exact JK (Jy fin)
  |exact Jy (JK (Jy fin))
  |exact Jy fin
def rZ{o:Option V}(I:Inv X ca σ H s)(g:DGet H a y o):s.TypeIs (.ref a) "dict":=by
 rcases g with⟨kvs,k,e,_,_⟩|⟨kvs,k,b,e,_,_,_⟩
 ·obtain⟨_,_,vs,_,dd⟩:=rY I.hok e
  exact dd.typeIs
 ·obtain⟨_,_,xs,_,dd⟩:=rV I.hok e
  exact dd.typeIs
def Gg(td ty:TE):TE:=λσ H Q=>td σ H λx H1=>ty σ H1 λy H2=>∃a v,x=.ref a/\DGet H2 a y (ZA v)/\Q v H2
def Gk(td ty tv:TE):TS:=λD σ H=>tv σ H λv H1=>td σ H1 λx H2=>ty σ H2 λy H3=>∃a H4,x=.ref a/\DPut H3 a y v H4/\D.nx σ H4
section
variable {o i e:ZG}{pos pos' tpos:Pos}{td ty tv:TE}
def Bd(hu:X.A.units+1<cLine)(ho:PE X o td)(hi:PE X i ty)(hs:Ce i):PE X (.Subscript o i pos) (Gg td ty):=by
 intro ca s σ H Q I h;refine Ax PySem.F.slot_dict_getitem.lookup hs (bN (ho ca s σ H _ I h) λu s1 ⟨x,H1,I1,rx,q1⟩=>bN (hi ca s1 σ H1 _ I1 q1) λiv s2 hh_=>?_)
 obtain⟨y,H2,I2,ry,a,v,ex,g,q2⟩:=hh_;subst ex;obtain rfl:u=Kf a:=rx;exact⟨rZ I2 g,wA hu I2 g ry λw' s3 I3 rw'=>⟨v,H2,I3,rw',q2⟩⟩
def A1(hu:X.A.units+1<cLine)(ho:PE X o td)(hi:PE X i ty)(hv:PE X value tv)(hs:Lx value (ZA (.Subscript o i pos')) pos.line X.env=pure ZD):
  PS X (.Assign [.Subscript o i pos'] value pos) (Gk td ty tv):=by
 intro ca s σ H D I h;refine wpAny_Assign_Subscript (bN (hv ca s σ H _ I h) λr s1 ⟨v,H1,I1,rv,q1⟩=>bN (ho ca s1 σ H1 _ I1 q1) λu s2 ⟨x,H2,I2,rx,q2⟩=>bN (hi ca s2 σ H2 _ I2 q2) λiv s3 ⟨y,H3,I3,ry,a,H4,ex,g,q3⟩=>?_) hs
 subst ex;obtain rfl:u=Kf a:=rx;exact wz hu I3 g ry rv λs4 I4=>⟨σ,H4,I4,q3⟩
end
def rW(h:ZH)(hb:Mr<h.objs.size):ObjOk P w H (h.push {cls:=.type "dict",data:=.dict #[]}) h.objs.size (.dT []):=
 ⟨KI _,beq_eq_false_iff_ne.mpr (MV (K6 hb)),[],.nil,_,#[],0,JP _ rfl,⟨rfl,rfl,rfl⟩,rfl,rfl,MR⟩
structure M1 (X:Cx)(o:ZG)(m:Str)(apos:Pos)(e:ZG)(cpos:Pos):Prop where
 base:Kx o m X.env (eval o X.env)=eval o X.env
 few:((backTo cpos (JZ [e] X.env)).all (λx=>!x.1)&&(backToKw cpos (Sr [] X.env)).all (λx=>x.1.isSome)
  &&decide (([e]:List ZG).length+([]:List Ss).length+(if ([]:List Ss).isEmpty then 0 else 1)<30))=ZC
 line:(apos.endLine == cpos.line)=ZC
 trees:backTo cpos (JZ [e] X.env)=[(ZD,eval e X.env)]
structure M2 (X:Cx)(o:ZG)(m:Str)(apos:Pos)(e f:ZG)(cpos:Pos):Prop where
 base:Kx o m X.env (eval o X.env)=eval o X.env
 few:((backTo cpos (JZ [e,f] X.env)).all (λx=>!x.1)&&(backToKw cpos (Sr [] X.env)).all (λx=>x.1.isSome)
  &&decide (([e,f]:List ZG).length+([]:List Ss).length+(if ([]:List Ss).isEmpty then 0 else 1)<30))=ZC
 line:(apos.endLine == cpos.line)=ZC
 trees:backTo cpos (JZ [e,f] X.env)=[(ZD,eval e X.env),(ZD,eval f X.env)]
def IsD(H:Hp)(a:ZE):Prop:=(∃kvs,Rd H a (.dK kvs))\/∃kvs,Rd H a (.dT kvs)
def EN(I:Inv X ca σ H s)(d:IsD H a):
  s.TypeIs (.ref a) "dict"/\(∀b,Kf a=.ref b->∃ob,s.heap.get? b=ZA ob/\ob.dict=ZB)/\(a == Mr)=ZD:=by
 rcases d with⟨kvs,e⟩|⟨kvs,e⟩
 ·obtain⟨_,hd,vs,_,dd⟩:=rY I.hok e
  refine⟨dd.typeIs,λb q=>?_,hd⟩
  cases q;obtain⟨ob,_,_,h1,h2,_⟩:=dd;exact⟨ob,h1,h2.2.1⟩
 ·obtain⟨_,hd,xs,_,dd⟩:=rV I.hok e
  refine⟨dd.typeIs,λb q=>?_,hd⟩
  cases q;obtain⟨ob,_,_,h1,h2,_⟩:=dd;exact⟨ob,h1,h2.2.1⟩
section
variable {d:V}{u r:JD}{o:Option V}
def Fp(hu:A.units+1<cLine)(I:Inv X ca σ H s)(g:DGet H a y o)(ry:RelV y u)(h:∀w' s',Inv X ca σ H s'->RelV (o.getD .non) w'->Q w' s'):
  ZJ (ZK X.prog X.w) A (call (.builtin "dict.get") [.ref a,u]) Q E s:=by
 rcases g with⟨kvs,k,e,ey,l⟩|⟨kvs,k,b,e,ey,eb,l⟩
 ·subst ey
  obtain⟨z,hd,vs,rel,dd⟩:=rY I.hok e;refine call_meetsIn NF dd.typeIs Pf (OS _ _) (meets_dict_get (cb X.prog X.w) a (uM ry) hd) ⟨_,dd.mapOf,h _ _ (I.tok _) ?_⟩
  rw[l];exact(rel.val k).getD rfl
 ·subst ey
  cases (show u=Kf b from ry)
  obtain⟨z,hd,xs,rel,dd⟩:=rV I.hok e;refine call_meetsIn NF dd.typeIs Pf (OS _ _) (meetsH_dict_get (N1 (cb X.prog X.w)) a b hd) ⟨Mw hu,k,xs,kE I.hok eb,dd,h _ _ (I.tok _) ?_⟩
  rw[l];exact(rel.val k).getD rfl
end
def C7(td ty:TE):TE:=λσ H Q=>td σ H λx H1=>∃a,x=.ref a/\IsD H1 a/\ty σ H1 λy H2=>∃o,DGet H2 a y o/\Q (o.getD .non) H2
section
variable {o e f:ZG}{apos cpos:Pos}{td ty tx:TE}
def x9(hu:X.A.units+1<cLine)(ho:PE X o td)(he:PE X e ty)(m:M1 X o "get" apos e cpos):PE X (.Call (.Attribute o "get" apos) [e] [] cpos) (C7 td ty):=by
 intro ca s σ H Q I h;refine wpAny_Call_method m.base m.few m.line PySem.F.plainAttrs_dict NF PySem.F.type_dict_get (bN (ho ca s σ H _ I h) λu s1 hh_=>?_)
 obtain⟨x,H1,I1,rx,a,ex,d,q1⟩:=hh_;subst ex;obtain rfl:u=Kf a:=rx;obtain⟨t1,t2,_⟩:=EN I1 d;refine⟨t1,t2,?_⟩
 rw[m.trees];refine Lp rfl (Ln (K7 (bN (he ca s1 σ H1 _ I1 q1) λiv s2 ⟨y,H2,I2,ry,ov,g,q2⟩=>Li ?_)))
 exact Fp hu I2 g ry λw' s3 I3 rw'=>⟨_,H2,I3,rw',q2⟩
end
end L2
namespace Tr
open PySem PySem.Spec PyProof.Rows L2
variable{H:Hp}{a:ZE}{k:List Key}{kvs:List (List Key×V)}
def DGet.Jn{b:ZE}(e:Rd H a (.dT kvs))(eb:H b=ZA (.tup (k.map kV))):DGet H a (.ref b) (jt kvs k):=.inr ⟨kvs,k,b,e,rfl,eb,rfl⟩
def ER{k:Nat}(h:Room k A):A.units+1<cLine:=by have:=h.un;omega
variable{O:Ow}
theorem mn:∀{l:List T}{vs:List V}{k:List Key},mq l=ZA k->Reps K O H l vs->vs=k.map kV
 |[],vs,k,h,r=>by cases Reps.Da.mp r;cases h;rfl
 |t::l,vs,k,h,r=>by
  obtain⟨v,ws,rfl,p,q⟩:=Reps.AC.mp r;unfold mq at h
  cases e1:CB t with
  |none=>rw[e1]at h;cases h
  |some a=>
   cases e2:mq l with
   |none=>rw[e1,e2]at h;cases h
   |some b=>
    rw[e1,e2]at h;cases h;rw[mn e2 q,JG]
    congr 1
    cases t with
    |int i=>cases e1;exact Rep.Do.mp p
    |str x=>cases e1;exact Rep.FS.mp p
    |_=>cases e1
variable{v:V}
def j6{y:T}(h:keyOf y=ZA k)(r:Rep K O H y v):∃b,v=.ref b/\H b=ZA (.tup (k.map kV)):=by
 cases y with
 |tup l=>
  obtain⟨a,vs,e1,_,e3,e4⟩:=Rep.FB.mp r;rw[mn h e4]at e3
  exact⟨a,e1,e3⟩
 |_=>cases h
theorem mJ:∀{ks ts:List T}{kvs:List (List Key×V)},ks.map keyOf=kvs.map (λp=>ZA p.1)->Reps K O H ts (kvs.map (·.2))->match mK ks ts k with
  |some t=>∃v,jt kvs k=ZA v/\Rep K O H t v
  |none=>jt kvs k=ZB
 |[],ts,kvs,h,r=>by
  cases kvs with
  |nil=>unfold mK;exact xc
  |cons _ _=>cases h
 |k'::ks,ts,kvs,h,r=>by
  cases kvs with
  |nil=>cases h
  |cons p kvs=>
   rw[JG,JG]at h;injection h with h1 h2
   rw[JG]at r
   cases ts with
   |nil=>have:=Reps.Da.mp r;cases this
   |cons t ts=>
    obtain⟨v,ws,e,q1,q2⟩:=Reps.AC.mp r;injection e with e1 e2
    subst e1 e2;unfold mK
    by_cases hk:keyOf k'=ZA k
    ·rw[if_pos hk]
     rw[h1]at hk;injection hk with hk
     exact⟨_,jL hk,q1⟩
    ·rw[if_neg hk]
     have hk2:¬ p.1=k:=λz=>hk (by rw[h1,z])
     rw[jM hk2];exact mJ h2 q2
def pq [DecidableEq κ]{k:κ}{p:κ×V}{r:List (κ×V)}(h:¬ p.1=k):c7 (p::r) k v=p::c7 r k v:=by
 unfold c7;rw[LU,decide_eq_false h,QH]
 by_cases q:(r.any λkv=>decide (kv.1=k))=ZC
 ·rw[if_pos q,if_pos q,JG,if_neg h]
 ·rw[if_neg q,if_neg q];rfl
def pv [DecidableEq κ]{k:κ}{p:κ×V}{r:List (κ×V)}(h:p.1=k)(hn:∀q∈r,q.1≠k):c7 (p::r) k v=(p.1,v)::r:=by
 unfold c7;rw[LU,decide_eq_true h,Bool.true_or,if_pos rfl,JG,if_pos h]
 congr 1
 conv=>rhs;rw[<-List.map_id r]
 exact Kp λq hq=>if_neg (hn q hq)
theorem mI{kT vT:T}(hk:keyOf kT=ZA k)(hv:Rep K O H vT v):∀{ks ts:List T}{kvs:List (List Key×V)},ks.map keyOf=kvs.map (λp=>ZA p.1)->Reps K O H ts (kvs.map (·.2))->(kvs.map (·.1)).Nodup →
  (gF kT vT ks ts).1.map keyOf=(c7 kvs k v).map (λp=>ZA p.1)/\Reps K O H (gF kT vT ks ts).2 ((c7 kvs k v).map (·.2))
 |[],ts,kvs,h,r,_=>by
  cases kvs with
  |nil=>
   unfold gF;refine⟨?_,Reps.GE hv Reps.GT⟩
   simp[c7,hk]
  |cons _ _=>cases h
 |k'::ks,ts,kvs,h,r,hn=>by
  cases kvs with
  |nil=>cases h
  |cons p kvs=>
   rw[JG,JG]at h;injection h with h1 h2
   rw[JG]at r;rw[JG]at hn;obtain⟨n1,n2⟩:=KA.mp hn
   cases ts with
   |nil=>have:=Reps.Da.mp r;cases this
   |cons t ts=>
    obtain⟨v',ws,e,q1,q2⟩:=Reps.AC.mp r;injection e with e1 e2
    subst e1 e2;unfold gF
    by_cases hz:keyOf k'=keyOf kT
    ·rw[if_pos hz]
     have hp:p.1=k:=by rw[hz,hk]at h1;injection h1 with h1;exact h1.symm
     rw[pv hp λq hq z=>n1 (by rw[hp,<-z];exact List.mem_map_of_mem hq)]
     exact⟨by rw[JG,JG,h1,h2],Reps.GE hv q2⟩
    ·rw[if_neg hz]
     have hp:¬ p.1=k:=λz=>hz (by rw[h1,z,hk])
     obtain⟨a1,a2⟩:=mI hk hv h2 q2 n2;rw[pq hp];exact⟨by rw[JG,JG,h1,a1],Reps.GE q1 a2⟩
def Cf{xs:List (List Key×ZE×JD)}(rel:KT H kvs xs):kvs.map (·.1)=xs.map (·.1):=by
 induction rel with
 |nil=>rfl
 |cons h t ih=>rw[JG,JG,ih,h.1]
variable{X:Cx}
def zC{ca:V3}{σ:L2.St}(I:Inv X ca σ H s)(e:H a=ZA (.dT kvs)):(kvs.map (·.1)).Nodup/\kvs.length<=ZI:=by
 obtain⟨z,_,xs,rel,_,_,_,_,_,_,_,_,hn⟩:=uY I.hok e;rw[Cf rel];exact⟨hn,z⟩
variable{a b:ZG}{fa fb:V6}
section
variable {pos:Pos}
def GO(hu:X.A.units+1<cLine)(ha:cy X a fa)(hb:cy X b fb)(hs:autoParam (Ce b) x_):cy X (.Subscript a b pos) (o2 ja fa fb):=by
 refine PE.imp (Bd hu ha hb hs) λσ H Q ⟨ρ,O,E,hq⟩=>?_
 obtain⟨ρ1,O1,E1,h1⟩:=aO E hq;refine⟨ρ1,O1,E1,Post.mono h1 λt H1 s1 q v r=>?_⟩
 obtain⟨t',r',s',E',q'⟩:=q v r;obtain⟨ρ2,O2,E2,h2⟩:=aO (f:=fb) E' q';refine⟨ρ2,O2,E2,Post.mono h2 λt2 H2 s2 q2 v2 r2=>?_⟩
 obtain⟨t2',r2',s2',E2',q2'⟩:=q2 v2 r2
 have r'':=r'.same s2';unfold ja at q2'
 split at q2'
 ·rename_i ks vs k hk
  split at q2'
  ·rename_i x hx
   obtain⟨a,kvs,e1,e2,e3,e4,e5⟩:=Rep.Iq.mp r'';obtain⟨b,f1,f2⟩:=j6 hk r2'
   have g:=mJ (k:=k) e4 e5;rw[hx]at g;obtain⟨w,g1,g2⟩:=g;exact⟨a,w,e1,by rw[f1,<-g1];exact DGet.Jn e3 f2,q2' H2 (Same.refl H2) w g2⟩
  ·exact q2'.elim
 ·exact q2'.elim
end
open PySem.SeqAt
variable{x:T}
def yx(rx:ReV s x ux)(hu:A.units+60<cLine){l:List T}(hd:x.dep<=60\/deps l<=60)(r:ReVs s l us):
  ∃e:JD->Bool,(∀y∈us,EqAt A s y ux (e y))/\us.map e=l.map λt=>aX t x:=by
 classical
 have ex:∀y∈us,∃t∈l,ReV s t y:=λy hy=>by
  obtain⟨i,hi,rfl⟩:=Mk hy
  have hl:=r.length
  have e1:l[i]?=ZA l[i]:=by simp
  obtain⟨u,q1,q2⟩:=r.get e1
  have:us[i]?=ZA us[i]:=by simp
  rw[this]at q1;cases q1;exact⟨l[i],Lg _,q2⟩
 let e:JD->Bool:=λy=>decide (∃t∈l,ReV s t y/\aX t x=ZC)
 have dep:∀t∈l,t.dep<=60\/x.dep<=60:=λt ht=>by
  rcases hd with h|h
  ·exact .inr h
  ·obtain⟨i,hi,rfl⟩:=Mk ht
   exact .inl (J5 (ix (i:=i) (by simp)) h)
 have uniq:∀y t t',ReV s t y->ReV s t' y->aX t x=aX t' x:=λy t t' z z'=>by
  rw[<-kg t,<-kg t',ReV.nf z z']
 have agree:∀y t,t∈l->ReV s t y->e y=aX t x:=λy t h z=>by
  show decide (∃t∈l,ReV s t y/\aX t x=ZC)=aX t x
  cases q:aX t x with
  |true=>exact decide_eq_true ⟨t,h,z,q⟩
  |false=>
   refine decide_eq_false ?_
   rintro ⟨t',h',z',q'⟩
   rw[<-uniq y t t' z z',q]at q';cases q'
 refine⟨e,λy hy=>?_,?_⟩
 ·obtain⟨t,h,z⟩:=ex y hy
  rw[agree y t h z];exact(BK 60 A s t x y ux (dep t h) hu z rx).1
 ·have go:∀(l':List T)(us':List JD),(∀t∈l',t∈l)->ReVs s l' us'->us'.map e=l'.map λy=>aX y x:=by
   intro l'
   induction l' with
   |nil=>intro us' _ r';rw[ReVs.Da.mp r'];rfl
   |cons t l' ih=>
    intro us' sub r';obtain⟨u,ws,rfl,p,q⟩:=ReVs.AC.mp r';rw[JG,JG,ih ws (λt ht=>sub t (JF _ ht)) q,agree u t (sub t JI) p]
  exact go l us (λ_ h=>h) r
theorem mH:∀{l:List T}{n k:Nat},iY x l n=ZA k->n<=k/\(l.map λt=>aX t x)[k - n]?=ZA ZC/\∀m,m<k - n->(l.map λt=>aX t x)[m]?=ZA ZD
 |[],n,k,h=>by cases h
 |t::l,n,k,h=>by
  unfold iY at h
  cases q:aX t x with
  |true=>
   rw[q,if_pos rfl]at h;cases h;refine⟨JO _,?_,λm hm=>by omega⟩
   rw[MB,JG,q];rfl
  |false=>
   rw[q,if_neg (by decide)]at h
   obtain⟨h1,h2,h3⟩:=mH h
   have e:k - n=(k - (n+1))+1:=by omega
   refine⟨by omega,?_,λm hm=>?_⟩
   ·rw[e,JG,Ml];exact h2
   ·cases m with
    |zero=>rw[JG,q];rfl
    |succ m=>rw[JG,Ml];exact h3 m (by omega)
section
variable {pos apos cpos:Pos}
def xQ(hu:X.A.units+61<cLine)(ha:cy X a fa)(hb:cy X b fb)(hn:autoParam (bx b=ZC) u_)
  (hbase:autoParam (Kx a "index" X.env (eval a X.env)=eval a X.env) u_) (hline:autoParam ((apos.endLine == cpos.line)=ZC) u_):cy X (.Call (.Attribute a "index" apos) [b] [] cpos) (oL fP fa fb):=by
 have hs:JZ [b] X.env=(ZD,eval b X.env)::JZ [] X.env:=a7 hn;intro ca s σ H Q I ⟨ρ,O,E,hq⟩;refine LM hbase (by rw[hs];rfl) hline rfl (bN (ha ca s σ H _ I (aO E hq)) λv s1 hh_=>?_)
 obtain⟨x,H1,I1,r1,t,rt,s',E',q1⟩:=hh_
 cases t with
 |lst l=>
  obtain⟨c,vs,e1,e2,e3,e4⟩:=Rep.Fk.mp rt;subst e1;obtain rfl:v=Kf c:=r1;obtain⟨h1,h2⟩:=xj I1 (show RelV (.ref c) (.ref c)from rfl) (.inl ⟨rfl,vs,SqL.of e3⟩)
  refine⟨_,_,Nb,PySem.F.slot_list_index,PySem.F.type_list_index,h1,h2,?_⟩
  rw[hs];refine Lp rfl (Ln (K7 (bN (hb ca s1 σ H1 _ I1 (aO (f:=fb) E' q1)) λu s2 ⟨y,H2,I2,r2,t2,rt2,s'',E'',q2⟩=>Li ?_)))
  unfold fP at q2
  split at q2
  ·rename_i l' heq
   cases heq
   split at q2
   ·rename_i hd3
    obtain⟨hd,hnx,hny⟩:=hd3
    split at q2
    ·rename_i k hk
     have rv:=Rep.val I2 (show(T.lst l).nd=ZC by unfold T.nd;exact hny) (rt.same s'') (show RelV (.ref c) (.ref c)from rfl)
     unfold ReV at rv;obtain⟨c',us,ec,hl,rs⟩:=rv;cases ec;obtain⟨⟨cls,dd,data,sl⟩,ho,hc,n,hdd⟩:=id hl;simp only at hc hdd;subst hc hdd;obtain⟨e,he,ha⟩:=yx (A:=X.A.in1) (Rep.val I2 hnx rt2 r2) (by show X.A.units+1+60<cLine;omega) hd rs
     obtain⟨_,k1,k2⟩:=mH hk;rw[Mg]at k1 k2;rw[<-ha]at k1 k2
     have hkl:k<us.length:=by have:=(Kb.mp k1).1;rwa [JE]at this
     have hz:us.length<=ZI:=by
      have z:=(I2.IC (s'' _ _ e3)).1
      have h3:=rs.length
      have h4:=e4.length;omega
     refine Ms F.slot_list_index ⟨_,ho,rfl⟩ F.entry_list_index (F.args_list_index_2 _ _) (list_indexAt c us.toArray n dd sl u e k (by simpa using hkl) (by rw[KW]at hz;omega) ?_ ?_) ⟨ho,λy hy=>he y (by simpa using hy),?_⟩
     ·have:=(Kb.mp k1).2
      rw[Pa]at this
      simpa using this
     ·intro m hm hmk
      have:=(Kb.mp (k2 m hmk)).2
      rw[Pa]at this
      simpa using this
     ·exact⟨.int _,H2,I2.tok _,⟨_,rfl⟩,q2 H2 (Same.refl H2) _ (Rep.Iv _)⟩
    ·exact q2.elim
   ·exact q2.elim
  ·rename_i hno
   exact(hno l rfl).elim
 |_=>exact q1.elim
def DL(hu:X.A.units+1<cLine)(ha:cy X a fa)(hb:cy X b fb)(hn:autoParam (bx b=ZC) u_)
  (hbase:autoParam (Kx a "get" X.env (eval a X.env)=eval a X.env) u_) (hline:autoParam ((apos.endLine == cpos.line)=ZC) u_):cy X (.Call (.Attribute a "get" apos) [b] [] cpos) (oD gY fa fb):=by
 have hs:JZ [b] X.env=(ZD,eval b X.env)::JZ [] X.env:=a7 hn;refine PE.imp (x9 hu ha hb ⟨hbase,by rw[hs];rfl,hline,by rw[hs];rfl⟩) λσ H Q ⟨ρ,O,E,hq⟩=>?_
 obtain⟨ρ1,O1,E1,h1⟩:=aO E hq;refine⟨ρ1,O1,E1,Post.mono h1 λt H1 s1 q v r=>?_⟩
 obtain⟨t',r',s',E',q'⟩:=q v r
 cases t' with
 |dct ks vs=>
  obtain⟨c,kvs,e1,e2,e3,e4,e5⟩:=Rep.Iq.mp r';refine⟨c,e1,.inr ⟨kvs,e3⟩,?_⟩
  obtain⟨ρ2,O2,E2,h2⟩:=aO (f:=fb) E' q';refine⟨ρ2,O2,E2,Post.mono h2 λt2 H2 s2 q2 v2 r2=>?_⟩
  obtain⟨t2',r2',s2',E2',q2'⟩:=q2 v2 r2;unfold gY at q2'
  split at q2'
  ·rename_i ks' vs' k heq hk
   cases heq;obtain⟨b,f1,f2⟩:=j6 hk r2'
   have g:=mJ (k:=k) e4 (e5.same s2');refine⟨jt kvs k,by rw[f1];exact DGet.Jn (Rd.IZ (P:=vW) (SameO.of s2') (λz=>z) e3) f2,?_⟩
   cases hx:mK ks vs k with
   |some z=>
    rw[hx]at g q2';obtain⟨w,g1,g2⟩:=g;rw[g1]
    exact q2' H2 (Same.refl H2) w g2
   |none=>
    rw[hx]at g q2';rw[g];exact q2' H2 (Same.refl H2) .non Rep.IR
  ·exact q2'.elim
 |_=>exact q'.elim
end
section
variable {c:ZG}{fc:V6}{pos p2 p3 p4:Pos}{x:Str}
def Du(i:Nat)(hu:X.A.units+1<cLine)(hb:cy X b fb)(hc:cy X c fc)(hN:autoParam (X.N[i]?=ZA x) u_)(hv:autoParam (vn X.env.scope x) v_)
  (hd:autoParam ((x == ("__debug__" : Str))=ZD) s_) (hcd:autoParam ((x == ("__classdict__" : Str))=ZD) s_)
  (hs:autoParam (Lx c (ZA (.Subscript (.Name x p2) b p3)) pos.line X.env=pure ZD) u_):qt X (.Assign [.Subscript (.Name x p2) b p3] c pos) (vL i fb fc):=by
 intro ca s σ H D I ⟨ρ,B,M,E,h⟩;refine A1 hu (pA hN hv hd hcd) hb hc hs ca s σ H D I ?_
 unfold vL at h
 split at h
 ·rename_i ks vs hl
  obtain⟨v0,e1,d,kvs,rfl,hM,e3,e4,e5⟩:=E.env.own i _ hl;obtain⟨nd,nz⟩:=zC I e3;refine⟨ρ,OO B M,E.o,?_⟩
  cases q:fc ρ with
  |bad=>rw[q]at h;exact h.elim
  |err c=>rw[q]at h;exact PostF.xa h
  |ok vT=>
   rw[q,aA]at h;intro H1 s1 v r;refine⟨.ref d,e1,ρ,OO B M,(E.same s1).o,?_⟩
   have h1:=h.later (SameO.of s1) (P1:=M.u) λa z=>.inl z
   cases q2:fb ρ with
   |bad=>rw[q2]at h1;exact h1.elim
   |err c=>rw[q2]at h1;exact PostF.xa h1
   |ok kT=>
    rw[q2,aA]at h1;intro H2 s2 y ry
    cases q3:keyOf kT with
    |none=>rw[q3]at h1;exact h1.elim
    |some k=>
     rw[q3]at h1
     have h2:=h1.later (SameO.of s2) (P1:=M.u) λa z=>.inl z
     have hlen:ks.length=kvs.length:=by have:=congrArg Lh e4;simpa using this
     by_cases hz:ks.length<1000
     ·simp only[if_pos hz]at h2
      obtain⟨kb,f1,f2⟩:=j6 q3 ry
      have e3':=s2 _ _ (s1 _ _ e3);obtain⟨g1,g2⟩:=mI q3 (r.same s2) e4 ((e5.same s1).same s2) nd;refine⟨d,upd H2 d (.dT (c7 kvs k v)),rfl,by rw[f1];exact DPut.t e3' f2 (by rw[KW];omega),?_⟩
      have sm:SameO (M i) H2 (upd H2 d (.dT (c7 kvs k v))):=λc u e nb=>by rw[aM (λz=>nb ((hM c).mpr z))];exact e
      obtain⟨g3,g4⟩:=((E.same s1).same s2).put (o':=.dct (gF kT vT ks vs).1 (gF kT vT ks vs).2) hl e1 sm ⟨d,_,rfl,hM,aZ,g1,g2.move (P:=M i) (λa z=>.inl (.inr ⟨i,z⟩)) (λa z=>.inl z) sm⟩
      exact h2 σ _ M g4 g3 λc z=>.inl z
     ·simp only[if_neg hz]at h2
      exact h2.elim
 ·exact h.elim
end
end Tr
namespace PySem
open Sem (wp)
namespace F
def lk_list_keys:OP (.type "list") "keys" =pure ZB:=by rw[N4,ME];kernel_rfl
def lk_list_getattr:OP (.type "list") "__getattr__" =pure ZB:=by rw[N4,ME];kernel_rfl
end F
variable{tk:Tok}
section
variable {h:ZH}{g:Array R8}{d:Sx}{t:Nat}{a:ZE}{its:Array JD}
def lg{Q:Fin->JB->Prop}(hx:h.get? a=ZA {cls:=.type "list",data:=.seq its n})(hh:A.handled=ZB)
  (hq:∀h' tk' e,NZ h h' e (.ref a) "keys"->E (.ref e) ⟨h',g,d,tk',os⟩):
  ZJ (ZK prog w) A (Builtin.«object.__getattribute__» ⟨[.ref a,.str "keys" tk],[]⟩) Q E ⟨h,g,d,t,os⟩:=by
 have hT:(⟨h,g,d,t,os⟩:JB).TypeIs (.ref a) "list":=⟨_,hx,rfl⟩
 have f4:=F.lk_list_keys
 repeat (any_goals (first|assumption|wp_step))
 exact P5 hh (λh' tk e hx=>hq h' tk e hx) (attrMsg_fits (by decide+kernel) (by rw[KW];decide))
def ml(hx:h.get? a=ZA {cls:=.type "list",data:=.seq its n})(hh:A.handled=ZB)
  (hq:∀h' tk' e,NZ h h' e (.ref a) "keys"->R (.error (.ref e)) ⟨h',g,d,tk',os⟩):
  codeAny (ZK prog w) A (.call (.builtin "list.__getattribute__") ⟨[.ref a,.str "keys" tk],[]⟩) R ⟨h,g,d,t,os⟩:=
 P6 L7.plain F.entry_list_ga (L7.check _ _ _ _ _ _ _ _ (show(⟨h,g,d,t,os⟩:JB).TypeIs (.ref a) "list" from⟨_,hx,rfl⟩) (F.args_list_getattribute_2 _ _) (lg hx hh hq))
def mm{Q:Option JD->JB->Prop}(hx:h.get? a=ZA {cls:=.type "list",data:=.seq its n})(hh:A.handled=ZB)
  (hq:∀h' tk',(∀b o,h.get? b=ZA o->h'.get? b=ZA o)->Q ZB ⟨h',g,d,tk',os⟩):ZJ (ZK prog w) A (getAttr? (.ref a) "keys") Q E ⟨h,g,d,t,os⟩:=by
 have hT:∀tk,(⟨h,g,d,tk,os⟩:JB).TypeIs (.ref a) "list":=λ_=>⟨_,hx,rfl⟩
 have f1:=Q8
 have f2:=L7.lookup
 have f3:=L7.bind (.ref a)
 have f5:=F.lk_list_getattr;unfold getAttr? getAttrBy? getAttrBy
 repeat (any_goals (first|assumption|exact hT _|wp_step))
 refine ml hx hh λh' tk' e hx'=>?_
 obtain⟨t',u',he⟩:=hx'.there
 repeat (any_goals (first|assumption|exact hT _|wp_step))
 exact hq _ _ hx'.keeps
end
end PySem
namespace PySem.F
def entry_dict_update_loop:Sa table "dict.update.loop" =ZA Builtin.«dict.update.loop»:=entryFor_of_tree (by kernel_rfl)
def plain_dict_update_loop:plainId "dict.update.loop" =ZC:=by decide+kernel
end PySem.F
namespace Tr
open PySem PySem.Spec PyProof.Rows L2
def fM(kvs:List (List Key×V)):List (List Key×V)->List (List Key×V)
 |[] =>kvs
 |p::ps=>fM (c7 kvs p.1 p.2) ps
def PairsAt(H:Hp):List V->List (List Key×V)->Prop
 |[],ps=>ps=[]
 |x::xs,ps=>∃b kb p r,ps=p::r/\x=.ref b/\H b=ZA (.tup [.ref kb,p.2])/\H kb=ZA (.tup (p.1.map kV))/\PairsAt H xs r
variable{H:Hp}{kvs:List (List Key×V)}
theorem PairsAt.upd{d:ZE}{o:HO}(hd:H d=ZA (.dT kvs)):∀{xs:List V}{ps:List (List Key×V)},PairsAt H xs ps->PairsAt (L2.upd H d o) xs ps
 |[],_,h=>h
 |x::xs,_,⟨b,kb,p,r,e1,e2,e3,e4,e5⟩=>⟨b,kb,p,r,e1,e2,by rw[aM (md e3 hd (λz=>nomatch z))];exact e3,by rw[aM (md e4 hd (λz=>nomatch z))];exact e4,e5.upd hd⟩
def iI{d:ZE}{a b:HO}:upd (upd H d a) d b=upd H d b:=by
 funext c
 by_cases h:c=d
 ·rw[h,aZ,aZ]
 ·rw[aM h,aM h,aM h]
variable{X:Cx}{ca:V3}{xs:List V}{σ:L2.St}
section
variable {R:Nu->JB->Prop}{d l it:ZE}
def wy(hh:A.handled=ZB)(hu:A.units+3<cLine):∀(k i:Nat)(s:JB)(H:Hp)(kvs ps:List (List Key×V)),xs.length - i=k->i<=xs.length->H l=ZA (.lst xs)->H d=ZA (.dT kvs)->kvs.length+(xs.length - i)<=1000->Inv X ca σ H s->s.heap.IsListIter it l i->gZ X ca H it->PairsAt H (xs.drop i) ps →
  (∀s',Inv X ca σ (upd H d (.dT (fM kvs ps))) s'->R (.ok (.ret res)) s')->codeAny (ZK X.prog X.w) A (.builtin "dict.update.loop" ⟨[.ref d,.ref it,rawInt i,res],[]⟩) R s:=by
 intro k
 induction k with
 |zero=>
  intro i s H kvs ps hk hi hl hd hz I hit hf hp hR;refine N5 F.entry_dict_update_loop ?_
  rw[MO F.plain_dict_update_loop _];obtain⟨z,its,n,r,hlen,e⟩:=I.IC hl
  have hL:s.heap.IsList l its.toArray:=⟨_,e,rfl,n,rfl⟩
  show ZJ _ A.in1 (pyNext (.ref it) >>= _) _ _ s
  refine Jy (PJ hh hit hL (by simp;omega) λh' hm=>?_)
  show ZJ _ _ (OA d [] >>= _) _ _ _
  refine Jy (JK (JK ?_))
  have hnil:xs.drop i=[]:=Mt (by omega)
  rw[hnil]at hp;unfold PairsAt at hp;subst hp
  have e2:upd H d (.dT (fM kvs []))=H:=by
   funext b
   by_cases hb:b=d
   ·rw[hb,aZ,hd];rfl
   ·rw[aM hb]
  rw[e2]at hR
  exact hR _ (I.Ir (fp:=[it]) (t':=s.toks) (λb hb=>by rw[JY.mp hb];exact hf) λb o hb eb=>hm b o (λz=>hb (by rw[z];exact JY.mpr rfl)) eb)
 |succ k ih=>
  intro i s H kvs ps hk hi hl hd hz I hit hf hp hR;refine N5 F.entry_dict_update_loop ?_
  rw[MO F.plain_dict_update_loop _];obtain⟨z,its,n,r,hlen,e⟩:=I.IC hl
  have hL:s.heap.IsList l its.toArray:=⟨_,e,rfl,n,rfl⟩
  have hlt:i<xs.length:=by omega
  have hlt':i<its.length:=by omega
  show ZJ _ A.in1 (pyNext (.ref it) >>= _) _ _ s
  refine Jy (Pj hit hL (x:=its[i]) (by simp[hlt']) λh' hit' hm=>?_)
  have I1:Inv X ca σ H {s with heap:=h'}:=I.Ir (fp:=[it]) (t':=s.toks) (λb hb=>by rw[JY.mp hb];exact hf) λb o hb eb=>(hm.2 b (λz=>hb (by rw[z];exact JY.mpr rfl))).trans eb
  have hdrop:xs.drop i=xs[i] ::xs.drop (i+1):=Ld hlt;rw[hdrop]at hp;obtain⟨b,kb,p,r',rfl,ex,hb,hkb,hp'⟩:=hp
  have rx:RelV xs[i] its[i]:=by
   obtain⟨u,q1,q2⟩:=r.get (JW hlt)
   rw[JW hlt']at q1
   cases q1;exact q2
  rw[ex]at rx
  have eu:its[i]=Kf b:=rx;rw[eu];obtain⟨z2,its2,r2,ob,hob1,hob2,nb,hob3⟩:=(show ObjOk X.prog X.w H h' b (.tup [.ref kb,p.2])from I1.hok b _ hb)
  obtain⟨u1,us1,q1,rfl⟩:∃u1 us1,RelV (V.ref kb) u1/\its2=u1::us1:=by cases r2 with|cons a b=>exact⟨_,_,a,rfl⟩
  cases r2 with
  |cons ra rb=>
   obtain⟨u2,q2,rfl⟩:∃u2,RelV p.2 u2/\us1=[u2]:=by cases rb with|cons a b=>cases b;exact⟨_,a,rfl⟩
   obtain rfl:u1=Kf kb:=q1
   show ZJ _ A.in1 (holding [Kf b] _ >>= _) _ _ _
   refine Jy (KM ?_)
   refine Jy (wpAny_tryCatch ?_)
   unfold Pg;refine Jy (M6 (s:={s with heap:=h'}) (T:="tuple") ⟨ob,hob1,hob2⟩ ?_)
   rw[if_pos (by decide)]
   refine Jy (KD (s:={s with heap:=h'}) hob1 hob3 (JK ?_))
   show ZJ _ _ (holding [Kf kb,u2] (dictSet d (.ref kb) u2)) _ _ _
   refine KM ?_
   obtain⟨zz,hds,xs2,rel,dd⟩:=uY I1.hok hd
   have hzl:xs2.length<=ZI:=by rw[<-NN rel];exact zz
   have hkl:kvs.length<ZI:=by rw[KW];omega
   have hl2:(c7 kvs p.1 p.2).length<=ZI:=by have:=dM kvs p.1 p.2;omega
   refine Q9 (hsz:=hzl) (Mw (by show A.units+1<cLine;omega)) (kE I1.hok hkb) dd λh2 dd2 hs2=>?_
   obtain⟨q,es,ep,hq,h22,h3,h4,_,h5⟩:=dd2
   have I2:Inv X ca σ (upd H d (.dT (c7 kvs p.1 p.2))) {s with heap:=h2,toks:=s.toks+(N1 (cb X.prog X.w)).draws p.1}:=
    lH (s:={s with heap:=h'}) I1 (by rw[hd];exact Mq) hs2 ⟨q,hq⟩ ⟨hl2,hds,_,(rel.put p.1 hkb q2).keeps λc ys ec=>by rw[aM (md ec hd (λz=>nomatch z))];exact ec,q,es,ep,hq,h22,h3,h4,h5⟩
   have hld:l≠d:=md hl hd (λz=>nomatch z)
   have hitd:it≠d:=λz=>by have:=hf.1;rw[z,hd]at this;cases this
   have hcast:(i:Int)+1=((i+1:Nat):Int):=by omega
   refine JK ⟨NS F.plain_dict_update_loop _,?_⟩
   rw[hcast];refine ih (i+1) _ (upd H d (.dT (c7 kvs p.1 p.2))) (c7 kvs p.1 p.2) r' (by omega) (by omega) (by rw[aM hld];exact hl) aZ (by have:=dM kvs p.1 p.2;omega) I2 ?_ ⟨by rw[aM hitd];exact hf.1,hf.2⟩ (hp'.upd hd) λs' I'=>?_
   ·obtain⟨oi,ho1,ho2,ho3⟩:=hit'
    exact⟨oi,(hs2.2 it hitd).trans ho1,ho2,ho3⟩
   ·rw[iI]at I'
    exact hR s' I'
end
theorem PairsAt.same{H':Hp}(s:Same H H'):∀{xs:List V}{ps:List (List Key×V)},PairsAt H xs ps->PairsAt H' xs ps
 |[],_,h=>h
 |x::xs,_,⟨b,kb,p,r,e1,e2,e3,e4,e5⟩=>⟨b,kb,p,r,e1,e2,s _ _ e3,s _ _ e4,e5.same s⟩
section
variable {l:ZE}{ps:List (List Key×V)}
def zB(hh:A.handled=ZB)(hu:A.units+8<cLine)(I:Inv X ca σ H s)(hl:H l=ZA (.lst xs))(hz:xs.length<=1000)(hp:PairsAt H xs ps)
  (h:∀p s',Nw X.K H p->Inv X ca σ (upd H p (.dT (fM [] ps))) s'->Q (.ref p) s'):ZJ (ZK X.prog X.w) A (call (.type "dict") [.ref l]) Q E s:=by
 have hk:X.K.lookup s.heap.objs.size=ZB:=by
  cases q:X.K.lookup s.heap.objs.size with
  |none=>rfl
  |some o=>exact absurd (JM (I.kIn _ o q)) (J3 _)
 have hn:H s.heap.objs.size=ZB:=I.hok.fresh (JO _)
 have hlp:l≠s.heap.objs.size:=λz=>by rw[z,hn]at hl;cases hl
 refine callType_codes (Q₁:=λobj s₁=>obj=.ref s.heap.objs.size/\s₁= {s with heap:=s.heap.push {cls:=.type "dict",data:=.dict #[]}}) RS (PX _) Rn (RZ _ ⟨rfl,rfl⟩) ?_
 rintro obj s₁ ⟨rfl,rfl⟩
 have I1:Inv X ca σ (upd H s.heap.objs.size (.dT [])) {s with heap:=s.heap.push {cls:=.type "dict",data:=.dict #[]}}:=I.laid (a:=s.heap.objs.size) (o:=.dT []) (t':=s.toks) (λ_ _ q=>JA _ q) (JO _) (rW s.heap I.big)
 have hT:({s with heap:=s.heap.push {cls:=.type "dict",data:=.dict #[]}}:JB).TypeIs (.ref s.heap.objs.size) "dict":=⟨_,JP _ rfl,rfl⟩
 have hl1:upd H s.heap.objs.size (.dT []) l=ZA (.lst xs):=by rw[aM hlp];exact hl
 obtain⟨z,its,n,r,hlen,e⟩:=I1.IC hl1;refine⟨hT,QJ _ _,?_⟩
 unfold Builtin.«dict.__init__»;refine Jy ?_
 unfold OB;refine Jy (PM hT ?_)
 show ZJ _ _ (pure (s.heap.objs.size,[Kf l])) _ _ _
 refine JK ?_
 show ZJ _ _ (Mh "dict.__init__" s.heap.objs.size (.ref l) [] .none) _ _ _
 unfold Mh;refine Jy (M6 (T:="list") ⟨_,e,rfl⟩ ?_)
 rw[if_pos (by decide)]
 refine Jy (mm e hh λh' tk' kp=>?_)
 have I2:Inv X ca σ (upd H s.heap.objs.size (.dT [])) {s with heap:=h',toks:=tk'}:=I1.kept (t':=tk') kp
 rw[if_pos (by rfl)]
 refine Jy (Mb ?_)
 have eL:({s with heap:=h',toks:=tk'}:JB).heap.IsList l its.toArray:=⟨_,kp _ _ e,rfl,n,rfl⟩
 refine Jy (MK eL ?_)
 have I3:Inv X ca σ (upd H s.heap.objs.size (.dT [])) {s with heap:=h'.push {cls:=.type "list_iterator",data:=.fields #[.ref l,.int 0 0]},toks:=tk'}:=I2.kept (t':=tk') λb u q=>JA _ q
 have hpl:s.heap.objs.size<h'.objs.size:=JM (kp _ _ (JP _ rfl))
 have hni:upd H s.heap.objs.size (.dT []) h'.objs.size=ZB:=by
  rw[aM (M0 hpl)];exact I.hok.fresh (Mf hpl)
 have hp1:PairsAt (upd H s.heap.objs.size (.dT [])) xs ps:=hp.same (aV hn _);refine JK ⟨NS F.plain_dict_update_loop _,?_⟩
 refine wy (A:=A.in1) (X:=X) (ca:=ca) (σ:=σ) (l:=l) (xs:=xs) (it:=h'.objs.size) hh (by show A.units+1+3<cLine;omega) xs.length 0 _ (upd H s.heap.objs.size (.dT [])) [] ps (by omega) (KI _) hl1 aZ (by simp;omega) I3 ⟨_,JP _ rfl,rfl,rfl⟩ (I2.IH (JO _) hni) hp1 λs' I'=>?_
 rw[iI]at I';exact⟨rfl,h _ _ ⟨hn,hk⟩ I'⟩
end
def hu8(h:Room k A):A.units+8<cLine:=by have:=h.un;omega
def sZ{k:List Key}{v:V}(h:(kvs.map (·.1)).Nodup):((c7 kvs k v).map (·.1)).Nodup:=by
 unfold c7
 by_cases a:(kvs.any λkv=>decide (kv.1=k))=ZC
 ·rw[if_pos a,J6]
  have:((λx=>x.1)∘λkv:List Key×V=>if kv.1=k then(kv.1,v)else kv)=λx=>x.1:=by
   funext x
   show(if x.1=k then(x.1,v)else x).1=x.1
   by_cases e:x.1=k
   ·rw[if_pos e]
   ·rw[if_neg e]
  rw[this];exact h
 ·rw[if_neg a,Kh,LC]
  refine⟨h,by simp,λx hx y hy=>?_⟩
  simp only[JG,NG,JY]at hy;subst hy;intro z;subst z;obtain⟨p,hp,e⟩:=JQ.mp hx;exact a (List.any_eq_true.mpr ⟨p,hp,decide_eq_true e⟩)
def HS(K:Jz)(O:Ow)(H:Hp):List (T×T)->List (List Key×V)->Prop
 |[],ps=>ps=[]
 |a::l,ps=>∃p r,ps=p::r/\keyOf a.1=ZA p.1/\Rep K O H a.2 p.2/\HS K O H l r
variable{O:Ow}
theorem kG:∀{l:List (T×T)}{ps:List (List Key×V)}{ks ts:List T}{kvs:List (List Key×V)},HS K O H l ps->ks.map keyOf=kvs.map (λp=>ZA p.1)->Reps K O H ts (kvs.map (·.2))->(kvs.map (·.1)).Nodup →
  (fF l (ks,ts)).1.map keyOf=(fM kvs ps).map (λp=>ZA p.1)/\Reps K O H (fF l (ks,ts)).2 ((fM kvs ps).map (·.2))
 |[],ps,ks,ts,kvs,h,h1,h2,hn=>by unfold HS at h;subst h;exact⟨h1,h2⟩
 | (a,b)::l,ps,ks,ts,kvs,h,h1,h2,hn=>by
  obtain⟨p,r,rfl,e1,e2,e3⟩:=h;obtain⟨g1,g2⟩:=mI (vT:=b) e1 e2 h1 h2 hn
  show(fF l (gF a b ks ts)).1.map keyOf=(fM (c7 kvs p.1 p.2) r).map (λp=>ZA p.1)/\Reps K O H (fF l (gF a b ks ts)).2 ((fM (c7 kvs p.1 p.2) r).map (·.2))
  exact kG (l:=l) e3 g1 g2 (sZ hn)
theorem uv:∀{l:List T}{tps:List (T×T)}{xs:List V},FE l=ZA tps->Reps K O H l xs->∃ps,PairsAt H xs ps/\HS K O H tps ps
 |[],tps,xs,h,r=>by cases Reps.Da.mp r;cases h;exact⟨[],rfl,rfl⟩
 |t::l,tps,xs,h,r=>by
  obtain⟨v,ws,rfl,p,q⟩:=Reps.AC.mp r;unfold FE at h
  split at h
  ·rename_i heq;cases heq
  ·rename_i k v' l' heq
   cases heq
   split at h
   ·rename_i kk rr hk hr
    cases h;obtain⟨ps,g1,g2⟩:=uv hr q;obtain⟨b,vs,e1,e2,e3,e4⟩:=Rep.FB.mp p;obtain⟨u1,us1,rfl,f1,f2⟩:=Reps.AC.mp e4;obtain⟨u2,us2,rfl,f3,f4⟩:=Reps.AC.mp f2;cases Reps.Da.mp f4;obtain⟨kb,f5,f6⟩:=j6 hk f1;subst f5;exact⟨(kk,u2)::ps,⟨b,kb,(kk,u2),ps,rfl,e1,e3,f6,g1⟩,⟨(kk,u2),ps,rfl,hk,f3,g2⟩⟩
   ·cases h
  ·cases h
section
variable {e:ZG}{f:V6}{x y:Str}{p pos p2 p3:Pos}
def C6(X:Cx)(f:V6):TE:=λσ H Q=>tP X f σ H λv H'=>∃a xs ps,v=.ref a/\H' a=ZA (.lst xs)/\xs.length<=1000/\PairsAt H' xs ps/\∀q,Nw X.K H' q->Q (.ref q) (upd H' q (.dT (fM [] ps)))
def x8(hu:X.A.units+8<cLine)(hc:X.calm=ZC)(hm:X.mg "dict" =ZB)(ha:cy X e f)(hg:Gl X "dict")(hs:bx e=ZC):PE X (.Call (.Name "dict" p) [e] [] pos) (C6 X f):=by
 have h1:JZ [e] X.env=(ZD,eval e X.env)::JZ [] X.env:=a7 hs;intro ca s σ H Q I hq;refine Lm (eg I hg hm (show Ke "dict" =ZA (.type "dict")by decide+kernel) ?_ (by decide) (by decide))
 refine KG (bN (iM (te:=tP X f) ha lY h1 pos ca s σ H (λxs H'=>∃v,xs=[v]/\∃a xs ps,v=.ref a/\H' a=ZA (.lst xs)/\xs.length<=1000/\PairsAt H' xs ps/\∀q,Nw X.K H' q->Q (.ref q) (upd H' q (.dT (fM [] ps)))) I ?_) λus s1 hh=>?_) h1 rfl
 ·obtain⟨ρ,O,E,h⟩:=hq
  exact⟨ρ,O,E,Post.mono h λt H' _ g v r=>⟨v,rfl,g v r⟩⟩
 ·obtain⟨vs,H1,I1,r1,v,rfl,a,xs,ps,ev,e1,e2,e3,e4⟩:=hh
  subst ev;obtain⟨u,rfl,ru⟩:=r1.one;obtain rfl:u=Kf a:=ru;exact zB (I1.ok.hd hc) hu I1 e1 e2 e3 λq s' nw I'=>⟨.ref q,_,I',rfl,e4 q nw⟩
def AH(i:Nat)(hu:X.A.units+8<cLine)(hc:X.calm=ZC)(hm:X.mg "dict" =ZB)(hN:X.N.Nodup)(ha:cy X e f)(hst:autoParam (bx e=ZC) u_)(hg:autoParam (Gl X "dict") u_)(hi:autoParam (X.N[i]?=ZA x) u_)(hx:autoParam (Loc X.env.scope x) y_)(hs:autoParam (Lx (.Call (.Name "dict" p) [e] [] p2) (ZA (.Name x p3)) pos.line X.env=pure ZD) u_)
  (hf:autoParam (X.fn x=ZC\/X.env.scope.names.lookup x=ZA .local) r_):qt X (.Assign [.Name x p3] (.Call (.Name "dict" p) [e] [] p2) pos) (nL i f):=PS.imp (xV hN hi hx (x8 hu hc hm ha hg hst) hs hf) λD σ H hh_=>by
 obtain⟨ρ,B,M,E,h⟩:=hh_;refine⟨ρ,OO B M,E.o,?_⟩
 unfold nL at h
 cases q:f ρ with
 |bad=>rw[q]at h;exact h.elim
 |err c=>rw[q]at h;exact PostF.xa h
 |ok t=>
  rw[q,aA]at h;intro H1 s1 v r
  have h1:=h.later (SameO.of s1) (P1:=M.u) λa z=>.inl z
  cases t with
  |lst l=>
   obtain⟨a,xs,rfl,e2,e3,e4⟩:=Rep.Fk.mp r;unfold u7 at h1
   split at h1
   ·rename_i l' heq
    cases heq
    split at h1
    ·rename_i tps hps
     by_cases hz:l.length<=1000
     ·rw[if_pos hz,aA]at h1
      obtain⟨ps,g1,g2⟩:=uv hps e4;refine⟨a,xs,ps,rfl,e3,by rw[<-e4.length];exact hz,g1,λnd nw=>?_⟩
      by_cases hl:i<ρ.length
      ·simp only[if_pos hl]at h1
       have hm:∀a,a=nd->Nw X.K H1 a:=λa z=>z▸nw
       obtain⟨k1,k2⟩:=kG (ks:=[]) (ts:=[]) (kvs:=[]) g2 rfl Reps.GT MR;obtain⟨E2,sub⟩:=(E.same s1).new (m:=λa=>a=nd) (o:=.dct (fF tps ([],[])).1 (fF tps ([],[])).2) (v:=.ref nd) (H':=upd H1 nd (.dT (fM [] ps))) hl hm (aV nw.1 _) ⟨nd,_,rfl,λb=>NX,aZ,k1,(k2.more (Ev.subO hm)).same (aV nw.1 _)⟩
       exact h1 _ _ _ (SameO.of (aV nw.1 _)) E2 sub
      ·simp only[if_neg hl]at h1;exact h1.elim
     ·rw[if_neg hz]at h1;exact h1.elim
    ·exact h1.elim
   ·rename_i hno
    exact(hno l rfl).elim
  |_=>exact h1.elim
end
theorem rJ:∀l,fB l l=ZD
 |[] =>rfl
 |a::l=>by unfold fB;rw[if_pos rfl];exact rJ l
theorem pV:∀a b c,fB a b=ZC->fB b c=ZC->fB a c=ZC
 |[],[],_,h,_=>absurd h (by simp[fB])
 |_::_,[],_,h,_=>absurd h (by simp[fB])
 |[],_::_,[],_,h=>absurd h (by simp[fB])
 |[],_::_,_::_,_,_=>rfl
 |_::_,_::_,[],_,h=>absurd h (by simp[fB])
 |x::a,y::b,z::c,h,g=>by
  unfold fB at h g ⊢
  by_cases e:x=y
  ·subst e
   rw[if_pos rfl]at h
   by_cases e2:x=z
   ·rw[if_pos e2]at g ⊢;exact pV a b c h g
   ·rw[if_neg e2]at g ⊢;exact g
  ·rw[if_neg e]at h
   by_cases e2:y=z
   ·subst e2;rw[if_neg e];exact h
   ·rw[if_neg e2]at g
    have h1:=of_decide_eq_true h
    have h2:=of_decide_eq_true g;rw[if_neg (by omega)]
    exact decide_eq_true (by omega)
theorem mi:∀a b,fB a b=ZD->fB b a=ZD->a=b
 |[],[],_,_=>rfl
 |[],_::_,h,_=>absurd h (by simp[fB])
 |_::_,[],_,h=>absurd h (by simp[fB])
 |x::a,y::b,h,g=>by
  unfold fB at h g
  by_cases e:x=y
  ·subst e
   rw[if_pos rfl]at h g;rw[mi a b h g]
  ·rw[if_neg e]at h
   rw[if_neg (λz=>e z.symm)]at g
   have h1:=of_decide_eq_false h
   have h2:=of_decide_eq_false g;omega
def yA(a b c:List Int)(h:fB a c=ZC):fB a b=ZC\/fB b c=ZC:=by
 cases h1:fB a b with
 |true=>exact .inl rfl
 |false=>
  cases h2:fB b a with
  |true=>exact .inr (pV _ _ _ h2 h)
  |false=>rw[<-mi _ _ h1 h2];exact .inr h
open PySem.W
variable (R:RK)
variable {R:RK}
def RK.kind(R:RK)(h:ZH):PyProof.Rows.KeyKind:={α:=List Int,blt:=fB,irrefl:=rJ,trans:=pV,negTrans:=yA,total:=mi,keyOf:=R.key h,dflt:=[]}
def RK.row(R:RK)(h:ZH)(v:JD):List Int:=(R.key h v).getD []
end Tr
namespace Tr
def FK:List T->Rs T
 |[.lst l,.tup m] =>if kU l=ZC/\l.length=m.length/\1<=l.length/\l.length<=1000 then .ok (.dct (fF (l.zip m) ([],[])).1 (fF (l.zip m) ([],[])).2)else .bad
 |_=>.bad
end Tr
namespace PySem
open Sem (wp)
namespace F
def zk_keys:OP (.type "zip") "keys" =pure ZB:=by rw[N4,ME];kernel_rfl
def zk_ga:OP (.type "zip") "__getattr__" =pure ZB:=by rw[N4,ME];kernel_rfl
def zk_entry:Sa table "zip.__getattribute__" =ZA Builtin.«object.__getattribute__»:=
 entryFor_alias (id':="object.__getattribute__") (by kernel_rfl) (by first|rfl|decide+kernel| (unfold String.splitOn;simp+decide [String.splitOnAux])) (by decide+kernel) (by kernel_rfl)
end F
abbrev zO(h:ZH)(z ti to:ZE)(f0 f1:JD):Prop:=h.get? z=ZA {cls:=.type "zip",dict:=ZB,data:=.fields #[f0,f1,.bool ZD,.ref ti,.ref to],slots:=#[]}
variable{Q:Option JD->JB->Prop}{h:ZH}{tk:Tok}
section
variable {g:Array R8}{d:Sx}{t:Nat}{z ti to:ZE}{f0 f1:JD}
def zk1{Q:Fin->JB->Prop}(hx:zO h z ti to f0 f1)(hh:A.handled=ZB)(hq:∀h' tk' e,NZ h h' e (.ref z) "keys"->E (.ref e) ⟨h',g,d,tk',os⟩):
  ZJ (ZK prog w) A (Builtin.«object.__getattribute__» ⟨[.ref z,.str "keys" tk],[]⟩) Q E ⟨h,g,d,t,os⟩:=by
 have hT:(⟨h,g,d,t,os⟩:JB).TypeIs (.ref z) "zip":=⟨_,hx,rfl⟩
 have f4:=F.zk_keys
 repeat (any_goals (first|assumption|wp_step))
 exact P5 hh (λh' tk e hx=>hq h' tk e hx) (attrMsg_fits (by decide+kernel) (by rw[KW];decide))
def zk2(hx:zO h z ti to f0 f1)(hh:A.handled=ZB)(hq:∀h' tk' e,NZ h h' e (.ref z) "keys"->R (.error (.ref e)) ⟨h',g,d,tk',os⟩):
  codeAny (ZK prog w) A (.call (.builtin "zip.__getattribute__") ⟨[.ref z,.str "keys" tk],[]⟩) R ⟨h,g,d,t,os⟩:=
 P6 Mo.plain F.zk_entry (Mo.check _ _ _ _ _ _ _ _ (show(⟨h,g,d,t,os⟩:JB).TypeIs (.ref z) "zip" from⟨_,hx,rfl⟩) (F.args_zip_getattribute_2 _ _) (zk1 hx hh hq))
def zk3(hx:zO h z ti to f0 f1)(hh:A.handled=ZB)(hq:∀h' tk',(∀b o,h.get? b=ZA o->h'.get? b=ZA o)->Q ZB ⟨h',g,d,tk',os⟩):ZJ (ZK prog w) A (getAttr? (.ref z) "keys") Q E ⟨h,g,d,t,os⟩:=by
 have hT:∀tk,(⟨h,g,d,tk,os⟩:JB).TypeIs (.ref z) "zip":=λ_=>⟨_,hx,rfl⟩
 have f1:=Q8
 have f2:=Mo.lookup
 have f3:=Mo.bind (.ref z)
 have f5:=F.zk_ga;unfold getAttr? getAttrBy? getAttrBy
 repeat (any_goals (first|assumption|exact hT _|wp_step))
 refine zk2 hx hh λh' tk' e hx'=>?_
 obtain⟨t',u',he⟩:=hx'.there
 repeat (any_goals (first|assumption|exact hT _|wp_step))
 exact hq _ _ hx'.keeps
end
structure Zp (h:ZH)(n l1 t2 k:Nat)(xs ys:Array JD):Prop where
 b1:l1<n
 b2:t2<n
 pr:Mx h (n+2) (.ref n) (.ref (n+1))
 i1:h.IsListIter n l1 k
 i2:h.IsTupleIter (n+1) t2 k
 s1:h.IsList l1 xs
 s2:h.IsTuple t2 ys
variable{h':ZH}{xs:Array JD}
def fV{a:ZE}(x:h.IsTuple a xs)(e:∀o,h.get? a=ZA o->h'.get? a=ZA o):h'.IsTuple a xs:=let ⟨o,ho,r⟩:=x;⟨o,e _ ho,r⟩
variable{ys:Array JD}
def Zp.keep(q:Zp h n l1 t2 k xs ys)(e:∀c o,c<n+3->h.get? c=ZA o->h'.get? c=ZA o):Zp h' n l1 t2 k xs ys where
 b1:=q.b1
 b2:=q.b2
 pr:=e _ _ (by omega) q.pr
 i1:=q.i1.at λo=>e _ o (by omega)
 i2:=q.i2.at λo=>e _ o (by omega)
 s1:=q.s1.at λo=>e _ o (by have:=q.b1;omega)
 s2:=fV q.s2 λo=>e _ o (by have:=q.b2;omega)
section
variable {x y:JD}
def qC{a:ZE}{Q:Option Obj->JB->Prop}(q:Q (s.heap.get? a) s):ZJ (ZK prog w) A (loadIfAlive a) Q E s:=λΓ p _=>by
 show Pr _ _ (Sem.loadIfAlive a pure) _ _ _ _
 rw[Sem.wp_loadIfAlive];exact q
end
variable{ob:Obj}
section
variable {x y:JD}
def bD{b:Nat}(h:a<b\/b<a):a≠b:=by omega
def Zp.one(q:Zp h n l1 t2 k xs ys)(i:h'.IsListIter n l1 (k+1))(e:Me n h h'):h'.IsTupleIter (n+1) t2 k/\h'.IsList l1 xs/\h'.IsTuple t2 ys/\Mx h' (n+2) (.ref n) (.ref (n+1)):=by
 have b1:=q.b1
 have b2:=q.b2;exact⟨q.i2.at λo g=>e.extBut _ _ (bD (by omega)) g,q.s1.at λo g=>e.extBut _ _ (bD (by omega)) g,fV q.s2 λo g=>e.extBut _ _ (bD (by omega)) g,e.extBut _ _ (bD (by omega)) q.pr⟩
def qB{T:ZE}{Q:Bool->JB->Prop}(kz:zO s.heap (n+4) (n+2) (n+3) (rawInt T) (.bool f))(kT:s.heap.get? T=ZA ob)
  (hk:∀h',zO h' (n+4) (n+2) (n+3) (rawInt T) (.bool ZC)->(∀c o,c≠n+4->s.heap.get? c=ZA o->h'.get? c=ZA o)->h'.objs.size=s.heap.objs.size->Q ZD {s with heap:=h'}):ZJ (ZK prog w) A (JT (.ref (n+4))) Q E s:=by
 unfold JT;refine Jy (Kd kz rfl (x:=rawInt T) rfl ?_)
 show ZJ _ _ (loadIfAlive (Int.toNat (T:Int)) >>= _) _ _ _
 rw[Kl];refine Jy (qC ?_)
 rw[kT]
 show ZJ _ _ (field (.ref (n+4)) 1 >>= _) _ _ _
 refine Jy (Kd kz rfl (x:=.bool f) rfl ?_)
 cases f with
 |true=>
  rw[if_neg (by decide)]
  exact JK (hk _ kz (λ_ _ _ e=>e) rfl)
 |false=>
  rw[if_pos (by decide)]
  refine Jy (KR kz (by simp) λh₁ kz₁ hs₁=>JK (hk h₁ kz₁ (λc o c1 e=>hs₁.extBut _ _ c1 e) hs₁.1))
def wX{T:ZE}{Q:V2}(q:Zp s.heap n l1 t2 k xs ys)(kz:zO s.heap (n+4) (n+2) (n+3) (rawInt T) (.bool f))(kT:s.heap.get? T=ZA ob)(hx:xs[k]?=ZA x)(hy:ys[k]?=ZA y)
  (kq:∀h' p,s.heap.objs.size<=p->Mx h' p x y->zO h' (n+4) (n+2) (n+3) (rawInt T) (.bool ZC)->Zp h' n l1 t2 (k+1) xs ys->(∀c o,c≠n->c≠n+1->c≠n+4->s.heap.get? c=ZA o->h'.get? c=ZA o)->Q (.ref p) {s with heap:=h'}):
  ZJ (ZK prog w) A (Builtin.«zip.__next__» ⟨[.ref (n+4)],[]⟩) (λfin s'=>∃v,fin=.done (.ret v)/\Q v s') E s:=by
 have b1:=q.b1
 have b2:=q.b2
 show ZJ _ _ (field (.ref (n+4)) 2 >>= _) _ _ _
 refine Jy (Kd kz rfl (x:=.bool ZD) rfl ?_)
 show ZJ _ _ (field (.ref (n+4)) 3 >>= _) _ _ _
 refine Jy (Kd kz rfl (x:=.ref (n+2)) rfl ?_)
 refine Jy (KD q.pr rfl ?_)
 show ZJ _ _ (JT (.ref (n+4)) >>= _) _ _ _
 refine Jy (qB kz kT λh₁ kz₁ e₁ z₁=>?_)
 have q₁:Zp h₁ n l1 t2 k xs ys:=q.keep λc o hc g=>e₁ c o (by omega) g
 simp only[KQ,if_false,QK,L5,MQ];refine Jy (Jy (Jy (KM ?_)))
 show ZJ _ _ (J2 (.ref n) >>= _) _ _ _
 refine Jy (Nv q₁.i1 q₁.s1 hx λh₂ g₂ e₂=>JK ?_)
 obtain⟨r1,r2,r3,r4⟩:=q₁.one g₂ e₂;refine JK (Jy (Jy (KM ?_)))
 show ZJ _ _ (J2 (.ref (n+1)) >>= _) _ _ _
 refine Jy (Enu.tupNext r1 r3 hy λh₃ g₃ e₃=>JK (JK (JK ?_)))
 show ZJ _ _ (newTuple [x,y] >>= _) _ _ _
 refine Jy (Qg (JK ⟨_,rfl,?_⟩))
 have z₃:h₃.objs.size=s.heap.objs.size:=by rw[e₃.1,e₂.1,z₁]
 have up:∀c o,c≠n->c≠n+1->h₁.get? c=ZA o->(h₃.push {cls:=.type "tuple",data:=.seq #[x,y]}).get? c=ZA o:=λc o c1 c2 g=>JA _ (e₃.extBut _ _ c2 (e₂.extBut _ _ c1 g))
 refine kq _ h₃.objs.size (LS z₃.symm) (JP _ rfl) (up _ _ (bD (by omega)) (bD (by omega)) kz₁) ⟨b1,b2,up _ _ (bD (by omega)) (bD (by omega)) q₁.pr,?_,?_,?_,?_⟩ λc o c1 c2 c4 g=>up c o c1 c2 (e₁ c o c4 g)
 ·exact g₂.at λo g=>JA _ (e₃.extBut _ _ (bD (by omega)) g)
 ·exact g₃.at λo g=>JA _ g
 ·exact q₁.s1.at λo g=>up _ o (bD (by omega)) (bD (by omega)) g
 ·exact fV q₁.s2 λo g=>up _ o (bD (by omega)) (bD (by omega)) g
def vB{a b:JD}{Q:V2}(q:Zp s.heap n l1 t2 k xs ys)(kz:zO s.heap (n+4) (n+2) (n+3) .none (.bool ZD))(ho:Mx s.heap (n+3) a b)(hx:xs[k]?=ZA x)(hy:ys[k]?=ZA y)
  (kq:∀h' p,s.heap.objs.size<=p->Mx h' p x y->zO h' (n+4) (n+2) (n+3) (rawInt p) (.bool ZD)->Zp h' n l1 t2 (k+1) xs ys->(∀c o,c≠n->c≠n+1->c≠n+3->c≠n+4->s.heap.get? c=ZA o->h'.get? c=ZA o)->Q (.ref p) {s with heap:=h'}):
  ZJ (ZK prog w) A (Builtin.«zip.__next__» ⟨[.ref (n+4)],[]⟩) (λfin s'=>∃v,fin=.done (.ret v)/\Q v s') E s:=by
 have b1:=q.b1
 have b2:=q.b2
 show ZJ _ _ (field (.ref (n+4)) 2 >>= _) _ _ _
 refine Jy (Kd kz rfl (x:=.bool ZD) rfl ?_)
 show ZJ _ _ (field (.ref (n+4)) 3 >>= _) _ _ _
 refine Jy (Kd kz rfl (x:=.ref (n+2)) rfl ?_)
 refine Jy (KD q.pr rfl ?_)
 show ZJ _ _ (JT (.ref (n+4)) >>= _) _ _ _
 have fr:ZJ (ZK prog w) A (JT (.ref (n+4))) (λv s'=>v=ZC/\s'=s) E s:=by
  unfold JT;exact Jy (Kd kz rfl (x:=.none) rfl (JK ⟨rfl,rfl⟩))
 refine Jy (Kw fr (λv s' hv=>?_) λ_ _ z=>z)
 obtain⟨rfl,rfl⟩:=hv;simp only[if_true];refine Jy (Mb (Jy (Kd kz rfl (x:=.ref (n+3)) rfl (Jy (KR kz (by simp) λh₁ kz₁ e₁=>?_)))))
 replace kz₁:zO h₁ (n+4) (n+2) (n+3) .ellipsis (.bool ZD):=kz₁
 have q₁:Zp h₁ n l1 t2 k xs ys:=q.keep λc o hc g=>e₁.extBut c o (bD (by omega)) g
 simp only[Pb,Pt,L5,MQ];refine Jy (Jy (Jy (MM ?_)))
 show ZJ _ _ (J2 (.ref n) >>= _) _ _ _
 refine Jy (Nv q₁.i1 q₁.s1 hx λh₂ g₂ e₂=>JK ?_)
 obtain⟨r1,r2,r3,r4⟩:=q₁.one g₂ e₂
 have o₂:Mx h₂ (n+3) a b:=e₂.extBut _ _ (bD (by omega)) (e₁.extBut _ _ (bD (by omega)) ho)
 refine Jy (KD o₂ rfl (Jy (LZ o₂ λh₃ o₃ e₃=>Jy (O6 (JK ?_)))))
 replace o₃:Mx h₃ (n+3) x b:=o₃
 refine Jy (Jy (MM ?_))
 show ZJ _ _ (J2 (.ref (n+1)) >>= _) _ _ _
 refine Jy (Enu.tupNext (r1.at λo g=>e₃.extBut _ _ (bD (by omega)) g) (fV r3 λo g=>e₃.extBut _ _ (bD (by omega)) g) hy λh₄ g₄ e₄=>JK ?_)
 have o₄:Mx h₄ (n+3) x b:=e₄.extBut _ _ (bD (by omega)) o₃
 refine Jy (KD o₄ rfl (Jy (LZ o₄ λh₅ o₅ e₅=>Jy (O6 (JK (JK ?_))))))
 replace o₅:Mx h₅ (n+3) x y:=o₅
 refine Jy (KD o₅ rfl (Jy (Qg ?_)))
 have z₅:h₅.objs.size=s'.heap.objs.size:=by rw[e₅.1,e₄.1,e₃.1,e₂.1,e₁.1]
 have up:∀c o,c≠n->c≠n+1->c≠n+3->h₁.get? c=ZA o->h₅.get? c=ZA o:=λc o c1 c2 c3 g=>e₅.extBut _ _ c3 (e₄.extBut _ _ c2 (e₃.extBut _ _ c3 (e₂.extBut _ _ c1 g)))
 show ZJ _ _ (La (.ref (n+4)) (.ref h₅.objs.size) >>= _) _ _ _
 have z5:zO (h₅.push {cls:=.type "tuple",data:=.seq #[x,y]}) (n+4) (n+2) (n+3) .ellipsis (.bool ZD):=JA _ (up _ _ (bD (by omega)) (bD (by omega)) (bD (by omega)) kz₁)
 have hn:n+4<h₅.objs.size:=JM (up _ _ (bD (by omega)) (bD (by omega)) (bD (by omega)) kz₁)
 refine Jy ?_
 unfold La;refine Jy (KR z5 (by simp) λh₇ z₇ e₇=>?_)
 replace z₇:zO h₇ (n+4) (n+2) (n+3) (rawInt h₅.objs.size) (.bool ZD):=z₇
 refine KR z₇ (by simp) λh₈ z₈ e₈=>JK ⟨_,rfl,?_⟩
 replace z₈:zO h₈ (n+4) (n+2) (n+3) (rawInt h₅.objs.size) (.bool ZD):=z₈
 have up8:∀c o,c≠n+4->h₅.get? c=ZA o->h₈.get? c=ZA o:=λc o c1 g=>e₈.extBut _ _ c1 (e₇.extBut _ _ c1 (JA _ g))
 refine kq h₈ h₅.objs.size (LS z₅.symm) (e₈.extBut _ _ (bD (by omega)) (e₇.extBut _ _ (bD (by omega)) (JP _ rfl))) z₈ ⟨b1,b2,up8 _ _ (bD (by omega)) (up _ _ (bD (by omega)) (bD (by omega)) (bD (by omega)) q₁.pr),?_,?_,?_,?_⟩ λc o c1 c2 c3 c4 g=>up8 c o c4 (up c o c1 c2 c3 (e₁.extBut _ _ c4 g))
 ·exact g₂.at λo g=>up8 _ _ (bD (by omega)) (e₅.extBut _ _ (bD (by omega)) (e₄.extBut _ _ (bD (by omega)) (e₃.extBut _ _ (bD (by omega)) g)))
 ·exact g₄.at λo g=>up8 _ _ (bD (by omega)) (e₅.extBut _ _ (bD (by omega)) g)
 ·exact q₁.s1.at λo g=>up8 _ _ (bD (by omega)) (up _ o (bD (by omega)) (bD (by omega)) (bD (by omega)) g)
 ·exact fV q₁.s2 λo g=>up8 _ _ (bD (by omega)) (up _ o (bD (by omega)) (bD (by omega)) (bD (by omega)) g)
def wW{T:ZE}{Q:Fin->JB->Prop}(hh:A.handled=ZB)(q:Zp s.heap n l1 t2 k xs ys)(kz:zO s.heap (n+4) (n+2) (n+3) (rawInt T) (.bool f))(kT:s.heap.get? T=ZA ob)(hx:xs[k]?=ZB)
  (ke:∀h' e,(∀c o,c≠n->c≠n+4->s.heap.get? c=ZA o->h'.get? c=ZA o)->(∃o,h'.get? e=ZA o/\o.cls=.type "StopIteration")->E (.ref e) {s with heap:=h'}):
  ZJ (ZK prog w) A (Builtin.«zip.__next__» ⟨[.ref (n+4)],[]⟩) Q E s:=by
 show ZJ _ _ (field (.ref (n+4)) 2 >>= _) _ _ _
 refine Jy (Kd kz rfl (x:=.bool ZD) rfl ?_)
 show ZJ _ _ (field (.ref (n+4)) 3 >>= _) _ _ _
 refine Jy (Kd kz rfl (x:=.ref (n+2)) rfl ?_)
 refine Jy (KD q.pr rfl ?_)
 show ZJ _ _ (JT (.ref (n+4)) >>= _) _ _ _
 refine Jy (qB kz kT λh₁ kz₁ e₁ z₁=>?_)
 have q₁:Zp h₁ n l1 t2 k xs ys:=q.keep λc o hc g=>e₁ c o (by omega) g
 simp only[KQ,if_false,QK,L5,MQ];refine Jy (Jy (Jy (KM ?_)))
 show ZJ _ _ (J2 (.ref n) >>= _) _ _ _
 exact Jy (PN hh q₁.i1 q₁.s1 hx λh₂ e e₂ he=>ke h₂ e (λc o c1 c4 g=>e₂ _ _ c1 (e₁ c o c4 g)) he)
def Ah{T:ZE}(q:Zp s.heap n l1 t2 k xs ys)(kz:zO s.heap (n+4) (n+2) (n+3) (rawInt T) (.bool f))(kT:s.heap.get? T=ZA ob)(hx:xs[k]?=ZA x)(hy:ys[k]?=ZA y)
  (kq:∀h' p,s.heap.objs.size<=p->Mx h' p x y->zO h' (n+4) (n+2) (n+3) (rawInt T) (.bool ZC)->Zp h' n l1 t2 (k+1) xs ys->(∀c o,c≠n->c≠n+1->c≠n+4->s.heap.get? c=ZA o->h'.get? c=ZA o)->Q (ZA (.ref p)) {s with heap:=h'}):
  ZJ (ZK prog w) A (pyNext (.ref (n+4))) Q E s:=by
 have hy':s.TypeIs (.ref (n+4)) "zip":=⟨_,kz,rfl⟩;unfold pyNext;exact Jy (Nm (Ku (name:=JN "__next__") hy' Lf (KZ Lf hy' MT (wX q kz kT hx hy λh' p a1 a2 a3 a4 a5=>JK (kq h' p a1 a2 a3 a4 a5)) (MH _))))
def wV{a b:JD}(q:Zp s.heap n l1 t2 k xs ys)(kz:zO s.heap (n+4) (n+2) (n+3) .none (.bool ZD))(ho:Mx s.heap (n+3) a b)(hx:xs[k]?=ZA x)(hy:ys[k]?=ZA y)
  (kq:∀h' p,s.heap.objs.size<=p->Mx h' p x y->zO h' (n+4) (n+2) (n+3) (rawInt p) (.bool ZD)->Zp h' n l1 t2 (k+1) xs ys->(∀c o,c≠n->c≠n+1->c≠n+3->c≠n+4->s.heap.get? c=ZA o->h'.get? c=ZA o)->Q (ZA (.ref p)) {s with heap:=h'}):
  ZJ (ZK prog w) A (pyNext (.ref (n+4))) Q E s:=by
 have hy':s.TypeIs (.ref (n+4)) "zip":=⟨_,kz,rfl⟩;unfold pyNext;exact Jy (Nm (Ku (name:=JN "__next__") hy' Lf (KZ Lf hy' MT (vB q kz ho hx hy λh' p a1 a2 a3 a4 a5=>JK (kq h' p a1 a2 a3 a4 a5)) (MH _))))
def Ag{T:ZE}(hh:A.handled=ZB)(q:Zp s.heap n l1 t2 k xs ys)(kz:zO s.heap (n+4) (n+2) (n+3) (rawInt T) (.bool f))(kT:s.heap.get? T=ZA ob)(hx:xs[k]?=ZB)
  (kq:∀h',(∀c o,c≠n->c≠n+4->s.heap.get? c=ZA o->h'.get? c=ZA o)->Q ZB {s with heap:=h'}):ZJ (ZK prog w) A (pyNext (.ref (n+4))) Q E s:=by
 have hy':s.TypeIs (.ref (n+4)) "zip":=⟨_,kz,rfl⟩;unfold pyNext;refine Jy (Nm (Ku (name:=JN "__next__") hy' Lf (KZ Lf hy' MT (wW hh q kz kT hx λh' e a1 he=>?_) (MH _))))
 obtain⟨o,ho,hc⟩:=he;exact Jy (Pd (T:="StopIteration") (b:=ZC) ⟨o,ho,hc⟩ Qe (JK (kq _ a1)))
def Ai{f0 f1:JD}{Q:V2}(kz:zO s.heap (n+4) (n+2) (n+3) f0 f1)(h:Q (.ref (n+4)) s):ZJ (ZK prog w) A (pyIter (.ref (n+4))) Q E s:=by
 have hy':s.TypeIs (.ref (n+4)) "zip":=⟨_,kz,rfl⟩;refine wpAny_pyIter_slot hy' Sh (KZ Sh hy' F.entry_zip_iter ?_ (F.args_zip_iter_1 _))
 show ZJ _ _ (ret (.ref (n+4))) _ _ s
 exact JK ⟨_,rfl,"zip",_,hy',Lf.lookup,h⟩
end
abbrev FT(h:ZH)(l t:ZE):ZH:=h.push {cls:=.type "list_iterator",data:=.fields #[.ref l,.int 0 0]}
abbrev Ic(h:ZH)(l t:ZE):ZH:=(FT h l t).push {cls:=.type "tuple_iterator",data:=.fields #[.ref t,.int 0 0]}
abbrev Ib(h:ZH)(l t:ZE):ZH:=(Ic h l t).push {cls:=.type "tuple",data:=.seq #[.ref h.objs.size,.ref (FT h l t).objs.size]}
abbrev Ia(h:ZH)(l t:ZE):ZH:=(Ib h l t).push {cls:=.type "tuple",data:=.seq #[.none,.none]}
abbrev Cm(h:ZH)(l t:ZE):ZH:=(Ia h l t).push {cls:=.type "zip",data:=.fields #[.none,.bool ZD,.bool ZD,.ref (Ic h l t).objs.size,.ref (Ib h l t).objs.size]}
def vY(l t:ZE)(xs ys:Array JD):Meets (Builtin.«zip.__new__» ⟨[.type "zip",.ref l,.ref t],[]⟩) (λ_ R s=>s.heap.IsList l xs/\s.heap.IsTuple t ys/\R (.ok (.ret (.ref (Ia s.heap l t).objs.size))) {s with heap:=Cm s.heap l t}):=
 .of_wp λprog w A R s q=>by
  obtain⟨hp,g,d,tk,os⟩:=s;obtain⟨a1,a2,q⟩:=q
  have k0:=sub_zip
  have k1:Heap.IsList (OU ⟨hp,g,d,tk,os⟩) l xs:=a1
  have k2:Heap.IsTuple (OU ⟨FT hp l t,g,d,tk,os⟩) t ys:=fV a2 λo e=>JA _ e
  wp_walk using MK k1,LX k2
  exact⟨_,rfl,q⟩
def Aj{l t:ZE}{Q:V2}(a1:s.heap.IsList l xs)(a2:s.heap.IsTuple t ys)
  (q:∀h',Zp h' s.heap.objs.size l t 0 xs ys->zO h' (s.heap.objs.size+4) (s.heap.objs.size+2) (s.heap.objs.size+3) .none (.bool ZD)->Mx h' (s.heap.objs.size+3) .none .none->h'.objs.size=s.heap.objs.size+5 →
   (∀c o,s.heap.get? c=ZA o->h'.get? c=ZA o)->Q (.ref (s.heap.objs.size+4)) {s with heap:=h'}):
  ZJ (ZK prog w) A (call (.type "zip") [.ref l,.ref t]) Q E s:=by
 refine RH F.called_zip (by decide) (RT _ _) (Si _ _) (λobj=>PY obj _ _) Sj (vY l t xs ys) ⟨a1,a2,?_⟩
 have z1:(FT s.heap l t).objs.size=s.heap.objs.size+1:=Kv ..
 have z2:(Ic s.heap l t).objs.size=s.heap.objs.size+2:=by rw[Kv,z1]
 have z3:(Ib s.heap l t).objs.size=s.heap.objs.size+3:=by rw[Kv,z2]
 have z4:(Ia s.heap l t).objs.size=s.heap.objs.size+4:=by rw[Kv,z3]
 have z5:(Cm s.heap l t).objs.size=s.heap.objs.size+5:=by rw[Kv,z4]
 have g5:(Cm s.heap l t).get? (Ia s.heap l t).objs.size=ZA _:=JP _ rfl
 have g4:(Cm s.heap l t).get? (Ib s.heap l t).objs.size=ZA _:=JA _ (JP _ rfl)
 have g3:(Cm s.heap l t).get? (Ic s.heap l t).objs.size=ZA _:=JA _ (JA _ (JP _ rfl))
 have g2:(Cm s.heap l t).get? (FT s.heap l t).objs.size=ZA _:=JA _ (JA _ (JA _ (JP _ rfl)))
 have g1:(Cm s.heap l t).get? s.heap.objs.size=ZA _:=JA _ (JA _ (JA _ (JA _ (JP _ rfl))))
 have up:∀c o,s.heap.get? c=ZA o->(Cm s.heap l t).get? c=ZA o:=λc o e=>JA _ (JA _ (JA _ (JA _ (JA _ e))))
 show _/\_
 rw[z2,z3,z4]at g5;rw[z1,z2]at g3;rw[z3]at g4;rw[z1]at g2;rw[z4]
 have lt1:l<s.heap.objs.size:=by obtain⟨o,e,_⟩:=a1;exact JM e
 have lt2:t<s.heap.objs.size:=by obtain⟨o,e,_⟩:=a2;exact JM e
 exact⟨⟨_,g5,rfl⟩,q _ ⟨lt1,lt2,g3,⟨_,g1,rfl,rfl⟩,⟨_,g2,rfl,rfl⟩,a1.at λo e=>up _ o e,fV a2 λo e=>up _ o e⟩ g5 g4 z5 up⟩
end PySem
namespace Tr
open PySem PySem.Spec PyProof.Rows L2
def ZAt(H:Hp):List V->List V->List (List Key×V)->Prop
 |[],[],ps=>ps=[]
 |x::xs,y::ys,ps=>∃kb p r,ps=p::r/\x=.ref kb/\H kb=ZA (.tup (p.1.map kV))/\p.2=y/\ZAt H xs ys r
 |_,_,_=>False
variable{H:Hp}
theorem ZAt.mono{H':Hp}(h:∀b vs,H b=ZA (.tup vs)->H' b=ZA (.tup vs)):∀{xs ys:List V}{ps:List (List Key×V)},ZAt H xs ys ps->ZAt H' xs ys ps
 |[],[],_,z=>z
 |[],_::_,_,z=>z
 |_::_,[],_,z=>z
 |x::xs,y::ys,_,⟨kb,p,r,e1,e2,e3,e4,e5⟩=>⟨kb,p,r,e1,e2,h _ _ e3,e4,e5.mono h⟩
theorem ZAt.len:∀{xs ys:List V}{ps:List (List Key×V)},ZAt H xs ys ps->xs.length=ys.length
 |[],[],_,_=>rfl
 |[],_::_,_,z=>z.elim
 |_::_,[],_,z=>z.elim
 |x::xs,y::ys,_,⟨kb,p,r,e1,e2,e3,e4,e5⟩=>by rw[JJ,JJ,e5.len]
variable{X:Cx}{ca:V3}{σ:L2.St}
section
variable {d it:ZE}
def u5{Ex:ZH->Prop}{kvs:List (List Key×V)}{kb:ZE}{kk:List Key}{v:V}(hu:A.units+3<cLine)(hd:H d=ZA (.dT kvs))(hz:kvs.length<1000)(hk:H kb=ZA (.tup (kk.map kV)))
  (hn:∀{Q:Option JD->JB->Prop}{E:V2},(∀h' p u2,Inv X ca σ H {s with heap:=h'}->Mx h' p (.ref kb) u2->RelV v u2->Ex h'->Q (ZA (.ref p)) {s with heap:=h'})->ZJ (ZK X.prog X.w) A.in1 (pyNext (.ref it)) Q E s)
  (nx:∀h' h2 tk,Ex h'->(∀c,c≠d->h2.get? c=h'.get? c)->Inv X ca σ (upd H d (.dT (c7 kvs kk v))) {s with heap:=h2,toks:=tk}->codeAny (ZK X.prog X.w) A (.builtin "dict.update.loop" ⟨[.ref d,.ref it,rawInt ((i+1:Nat):Int),res],[]⟩) R {s with heap:=h2,toks:=tk}):
  codeAny (ZK X.prog X.w) A (.builtin "dict.update.loop" ⟨[.ref d,.ref it,rawInt (i:Nat),res],[]⟩) R s:=by
 refine N5 F.entry_dict_update_loop ?_
 rw[MO F.plain_dict_update_loop _]
 show ZJ _ A.in1 (pyNext (.ref it) >>= _) _ _ s
 refine Jy (hn λh' p u2 I1 hp q2 hx=>?_)
 show ZJ _ A.in1 (holding [Kf p] _ >>= _) _ _ _
 refine Jy (KM (Jy (wpAny_tryCatch ?_)))
 unfold Pg;refine Jy (M6 (s:={s with heap:=h'}) (T:="tuple") ⟨_,hp,rfl⟩ ?_)
 rw[if_pos (by decide)]
 refine Jy (KD (s:={s with heap:=h'}) hp rfl (JK ?_))
 show ZJ _ _ (holding [Kf kb,u2] (dictSet d (.ref kb) u2)) _ _ _
 refine KM ?_
 obtain⟨zz,hds,xs2,rel,dd⟩:=uY I1.hok hd
 have hzl:xs2.length<=ZI:=by rw[<-NN rel];exact zz
 have hkl:kvs.length<ZI:=by rw[KW];omega
 have hl2:(c7 kvs kk v).length<=ZI:=by have:=dM kvs kk v;omega
 refine Q9 (hsz:=hzl) (Mw (by show A.units+1<cLine;omega)) (kE I1.hok hk) dd λh2 dd2 hs2=>?_
 obtain⟨q,es,ep,hq,h22,h3,h4,_,h5⟩:=dd2
 have I2:Inv X ca σ (upd H d (.dT (c7 kvs kk v))) {s with heap:=h2,toks:=s.toks+(N1 (cb X.prog X.w)).draws kk}:=
  lH (s:={s with heap:=h'}) I1 (by rw[hd];exact Mq) hs2 ⟨q,hq⟩ ⟨hl2,hds,_,(rel.put kk hk q2).keeps λc ys ec=>by rw[aM (md ec hd (λz=>nomatch z))];exact ec,q,es,ep,hq,h22,h3,h4,h5⟩
 have hcast:(i:Int)+1=((i+1:Nat):Int):=by omega
 refine JK ⟨NS F.plain_dict_update_loop _,?_⟩
 rw[hcast];exact nx h' h2 _ hx (λc hc=>hs2.2 c hc) I2
def Fh(hn:∀{Q:Option JD->JB->Prop}{E:V2},(∀h',R (.ok (.ret res)) {s with heap:=h'}->Q ZB {s with heap:=h'})->ZJ (ZK X.prog X.w) A.in1 (pyNext (.ref it)) Q E s):
  codeAny (ZK X.prog X.w) A (.builtin "dict.update.loop" ⟨[.ref d,.ref it,rawInt (i:Nat),res],[]⟩) R s:=by
 refine N5 F.entry_dict_update_loop ?_
 rw[MO F.plain_dict_update_loop _]
 show ZJ _ A.in1 (pyNext (.ref it) >>= _) _ _ s
 refine Jy (hn λh' hr=>?_)
 show ZJ _ _ (OA d [] >>= _) _ _ _
 exact Jy (JK (JK hr))
def Am{us ws:Array JD}{xs ys:List V}{T:ZE}(hh:A.handled=ZB)(hu:A.units+3<cLine)(rx:Vals xs us.toList)(ry:Vals ys ws.toList)(hTn:n+4<T)(hTd:T≠d):∀(k i:Nat)(s:JB)(H:Hp)(kvs ps:List (List Key×V))(f:Bool)(ob:Obj),xs.length - i=k->i<=xs.length->H d=ZA (.dT kvs)->kvs.length+(xs.length - i)<=1000 →
  Inv X ca σ H s->Zp s.heap n l1 t2 i us ws->zO s.heap (n+4) (n+2) (n+3) (rawInt T) (.bool f)->s.heap.get? T=ZA ob->(∀j:Nat,j<5->gZ X ca H (n+j))->l1≠d->t2≠d->ZAt H (xs.drop i) (ys.drop i) ps →
  (∀s',Inv X ca σ (upd H d (.dT (fM kvs ps))) s'->R (.ok (.ret res)) s')->codeAny (ZK X.prog X.w) A (.builtin "dict.update.loop" ⟨[.ref d,.ref (n+4),rawInt i,res],[]⟩) R s:=by
 have lenx:=rx.length
 have leny:=ry.length;intro k
 induction k with
 |zero=>
  intro i s H kvs ps f ob hk hi hd hz I q kz kT hf hl1 ht2 hp hR
  have hnil:xs.drop i=[]:=Mt (by omega)
  have hny:ys.drop i=[]:=by
   have:=hp.len;rw[hnil]at this;exact List.length_eq_zero_iff.mp this.symm
  rw[hnil,hny]at hp;unfold ZAt at hp;subst hp
  have e2:upd H d (.dT (fM kvs []))=H:=by
   funext b
   by_cases hb:b=d
   ·rw[hb,aZ,hd];rfl
   ·rw[aM hb]
  rw[e2]at hR;refine Fh λ{Q E} hq=>Ag hh q kz kT (by rw[Array.getElem?_eq_none];rw[<-Mj];omega) λh' e=>hq h' (hR _ ?_)
  exact I.Ir (fp:=[n,n+4]) (t':=s.toks) (λb hb=>by
   simp only[JL,KN,or_false]at hb;rcases hb with rfl|rfl
   ·exact hf 0 (by omega)
   ·exact hf 4 (by omega)) λb o hb eb=>e b o (λz=>hb (by rw[z];simp)) (λz=>hb (by rw[z];simp)) eb
 |succ k ih=>
  intro i s H kvs ps f ob hk hi hd hz I q kz kT hf hl1 ht2 hp hR
  have hlt:i<xs.length:=by omega
  have hdx:xs.drop i=xs[i] ::xs.drop (i+1):=Ld hlt
  have hyl:i<ys.length:=by
   have:=hp.len;rw[Lo,Lo]at this;omega
  have hdy:ys.drop i=ys[i] ::ys.drop (i+1):=Ld hyl;rw[hdx,hdy]at hp;obtain⟨kb,p,r,rfl,ex,hkb,ep,hp'⟩:=hp;obtain⟨u1,q1,q2⟩:=rx.get (JW hlt)
  obtain⟨u2,q3,q4⟩:=ry.get (JW hyl)
  rw[Pu]at q1 q3
  rw[ex]at q2;obtain rfl:u1=Kf kb:=q2;rw[<-ep]at q4
  have hd0:∀j:Nat,j<5->n+j≠d:=λj hj z=>by have:=(hf j hj).1;rw[z,hd]at this;cases this
  refine u5 (ca:=ca) (σ:=σ) (Ex:=λh'=>Zp h' n l1 t2 (i+1) us ws/\zO h' (n+4) (n+2) (n+3) (rawInt T) (.bool ZC)/\h'.get? T=ZA ob) hu hd (by omega) hkb (λ{Q E} hq=>Ah q kz kT q1 q3 λh' b _ a2 a3 a4 a5=>hq h' b u2 ?_ a2 q4 ⟨a4,a3,a5 _ _ (bD (by omega)) (bD (by omega)) (bD (by omega)) kT⟩) λh1 h2 tk hx3 e2 I2=>?_
  ·exact I.Ir (fp:=[n,n+1,n+4]) (t':=s.toks) (λb hb=>by
    simp only[JL,KN,or_false]at hb;rcases hb with rfl|rfl|rfl
    ·exact hf 0 (by omega)
    ·exact hf 1 (by omega)
    ·exact hf 4 (by omega)) λb o hb eb=>a5 b o (λz=>hb (by rw[z];simp)) (λz=>hb (by rw[z];simp)) (λz=>hb (by rw[z];simp)) eb
  ·obtain⟨x1,x2,x3⟩:=hx3
   have lt1:=x1.b1
   have lt2:=x1.b2
   have x1':Zp h2 n l1 t2 (i+1) us ws:=⟨x1.b1,x1.b2,(e2 _ (hd0 2 (by omega))).trans x1.pr,x1.i1.at λo g=>(e2 _ (hd0 0 (by omega))).trans g,x1.i2.at λo g=>(e2 _ (hd0 1 (by omega))).trans g,x1.s1.at λo g=>(e2 _ hl1).trans g,fV x1.s2 λo g=>(e2 _ ht2).trans g⟩
   refine ih (i+1) _ (upd H d (.dT (c7 kvs p.1 p.2))) (c7 kvs p.1 p.2) r ZC ob (by omega) (by omega) aZ (by have:=dM kvs p.1 p.2;omega) I2 x1' ((e2 _ (hd0 4 (by omega))).trans x2) ((e2 _ hTd).trans x3) (λj hj=>⟨by rw[aM (hd0 j hj)];exact(hf j hj).1,(hf j hj).2⟩) hl1 ht2 (hp'.mono λb vs e=>by rw[aM (md e hd (λz=>nomatch z))];exact e) λs' I'=>?_
   rw[iI]at I';exact hR s' I'
end
section
variable {us ws:Array JD}{xs ys:List V}{ps:List (List Key×V)}
def B1(hh:A.handled=ZB)(hu:A.units+8<cLine)(I:Inv X ca σ H s)(q:Zp s.heap n l1 t2 0 us ws)(kz:zO s.heap (n+4) (n+2) (n+3) .none (.bool ZD))(ko:Mx s.heap (n+3) .none .none)
  (hf:∀j:Nat,j<5->gZ X ca H (n+j)) (rx:Vals xs us.toList) (ry:Vals ys ws.toList) (h1:1<=xs.length) (hz:xs.length<=1000) (hp:ZAt H xs ys ps)
  (h:∀p s',Nw X.K H p->Inv X ca σ (upd H p (.dT (fM [] ps))) s'->Q (.ref p) s'):ZJ (ZK X.prog X.w) A (call (.type "dict") [.ref (n+4)]) Q E s:=by
 have hk:X.K.lookup s.heap.objs.size=ZB:=by
  cases q:X.K.lookup s.heap.objs.size with
  |none=>rfl
  |some o=>exact absurd (JM (I.kIn _ o q)) (J3 _)
 have hn:H s.heap.objs.size=ZB:=I.hok.fresh (JO _)
 have z4:n+4<s.heap.objs.size:=JM kz
 have b1:=q.b1
 have b2:=q.b2;refine callType_codes (Q₁:=λobj s₁=>obj=.ref s.heap.objs.size/\s₁= {s with heap:=s.heap.push {cls:=.type "dict",data:=.dict #[]}}) RS (PX _) Rn (RZ _ ⟨rfl,rfl⟩) ?_
 rintro obj s₁ ⟨rfl,rfl⟩
 have I1:Inv X ca σ (upd H s.heap.objs.size (.dT [])) {s with heap:=s.heap.push {cls:=.type "dict",data:=.dict #[]}}:=I.laid (a:=s.heap.objs.size) (o:=.dT []) (t':=s.toks) (λ_ _ q=>JA _ q) (JO _) (rW s.heap I.big)
 have hT:({s with heap:=s.heap.push {cls:=.type "dict",data:=.dict #[]}}:JB).TypeIs (.ref s.heap.objs.size) "dict":=⟨_,JP _ rfl,rfl⟩
 have kz1:zO (s.heap.push {cls:=.type "dict",data:=.dict #[]}) (n+4) (n+2) (n+3) .none (.bool ZD):=JA _ kz
 refine⟨hT,QJ _ _,?_⟩
 unfold Builtin.«dict.__init__»;refine Jy ?_
 unfold OB;refine Jy (PM hT ?_)
 show ZJ _ _ (pure (s.heap.objs.size,[Kf (n+4)])) _ _ _
 refine JK ?_
 show ZJ _ _ (Mh "dict.__init__" s.heap.objs.size (.ref (n+4)) [] .none) _ _ _
 unfold Mh;refine Jy (M6 (T:="zip") ⟨_,kz1,rfl⟩ ?_)
 rw[if_pos (by decide)]
 refine Jy (zk3 kz1 hh λh' tk' kp=>?_)
 have I2:Inv X ca σ (upd H s.heap.objs.size (.dT [])) {s with heap:=h',toks:=tk'}:=I1.kept (t':=tk') kp
 have up:∀c o,s.heap.get? c=ZA o->h'.get? c=ZA o:=λc o e=>kp c o (JA _ e)
 rw[if_pos (by rfl)]
 refine Jy (Mb ?_)
 have kz2:zO h' (n+4) (n+2) (n+3) .none (.bool ZD):=up _ _ kz;refine Jy (Ai (s:={s with heap:=h',toks:=tk'}) kz2 ?_)
 refine JK ⟨NS F.plain_dict_update_loop _,?_⟩
 have q2:Zp h' n l1 t2 0 us ws:=q.keep λc o _ e=>up c o e
 have hsz:s.heap.objs.size<h'.objs.size:=JM (kp _ _ (JP _ rfl))
 have hf2:∀j:Nat,j<5->gZ X ca (upd H s.heap.objs.size (.dT [])) (n+j):=λj hj=>⟨by rw[aM (bD (by omega))];exact(hf j hj).1,(hf j hj).2⟩
 obtain⟨x,xs',rfl⟩:∃x xs',xs=x::xs':=by
  cases xs with
  |nil=>simp at h1
  |cons x xs'=>exact⟨x,xs',rfl⟩
 obtain⟨y,ys',rfl⟩:∃y ys',ys=y::ys':=by
  cases ys with
  |nil=>exact hp.elim
  |cons y ys'=>exact⟨y,ys',rfl⟩
 obtain⟨kb,p,r,rfl,ex,hkb,ep,hp'⟩:=hp;obtain⟨u1,v1,v2⟩:=rx.get (i:=0) rfl;obtain⟨u2,v3,v4⟩:=ry.get (i:=0) rfl;rw[Pu]at v1 v3
 rw[ex]at v2;obtain rfl:u1=Kf kb:=v2;rw[<-ep]at v4;rw[JJ]at hz
 have tupk:∀(o:List (List Key×V)) b vs,H b=ZA (.tup vs)->upd H s.heap.objs.size (.dT o) b=ZA (.tup vs):=λo b vs e=>by rw[aM (λz=>by rw[z,hn]at e;cases e)];exact e
 refine u5 (A:=A.in1) (X:=X) (ca:=ca) (σ:=σ) (i:=0) (kvs:=[]) (Ex:=λh1=>Zp h1 n l1 t2 1 us ws/\∃T ob,h'.objs.size<=T/\zO h1 (n+4) (n+2) (n+3) (rawInt T) (.bool ZD)/\h1.get? T=ZA ob) (by show A.units+1+3<cLine;omega) aZ (by simp) (tupk _ _ _ hkb)
  (λ{Q E} hq=>wV q2 kz2 (up _ _ ko) v1 v3 λh1 b a1 a2 a3 a4 a5=>hq h1 b u2 ?_ a2 v4 ⟨a4,b,_,a1,a3,a2⟩) λh1 h2 tk hx3 e2 I3=>?_
 ·exact I2.Ir (fp:=[n,n+1,n+3,n+4]) (t':=tk') (λb hb=>by
   simp only[JL,KN,or_false]at hb;rcases hb with rfl|rfl|rfl|rfl
   ·exact hf2 0 (by omega)
   ·exact hf2 1 (by omega)
   ·exact hf2 3 (by omega)
   ·exact hf2 4 (by omega)) λb o hb eb=>a5 b o (λz=>hb (by rw[z];simp)) (λz=>hb (by rw[z];simp)) (λz=>hb (by rw[z];simp)) (λz=>hb (by rw[z];simp)) eb
 ·obtain⟨x1,T,ob,hTs,x2,x3⟩:=hx3
  have hd0:∀j:Nat,j<5->n+j≠s.heap.objs.size:=λj hj=>bD (by omega)
  have x1':Zp h2 n l1 t2 1 us ws:=⟨x1.b1,x1.b2,(e2 _ (hd0 2 (by omega))).trans x1.pr,x1.i1.at λo g=>(e2 _ (hd0 0 (by omega))).trans g,x1.i2.at λo g=>(e2 _ (hd0 1 (by omega))).trans g,x1.s1.at λo g=>(e2 _ (bD (by omega))).trans g,fV x1.s2 λo g=>(e2 _ (bD (by omega))).trans g⟩
  rw[iI]at I3;refine Am (A:=A.in1) (X:=X) (ca:=ca) (σ:=σ) (xs:=x::xs') (ys:=y::ys') (T:=T) hh (by show A.units+1+3<cLine;omega) rx ry (by omega) (bD (by omega)) xs'.length 1 _ (upd H s.heap.objs.size (.dT (c7 [] p.1 p.2))) (c7 [] p.1 p.2) r ZD ob (by rw[JJ];omega) (by rw[JJ];omega) aZ (by rw[JJ];show 1+_<=1000;omega) I3 x1' ((e2 _ (hd0 4 (by omega))).trans x2) ((e2 _ (bD (by omega))).trans x3) (λj hj=>⟨by rw[aM (hd0 j hj)];exact(hf j hj).1,(hf j hj).2⟩) (bD (by omega)) (bD (by omega)) (hp'.mono (tupk _)) λs' I'=>?_
  rw[iI]at I';exact⟨rfl,h _ _ ⟨hn,hk⟩ I'⟩
theorem Cn{O:Ow}:∀{l m:List T}{xs ys:List V},kU l=ZC->l.length=m.length->Reps K O H l xs->Reps K O H m ys->∃ps,ZAt H xs ys ps/\HS K O H (l.zip m) ps
 |[],[],xs,ys,_,_,r1,r2=>by cases Reps.Da.mp r1;cases Reps.Da.mp r2;exact⟨[],rfl,rfl⟩
 |[],_::_,_,_,_,h,_,_=>by simp at h
 |_::_,[],_,_,_,h,_,_=>by simp at h
 |a::l,b::m,xs,ys,hk,h,r1,r2=>by
  obtain⟨v,vs,rfl,p1,q1⟩:=Reps.AC.mp r1;obtain⟨w,ws,rfl,p2,q2⟩:=Reps.AC.mp r2;unfold kU at hk;rw[JH]at hk;obtain⟨kk,ek⟩:=M4.mp hk.1;obtain⟨ps,g1,g2⟩:=Cn hk.2 (by simpa using h) q1 q2
  obtain⟨kb,f5,f6⟩:=j6 ek p1;exact⟨(kk,w)::ps,⟨kb,(kk,w),ps,rfl,f5,f6,rfl,g1⟩,⟨(kk,w),ps,rfl,ek,p2,g2⟩⟩
end
section
variable {a b:ZG}{fs:V4}{p p1 p2 pos:Pos}
def DK(hu:X.A.units+8<cLine)(hc:X.calm=ZC)(hm:X.mg "dict" =ZB)(hmz:X.mg "zip" =ZB)(ha:qu X [a,b] fs)(hst:autoParam (aW [a,b]=ZC) u_)(hg:autoParam (Gl X "dict") u_)(hgz:autoParam (Gl X "zip") u_):
  cy X (.Call (.Name "dict" p) [.Call (.Name "zip" p1) [a,b] [] p2] [] pos) (cl FK fs):=by
 intro ca s σ H Q I ⟨ρ,O,Ev,hq⟩
 have e1:JZ [LW (.Name "zip" p1) [a,b] [] p2] X.env=(ZD,eval (.Call (.Name "zip" p1) [a,b] [] p2) X.env)::JZ [] X.env:=a7 rfl;unfold aW at hst;rw[JH]at hst
 have e2:JZ [a,b] X.env=(ZD,eval a X.env)::JZ [b] X.env:=a7 hst.1;refine Lm (eg I hg hm (show Ke "dict" =ZA (.type "dict")by decide+kernel) ?_ (by decide) (by decide))
 refine KG ?_ e1 rfl
 rw[e1];refine K7 ?_
 refine Lm (eg I hgz hmz (show Ke "zip" =ZA (.type "zip")by decide+kernel) ?_ (by decide) (by decide))
 refine KG (bN (ha p2 ca s σ H _ I (dR Ev hq)) λus s1 ⟨vs,H1,I1,r1,ts,rs,s',E',q1⟩=>?_) e2 (dy hst.2)
 unfold FK at q1
 split at q1
 ·rename_i l m
  by_cases hz:kU l=ZC/\l.length=m.length/\1<=l.length/\l.length<=1000
  ·rw[if_pos hz]at q1
   obtain⟨v1,vs1,rfl,ra,rb⟩:=Reps.AC.mp rs;obtain⟨v2,rfl,rc⟩:=rb.one;obtain⟨c1,xs,rfl,_,hx,rx⟩:=Rep.Fk.mp ra;obtain⟨c2,ys,rfl,_,hy,ry⟩:=Rep.FB.mp rc
   cases r1 with
   |cons w1 w2=>
    obtain⟨u2,rfl,w3⟩:=Vals.one w2;cases w1;obtain rfl:u2=Kf c2:=w3;obtain⟨z,its,n,rv,hlen,e⟩:=I1.IC hx;obtain⟨z2,its2,r2,ob,hob1,hob2,nb,hob3⟩:=(show ObjOk X.prog X.w H1 s1.heap c2 (.tup ys)from I1.hok c2 _ hy)
    refine Aj (xs:=its.toArray) (ys:=its2.toArray) ⟨_,e,rfl,n,rfl⟩ ⟨ob,hob1,hob2,nb,hob3⟩ λh' g1 g2 g3 g4 g5=>?_
    refine Li ?_
    have I2:Inv X ca σ H1 {s1 with heap:=h'}:=I1.kept (t':=s1.toks) g5
    obtain⟨ps,k1,k2⟩:=Cn hz.1 hz.2.1 rx ry;refine B1 (I2.ok.hd hc) hu I2 g1 g2 g3 (λj hj=>I1.IH (by omega) (I1.hok.fresh (by omega))) rv r2 (by rw[<-rx.length];exact hz.2.2.1) (by rw[<-rx.length];exact hz.2.2.2) k1 λq s' nw I'=>⟨.ref q,_,I',rfl,q1 _ (aV nw.1 _) _ ?_⟩
    obtain⟨d1,d2⟩:=kG (ks:=[]) (ts:=[]) (kvs:=[]) k2 rfl Reps.GT MR;exact Rep.Iq.mpr ⟨q,_,rfl,E'.fresh nw.1,.inl aZ,d1,d2.same (aV nw.1 _)⟩
  ·rw[if_neg hz]at q1;exact q1.elim
 ·exact q1.elim
end
end Tr
namespace PySem
open Sem (wp)
open L2 (itAt)
def sqAt(tt:Bool)(h:ZH)(a:ZE)(xs:Array JD):Prop:=if tt then h.IsTuple a xs else h.IsList a xs
variable{a:ZE}{xs:Array JD}
def sqAt.keep{tt:Bool}{h h':ZH}(q:sqAt tt h a xs)(k:∀o,h.get? a=ZA o->h'.get? a=ZA o):sqAt tt h' a xs:=by
 cases tt with
 |true=>exact fV (show h.IsTuple a xs from q) k
 |false=>exact Heap.IsList.at (show h.IsList a xs from q) k
section
def pP{tt:Bool}{it:ZE}{k:Nat}{xs:Array JD}{x:JD}(hi:itAt tt s.heap it a k)(hs:sqAt tt s.heap a xs)(hx:xs[k]?=ZA x)
  (hQ:∀h',itAt tt h' it a (k+1)->Me it s.heap h'->Q x {s with heap:=h'}):ZJ (ZK prog w) A (J2 (.ref it)) Q E s:=by
 cases tt with
 |true=>exact Enu.tupNext hi hs hx hQ
 |false=>exact Nv hi hs hx hQ
def ym{tt:Bool}{it:ZE}{k:Nat}{xs:Array JD}(hh:A.handled=ZB)(hi:itAt tt s.heap it a k)(hs:sqAt tt s.heap a xs)(hx:xs[k]?=ZB)
  (hE:∀h' e,Sg it s.heap h'->(∃o,h'.get? e=ZA o/\o.cls=.type "StopIteration")->E (.ref e) {s with heap:=h'}):ZJ (ZK prog w) A (J2 (.ref it)) Q E s:=by
 cases tt with
 |true=>exact Enu.tupStop hh hi hs hx hE
 |false=>exact PN hh hi hs hx hE
structure Zw (h:ZH)(n a1 a2:Nat)(t1 t2:Bool)(k:Nat):Prop where
 pr:Mx h (n+2) (.ref n) (.ref (n+1))
 ow:∃a b,Mx h (n+3) a b
 i1:itAt t1 h n a1 k
 i2:itAt t2 h (n+1) a2 k
variable {a1 a2:Nat}{t1 t2:Bool}{ys:Array JD}{x y:JD}
theorem Zw.keep{h h':ZH}(q:Zw h n a1 a2 t1 t2 k)(e:∀c o,n<=c->c<n+4->h.get? c=ZA o->h'.get? c=ZA o):Zw h' n a1 a2 t1 t2 k where
 pr:=e _ _ (by omega) (by omega) q.pr
 ow:=let ⟨a,b,z⟩:=q.ow;⟨a,b,e _ _ (by omega) (by omega) z⟩
 i1:=q.i1.keep λo=>e _ o (by omega) (by omega)
 i2:=q.i2.keep λo=>e _ o (by omega) (by omega)
def Ab(q:Zw s.heap n a1 a2 t1 t2 k)(kz:zO s.heap (n+4) (n+2) (n+3) .none (.bool ZD))(s1:sqAt t1 s.heap a1 xs)(s2:sqAt t2 s.heap a2 ys)(b1:a1<n\/n+4<a1)(b2:a2<n\/n+4<a2)(hx:xs[k]?=ZA x)(hy:ys[k]?=ZA y)
  (kq:∀h' p,s.heap.objs.size<=p->Mx h' p x y->zO h' (n+4) (n+2) (n+3) (rawInt p) (.bool ZD)->Zw h' n a1 a2 t1 t2 (k+1)->(∀c o,c≠n->c≠n+1->c≠n+3->c≠n+4->s.heap.get? c=ZA o->h'.get? c=ZA o)->Q (.ref p) {s with heap:=h'}):
  ZJ (ZK prog w) A (Builtin.«zip.__next__» ⟨[.ref (n+4)],[]⟩) (λfin s'=>∃v,fin=.done (.ret v)/\Q v s') E s:=by
 obtain⟨oa,ob,ho⟩:=q.ow
 show ZJ _ _ (field (.ref (n+4)) 2 >>= _) _ _ _
 refine Jy (Kd kz rfl (x:=.bool ZD) rfl ?_)
 show ZJ _ _ (field (.ref (n+4)) 3 >>= _) _ _ _
 refine Jy (Kd kz rfl (x:=.ref (n+2)) rfl ?_)
 refine Jy (KD q.pr rfl ?_)
 show ZJ _ _ (JT (.ref (n+4)) >>= _) _ _ _
 have fr:ZJ (ZK prog w) A (JT (.ref (n+4))) (λv s'=>v=ZC/\s'=s) E s:=by
  unfold JT;exact Jy (Kd kz rfl (x:=.none) rfl (JK ⟨rfl,rfl⟩))
 refine Jy (Kw fr (λv s' hv=>?_) λ_ _ z=>z)
 obtain⟨rfl,rfl⟩:=hv;simp only[if_true];refine Jy (Mb (Jy (Kd kz rfl (x:=.ref (n+3)) rfl (Jy (KR kz (by simp) λh₁ kz₁ e₁=>?_)))))
 replace kz₁:zO h₁ (n+4) (n+2) (n+3) .ellipsis (.bool ZD):=kz₁
 have q₁:Zw h₁ n a1 a2 t1 t2 k:=q.keep λc o _ hc g=>e₁.extBut c o (bD (by omega)) g
 simp only[Pb,Pt,L5,MQ];refine Jy (Jy (Jy (MM ?_)))
 show ZJ _ _ (J2 (.ref n) >>= _) _ _ _
 refine Jy (pP q₁.i1 (s1.keep λo g=>e₁.extBut _ _ (bD (by omega)) g) hx λh₂ g₂ e₂=>JK ?_)
 have o₂:Mx h₂ (n+3) oa ob:=e₂.extBut _ _ (bD (by omega)) (e₁.extBut _ _ (bD (by omega)) ho)
 refine Jy (KD o₂ rfl (Jy (LZ o₂ λh₃ o₃ e₃=>Jy (O6 (JK ?_)))))
 replace o₃:Mx h₃ (n+3) x ob:=o₃
 refine Jy (Jy (MM ?_))
 show ZJ _ _ (J2 (.ref (n+1)) >>= _) _ _ _
 refine Jy (pP (q₁.i2.keep λo g=>e₃.extBut _ _ (bD (by omega)) (e₂.extBut _ _ (bD (by omega)) g)) (s2.keep λo g=>e₃.extBut _ _ (bD (by omega)) (e₂.extBut _ _ (bD (by omega)) (e₁.extBut _ _ (bD (by omega)) g))) hy λh₄ g₄ e₄=>JK ?_)
 have o₄:Mx h₄ (n+3) x ob:=e₄.extBut _ _ (bD (by omega)) o₃
 refine Jy (KD o₄ rfl (Jy (LZ o₄ λh₅ o₅ e₅=>Jy (O6 (JK (JK ?_))))))
 replace o₅:Mx h₅ (n+3) x y:=o₅
 refine Jy (KD o₅ rfl (Jy (Qg ?_)))
 have z₅:h₅.objs.size=s'.heap.objs.size:=by rw[e₅.1,e₄.1,e₃.1,e₂.1,e₁.1]
 have up:∀c o,c≠n->c≠n+1->c≠n+3->h₁.get? c=ZA o->h₅.get? c=ZA o:=λc o c1 c2 c3 g=>e₅.extBut _ _ c3 (e₄.extBut _ _ c2 (e₃.extBut _ _ c3 (e₂.extBut _ _ c1 g)))
 show ZJ _ _ (La (.ref (n+4)) (.ref h₅.objs.size) >>= _) _ _ _
 have z5:zO (h₅.push {cls:=.type "tuple",data:=.seq #[x,y]}) (n+4) (n+2) (n+3) .ellipsis (.bool ZD):=JA _ (up _ _ (bD (by omega)) (bD (by omega)) (bD (by omega)) kz₁)
 have hn:n+4<h₅.objs.size:=JM (up _ _ (bD (by omega)) (bD (by omega)) (bD (by omega)) kz₁)
 refine Jy ?_
 unfold La;refine Jy (KR z5 (by simp) λh₇ z₇ e₇=>?_)
 replace z₇:zO h₇ (n+4) (n+2) (n+3) (rawInt h₅.objs.size) (.bool ZD):=z₇
 refine KR z₇ (by simp) λh₈ z₈ e₈=>JK ⟨_,rfl,?_⟩
 replace z₈:zO h₈ (n+4) (n+2) (n+3) (rawInt h₅.objs.size) (.bool ZD):=z₈
 have up8:∀c o,c≠n+4->h₅.get? c=ZA o->h₈.get? c=ZA o:=λc o c1 g=>e₈.extBut _ _ c1 (e₇.extBut _ _ c1 (JA _ g))
 refine kq h₈ h₅.objs.size (LS z₅.symm) (e₈.extBut _ _ (bD (by omega)) (e₇.extBut _ _ (bD (by omega)) (JP _ rfl))) z₈ ⟨up8 _ _ (bD (by omega)) (up _ _ (bD (by omega)) (bD (by omega)) (bD (by omega)) q₁.pr),⟨x,y,up8 _ _ (bD (by omega)) o₅⟩,?_,?_⟩ λc o c1 c2 c3 c4 g=>up8 c o c4 (up c o c1 c2 c3 (e₁.extBut _ _ c4 g))
 ·exact g₂.keep λo g=>up8 _ _ (bD (by omega)) (e₅.extBut _ _ (bD (by omega)) (e₄.extBut _ _ (bD (by omega)) (e₃.extBut _ _ (bD (by omega)) g)))
 ·exact g₄.keep λo g=>up8 _ _ (bD (by omega)) (e₅.extBut _ _ (bD (by omega)) g)
def CS{Q:Fin->JB->Prop}(hh:A.handled=ZB)(q:Zw s.heap n a1 a2 t1 t2 k)(kz:zO s.heap (n+4) (n+2) (n+3) .none (.bool ZD))(s1:sqAt t1 s.heap a1 xs)(s2:sqAt t2 s.heap a2 ys)(b1:a1<n\/n+4<a1)(b2:a2<n\/n+4<a2)(hend:xs[k]?=ZB\/ys[k]?=ZB)
  (ke:∀h' e,(∀c o,c≠n->c≠n+1->c≠n+3->c≠n+4->s.heap.get? c=ZA o->h'.get? c=ZA o)->(∃o,h'.get? e=ZA o/\o.cls=.type "StopIteration")->E (.ref e) {s with heap:=h'}):
  ZJ (ZK prog w) A (Builtin.«zip.__next__» ⟨[.ref (n+4)],[]⟩) Q E s:=by
 show ZJ _ _ (field (.ref (n+4)) 2 >>= _) _ _ _
 refine Jy (Kd kz rfl (x:=.bool ZD) rfl ?_)
 show ZJ _ _ (field (.ref (n+4)) 3 >>= _) _ _ _
 refine Jy (Kd kz rfl (x:=.ref (n+2)) rfl ?_)
 refine Jy (KD q.pr rfl ?_)
 show ZJ _ _ (JT (.ref (n+4)) >>= _) _ _ _
 have fr:ZJ (ZK prog w) A (JT (.ref (n+4))) (λv s'=>v=ZC/\s'=s) E s:=by
  unfold JT;exact Jy (Kd kz rfl (x:=.none) rfl (JK ⟨rfl,rfl⟩))
 refine Jy (Kw fr (λv s' hv=>?_) λ_ _ z=>z)
 obtain⟨rfl,rfl⟩:=hv;simp only[if_true];refine Jy (Mb (Jy (Kd kz rfl (x:=.ref (n+3)) rfl (Jy (KR kz (by simp) λh₁ kz₁ e₁=>?_)))))
 replace kz₁:zO h₁ (n+4) (n+2) (n+3) .ellipsis (.bool ZD):=kz₁
 have q₁:Zw h₁ n a1 a2 t1 t2 k:=q.keep λc o _ hc g=>e₁.extBut c o (bD (by omega)) g
 simp only[Pb,Pt,L5,MQ];refine Jy (Jy (Jy (MM ?_)))
 show ZJ _ _ (J2 (.ref n) >>= _) _ _ _
 cases hx:xs[k]? with
 |none=>
  refine Jy (ym hh q₁.i1 (s1.keep λo g=>e₁.extBut _ _ (bD (by omega)) g) hx λh₂ e e₂ he=>?_)
  obtain⟨oe,hoe,hce⟩:=he
  have hz₂:zO h₂ (n+4) (n+2) (n+3) .ellipsis (.bool ZD):=e₂ _ _ (bD (by omega)) kz₁
  have hez:e≠n+4:=λx=>by subst x;rw[hz₂]at hoe;cases hoe;simp at hce
  exact KR hz₂ (by simp) λh₃ _ hs₃=>ke h₃ e (λc o c1 c2 c3 c4 g=>hs₃.extBut _ _ c4 (e₂ _ _ c1 (e₁.extBut _ _ c4 g))) ⟨oe,hs₃.extBut _ _ hez hoe,hce⟩
 |some x=>
  have hy:ys[k]?=ZB:=by
   rcases hend with h|h
   ·rw[hx]at h;cases h
   ·exact h
  obtain⟨oa,ob,ho⟩:=q.ow;refine Jy (pP q₁.i1 (s1.keep λo g=>e₁.extBut _ _ (bD (by omega)) g) hx λh₂ g₂ e₂=>JK ?_)
  have o₂:Mx h₂ (n+3) oa ob:=e₂.extBut _ _ (bD (by omega)) (e₁.extBut _ _ (bD (by omega)) ho)
  refine Jy (KD o₂ rfl (Jy (LZ o₂ λh₃ o₃ e₃=>Jy (O6 (JK ?_)))))
  refine Jy (Jy (MM ?_))
  show ZJ _ _ (J2 (.ref (n+1)) >>= _) _ _ _
  refine Jy (ym hh (q₁.i2.keep λo g=>e₃.extBut _ _ (bD (by omega)) (e₂.extBut _ _ (bD (by omega)) g)) (s2.keep λo g=>e₃.extBut _ _ (bD (by omega)) (e₂.extBut _ _ (bD (by omega)) (e₁.extBut _ _ (bD (by omega)) g))) hy λh₄ e e₄ he=>?_)
  obtain⟨oe,hoe,hce⟩:=he
  have hz₄:zO h₄ (n+4) (n+2) (n+3) .ellipsis (.bool ZD):=e₄ _ _ (bD (by omega)) (e₃.extBut _ _ (bD (by omega)) (e₂.extBut _ _ (bD (by omega)) kz₁))
  have hez:e≠n+4:=λx=>by subst x;rw[hz₄]at hoe;cases hoe;simp at hce
  exact KR hz₄ (by simp) λh₅ _ hs₅=>ke h₅ e (λc o c1 c2 c3 c4 g=>hs₅.extBut _ _ c4 (e₄ _ _ c2 (e₃.extBut _ _ c3 (e₂.extBut _ _ c1 (e₁.extBut _ _ c4 g))))) ⟨oe,hs₅.extBut _ _ hez hoe,hce⟩
abbrev CT(h:ZH)(t1:Bool)(a1:ZE):ZH:=h.push {cls:=.type (if t1 then "tuple_iterator" else "list_iterator"),data:=.fields #[.ref a1,.int 0 0]}
end
def yX{tt:Bool}(q:sqAt tt s.heap a xs)(h:Q (.ref s.heap.objs.size) {s with heap:=CT s.heap tt a}):ZJ (ZK prog w) A (pyIter (.ref a)) Q E s:=by
 cases tt with
 |true=>exact LX (show s.heap.IsTuple a xs from q) h
 |false=>exact MK (show s.heap.IsList a xs from q) h
abbrev H0(h:ZH)(t1 t2:Bool)(l t:ZE):ZH:=CT (CT h t1 l) t2 t
abbrev HZ(h:ZH)(t1 t2:Bool)(l t:ZE):ZH:=(H0 h t1 t2 l t).push {cls:=.type "tuple",data:=.seq #[.ref h.objs.size,.ref (CT h t1 l).objs.size]}
abbrev HY(h:ZH)(t1 t2:Bool)(l t:ZE):ZH:=(HZ h t1 t2 l t).push {cls:=.type "tuple",data:=.seq #[.none,.none]}
abbrev Cj(h:ZH)(t1 t2:Bool)(l t:ZE):ZH:=(HY h t1 t2 l t).push {cls:=.type "zip",data:=.fields #[.none,.bool ZD,.bool ZD,.ref (H0 h t1 t2 l t).objs.size,.ref (HZ h t1 t2 l t).objs.size]}
def yy(t1 t2:Bool)(l t:ZE)(xs ys:Array JD):Meets (Builtin.«zip.__new__» ⟨[.type "zip",.ref l,.ref t],[]⟩) (λ_ R s=>sqAt t1 s.heap l xs/\sqAt t2 s.heap t ys/\R (.ok (.ret (.ref (HY s.heap t1 t2 l t).objs.size))) {s with heap:=Cj s.heap t1 t2 l t}):=
 .of_wp λprog w A R s q=>by
  obtain⟨hp,g,d,tk,os⟩:=s;obtain⟨a1,a2,q⟩:=q
  have k0:=sub_zip
  have k1:sqAt t1 (OU ⟨hp,g,d,tk,os⟩) l xs:=a1
  have k2:sqAt t2 (OU ⟨CT hp t1 l,g,d,tk,os⟩) t ys:=sqAt.keep a2 λo e=>JA _ e
  wp_walk using yX k1,yX k2
  exact⟨_,rfl,q⟩
def Ac{t1 t2:Bool}{l t:ZE}{ys:Array JD}(a1:sqAt t1 s.heap l xs)(a2:sqAt t2 s.heap t ys)
  (q:∀h',Zw h' s.heap.objs.size l t t1 t2 0->zO h' (s.heap.objs.size+4) (s.heap.objs.size+2) (s.heap.objs.size+3) .none (.bool ZD)->h'.objs.size=s.heap.objs.size+5 →
   (∀c o,s.heap.get? c=ZA o->h'.get? c=ZA o)->Q (.ref (s.heap.objs.size+4)) {s with heap:=h'}):
  ZJ (ZK prog w) A (call (.type "zip") [.ref l,.ref t]) Q E s:=by
 refine RH F.called_zip (by decide) (RT _ _) (Si _ _) (λobj=>PY obj _ _) Sj (yy t1 t2 l t xs ys) ⟨a1,a2,?_⟩
 have z1:(CT s.heap t1 l).objs.size=s.heap.objs.size+1:=Kv ..
 have z2:(H0 s.heap t1 t2 l t).objs.size=s.heap.objs.size+2:=by rw[Kv,z1]
 have z3:(HZ s.heap t1 t2 l t).objs.size=s.heap.objs.size+3:=by rw[Kv,z2]
 have z4:(HY s.heap t1 t2 l t).objs.size=s.heap.objs.size+4:=by rw[Kv,z3]
 have z5:(Cj s.heap t1 t2 l t).objs.size=s.heap.objs.size+5:=by rw[Kv,z4]
 have g5:(Cj s.heap t1 t2 l t).get? (HY s.heap t1 t2 l t).objs.size=ZA _:=JP _ rfl
 have g4:(Cj s.heap t1 t2 l t).get? (HZ s.heap t1 t2 l t).objs.size=ZA _:=JA _ (JP _ rfl)
 have g3:(Cj s.heap t1 t2 l t).get? (H0 s.heap t1 t2 l t).objs.size=ZA _:=JA _ (JA _ (JP _ rfl))
 have g2:(Cj s.heap t1 t2 l t).get? (CT s.heap t1 l).objs.size=ZA _:=JA _ (JA _ (JA _ (JP _ rfl)))
 have g1:(Cj s.heap t1 t2 l t).get? s.heap.objs.size=ZA _:=JA _ (JA _ (JA _ (JA _ (JP _ rfl))))
 have up:∀c o,s.heap.get? c=ZA o->(Cj s.heap t1 t2 l t).get? c=ZA o:=λc o e=>JA _ (JA _ (JA _ (JA _ (JA _ e))))
 show _/\_
 rw[z2,z3,z4]at g5;rw[z1,z2]at g3;rw[z3]at g4;rw[z1]at g2;rw[z4];refine⟨⟨_,g5,rfl⟩,q _ ⟨g3,⟨_,_,g4⟩,?_,?_⟩ g5 z5 up⟩
 ·cases t1 with
  |true=>exact⟨_,g1,rfl,rfl⟩
  |false=>exact⟨_,g1,rfl,rfl⟩
 ·cases t2 with
  |true=>exact⟨_,g2,rfl,rfl⟩
  |false=>exact⟨_,g2,rfl,rfl⟩
end PySem
namespace L2
open PySem PySem.Spec PyProof.Rows
def Itz(K:Jz)(a1 a2:ZE)(t1 t2:Bool):It:=
 ⟨λi H=>∃xs x ys y,(mX K H a1 t1 xs/\xs[i]?=ZA x)/\mX K H a2 t2 ys/\ys[i]?=ZA y,λi H x H'=>∃p v u,x=.ref p/\H p=ZB/\H'=upd H p (.tup [v,u])/\(∀xs,mX K H a1 t1 xs->xs[i]?=ZA v)/\∀ys,mX K H a2 t2 ys->ys[i]?=ZA u,
  λi H=>∃xs ys,mX K H a1 t1 xs/\mX K H a2 t2 ys/\(xs.length<=i\/ys.length<=i)⟩
variable{X:Cx}{a:ZE}{xs:List V}
section
variable {ca:V3}{σ:L2.St}{H:Hp}
def gh{tt:Bool}(I:Inv X ca σ H s)(q:mX X.K H a tt xs):∃its:List JD,Vals xs its/\sqAt tt s.heap a its.toArray/\∀ys,mX X.K H a tt ys->ys=xs:=by
 cases tt with
 |true=>
  have q':SqT X.K H a xs:=q;obtain⟨its,rv,p,hz⟩:=I.tuple q'
  exact⟨its,rv,p,λys hy=>I.IB hy q'⟩
 |false=>
  have q':SqL X.K H a xs:=q;obtain⟨its,rv,p,hz⟩:=I.list q';exact⟨its,rv,p.isList,λys hy=>I.ID hy q'⟩
def qS{tt:Bool}{b:ZE}(I:Inv X ca σ H s)(q:mX X.K H a tt xs)(hb:gZ X ca H b):a≠b:=λz=>by
 have hb':=hb.1;rw[<-z]at hb'
 cases tt with
 |true=>
  have hq':SqT X.K H a xs:=q;rcases hq' with(q|⟨o,q⟩)|⟨o,its,n,q,_⟩
  ·rw[hb']at q;cases q
  ·rw[hb']at q;cases q
  ·rcases hb.2.2.2.1 with z1|z1
   ·exact I.ok.noex a o (I.ok.mod.kin a o q) (z▸z1)
   ·exact absurd (JS (JM (I.ok.bs a o (I.ok.mod.kin a o q)).1) (z▸z1)) (J3 _)
 |false=>
  have hq':SqL X.K H a xs:=q;rcases hq' with(q|⟨o,q⟩)|⟨o,its,n,q,_⟩
  ·rw[hb']at q;cases q
  ·rw[hb']at q;cases q
  ·rcases hb.2.2.2.1 with z1|z1
   ·exact I.ok.noex a o (I.ok.mod.kin a o q) (z▸z1)
   ·exact absurd (JS (JM (I.ok.bs a o (I.ok.mod.kin a o q)).1) (z▸z1)) (J3 _)
end
def five{b:Nat}:b∈ [n+4,n,n+1,n+2,n+3] ↔n<=b/\b<n+5:=by
 simp only[JL,KN,or_false];omega
variable{elts:List ZG}
def xn{pos:Pos}(t1 t2:Bool)(a1 a2 n:Nat):
  wI P w K (.Tuple elts kk pos) (Itz K a1 a2 t1 t2) [n+4,n,n+1,n+2,n+3] (n+4) (λi h=>zO h (n+4) (n+2) (n+3) .none (.bool ZD)/\Zw h n a1 a2 t1 t2 i) where
 mem:=by simp
 obj:=λi h st b hb=>by
  obtain⟨kz,q⟩:=st;simp only[JL,KN,or_false]at hb;rcases hb with rfl|rfl|rfl|rfl|rfl
  ·exact⟨_,kz,λv z=>by have z':Se _=Qx v:=z;cases z'⟩
  ·exact q.i1.obj
  ·exact q.i2.obj
  ·exact⟨_,q.pr,λv z=>by have z':Data.seq _ _=Qx v:=z;cases z'⟩
  ·obtain⟨a,b,e⟩:=q.ow
   exact⟨_,e,λv z=>by have z':Data.seq _ _=Qx v:=z;cases z'⟩
 keep:=λi h h' st k=>by
  obtain⟨kz,q⟩:=st;exact⟨k _ (by simp) _ kz,q.keep λc o c1 c2 g=>k c (five.mpr ⟨c1,by omega⟩) o g⟩
 item:=by
  intro X hP hw hK hc i ca s σ H E I hf st hg;subst hP hw hK;obtain⟨xs,x,ys,y,⟨hq1,hx⟩,hq2,hy⟩:=hg;obtain⟨kz,q⟩:=st;obtain⟨its1,r1,p1,u1⟩:=gh I hq1;obtain⟨its2,r2,p2,u2⟩:=gh I hq2;obtain⟨v1,e1,rv1⟩:=r1.get hx;obtain⟨v2,e2,rv2⟩:=r2.get hy
  have ap:∀{tt:Bool}{a:Nat}{zs:List V},mX X.K H a tt zs->a<n\/n+4<a:=λ{tt a zs} hq=>by
   refine Oo λhh=>?_
   exact qS I hq (hf a (five.mpr ⟨by omega,by omega⟩)) rfl
  have hT:s.TypeIs (.ref (n+4)) "zip":=⟨_,kz,rfl⟩
  have lt:n+4<s.heap.objs.size:=JM kz;unfold pyNext;refine Jy (Nm (Ku (name:=JN "__next__") hT Lf (KZ Lf hT MT (Ab q kz p1 p2 (ap hq1) (ap hq2) (by simpa using e1) (by simpa using e2) λh1 Tp hsz hTp hz1 q1 hk=>JK ⟨.ref Tp,rfl,?_⟩) (MH _))))
  refine wpAny_letOwnedTupleGo_zip (s:={s with heap:=h1}) hz1 λh2 hz2 hs2=>?_
  have kAll:∀b o,b∉ [n+4,n,n+1,n+2,n+3]->s.heap.get? b=ZA o->h2.get? b=ZA o:=λb o hb g=>by
   have hb':¬ (n<=b/\b<n+5):=λz=>hb (five.mpr z)
   exact hs2.extBut _ _ (bD (by omega)) (hk b o (bD (by omega)) (bD (by omega)) (bD (by omega)) (bD (by omega)) g)
  have q2:Zw h2 n a1 a2 t1 t2 (i+1):=q1.keep λc o c1 c2 g=>hs2.extBut _ _ (bD (by omega)) g
  have hTp2:Mx h2 Tp v1 v2:=hs2.extBut _ _ (bD (by omega)) hTp
  have there:∀b∈ [n+4,n,n+1,n+2,n+3],∃o,h2.get? b=ZA o:=λb hb=>by
   simp only[JL,KN,or_false]at hb;rcases hb with rfl|rfl|rfl|rfl|rfl
   ·exact⟨_,hz2⟩
   ·obtain⟨o,e,_⟩:=q2.i1.obj;exact⟨o,e⟩
   ·obtain⟨o,e,_⟩:=q2.i2.obj;exact⟨o,e⟩
   ·exact⟨_,q2.pr⟩
   ·obtain⟨a,b,e⟩:=q2.ow;exact⟨_,e⟩
  have hn:H Tp=ZB:=I.hok.fresh hsz
  have new:ObjOk X.prog X.w (upd H Tp (.tup [x,y])) h2 Tp (.tup [x,y]):=⟨by show 2<=ZI;decide,[v1,v2],.cons rv1 (.cons rv2 .nil),⟨_,hTp2,rfl,_,rfl⟩⟩
  have I2:=I.IP (t':=s.toks) hf kAll there hsz new;refine⟨.ref Tp,_,I2,rfl,⟨Tp,x,y,rfl,hn,rfl,λzs hz=>by rw[u1 zs hz];exact hx,λzs hz=>by rw[u2 zs hz];exact hy⟩,⟨hz2,q2⟩,λb hb=>?_⟩
  have hb':=five.mp hb
  have hbT:b≠Tp:=bD (by omega)
  rw[aM hbT];exact(hf b hb).1
 done:=by
  intro X hP hw hK hc i ca s σ H E I hf st hg;subst hP hw hK;obtain⟨xs,ys,hq1,hq2,hx⟩:=hg;obtain⟨kz,q⟩:=st;obtain⟨its1,r1,p1,u1⟩:=gh I hq1;obtain⟨its2,r2,p2,u2⟩:=gh I hq2
  have l1:=r1.length
  have l2:=r2.length
  have ap:∀{tt:Bool}{a:Nat}{zs:List V},mX X.K H a tt zs->a<n\/n+4<a:=λ{tt a zs} hq=>by
   refine Oo λhh=>?_
   exact qS I hq (hf a (five.mpr ⟨by omega,by omega⟩)) rfl
  have hT:s.TypeIs (.ref (n+4)) "zip":=⟨_,kz,rfl⟩
  have hend:its1.toArray[i]?=ZB\/its2.toArray[i]?=ZB:=by
   rcases hx with h|h
   ·left;simp;omega
   ·right;simp;omega
  unfold pyNext;refine Jy (Nm (Ku (name:=JN "__next__") hT Lf (KZ Lf hT MT (CS (I.ok.hd hc) q kz p1 p2 (ap hq1) (ap hq2) hend λh' e kp he=>?_) (MH _))))
  obtain⟨o,ho,hcl⟩:=he;refine Jy (Pd (T:="StopIteration") (b:=ZC) ⟨o,ho,hcl⟩ Qe (JK ⟨rfl,I.Ir (t':=s.toks) hf λ(b:Nat) o hb g=>?_⟩))
  have hb':¬ (n<=b/\b<n+5):=λz=>hb (five.mpr z)
  exact kp b o (bD (by omega)) (bD (by omega)) (bD (by omega)) (bD (by omega)) g
 self:=λ_ _ _ _ _ st h=>R4 st.1 h
open Tr (aW a7 dy)
section
variable {tpos:Pos}
def iZip(K:Jz)(tl:TA):TI:=λσ H R=>tl σ H λvs H1=>∃a1 a2 t1 t2,vs=[.ref a1,.ref a2]/\(∃xs,mX K H1 a1 t1 xs)/\(∃ys,mX K H1 a2 t2 ys)/\R (Itz K a1 a2 t1 t2) H1
def DY{l m:ZG}{tl:TA}{p pos:Pos}(hg:Gl X "zip")(hm:X.mg "zip" =ZB)(hl:PA X [l,m] tl)(hst:autoParam (aW [l,m]=ZC) u_):PI X (.Tuple elts kk tpos) (.Call (.Name "zip" p) [l,m] [] pos) (iZip X.K tl):=by
 intro ca s σ H R I h;unfold aW at hst;rw[JH]at hst;refine Call_ (eg I hg hm (show Ke "zip" =ZA (.type "zip")by decide+kernel) (KG (bN (hl pos ca s σ H _ I h) λus s1 ⟨vs,H1,I1,r1,q1⟩=>?_) (a7 hst.1) (dy hst.2)))
 obtain⟨a1,a2,t1,t2,e,⟨xs,hq1⟩,⟨ys,hq2⟩,q⟩:=q1;subst e
 cases r1 with
 |cons w1 w2=>
  obtain⟨u2,rfl,w3⟩:=Vals.one w2;cases w1;obtain rfl:u2=Kf a2:=w3;obtain⟨its1,_,p1,_⟩:=gh I1 hq1;obtain⟨its2,_,p2,_⟩:=gh I1 hq2;refine Ac p1 p2 λh' g1 g2 g3 g4=>?_
  refine R4 (s:={s1 with heap:=h'}) g2 ?_
  have I2:Inv X ca σ H1 {s1 with heap:=h'}:=I1.kept (t':=s1.toks) g4
  refine⟨s1.heap.objs.size+4,[s1.heap.objs.size+4,s1.heap.objs.size,s1.heap.objs.size+1,s1.heap.objs.size+2,s1.heap.objs.size+3],_,_,H1,rfl,I2,xn t1 t2 a1 a2 s1.heap.objs.size,⟨g2,g1⟩,λb hb=>?_,q⟩
  have hb':=five.mp hb;exact I1.IH hb'.1 (I1.hok.fresh hb'.1)
end
end L2
namespace Tr
open PySem PySem.Spec PyProof.Rows L2
theorem Ak(l m:List T)(i:Nat):((l.zip m).map λp=>T.tup [p.1,p.2])[i]?=match l[i]?,m[i]? with
  |some a,ZA b=>ZA (T.tup [a,b])
  |_,_=>ZB:=by
 rw[Ko]
 unfold List.zip;rw[List.getElem?_zipWith]
 cases l[i]? <;> cases m[i]? <;> rfl
def Wk(K:Jz)(O:Ow)(H1:Hp)(l:List T)(v:V):Prop:=∃(aa:ZE)(tt:Bool)(ws:List V),v=.ref aa/\¬ O aa/\Reps K O H1 l ws/\mX K H1 aa tt ws/\(∀P Hc,SameO P H1 Hc->¬ P aa->mX K Hc aa tt ws)/\¬ Nw K H1 aa
def Co{O:Ow}{H1:Hp}{x:T}{l:List T}{v:V}(hl:x.items=ZA l)(rv:Rep K O H1 x v):Wk K O H1 l v:=by
 cases x with
 |tup m=>
  cases hl;obtain⟨aa,ws,e,n,qq,z⟩:=Rep.FB.mp rv
  exact⟨aa,ZC,ws,e,n,z,(show SqT K H1 aa ws from SqT.of qq),(λP Hc hsm hn=>show SqT K Hc aa ws from SqT.of (hsm _ _ qq hn)),λw=>by rw[w.1]at qq;cases qq⟩
 |lst m=>
  cases hl;obtain⟨aa,ws,e,n,qq,z⟩:=Rep.Fk.mp rv
  exact⟨aa,ZD,ws,e,n,z,(show SqL K H1 aa ws from SqL.of qq),(λP Hc hsm hn=>show SqL K Hc aa ws from SqL.of (hsm _ _ qq hn)),λw=>by rw[w.1]at qq;cases qq⟩
 |scr m=>
  cases hl;unfold Rep at rv;obtain⟨aa,e,n,qq⟩:=rv
  exact⟨aa,ZD,_,e,n,Reps.ints,(show SqL K H1 aa _ from qq),(λP Hc hsm hn=>show SqL K Hc aa _ from Tr.SqL.keep hsm hn qq),(Tr.SqL.nn qq)⟩
 |_=>cases hl
section
variable {X:Cx}{a b:ZG}{fs:V4}{p pos:Pos}
def DD{elts:List ZG}{tpos:Pos}(hm:X.mg "zip" =ZB)(ha:qu X [a,b] fs)(hg:autoParam (Gl X "zip") u_)(hst:autoParam (aW [a,b]=ZC) u_):
  wR X (.Tuple elts kk tpos) (.Call (.Name "zip" p) [a,b] [] pos) (iZ fs):=PI.imp (DY hg hm ha hst) λσ H R hh_=>by
 obtain⟨ρ,O,E,h⟩:=hh_;obtain⟨ρ1,O1,E1,h1⟩:=dR E h;refine⟨ρ1,O1,E1,Post.mono h1 λts H1 s1 q vs r=>?_⟩
 obtain⟨t',r',s',E',q'⟩:=q vs r
 split at q'
 ·rename_i x0 y0
  obtain⟨v,vs1,rfl,rv,rb⟩:=Reps.AC.mp r';obtain⟨v2,rfl,rv2⟩:=rb.one
  split at q'
  ·rename_i l m hl hm
   obtain⟨a1,t1,w1,e1,n1,z1,sq1,mv1,nn1⟩:=Co hl rv;obtain⟨a2,t2,w2,e2,n2,z2,sq2,mv2,nn2⟩:=Co hm rv2;refine⟨a1,a2,t1,t2,by rw[e1,e2],⟨w1,sq1⟩,⟨w2,sq2⟩,q' H1 (Same.refl H1) _ λP O' hP hO i Hc hsm htr=>?_⟩
   have sc1:=mv1 P Hc hsm λy=>(hP a1 y).elim n1 nn1
   have sc2:=mv2 P Hc hsm λy=>(hP a2 y).elim n2 nn2
   refine⟨λhi=>⟨w1,w2,sc1,sc2,?_⟩,λt ht=>?_⟩
   ·rw[JE,List.length_zip]at hi
    rw[<-z1.length,<-z2.length];omega
   ·rw[Ak]at ht
    split at ht
    ·rename_i t1' t2' f1 f2
     cases ht;obtain⟨v0,g1,g2⟩:=z1.get f1;obtain⟨v3,g3,g4⟩:=z2.get f2;refine⟨⟨w1,v0,w2,v3,⟨sc1,g1⟩,sc2,g3⟩,λx Hc' y=>?_⟩
     obtain⟨pp,vv,uu,e2,hpn,e3,hy,hy2⟩:=y
     have k1:=hy w1 sc1
     have k2:=hy2 w2 sc2;rw[g1]at k1;cases k1;rw[g3]at k2;cases k2;subst e2 e3;refine⟨aV hpn _,dS hpn (λzz=>?_) (Reps.GE (g2.move hP hO hsm) (Reps.GE (g4.move hP hO hsm) Reps.GT))⟩
     obtain⟨o,w⟩:=htr pp zz;rw[hpn]at w;cases w
    ·cases ht
  ·exact q'.elim
 ·exact q'.elim
end
def c0(g:List T->Rs T)(_:En):Rs T:=match g []with
 |.ok t=>.ok t
 |_=>.bad
end Tr
namespace PySem
open Sem (wp)
open L2 (itAt)
structure PW (prog:J1)(w:Ks)(A:Kc)(I:ZE)(T:String)(fp wr:List ZE)(n:Nat)(R:Nat->JD->JD->Prop)(St:Nat->Option ZE->ZH->Prop):Prop where
 sub:∀b∈wr,b∈fp
 ty:∀i o (s:JB),St i o s.heap->s.TypeIs (.ref I) T
 frame:∀i o h h',St i o h->(∀b∈fp,∀ob,h.get? b=ZA ob->h'.get? b=ZA ob)->St i o h'
 item:∀i o (s:JB) (Q:Option JD->JB->Prop) (E:V2),i<n->St i o s.heap->(∀t,o=ZA t->∃ob,s.heap.get? t=ZA ob) →
  (∀p h' tk x y,R i x y->s.heap.objs.size<=p->Mx h' p x y->St (i+1) (ZA (o.getD p)) h'->(∀b ob,b∉wr->s.heap.get? b=ZA ob->h'.get? b=ZA ob)->Q (ZA (.ref p)) {s with heap:=h',toks:=tk})->ZJ (ZK prog w) A (pyNext (.ref I)) Q E s
 done:∀o (s:JB) (Q:Option JD->JB->Prop) (E:V2),St n o s.heap->(∀t,o=ZA t->∃ob,s.heap.get? t=ZA ob)->(∀h' tk,(∀b ob,b∉wr->s.heap.get? b=ZA ob->h'.get? b=ZA ob)->Q ZB {s with heap:=h',toks:=tk})->ZJ (ZK prog w) A (pyNext (.ref I)) Q E s
 self:∀i o (s:JB) (Q:V2) (E:V2),St i o s.heap->Q (.ref I) s->ZJ (ZK prog w) A (pyIter (.ref I)) Q E s
end PySem
namespace Tr
open PySem
inductive Fx where
 |nx (ρ:En)|rt (t:T) (ρ:En)
def mN(ρ:En):Rs Fx:=.ok (.nx ρ)
def tE(c:Str)(t:T)(d:Str):Rs T:=if d=c then .ok t else .bad
open PySem.Spec PyProof.Rows L2
abbrev one(j:Nat)(m:Ow):Mn:=noM.set j m
variable{C:ZE}{X:Cx}{ca:V3}
def yz{D:ZE}{bmD:List JD}{e:ZE}{oe:Obj}{Q:Bool->JB->Prop}(OC:OX K C bm)(OD:OX K D bmD)(k:K.In s.heap)(he:s.heap.get? e=ZA oe)(hcls:oe.cls=.ref C)(hin:(Kf C::bm).contains (.ref D)=ZC)(hq:Q ZC s):ZJ M A (excMatches (.ref e) (.ref D)) Q E s:=by
 obtain⟨h,g,d,t,os⟩:=s;obtain⟨nm,qq,N,bs,hdct,sn,sub,ab,col,dd,k0,k1,k2,k3,k5,mN,hC,_⟩:=OC.at_ h k;obtain⟨nm',qq',N',bs',hdct',sn',sub',ab',col',dd',k0',k1',k2',k3',k5',mN',hD,_,_,TD⟩:=OD.at_ h k;exact vZ hC hD he hcls (TD.tail.hasType (by decide)) hin hq
def EY{σ1:L2.St}{H1:Hp}{e T':ZE}{T:Option ZE}{h':ZH}(hst:X.stack=X.env::X.outer)(hfe:X.env.frame=ZA X.env.locals)(hcl:∀x c,X.env.cells.lookup x≠ZA c)(hex:X.ex=[])(I1:Inv X ca σ1 H1 s1)(g:zT ((X.env::X.outer).filterMap (·.frame)) C e T s1.heap h' T')
  (he:H1 e=ZB) (heo:X.s₀.heap.get? e=ZB) (hT:∀t,T=ZA t->H1 t=ZB/\X.s₀.heap.get? t=ZB) (hpp:∀p∈X.pn++ca,p.1≠e/\T≠ZA p.1)
   (kk:∀oe ev oT ts,h'.get? e=ZA oe->oe.cls=.ref C->oe.data=.fields ev->ev[1]?=ZA (.ref T')->h'.get? T'=ZA oT->oT.data=.fields ts->3<ts.size->Inv (z8 X e oe) ca σ1 H1 {s1 with heap:=h'}->e∉kj X.stack->Inv (z8 X e oe) ca σ1 H1 {s1 with heap:=h'.update T' (Mm (·.setIfInBounds 3 Kg))}->Pp):Pp:=by
 have I2:=Inv.gone I1 hst hfe hcl hex g he heo hT hpp
 have Tn:H1 T'=ZB/\X.s₀.heap.get? T'=ZB/\∀p∈X.pn++ca,p.1≠T':=by
  rcases g.new with z|z
  ·exact⟨(hT T' z).1,(hT T' z).2,λp hp y=>(hpp p hp).2 (by rw[z,y])⟩
  ·exact⟨gn I1 z,fX I1 hex z,λp hp y=>by have:=(I1.pin p hp).1;rw[y,z]at this;cases this⟩
 obtain⟨hTe,oe,ev,hoe,hoc,hod,h1,oT,ts,hoT,hdT,h3⟩:=g.flt
 have nfr:∀b o vs,h'.get? b=ZA o->o.data=.fields vs->b∉(X.env::X.outer).filterMap (·.frame):=λb o vs hb hd z=>by
  have:=I2.stack;rw[hst]at this;obtain⟨_,o',ho',hnf⟩:=this.mem z;rw[show h'.get? b=ZA o' from ho']at hb
  cases hb;exact hnf vs hd
 have hel:e≠X.env.locals:=λz=>nfr e oe ev hoe hod (by rw[KJ,hfe];exact z▸JI)
 have hef:e∉X.fs:=λz=>nfr e oe ev hoe hod (by rw[KJ,hfe];exact JF _ z)
 have hcell:∀v,oe.data≠ .cell v:=λv z=>by rw[hod]at z;cases z
 have I3:Inv (z8 X e oe) ca σ1 H1 {s1 with heap:=h'}:=lD I2 hoe he hel hef hcell
 refine kk oe ev oT ts hoe hoc hod h1 hoT hdT (Kj.mp h3).1 I3 (by rw[hst];exact nfr e oe ev hoe hod) ?_
 generalize hU:h'.update T' (Mm (·.setIfInBounds 3 Kg))=h2
 have kp:∀b,b≠T'->h2.get? b=h'.get? b:=λb hb=>by rw[<-hU];exact LL _ _ (MV hb)
 have hT2:h2.get? T'=ZA (Mm (·.setIfInBounds 3 Kg) oT):=by rw[<-hU];exact NI _ hoT (NJ (LV hdT _))
 have hoe2:h2.get? e=ZA oe:=(kp e (MV hTe)).trans hoe
 have g2:zT ((X.env::X.outer).filterMap (·.frame)) C e (ZA T') h' h2 T':=⟨⟨hTe,oe,ev,hoe2,hoc,hod,h1,_,_,hT2,LV hdT _,by simp[(Kj.mp h3).1]⟩,.inl rfl,λb o _ _ n3 q=>(kp b λz=>n3 (by rw[z])).trans q,λb o m q=>⟨o.slots,(kp b λz=>nfr T' oT ts hoT hdT (z▸m)).trans q⟩⟩
 have I4:Inv X ca σ1 H1 {s1 with heap:=h2}:=Inv.gone (s:={s1 with heap:=h'}) I2 hst hfe hcl hex g2 he heo (λt z=>by cases z;exact⟨Tn.1,Tn.2.1⟩) λp hp=>⟨(hpp p hp).1,λz=>Tn.2.2 p hp (Kn z).symm⟩
 exact lD I4 hoe2 he hel hef hcell
structure QE (X:Cx)(e:ZG)(f:V6):Prop where
 h:cy X e f
structure QA (X:Cx)(e:List ZG)(f:V4):Prop where
 h:qu X e f
structure QT (X:Cx)(e:ZG)(f:V7):Prop where
 h:vp X e f
structure QW (X:Cx)(e:ZG)(f:V7):Prop where
 h:HU X e f
structure QS (X:Cx)(e:ZF)(f:V5):Prop where
 h:qt X e f
structure wQ (X:Cx)(e:List ZF)(f:V5):Prop where
 h:lx X e f
structure QG (X:Cx)(e:ZG)(f:T->En->Rs En):Prop where
 h:zR X e f
structure Il (X:Cx)(e:List ZG)(f:List T->En->Rs En):Prop where
 h:zS X e f
structure QI (X:Cx)(t e:ZG)(f:V4):Prop where
 h:wR X t e f
structure QO (X:Cx)(e:Option ZG)(f:En->Rs (Option Int)):Prop where
 h:Fw X e f
structure FN (X:Cx)(e:List ZG)(f:V7):Prop where
 h:sr X e (uh X f)
variable{x:Str}
def af(i:Nat){pos:Pos}(hN:autoParam ((Cx.N X)[i]?=ZA x) u_)(hv:autoParam (vn (MC (Cx.env X)) x) v_)(hd:autoParam ((x == JN "__debug__")=ZD) s_)(hcd:autoParam ((x == JN "__classdict__")=ZD) s_):QE X (KB x pos) (vr i):=
 ⟨GC (i:=i) (hN:=hN) (hv:=hv) (hd:=hd) (hcd:=hcd)⟩
variable{i:Int}
def aj{pos:Pos}:QE X (OV (Const.int i) j pos) (cn (T.int i)):=
 ⟨GN ⟩
def eX{i:Bool}{pos:Pos}:QE X (OV (Const.bool i) j pos) (cn (T.bl i)):=
 ⟨q_bl ⟩
def dQ{pos:Pos}:QE X (OV Const.none j pos) (cn T.non):=
 ⟨GI ⟩
def gu{i:Str}{pos:Pos}:QE X (OV (Const.str i) j pos) (cn (T.str i)):=
 ⟨GF ⟩
def Af{u:JD}{pos:Pos}(hm:Cx.mg X x=ZA u)(r:L2.RelV (V.int i) u)(hg:autoParam (Gl X x) u_)(hd:autoParam ((x == JN "__debug__")=ZD) s_):QE X (KB x pos) (cn (T.int i)):=
 ⟨DJ (hm:=hm) (r:=r) (hg:=hg) (hd:=hd)⟩
def ag:QA X [] ai:=
 ⟨DI ⟩
def ah{X:Cx}{e:ZG}{es:List ZG}{f:V6}{g:V4}(he:QE X e f)(hr:QA X es g)(hn:autoParam (bx e=ZC) u_):QA X (e::es) (ae f g):=
 ⟨qa_c (he:=he.h) (hr:=hr.h) (hn:=hn)⟩
variable{es:List ZG}
def bz{pos:Pos}{f:V4}(h:QA X es f):QE X (Expr.Tuple es x1 pos) (a8 f):=
 ⟨GD (h:=h.h)⟩
def fq{X:Cx}{es:List ZG}{pos:Pos}{f:V4}(h:QA X es f):QE X (Expr.List es pos) (ez f):=
 ⟨GK (h:=h.h)⟩
variable{a b:ZG}{fa fb:V6}{g:T->T->Rs T}
def aw{pos:Pos}{op:Operator}(ho:OpT X (Lz op) g)(ha:QE X a fa)(hb:QE X b fb):QE X (Expr.BinOp a op b pos) (o2 g fa fb):=
 ⟨GQ (ho:=ho) (ha:=ha.h) (hb:=hb.h)⟩
def ft{pos:Pos}(ho:OpT X (KU op) g)(ha:QE X a fa)(hb:QE X b fb)(hm:autoParam (ML op b=ZD) u_):QE X (RD a [op] [b] pos) (o2 g fa fb):=
 ⟨GP (ho:=ho) (ha:=ha.h) (hb:=hb.h) (hm:=hm)⟩
def fS{pos:Pos}(ha:QE X a fa):QE X (RE UnaryOp.USub a pos) (o1 eR fa):=
 ⟨GJ (ha:=ha.h)⟩
def qz{c:ZG}{fc:V6}{pos:Pos}{op':Sy}{g':T->T->Rs T}(ho:OpT X (KU op) g)(ho':OpT X (KU op') g')(ha:QE X a fa)(hb:QE X b fb)(hc:QE X c fc)(hm:autoParam (lastMarks [op,op'] [b,c]=ZD) w_):QE X (RD a [op,op'] [b,c] pos) (ch g g' fa fb fc):=
 ⟨AV (ho:=ho) (ho':=ho') (ha:=ha.h) (hb:=hb.h) (hc:=hc.h) (hm:=hm)⟩
variable{e:ZG}
def cD{f:V6}(h:QE X e f)(he:autoParam (∀(whole:Sem JD),PySem.isTrue e (Cx.env X) whole=(do let v <-whole;standAt (Expr.pos e);holding [v] (truthy v))) t_):QT X e (tb f):=
 ⟨Dq (h:=h.h) (he:=he)⟩
def cE{pos:Pos}(ho:OpT X (KU op) g)(ha:QE X a fa)(hb:QE X b fb)(hm:autoParam (ML op b=ZD) u_):QT X (RD a [op] [b] pos) (tb (o2 g fa fb)):=
 ⟨Ds (ho:=ho) (ha:=ha.h) (hb:=hb.h) (hm:=hm)⟩
variable{f:V7}
def jH{pos:Pos}(ha:QT X a f):QW X (MW QL [a] pos) f:=
 ⟨Dp (ha:=ha.h)⟩
def lL{pos:Pos}{g:V7}{br:List ZG}(ha:QT X a f)(hb:QW X (MW QL (b::br) pos) g):QW X (MW QL (a::b::br) pos) (lZ f g):=
 ⟨Gx (ha:=ha.h) (hb:=hb.h)⟩
def qx(h:QW X e f):QT X e f:=
 ⟨qt_w (h:=h.h)⟩
def c9{pos:Pos}(ha:QT X a f):QT X (RE UnaryOp.Not a pos) (cI f):=
 ⟨Dr (ha:=ha.h)⟩
def dw{pos:Pos}{op:BoolOp}(h:QE X a fa):QE X (MW op [a] pos) fa:=
 ⟨GG (h:=h.h)⟩
def da{pos:Pos}{br:List ZG}(ha:QE X a fa)(hb:QE X (MW BoolOp.And (b::br) pos) fb):QE X (MW BoolOp.And (a::b::br) pos) (bZ fa fb):=
 ⟨GR (ha:=ha.h) (hb:=hb.h)⟩
def Ck{pos:Pos}{br:List ZG}(ha:QE X a fa)(hb:QE X (MW QL (b::br) pos) fb):QE X (MW QL (a::b::br) pos) (z0 fa fb):=
 ⟨q_or (ha:=ha.h) (hb:=hb.h)⟩
def CW{pos:Pos}(ha:QE X a fa):QE X (RE UnaryOp.Not a pos) (o1 Bp fa):=
 ⟨GH (ha:=ha.h)⟩
def FR{c:ZG}{pos:Pos}(hc:QT X c f)(ha:QE X a fa)(hb:QE X b fb):QE X (Expr.IfExp c a b pos) (FJ f fa fb):=
 ⟨q_if (hc:=hc.h) (ha:=ha.h) (hb:=hb.h)⟩
def aE{pos:Pos}(ha:QE X a fa)(hb:QE X b fb)(hs:autoParam (vo b) x_):QE X (NC a b pos) (o2 aS fa fb):=
 ⟨q_ix (ha:=ha.h) (hb:=hb.h) (hs:=hs)⟩
def gd:QO X ZB pN:=
 ⟨AL ⟩
def gc(ha:QE X a fa):QO X (ZA a) (pS fa):=
 ⟨AK (ha:=ha.h)⟩
def g9{pos:Pos}{lo hi:Option ZG}{p2:Pos}{fl fu:En->Rs (Option Int)}(ha:QE X a fa)(hl:QO X lo fl)(hu:QO X hi fu):QE X (NC a (Expr.Slice lo hi ZB p2) pos) (sl fa fl fu):=
 ⟨AU (ha:=ha.h) (hl:=hl.h) (hu:=hu.h)⟩
variable{g:List T->Rs T}{p:Pos}
def cN{fs:V4}{pos:Pos}{id:String}(hc:CallT X (Value.builtin id) g)(hm:Cx.mg X x=ZB)(hv:Ke x=ZA (Value.builtin id))(ha:QA X (e::es) fs)(hn:autoParam (aW (e::es)=ZC) u_)(hg:autoParam (Gl X x) u_)(h1:autoParam (x≠JN "__name__") s_)(h2:autoParam ((x == JN "__debug__")=ZD) s_):QE X (LW (KB x p) (e::es) [] pos) (cl g fs):=
 ⟨q_cB (hc:=hc) (hm:=hm) (hv:=hv) (ha:=ha.h) (hn:=hn) (hg:=hg) (h1:=h1) (h2:=h2)⟩
def kN{fs:V4}{pos:Pos}(hc:CallT X (MG Ty) g)(hm:Cx.mg X x=ZB)(hv:Ke x=ZA (MG Ty))(ha:QA X (e::es) fs)(hn:autoParam (aW (e::es)=ZC) u_)(hg:autoParam (Gl X x) u_)(h1:autoParam (x≠JN "__name__") s_)(h2:autoParam ((x == JN "__debug__")=ZD) s_):QE X (LW (KB x p) (e::es) [] pos) (cl g fs):=
 ⟨q_cT (hc:=hc) (hm:=hm) (hv:=hv) (ha:=ha.h) (hn:=hn) (hg:=hg) (h1:=h1) (h2:=h2)⟩
variable{ps:List Str}
def zq_c{fs:V4}{pos:Pos}{f:ZE}(F:FO (Cx.prog X) (Cx.w X) (Cx.K X) (Cx.mg X) (Cx.base X) k f fd ps n g)(hr:Room k (Cx.A X))(hm:Cx.mg X x=ZA (Kf f))(hk:W.keepIn (Cx.K X) (Kf f)=ZC)(hb:L2.Binds (Cx.K X) fd ps [])(hl:∀(ρ:En)(ts:List T),fs ρ=Rs.ok ts->Lh ts=n)(ha:QA X (e::es) fs)(hps:autoParam (Lh ps=n) u_)(hn:autoParam (aW (e::es)=ZC) u_)(hg:autoParam (Gl X x) u_)(h2:autoParam ((x == JN "__debug__")=ZD) s_):QE X (LW (KB x p) (e::es) [] pos) (cl g fs):=
 ⟨q_c (F:=F) (hr:=hr) (hm:=hm) (hk:=hk) (hb:=hb) (hl:=hl) (ha:=ha.h) (hps:=hps) (hn:=hn) (hg:=hg) (h2:=h2)⟩
def tW{pos p2:Pos}{tn:Str}(hm:Cx.mg X (JN "isinstance")=ZB)(hmt:Cx.mg X tn=ZB)(hv:Ke tn=ZA (MG Ty))(ha:QE X a fa)(hn:autoParam (bx a=ZC) u_)(hg:autoParam (Gl X (JN "isinstance")) u_)(hgt:autoParam (Gl X tn) u_)(h1:autoParam (tn≠JN "__name__") s_)(h2:autoParam ((tn == JN "__debug__")=ZD) s_):QE X (LW (KB (JN "isinstance") p) [a,KB tn p2] [] pos) (o1 (z6 Ty) fa):=
 ⟨q_is (hm:=hm) (hmt:=hmt) (hv:=hv) (ha:=ha.h) (hn:=hn) (hg:=hg) (hgt:=hgt) (h1:=h1) (h2:=h2)⟩
def ao{pos:Pos}(i:Nat)(hN:Ny (Cx.N X))(hi:autoParam ((Cx.N X)[i]?=ZA x) u_)(hx:autoParam (L2.Loc (MC (Cx.env X)) x) y_)(hf:autoParam (Cx.fn X x=ZC\/Nx x (Ql (MC (Cx.env X)))=ZA NameKind.local) r_):QG X (KB x pos) (gN i):=
 ⟨AR (i:=i) (hN:=hN) (hi:=hi) (hx:=hx) (hf:=hf)⟩
def gf:Il X [] wo:=
 ⟨AQ ⟩
variable{g:T->En->Rs En}{gs:List T->En->Rs En}
def b9(h1:QG X e g)(h2:Il X es gs)(hs:autoParam (List.map (λx=>Prod.snd x) (K3 (e::es) (Cx.env X))=assign e (Cx.env X)::List.map (λx=>Prod.snd x) (K3 es (Cx.env X))) u_):Il X (e::es) (mG g gs):=
 ⟨xO (h1:=h1.h) (h2:=h2.h) (hs:=hs)⟩
def iH{pos:Pos}(hc:Cx.calm X=ZC)(h:Il X es gs)(hn:autoParam (Lh (K3 es (Cx.env X))=n) u_)(hst:autoParam (List.findIdx? (λx=>Prod.fst x) (K3 es (Cx.env X))=ZB) u_):QG X (Expr.Tuple es k pos) (gT n gs):=
 ⟨DH (hc:=hc) (h:=h.h) (hn:=hn) (hst:=hst)⟩
variable{tg:ZG}
def cR{fs:V4}{pos:Pos}(hm:Cx.mg X (JN "range")=ZB)(ha:QA X [a] fs)(hg:autoParam (Gl X (JN "range")) u_)(hs:autoParam (JZ [a] (Cx.env X)=[(ZD,eval a (Cx.env X))]) u_):QI X tg (LW (KB (JN "range") p) [a] [] pos) (iR fs):=
 ⟨vN (hm:=hm) (ha:=ha.h) (hg:=hg) (hs:=hs)⟩
def bF:FN X [] bT:=
 ⟨AN ⟩
def lM{c:ZG}(h:QT X c f):FN X [c] f:=
 ⟨AM (h:=h.h)⟩
variable{N':List Str}{elt iter:ZG}{fc:V7}{fe:V6}{fi:V4}{ifs:List ZG}{tgt:T->En->Rs En}
def FQ{pos:Pos}{src:List (Option Nat)}(hc:Cx.calm X=ZC)(S:LcScope X scope N' src)(hi:QI X tg iter fi)(block:∀(cl:List (Str×ZE))(C:ZE)(s₀:JB)(H₀:Hp)(fp:List ZE),QG (ba X scope cl N' C s₀ H₀ fp) tg tgt/\FN (ba X scope cl N' C s₀ H₀ fp) ifs fc/\QE (ba X scope cl N' C s₀ H₀ fp) elt fe)(hs:autoParam (∀(x:JD),J8 iter (Cx.env X) x=pure x) t_):QE X (NP elt [{target:=tg,iter:=iter,ifs:=ifs,is_async:=0}] scope pos) (d9 fi src tgt fc fe):=
 ⟨q_lc (hc:=hc) (S:=S) (hi:=hi.h) (block:=λa1 a2 a3 a4 a5=>⟨(block a1 a2 a3 a4 a5).1.h,(block a1 a2 a3 a4 a5).2.1.h,(block a1 a2 a3 a4 a5).2.2.h⟩) (hs:=hs)⟩
def bq:wQ X [] sN:=
 ⟨Dw ⟩
variable{st:ZF}
def ar{br:List ZF}{F G:V5}(h1:QS X st F)(h2:wQ X br G):wQ X (st::br) (ay F G):=
 ⟨AJ (h1:=h1.h) (h2:=h2.h)⟩
def au{F:V5}(h:QS X st F):wQ X [st] F:=
 ⟨Dv (h:=h.h)⟩
def az{pos:Pos}(ha:QE X a fa):QS X (Stmt.Return (ZA a) pos) (aF fa):=
 ⟨Dt (ha:=ha.h)⟩
def cH{c:ZG}{pos:Pos}{A B:List ZF}{F G:V5}(hc:QT X c f)(ha:wQ X A F)(hb:wQ X B G):QS X (Stmt.If c A B pos) (dP f F G):=
 ⟨GA (hc:=hc.h) (ha:=ha.h) (hb:=hb.h)⟩
variable{y:Str}
def oH{pos:Pos}{spos py:Pos}{src:List (Option Nat)}(i:Nat)(hc:Cx.calm X=ZC)(S:LcScope X scope N' src)(hi:QI X tg iter fi)(block:∀(cl:List (Str×ZE))(C:ZE)(s₀:JB)(H₀:Hp)(fp:List ZE),QG (ba X scope cl N' C s₀ H₀ fp) tg tgt/\FN (ba X scope cl N' C s₀ H₀ fp) ifs fc/\QE (ba X scope cl N' C s₀ H₀ fp) elt fe)(hN:Ny (Cx.N X))(hiy:autoParam ((Cx.N X)[i]?=ZA y) u_)(hy:autoParam (L2.Loc (MC (Cx.env X)) y) y_)(hsw:autoParam (Lx (NP elt [{target:=tg,iter:=iter,ifs:=ifs,is_async:=0}] scope pos) (ZA (KB y py)) (Nh spos) (Cx.env X)=pure ZC) u_)(hf:autoParam (Cx.fn X y=ZC\/Nx y (Ql (MC (Cx.env X)))=ZA NameKind.local) r_)(hs:autoParam (∀(x:JD),J8 iter (Cx.env X) x=pure x) t_):QS X (OW [KB y py] (NP elt [{target:=tg,iter:=iter,ifs:=ifs,is_async:=0}] scope pos) spos) (cu (d9 fi src tgt fc fe) (gN i)):=
 ⟨Gz (i:=i) (hc:=hc) (S:=S) (hi:=hi.h) (block:=λa1 a2 a3 a4 a5=>⟨(block a1 a2 a3 a4 a5).1.h,(block a1 a2 a3 a4 a5).2.1.h,(block a1 a2 a3 a4 a5).2.2.h⟩) (hN:=hN) (hiy:=hiy) (hy:=hy) (hsw:=hsw) (hf:=hf) (hs:=hs)⟩
def aJ{pos:Pos}(ha:QE X a fa)(hg:QG X tg g)(hs:autoParam (Nj [tg] a (Nh pos) (Cx.env X)=pure ZD) u_)(hw:autoParam (Nk [tg] a (Cx.env X)=pure ZB) u_)(h1:autoParam (List.map (λx=>Prod.snd x) (K3 [tg] (Cx.env X))=[assign tg (Cx.env X)]) u_):QS X (OW [tg] a pos) (cu fa g):=
 ⟨DB (ha:=ha.h) (hg:=hg.h) (hs:=hs) (hw:=hw) (h1:=h1)⟩
def g7{pos:Pos}(ha:QE X a fa)(hs:autoParam (Lx a ZB (Nh pos) (Cx.env X)=pure ZD) u_):QS X (Stmt.Expr a pos) (zZ fa):=
 ⟨AI (ha:=ha.h) (hs:=hs)⟩
variable{body:List ZF}
def eY{pos:Pos}{F:V5}(hc:Cx.calm X=ZC)(hi:QI X tg iter fi)(hg:QG (Cx.nox X) tg g)(hb:wQ (Cx.nox X) body F)(hs:autoParam (∀(x:JD),J8 iter (Cx.env X) x=pure x) t_):QS X (Stmt.For tg iter body [] pos) (gz fi g F):=
 ⟨Dx (hc:=hc) (hi:=hi.h) (hg:=hg.h) (hb:=hb.h) (hs:=hs)⟩
def vz{pos:Pos}{c:ZG}{F:V5}(n:Nat)(hc:QT (Cx.nox X) c fc)(hb:wQ (Cx.nox X) body F):QS X (Stmt.While c body [] pos) (bH fc F n):=
 ⟨xM (n:=n) (hc:=hc.h) (hb:=hb.h)⟩
def cQ(ha:QE X a fa):QI X tg a (iS fa):=
 ⟨DG (ha:=ha.h)⟩
variable{elts:List ZG}{tpos:Pos}
def g8{fs:V4}{pos:Pos}(hm:Cx.mg X (JN "enumerate")=ZB)(ha:QA X [a] fs)(hg:autoParam (Gl X (JN "enumerate")) u_)(hs:autoParam (JZ [a] (Cx.env X)=[(ZD,eval a (Cx.env X))]) u_):QI X (Expr.Tuple elts kk tpos) (LW (KB (JN "enumerate") p) [a] [] pos) (iE fs):=
 ⟨AO (hm:=hm) (ha:=ha.h) (hg:=hg) (hs:=hs)⟩
variable{p3:Pos}
def jI{pos p2:Pos}(i:Nat){f:V4}(hN:Ny (Cx.N X))(ha:QA X es f)(hi:autoParam ((Cx.N X)[i]?=ZA x) u_)(hx:autoParam (L2.Loc (MC (Cx.env X)) x) y_)(hs:autoParam (Lx (Expr.List es p2) (ZA (KB x p3)) (Nh pos) (Cx.env X)=pure ZD) u_)(hf:autoParam (Cx.fn X x=ZC\/Nx x (Ql (MC (Cx.env X)))=ZA NameKind.local) r_):QS X (OW [KB x p3] (Expr.List es p2) pos) (jg i f):=
 ⟨AG (i:=i) (hN:=hN) (ha:=ha.h) (hi:=hi) (hx:=hx) (hs:=hs) (hf:=hf)⟩
variable{apos cpos:Pos}
def oJ{pos p2:Pos}(i:Nat)(ha:QE X a fa)(hN:autoParam ((Cx.N X)[i]?=ZA x) u_)(hv:autoParam (vn (MC (Cx.env X)) x) v_)(hn:autoParam (bx a=ZC) u_)(hbase:autoParam (Kx (KB x p2) (JN "append") (Cx.env X) (eval (KB x p2) (Cx.env X))=eval (KB x p2) (Cx.env X)) u_)(hline:autoParam ((Qm apos == Nh cpos)=ZC) u_)(hd:autoParam ((x == JN "__debug__")=ZD) s_)(hcd:autoParam ((x == JN "__classdict__")=ZD) s_)(hsw:autoParam (Lx (LW (MS (KB x p2) (JN "append") apos) [a] [] cpos) ZB (Nh pos) (Cx.env X)=pure ZD) u_):QS X (Stmt.Expr (LW (MS (KB x p2) (JN "append") apos) [a] [] cpos) pos) (nh i fa):=
 ⟨DC (i:=i) (ha:=ha.h) (hN:=hN) (hv:=hv) (hn:=hn) (hbase:=hbase) (hline:=hline) (hd:=hd) (hcd:=hcd) (hsw:=hsw)⟩
def oI{pos p2:Pos}(i:Nat)(ha:QE X a fa)(hN:autoParam ((Cx.N X)[i]?=ZA x) u_)(hv:autoParam (vn (MC (Cx.env X)) x) v_)(hn:autoParam (bx a=ZC) u_)(hbase:autoParam (Kx (KB x p2) (JN "extend") (Cx.env X) (eval (KB x p2) (Cx.env X))=eval (KB x p2) (Cx.env X)) u_)(hline:autoParam ((Qm apos == Nh cpos)=ZC) u_)(hd:autoParam ((x == JN "__debug__")=ZD) s_)(hcd:autoParam ((x == JN "__classdict__")=ZD) s_)(hsw:autoParam (Lx (LW (MS (KB x p2) (JN "extend") apos) [a] [] cpos) ZB (Nh pos) (Cx.env X)=pure ZD) u_):QS X (Stmt.Expr (LW (MS (KB x p2) (JN "extend") apos) [a] [] cpos) pos) (lX i fa):=
 ⟨Dy (i:=i) (ha:=ha.h) (hN:=hN) (hv:=hv) (hn:=hn) (hbase:=hbase) (hline:=hline) (hd:=hd) (hcd:=hcd) (hsw:=hsw)⟩
def jJ(i:Nat){F:V5}(h:QS X st F):QS X st (pj i F):=
 ⟨Dz (i:=i) (h:=h.h)⟩
def FP(i:Nat){f:V6}(h:QE X e f):QE X e (ln i f):=
 ⟨q_ln (i:=i) (h:=h.h)⟩
def CU(i:Nat)(h:QT X e f):QT X e (Et i f):=
 ⟨Gy (i:=i) (h:=h.h)⟩
def CV{pos:Pos}:QS X (Stmt.Continue pos) Cw:=
 ⟨GB ⟩
def fj{c:Str}{msg:Str}{np p1 pos:Pos}(O:OX X.K C bm)(hm:X.mg c=ZA (.ref C))(hc:autoParam (X.calm=ZC) u_)(hg:autoParam (Gl X c) u_)(hd:autoParam ((c == ("__debug__" : Str))=ZD) s_):
  QS X (.Raise (ZA (.Call (.Name c np) [.Constant (.str msg) j p1] [] cpos)) ZB pos) (ph c):=⟨xN O.own hc hm hg hd⟩
variable{mg:V0}
def Al{base:ZH}{qual:Str}{f:ZE}{N:List Str}{F:V5}(Fn:L2.Fun K x qual st f fd)(S:cG N ps (aq st))(hn:ps.length=n)
  (hbody:∀(cdv:JD)(A:Kc)(outer:List Env)(s:JB)(H:Hp)(E:XK),Room k (A.deeper (envOfC qual (aq st) s.heap.objs.size f cdv)) →
   ∀xe,wQ ((fG CX0 P w K mg base N qual (aq st) f cdv A outer s H E).FM xe) (bP st) F):FO P w K mg base (k+1) f fd ps n (val n N.length F):=EU Fn S hn λcdv A outer s H E hr xe=>(hbody cdv A outer s H E hr xe).h
def oM{pos:Pos}(hu:Og (Cx.A X)+1<cLine)(ha:QE X a fa)(hb:QE X b fb)(hs:autoParam (Ce b) x_):QE X (NC a b pos) (o2 ja fa fb):=
 ⟨GO (hu:=hu) (ha:=ha.h) (hb:=hb.h) (hs:=hs)⟩
def tY(hu:Og (Cx.A X)+1<cLine)(ha:QE X a fa)(hb:QE X b fb)(hn:autoParam (bx b=ZC) u_)(hbase:autoParam (Kx a (JN "get") (Cx.env X) (eval a (Cx.env X))=eval a (Cx.env X)) u_)(hline:autoParam ((Qm apos == Nh cpos)=ZC) u_):QE X (LW (MS a (JN "get") apos) [b] [] cpos) (oD gY fa fb):=
 ⟨DL (hu:=hu) (ha:=ha.h) (hb:=hb.h) (hn:=hn) (hbase:=hbase) (hline:=hline)⟩
def vA(hu:Og (Cx.A X)+61<cLine)(ha:QE X a fa)(hb:QE X b fb)(hn:autoParam (bx b=ZC) u_)(hbase:autoParam (Kx a (JN "index") (Cx.env X) (eval a (Cx.env X))=eval a (Cx.env X)) u_)(hline:autoParam ((Qm apos == Nh cpos)=ZC) u_):QE X (LW (MS a (JN "index") apos) [b] [] cpos) (oL fP fa fb):=
 ⟨xQ (hu:=hu) (ha:=ha.h) (hb:=hb.h) (hn:=hn) (hbase:=hbase) (hline:=hline)⟩
def wU{f:V6}{pos p2:Pos}(i:Nat)(hu:Og (Cx.A X)+8<cLine)(hc:Cx.calm X=ZC)(hm:Cx.mg X (JN "dict")=ZB)(hN:Ny (Cx.N X))(ha:QE X e f)(hst:autoParam (bx e=ZC) u_)(hg:autoParam (Gl X (JN "dict")) u_)(hi:autoParam ((Cx.N X)[i]?=ZA x) u_)(hx:autoParam (L2.Loc (MC (Cx.env X)) x) y_)(hs:autoParam (Lx (LW (KB (JN "dict") p) [e] [] p2) (ZA (KB x p3)) (Nh pos) (Cx.env X)=pure ZD) u_)(hf:autoParam (Cx.fn X x=ZC\/Nx x (Ql (MC (Cx.env X)))=ZA NameKind.local) r_):QS X (OW [KB x p3] (LW (KB (JN "dict") p) [e] [] p2) pos) (nL i f):=
 ⟨AH (i:=i) (hu:=hu) (hc:=hc) (hm:=hm) (hN:=hN) (ha:=ha.h) (hst:=hst) (hg:=hg) (hi:=hi) (hx:=hx) (hs:=hs) (hf:=hf)⟩
def Ad{c:ZG}{fc:V6}{pos p2:Pos}(i:Nat)(hu:Og (Cx.A X)+1<cLine)(hb:QE X b fb)(hc:QE X c fc)(hN:autoParam ((Cx.N X)[i]?=ZA x) u_)(hv:autoParam (vn (MC (Cx.env X)) x) v_)(hd:autoParam ((x == JN "__debug__")=ZD) s_)(hcd:autoParam ((x == JN "__classdict__")=ZD) s_)(hs:autoParam (Lx c (ZA (NC (KB x p2) b p3)) (Nh pos) (Cx.env X)=pure ZD) u_):QS X (OW [NC (KB x p2) b p3] c pos) (vL i fb fc):=
 ⟨Du (i:=i) (hu:=hu) (hb:=hb.h) (hc:=hc.h) (hN:=hN) (hv:=hv) (hd:=hd) (hcd:=hcd) (hs:=hs)⟩
open PySem.W
def zd(h:ZH):(rN h).In h:=by
 have key:∀(l:List Nat)(a:ZE)(o:Obj),(l.filterMap λa=>(h.get? a).map λo=>(a,o)).lookup a=ZA o->h.get? a=ZA o:=by
  intro l
  induction l with
  |nil=>intro a o e;cases e
  |cons b r ih=>
   intro a o e
   cases hb:h.get? b with
   |none=>rw[List.filterMap_cons_none (by rw[hb];rfl)]at e;exact ih a o e
   |some ob=>
    rw[List.filterMap_cons_some (b:=(b,ob)) (by rw[hb];rfl),KY]at e
    cases q:a == b with
    |true=>rw[q]at e;cases e;rw[eq_of_beq q];exact hb
    |false=>rw[q]at e;exact ih a o e
 exact λa o e=>key _ a o e
variable{K:Frag}{n:Str}
def CI(e:obF K n=exF n st):∃f fd,nsIn K Km n=ZA (ZA (.ref f))/\L2.Fun K n n st f fd:=by
 unfold obF at e
 split at e
 ·rename_i f hf
  split at e
  ·rename_i oc od d sl hl
   cases d;unfold exF at e;simp only[KH.injEq,Rl.injEq]at e;obtain⟨h1,h2,h3,h4,h5,h6,h7,h8,h9,h10,h11⟩:=e;subst h1 h2 h3 h4 h5 h6 h7 h8 h9;exact⟨f,_,hf,ES hl h10 h11⟩
  ·cases e
 ·cases e
def l8{N:ZE}(e:G7 K N n=ZC):nsIn K N n=ZA ZB:=by
 unfold G7 at e
 split at e
 ·assumption
 ·cases e
def Ep(e:Ij K n=ZA i):∃t,nsIn K Km n=ZA (ZA (.int i t)):=by
 unfold Ij at e
 split at e
 ·rename_i i' t h;cases e;exact⟨t,h⟩
 ·cases e
def lS:∀{l:List JD},ug l=ZC->l=r9:=by
 intro l e;unfold ug at e
 split at e
 ·simp only[JH,beq_iff_eq]at e
  obtain⟨⟨⟨h1,h2⟩,h3⟩,h4⟩:=e;subst h1 h2 h3 h4;rfl
 ·cases e
def gB{D:Option ZE}(e:Bk K D n=ZA C):nsIn K Km n=ZA (ZA (.ref C)) ∧
  ∃nm q N bs bm hd sn su ab co dd k0 k1 k2 k3 k5,under D bm=ZC/\K.lookup C=ZA (MX nm q C N bs bm hd sn su ab co dd k0 k1 k2 k3 k5 "ValueError.__new__")/\∀h:ZH,K.In h->∃mN,h.Ns N mN/\∀n∈calmNames,mN n=ZB:=by
 unfold Bk at e
 split at e
 ·rename_i C' hC
  split at e
  ·rename_i t dd c k0 k1 k2 k3 b k5 hl
   split at e
   ·rename_i E m ob oe es ep oz hm hN
    split at e
    ·rename_i hq
     cases e;simp only[JH,beq_iff_eq,Ro]at hq;obtain⟨⟨⟨⟨⟨⟨h1,h2⟩,h3⟩,h4⟩,h5⟩,h6⟩,h7⟩:=hq
     have z:=J4.mp h5;refine⟨hC,c.name,c.qualname,c.ns,c.bases,m,c.hasDict,c.slotNames,c.subclasses,c.abstract,c.collection,dd,k0,k1,k2,k3,k5,h7,?_,G8 hN h4 (l8 (z _ (.head _))) (l8 (z _ (.tail _ (.head _)))) (l8 (z _ (.tail _ (.tail _ (.head _))))) (l8 (z _ (.tail _ (.tail _ (.tail _ (.head _))))))⟩
     rw[hl];cases c;simp only at hm h3;subst h1 h2 hm h3 h6
     rfl
    ·cases e
   ·cases e
  ·cases e
 ·cases e
def ox0(e:Bk K ZB n=ZA C):OX K C r9:=by
 obtain⟨_,_,_,_,_,_,_,_,_,_,_,_,_,_,_,_,_,hu,hl,hn⟩:=gB e;cases lS hu;exact Bf hl hn
variable{m:Str}
def G1{D:ZE}(e:Bk K (ZA D) n=ZA C)(d:Bk K ZB m=ZA D):OX K C (.ref D::r9):=by
 obtain⟨_,_,_,_,_,bm,_,_,_,_,_,_,_,_,_,_,_,hu,hl,hn⟩:=gB e;obtain⟨_,_,_,_,_,_,_,_,_,_,_,_,_,_,_,_,_,hu',hl',hn'⟩:=gB d;cases lS hu';unfold under at hu;simp only at hu
 split at hu
 ·rw[JH]at hu
  cases eq_of_beq hu.1;cases lS hu.2;exact yd hl hn hl' hn'
 ·cases hu
def gq{o:Option α}{r:List (Option α)}{l:List α}(e:tO (o::r)=ZA l):∃a l',o=ZA a/\l=a::l'/\tO r=ZA l':=by
 cases o with
 |none=>cases e
 |some a=>
  unfold tO at e
  split at e
  ·rename_i l' h;cases e;exact⟨a,l',rfl,rfl,h⟩
  ·cases e
def zN{l:List α}(e:tO ([]:List (Option α))=ZA l):l=[]:=by cases e;rfl
theorem nR:∀{l:List ZE},pR l=ZC->l.Nodup
 |[],_=>.nil
 |a::r,h=>by
  unfold pR at h;rw[JH]at h;refine KA.mpr ⟨λhm=>?_,nR h.2⟩
  have:=J4.mp h.1 a hm
  simp at this
def Eo{es:List Str}(e:Ii K (m::es)=ZC):∃D l,Bk K ZB m=ZA D/\tO (es.map (Bk K (ZA D)))=ZA l/\(l++[D]).Nodup:=by
 rw[Ii]at e
 split at e
 ·rename_i D hD
  split at e
  ·rename_i l hl;exact⟨D,l,hD,hl,nR e⟩
  ·cases e
 ·cases e
variable{S:wN}{h:ZH}
section
variable {top:Nat->ZF}
theorem pU{f g:α->β}:∀{l:List α}(j:Nat){a:α},l.map f=l.map g->l[j]?=ZA a->f a=g a
 |[],_,_,_,q=>by cases q
 |b::l,0,a,e,q=>by cases q;exact(QM.inj e).1
 |b::l,j+1,a,e,q=>pU (l:=l) j (QM.inj e).2 q
def k_fn(j:Nat){i:Nat}(X:K.In h)(G:h.Ns Km mg)(e:pO S K=oR S top)(q:S.tab[j]?=ZA (n,i))
  (hb:∀(kV doc pm:JD)(an:Option ZE)(cdv ct:JD)(us:List JD),us.length=ps.length->Q0 (fnOf n n (fg (top i)) (bP (top i)) (aq (top i)) .none kV doc pm an cdv ct) ⟨us,[]⟩=pure (ps.zip us)):
  ∃f fd,Fn K mg n (top i) ps f fd:=by
 obtain⟨f,fd,h1,h2⟩:=CI (pU j (congrArg (·.1) e) q)
 exact⟨f,fd,h2,h2.binds hb,mg_of X G h1⟩
def Hj(j:Nat){i:Nat}{fa:ZE}(X:K.In h)(G:h.Ns Km mg)(e:pO S K=oR S top)(q:S.tab[j]?=ZA (n,i))(hfa:mg n=ZA (.ref fa))
  (hb:∀(kV doc pm:JD)(an:Option ZE)(cdv ct u:JD),Q0 (fnOf n n (fg (top i)) (bP (top i)) (aq (top i)) .none kV doc pm an cdv ct) ⟨[u],[]⟩=pure [(x,u)]):
  ∃fd,Fn K mg n (top i) [x] fa fd/\∀(s:JB)(u:JD),PK s fd ⟨[u],[]⟩ [(x,u)]:=by
 obtain⟨f,fd,h1,h2⟩:=CI (pU j (congrArg (·.1) e) q)
 have z:=hfa.symm.trans (mg_of X G h1);cases z
 have hh:=h2;obtain⟨oc,od,kV,doc,pm,an,cdv,ct,osl,rfl,lk,hcd⟩:=hh.ex;exact⟨_,⟨h2,.all λus hl=>match us,hl with|[u],_=>hb kV doc pm an cdv ct u,mg_of X G h1⟩,λs u=>.of_eq (hb kV doc pm an cdv ct u)⟩
def eV(j:Nat)(X:K.In h)(G:h.Ns Km mg)(e:pO S K=oR S top)(q:S.zs[j]?=ZA n):mg n=ZB:=
 mg_none_of X G (l8 (J4.mp (congrArg (·.2.1) e:S.zs.all (G7 K Km)=ZC) n (K5 q)))
def my(j:Nat)(X:K.In h)(G:h.Ns Km mg)(e:pO S K=oR S top)(q:S.cs[j]?=ZA (n,i)):∃t,mg n=ZA (.int i t):=by
 obtain⟨t,ht⟩:=Ep (pU (f:=λc=>Ij K c.1) (g:=λc=>ZA c.2) j (congrArg (·.2.2.1) e) q)
 exact⟨t,mg_of X G ht⟩
def Hn(e:pO S K=oR S top):Ii K S.es=ZC:=congrArg (·.2.2.2) e
end
def left_of{p:J1}{loose:List Str}{Yf:JB->α}{Ya:Ks->α}{g0:Bool}
  (e:opening p=plainProg p.main.scope.names) (hN:Nat.ble 600 N=ZC) (f:∀s,fenceModules? p s=ZA s)
  (h:∀(w:Ks)(os:Nz),(topFrom PD p w N ⟨boot_heap w.params,⟨[]⟩,boot_drawn,boot_toks,os⟩).map (λs=>(openSeen q loose (PF p.main.body) Xt g0 s,Yf s))=ZA (openGood q loose,Ya w)):
  LeftO p q loose Xt Yf Ya N g0:=λw=>by
 obtain⟨⟨h0,gs,d,k,os⟩,e1,e2⟩:=Ph.mp (boot_open e hN f w);simp only[Rl.injEq]at e2;obtain⟨rfl,rfl,rfl,rfl⟩:=e2;unfold openEnds;rw[e1];exact h w os
structure Cl (P:J1)(w:Ks)(K:Frag)(mg:V0)(base:ZH)(k:Nat)(x:Str)(n:Nat)(m:List T->Rs T):Prop where
 ex:∃f fd ps,mg x=ZA (.ref f)/\keepIn K (.ref f)=ZC/\Binds K fd ps []/\ps.length=n/\FO P w K mg base k f fd ps n m
abbrev fH(K:Frag)(mg:V0)(x:Str)(st:ZF)(ps:List Str):Prop:=∃f fd,Fn K mg x st ps f fd
section
variable {base:ZH}{N:List Str}{n:Nat}{F:V5}
def HM(H:fH K mg x st ps)(S:cG N ps (aq st))(hn:ps.length=n)
  (hbody:∀(f:ZE)(cdv:JD)(A:Kc)(outer:List Env)(s:JB)(H:Hp)(E:XK),Room k (A.deeper (envOfC x (aq st) s.heap.objs.size f cdv)) →
   ∀xe,wQ ((fG CX0 P w K mg base N x (aq st) f cdv A outer s H E).FM xe) (bP st) F):Cl P w K mg base (k+1) x n (val n N.length F):=by
 obtain⟨f,fd,h⟩:=H;exact⟨f,fd,ps,h.mg,h.fn.kp,h.bd,hn,Al h.fn S hn (hbody f)⟩
end
variable{g:List T->Rs T}
section
variable {fs:V4}{pos:Pos}{n k':Nat}
def aQ(c:Cl X.prog X.w X.K X.mg X.base k x n g)(hr:Room k' X.A)(ha:QA X (e::es) fs)(hk:autoParam (k<=k') s_)(hl:∀(ρ:En)(ts:List T),fs ρ=.ok ts->ts.length=n:=by repeat first|exact CM|refine CL ?_)
  (hn:autoParam (aW (e::es)=ZC) u_) (hg:autoParam (Gl X x) u_) (h2:autoParam ((x == JN "__debug__")=ZD) s_):QE X (.Call (.Name x p) (e::es) [] pos) (cl g fs):=by
 obtain⟨f,fd,ps,h1,h3,h4,h5,h6⟩:=c.ex;exact zq_c h6 (hr.mono hk) h1 h3 h4 hl ha h5 hn hg h2
def m5(h:∃t,X.mg x=ZA (.int i t))(hg:autoParam (Gl X x) u_)(hd:autoParam ((x == JN "__debug__")=ZD) s_):QE X (.Name x pos) (cn (.int i)):=by
 obtain⟨t,h⟩:=h;exact Af h ⟨_,rfl⟩ hg hd
end
def hookC(S:si)(top:Nat->ZF):Hook:=
 ⟨_,λs=>yk S (rN s.heap),λ_=>xf S top,λ_ h=>∃K:Frag,K.In h/\yk S K=xf S top,λ_ s e=>⟨_,zd s.heap,e⟩,λ_ _ _ ⟨K,a,b⟩ k=>⟨K,a.keeps k,b⟩⟩
def tX{fs:V4}{p1 p2 pos:Pos}(hu:X.A.units+8<cLine)(hc:X.calm=ZC)(hm:X.mg "dict" =ZB)(hmz:X.mg "zip" =ZB)(ha:QA X [a,b] fs)(hst:autoParam (aW [a,b]=ZC) u_)(hg:autoParam (Gl X "dict") u_)(hgz:autoParam (Gl X "zip") u_):
  QE X (.Call (.Name "dict" p) [.Call (.Name "zip" p1) [a,b] [] p2] [] pos) (cl FK fs):=⟨DK hu hc hm hmz ha.h hst hg hgz⟩
def Ae{fs:V4}{pos:Pos}(hm:X.mg "zip" =ZB)(ha:QA X [a,b] fs)(hg:autoParam (Gl X "zip") u_)(hst:autoParam (aW [a,b]=ZC) u_):
  QI X (.Tuple elts kk tpos) (.Call (.Name "zip" p) [a,b] [] pos) (iZ fs):=⟨DD hm ha.h hg hst⟩
def fsc{N P:List Str}(h1:autoParam (sc.kind=.function) u_)(h2:autoParam (sc.isCoroutine=ZD) u_)(h3:autoParam (sc.isGenerator=ZD) u_)(h4:autoParam (N.Nodup) z_)(h5:autoParam (N.take P.length=P) u_)
  (h6:autoParam (∀x∈P,sc.names.lookup x=ZA .local\/sc.names.lookup x=ZA .cell) z_) (h7:autoParam (∀y∈sc.names,y.2≠ .free) z_):cG N P sc:=⟨h1,h2,h3,h4,h5,h6,h7⟩
def tbl(pl:List Nat)(L:Bool):SetTable:={mask:=7,place:=pl.toArray,dummies:=#[],finger:=0,led:=L,moves:=0,plain:=ZC}
variable{K:Jz}
section
variable {base:ZH}{n:Nat}{F:V5}
def aY(N:List Str)(H:fH K mg x st ps)
  (hbody:N.Nodup->∀(f:ZE)(cdv:JD)(A:Kc)(outer:List Env)(s:JB)(H:Hp)(E:XK),Room k (A.deeper (envOfC x (aq st) s.heap.objs.size f cdv)) →
   ∀xe,wQ ((fG CX0 P w K mg base N x (aq st) f cdv A outer s H E).FM xe) (bP st) F) (S:autoParam (cG N ps (aq st)) a_) (hn:autoParam (ps.length=n) u_):Cl P w K mg base (k+1) x n (val n N.length F):=HM H S hn (hbody S.nd)
end
def dC{pos:Pos}{src:List (Option Nat)}(N' N:List Str)(st:ZF)(hi:QI X tg iter fi)
  (block:N'.Nodup->∀(cl:List (Str×ZE))(C:ZE)(s₀:JB)(H₀:Hp)(fp:List ZE),QG (ba X scope cl N' C s₀ H₀ fp) tg tgt/\FN (ba X scope cl N' C s₀ H₀ fp) ifs fc/\QE (ba X scope cl N' C s₀ H₀ fp) elt fe)
  (hc:autoParam (Cx.calm X=ZC) u_) (hN:autoParam (X.N=N) u_) (hm:autoParam (X.env.scope.names=(aq st).names) u_) (hk:autoParam (scope.kind=.function) u_) (h:autoParam (Bv (aq st).names N scope.names N' src=ZC) z_) (nd:autoParam (N'.Nodup) z_) (hs:autoParam (∀(x:JD),J8 iter (Cx.env X) x=pure x) t_):
  QE X (NP elt [{target:=tg,iter:=iter,ifs:=ifs,is_async:=0}] scope pos) (d9 fi src tgt fc fe):=FQ hc (LcScope.by hN hm hk h) hi (block nd) hs
@[elab_as_elim] theorem Hd {α:Type} {p:List α->Prop} (h:∀a,p [a]):∀us:List α,us.length=1->p us
 |[a],_=>h a
@[elab_as_elim] theorem Hb {α:Type} {p:List α->Prop} (h:∀a b,p [a,b]):∀us:List α,us.length=2->p us
 |[a,b],_=>h a b
@[elab_as_elim] theorem Ha {α:Type} {p:List α->Prop} (h:∀a b c,p [a,b,c]):∀us:List α,us.length=3->p us
 |[a,b,c],_=>h a b c
section
variable {top:Nat->ZF}
def cx(j:Nat){i:Nat}(X:K.In h)(G:h.Ns Km mg)(e:pO S K=oR S top)(q:autoParam (S.tab[j]?=ZA (n,i)) u_)
  (hb:∀(kV doc pm:JD)(an:Option ZE)(cdv ct:JD)(us:List JD),us.length=ps.length->Q0 (Md n n (fg (top i)) (bP (top i)) (aq (top i)) .none kV doc pm an cdv ct) ⟨us,[]⟩=pure (ps.zip us):=by
   intro _ _ _ _ _ _ us hl;first|exact Hd (λ_=>rfl) us hl|exact Hb (λ_ _=>rfl) us hl|exact Ha (λ_ _ _=>rfl) us hl|exact len_0 rfl us hl):
  ∃f fd,Fn K mg n (top i) ps f fd:=k_fn j X G e q hb
end
def oS(g:List T->Rs T)(fa:V6)(fs:V4)(ρ:En):Rs T:=fa ρ >>= λx=>match x with
 |.str s=>fs ρ >>= λts=>g (.str s::ts)
 |_=>.bad
def lT:List T->Rs T
 |[.int i] =>if i.natAbs.log2<1920 then .ok (.str (JN (toString i)))else .bad
 |_=>.bad
def ie:List T->Rs T
 |[.str a,.str b] =>if b.length≠0/\a.length<=1000000 then .ok (.tup [.str (LA a b).1,.str (LA a b).2.1,.str (LA a b).2.2])else .bad
 |_=>.bad
def de:List T->Rs T
 |[.str a,.str b] =>if b.length≠0/\a.length<=1000000/\(LG a b).length<=1000000 then .ok (.lst ((LG a b).map .str))else .bad
 |_=>.bad
def jO:List T->Option (List Str)
 |[] =>ZA []
 |.str s::l=>(jO l).map (s:: ·)
 |_=>ZB
def kW:List T->Rs T
 |[.str a,.lst l] =>match jO l with
  |some ss=>if JoinOk a ss=ZC then .ok (.str (Txt.join a ss))else .bad
  |none=>.bad
 |_=>.bad
variable{H:Hp}{O:Ow}
section
variable {fs:V4}{pos:Pos}
def tI:CallT X (.type "str") lT:=by
 intro ca s σ H O ts vs us Q I hf rs rv hp;unfold lT at hp
 split at hp
 ·split at hp
  ·rename_i i hi
   obtain⟨v,rfl,r⟩:=rs.one;obtain⟨u,rfl,z⟩:=Vals.one rv;rw[Rep.Do.mp r]at z;obtain⟨t,rfl⟩:=z;exact PySem.P.str_of_int hi ⟨.str _,H,I.tok _,⟨_,rfl⟩,hp H (Same.refl H) _ (Rep.IG _)⟩
  ·exact hp.elim
 ·exact hp.elim
def qI{vs:List V}(rs:Reps X.K O H [.str x,.str y] vs)(rv:Vals vs us):∃t u,us=[Lb x t,Lb y u]:=by
 obtain⟨v1,w1,rfl,r1,rs⟩:=Reps.AC.mp rs;obtain⟨v2,w2,rfl,r2,rs⟩:=Reps.AC.mp rs;cases Reps.Da.mp rs;rw[Rep.FS.mp r1,Rep.FS.mp r2]at rv
 cases rv with
 |cons z1 rv=>
  cases rv with
  |cons z2 rv=>
   cases rv;obtain⟨t,rfl⟩:=z1;obtain⟨u,rfl⟩:=z2;exact⟨t,u,rfl⟩
theorem nF:∀(l:List (Str×Tok)),Vals ((l.map (·.1)).map V.str) (Su l)
 |[] =>.nil
 | (x,t)::l=>.cons ⟨t,rfl⟩ (nF l)
theorem kr:∀(ss:List Str),Reps X.K O H (ss.map T.str) (ss.map V.str)
 |[] =>Reps.GT
 |x::l=>Reps.GE (Rep.IG _) (kr l)
def Inv.Jt{σ:L2.St}{ys:List V}(I:Inv X ca σ H s)(hv:Vals ys its)(hz:ys.length<=ZI):
  Inv X ca σ (upd H s.heap.objs.size (.tup ys)) {s with heap:=s.heap.push {cls:=.type "tuple",data:=.seq its.toArray},toks:=t'}:=
 I.laid (λ_ _ q=>JA _ q) (JO _) ⟨hz,its,hv,Qz _ _⟩
def B2:CallT X (.builtin "str.partition") ie:=by
 intro ca s σ H O ts vs us Q I hf rs rv hp;unfold ie at hp
 split at hp
 ·rename_i x y
  split at hp
  ·rename_i hh
   obtain⟨h1,h2⟩:=hh;obtain⟨t,u,rfl⟩:=qI rs rv
   have hy:(y.length == 0)=ZD:=by rw[beq_eq_false_iff_ne];exact h1
   have hx:x.length<=ZI:=by rw[KW];omega
   refine Ms PZ (show typeOf _=_ from rfl) F.entry_str_partition (F.args_str_partition_2 _ _) (meets_str_partition x y t u hy hx) ?_
   have fin:∀(p q r:Str)(tp tq tr:Tok)(k:Nat),(p,q,r)=LA x y->wants (EP X ca σ Q) X.xe (.ok (.ret (.ref s.heap.objs.size))) {s with heap:=s.heap.push {cls:=.type "tuple",data:=.seq #[.str p tp,.str q tq,.str r tr]},toks:=k}:=λp q r tp tq tr k e=>by
    have np:=I.hok.fresh (JO s.heap.objs.size)
    have e1:(LA x y).1=p:=by rw[<-e]
    have e2:(LA x y).2.1=q:=by rw[<-e]
    have e3:(LA x y).2.2=r:=by rw[<-e]
    rw[e1,e2,e3]at hp
    have I2:Inv X ca σ (upd H s.heap.objs.size (.tup [.str p,.str q,.str r])) {s with heap:=s.heap.push {cls:=.type "tuple",data:=.seq #[.str p tp,.str q tq,.str r tr]},toks:=k}:=Inv.Jt I (its:=[.str p tp,.str q tq,.str r tr]) (.cons ⟨_,rfl⟩ (.cons ⟨_,rfl⟩ (.cons ⟨_,rfl⟩ .nil))) (by rw[KW];simp)
    exact⟨.ref _,_,I2,rfl,hp _ (aV np _) _ (dS np (hf _ np) (kr [p,q,r]))⟩
   show wants _ _ _ _
   unfold LA at fin
   cases q:Mi x y 0 x.length 1 with
   |nil=>
    rw[q]at fin
    exact fin _ _ _ _ _ _ _ rfl
   |cons i tl=>
    rw[q]at fin;exact fin _ _ _ _ _ _ _ rfl
  ·exact hp.elim
 ·exact hp.elim
theorem kP:∀(ss:List Str)(k:Nat),∃l:List (Str×Tok),strsFrom k ss=Su l/\l.map (·.1)=ss
 |[],k=>⟨[],rfl,rfl⟩
 |x::ss,k=>by
  obtain⟨l,e1,e2⟩:=kP ss (k+1);exact⟨(x,k)::l,by show Lb x k::strsFrom (k+1) ss=_;rw[e1];rfl,by rw[JG,e2]⟩
def r6:CallT X (.builtin "str.split") de:=by
 intro ca s σ H O ts vs us Q I hf rs rv hp;unfold de at hp
 split at hp
 ·rename_i x y
  split at hp
  ·rename_i hh
   obtain⟨h1,h2,h3⟩:=hh;obtain⟨t,u,rfl⟩:=qI rs rv
   have hy:(y.length == 0)=ZD:=by rw[beq_eq_false_iff_ne];exact h1
   have hx:x.length<=ZI:=by rw[KW];omega
   have fin:∀(l:List (Str×Tok))(k:Nat),l.map (·.1)=LG x y->wants (EP X ca σ Q) X.xe (.ok (.ret (.ref s.heap.objs.size))) {s with heap:=s.heap.push {cls:=.type "list",data:=.seq (Su l).toArray},toks:=k}:=λl k e=>by
    have np:=I.hok.fresh (JO s.heap.objs.size);rw[<-e]at hp h3;exact⟨.ref _,_,I.IU (t':=k) (nF l) (by rw[JE,KW];omega),rfl,hp _ (aV np _) _ (gj np (hf _ np) (kr _))⟩
   have itself:∀(e:[x]=LG x y),listOfItself x t X.A (wants (EP X ca σ Q) X.xe) s:=λe=>fin [(x,t)] s.toks e
   unfold LG at fin itself h3
   cases c1:(decide (x.length<y.length)||decide (KC x<KC y))with
   |true=>
    rw[c1]at itself
    exact Ms MU (show typeOf _=_ from rfl) OJ (Oh _ _) (meets_str_split_cannot_occur x y t u c1) (itself (by simp))
   |false=>
    rw[c1]at itself fin h3
    cases c2:(Mi x y 0 x.length (x.length+1)).isEmpty with
    |true=>
     rw[c2]at itself
     exact Ms MU (show typeOf _=_ from rfl) OJ (Oh _ _) (meets_str_split_not_found x y t u c1 hy c2) (itself (by simp))
    |false=>
     rw[c2]at fin h3;rw[if_neg J7,if_neg J7]at h3;refine Ms MU (show typeOf _=_ from rfl) OJ (Oh _ _) (meets_str_split_sep x y t u c1 hy c2 hx (by rw[KW];omega)) ?_
     obtain⟨l,e1,e2⟩:=kP (Builtin.Str.partsBetween x (Mi x y 0 x.length (x.length+1)) y.length) s.toks
     show wants _ _ _ _
     rw[e1];exact fin l _ (by rw[e2];simp)
  ·exact hp.elim
 ·exact hp.elim
theorem uj:∀{l:List T}{ss:List Str}{vs:List V}{its:List JD},jO l=ZA ss->Reps X.K O H l vs->Vals vs its->∃q:List (Str×Tok),its=Su q/\q.map (·.1)=ss
 |[],ss,vs,its,h,rs,rv=>by
  cases h;cases Reps.Da.mp rs;cases rv
  exact⟨[],rfl,rfl⟩
 |t::l,ss,vs,its,h,rs,rv=>by
  cases t with
  |str x=>
   unfold jO at h
   cases q:jO l with
   |none=>rw[q]at h;cases h
   |some s2=>
    rw[q]at h;cases h;obtain⟨v,w,rfl,r1,rs⟩:=Reps.AC.mp rs
    cases rv with
    |cons z rv=>
     rw[Rep.FS.mp r1]at z;obtain⟨tk,rfl⟩:=z;obtain⟨p,rfl,e⟩:=uj q rs rv
     exact⟨(x,tk)::p,rfl,by rw[JG,e]⟩
  |_=>cases h
def B3:CallT X (.builtin "str.join") kW:=by
 intro ca s σ H O ts vs us Q I hf rs rv hp;unfold kW at hp
 split at hp
 ·rename_i x l
  split at hp
  ·rename_i ss hss
   split at hp
   ·rename_i hj
    obtain⟨v1,w1,rfl,r1,rs⟩:=Reps.AC.mp rs;obtain⟨v2,w2,rfl,r2,rs⟩:=Reps.AC.mp rs;cases Reps.Da.mp rs;obtain⟨c,ws,rfl,n1,hx,rx⟩:=Rep.Fk.mp r2;rw[Rep.FS.mp r1]at rv
    cases rv with
    |cons z1 rv=>
     cases rv with
     |cons z2 rv=>
      cases rv;obtain⟨t,rfl⟩:=z1;obtain rfl:=(show _=Kf c from z2)
      obtain⟨z,its,n,rv2,hlen,eo⟩:=I.IC hx;obtain⟨q,rfl,e⟩:=uj hss rx rv2;exact SC.join (l:=q) ⟨_,eo,rfl,n,rfl⟩ e hj λt' k=>⟨.str _,H,I.tok _,⟨_,rfl⟩,hp H (Same.refl H) _ (Rep.IG _)⟩
   ·exact hp.elim
  ·exact hp.elim
 ·exact hp.elim
def xP{nm:Str}{id:String}(hsl:Slot "str" nm id)(hty:typeOf (.builtin id)=pure (.type "method_descriptor"))(hc:CallT X (.builtin id) g)(ha:cy X a fa)(hb:cy X b fb)(hn:bx b=ZC)
  (hbase:Kx a nm X.env (eval a X.env)=eval a X.env) (hline:(apos.endLine == cpos.line)=ZC):cy X (.Call (.Attribute a nm apos) [b] [] cpos) (oS g fa (ae fb ai)):=by
 have hs:JZ [b] X.env=(ZD,eval b X.env)::JZ [] X.env:=a7 hn;intro ca s σ H Q I ⟨ρ,O,E,hq⟩;refine LM hbase (by rw[hs];rfl) hline rfl (bN (ha ca s σ H _ I (aO E hq)) λv s1 hh_=>?_)
 obtain⟨x,H1,I1,r1,t,rt,s',E',q1⟩:=hh_
 cases t with
 |str y=>
  rw[Rep.FS.mp rt]at r1;obtain⟨tk,rfl⟩:=r1;refine⟨_,_,Nq,hsl,hty,(show typeOf _=_ from rfl),(λa z=>nomatch z),?_⟩
  rw[hs]
  have q1':Post X H1 (fb ρ >>= λu=>g [.str y,u]) λt H'=>∀v,Rep X.K O H' t v->Q v H':=by
   have:(ae fb ai ρ >>= λts=>g (.str y::ts))=(fb ρ >>= λu=>g [.str y,u]):=by
    unfold ae;cases fb ρ <;> rfl
   rw[<-this];exact q1
  refine Lp rfl (Ln (K7 (bN (hb ca s1 σ H1 _ I1 (aO (f:=fb) E' q1')) λu s2 ⟨w,H2,I2,r2,t2,rt2,s'',E'',q2⟩=>Li ?_)))
  exact hc ca s2 σ H2 O [.str y,t2] [.str y,w] [.str y tk,u] Q I2 (λp=>E''.fresh) (Reps.GE (Rep.IG _) (Reps.GE rt2 Reps.GT)) (.cons ⟨tk,rfl⟩ (.cons r2 .nil)) q2
 |_=>exact q1.elim
end
end Tr
variable{f:JD}
namespace L2
open PySem PySem.Spec PyProof.Rows
open Sem (wp)
variable{p:Pos}
def kn{t:Sem Fin}{fs:List Frame}{e:End}(h:Runs M Γ p t fs s e s'):s.toks<=s'.toks:=by
 induction h with
 |fresh _ ih=>exact J5 (Nat.le_succ _) ih
 |call _ _ i1 i2=>exact J5 i1 i2
 |resumeFresh _ _ _ _ i1 i2=>exact J5 i1 i2
 |resumeSuspended _ _ _ _ i1 i2=>exact J5 i1 i2
 |segRet _ _ i1 i2=>exact J5 i1 i2
 |segGen _ _ i1 i2=>exact J5 i1 i2
 |segSuspGen _ _ _ _ i1 i2=>exact J5 i1 i2
 |_=>first|exact JO _|assumption
def sv{g:Nat}{r:Resume}{res:GenResult}(h:Wakes M Γ p g r s res s'):s.toks<=s'.toks:=by
 unfold Wakes at h
 split at h
 ·exact h.elim
 ·split at h
  ·obtain⟨e,s1,q,_,_,rfl⟩:=h;have:=kn q;exact this
  ·obtain⟨_,rfl⟩:=h;exact JO _
  ·obtain⟨_,rfl⟩:=h;exact JO _
 ·obtain⟨e,s1,q,_,_,rfl⟩:=h;have:=kn q;exact this
 ·obtain⟨_,rfl⟩:=h;exact JO _
 ·obtain⟨_,rfl⟩:=h;exact JO _
def xp:Nat:=1
def ua:∀{t:Sem α}{Q:α->Pos->JB->Prop}{E:JD->Pos->JB->Prop}{p:Pos}{s:JB},xp<=s.toks->wp M Γ t Q E p s →
  wp M Γ t (λa p' s'=>Q a p' s'/\xp<=s'.toks) (λe p' s'=>E e p' s'/\xp<=s'.toks) p s:=by
 intro t
 induction t with
 |pure a=>intro Q E p s h w;rw[Pr]at w ⊢;exact⟨w,h⟩
 |raise e=>intro Q E p s h w;rw[Pr]at w ⊢;exact⟨w,h⟩
 |fresh k ih=>intro Q E p s h w;rw[Pr]at w ⊢;exact ih _ (Nat.le_succ_of_le h) w
 |load a pt k ih=>intro Q E p s h w;rw[Pr]at w ⊢;obtain⟨o,e,w⟩:=w;exact⟨o,e,ih _ h w⟩
 |update a pt f k ih=>intro Q E p s h w;rw[Pr]at w ⊢;exact⟨w.1,ih _ (by exact h) w.2⟩
 |choose src n k ih=>intro Q E p s h w;rw[Pr]at w ⊢;exact⟨w.1,ih _ (by exact h) w.2⟩
 |genState g k ih=>intro Q E p s h w;rw[Pr]at w ⊢;obtain⟨o,e,w⟩:=w;exact⟨o,e,ih _ h w⟩
 |call c hd g l k ih=>intro Q E p s h w;rw[Pr]at w ⊢;obtain⟨r,s',q,w⟩:=w;exact⟨r,s',q,ih _ (J5 h (kn q)) w⟩
 |resume g r l k ih=>intro Q E p s h w;rw[Pr]at w ⊢;obtain⟨r,s',q,w⟩:=w;exact⟨r,s',q,ih _ (J5 h (sv q)) w⟩
 |_=>intro Q E p s h w;rw[Pr]at w ⊢ <;> first|exact w| (rename_i ih;exact ih _ (by exact h) w)
def CalB(Γ:OF):Prop:=(Γ.below.map (·.1)).any QN=ZC
def Cal(Γ:OF):Prop:=(((Γ.code::Γ.below.map (·.1))).any QN)=ZC
def CalB.cal(h:CalB Γ):Cal Γ:=by unfold Cal;rw[LU,show(Γ.below.map (·.1)).any QN=ZC from h,RC]
def Cal.enter{c:Code}(z:Cal Γ):CalB (Γ.enter c h p):=z
section
variable {R':Nu->JB->Prop}{c:Code}
def wC(M:Os)(A:Kc)(t:Sem α)(Q:α->JB->Prop)(E:V2)(s:JB):Prop:=
 xp<=s.toks->∀Γ p,PySem.Ctx.In Γ A->Cal Γ->wp M Γ t (λa _ s'=>Q a s') (λe _ s'=>E e s') p s
def cC(M:Os)(A:Kc)(c:Code)(R:Nu->JB->Prop)(s:JB):Prop:=
 xp<=s.toks->∀Γ p,Γ.code=c->PySem.Ctx.Below Γ A->CalB Γ->wpCode M Γ R p s
def wC.of{t:Sem α}{Q:α->JB->Prop}(h:ZJ M A t Q E s):wC M A t Q E s:=λ_ Γ p hΓ _=>h Γ p hΓ
def cC.of(h:codeAny M A c R s):cC M A c R s:=λ_ Γ p hc hΓ _=>h Γ p hc hΓ
def cF{t:Sem α}{Q Q':α->JB->Prop}{E':V2}(h:wC M A t Q E s)(hQ:∀a s,Q a s->Q' a s)(hE:∀e s,E e s->E' e s):wC M A t Q' E' s:=
 λk Γ p hΓ z=>N0 M Γ t (λa _ s=>hQ a s) (λe _ s=>hE e s) p s (h k Γ p hΓ z)
def i6{t:Sem α}{Q Q':α->JB->Prop}(h:wC M A t Q E s)(hQ:∀a s,Q a s->Q' a s):wC M A t Q' E s:=cF h hQ λ_ _ x=>x
def bc{a:α}{Q:α->JB->Prop}(h:Q a s):wC M A (pure a) Q E s:=.of (JK h)
def a6{m:Sem α}{f:α->Sem β}{Q:β->JB->Prop}(h:wC M A m (λa s'=>wC M A (f a) Q E s') E s):wC M A (m >>= f) Q E s:=λk Γ p hΓ z=>by
 rw[Sem.wp_bind'];exact N0 M Γ m (λa p' s' h'=>h'.1 h'.2 Γ p' hΓ z) (λ_ _ _ h'=>h'.1) p s (ua k (h k Γ p hΓ z))
def aB{m:Sem α}{f:α->Sem β}{Q:β->JB->Prop}(h:ZJ M A m (λa s'=>wC M A (f a) Q E s') E s):wC M A (m >>= f) Q E s:=a6 (.of h)
def gw{m:Sem α}{k:JD->Sem Unit}{Q:α->JB->Prop}(h:wC M A m Q (λe s'=>wC M A (k e) (λ_ s''=>E e s'') E s') s):wC M A (m.onRaise k) Q E s:=λkk Γ p hΓ z=>by
 rw[Sem.wp_onRaise];exact N0 M Γ m (λ_ _ _ h'=>h'.1) (λe p' s' h'=>h'.1 h'.2 Γ p' hΓ z) p s (ua kk (h kk Γ p hΓ z))
def cq{m:Sem α}{Q:α->JB->Prop}(h:wC M A m Q E s):wC M A (holding vs m) Q E s:=λk Γ p hΓ z=>by rw[Sem.wp_holding];exact h k Γ p hΓ z
def sy{m:Sem JD}(h:wC M A m Q E s):wC M A (operate vs m) Q E s:=λk Γ p hΓ z=>by rw[Sem.wp_operate];exact h k Γ p hΓ z
def lO{m:Sem α}{Q:Except JD α->JB->Prop}(h:wC M A m (λa=>Q (.ok a)) (λe=>Q (.error e)) s):wC M A m.attempt Q E s:=λk Γ p hΓ z=>by rw[Sem.wp_attempt];exact h k Γ p hΓ z
def fw{pos:Pos}{f:Unit->Sem β}{Q:β->JB->Prop}(h:wC M A (f ()) Q E s):wC M A (standAt pos >>= f) Q E s:=aB (NQ h)
def i5(h:cC M A c R s)(hR:∀r s,R r s->R' r s):cC M A c R' s:=λk Γ p hc hΓ z=>wpCode_mono hR (h k Γ p hc hΓ z)
def w4{Q:Flow->JB->Prop}(hc:cC M (A.mark h) c (λr s'=>match r with|.ok f=>Q f s'|.error e=>E e s') s)(hnb:autoParam (h≠ZA byPass) b_):wC M A (run c h) Q E s:=λk Γ p hΓ z=>by
 rw[Sem.wp_run];exact hc k _ p rfl (hΓ.enter c h p hnb) z.enter
def jK{pos:List JD}{kw:List (Str×JD)}(hc:cC M A (.call f ⟨pos,kw⟩) (λr s'=>match r with|.ok (.ret v)=>Q v s'|.ok _=>False|.error e=>E e s') s):wC M A (call f pos kw) Q E s:=λk Γ p hΓ z=>by
 show wp M Γ (runValue (.call f ⟨pos,kw⟩)) _ _ p s
 rw[Sem.wp_runValue];exact hc k _ p rfl (hΓ.enter _ ZB p (by intro x;cases x)) z.enter
def dk(h:wC M (A.under c) (M.den c) (λfin s'=>match fin with|.done f=>R (.ok f) s'|.again c'=>c'.quiet=ZC/\cC M A c' R s') (λe s'=>R (.error e) s') s):cC M A c R s:=λk Γ p hc hΓ z=>by
 rw[wpCode_iff_wp,hc];refine N0 M Γ _ (λfin p' s' h'=>?_) (λ_ _ _ h'=>h'.1) p s (ua k (h k Γ p (hc▸hΓ.in) z.cal))
 cases fin with
 |done f=>exact h'.1
 |again c'=>exact⟨h'.1.1,h'.1.2 h'.2 (Γ.goto c') p' rfl (hΓ.goto c') z⟩
def B5(hq:c.quiet=ZC)(I:Nat->JB->Prop)
  (turn:∀n s,I n s->wC M (A.under c) (M.den c) (λfin s'=>match fin with|.done f=>R (.ok f) s'|.again c'=>c'=c/\∃m,m<n/\I m s') (λe s'=>R (.error e) s') s)
  (n:Nat) (h:I n s):cC M A c R s:=by
 induction n using Sk generalizing s with
 |ind n ih=>
  refine dk (cF (turn n s h) (λfin s' hf=>?_) λ_ _ h'=>h')
  cases fin with
  |done f=>exact hf
  |again c'=>obtain⟨rfl,m,hm,hI⟩:=hf;exact⟨hq,ih m hm hI⟩
end
variable{Q:Bool->JB->Prop}{e:ZG}{env:Env}{st:ZF}{whole x:Sem JD}
section
variable {pos:Pos}
variable{Q:Flow->JB->Prop}
def fT{br:List ZF}(h:wC M A (exec st env) (λf s'=>match f with|.next=>wC M A (execs br env) Q E s'|f=>Q f s') E s):wC M A (execs (st::br) env) Q E s:=by
 rw[execs_cons];refine a6 (i6 h λf s' h'=>?_)
 cases f <;> first|exact bc h'|exact h'
def FV{c:ZG}{a b:List ZF}(h:wC M A (isTrue c env (eval c env)) (λk s'=>if k then wC M A (execs a env) Q E s' else wC M A (execs b env) Q E s') E s):wC M A (exec (.If c a b pos) env) Q E s:=by
 rw[exec_If];refine fw (a6 (i6 h λk s' h'=>?_))
 cases k <;> exact h'
def nE(h:wC M A (eval e env) (λv=>Q (.ret v)) E s):wC M A (exec (.Return (ZA e) pos) env) Q E s:=by
 rw[exec_Return_some];exact fw (a6 (i6 h λv s' q=>bc q))
variable{Q:Bool->JB->Prop}
def Ap{l r:ZG}(h:wC M A (eval l env) (λa s₁=>wC M A (eval r env) (λb s₂=>wC M A (KU op a b) (λc s₃=>wC M A (truthy c) Q E s₃) E s₂) E s₁) E s)
  (hm:ML op r=ZD):wC M A (isTrue (.Compare l [op] [r] pos) env whole) Q E s:=by
 rw[isTrue_Compare1,markedBehindIn_of_false hm];exact a6 (i6 h λa s₁ h₁=>a6 (cq (i6 h₁ λb s₂ h₂=>fw (a6 (sy (i6 h₂ λc s₃ h₃=>cq h₃))))))
def vD(h:wC M A whole (λv s₁=>wC M A (truthy v) Q E s₁) E s)
  (he:isTrue e env whole=(do let v <-whole;standAt e.pos;holding [v] (truthy v))):wC M A (isTrue e env whole) Q E s:=by
 rw[he];exact a6 (i6 h λv s₁ h₁=>fw (cq h₁))
def An{x:ZG}(h:wC M A (isTrue x env (eval x env)) (λc s'=>Q (!c) s') E s):wC M A (isTrue (.UnaryOp .Not x pos) env whole) Q E s:=by
 show wC M A (do return !(<-isTrue x env (eval x env))) Q E s
 exact a6 (i6 h λc s' h'=>bc h')
def uc{x:ZG}{br:List ZG}(h:wC M A (isTrue x env (eval x env)) (λc s'=>if c=ZC then wC M A (isTrue (.BoolOp .And br pos) env whole) Q E s' else Q ZD s') E s):wC M A (isTrue (.BoolOp .And (x::br) pos) env whole) Q E s:=by
 show wC M A (isTrue x env (eval x env) >>= λb=>match BoolOp.And,b with
  |.And,ZD=>pure ZD
  |.Or,ZC=>pure ZC
  |_,_=>allTrue .And br env) Q E s
 refine a6 (i6 h λc s' h'=>?_)
 cases c with
 |true=>exact h'
 |false=>exact bc (a:=ZD) h'
def Ao{m:Sem α}{Q:α->JB->Prop}(h:wC M A m Q E s):wC M A (m.keep vs) Q E s:=λk Γ p hΓ z=>by rw[Sem.wp_keep];exact h k Γ p hΓ z
variable{Q:V2}
def qE{P:ZH->Prop}{first:List JD}{args:List (Bool×Sem JD)}(hplain:args.any (·.1)=ZD)
  (hk:∀h,P h->∃k,(k=Keeper.frame\/k=Keeper.machine\/k=Keeper.boundFrame)/\PySem.W.Looks M h (keeperOf f) k)
  (h:wC M A (R9 f ZC args []) (λa s₁=>P s₁.heap/\wC M A (call f (first++a.pos) a.kw) Q E s₁) E s):wC M A (Sb pos f first args []) Q E s:=by
 unfold Sb;refine a6 (cq (i6 h λa s₁ h₁=>fw ?_))
 obtain⟨k,hk',L⟩:=hk _ h₁.1
 have e:(args.any (·.1)||([]:List (Option Str×Sem JD)).any (·.1.isNone))=ZD:=by rw[hplain];rfl
 simp only[e];refine aB (L.here ?_)
 have tail:∀{t:Sem JD},wC M A t Q E s₁->wC M A (t >>= λr=>holding [r] point >>= λ_=>pure r) Q E s₁:=
  λht=>a6 (i6 ht λr s₂ hr=>aB (KM (Sv (bc hr))))
 have mk:∀m:JD,wC M A (callMarked m f (first++a.pos) a.kw) Q E s₁:=λm=>by unfold callMarked;exact Ao h₁.2
 rcases hk' with rfl|rfl|rfl <;> dsimp only <;> first|exact tail h₁.2| (split <;> first|exact tail h₁.2|exact tail (mk _))
def oP{br:List (Bool×Sem JD)}{Q:Args->JB->Prop}(h:wC M A (spliced ((ZD,x)::br)) (λvs s'=>Q ⟨vs,[]⟩ s') E s):wC M A (R9 f ZC ((ZD,x)::br) []) Q E s:=by
 unfold R9
 show wC M A (spliced ((ZD,x)::br) >>= _) Q E s
 refine a6 (i6 h λvs s' h'=>cq ?_)
 exact aB (JK (aB (JK (bc h'))))
def lN{br:List (Bool×Sem JD)}{Q:List JD->JB->Prop}(h:wC M A x (λv s₁=>wC M A (spliced br) (λvs s₂=>Q (v::vs) s₂) E s₁) E s):wC M A (spliced ((ZD,x)::br)) Q E s:=by
 rw[spliced];refine a6 (i6 h λv s₁ h₁=>?_)
 simp only[KQ,if_false];exact aB (JK (a6 (cq (i6 h₁ λvs s₂ h₂=>bc h₂))))
def oQ{id:Str}{args:List ZG}(h:ZJ M A (eval (.Name id p) env) (λf s₁=>wC M A (Sb pos f [] (backTo pos (JZ args env)) []) Q E s₁) E s):
  wC M A (eval (.Call (.Name id p) args [] pos) env) Q E s:=by
 rw[arm_eval_Call_Name'];exact aB h
def qD{m:Sem α}{Q:α->JB->Prop}(h:wC M A m Q (notedBy M A env E) s):wC M A (m.onRaise λx=>do MD x env;N3 x) Q E s:=
 gw (cF h (λ_ _ q=>q) λ_ _ hx=>aB (Kw hx (λ_ _ e=>.of (wpAny_theTreesLotGoes e)) λ_ _ e=>e))
end
variable{body:List ZF}
def ve 
  (h:wC (ZK prog w) (A.deeper env) (execs body env) (λf s'=>R (.ok (.ret (match f with|.ret v=>v|_=>.none))) s')
   (λe s'=>ZJ (ZK prog w) (A.deeper env) (leaving env e) (λ_ s''=>R (.error e) s'') (λe' s''=>R (.error e') s'') s') s):cC (ZK prog w) A (.func body env) R s:=by
 refine dk ?_
 show wC _ (A.deeper env) (do point;match <-(execs body env).onRaise (leaving env)with|.ret v=>ret v|_=>ret .none) _ _ s
 refine aB (Sv (a6 (gw (cF h (λf s' h'=>?_) λ_ _ h'=>.of h'))))
 cases f <;> exact bc h'
def CJ{a:ZE}{args:Args}{o:Obj}(hroom:A.depth<Qd)(ho:s.heap.get? a=ZA o)
  (hd':o.data=.func fd) (hco:fd.scope.isCoroutine=ZD) (hgen:fd.scope.isGenerator=ZD) (hbody:fd.body=.stmts body) (hcd:s.heap.CodeRec fd.code fd.qualname)
  (h:ZJ (ZK prog w) A.in1 (Q0 fd args) (λbinds s₁=>
   ZJ (ZK prog w) A.in1 (Ov fd.scope fd.globals fd.closure binds (fd.qualname++ ".<locals>.") (ZA a) fd.code ZB fd.builtins)
    (λenv s₂=>s₂.heap.NoLimit/\cC (ZK prog w) A (.func body env) R s₂) (λe s'=>R (.error e) s') s₁) (λe s'=>R (.error e) s') s):
  cC (ZK prog w) A (.call (.ref a) args) R s:=by
 refine dk ?_
 show wC _ A.in1 (callAny (.ref a) args) _ _ s
 simp only[callAny];refine aB (wpAny_load ho ?_)
 obtain⟨c,oc,vs,tq,hc,hoc,hdc,hq⟩:=hcd;simp only[hd',callFunction,hco,hgen,hbody,hc];rw[hc]at h;refine aB (m:=field (.ref c) 1) (Kd hoc hdc hq (aB (JK ?_)))
 refine aB (Kw h (λbinds s₁ h₁=>?_) λ_ _ h'=>h')
 refine aB (Kw h₁ (λenv s₂ h₂=>?_) λ_ _ h'=>h')
 exact aB (wpAny_enterFrame h₂.1 hroom (bc (Ng rfl h₂.2)))
def DE(X:Cx)(e:ZG)(t:TE):Prop:=
 ∀(ca:V3)(s:JB)(σ:St)(H:Hp)(Q:VK),Inv X ca σ H s->t σ H Q->wC (ZK X.prog X.w) X.A (eval e X.env) (EP X ca σ Q) X.xe s
def DS(X:Cx)(st:ZF)(t:TS):Prop:=
 ∀(ca:V3)(s:JB)(σ:St)(H:Hp)(D:Ends),Inv X ca σ H s->t D σ H->wC (ZK X.prog X.w) X.A (exec st X.env) (SP X ca D) X.xe s
def w8{pos:Pos}{newAcc first:Sem JD}{g:Ra}{gs:List Ra}{cl:List (Str×ZE)}{use:Option (JD->Sem Unit)}{Q:V2}
  (hcl:clausesOf e=g::gs) (hs:∀x,J8 g.iter env x=pure x) (hclos:closureFor scope env=pure cl) (hkind:scope.kind=.function) (hnames:∀x∈scope.names,x.2=.local->scope.names.lookup x.1=ZA .local)
  (h:ZJ M A first (λx s₁=>ZJ M A (pyIter x) (λit s₂=>ZJ M A newAcc (λacc s₃=>ZJ M A (Ov scope env.globals cl [] env.qual ZB .none (ZA env)) (λcenv s₄=>
    cC M A (.compStart e 0 it acc {cenv with scope:=relabel scope env}) (PV M A E use Q acc cenv.locals) s₄) E s₃) E s₂) E s₁) E s):wC M A (NR e scope env pos newAcc ZD first use) Q E s:=by
 unfold NR;rw[hclos,hcl]
 have step:∀{α β:Type}{m:Sem α}{f:α->Sem β}{Z:α->JB->Prop}{Y:β->JB->Prop}{x:JB},ZJ M A m Z E x->(∀a s',Z a s'->wC M A (f a) Y E s')->wC M A (m >>= f) Y E x:=λh1 h2=>aB (Kw h1 h2 λ_ _ z=>z)
 have stand:∀{α:Type}{c:Prop} [Decidable c] {pos:Pos} {k:PUnit->Sem α} {Y:α->JB->Prop} {x:JB},wC M A (k ()) Y E x->wC M A (if c then(standAt pos >>= k)else k ()) Y E x:=λh=>by
  split
  ·exact fw h
  ·exact h
 refine step h λx s₁ h₁=>fw (aB (NB (hs x) (step (KM h₁) λit s₂ h₂=>stand (step h₂ λacc s₃ h₃=>aB (JK (step h₃ λcenv s₄ h₄=>?_))))))
 dsimp only
 have low:∀y∈scope.names,y.2=.local->Env.kindOf {cenv with scope:=relabel scope env} y.1=ZA .local:=λy hy hl=>lookup_relabel_local (hnames y hy hl)
 have inn:∀{y:Str×Mv},y∈(scope.names.filter λx=>(x.2 == .local||x.2 == .cell)&&x.1 != (".0" : Str)).reverse->y∈scope.names:=λhy=>(Lw.mp (List.mem_reverse.mp hy)).1
 refine cq (a6 (lO (cq (w4 (i5 h₄ λr s' hr=>?_)))))
 cases r with
 |ok f=>
  cases use with
  |none=>
   obtain⟨m,hn,hr⟩:=hr
   exact aB (KM (Pe (cenv:={cenv with scope:=relabel scope env}) hkind _ s' m (λy hy=>low y (inn hy)) hn λh' m' _ hs'=>bc (hr h' hs')))
  |some u=>
   refine aB (Mb (step (KM hr) λ_ s'' hr'=>?_))
   obtain⟨m,hn,hr'⟩:=hr'
   exact aB (Pe (cenv:={cenv with scope:=relabel scope env}) hkind _ s'' m (λy hy=>low y (inn ((JR.mp hy).elim List.mem_of_mem_drop List.mem_of_mem_take))) hn λh' m' _ hs'=>bc (hr' h' hs'))
 |error x=>
  have hr':∃m,s'.heap.Ns cenv.locals m/\∀h',Me cenv.locals s'.heap h'->∀cenv':Env,cenv'.locals=cenv.locals->ZJ M A (passOn "comprehension.variables-let-go" x cenv':Sem JD) (λ_ _=>False) E {s' with heap:=h'}:=by cases use <;> exact hr
  obtain⟨m,hn,hr⟩:=hr';exact aB (KM (Pe (cenv:={cenv with scope:=relabel scope env}) hkind _ s' m (λy hy=>low y (inn hy)) hn λh' m' _ hs'=>.of (Kw (hr h' hs' _ rfl) (λ_ _ f=>f.elim) λ_ _ y=>y)))
variable{tg:ZG}
def wB{pr:J1}{wd:Ks}{el it0:ZG}{cs:List ZG}{ps:Pos}{itv av:JD}{ev:Env}(W:Nat->JB->Prop)
  (go:∀k st,W k st->ZJ (ZK pr wd) Ar (pyNext itv) (λr s1=>match r with
   |none=>Rz (.ok .next) s1
   |some v=>ZJ (ZK pr wd) Ar (Ma tg itv v) (λ_ s2=>ZJ (ZK pr wd) Ar (assign tg ev v) (λ_ s3=>
     ZJ (ZK pr wd) Ar (forIn cs ZC λc b=>if b=ZC then do let z <-isTrue c ev (eval c ev);pure (LF z)else pure (LF b)) (λz s4=>
      if z=ZC then wC (ZK pr wd) Ar (eval el ev) (λy s5=>
       ZJ (ZK pr wd) Ar (call (.builtin "list.append") [av,y]) (λ_ s6=>∃m,m<k/\W m s6) (λ_ _=>False) s5) (λ_ _=>False) s4
      else ∃m,m<k/\W m s4) (λ_ _=>False) s3) (λ_ _=>False) s2) (λ_ _=>False) s1) (λ_ _=>False) st)
  (k:Nat) (hk:W k s0):cC (ZK pr wd) Ar (.compLoop (.ListComp el [⟨tg,it0,cs,0⟩] sc ps) 0 itv av ev) Rz s0:=by
 refine B5 rfl W (λk st hw=>?_) k hk
 show wC (ZK pr wd) Ar ((compTurn (.ListComp el [⟨tg,it0,cs,0⟩] sc ps) 0 itv av ev).onRaise (λz=>do MD z ev;N3 z)) _ _ st
 refine qD ?_
 rw[compTurn_list]
 have step:∀{α β:Type}{m:Sem α}{f:α->Sem β}{Z:α->JB->Prop}{Y:β->JB->Prop}{E':V2}{x:JB},ZJ (ZK pr wd) Ar m Z (λ_ _=>False) x->(∀a s',Z a s'->wC (ZK pr wd) Ar (f a) Y E' s')->wC (ZK pr wd) Ar (m >>= f) Y E' x:=λh1 h2=>aB (Kw h1 h2 λ_ _ z=>z.elim)
 refine fw (step (go k st hw) λr s1 g1=>?_)
 cases r with
 |none=>exact bc g1
 |some v=>
  refine step g1 λ_ s2 g2=>step g2 λ_ s3 g3=>step g3 λz s4 g4=>?_
  cases z with
  |false=>exact bc (Ng rfl g4)
  |true=>exact a6 (a6 (cF g4 (λy s5 g5=>step g5 λ_ s6 g6=>bc (bc (Ng rfl g6))) λ_ _ z=>z.elim))
variable{elt iter:ZG}{ifs:List ZG}
def qi{target:ZG}{br:List Ra}{pos:Pos}{it acc:JD}
  (h0:cC (ZK prog w) A (.compLoop (.ListComp elt (⟨target,iter,ifs,0⟩::br) scope pos) 0 it acc env) R s)
  (h:ZJ (ZK prog w) A (pyIter it) (λit' s'=>cC (ZK prog w) A (.compLoop (.ListComp elt (⟨target,iter,ifs,0⟩::br) scope pos) 0 it' acc env) R s') (notedBy (ZK prog w) A env λx s'=>R (.error x) s') s):
  cC (ZK prog w) A (.compStart (.ListComp elt (⟨target,iter,ifs,0⟩::br) scope pos) 0 it acc env) R s:=by
 refine dk ?_
 show wC _ _ ((compStart (.ListComp elt (⟨target,iter,ifs,0⟩::br) scope pos) 0 it acc env).onRaise (λx=>do MD x env;standAt theWindowsPlace)) _ _ s
 refine gw (cF (E:=notedBy (ZK prog w) A env λx s'=>R (.error x) s') ?_ (λ_ _ q=>q) λ_ _ hx=>aB (Kw hx (λ_ _ e=>.of (NQ e)) λ_ _ e=>e))
 unfold compStart
 show wC _ _ (ask >>= _) _ _ s
 refine aB (wpAny_askSetting ?_)
 split
 ·first
   |exact aB (JK (bc (Ng rfl h0)))
   |exact bc (Ng rfl h0)
 ·refine aB (Mb ?_)
  show wC _ _ (standAt iter.pos >>= _) _ _ s
  exact fw (aB (Kw h (λit' s' h'=>bc (Ng rfl h')) λ_ _ x=>x))
variable{H:Hp}{N':List Str}{Q:VK}{X:Cx}{g:TG}{ca:V3}{tc:TT}{te:TE}{wi:TI}{σ:St}
def yF{pos fpos:Pos}{src:List (Option Nat)}{use:Option (JD->Sem Unit)}
      
  (hc:X.calm=ZC) (S:LcScope X scope N' src) (hi:PI X tg iter wi)
  (block:∀cl C s₀ H₀ fp,PG (ba X scope cl N' C s₀ H₀ fp) tg g/\sr (ba X scope cl N' C s₀ H₀ fp) ifs tc/\DE (ba X scope cl N' C s₀ H₀ fp) elt te)
  (hs:∀x,J8 iter X.env x=pure x) (I:Inv X ca σ H s) (h:C5 X.K wi src g tc te σ H Q)
  (hend:∀(D C:ZE)(H':Hp)(s':JB),(∃m,s'.heap.Ns C m)->(∀h',Me C s'.heap h'->Inv X ca σ H' {s' with heap:=h'})->(H' C=ZB/\C≠X.env.locals/\X.s₀.heap.objs.size<=C/\(∀x c,X.env.cells.lookup x=ZA c->c≠C)/\∀p∈X.pn++ca,p.1≠C)->Q (.ref D) H' →
   PV (ZK X.prog X.w) X.A X.xe use Qf (.ref D) C (.ok .next) s'):
  wC (ZK X.prog X.w) X.A (NR (.ListComp elt [⟨tg,iter,ifs,0⟩] scope pos) scope X.env fpos (newList []) ZD (eval iter X.env) use) Qf X.xe s:=by
 have hcell:∀x,(x,Kt)∈scope.names->∃c,X.env.cells.lookup x=ZA c:=λx hx=>I.ok.has x (S.free x hx)
 obtain⟨cl0,hcl,cl01,cl02⟩:=mL (env:=X.env) (scope:=scope) hcell;refine w8 (use:=use) rfl hs hcl S.kind S.loc (bN (hi ca s σ H _ I h) λv s1 h1=>bN h1 λitv s2 h2=>?_)
 obtain⟨it,fp,tn,J,H2,e,I2,T,st2,f2,hq⟩:=h2;subst e
 refine Lj ?_
 have hD:H2 s2.heap.objs.size=ZB:=I2.hok.fresh (JO _)
 have hDK:X.K.lookup s2.heap.objs.size=ZB:=by
  cases q:X.K.lookup s2.heap.objs.size with
  |none=>rfl
  |some o=>exact absurd (JM (I2.kIn _ o q)) (J3 _)
 obtain⟨W,⟨m0,w0⟩,turn⟩:=hq s2.heap.objs.size hD hDK
 have I3:=I2.IU (its:=[]) (ys:=[]) (t':=s2.toks) .nil (KI _)
 generalize hs3:({s2 with heap:=s2.heap.push {cls:=.type "list",data:=.seq ([]:List JD).toArray},toks:=s2.toks}:JB)=s3 at I3
 generalize hH3:upd H2 s2.heap.objs.size (.lst [])=H3 at I3 w0
 have hDsz:s2.heap.objs.size<s3.heap.objs.size:=by rw[<-hs3];simp[Kv]
 have fr3:∀b∈fp,H3 b=ZB:=λb hb=>by
  obtain⟨o,eo,_⟩:=T.obj _ _ st2 b hb;rw[<-hH3,aM (K6 (JM eo))];exact(f2 b hb).1
 have st3:tn 0 s3.heap:=T.keep _ _ _ st2 λb hb o e=>by rw[<-hs3];exact JA _ e
 have f3:∀b∈fp,gZ X ca H3 b:=λb hb=>⟨fr3 b hb,(f2 b hb).2⟩
 have D3:H3 s2.heap.objs.size=ZA (.lst []):=by rw[<-hH3];exact aZ
 generalize s2.heap.objs.size=D at*
 clear hs3 hH3 hD hDK
 refine nU ?_
 have old:∀b o,s3.heap.get? b=ZA o->(NL (s3.heap.push {cls:=.type "dict",data:=.dict #[]}) scope.names).get? b=ZA o:=λb o e=>Nl _ _ b o (JA _ e)
 have hns₁:(NL (s3.heap.push {cls:=.type "dict",data:=.dict #[]}) scope.names).Ns s3.heap.objs.size (λ_=>ZB):=(Heap.Ns.new s3.heap (.type "dict")).keeps (Nl _ _)
 have hz3:(s3.heap.push {cls:=.type "dict",data:=.dict #[]}).objs.size=s3.heap.objs.size+1:=Kv ..
 have lt0:∀x c,cl0.lookup x=ZA c->c<s3.heap.objs.size:=λx c e=>let ⟨_,ic⟩:=I3.cell x c (cl01 x c e);ic.lt
 obtain⟨c1,c2,c3,c4,c5⟩:=i0 scope.names (s3.heap.push {cls:=.type "dict",data:=.dict #[]}) cl0 (λx y c e1 e2=>I3.ok.inj x y c (cl01 x c e1) (cl01 y c e2)) λx c e=>by rw[hz3];exact OH (lt0 x c e)
 rw[hz3]at c1 c2 c3 c4 c5
 generalize hcl':LJ (s3.heap.objs.size+1) scope.names cl0=cl at*
 generalize hh₁:NL (s3.heap.push {cls:=.type "dict",data:=.dict #[]}) scope.names=h₁ at*
 have below:∀b o,s3.heap.get? b=ZA o->b≠s3.heap.objs.size:=λb o e=>K6 (JM e)
 have cl1:∀x c,cl.lookup x=ZA c->X.env.cells.lookup x=ZA c\/(s3.heap.objs.size<c/\h₁.IsCell c ZB):=λx c e=>(c1 x c e).imp (cl01 x c) id
 generalize hC:s3.heap.objs.size=C at*
 have stk:∀b,b≠X.env.locals->b∉X.fs->b∉kj X.stack:=λb h1 h2 z=>(JL.mp (I3.IF b z)).elim h1 h2
 have apart:∀b∈fp,∀x c,cl.lookup x=ZA c->c≠b:=λb hb x c e=>by
  rcases cl1 x c e with z|z
  ·exact(f3 b hb).2.2.2.2.1 x c z
  ·obtain⟨o,eo,_⟩:=T.obj _ _ st3 b hb
   have h1:=JM eo;rw[hC]at h1;exact M0 (RA h1 z.1)
 have I4:Inv (ba X scope cl N' C s3 H3 fp) ca (dt src σ) H3 {s3 with heap:=h₁}:=by
  refine⟨⟨I3.ok.mod,S.kind,I3.ok.glob,I3.ok.blt,LS hC,c2,λx hx=>?_,λx c hx e=>Mf (hC▸c5 x c (dI (beq_iff_eq.mp hx)) e),I3.ok.hd,I3.ok.frames,.inl rfl,
    λb hb=>⟨?_,λx c e=>apart b hb x c e⟩,I3.bs,J5 I3.ok.bsz I3.sz,λb o e z=>?_,λb hb=>stk b (f3 b hb).2.1 (f3 b hb).2.2.1,I3.stack,I3.Ip⟩,
   rfl,I3.bare,Un.kept old,⟨_,hns₁,λj x v e1 e2 e3=>?_⟩,λx c e=>?_,I3.hok.fresh (LS hC),λx c e=>(cl1 x c e).elim (I3.freeC x c) λz=>I3.hok.fresh (by rw[hC];exact Mf z.1),λp hp=>?_,I3.hok.kept old,?_⟩
  ·have key:∀k,(relabel scope X.env).names.lookup x=ZA k->(k=.cell\/k=.free)->∃c,cl.lookup x=ZA c:=λk e hk=>by
    obtain⟨k',e',z⟩:=fA e
    have hk':k'=.cell\/k'=.free:=z.elim (λz=>z▸hk) .inr
    rcases hk' with q|q
    ·exact c4 x (.inl (q▸dI e'))
    ·exact c4 x (.inr (cl02 x (q▸dI e')))
   rcases hx with hx|hx
   ·exact key _ hx (.inl rfl)
   ·exact key _ hx (.inr rfl)
  ·obtain⟨o,eo,_⟩:=T.obj _ _ st3 b hb
   show b≠C
   exact below b o eo
  ·have z':b∈fp:=z
   obtain⟨_,_,_,z1,_⟩:=f3 b z';rcases z1 with z1|z1
   ·exact I3.ok.noex b o e z1
   ·exact absurd (JS (JM (I3.ok.bs b o e).1) z1) (J3 _)
  ·unfold dt at e2
   rw[Ko]at e2
   cases q:src[j]? with
   |none=>rw[q]at e2;simp at e2
   |some o=>
    rw[q]at e2
    cases o with
    |none=>simp at e2
    |some i=>
     have e2':(σ[i]?).join=ZA v:=by simpa using e2
     have e2'':σ[i]?=ZA (ZA v):=by
      cases q2:σ[i]? with
      |none=>rw[q2]at e2';simp at e2'
      |some z=>rw[q2]at e2';simp at e2';rw[e2']
     obtain⟨hN,hfree⟩:=S.from_ j i x q e1
     have hm:=dI hfree
     have hk:=S.free x hm;obtain⟨m,hn,hl⟩:=I3.loc
     have hv:vn X.env.scope x:=by
      rcases hk with z|z
      ·exact .inr (.inl z)
      ·exact .inr (.inr z)
     obtain⟨u,r,l⟩:=hl i x v hN e2'' hv;refine⟨u,r,.inr ⟨?_,?_⟩⟩
     ·exact eU hfree
     ·rcases l with⟨z,_⟩|⟨_,c,ec,ic⟩
      ·rcases hk with z'|z' <;> rw[z']at z <;> cases z
      ·obtain⟨c',ec0⟩:=cl02 x hm
       have ec':cl.lookup x=ZA c':=(c3 x λz=>by have:=S.cel _ z rfl;rw[hfree]at this;cases this).trans ec0
       have:=cl01 x c' ec0;rw[ec]at this;cases this;obtain⟨o,ho,hd⟩:=ic;exact⟨c,ec',o,old _ _ ho,hd⟩
  ·rcases cl1 x c e with z|z
   ·obtain⟨v,o,ho,hd⟩:=I3.cell x c z
    exact⟨v,o,old _ _ ho,hd⟩
   ·exact⟨ZB,z.2⟩
  ·obtain⟨e,n,ne,nf,d⟩:=I3.pin p hp
   exact⟨old _ _ e,n,below _ _ e,stk _ ne nf,d⟩
  ·show(dt src σ).length=N'.length
   unfold dt;rw[JE];exact S.len
 obtain⟨bG,bI,bE⟩:=block cl C s3 H3 fp
 have stat:∀{H':Hp},(∀b∈fp,H' b=ZB)->∀b∈fp,gZ (ba X scope cl N' C s3 H3 fp) ca H' b:=λhn b hb=>by
  obtain⟨o,eo,_⟩:=T.obj _ _ st3 b hb;exact⟨hn b hb,below b o eo,stk b (f3 b hb).2.1 (f3 b hb).2.2.1,.inl hb,apart b hb,(f3 b hb).2.2.2.2.2⟩
 have st4:tn 0 h₁:=T.keep _ _ _ st3 λb hb o e=>old b o e
 have after:∀(H':Hp)(s':JB)(σ':St),Inv (ba X scope cl N' C s3 H3 fp) ca σ' H' s'->Q (.ref D) H' →
   PV (ZK X.prog X.w) X.A X.xe use Qf (.ref D) C (.ok .next) s':=λH' s' σ' I' q=>by
  obtain⟨m,hn,_⟩:=id I'.loc
  have fC:X.s₀.heap.objs.size<=C:=by rw[<-hC];exact I3.sz
  have ltC:∀b o,s3.heap.get? b=ZA o->b<C:=λb o e=>by rw[<-hC];exact JM e
  refine hend D C H' s' ⟨m,hn⟩ (λh' hsb=>?_) ⟨I'.free,?_,fC,λx c e z=>?_,λp hp z=>?_⟩ q
  rotate_left
  ·have:=I3.lt;rw[hC]at this;exact M0 this
  ·obtain⟨v,ic⟩:=I3.cell x c e
   have:=ic.lt;rw[hC,z]at this;exact J3 _ this
  ·have:=ltC _ _ (I3.pin p hp).1;rw[z]at this;exact J3 _ this
  have u:Un (kj X.stack) fp H3 H' s3.heap s'.heap:=I'.base
  have lift:∀b o,s3.heap.get? b=ZA o->∀o',s'.heap.get? b=ZA o'->h'.get? b=ZA o':=λb o e o' e'=>hsb.extBut b o' (below b o e) e'
  have u':Un (kj X.stack) fp H3 H' s3.heap h':=
   ⟨λb o e n hb hx=>lift b o e o (u.keep b o e n hb hx),λb o e n hb hx=>by
     obtain⟨sl,z⟩:=u.slot b o e n hb hx;exact⟨sl,lift b o e _ z⟩,u.free,λb o e hx=>by
     obtain⟨o',z⟩:=u.there b o e hx;exact⟨o',lift b o e _ z⟩,u.tups,u.frzs,u.tbls⟩
  have hCn:H' C=ZB:=I'.free
  have hok':HOk X.prog X.w H' h':=λb ob e=>by
   refine(I'.hok b ob e).IA (λc w' hc' q'=>(hsb.2 c ?_).trans q') (λ_ q=>q) λ_ _ q=>q
   rintro rfl
   rcases hc' with rfl|hc'
   ·rw[hCn]at e;cases e
   ·rw[hCn]at hc';cases hc'
  have I5:Inv X ca σ H' {s' with heap:=h'}:=I3.IM (s':={s' with heap:=h'}) (ch:=fp) I'.os u' hok' I'.bare λb hb=>⟨(f3 b hb).2.2.2.1,(f3 b hb).2.1,(f3 b hb).2.2.2.2.1,(f3 b hb).2.2.2.2.2⟩
  exact I5
 have loop:cC (ZK X.prog X.w) X.A (.compLoop (.ListComp elt [⟨tg,iter,ifs,0⟩] scope pos) 0 (.ref it) (.ref D) (compEnvC scope cl C X.env))
   (PV (ZK X.prog X.w) X.A X.xe use Qf (.ref D) C) {s3 with heap:=h₁}:=by
  refine wB (λn s'=>∃i σ' ys H',Inv (ba X scope cl N' C s3 H3 fp) ca σ' H' s'/\tn i s'.heap/\(∀b∈fp,H' b=ZB)/\W i n σ' ys H') ?_ m0 ⟨0,_,[],H3,I4,st4,fr3,w0⟩
  rintro n s5 ⟨i,σ5,ys,H5,I5,st5,fr5,w5⟩
  obtain⟨hDl,alt⟩:=turn i n σ5 ys H5 w5;rcases alt with⟨stop,qn⟩|⟨go,hlen,step⟩
  ·refine bN (T.done (ba X scope cl N' C s3 H3 fp) rfl rfl rfl hc i ca s5 σ5 H5 _ I5 (stat fr5) st5 stop) λr s6 ⟨hr,I6⟩=>?_
   subst hr;exact after H5 s6 σ5 I6 qn
  ·refine bN (T.item (ba X scope cl N' C s3 H3 fp) rfl rfl rfl hc i ca s5 σ5 H5 _ I5 (stat fr5) st5 go) λr s6 ⟨u,hr,h6⟩=>?_
   subst hr;refine bN h6 λ_ s7 hh_=>?_
   obtain⟨x,H7,I7,r7,y7,st7,fr7⟩:=hh_
   have I7':=I7.pinned (stat fr7) (T.obj _ _ st7);refine bN (bG _ s7 σ5 H7 x u _ I7' r7 (step x H7 y7)) λ_ s8 hh_=>?_
   obtain⟨σ8,H8,I8,q8⟩:=hh_;refine bN (bI _ s8 σ8 H8 _ I8 q8) λok s9 hh_=>?_
   obtain⟨H9,I9,q9⟩:=hh_
   have again:∀{σx:St}{Hx:Hp}{sx:JB}{ys':List V},Inv (ba X scope cl N' C s3 H3 fp) (ca++jx fp s7.heap) σx Hx sx->(∃m',m'<n/\W (i+1) m' σx ys' Hx) →
     ∃m,m<n/\∃i σ' ys H',Inv (ba X scope cl N' C s3 H3 fp) ca σ' H' sx/\tn i sx.heap/\(∀b∈fp,H' b=ZB)/\W i m σ' ys H':=λ{σx Hx sx ys'} Ix nx=>by
    obtain⟨m',hm,wx⟩:=nx;refine⟨m',hm,i+1,σx,ys',Hx,Ix.GM,T.keep _ _ _ st7 λb hb o e=>(Ix.pin (b,o) (JV _ (JV _ (df hb e)))).1,λb hb=>?_,wx⟩
    obtain⟨o,e,d⟩:=T.obj _ _ st7 b hb;exact(Ix.pin (b,o) (JV _ (JV _ (df hb e)))).2.1
   cases ok with
   |false=>
    rw[if_neg J7]at q9 ⊢
    exact again I9 q9
   |true=>
    rw[if_pos rfl]at q9 ⊢;refine i6 (bE _ s9 σ8 H9 _ I9 q9) λv s10 hh_=>?_
    obtain⟨y,H10,I10,r10,hD10,q10⟩:=hh_;refine bN (kC _ s10 σ8 H10 (.ref D) [y] (.ref D) [v] (λ_ H'=>H'=upd H10 D (.lst (ys++[y]))) I10 rfl (.cons r10 .nil) ⟨D,ys,y,rfl,rfl,hD10,hlen,rfl⟩) λ_ s11 hh_=>?_
    obtain⟨_,H11,I11,_,e11⟩:=hh_;subst e11;exact again I11 q10
 exact qi loop (T.self _ 0 _ _ _ st4 loop)
def HN{pos:Pos}{src:List (Option Nat)}
  (hc:X.calm=ZC) (S:LcScope X scope N' src) (hi:PI X tg iter wi)
  (block:∀cl C s₀ H₀ fp,PG (ba X scope cl N' C s₀ H₀ fp) tg g/\sr (ba X scope cl N' C s₀ H₀ fp) ifs tc/\DE (ba X scope cl N' C s₀ H₀ fp) elt te)
  (hs:autoParam (∀x,J8 iter X.env x=pure x) t_):
  DE X (.ListComp elt [⟨tg,iter,ifs,0⟩] scope pos) (C5 X.K wi src g tc te):=by
 intro ca s σ H Q I h;rw[eval_ListComp];exact yF (use:=ZB) hc S hi block hs I h λD C H' s' ⟨m,hn⟩ inv _ q=>⟨m,hn,λh' hsb=>⟨.ref D,H',inv h' hsb,rfl,q⟩⟩
def DT(X:Cx)(e:ZG)(t:TT):Prop:=
 ∀(ca:V3)(s:JB)(σ:St)(H:Hp)(Q:Bool->Hp->Prop),Inv X ca σ H s->t σ H Q->wC (ZK X.prog X.w) X.A (isTrue e X.env (eval e X.env)) (TP X ca σ Q) X.xe s
def DW(X:Cx)(e:ZG)(t:TT):Prop:=
 ∀(whole:Sem JD)(ca:V3)(s:JB)(σ:St)(H:Hp)(Q:Bool->Hp->Prop),Inv X ca σ H s->t σ H Q->wC (ZK X.prog X.w) X.A (isTrue e X.env whole) (TP X ca σ Q) X.xe s
def DA(X:Cx)(es:List ZG)(t:TA):Prop:=
 ∀(pos:Pos)(ca:V3)(s:JB)(σ:St)(H:Hp)(Q:List V->Hp->Prop),Inv X ca σ H s->t σ H Q->wC (ZK X.prog X.w) X.A (spliced (backTo pos (JZ es X.env))) (AP X ca σ Q) X.xe s
def DSs(X:Cx)(st:List ZF)(t:TS):Prop:=
 ∀(ca:V3)(s:JB)(σ:St)(H:Hp)(D:Ends),Inv X ca σ H s->t D σ H->wC (ZK X.prog X.w) X.A (execs st X.env) (SP X ca D) X.xe s
variable{es:List ZG}
section
variable {sts:List ZF}{ue:TE}{tt ut:TT}{ta:TA}{ts us:TS}{pos:Pos}
def PE.d(h:PE X e te):DE X e te:=λca s σ H Q I q=>.of (h ca s σ H Q I q)
def PT.d(h:PT X e tt):DT X e tt:=λca s σ H Q I q=>.of (h ca s σ H Q I q)
def PA.d(h:PA X es ta):DA X es ta:=λp ca s σ H Q I q=>.of (h p ca s σ H Q I q)
def PS.d(h:PS X st ts):DS X st ts:=λca s σ H D I q=>.of (h ca s σ H D I q)
def PSs.d(h:PSs X sts ts):DSs X sts ts:=λca s σ H D I q=>.of (h ca s σ H D I q)
def DE.imp(h:DE X e te)(w:∀σ H Q,ue σ H Q->te σ H Q):DE X e ue:=λca s σ H Q I q=>h ca s σ H Q I (w σ H Q q)
def DS.imp(h:DS X st ts)(w:∀D σ H,us D σ H->ts D σ H):DS X st us:=λca s σ H D I q=>h ca s σ H D I (w D σ H q)
def DSs.imp(h:DSs X sts ts)(w:∀D σ H,us D σ H->ts D σ H):DSs X sts us:=λca s σ H D I q=>h ca s σ H D I (w D σ H q)
def DSs.nox(h:DSs X.nox sts ts):DSs X sts ts:=λca s σ H D I hw=>cF (h ca s σ H D (I.FM _) hw) (λ_ _ q=>q.Iu) λ_ _ z=>Lr z
def zw(h1:DS X st ts)(h2:DSs X sts us):DSs X (st::sts) (F4 ts us):=by
 intro ca s σ H D I h;refine fT (i6 (h1 ca s σ H {D with nx:=us D} I h) λf s1 q=>?_)
 cases f with
 |next=>
  obtain⟨σ',H',I',q⟩:=q
  exact h2 ca s1 σ' H' D I' q
 |_=>exact q
def BU(h1:DS X st ts):DSs X [st] ts:=by
 intro ca s σ H D I h;refine fT (i6 (h1 ca s σ H D I h) λf s1 q=>?_)
 cases f with
 |next=>exact .of (L9 q)
 |_=>exact q
def Fe(he:DE X e te):DS X (.Return (ZA e) pos) (F5 te):=λca s σ H D I h=>
 nE (i6 (he ca s σ H _ I h) λv s1 ⟨x,H1,I1,r1,q1⟩=>⟨x,σ,H1,I1,r1,q1⟩)
def HG{a b:List ZF}(hc:DT X e tt)(ha:DSs X a ts)(hb:DSs X b us):DS X (.If e a b pos) (Gd tt ts us):=by
 intro ca s σ H D I h;refine FV (i6 (hc ca s σ H _ I h) λd s1 hh_=>?_)
 obtain⟨H1,I1,q1⟩:=hh_
 cases d with
 |true=>exact ha ca s1 σ H1 D I1 q1
 |false=>exact hb ca s1 σ H1 D I1 q1
def Fb(h:DE X e te)(he:autoParam (∀whole,isTrue e X.env whole=(do let v <-whole;standAt e.pos;holding [v] (truthy v))) t_):DT X e (tB te):=by
 intro ca s σ H Q I hw;refine vD (i6 (h ca s σ H _ I hw) λv s1 ⟨x,H1,I1,r1,q1⟩=>?_) (he _)
 obtain⟨d,rfl,q⟩:=q1;cases r1;exact .of (K2 ⟨H1,I1,q⟩)
def BQ(ha:DT X e tt):DW X (.BoolOp .And [e] pos) tt:=by
 intro wh ca s σ H Q I h;refine uc (i6 (ha ca s σ H Q I h) λc s1 e=>?_)
 cases c with
 |true=>exact .of (isTrue_and_nil e)
 |false=>exact e
def E9{b:ZG}{br:List ZG}(ha:DT X e tt)(hb:DW X (.BoolOp .And (b::br) pos) ut):DW X (.BoolOp .And (e::b::br) pos) (tAnd tt ut):=by
 intro wh ca s σ H Q I h;refine uc (i6 (ha ca s σ H _ I h) λc s1 hh_=>?_)
 obtain⟨H1,I1,q1⟩:=hh_
 cases c with
 |true=>exact hb wh ca s1 σ H1 Q I1 q1
 |false=>exact⟨H1,I1,q1⟩
def Fc(ha:DT X e tt):DT X (.UnaryOp .Not e pos) (F8 tt):=λca s σ H Q I h=>An (ha ca s σ H (λc H1=>Q (!c) H1) I h)
def B0(ha:DE X e te)(hr:DA X es ta)(hs:JZ (e::es) X.env=(ZD,eval e X.env)::JZ es X.env):DA X (e::es) (ui te ta):=by
 intro pos ca s σ H Q I h;rw[hs]
 show wC _ _ (spliced ((ZD,eval e X.env)::backTo pos (JZ es X.env))) _ _ s
 refine lN (i6 (ha ca s σ H _ I h) λu s1 hh_=>?_)
 obtain⟨x,H1,I1,r1,q1⟩:=hh_;exact i6 (hr pos ca s1 σ H1 _ I1 q1) λus s2 ⟨xs,H2,I2,r2,q2⟩=>⟨x::xs,H2,I2,.cons r1 r2,q2⟩
end
structure mY (P:J1)(w:Ks)(K:Jz)(mg:V0)(base:ZH)(CX:wM)(k:Nat)(f:ZE)(fd:KO)(ps:List Str)(sp:Sp):Prop where
 len:∀vs H Q E,sp vs H Q E->vs.length=ps.length
 run:∀(A:Kc)(outer:List Env)(s:JB)(H:Hp)(args:Args)(us:List JD)(vs:List V)(Q:VK)(E:XK),Room k A->tU P w K mg base A outer s H->PK s fd args (ps.zip us)->Vals vs us->sp vs H Q E →
  cC (ZK P w) A (.call (.ref f) args) (CR CX outer P w H s Q E) s
variable{CX:wM}{f:ZE}{ps:List Str}{sp:Sp}
def EV{mg:V0}{base:ZH}{name qual:Str}{dV kV pm ct:JD}{an od:Option ZE}
  {osl:Array (Option JD)} {N:List Str}  (lk:K.lookup f=ZA ⟨oc,od,.func (Md name qual params body scope dV kV doc pm an cdv ct),osl⟩) (hcd:Om K cdv qual=ZC) (S:cG N ps scope)
  (len:∀vs H Q E,sp vs H Q E->vs.length=ps.length)
  (hbody:∀(A:Kc)(outer:List Env)(s:JB)(H:Hp)(vs:List V)(Q:VK)(E:XK),Room k (A.deeper (envOfC qual scope s.heap.objs.size f cdv))->sp vs H Q E →
   ∃t,DSs (fG CX P w K mg base N qual scope f cdv A outer s H E) body t/\t {nx:=λ_ H'=>Q .non H',rt:=Q} (start N vs) H):
  mY P w K mg base CX (k+1) f (Md name qual params body scope dV kV doc pm an cdv ct) ps sp:=by
 refine⟨len,λA outer s H args us vs Q E hr e0 hb r hsp=>?_⟩
 have hl:=len _ _ _ _ hsp
 have KX:K.In s.heap:=e0.mod.kin.keeps λb o e=>(e0.bs b o e).1
 have lim:s.heap.NoLimit:=e0.mod.nolimit.keeps λb o e=>(e0.bs b o e).1
 have hkind:∀y∈ps.zip us,scope.names.lookup y.1=ZA .local\/(scope.names.lookup y.1=ZA .cell/\((LJ (s.heap.objs.size+1) scope.names []).lookup y.1).isSome=ZC):=λ⟨n,v⟩ hy=>by
  rcases S.par n (My hy).1 with q|q
  ·exact .inl q
  ·exact .inr ⟨q,LK _ _ _ (.inl q)⟩
 refine CJ hr.depth (KX _ _ lk) rfl S.co S.gen rfl (M9 KX hcd) (hb _ _ _ _ ?_)
 refine LP S.kind hkind λenv he s1 x=>?_
 subst he;refine⟨lim.keeps x.toInCall.keep,ve ?_⟩
 obtain⟨t,ht,hq⟩:=hbody A outer s H vs Q E (hr.deeper _) hsp
 have I:Inv (fG CX P w K mg base N qual scope f cdv A outer s H E) [] (start N vs) H s1:=iV S hr.hd e0 hl r x;refine cF (ht [] s1 (start N vs) H _ I hq) (λfl s' hs=>?_) λe s' hs=>hs
 have fin:∀{σ':St}{H':Hp}{v:V}{u:JD},Inv (fG CX P w K mg base N qual scope f cdv A outer s H E) [] σ' H' s'->RelV v u->Q v H'->CE outer P w H s Q u s':=
  λ{σ' H' v u} J rv q=>⟨v,H',J.os,J.bare,J.base,J.hok,rv,q⟩
 cases fl with
 |ret u=>
  obtain⟨v,σ',H',J,rv,q⟩:=hs
  exact fin J rv q
 |next=>
  obtain⟨σ',H',J,q⟩:=hs
  exact fin (v:=V.non) (u:=Kg) J rfl q
 |brk=>
  obtain⟨_,_,_,q⟩:=hs
  exact Lr q
 |cont=>
  obtain⟨_,_,_,q⟩:=hs;exact Lr q
section
variable {C:ZE}{dvs:List V}{E:XK}{x m:Str}{pos apos:Pos}{o:ZG}{ta:TE}{t:TA}
def AB{vs:List V}(F:mY X.prog X.w X.K X.mg X.base CX k f fd ps sp)(hr:Room k X.A)(hb:Binds X.K fd ps ds)(hd:Vals dvs ds)(hx:qr CX X E)
  (I:Inv X ca σ H s) (r:Vals vs us) (h:sp (vs++dvs) H Q E):wC (ZK X.prog X.w) X.A (call (.ref f) us) (EP X ca σ Q) X.xe s:=by
 have r2:Vals (vs++dvs) (us++ds):=r.append hd
 have hl:(us++ds).length=ps.length:=by rw[<-r2.length];exact F.len _ _ _ _ h
 refine jK (i5 (F.run X.A X.stack s H ⟨us,[]⟩ (us++ds) (vs++dvs) Q E hr I.IW (hb s us I.kIn hl) r2 h) λr s' hq=>?_)
 cases r with
 |error e=>exact hx ca σ H s e s' I hq
 |ok fl=>
  cases fl with
  |ret u=>exact I.after hq
  |next=>exact Lr hq
  |brk=>exact Lr hq
  |cont=>exact Lr hq
end
end L2
namespace Tr
open PySem PySem.Spec PyProof.Rows L2
def HW(P:J1)(w:Ks)(K:Jz)(mg:V0)(base:ZH)(k:Nat)(f:ZE)(fd:KO)(ps:List Str)(n:Nat)(g:List T->Rs T):Prop:=
 ∀(A:Kc)(outer:List Env)(s:JB)(H:Hp)(args:Args)(us:List JD)(vs:List V)(O:Ow)(ts:List T)(c:Str)(R:Nu->JB->Prop),Room k A->tU P w K mg base A outer s H->PK s fd args (ps.zip us)->Vals vs us →
  Reps K O H ts vs->(∀a,O a->Mtb H a)->ts.length=n->g ts=.err c->(∀ev s',RzC P w mg outer H s c ev s'->R (.error ev) s')->cC (ZK P w) A (.call (.ref f) args) R s
structure zU (P:J1)(w:Ks)(K:Jz)(mg:V0)(base:ZH)(k:Nat)(f:ZE)(fd:KO)(ps:List Str)(n:Nat)(g:List T->Rs T):Prop where
 h:mY P w K mg base CX0 k f fd ps (spP K n g)
 x:HW P w K mg base k f fd ps n g
abbrev nC(X:Cx)(s:List ZF)(F:V5):Prop:=DSs X s (FD X F)
variable{N ps:List Str}{f:ZE}{g:List T->Rs T}{qual x:Str}{st:ZF}
section
variable {mg:V0}{base:ZH}
def EW(Fn:L2.Fun K x qual st f fd)(S:cG N ps (aq st))(hn:ps.length=n)
  (hbody:∀(cdv:JD)(A:Kc)(outer:List Env)(s:JB)(H:Hp)(E:XK),Room k (A.deeper (envOfC qual (aq st) s.heap.objs.size f cdv)) →
   ∃F,nC (fG CX0 P w K mg base N qual (aq st) f cdv A outer s H E).nox (bP st) F/\∀ts,ts.length=n->∀t,g ts=.ok t->bA F (aK N.length ts)=.ok t):mY P w K mg base CX0 (k+1) f fd ps (spP K n g):=by
 have hpl:ps.length<=N.length:=by have:=congrArg Lh S.pre;rw[LQ]at this;omega
 obtain⟨oc,od,kV,doc,pm,an,cdv,ct,osl,rfl,lk,hcd⟩:=Fn.ex;refine EV lk hcd S (λvs H Q E h=>?_) λA outer s H vs Q E hr h=>?_
 ·obtain⟨ts,O,r,_,hl,_⟩:=h
  rw[<-r.length,hl,hn]
 ·obtain⟨ts,O,r,trk,hl,h⟩:=h
  obtain⟨F,hF,hv⟩:=hbody cdv A outer s H E hr;refine⟨_,hF.nox,aK N.length ts,O,noM,iJ r (by omega) trk,?_⟩
  have no:∀a,¬noM.u a:=λa ⟨_,z⟩=>z
  cases q:g ts with
  |bad=>rw[q]at h;exact h.elim
  |err c=>rw[q]at h;exact h.elim
  |ok t=>
   rw[q]at h
   have hb:=hv ts hl t q;unfold bA at hb
   cases q2:F (aK N.length ts)with
   |bad=>rw[q2]at hb;cases hb
   |err c=>rw[q2]at hb;cases hb
   |ok fl=>
    rw[q2,aA]at hb
    have sameOf:∀H',SameO noM.u H H'->Same H H':=λH' s b o e=>s b o e (no b)
    cases fl with
    |nx ρ'=>cases hb;exact λσ' H' M' s' E' o'=>h .non H' (sameOf H' s') Rep.IR
    |rt t'=>cases hb;exact λv H' s' r'=>h v H' (sameOf H' s') r'
    |bk ρ'=>cases hb
    |ct ρ'=>cases hb
def BG(Fn:L2.Fun K x qual st f fd)(S:cG N ps (aq st))(hn:ps.length=n)
  (hbody:∀(cdv:JD)(A:Kc)(outer:List Env)(s:JB)(H:Hp)(E:XK),Room k (A.deeper (envOfC qual (aq st) s.heap.objs.size f cdv)) →
   ∃F,(∀xe,nC ((fG CX0 P w K mg base N qual (aq st) f cdv A outer s H E).FM xe) (bP st) F)/\∀ts,ts.length=n->∀c,g ts=.err c->F (aK N.length ts)=.err c):HW P w K mg base (k+1) f fd ps n g:=by
 intro A outer s H args us vs O ts c R hr e0 hb r rs trk hl hg hR
 have hpl:ps.length<=N.length:=by have:=congrArg Lh S.pre;rw[LQ]at this;omega
 obtain⟨oc,od,kV,doc,pm,an,cdv,ct,osl,rfl,lk,hcd⟩:=Fn.ex
 have hlen:vs.length=ps.length:=by rw[<-rs.length,hl,hn]
 have KX:K.In s.heap:=e0.mod.kin.keeps λb o e=>(e0.bs b o e).1
 have lim:s.heap.NoLimit:=e0.mod.nolimit.keeps λb o e=>(e0.bs b o e).1
 have hkind:∀y∈ps.zip us,(aq st).names.lookup y.1=ZA .local\/((aq st).names.lookup y.1=ZA .cell/\((LJ (s.heap.objs.size+1) (aq st).names []).lookup y.1).isSome=ZC):=λ⟨n,v⟩ hy=>by
  rcases S.par n (My hy).1 with q|q
  ·exact .inl q
  ·exact .inr ⟨q,LK _ _ _ (.inl q)⟩
 refine CJ hr.depth (KX _ _ lk) rfl S.co S.gen rfl (M9 KX hcd) (hb _ _ _ _ ?_)
 refine LP S.kind hkind λenv he s1 x=>?_
 subst he;refine⟨lim.keeps x.toInCall.keep,ve ?_⟩
 obtain⟨F,hF,hv⟩:=hbody cdv A outer s H E0 (hr.deeper _)
 let xe:V2:=λev s'=>ZJ (ZK P w) (A.deeper (envOfC qual (aq st) s.heap.objs.size f cdv)) (leaving (envOfC qual (aq st) s.heap.objs.size f cdv) ev) (λ_ s''=>R (.error ev) s'') (λe' s''=>R (.error e') s'') s'
 have I:Inv ((fG CX0 P w K mg base N qual (aq st) f cdv A outer s H E0).FM xe) [] (start N vs) H s1:=(iV S hr.hd e0 hlen r x).FM _
 have no:∀a,¬noM.u a:=λa ⟨_,z⟩=>z
 refine cF (hF xe [] s1 (start N vs) H {nx:=λ_ _=>False,rt:=λ_ _=>False,bk:=λ_ _=>False,ct:=λ_ _=>False} I ⟨aK N.length ts,O,noM,iJ rs (by omega) trk,?_⟩) (λfl s' z=>?_) λe s' hs=>hs
 rotate_left
 ·cases fl with
  |next=>obtain⟨_,_,_,z⟩:=z;exact z.elim
  |cont=>obtain⟨_,_,_,z⟩:=z;exact z.elim
  |brk=>obtain⟨_,_,_,z⟩:=z;exact z.elim
  |ret v=>obtain⟨_,_,_,_,_,z⟩:=z;exact z.elim
 rw[hv ts hl c hg];intro ca ev s' w'
 show ZJ _ _ _ _ _ _
 obtain⟨e,T,C,σ',H',rfl,hm,I',sm,he,heo,fl,hT,_⟩:=w'
 have heo:=heo rfl
 have hT:∀t,T=ZA t->H' t=ZB/\s.heap.get? t=ZB:=λt z=>⟨(hT t z).1,(hT t z).2 rfl⟩
 refine yD (base:=base) (outer:=outer) (L:=s.heap.objs.size) I'.ok.frames I'.stack rfl fl λh' T' g=>hR _ _ ?_
 have hex:((fG CX0 P w K mg base N qual (aq st) f cdv A outer s H E0).FM xe).ex=[]:=rfl
 have Tn:H' T'=ZB/\s.heap.get? T'=ZB:=by
  rcases g.new with z|z
  ·exact hT T' z
  ·exact⟨gn I' z,fX I' hex z⟩
 have out:∀b o,s.heap.get? b=ZA o->b≠s.heap.objs.size:=λb o q z=>by
  have:=JM q;rw[z]at this;exact absurd this (J3 _)
 have mem:∀b,b∈kj ((envOfC qual (aq st) s.heap.objs.size f cdv)::outer)->b=s.heap.objs.size\/b∈kj outer:=λb z=>by
  have z':b∈s.heap.objs.size::kj outer:=z;exact JL.mp z'
 have ne:∀b o,s.heap.get? b=ZA o->b≠e/\T≠ZA b:=λb o q=>⟨λz=>(by subst z;rw[show s.heap.get? b=ZB from heo]at q;cases q),λz=>(by rw[show s.heap.get? b=ZB from(hT b z).2]at q;cases q)⟩
 have keepH:∀b u,H' b≠ZB->s'.heap.get? b=ZA u->h'.get? b=ZA u:=λb u hb q=>by
  refine g.keep b u (λz=>hb (I'.Ip b z)) (λz=>hb (by rw[z];exact he)) (λz=>hb (hT b z).1) q
 refine⟨e,T',C,H',rfl,hm,I'.os,I'.bare,⟨λb o q n hb hx=>?_,λb o q n hb hx=>?_,λb o q n hx=>I'.base.free b o q n hx,λb o q hx=>?_,I'.base.tups,I'.base.frzs,I'.base.tbls⟩,λa o q=>?_,λb o q=>sm b o q (no b),he,heo,g.flt,Tn.1,Tn.2⟩
 ·exact g.keep b o (λz=>(mem b z).elim (out b o q) hb) (ne b o q).1 (ne b o q).2 (I'.base.keep b o q n hb hx)
 ·obtain⟨sl,q1⟩:=I'.base.slot b o q n hb hx
  obtain⟨sl',q2⟩:=g.slot b _ (JF _ hb) q1;exact⟨sl',q2⟩
 ·obtain⟨o',q1⟩:=I'.base.there b o q hx
  by_cases z:b∈kj ((envOfC qual (aq st) s.heap.objs.size f cdv)::outer)
  ·obtain⟨sl,q2⟩:=g.slot b o' z q1
   exact⟨_,q2⟩
  ·exact⟨o',g.keep b o' z (ne b o q).1 (ne b o q).2 q1⟩
 ·refine(I'.hok a o q).IA (λb u hb z=>keepH b u ?_ z) (λ_ z=>z) λ_ _ z=>z
  rcases hb with rfl|hb
  ·rw[q];simp
  ·rw[hb];simp
def uT{F:V5}(Fn:L2.Fun K x qual st f fd)(S:cG N ps (aq st))(hn:ps.length=n)
  (hbody:∀(cdv:JD)(A:Kc)(outer:List Env)(s:JB)(H:Hp)(E:XK),Room k (A.deeper (envOfC qual (aq st) s.heap.objs.size f cdv)) →
   ∀xe,nC ((fG CX0 P w K mg base N qual (aq st) f cdv A outer s H E).FM xe) (bP st) F):zU P w K mg base (k+1) f fd ps n (val n N.length F):=
 ⟨EW Fn S hn λcdv A outer s H E hr=>⟨F,hbody cdv A outer s H E hr _,λts _ _ h=>xb h⟩,BG Fn S hn λcdv A outer s H E hr=>⟨F,hbody cdv A outer s H E hr,λts _ c h=>ud h⟩⟩
end
section
variable {X:Cx}{ca:V3}{σ:L2.St}{H:Hp}{vs:List V}{ts:List T}{O:Ow}{Q:VK}
def Dj(F:zU X.prog X.w X.K X.mg X.base k f fd ps n g)(hr:Room k X.A)(hb:Binds X.K fd ps [])(hps:ps.length=n)(I:Inv X ca σ H s)(r:Vals vs us)(rs:Reps X.K O H ts vs)(mt:∀a,O a->Mtb H a)(hl:ts.length=n)
  (hq:Post X H (g ts) λt H'=>∀v,Rep X.K O H' t v->Q v H'):wC (ZK X.prog X.w) X.A (call (.ref f) us) (EP X ca σ Q) X.xe s:=by
 cases q2:g ts with
 |bad=>rw[q2]at hq;exact hq.elim
 |ok t=>
  rw[q2]at hq;refine AB (E:=E0) (dvs:=[]) (ds:=[]) F.h hr hb .nil ya I r ⟨ts,O,by simpa using rs,mt,hl,?_⟩
  rw[q2]
  exact λv H' s2 rr=>hq H' s2 v rr
 |err c=>
  rw[q2]at hq
  have hlen:us.length=ps.length:=by rw[<-r.length,<-rs.length,hl,hps]
  have hb':=hb s us I.kIn (by rw[Kr];exact hlen)
  rw[Kr]at hb';refine jK (i5 (F.x X.A X.stack s H ⟨us,[]⟩ us vs O ts c (λr s'=>match r with|.error ev=>X.xe ev s'|_=>False) hr I.IW hb' r rs mt hl q2 λev s' w=>?_) λr s' hq=>?_)
  ·obtain⟨ea,T,C,H',rfl,hmc,ho,hbare,hun,hok,sm2,hea,heo,fl,hT,hTo⟩:=w
   have I2:Inv X ca σ H' s':=I.IM ho hun hok hbare (λb z=>absurd z (by simp))
   exact hq ca _ _ ⟨ea,ZA T,C,σ,H',rfl,hmc,I2,λb o q _=>sm2 b o q,hea,λhex=>fX I hex heo,fl,(λt zt=>by cases zt;exact⟨hT,λhex=>fX I hex hTo⟩),λpp hpp=>⟨λzz=>(by have:=(I.pin pp hpp).1;rw[zz,heo]at this;cases this),λzz=>(by cases zz;have:=(I.pin pp hpp).1;rw[hTo]at this;cases this)⟩⟩
  ·cases r with
   |error ev=>exact hq
   |ok fl=>exact hq.elim
end
end Tr
namespace L2
open PySem PySem.Spec PyProof.Rows
def Fg{X:Cx}{pos:Pos}{tg e:ZG}{te:TE}{g:TG}(he:DE X e te)(hg:PG X tg g)(hs:Nj [tg] e pos.line X.env=pure ZD)(hw:Nk [tg] e X.env=pure ZB)
  (h1:(K3 [tg] X.env).map (·.2)=[assign tg X.env]):DS X (.Assign [tg] e pos) (xt te g):=by
 intro ca s σ H D I h;rw[exec_Assign_arm];refine fw ?_
 rw[hs];refine aB (JK ?_)
 rw[if_neg (by decide)]
 refine a6 (i6 (he ca s σ H _ I h) λv s1 hh_=>?_)
 obtain⟨x,H1,I1,r1,q1⟩:=hh_;rw[hw];refine aB (JK ?_)
 show wC _ _ (do assignAll v ((K3 [tg] X.env).map (·.2));pure Flow.next) _ _ s1
 rw[h1];exact .of (Jy (bN (hg ca s1 σ H1 x v _ I1 r1 q1) λ_ s2 q=>JK q))
end L2
namespace Tr
open PySem PySem.Spec PyProof.Rows L2
abbrev zW(X:Cx)(e:ZG)(f:V6):Prop:=DE X e (tP X f)
abbrev HX(X:Cx)(e:List ZG)(f:V4):Prop:=DA X e (tPA X f)
abbrev CP(X:Cx)(e:ZG)(f:V7):Prop:=DT X e (uh X f)
abbrev Io(X:Cx)(e:ZG)(f:V7):Prop:=DW X e (uh X f)
abbrev CQ(X:Cx)(s:ZF)(F:V5):Prop:=DS X s (FD X F)
variable{G:V5}{X:Cx}{e tg:ZG}{es ifs:List ZG}{fe:V6}{fi:V4}{p:Pos}{ps:List Str}{st:ZF}{tgt:T->En->Rs En}{x:Str}
section
variable {a b c:ZG}{br:List ZG}{fa fb fc:V6}{f g:V7}{fs:V4}{pos:Pos}
def da_c{f:V6}{g:V4}(he:zW X e f)(hr:HX X es g)(hs:autoParam (JZ (e::es) X.env=(ZD,eval e X.env)::JZ es X.env) u_):HX X (e::es) (ae f g):=by
 intro pos ca s σ H Q I h;obtain⟨ρ,O,E,h⟩:=h;refine B0 he hr hs pos ca s σ H Q I ?_
 obtain⟨ρ1,O1,E1,h1⟩:=aO E h;refine⟨ρ1,O1,E1,Post.mono h1 λt H' s q v r=>?_⟩
 obtain⟨t',r',s',E',q'⟩:=q v r;refine⟨ρ,O,E',Post.mono q'.bind λts H2 s2 q2 vs rs=>?_⟩
 exact q2 H2 (Same.refl H2) _ (Reps.GE (r'.same s2) rs)
def dt_v{f:V6}(h:zW X e f)(he:autoParam (∀whole,isTrue e X.env whole=(do let v <-whole;standAt e.pos;holding [v] (truthy v))) t_):CP X e (tb f):=by
 intro ca s σ H Q I ⟨ρ,O,E,hq⟩;refine Fb h he ca s σ H Q I ?_
 obtain⟨ρ1,O1,E1,h1⟩:=aO E hq;refine⟨ρ1,O1,E1,Post.mono h1 λts H1 s1 q vs r=>?_⟩
 obtain⟨t',r',s',E',q'⟩:=q vs r
 split at q'
 ·exact⟨_,Rep.Gc.mp r',q' H1 (Same.refl H1)⟩
 ·exact q'.elim
def Fd{g:T->T->Rs T}(ho:OpT X (KU op) g)(ha:zW X a fa)(hb:zW X b fb)(hm:autoParam (ML op b=ZD) u_):CP X (.Compare a [op] [b] pos) (tb (o2 g fa fb)):=by
 intro ca s σ H Q I ⟨ρ,O,E,hq⟩
 have hq':Post X H (o2 g fa fb ρ) λt H'=>∀v,Rep X.K O H' t v->∃k,v=.bl k/\Q k H':=Post.mono hq.bind λt H' s' q v r=>by
  split at q
  ·exact⟨_,Rep.Gc.mp r,q H' (Same.refl H')⟩
  ·exact q.elim
 have h1:=aO E hq';refine Ap (i6 (ha ca s σ H _ I h1) λv s1 ⟨x,H1,I1,r1,t,rt,s',E',q1⟩=>?_) hm
 have h2:=aO (f:=fb) E' q1;refine i6 (hb ca s1 σ H1 _ I1 h2) λu s2 hh_=>?_
 obtain⟨y,H2,I2,r2,t2,rt2,s'',E'',q2⟩:=hh_;refine i6 (.of (ho ca s2 σ H2 O t t2 x y v u _ I2 (λp=>E''.fresh) (rt.same s'') rt2 r1 r2 q2)) λd s3 hh_=>?_
 obtain⟨z,H3,I3,r3,k,e,q3⟩:=hh_;subst e;cases r3;exact .of (K2 ⟨H3,I3,q3⟩)
def zv(ha:CP X a f):Io X (.BoolOp .And [a] pos) f:=BQ ha
def BP(ha:CP X a f)(hb:Io X (.BoolOp .And (b::br) pos) g):Io X (.BoolOp .And (a::b::br) pos) (qm f g):=by
 intro wh ca s σ H Q I ⟨ρ,O,E,hq⟩;refine E9 ha hb wh ca s σ H Q I ?_
 obtain⟨ρ1,O1,E1,h1⟩:=hG E hq;refine⟨ρ1,O1,E1,Post.mono h1 λk H1 s1 q=>?_⟩
 obtain⟨s',E',q'⟩:=q
 cases k with
 |true=>rw[if_pos rfl];exact⟨ρ,O,E',by simpa using q'⟩
 |false=>rw[if_neg J7];exact q' H1 (Same.refl H1)
def BS(ha:CP X a f):CP X (.UnaryOp .Not a pos) (cI f):=by
 intro ca s σ H Q I ⟨ρ,O,E,hq⟩;refine Fc ha ca s σ H Q I ?_
 obtain⟨ρ1,O1,E1,h1⟩:=hG E hq;exact⟨ρ1,O1,E1,Post.mono h1 λk H1 s1 ⟨s',E',q'⟩=>q' H1 (Same.refl H1)⟩
def BX{br:List ZF}{F:V5}(h1:CQ X st F)(h2:nC X br G):nC X (st::br) (ay F G):=DSs.imp (zw h1 h2) λD σ H hh_=>by
 obtain⟨ρ,B,M,E,h⟩:=hh_;refine⟨ρ,B,M,E,?_⟩
 unfold ay at h
 cases q:F ρ with
 |bad=>rw[q]at h;exact h.elim
 |err c=>rw[q]at h;exact h
 |ok f=>
  rw[q,aA]at h
  cases f with
  |nx ρ'=>exact λσ' H' M' s' E' o'=>⟨ρ',B,M',E',h.later s' o'⟩
  |rt t=>exact h
  |bk ρ'=>exact h
  |ct ρ'=>exact h
def BV(ha:zW X a fa):CQ X (.Return (ZA a) pos) (aF fa):=DS.imp (Fe ha) λD σ H hh_=>by
 obtain⟨ρ,B,M,E,h⟩:=hh_;refine⟨ρ,OO B M,E.o,?_⟩
 unfold aF at h
 cases q:fa ρ with
 |bad=>rw[q]at h;exact h.elim
 |err c=>rw[q]at h;exact PostF.xa h
 |ok t=>
  rw[q,aA]at h;exact λH' s v r=>h v H' (SameO.of s) (r.less λ_ z=>.inl z)
def Ff{A B:List ZF}{F:V5}(hc:CP X c f)(ha:nC X A F)(hb:nC X B G):CQ X (.If c A B pos) (dP f F G):=DS.imp (HG hc ha hb) λD σ H hh_=>by
 obtain⟨ρ,B,M,E,h⟩:=hh_;refine⟨ρ,OO B M,E.o,?_⟩
 unfold dP at h
 cases q:f ρ with
 |bad=>rw[q]at h;exact h.elim
 |err c=>rw[q]at h;exact PostF.xa h
 |ok k=>
  rw[q,aA]at h;intro H' s
  have E':Ev X.K B M H' ρ σ:=E.same s
  cases k with
  |true=>refine L2.iteT ?_;exact⟨ρ,B,M,E',PostF.later (by simpa using h) (SameO.of s) λa z=>.inl z⟩
  |false=>refine L2.iteF ?_;exact⟨ρ,B,M,E',PostF.later (by simpa using h) (SameO.of s) λa z=>.inl z⟩
def d_lc{elt iter:ZG}{N':List Str}{src:List (Option Nat)}{fc:V7}
  (hc:X.calm=ZC) (S:LcScope X scope N' src) (hi:wR X tg iter fi)
  (block:∀cl C s₀ H₀ fp,zR (ba X scope cl N' C s₀ H₀ fp) tg tgt/\sr (ba X scope cl N' C s₀ H₀ fp) ifs (uh (ba X scope cl N' C s₀ H₀ fp) fc)/\zW (ba X scope cl N' C s₀ H₀ fp) elt fe)
  (hs:autoParam (∀x,J8 iter X.env x=pure x) t_):
  zW X (.ListComp elt [⟨tg,iter,ifs,0⟩] scope pos) (d9 fi src tgt fc fe):=by
 have hPG:∀cl C s₀ H₀ fp,PG (ba X scope cl N' C s₀ H₀ fp) tg (zX X tgt):=λcl C s₀ H₀ fp=>(block cl C s₀ H₀ fp).1
 have hPI:∀cl C s₀ H₀ fp,sr (ba X scope cl N' C s₀ H₀ fp) ifs (tPT0 X.K fc):=λcl C s₀ H₀ fp ca s σ H Q I h=>(block cl C s₀ H₀ fp).2.1 ca s σ H Q I (tPT0.up (X:=ba X scope cl N' C s₀ H₀ fp) h)
 have hPE:∀cl C s₀ H₀ fp,DE (ba X scope cl N' C s₀ H₀ fp) elt (tP0 X.K fe):=λcl C s₀ H₀ fp ca s σ H Q I h=>(block cl C s₀ H₀ fp).2.2 ca s σ H Q I (tP0.up (X:=ba X scope cl N' C s₀ H₀ fp) h)
 exact DE.imp (HN (g:=zX X tgt) (tc:=tPT0 X.K fc) (te:=tP0 X.K fe) hc S hi (λcl C s₀ H₀ fp=>⟨hPG cl C s₀ H₀ fp,hPI cl C s₀ H₀ fp,hPE cl C s₀ H₀ fp⟩) hs) λσ H Q h=>pW h
def BY{g:T->En->Rs En}(ha:zW X a fa)(hg:zR X tg g)(hs:autoParam (Nj [tg] a pos.line X.env=pure ZD) u_)(hw:autoParam (Nk [tg] a X.env=pure ZB) u_)
  (h1:autoParam ((K3 [tg] X.env).map (·.2)=[assign tg X.env]) u_):CQ X (.Assign [tg] a pos) (cu fa g):=DS.imp (Fg ha hg hs hw h1) λD σ H ⟨ρ,B,M,E,h⟩=>sQ E h
def Fq{f:ZE}{g:List T->Rs T}(F:zU X.prog X.w X.K X.mg X.base k f fd ps n g)(hr:Room k X.A)(hm:X.mg x=ZA (.ref f))(hk:Mp X.K (.ref f)=ZC)(hb:Binds X.K fd ps [])(hps:ps.length=n)
  (hl:∀ρ ts,fs ρ=.ok ts->ts.length=n) (ha:HX X (e::es) fs) (hg:Gl X x) (hdb:(x == ("__debug__" : Str))=ZD) (hn:aW (e::es)=ZC):zW X (.Call (.Name x p) (e::es) [] pos) (cl g fs):=by
 intro ca s σ H Q I ⟨ρ,O,E,hq⟩
 have hq':Post X H (fs ρ >>= g) λt H'=>∀v,Rep X.K O H' t v->Q v H':=hq
 refine oQ (iQ I hg hm ?_ hdb)
 have hs:=ha pos ca s σ H (λvs H'=>∃ts,fs ρ=.ok ts/\Same H H'/\Reps X.K O H' ts vs) I ⟨ρ,O,E,by
  cases q:fs ρ with
  |bad=>rw[q]at hq';exact hq'.elim
  |err c=>rw[q]at hq';exact hq'
  |ok ts=>exact λH' s v r=>⟨ts,rfl,s,r⟩⟩
 have he:JZ (e::es) X.env=(ZD,eval e X.env)::JZ es X.env:=a7 (by unfold aW at hn;exact(Ky.mp hn).1)
 have hpl:=dy (pos:=pos) (env:=X.env) hn;rw[he]at hs hpl ⊢;refine qE (P:=λh=>X.K.In h) hpl (PySem.W.keeps_K hk) (oP (i6 hs λus s1 ⟨vs,H1,I1,r,ts,q,sm,rs⟩=>⟨I1.kIn,?_⟩))
 rw[q]at hq'
 have hq2:Post X H (g ts) λt H'=>∀v,Rep X.K O H' t v->Q v H':=hq'
 exact Dj F hr hb hps I1 r rs (E.same sm).mtb (hl ρ ts q) (hq2.later sm)
end
structure UE (X:Cx)(e:ZG)(f:V6):Prop where
 h:zW X e f
structure UA (X:Cx)(e:List ZG)(f:V4):Prop where
 h:HX X e f
structure UT (X:Cx)(e:ZG)(f:V7):Prop where
 h:CP X e f
structure UW (X:Cx)(e:ZG)(f:V7):Prop where
 h:Io X e f
structure US (X:Cx)(e:ZF)(f:V5):Prop where
 h:CQ X e f
structure z9 (X:Cx)(e:List ZF)(f:V5):Prop where
 h:nC X e f
section
variable {a b:ZG}{br:List ZG}{fa fb:V6}{f g:V7}{fs:V4}{pos:Pos}{sts A B:List ZF}{F:V5}
def qH(h:QE X e fa):UE X e fa:=⟨h.h.d⟩
def Au(h:QA X es fs):UA X es fs:=⟨h.h.d⟩
def u_t(h:QT X e f):UT X e f:=⟨h.h.d⟩
def qw(h:QS X st F):US X st F:=⟨h.h.d⟩
def oU(h:wQ X sts F):z9 X sts F:=⟨h.h.d⟩
def sj(he:UE X e fa)(hr:UA X es fs)(hn:autoParam (bx e=ZC) u_):UA X (e::es) (ae fa fs):=⟨da_c he.h hr.h (a7 hn)⟩
def xh{g:T->T->Rs T}(ho:OpT X (KU op) g)(ha:UE X a fa)(hb:UE X b fb)(hm:autoParam (ML op b=ZD) u_):UT X (.Compare a [op] [b] pos) (tb (o2 g fa fb)):=⟨Fd ho ha.h hb.h hm⟩
def FY(h:UE X e fa)(he:autoParam (∀whole,isTrue e X.env whole=(do let v <-whole;standAt e.pos;holding [v] (truthy v))) t_):UT X e (tb fa):=⟨dt_v h.h he⟩
def C3(ha:UT X a f):UW X (.BoolOp .And [a] pos) f:=⟨zv ha.h⟩
def F2(ha:UT X a f)(hb:UW X (.BoolOp .And (b::br) pos) g):UW X (.BoolOp .And (a::b::br) pos) (qm f g):=⟨BP ha.h hb.h⟩
def u_w(h:UW X e f):UT X e f:=⟨h.h _⟩
def F0(ha:UT X a f):UT X (.UnaryOp .Not a pos) (cI f):=⟨BS ha.h⟩
def bV(h1:US X st F)(h2:z9 X sts G):z9 X (st::sts) (ay F G):=⟨BX h1.h h2.h⟩
def lQ(h1:US X st F):z9 X [st] F:=⟨BU h1.h⟩
def FZ(ha:UE X a fa):US X (.Return (ZA a) pos) (aF fa):=⟨BV ha.h⟩
def xg(hc:UT X e f)(ha:z9 X A F)(hb:z9 X B G):US X (.If e A B pos) (dP f F G):=⟨Ff hc.h ha.h hb.h⟩
def xi{g:T->En->Rs En}(ha:UE X a fa)(hg:QG X tg g)(hs:autoParam (Nj [tg] a pos.line X.env=pure ZD) u_)(hw:autoParam (Nk [tg] a X.env=pure ZB) u_)
  (h1:autoParam ((K3 [tg] X.env).map (·.2)=[assign tg X.env]) u_):US X (.Assign [tg] a pos) (cu fa g):=⟨BY ha.h hg.h hs hw h1⟩
def u_lc{elt iter:ZG}{src:List (Option Nat)}{fc:V7}(N' N:List Str)(st:ZF)(hi:QI X tg iter fi)
  (block:N'.Nodup->∀(cl:List (Str×ZE))(C:ZE)(s₀:JB)(H₀:Hp)(fp:List ZE),QG (ba X scope cl N' C s₀ H₀ fp) tg tgt/\FN (ba X scope cl N' C s₀ H₀ fp) ifs fc/\UE (ba X scope cl N' C s₀ H₀ fp) elt fe)
  (hc:autoParam (Cx.calm X=ZC) u_) (hN:autoParam (X.N=N) u_) (hm:autoParam (X.env.scope.names=(aq st).names) u_) (hk:autoParam (scope.kind=.function) u_) (h:autoParam (Bv (aq st).names N scope.names N' src=ZC) z_) (nd:autoParam (N'.Nodup) z_) (hs:autoParam (∀(x:JD),J8 iter (Cx.env X) x=pure x) t_):
  UE X (NP elt [{target:=tg,iter:=iter,ifs:=ifs,is_async:=0}] scope pos) (d9 fi src tgt fc fe):=
 ⟨d_lc hc (LcScope.by hN hm hk h) hi.h (λcl C s₀ H₀ fp=>⟨(block nd cl C s₀ H₀ fp).1.h,(block nd cl C s₀ H₀ fp).2.1.h,(block nd cl C s₀ H₀ fp).2.2.h⟩) hs⟩
end
structure Aa (P:J1)(w:Ks)(K:Jz)(mg:V0)(base:ZH)(k:Nat)(x:Str)(n:Nat)(m:List T->Rs T):Prop where
 ex:∃f fd ps,mg x=ZA (.ref f)/\Mp K (.ref f)=ZC/\Binds K fd ps []/\ps.length=n/\zU P w K mg base k f fd ps n m
section
variable {mg:V0}{base:ZH}{F:V5}
def qg(N:List Str)(H:fH K mg x st ps)
  (hbody:N.Nodup->∀(f:ZE)(cdv:JD)(A:Kc)(outer:List Env)(s:JB)(H:Hp)(E:XK),Room k (A.deeper (envOfC x (aq st) s.heap.objs.size f cdv)) →
   ∀xe,z9 ((fG CX0 P w K mg base N x (aq st) f cdv A outer s H E).FM xe) (bP st) F) (S:autoParam (cG N ps (aq st)) a_) (hn:autoParam (ps.length=n) u_):Aa P w K mg base (k+1) x n (val n N.length F):=by
 obtain⟨f,fd,h⟩:=H;exact⟨f,fd,ps,h.mg,h.fn.kp,h.bd,hn,uT h.fn S hn λcdv A outer s H E hr xe=>(hbody S.nd f cdv A outer s H E hr xe).h⟩
end
def Cq{fs:V4}{pos:Pos}{k':Nat}{g:List T->Rs T}(c:Aa X.prog X.w X.K X.mg X.base k x n g)(hr:Room k' X.A)(ha:UA X (e::es) fs)(hk:autoParam (k<=k') s_)
  (hl:∀(ρ:En)(ts:List T),fs ρ=.ok ts->ts.length=n:=by repeat first|exact CM|refine CL ?_) (hn:autoParam (aW (e::es)=ZC) u_) (hg:autoParam (Gl X x) u_) (h2:autoParam ((x == JN "__debug__")=ZD) s_):UE X (.Call (.Name x p) (e::es) [] pos) (cl g fs):=by
 obtain⟨f,fd,ps,h1,h3,h4,h5,h6⟩:=c.ex;exact⟨Fq h6 (hr.mono hk) h1 h3 h4 h5 hl ha.h hg h2 hn⟩
end Tr
namespace L2
open PySem PySem.Spec PyProof.Rows
def v8{mg mb:V0}{CX:wM}{fa a:ZE}{x:Str}{sp:Sp}{s₁:JB}
  (KX:K.In s₁.heap) (hns:s₁.heap.Ns Km mg) (hb:s₁.heap.Ns NU mb) (hbb:∀x:Str,x≠ "__name__"->mb x=Ke x) (hlim:s₁.heap.NoLimit) (hg:s₁.gens= #[])
  (ha:s₁.heap.get? a=ZA {cls:=.type "list",data:=.seq vs.toArray}) (hi:Ot vs ns) (hl:ns.length<=ZI) (hr:Room k callerA)
  (F:∀base:ZH,K.In base->base.Ns Km mg->mY P w K mg base CX k fa fd [x] sp) (hbind:∀(s:JB)(u:JD),PK s fd ⟨[u],[]⟩ [(x,u)])
  (hsp:∀H:Hp,Fy H->SqL K H a (ns.map V.int)->sp [.ref a] H (λv _=>v=.bl ZC) λ_ _ _=>False)
  (hCX:∀H e s',CX [] H s₁ (λ_ _ _=>False) e s'->False):
  cC (ZK P w) callerA (.call (.ref fa) ⟨[.ref a],[]⟩) (λr s'=>r=.ok (.ret (.bool ZC))/\OldK s₁.heap s'.heap/\s'.os=s₁.os/\PH s'.gens) s₁:=by
 have rv:=nG hi
 have lenV:=hi.length
 have core:∀H:Hp,Fy H->SqL K H a (ns.map V.int)->HOk P w H s₁.heap->(∀b,H b≠ZB->b=a)->(H a≠ZB->K.lookup a=ZB) →
   cC (ZK P w) callerA (.call (.ref fa) ⟨[.ref a],[]⟩) (λr s'=>r=.ok (.ret (.bool ZC))/\OldK s₁.heap s'.heap/\s'.os=s₁.os/\PH s'.gens) s₁:=by
  intro H hO hS hok hA hK
  have base_of:∀{b:ZE}{o:Obj},s₁.heap.get? b=ZA o->H b=ZB->(p0 s₁.heap H).get? b=ZA o:=λe n=>y9 e n
  have noA:∀{b:ZE}{o:Obj}{es:Array DictEntry}{ep:Nat},s₁.heap.get? b=ZA o->o.data=.dict es ep->H b=ZB:=λ{b o es ep} e d=>by
   cases q:H b with
   |none=>rfl
   |some u=>
    have e':b=a:=hA b (by rw[q];simp)
    subst e';rw[ha]at e;cases e
    have d':Data.seq vs.toArray _=Data.dict es ep:=d;cases d'
  have nsK:∀{b:ZE}{m:V0},s₁.heap.Ns b m->(p0 s₁.heap H).Ns b m:=λ{b m} ⟨o,es,ep,e,d,r⟩=>⟨o,es,ep,base_of e (noA e d),d,r⟩
  have hKb:K.In (p0 s₁.heap H):=λb o e=>base_of (KX b o e) (by
   cases q:H b with
   |none=>rfl
   |some u=>
    have e':b=a:=hA b (by rw[q];simp)
    subst e';rw[hK (by rw[q];simp)]at e;cases e)
  have hM:Mod K mg (p0 s₁.heap H):=⟨hKb,nsK hns,⟨mb,nsK hb,hbb⟩,let ⟨mc,h1,h2⟩:=hlim;⟨mc,nsK h1,h2⟩⟩
  have e0:tU P w K mg (p0 s₁.heap H) callerA [] s₁ H:=⟨rfl,hM,λb o e=>Bj e,LS (wm _ _),trivial,λb hb=>absurd (show b∈([]:List ZE)from hb) (by simp),hok,.of_eq hg⟩
  refine i5 ((F _ hKb (nsK hns)).run callerA [] s₁ H ⟨[.ref a],[]⟩ [.ref a] [.ref a] _ _ hr e0 (hbind s₁ (.ref a)) (.cons rfl .nil) (hsp H hO hS)) λr s' h=>?_
  cases r with
  |error e=>exact(hCX H e s' h).elim
  |ok fl=>
   cases fl with
   |next=>exact Lr h
   |brk=>exact Lr h
   |cont=>exact Lr h
   |ret u=>
    obtain⟨v,H',os,bare,un,hok',r',q⟩:=h
    have q':v=.bl ZC:=q;subst q';obtain rfl:u=K8 ZC:=r';refine⟨rfl,OldK.of_keep λb o e=>?_,os,bare⟩
    cases q:H b with
    |none=>exact un.keep b o e q (by intro z;exact absurd (show b∈([]:List ZE)from z) (by simp)) (by simp)
    |some u=>
     rcases hO b with z|⟨ob,xs,z⟩
     ·rw[q]at z;cases z
     ·have z2:=un.frzs b ob _ z
      obtain⟨e1,_⟩:=hok b _ z;obtain⟨e2,_⟩:=hok' b _ z2;rw[e]at e1;cases e1;exact e2
 cases hk:K.lookup a with
 |some o=>
  have e:=KX a o hk;rw[ha]at e;cases e
  refine core (λ_=>ZB) (λ_=>.inl rfl) (.inr ⟨_,vs.toArray,_,hk,rfl,rfl,rfl,by rw[J0,lenV];exact hl,by simpa using rv⟩) (λb u z=>by have z':(ZB:Option HO)=ZA u:=z;cases z') (λb z=>absurd rfl z) λz=>absurd rfl z
 |none=>
  refine core (λb=>if b=a then ZA (.frz {cls:=.type "list",data:=.seq vs.toArray} (.lst (ns.map V.int)))else ZB) (λb=>?_) (.inl (.inr ⟨{cls:=.type "list",data:=.seq vs.toArray},if_pos rfl⟩)) (λb u z=>?_) (λb z=>?_) λ_=>hk
  ·by_cases hb:b=a
   ·exact .inr ⟨_,_,if_pos hb⟩
   ·exact .inl (if_neg hb)
  ·by_cases hb:b=a
   ·have z':=(if_pos hb).symm.trans z
    cases z';subst hb;exact⟨ha,by rw[JE];exact hl,vs,_,rv,ha⟩
   ·have z':=(if_neg hb).symm.trans z
    cases z'
  ·by_cases hb:b=a
   ·exact hb
   ·exact absurd (if_neg hb) z
end L2
namespace Tr
open PySem PySem.Spec PyProof.Rows L2 PySem.W PySem.Calls
abbrev CN(q:J1)(loose:List Str)(XP:(V0)->ZH->Prop)(YP:Ks->ZH->Prop)(r:RowW)(d:DefRec):Prop:=
 ∀(w:Ks)(s₀ s₁:JB)(mg mb:V0),Ground q loose r.records XP w s₀ mg mb s₁.heap->YP w s₁.heap->∀(fa:ZE)(o:Obj)(pm cd doc dV kV:JD),s₁.heap.get? fa=ZA o →
  o.data=.func {docDef d.name d.params d.body d.scope pm cd doc with defaults:=dV,kwdefaults:=kV}->s₁.heap.CodeRec cd d.name->Dflts mg s₁.heap d.params [] dV kV->mg d.name=ZA (.ref fa)->s₁.gens= #[] →
  ∀(args:List WData)(vals:List JD)(as:List ZE),r.claim.pre args=ZC->WData.layableAll args=ZC->ReadsAllW r.records (classAt s₀.heap) s₁.heap vals args as->WellAll w.params s₁.heap vals args->(∀a∈as,(a == Mr)=ZD) →
   wC (ZK r.prog w) callerA (PySem.call (.ref fa) vals) (λv s'=>GoodWG r.claim (classAt s₀.heap) (QP s₀.heap) args s₁ (.ok (.ret v)) s') (λe s'=>GoodWG r.claim (classAt s₀.heap) (QP s₀.heap) args s₁ (.error e) s') s₁
variable{XP:(V0)->ZH->Prop}{loose:List Str}
def walk_C{l:OpenLaw}{d:DefRec}{S:si}{top:Nat->ZF}{CX:wM}{sp:Frag->Sp}{x:Str}
  (hn:l.most=ZA n) (hn2:n<=ZI) (hdf:d.params.defaults=[]) (hr:Room k callerA)
  (F:∀(w:Ks)(K:Frag)(mg:V0)(fa:ZE)(h:ZH),K.In h->yk S K=xf S top->h.Ns Km mg->mg d.name=ZA (.ref fa) →
   ∃fd:KO,(∀(s:JB)(u:JD),PK s fd ⟨[u],[]⟩ [(x,u)])/\∀base:ZH,K.In base->base.Ns Km mg->mY l.prog w K mg base CX k fa fd [x] (sp K))
  (hsp:∀(K:Frag)(H:Hp)(a:ZE)(ns:List Int),ns.length<=n->Fy H->SqL K H a (ns.map V.int)->sp K [.ref a] H (λv _=>v=.bl ZC) λ_ _ _=>False)
  (hCX:∀(H:Hp)(s:JB)(e:JD)(s':JB),CX [] H s (λ_ _ _=>False) e s'->False):
  CN q loose XP (hookC S top).says l.row.toRowW d:=by
 intro w s₀ s₁ mg mb G Y fa o pm cd doc dV kV ho hd hcd hD hmg hg args vals as hpre hlay hrd hwl hlo;obtain rfl:dV=.none:=Dflts.none hD hdf;obtain rfl:kV=.none:=Dflts.noKw hD;obtain⟨a,vs,ns,rfl,rfl,hobj,hints,hlen⟩:=Att.script_of hn hpre hwl;obtain⟨K,KX,e⟩:=Y;obtain⟨fd,hb,hF⟩:=F w K mg fa _ KX e G.T.g hmg;refine jK (i5 (v8 KX G.T.g G.T.b G.T.builtins G.T.nolimit hg hobj hints (J5 hlen hn2) hr hF hb (λH hO hS=>hsp K H a ns hlen hO hS) λH e s'=>hCX H s₁ e s') λr s' hq=>?_)
 obtain⟨rfl,h2,h3,h4⟩:=hq;exact⟨.inl ⟨.bool ZC,.bool ZC,[],rfl,λ_=>rfl,.bool ZC,Att.post_true l _,λ_=>⟨List.Pairwise.nil,λ_ hm=>(nomatch hm)⟩⟩,h2,h3,h4⟩
def cal0:Cal ⟨.builtin "claim.caller" {},ZB,ZB,[],ZB⟩:=rfl
def xq{t:Sem Fin}(hk:xp<=s.toks)(hreg:s.asleep)
  (h:wC (ZK prog w) callerA t (λfin s'=>∃f,fin=.done f/\(R (.ok f) s'/\MF s'.gens=ZD)) (λe s'=>R (.error e) s'/\MF s'.gens=ZD) s):
  ∃n r s' s'',runN (denote table) prog w n s ⟨t,.builtin "claim.caller" {},default,[]⟩=.halted (outcomeOf r) s' ∧
   schedN (denote table) prog w n (.single s ⟨t,.builtin "claim.caller" {},default,[]⟩)=.halted (outcomeOf r) s'/\s'.forget=s''.forget/\R r s'':=by
 have z:=h hk ⟨.builtin "claim.caller" {},ZB,ZB,[],ZB⟩ default caller_in cal0
 obtain⟨n,r,s₁,s₂,hs,hn,hfo,hR⟩:=wp_halts_full (M:=ZK prog w) (R:=R) hreg (N0 (ZK prog w) _ t (λfin p' s' q=>by
  obtain⟨f,rfl,q⟩:=q;exact(show Sem.finPost (ZK prog w) _ (λr s'=>R r s'/\MF s'.gens=ZD) (.done f) p' s' from q)) (λ_ _ _ q=>q) default s z)
 exact⟨n,r,s₂,s₁,hn,hs,hfo,hR⟩
def holds_C{r:OpenRow}{Yf:JB->α}{Ya:Ks->α}{YP:Ks->ZH->Prop}{d:DefRec}
  (left:LeftO r.prog q loose Xt Yf Ya N) (hY:∀w s,Yf s=Ya w->YP w s.heap) (hYk:∀w h h',YP w h->(∀b o,h.get? b=ZA o->h'.get? b=ZA o)->YP w h')
  (hX:∀s,Xt s=ZC->XP (s.heap.nsMap Km) s.heap) (hXk:∀mg h h',XP mg h->(∀b o,h.get? b=ZA o->h'.get? b=ZA o)->XP mg h')
  (hdef:defOf q r.name=ZA (d,[])) (hp:r.prog.theDef r.name=ZA (d.params,d.body,d.scope)) (hk:kwWritten? d.params.kwonlyargs d.params.kw_defaults=ZA []) (hRf:∀s,Xt s=ZC->RecFacts r.records s.heap) (hwr:(!r.writes||r.records.isEmpty)=ZC)
  (k1:r.wellSaid=ZC) (ok:(chainsOk q&&opensWell r.prog&&(frees r.toRowW&&r.within.isEmpty))=ZC) (hb:r.prog.bare) (hw:r.toRowW.promised)
  (hT0:∀w s,Yf s=Ya w->xp<=s.toks) (call:CN q loose XP YP r.toRowW d):r.Holds:=by
 obtain⟨ok1,k5⟩:=Ky.mp ok;obtain⟨hch,o1⟩:=Ky.mp ok1;obtain⟨k5,k6⟩:=Ky.mp k5;obtain⟨hsame,hu,ha,hap,hm⟩:=frees_parts k5;refine⟨k1,hw,⟨hb,o1,by show r.makers.map _=[];rw[hm];rfl⟩,hw.witness,λw=>⟨(left.behind hX hch w).1,λs' hs'=>?_⟩⟩
 obtain⟨s₀,hf,hg0,s,hT,hz,hgens,hg,G00,y⟩:=(left.behind (XP:=λmg h=>XP mg h/\RecFacts r.records h) (λs hs=>⟨hX s hs,hRf s hs⟩) hch w).2 s' hs'
 have G0:Ground q loose [] XP w s (s.heap.nsMap Km) (s.heap.nsMap NU) s.heap:={G00 with X:=G00.X.1}
 have RF:=G00.X.2;refine⟨s₀,hf,hg0,s,hT,λn hn=>?_,RF.1,RF.2.1,?_⟩
 ·obtain rfl:n=r.name:=by split at hn <;> simp_all
  exact pinned_of_view hg G0 hdef hp hk
 have hgens:s.gens= #[]:=Array.eq_empty_of_size_eq_zero (beq_iff_eq.mp hgens)
 have G:Ground q loose r.records XP w s _ _ s.heap:=RF.ground G0;intro args hpre hlay ord hord;obtain⟨⟨vs,s₁⟩,hlaid⟩:=M4.mp (layAllW_isSome (P:=w.params) (ord:=ord) G.has args r.args s (pre_splitW hpre).1)
 have keeps:=layAllW_keeps _ _ _ hlaid
 have htk:s.toks<=s₁.toks:=(layAllW_grows _ _ _ hlaid).toks
 have hal:=layAllW_rest _ _ _ hlaid;obtain⟨as,hrd,hin,hold⟩:=reads_layAllW hord _ _ _ hlaid hlay s₁.heap (λ_ _ e=>e)
 have L:Laid r.records w s s₁ args vs as:=⟨⟨ord,hord,hlaid⟩,hrd,hin,hold,keeps,hal.1.trans hgens,hal.2.2.1⟩
 have G₁:=G.keeps hXk keeps
 have hi:=ident_freeW hu ha hap
 have hwi:r.claim.within=[]:=List.isEmpty_iff.mp k6;obtain⟨fa,o,pm,cd,doc,dV,kV,h1,h2,h3,h4,h5⟩:=G₁.fn hdef
 have body:=call w s s₁ _ _ G₁ (hYk _ _ _ (hY w s y) keeps) fa o pm cd doc dV kV h2 h3 h4 h5 (defOf_name hdef▸h1) L.gens args vs as hpre hlay L.reads L.well (L.low G.low)
 have fin:∀{res:Nu}{t:JB},GoodWG r.toRowW.claim (classAt s.heap) (QP s.heap) args s₁ res t->(r.toRowW.claim.Ends s args vs s₁ res t/\t.os=s.os/\(r.writes=ZC->namesKept r.prog r.keeps s.heap t.heap/\∀x∈r.records,∀a,classAt s.heap x.1=ZA a->recordClass t.heap a x.1 (x.2.map (·.1))=ZC))/\MF t.gens=ZD:=λg=>by
  have z:=g.laid (c:=r.toRowW.claim) hsame hwi hi L;exact⟨⟨z.1,z.2.1,λq=>⟨namesKept_of hT hg r.keeps keeps g.2.1.old,noTable hwr q⟩⟩,leftWithCleanup_false_of_bare z.2.2⟩
 have tree:wC (ZK r.prog w) callerA (do match <-nsGet mainNs r.name with|some f=>do ret (<-PySem.call f vs)|none=>unsupported "claim.caller:no-such-global")
   (λfin t=>∃f,fin=.done f/\((r.toRowW.claim.Ends s args vs s₁ (.ok f) t/\t.os=s.os/\(r.writes=ZC->namesKept r.prog r.keeps s.heap t.heap/\∀x∈r.records,∀a,classAt s.heap x.1=ZA a->recordClass t.heap a x.1 (x.2.map (·.1))=ZC))/\MF t.gens=ZD))
   (λe t=>(r.toRowW.claim.Ends s args vs s₁ (.error e) t/\t.os=s.os/\(r.writes=ZC->namesKept r.prog r.keeps s.heap t.heap/\∀x∈r.records,∀a,classAt s.heap x.1=ZA a->recordClass t.heap a x.1 (x.2.map (·.1))=ZC))/\MF t.gens=ZD) s₁:=by
  refine aB (wpAny_nsGet G₁.T.g ?_)
  rw[h1];exact a6 (cF body (λv t g=>bc ⟨_,rfl,fin g⟩) λe t g=>fin g)
 obtain⟨k,res,t,t',hrun,hsched,hfo,hcase,hos,hkp⟩:=xq (R:=λres t=>r.toRowW.claim.Ends s args vs s₁ res t/\t.os=s.os/\(r.writes=ZC->namesKept r.prog r.keeps s.heap t.heap/\∀x∈r.records,∀a,classAt s.heap x.1=ZA a->recordClass t.heap a x.1 (x.2.map (·.1))=ZC)) (J5 (hT0 w s y) htk) (Shared.asleep_of_life hal.2.2.2 hz) tree
 obtain⟨eh,_,_,eo,_⟩:=Shared.forget_eq hfo
 have hcase:=hcase.congr eh;rw[<-eh]at hkp;rw[<-eo]at hos
 have hlife:t.heap.life=s.heap.life:=(runN_life _ _ _ hrun).trans hal.2.2.2;refine⟨vs,s₁,hlaid,k,_,t,hsched,?_,(λ_ i x hx=>by rw[hgens]at hx;simp at hx),hkp,by rw[hlife],Shared.rest_eq hos⟩
 rcases hcase with⟨v,rfl,d1,d2,d3,d4,d5⟩|⟨e,ob,cls,rfl,d1,d2,d3,d4,d5⟩
 ·exact .inl ⟨v,rfl,d1,d2,d3,λb o y _=>d4 b o y,d5⟩
 ·exact .inr ⟨e,ob,cls,rfl,d1,d2,d3,d4,λb o y _=>d5 b o y⟩
open PySem.NumText
def BC(x:LR)(u:Tok):(int_private% "intFromObject") (.str x u)=(int_private% "intFromText") (.str x u) (Rb x) 10:=by
 have f6:typeOf (.str x u)=pure (.type "str"):=rfl
 have g1:RI (.str x u) (KP "__int__")=pure ZB:=by unfold RI OQ;rw[f6,pure_bind,W.KIN.str_int];rfl
 have g2:OQ (.str x u) (KP "__index__")=pure ZB:=by unfold OQ;rw[f6,pure_bind,W.KIN.str_idx]
 have g3:OQ (.str x u) (KP "__trunc__")=pure ZB:=by unfold OQ;rw[f6,pure_bind,W.KIN.str_trunc]
 refine PR (show _=(RI (.str x u) (KP "__int__") >>= _)from rfl) ?_
 rw[g1,pure_bind];refine PR (show _=(OQ (.str x u) (KP "__index__") >>= _)from rfl) ?_
 rw[g2,pure_bind];refine PR (show _=(OQ (.str x u) (KP "__trunc__") >>= _)from rfl) ?_
 rw[g3,pure_bind]
 rfl
def yZ(x:LR)(u:Tok):Builtin.«int.__new__» ⟨[.type "int",.str x u],[]⟩=(do let v <-(int_private% "intFromText") (.str x u) (Rb x) 10;ret v):=by
 have f7:isType (.type "int")=pure ZC:=rfl;rw[<-BC x u];unfold Builtin.«int.__new__»;simp only[f7,F.conv_sub_int,F.madeHere_int,pure_bind,Bool.not_true,KQ,if_false]
 rfl
def ub{own:List String}{e:JD}{Q:Unit->JB->Prop}(h:Q () s):wC M A (markTheRefusal own e) Q E s:=λk Γ p hΓ z=>by
 have hc:PP own (((Γ.code,p)::Γ.below).map (·.1))=ZD:=by
  have tr:∀(A B C:Bool),A=ZC->((!A&&B)&&C)=ZD:=by intro A B C h;rw[h];rfl
  exact tr _ _ _ z
 unfold markTheRefusal;rw[Sem.wp_bind']
 show Pr M Γ (if PP own (((Γ.code,p)::Γ.below).map (·.1))=ZC then _ else _) _ _ p s
 rw[hc];exact h
variable{x:LR}
section
variable {u:Tok}
def w6(hl:(Sw x).length<=640)(hn:Sd x=ZB)(hr:(reprText x).length<=ZI)(hh:A.handled=ZB)
  (h:∀h' tk e,Heap.NewExc s.heap h' e "ValueError"->E (.ref e) {s with heap:=h',toks:=tk}):wC (ZK prog w) A ((int_private% "intFromText") (.str x u) (Rb x) 10) Q E s:=by
 have hb:(int_private% "bytesOf?") (.str x u)=pure ZB:=rfl
 show wC _ _ (if (Sw x).length<=640 then _ else _) _ _ s
 rw[if_pos hl,pure_bind]
 dsimp only
 have hz:∀(y z:LR),y.length<=100->(y++⟨z.cps.extract 0 200⟩:LR).length<=ZI:=λy z hy=>by
  have h1:(⟨z.cps.extract 0 200⟩:LR).length<=200:=by show(z.cps.extract 0 200).size<=200;simp;omega
  rw[PySem.Str.length_append,KW];omega
 have h100:(KP (toString "invalid literal for int() with base " ++toString 10++toString ": ")).length<=100:=by decide+kernel
 rcases read0 x hl with⟨m,h1,_⟩|⟨_,h2⟩
 ·rw[hn]at h1;cases h1
 ·rcases h2 with h2|⟨i,h2,h3⟩
  ·have h2':(int_private% "readNumeral") 0 10 (List.takeWhile (λx=>x != 0) (Rb x))=_:=h2
   rw[h2']
   dsimp only
   refine aB (NB hb ?_)
   simp only[Option.isSome_none,On,KQ,if_false];refine aB (Mb ?_)
   refine aB (NB hb ?_)
   dsimp only
   refine aB (R5 ?_ hr)
   refine aB (wpAny_mkStr ?_ (hz _ _ h100))
   refine aB (Rc Qr (λh' e me=>?_) (by rw[KW];exact(by decide:1<=16777216)))
   refine a6 (ub ?_)
   exact .of (Qs hh (h h' _ e me.newExc))
  ·have h2':(int_private% "readNumeral") 0 10 (List.takeWhile (λx=>x != 0) (Rb x))=_:=h2
   rw[h2']
   dsimp only
   rw[if_neg h3];refine aB (Mb ?_)
   refine aB (NB hb ?_)
   dsimp only
   refine aB (R5 ?_ hr)
   refine aB (wpAny_mkStr ?_ (hz _ _ h100))
   refine aB (Rc Qr (λh' e me=>?_) (by rw[KW];exact(by decide:1<=16777216)))
   refine a6 (ub ?_)
   exact .of (Qs hh (h h' _ e me.newExc))
end
def vF(x:LR)(u:Tok):∃K:JD->Sem Fin,Builtin.«type.__call__» ⟨[.type "int",.str x u],[]⟩=(holding [.builtin "int.__new__"] (call (.builtin "int.__new__") [.type "int",.str x u] []) >>= K):=by
 obtain⟨c,tl,hm⟩:=Oi.mro
 have h1:=Oi.notType
 have h2:=Oi.canCreate;unfold Builtin.«type.__call__»
 dsimp only
 simp only[h1,h2,F.typeCall_int_1,hm,Oi.made,pure_bind,KQ,if_false,Rp];exact⟨_,rfl⟩
variable{args:Args}{b:Builtin}
section
variable {u:Tok}
def mO{id:String}(hb:Sa table id=ZA b)
  (h:wC (ZK prog w) (A.under (.builtin id args)) (b args) (λfin s'=>match fin with|.done f=>R (.ok f) s'|.again c'=>c'.quiet=ZC/\cC (ZK prog w) A c' R s') (λe s'=>R (.error e) s') s):
  cC (ZK prog w) A (.builtin id args) R s:=by
 refine dk ?_
 show wC _ _ (match Sa table id with|some b=>b args|none=>unsupported ((withoutEnding? id "#data").getD id)) _ _ s
 rw[hb];exact h
def zG{id:String}(hq:plainId id=ZC)(hb:Sa table id=ZA b)(hc:R6 id args=pure ())
  (h:wC (ZK prog w) (A.under (.builtin id args)) (b args) (λfin s'=>match fin with|.done f=>R (.ok f) s'|.again c'=>c'.quiet=ZC/\cC (ZK prog w) A c' R s') (λe s'=>R (.error e) s') s):
  cC (ZK prog w) A (.call (.builtin id) args) R s:=by
 refine dk ?_
 show wC _ A.in1 (do R6 id args;again (.builtin id args)) _ _ s
 exact aB (NB hc (bc (Ng (NS hq args) (mO hb h))))
def vE(hl:(Sw x).length<=640)(hn:Sd x=ZB)(hr:(reprText x).length<=ZI)(hh:A.handled=ZB)
  (h:∀h' tk e,Heap.NewExc s.heap h' e "ValueError"->E (.ref e) {s with heap:=h',toks:=tk}):wC (ZK prog w) A (call (.type "int") [.str x u]) Q E s:=by
 refine jK (dk ?_)
 show wC _ _ (callAny (.type "int") _) _ _ _
 refine bc (Ng (Code.quiet_builtin _ (by decide+kernel)) (mO F.entry_type_call ?_))
 obtain⟨K,hK⟩:=vF x u;rw[hK];refine a6 (cq (jK (zG Oi.plain F.entry_int_new (F.newCall_int_1 _) ?_)))
 rw[yZ];exact a6 (w6 hl hn hr (by exact hh) λh' tk e me=>h h' tk e me)
end
def Fz(h:ZH)(C:JD)(e:ZE):Option ZE->Prop
 |none=>∃oe vs,h.get? e=ZA oe/\oe.cls=C/\oe.data=.fields vs/\vs[1]?=ZA .none
 |some T=>T≠e/\∃oe vs,h.get? e=ZA oe/\oe.cls=C/\oe.data=.fields vs/\vs[1]?=ZA (.ref T)/\∃oT ts,h.get? T=ZA oT/\oT.data=.fields ts/\ts[3]?=ZA .none
structure vq (fs:List ZE)(C:JD)(e:ZE)(T:Option ZE)(h h':ZH)(T':ZE):Prop where
 flt:Fz h' C e (ZA T')
 new:T=ZA T'\/h.get? T'=ZB
 keep:∀b o,b∉fs->b≠e->T≠ZA b->h.get? b=ZA o->h'.get? b=ZA o
 slot:∀b o,b∈fs->h.get? b=ZA o->∃sl,h'.get? b=ZA {o with slots:=sl}
variable{e:ZE}{env:Env}
def Er{base:ZH}{outer:List Env}{L:ZE}{T:Option ZE}{Q:Unit->JB->Prop}(hfr:A.frames=ZA (env::outer))(hl:s.heap.FunFrames base (env::outer))(hf:env.frame=ZA L)
  (F:Fz s.heap C e T) (h:∀h' T',vq ((env::outer).filterMap (·.frame)) C e T s.heap h' T'->Q () {s with heap:=h'}):
  ZJ M A (MD (.ref e) env) (λ_ s'=>ZJ M A (setFlight (.ref e) ZB) Q E s') E s:=by
 generalize hB:NV s.heap (e::(T.toList++(env::outer).filterMap (·.frame)))=B
 have bm:∀b,b∈e::(T.toList++(env::outer).filterMap (·.frame))->B.get? b=ZB:=λb m=>by rw[<-hB];exact MN _ m
 have hl':s.heap.FunFrames B (env::outer):=eG hl λa ha=>bm a (JF _ (JV _ ha))
 have hst:B.StaysIn s.heap:=λb o q=>by rw[<-hB]at q;exact M8 _ q
 have hen:B.get? e=ZB:=bm e JI
 have main:∀h',Heap.Left B (env::outer) e C s.heap h'->Q () {s with heap:=h'}:=λh' ⟨x1,x2,⟨oe,vs,T',oT,ts,he,hc,hd,h1,hnT,hTe,hT,hdT,h3⟩,x4⟩=>by
  refine h h' T' ⟨⟨hTe,oe,vs,he,hc,hd,h1,oT,ts,hT,hdT,h3⟩,?_,λb o n1 n2 n3 q=>?_,λb o m q=>?_⟩
  ·cases q:s.heap.get? T' with
   |none=>exact .inr rfl
   |some o=>
    left
    by_cases z:T'∈e::(T.toList++(env::outer).filterMap (·.frame))
    ·rcases JL.mp z with z|z
     ·exact absurd z hTe
     ·rcases JR.mp z with z|z
      ·cases T with
       |none=>simp at z
       |some t=>simp at z;rw[z]
      ·obtain⟨_,o',ho',hnf⟩:=x2.mem z
       rw[hT]at ho';cases ho';exact absurd hdT (hnf ts)
    ·rw[<-hB,Lq _ q z]at hnT;cases hnT
  ·refine x1 b o ?_
   rw[<-hB];refine Lq _ q λz=>?_
   rcases JL.mp z with z|z
   ·exact n2 z
   ·rcases JR.mp z with z|z
    ·cases T with
     |none=>simp at z
     |some t=>simp at z;exact n3 (by rw[z])
    ·exact n1 z
  ·obtain⟨_,o',ho',hnf⟩:=hl.mem m
   rw[q]at ho';cases ho';exact x4 b o q hnf
 cases T with
 |none=>
  obtain⟨oe,vs,he,hc,hd,h1⟩:=F;unfold MD;simp only[hf];refine Jy (Kd he hd h1 ?_)
  rw[if_neg (by decide)]
  refine Oy hfr hl' hf he hst hen hd (Kj.mp h1).1 λh' x=>main h' ?_
  rw[hc]at x;exact x
 |some t=>
  obtain⟨hte,oe,vs,he,hc,hd,h1,oT,ts,hT,hdT,h3⟩:=F
  have hnT:B.get? t=ZB:=bm t (JF _ (K4 _ (by simp)))
  unfold MD;simp only[hf];refine Jy (Kd he hd h1 ?_)
  rw[if_pos (show(Kf t != Kg)=ZC from by simp)]
  refine Jy (Kd hT hdT h3 ?_)
  rw[if_neg (show ¬((Kg == rawInt L)=ZC)from by simp[rawInt])]
  refine Jy (Ox hT hdT (Kj.mp h3).1 ?_)
  have other:∀b,b≠t->(s.heap.update t (Mm (·.setIfInBounds 3 Kg))).get? b=s.heap.get? b:=λb hb=>LL _ _ (MV hb)
  have noRec:∀b o,s.heap.get? b=ZA o->(∀vs,o.data≠ .fields vs)->b≠t:=λb o hb hnf q=>by
   rw[q,hT]at hb;injection hb with hb;subst hb;exact hnf ts hdT
  refine Oy hfr (hl'.of_keeps λb o hb hnf=>⟨o,(other b (noRec b o hb hnf)).trans hb,rfl⟩) hf ((other e (MV hte)).trans he)
   (λb o hbo=>(other b λq=>by rw[q,hnT]at hbo;cases hbo).trans (hst b o hbo)) hen hd (Kj.mp h1).1
   λh' x=>main h' ?_
  obtain⟨x1,x2,x3,x4⟩:=x;rw[hc]at x3;exact⟨x1,x2,x3,λb o hb hnf=>x4 b o ((other b (noRec b o hb hnf)).trans hb) hnf⟩
variable{X:Cx}{h':ZH}{ca:V3}
section
variable {σ:L2.St}{H:Hp}
def Inv.IX{T':ZE}{T:Option ZE}(I:Inv X ca σ H s)(hst:X.stack=X.env::X.outer)(hfe:X.env.frame=ZA X.env.locals)(hcl:∀x c,X.env.cells.lookup x≠ZA c)(hex:X.ex=[])
  (g:vq ((X.env::X.outer).filterMap (·.frame)) C e T s.heap h' T') (he:H e=ZB) (heo:X.s₀.heap.get? e=ZB) (hT:∀t,T=ZA t->H t=ZB/\X.s₀.heap.get? t=ZB) (hp:∀p∈X.pn++ca,p.1≠e/\T≠ZA p.1):
  Inv X ca σ H {s with heap:=h'}:=by
 have mem:∀b,b∈(X.env::X.outer).filterMap (·.frame)↔b=X.env.locals\/b∈X.fs:=λb=>by
  rw[KJ,hfe];exact JL
 have out:∀b o,X.s₀.heap.get? b=ZA o->b≠X.env.locals:=λb o q z=>by
  have h1:=JM q
  have h2:=I.ok.above;rw[z]at h1;exact absurd (JS h1 h2) (J3 _)
 have ne:∀b o,X.s₀.heap.get? b=ZA o->b≠e/\T≠ZA b:=λb o q=>⟨λz=>(by subst z;rw[heo]at q;cases q),λz=>(by rw[(hT b z).2]at q;cases q)⟩
 have fr:∀b,b∈(X.env::X.outer).filterMap (·.frame)->H b=ZB:=λb z=>I.Ip b (by rw[hst];exact z)
 have keepH:∀b u,H b≠ZB->s.heap.get? b=ZA u->h'.get? b=ZA u:=λb u hb q=>by
  refine g.keep b u (λz=>hb (fr b z)) (λz=>hb (by rw[z];exact he)) (λz=>hb (hT b z).1) q
 refine⟨I.ok,I.os,I.bare,⟨λb o q n hb hx=>?_,λb o q n hb hx=>?_,I.base.free,λb o q hx=>?_,I.base.tups,I.base.frzs,I.base.tbls⟩,?_,λx c z=>absurd z (hcl x c),I.free,I.freeC,λp hp'=>?_,λa o q=>?_,I.len⟩
 ·exact g.keep b o (λz=>((mem b).mp z).elim (out b o q) hb) (ne b o q).1 (ne b o q).2 (I.base.keep b o q n hb hx)
 ·obtain⟨sl,q1⟩:=I.base.slot b o q n hb hx
  obtain⟨sl',q2⟩:=g.slot b _ ((mem b).mpr (.inr hb)) q1;exact⟨sl',q2⟩
 ·obtain⟨o',q1⟩:=I.base.there b o q hx
  by_cases z:b∈(X.env::X.outer).filterMap (·.frame)
  ·obtain⟨sl,q2⟩:=g.slot b o' z q1
   exact⟨_,q2⟩
  ·exact⟨o',g.keep b o' z (ne b o q).1 (ne b o q).2 q1⟩
 ·obtain⟨m,⟨o,es,ep,ho,hd,r⟩,hl⟩:=I.loc
  obtain⟨sl,q2⟩:=g.slot X.env.locals o ((mem _).mpr (.inl rfl)) ho;refine⟨m,⟨_,es,ep,q2,hd,r⟩,λi x v a1 a2 a3=>?_⟩
  obtain⟨u,ru,lk⟩:=hl i x v a1 a2 a3;refine⟨u,ru,?_⟩
  rcases lk with z|⟨_,c,z,_⟩
  ·exact .inl z
  ·exact absurd z (hcl x c)
 ·obtain⟨b1,b2,b3,b4,b5⟩:=I.pin p hp'
  exact⟨g.keep p.1 p.2 (λz=>((mem _).mp z).elim b3 b4) (hp p hp').1 (hp p hp').2 b1,b2,b3,b4,b5⟩
 ·refine(I.hok a o q).IA (λb u hb z=>keepH b u ?_ z) (λ_ z=>z) λ_ _ z=>z
  rcases hb with rfl|hb
  ·rw[q];simp
  ·rw[hb];simp
end
def BH{σ1:L2.St}{H1:Hp}{T':ZE}{T:Option ZE}(hst:X.stack=X.env::X.outer)(hfe:X.env.frame=ZA X.env.locals)(hcl:∀x c,X.env.cells.lookup x≠ZA c)(hex:X.ex=[])(I1:Inv X ca σ1 H1 s1)(g:vq ((X.env::X.outer).filterMap (·.frame)) C e T s1.heap h' T')
  (he:H1 e=ZB) (heo:X.s₀.heap.get? e=ZB) (hT:∀t,T=ZA t->H1 t=ZB/\X.s₀.heap.get? t=ZB) (hpp:∀p∈X.pn++ca,p.1≠e/\T≠ZA p.1)
   (kk:∀oe ev oT ts,h'.get? e=ZA oe->oe.cls=C->oe.data=.fields ev->ev[1]?=ZA (.ref T')->h'.get? T'=ZA oT->oT.data=.fields ts->3<ts.size->Inv (z8 X e oe) ca σ1 H1 {s1 with heap:=h'}->e∉kj X.stack->Inv (z8 X e oe) ca σ1 H1 {s1 with heap:=h'.update T' (Mm (·.setIfInBounds 3 Kg))}->Pp):Pp:=by
 have I2:=Inv.IX I1 hst hfe hcl hex g he heo hT hpp
 have Tn:H1 T'=ZB/\X.s₀.heap.get? T'=ZB/\∀p∈X.pn++ca,p.1≠T':=by
  rcases g.new with z|z
  ·exact⟨(hT T' z).1,(hT T' z).2,λp hp y=>(hpp p hp).2 (by rw[z,y])⟩
  ·exact⟨gn I1 z,fX I1 hex z,λp hp y=>by have:=(I1.pin p hp).1;rw[y,z]at this;cases this⟩
 obtain⟨hTe,oe,ev,hoe,hoc,hod,h1,oT,ts,hoT,hdT,h3⟩:=g.flt
 have nfr:∀b o vs,h'.get? b=ZA o->o.data=.fields vs->b∉(X.env::X.outer).filterMap (·.frame):=λb o vs hb hd z=>by
  have:=I2.stack;rw[hst]at this;obtain⟨_,o',ho',hnf⟩:=this.mem z;rw[show h'.get? b=ZA o' from ho']at hb
  cases hb;exact hnf vs hd
 have hel:e≠X.env.locals:=λz=>nfr e oe ev hoe hod (by rw[KJ,hfe];exact z▸JI)
 have hef:e∉X.fs:=λz=>nfr e oe ev hoe hod (by rw[KJ,hfe];exact JF _ z)
 have hcell:∀v,oe.data≠ .cell v:=λv z=>by rw[hod]at z;cases z
 have I3:Inv (z8 X e oe) ca σ1 H1 {s1 with heap:=h'}:=lD I2 hoe he hel hef hcell
 refine kk oe ev oT ts hoe hoc hod h1 hoT hdT (Kj.mp h3).1 I3 (by rw[hst];exact nfr e oe ev hoe hod) ?_
 generalize hU:h'.update T' (Mm (·.setIfInBounds 3 Kg))=h2
 have kp:∀b,b≠T'->h2.get? b=h'.get? b:=λb hb=>by rw[<-hU];exact LL _ _ (MV hb)
 have hT2:h2.get? T'=ZA (Mm (·.setIfInBounds 3 Kg) oT):=by rw[<-hU];exact NI _ hoT (NJ (LV hdT _))
 have hoe2:h2.get? e=ZA oe:=(kp e (MV hTe)).trans hoe
 have g2:vq ((X.env::X.outer).filterMap (·.frame)) C e (ZA T') h' h2 T':=⟨⟨hTe,oe,ev,hoe2,hoc,hod,h1,_,_,hT2,LV hdT _,by simp[(Kj.mp h3).1]⟩,.inl rfl,λb o _ _ n3 q=>(kp b λz=>n3 (by rw[z])).trans q,λb o m q=>⟨o.slots,(kp b λz=>nfr T' oT ts hoT hdT (z▸m)).trans q⟩⟩
 have I4:Inv X ca σ1 H1 {s1 with heap:=h2}:=Inv.IX (s:={s1 with heap:=h'}) I2 hst hfe hcl hex g2 he heo (λt z=>by cases z;exact⟨Tn.1,Tn.2.1⟩) λp hp=>⟨(hpp p hp).1,λz=>Tn.2.2 p hp (Kn z).symm⟩
 exact lD I4 hoe2 he hel hef hcell
def w9{body:List ZF}{h₀:ExceptHandler}{hs:List ExceptHandler}{pos:Pos}{Q:Flow->JB->Prop}
  (h:wC (ZK prog w) A (execs body env) (λf s₁=>match f with|.next=>Q .next s₁|f=>Q f s₁)
   (λe s₁=>ZJ (ZK prog w) A (MD e env) (λ_ s₂=>ZJ (ZK prog w) A (setFlight e ZB) (λ_ s₃=>ZJ (ZK prog w) A (handleBy e env (h₀::hs)) Q E s₃) E s₂) E s₁) s):
  wC (ZK prog w) A (exec (.Try body (h₀::hs) [] [] pos) env) Q E s:=by
 rw[arm_exec_Try];refine fw ?_
 unfold tryStmt;simp only[List.isEmpty_nil,if_true,Rp,On,KQ,if_false];refine a6 (lO (cF h (λf s₁ h₁=>?_) λe s₁ h₁=>?_))
 ·cases f <;> first|exact .of (L9 h₁)|exact bc h₁
 ·exact aB (Kw h₁ (λ_ _ h₂=>aB (Kw h₂ (λ_ _ h₃=>.of h₃) λ_ _ x=>x)) λ_ _ x=>x)
def qF{pos:Pos}{T:String}{args:List (Bool×Sem JD)}(hplain:args.any (·.1)=ZD)
  (h:wC M A (R9 (.type T) ZC args []) (λa s₁=>wC M A (call (.type T) a.pos a.kw) Q E s₁) E s):wC M A (Sb pos (.type T) [] args []) Q E s:=by
 unfold Sb;refine a6 (cq (i6 h λa s₁ h₁=>fw ?_))
 simp only[hplain,List.any_nil,QB];refine aB (JK ?_)
 exact a6 (i6 h₁ λr s₂ hr=>aB (KM (Sv (bc hr))))
def rz(x:LR):T:=match Sd x with
 |some n=>.int n
 |none=>.non
def yn:T->Rs T
 |.str x=>if x.length<=640/\x.cps.all (· <1114112)=ZC then .ok (rz x)else .bad
 |_=>.bad
def vM(f:V6)(ρ:En):Rs Fl:=f ρ >>= λt=>yn t >>= λv=>.ok (.rt v)
def sS(h1:x.length<=640)(h2:x.cps.all (· <1114112)=ZC):(reprText x).length<=ZI:=by
 have h3:=StrLaws.reprText_len x λc hc=>by
  have:=Nn.mp h2 c (by simpa using hc)
  have:c<1114112:=by simpa using this
  exact JS this (by decide)
 rw[KW];omega
def C9:isSubtype (.type "ValueError") (.type "ValueError")=pure ZC:=by rw[Qh];kernel_rfl
def Dd:isSubtype (.type "ValueError") (.type "BaseException")=pure ZC:=by rw[Qh];kernel_rfl
def C8:isSubtype (.type ((Manifest.find? "ValueError").elim "type" λx=>x.metatype)) (.type "tuple")=pure ZD:=by rw[Qh];kernel_rfl
variable{y:LR}
def Dg(i:Nat){p1 p2 p3 p4 p5 p6 np hpos pos:Pos}(hst:X.stack=X.env::X.outer)(hfe:X.env.frame=ZA X.env.locals)(hcl:∀x c,X.env.cells.lookup x≠ZA c)(hex:X.ex=[])(hc:X.calm=ZC)
  (hmi:X.mg "int" =ZB) (hmv:X.mg "ValueError" =ZB) (hbi:Ke "int" =ZA (.type "int")) (hbv:Ke "ValueError" =ZA (.type "ValueError")) (hgi:Gl X "int") (hgv:Gl X "ValueError")
  (hN:X.N[i]?=ZA y) (hv:vn X.env.scope y) (hd:(y == ("__debug__" : LR))=ZD) (hcd:(y == ("__classdict__" : LR))=ZD):
  CQ X (.Try [.Return (ZA (.Call (.Name "int" p1) [.Name y p2] [] p3)) p4] [.ExceptHandler (ZA (.Name "ValueError" np)) ZB [.Return (ZA (.Constant .none j p5)) p6] hpos] [] [] pos) (vM (vr i)):=by
 intro ca s σ H D I ⟨ρ,B,M,E,hq⟩;unfold vM vr at hq
 have hh:X.A.handled=ZB:=I.ok.hd hc
 have hw:∃x,ρ[i]?=ZA (.va (.str x))/\(x.length<=640/\x.cps.all (· <1114112)=ZC)/\∀v H',SameO M.u H H'->Rep X.K B H' (rz x) v->D.rt v H':=by
  split at hq
  ·rename_i t ht
   rw[aA]at hq;unfold yn at hq
   split at hq
   ·rename_i x
    split at hq
    ·rename_i hx;rw[aA]at hq;exact⟨x,ht,hx,hq⟩
    ·exact hq.elim
   ·exact hq.elim
  ·exact hq.elim
 obtain⟨x,hx,⟨h640,hall⟩,hD⟩:=hw;obtain⟨v,hs,rv⟩:=E.env.val i _ hx;cases Rep.FS.mp rv
 have rd:ZJ (ZK X.prog X.w) X.A (eval (.Name y p2) X.env) (λu s1=>s1=s/\∃t,u=.str x t) (λ_ _=>False) s:=by
  obtain⟨m,hn,hl⟩:=I.loc;obtain⟨u,r,l⟩:=hl i y _ hN hs hv
  have fin:(λu s1=>s1=s/\∃t,u=Lb x t) u s:=⟨rfl,r⟩
  rcases l with⟨hk,hm⟩|⟨hk,c,hc',hcell⟩
  ·exact Rr (P4 I.ok.kind hk hn hm fin) hd
  ·exact absurd hc' (hcl y c)
 refine w9 (fT (nE (oQ (eg I hgi hmi hbi (qF rfl (oP (lN (.of (Kw rd (λu s1 h1=>?_) λ_ _ z=>z.elim)))))))))
 obtain⟨rfl,t,rfl⟩:=h1;refine .of (Li ?_)
 show wC _ _ (call (.type "int") [.str x t] []) _ _ s1
 cases hi:Sd x with
 |some n=>
  have e:rz x=.int n:=by unfold rz;rw[hi]
  rw[e]at hD
  exact .of (W.KIN.call_text hi h640 ⟨.int n,σ,H,I.tok _,⟨_,rfl⟩,hD _ H (λ_ _ e _=>e) (Rep.Iv n)⟩)
 |none=>
  have e:rz x=.non:=by unfold rz;rw[hi]
  rw[e]at hD
  have hse:(Sw x).length<=640:=J5 (seen_length x) h640;refine vE hse hi (sS h640 hall) hh λh1 tk e me=>?_
  obtain⟨ob,ta,hob,hcls,hdat⟩:=me.there
  have I1:Inv X ca σ H {s1 with heap:=h1,toks:=tk}:=I.kept me.keeps
  have he:H e=ZB:=gn I me.new
  have heo:X.s₀.heap.get? e=ZB:=fX I hex me.new
  have hfr:X.A.frames=ZA (X.env::X.outer):=by rw[<-hst];exact I.ok.frames
  have hstk:h1.FunFrames X.base (X.env::X.outer):=by have:=I1.stack;rw[hst]at this;exact this
  have fl:Fz h1 (.type "ValueError") e ZB:=⟨ob,_,hob,hcls,hdat,rfl⟩;refine Er (s:={s1 with heap:=h1,toks:=tk}) hfr hstk hfe fl λh2 T' g=>?_
  refine BH hst hfe hcl hex I1 g he heo (λt z=>by cases z) (λp hp=>⟨λz=>(by have:=(I.pin p hp).1;rw[z,me.new]at this;cases this),λz=>by cases z⟩) λoe ev oT ts hoe hoc hod hv1 hoT hdT h3 I3 hnf I5=>?_
  refine Qt (PQ (eg (X:=z8 X e oe) I3 hgv hmv hbv ?_)) (by intro z;cases z)
  refine wpAny_excMatches_type (T:="ValueError") (X:="ValueError") ⟨oe,hoe,hoc⟩ Dd C8 C9 ?_
  refine Pl ?_
  refine P7 hoe hod hv1 hoT hdT h3 ?_
  refine NM (ON (QY ?_))
  exact⟨.non,σ,H,uQ I.ok I5,rfl,hD _ H (λ_ _ e _=>e) Rep.IR⟩
def C2(i:Nat){p1 p2 p3 p4 p5 p6 np hpos pos:Pos}(hcl:∀x c,X.env.cells.lookup x≠ZA c)(hmi:X.mg "int" =ZB)(hmv:X.mg "ValueError" =ZB)(hst:autoParam (X.stack=X.env::X.outer) u_)(hfe:autoParam (X.env.frame=ZA X.env.locals) u_)(hex:autoParam (X.ex=[]) u_)(hc:autoParam (X.calm=ZC) u_)
  (hbi:autoParam (Ke "int" =ZA (.type "int")) z_) (hbv:autoParam (Ke "ValueError" =ZA (.type "ValueError")) z_) (hgi:autoParam (Gl X "int") u_) (hgv:autoParam (Gl X "ValueError") u_)
  (hN:autoParam (X.N[i]?=ZA y) u_) (hv:autoParam (vn X.env.scope y) v_) (hd:autoParam ((y == KP "__debug__")=ZD) s_) (hcd:autoParam ((y == KP "__classdict__")=ZD) s_):
  US X (.Try [.Return (ZA (.Call (.Name "int" p1) [.Name y p2] [] p3)) p4] [.ExceptHandler (ZA (.Name "ValueError" np)) ZB [.Return (ZA (.Constant .none j p5)) p6] hpos] [] [] pos) (vM (vr i)):=
 ⟨Dg i hst hfe hcl hex hc hmi hmv hbi hbv hgi hgv hN hv hd hcd⟩
section
variable {a b:ZG}{fa fb:V6}{apos cpos:Pos}
def qy(ha:QE X a fa)(hb:QE X b fb)(hn:autoParam (bx b=ZC) u_)(hbase:autoParam (Kx a "split" X.env (eval a X.env)=eval a X.env) u_)(hline:autoParam ((apos.endLine == cpos.line)=ZC) u_):
  QE X (.Call (.Attribute a "split" apos) [b] [] cpos) (oS de fa (ae fb ai)):=⟨xP MU RU r6 ha.h hb.h hn hbase hline⟩
def oK(ha:QE X a fa)(hb:QE X b fb)(hn:autoParam (bx b=ZC) u_)(hbase:autoParam (Kx a "partition" X.env (eval a X.env)=eval a X.env) u_)(hline:autoParam ((apos.endLine == cpos.line)=ZC) u_):
  QE X (.Call (.Attribute a "partition" apos) [b] [] cpos) (oS ie fa (ae fb ai)):=⟨xP PZ F.type_str_partition B2 ha.h hb.h hn hbase hline⟩
def tV(ha:QE X a fa)(hb:QE X b fb)(hn:autoParam (bx b=ZC) u_)(hbase:autoParam (Kx a "join" X.env (eval a X.env)=eval a X.env) u_)(hline:autoParam ((apos.endLine == cpos.line)=ZC) u_):
  QE X (.Call (.Attribute a "join" apos) [b] [] cpos) (oS kW fa (ae fb ai)):=⟨xP F.slot_str_join F.type_str_join B3 ha.h hb.h hn hbase hline⟩
end
end Tr
namespace L2
open PySem PySem.Spec PyProof.Rows
def PE1(X:Cx)(e:ZG)(t:TE):Prop:=
 ∀(ca:V3)(s:JB)(σ:St)(H:Hp)(Q:VK),Inv X ca σ H s->xp<=s.toks->t σ H Q->ZJ (ZK X.prog X.w) X.A (eval e X.env) (EP X ca σ Q) X.xe s
def wZ{t:Sem α}{Q:α->JB->Prop}(hk:xp<=s.toks)(h:ZJ M A t Q E s):ZJ M A t (λa s'=>Q a s'/\xp<=s'.toks) E s:=
 λΓ p hΓ=>N0 M Γ t (λ_ _ _ z=>z) (λ_ _ _ z=>z.1) p s (ua hk (h Γ p hΓ))
section
variable {X:Cx}{e:ZG}{te:TE}{lo hi:Option ZG}{tl th:TO}{pos p2:Pos}
def vO{r:V->Option Int->Option Int->Hp->VK->Prop}(hr:SlR X r)(he:PE1 X e te)(hl:PO X lo tl)(hu:PO X hi th):PE1 X (.Subscript e (.Slice lo hi ZB p2) pos) (tSl r te tl th):=by
 intro ca s σ H Q I hk h;refine Rv (bN (he ca s σ H _ I hk h) λv s1 hh_=>?_)
 obtain⟨x,H1,I1,r1,q1⟩:=hh_;refine wpAny_Slice (bN (hl ca s1 σ H1 _ I1 q1) λvl s2 ⟨l,H2,I2,pl,q2⟩=>bN (hu ca s2 σ H2 _ I2 q2) λvu s3 hh_=>?_)
 obtain⟨u,H3,I3,pu,q3⟩:=hh_;rw[Q7];refine JK ?_
 have I4:Inv X ca σ H3 {s3 with heap:=s3.heap.push {cls:=.type "slice",data:=.fields #[vl,vu,.none]}}:=I3.kept (t':=s3.toks) λb ob q=>JA _ q
 obtain⟨T,id,hT,ht,hg⟩:=hr ca {s3 with heap:=s3.heap.push {cls:=.type "slice",data:=.fields #[vl,vu,.none]}} σ H3 x v vl vu l u s3.heap.objs.size Q I4 r1 (Qv ..) pl pu q3
 show ZJ (ZK X.prog X.w) X.A (O5 e (.Slice lo hi ZB p2) v (.ref s3.heap.objs.size)) (EP X ca σ Q) X.xe {s3 with heap:=s3.heap.push {cls:=.type "slice",data:=.fields #[vl,vu,.none]}}
 exact tail_any (ops:=[.ref s3.heap.objs.size,v]) ht hT hg (by with_unfolding_all rfl)
end
end L2
namespace Tr
open PySem PySem.Spec PyProof.Rows L2
abbrev wJ(X:Cx)(e:ZG)(f:V6):Prop:=PE1 X e (tP X f)
variable{X:Cx}{fa fb:V6}
section
variable {a b c:ZG}{fc:V6}{pos:Pos}
def xS{lo hi:Option ZG}{p2:Pos}{fl fu:En->Rs (Option Int)}(ha:wJ X a fa)(hl:Fw X lo fl)(hu:Fw X hi fu):wJ X (.Subscript a (.Slice lo hi ZB p2) pos) (sl fa fl fu):=by
 intro ca s σ H Q I hk ⟨ρ,O,E,hq⟩;refine vO (sl_tup.or (sl_tup_whole.or um)) ha hl hu ca s σ H Q I hk ?_
 obtain⟨ρ1,O1,E1,h1⟩:=aO E hq;refine⟨ρ1,O1,E1,Post.mono h1 λts H1 s1 q vs r=>?_⟩
 obtain⟨t',r',s',E',q'⟩:=q vs r;obtain⟨ρ2,O2,E2,h2⟩:=jN E' q';refine⟨ρ2,O2,E2,Post.mono h2 λo1 H2 s2 q=>?_⟩
 obtain⟨s2',E2',q2⟩:=q;obtain⟨ρ3,O3,E3,h3⟩:=jN E2' q2;refine⟨ρ3,O3,E3,Post.mono h3 λo2 H3 s3 q=>?_⟩
 obtain⟨s3',E3',q3⟩:=q
 have rt:=(r'.same s2').same s3';unfold slT at q3
 split at q3
 ·rename_i l
  obtain⟨p,ws,e,n,q,rr⟩:=Rep.FB.mp rt
  have hlen:=rr.length
  by_cases hw:HT.sIx ws.length 0 o1=0/\HT.sIx ws.length ws.length o2=ws.length
  ·refine .inr (.inl ⟨p,ws,e,SqT.of q,hw,?_⟩)
   rw[<-hlen]at hw;refine q3 H3 (Same.refl H3) _ ?_
   rw[om hw];exact Rep.FB.mpr ⟨p,ws,rfl,n,q,rr⟩
  ·exact .inl ⟨p,ws,e,SqT.of q,hw,λp' hp=>q3 _ (aV hp _) _ (dS hp (E3'.fresh hp) (rr.cut o1 o2))⟩
 ·rename_i l
  obtain⟨p,ws,e,n,q,rr⟩:=Rep.Fk.mp rt;exact .inr (.inr ⟨p,ws,e,SqL.of q,λp' hp=>q3 _ (aV hp _) _ (gj hp (E3'.fresh hp) (rr.cut o1 o2))⟩)
 ·exact q3.elim
end
section
variable {a b:ZG}{fs:V4}{pos p apos cpos:Pos}
def DN{nm:Str}{id:String}{g:List T->Rs T}(hsl:Slot "str" nm id)(hty:typeOf (.builtin id)=pure (.type "method_descriptor"))(hc:CallT X (.builtin id) g)(ha:wJ X a fa)(hb:cy X b fb)(hn:bx b=ZC)
  (hbase:Kx a nm X.env (eval a X.env)=eval a X.env) (hline:(apos.endLine == cpos.line)=ZC):wJ X (.Call (.Attribute a nm apos) [b] [] cpos) (oS g fa (ae fb ai)):=by
 have hs:JZ [b] X.env=(ZD,eval b X.env)::JZ [] X.env:=a7 hn;intro ca s σ H Q I hk ⟨ρ,O,E,hq⟩;refine LM hbase (by rw[hs];rfl) hline rfl (bN (ha ca s σ H _ I hk (aO E hq)) λv s1 hh_=>?_)
 obtain⟨x,H1,I1,r1,t,rt,s',E',q1⟩:=hh_
 cases t with
 |str y=>
  rw[Rep.FS.mp rt]at r1;obtain⟨tk,rfl⟩:=r1;refine⟨_,_,Nq,hsl,hty,(show typeOf _=_ from rfl),(λa z=>nomatch z),?_⟩
  rw[hs]
  have q1':Post X H1 (fb ρ >>= λu=>g [.str y,u]) λt H'=>∀v,Rep X.K O H' t v->Q v H':=by
   have:(ae fb ai ρ >>= λts=>g (.str y::ts))=(fb ρ >>= λu=>g [.str y,u]):=by
    unfold ae;cases fb ρ <;> rfl
   rw[<-this];exact q1
  refine Lp rfl (Ln (K7 (bN (hb ca s1 σ H1 _ I1 (aO (f:=fb) E' q1')) λu s2 ⟨w,H2,I2,r2,t2,rt2,s'',E'',q2⟩=>Li ?_)))
  exact hc ca s2 σ H2 O [.str y,t2] [.str y,w] [.str y tk,u] Q I2 (λp=>E''.fresh) (Reps.GE (Rep.IG _) (Reps.GE rt2 Reps.GT)) (.cons ⟨tk,rfl⟩ (.cons r2 .nil)) q2
 |_=>exact q1.elim
def jR(y z:Str):T->Rs T
 |.str x=>if x.length<=1048576 then .ok (.str (Txt.replace x y z))else .bad
 |_=>.bad
def DO{y z:Str}{p1 p2:Pos}(ht:xp=1)(ha:cy X a fa)(hyz:(y == z)=ZD)(hz:z.length<=14)(hbase:Kx a "replace" X.env (eval a X.env)=eval a X.env)(hline:(apos.endLine == cpos.line)=ZC):
  wJ X (.Call (.Attribute a "replace" apos) [.Constant (.str y) j1 p1,.Constant (.str z) j2 p2] [] cpos) (o1 (jR y z) fa):=by
 intro ca s σ H Q I hk ⟨ρ,O,E,hq⟩;refine LM hbase (by rfl) hline rfl (bN (wZ hk (ha ca s σ H _ I (aO E hq))) λv s1 ⟨⟨x,H1,I1,r1,t,rt,s',E',q1⟩,hk1⟩=>?_)
 cases t with
 |str x0=>
  rw[Rep.FS.mp rt]at r1;obtain⟨tk,rfl⟩:=r1
  have q1':Post X H1 (jR y z (.str x0)) λt H'=>∀v,Rep X.K O H' t v->Q v H':=q1
  unfold jR at q1'
  dsimp only at q1'
  split at q1'
  ·rename_i hl
   refine⟨_,_,Nq,F.slot_str_replace,F.type_str_replace,(show typeOf _=_ from rfl),(λa z=>nomatch z),?_⟩
   refine Lp rfl (Ln (K7 (Re (k:=j1) (pos:=p1) (K7 (Re (k:=j2) (pos:=p2) (Li ?_))))))
   have h1:1<=s1.toks:=ht▸hk1;exact SC.replaceW (by show s1.toks≠0;omega) (by show s1.toks+1≠0;omega) (by show s1.toks≠s1.toks+1;omega) hyz hl hz λt' k=>⟨.str _,H1,I1.tok _,⟨_,rfl⟩,q1' H1 (Same.refl H1) _ (Rep.IG _)⟩
  ·exact q1'.elim
 |_=>exact q1.elim
structure V1 (X:Cx)(e:ZG)(f:V6):Prop where
 h:wJ X e f
def u_1(h:V1 X a fa):UE X a fa:=⟨λca s σ H Q I t k Γ p hΓ _=>h.h ca s σ H Q I k t Γ p hΓ⟩
def FX{y z:Str}{p1 p2:Pos}(ha:QE X a fa)(hyz:autoParam ((y == z)=ZD) s_)(hz:autoParam (z.length<=14) s_)(hbase:autoParam (Kx a "replace" X.env (eval a X.env)=eval a X.env) u_)(hline:autoParam ((apos.endLine == cpos.line)=ZC) u_):
  V1 X (.Call (.Attribute a "replace" apos) [.Constant (.str y) j1 p1,.Constant (.str z) j2 p2] [] cpos) (o1 (jR y z) fa):=⟨DO rfl ha.h hyz hz hbase hline⟩
def Aq(ha:V1 X a fa)(hb:QE X b fb)(hn:autoParam (bx b=ZC) u_)(hbase:autoParam (Kx a "split" X.env (eval a X.env)=eval a X.env) u_)(hline:autoParam ((apos.endLine == cpos.line)=ZC) u_):
  V1 X (.Call (.Attribute a "split" apos) [b] [] cpos) (oS de fa (ae fb ai)):=⟨DN MU RU r6 ha.h hb.h hn hbase hline⟩
def As{lo hi:Option ZG}{p2:Pos}{fl fu:En->Rs (Option Int)}(ha:V1 X a fa)(hl:QO X lo fl)(hu:QO X hi fu):V1 X (.Subscript a (.Slice lo hi ZB p2) pos) (sl fa fl fu):=⟨xS ha.h hl.h hu.h⟩
end
end Tr
namespace L2
open PySem PySem.Spec PyProof.Rows
variable{Q:Flow->JB->Prop}
section
variable {env:Env}
def vC{c:Code}(hc:cC M (A.mark h) c (λr s'=>match r with|.ok f=>Q f s'|.error e=>cameBackBy M A env E e s') s)(hnb:autoParam (h≠ZA byPass) b_):
  wC M A (runOwn c env h) Q E s:=by
 unfold runOwn;exact gw (w4 (i5 hc λr s' hr=>by cases r with|ok f=>exact hr|error e=>exact .of hr) hnb)
def CZ{target iter body orelse pos}
  (h:ZJ M A (eval iter env) (λx s₁=>ZJ M A (pyIter x) (λit s₂=>cC M A (.forLoop target it body orelse env) (λr s'=>match r with|.ok f=>Q f s'|.error e=>cameBackBy M A env E e s') s₂) E s₁) E s)
  (hs:autoParam (∀x,J8 iter env x=pure x) t_):wC M A (exec (.For target iter body orelse pos) env) Q E s:=by
 rw[exec_For];refine fw (aB (Kw h (λx s₁ h₁=>aB (NB (hs x) (fw ?_))) λ_ _ z=>z))
 exact aB (KM (Kw h₁ (λit s₂ h₂=>vC h₂) λ_ _ z=>z))
def zF{c:Code}(hq:c.quiet=ZC)(I:Nat->JB->Prop)
  (turn:∀n s,I n s->wC M (A.under c) (M.den c) (λfin s'=>match fin with
    |.done f=>R (.ok f) s'
    |.again c'=>(c'=c/\∃m,m<n/\I m s')\/(c'.quiet=ZC/\cC M A c' R s')) (λe s'=>R (.error e) s') s) (n:Nat) (h:I n s):cC M A c R s:=by
 induction n using Sk generalizing s with
 |ind n ih=>
  refine dk (cF (turn n s h) (λfin s' hf=>?_) λ_ _ h'=>h')
  cases fin with
  |done f=>exact hf
  |again c'=>
   rcases hf with⟨rfl,m,hm,hI⟩|hf
   ·exact⟨hq,ih m hm hI⟩
   ·exact hf
end
def tK{target it body orelse env}(I:Nat->JB->Prop)
  (turn:∀n s,I n s->ZJ (ZK prog w) A (pyNext it) (λr s₁=>match r with
   |none=>ZJ (ZK prog w) A (execs orelse env) (λf s₃=>R (.ok f) s₃) (notedBy (ZK prog w) A env λe s'=>R (.error e) s') s₁
   |some v=>ZJ (ZK prog w) A (Ma target it v) (λ_ s₁'=>
     ZJ (ZK prog w) A (assign target env v) (λ_ s₂=>wC (ZK prog w) A (execs body env) (λf s₃=>match f with
      |.next|.cont=>∃m,m<n/\I m s₃
      |.brk=>R (.ok .next) s₃
      |.ret v=>R (.ok (.ret v)) s₃) (notedBy (ZK prog w) A env λe s'=>R (.error e) s') s₂) (notedBy (ZK prog w) A env λe s'=>R (.error e) s') s₁') (notedBy (ZK prog w) A env λe s'=>R (.error e) s') s₁) (notedBy (ZK prog w) A env λe s'=>R (.error e) s') s)
  (n:Nat) (h:I n s):cC (ZK prog w) A (.forLoop target it body orelse env) R s:=by
 refine zF rfl I (λn s hI=>?_) n h
 show wC _ A ((forTurn target it body orelse env).onRaise (λx=>do MD x env;N3 x)) _ _ s
 refine qD ?_
 simp only[forTurn];refine fw (a6 (.of (MM (Kw (turn n s hI) (λr s₁ h₁=>?_) λ_ _ h'=>NQ h'))))
 cases r with
 |none=>exact .of (JK (.inr ⟨rfl,cC.of (codeAny_block h₁)⟩))
 |some v=>
  refine aB (Kw h₁ (λ_ s₁' h₁'=>?_) λ_ _ h'=>h')
  refine aB (Kw h₁' (λ_ s₂ h₂=>a6 (cF h₂ (λf s₃ h₃=>?_) λ_ _ h'=>h')) λ_ _ h'=>h')
  cases f with
  |next=>exact bc (.inl ⟨rfl,h₃⟩)
  |cont=>exact bc (.inl ⟨rfl,h₃⟩)
  |brk=>exact bc h₃
  |ret v=>exact bc h₃
end L2
namespace Tr
open PySem PySem.Spec PyProof.Rows L2
def Bo{t:Sem α}{Q:α->JB->Prop}(h:wC (ZK P w) A t Q (λ_ _=>False) s):wC (ZK P w) A t Q E s:=cF h (λ_ _ q=>q) λ_ _ z=>z.elim
variable{X:Cx}{body:List ZF}{e iter tg:ZG}{es:List ZG}{fi:V4}{g:T->En->Rs En}{p:Pos}{x:Str}
section
variable {a b c:ZG}{fa fb fc:V6}{fs:V4}{pos p2:Pos}
def BW{wi:TI}{g:TG}{tb:TS}{pos:Pos}(hc:X.calm=ZC)(hi:PI X tg iter wi)(hg:PG X.nox tg g)(hb:DSs X.nox body tb)
  (hs:autoParam (∀x,J8 iter X.env x=pure x) t_):DS X (.For tg iter body [] pos) (Ge wi g tb):=by
 intro ca s σ H D I h;refine CZ (bN (hi ca s σ H _ I h) λv s1 h1=>bN h1 λitv s2 h2=>?_) hs
 obtain⟨it,fp,tn,J,H2,e,I2,T,st2,f2,W,⟨m0,w0⟩,turn⟩:=h2;subst e
 have stat:∀{H':Hp},(∀b∈fp,H' b=ZB)->∀b∈fp,gZ X ca H' b:=λhn b hb=>⟨hn b hb,(f2 b hb).2⟩
 refine tK (λn s'=>∃i σ' H',Inv X ca σ' H' s'/\tn i s'.heap/\(∀b∈fp,H' b=ZB)/\W i n σ' H') ?_ m0 ⟨0,σ,H2,I2,st2,λb hb=>(f2 b hb).1,w0⟩
 rintro n s3 ⟨i,σ3,H3,I3,st3,fr3,w3⟩
 rcases turn i n σ3 H3 w3 with⟨stop,qn⟩|⟨go,N,hN,step⟩
 ·refine fW (bN (T.done X.nox rfl rfl rfl hc i ca s3 σ3 H3 _ (I3.FM _) (stat fr3) st3 stop) λr s4 ⟨hr,I4⟩=>?_)
  subst hr;exact L9 ⟨σ3,H3,I4.FM _,qn⟩
 ·refine fW (bN (T.item X.nox rfl rfl rfl hc i ca s3 σ3 H3 _ (I3.FM _) (stat fr3) st3 go) λr s4 ⟨u,hr,h4⟩=>?_)
  subst hr;refine fW (bN h4 λ_ s5 hh_=>?_)
  obtain⟨x,H5,I5,r5,y5,st5,fr5⟩:=hh_
  have I5':=Inv.pinned (X:=X.nox) I5 (stat fr5) (T.obj _ _ st5);refine fW (bN (hg _ s5 σ3 H5 x u _ I5' r5 (step x H5 y5)) λ_ s6 hh_=>?_)
  obtain⟨σ6,H6,I6,q6⟩:=hh_;refine Bo (i6 (hb _ s6 σ6 H6 _ I6 q6) λf s7 q7=>?_)
  have again:∀{σ7:L2.St}{H7:Hp},Inv X.nox (ca++jx fp s5.heap) σ7 H7 s7->N σ7 H7->∃m,m<n/\∃i σ' H',Inv X ca σ' H' s7/\tn i s7.heap/\(∀b∈fp,H' b=ZB)/\W i m σ' H':=λ{σ7 H7} I7 n7=>by
   obtain⟨m',hm,w7⟩:=hN σ7 H7 n7;refine⟨m',hm,i+1,σ7,H7,(Inv.GM (X:=X.nox) I7).FM _,T.keep _ _ _ st5 λb hb o e=>(I7.pin (b,o) (JV _ (JV _ (df hb e)))).1,λb hb=>?_,w7⟩
   obtain⟨o,e,d⟩:=T.obj _ _ st5 b hb;exact(I7.pin (b,o) (JV _ (JV _ (df hb e)))).2.1
  cases f with
  |next=>obtain⟨σ7,H7,I7,n7⟩:=q7;exact again I7 n7
  |cont=>obtain⟨σ7,H7,I7,n7⟩:=q7;exact again I7 n7
  |brk=>obtain⟨σ7,H7,I7,q7⟩:=q7;exact⟨σ7,H7,(Inv.GM (X:=X.nox) I7).FM _,q7⟩
  |ret v=>obtain⟨x7,σ7,H7,I7,r7,q7⟩:=q7;exact⟨x7,σ7,H7,(Inv.GM (X:=X.nox) I7).FM _,r7,q7⟩
def HJ{F:V5}(hc:X.calm=ZC)(hi:wR X tg iter fi)(hg:zR X.nox tg g)(hb:nC X.nox body F)
  (hs:autoParam (∀x,J8 iter X.env x=pure x) t_):CQ X (.For tg iter body [] pos) (gz fi g F):=DS.imp (BW hc hi hg hb hs) λD σ H hh_=>by
 obtain⟨ρ,B,M,E,h⟩:=hh_;refine⟨ρ,OO B M,E.o,?_⟩
 unfold gz at h
 cases q:fi ρ with
 |bad=>rw[q]at h;exact h.elim
 |err c=>rw[q]at h;exact PostF.xa h
 |ok ts=>
  rw[q,aA]at h
  cases qq:bw g F ts ρ with
  |bad=>rw[qq]at h;exact h.elim
  |err c=>rw[qq]at h;exact h.elim
  |ok fin=>
  rw[qq]at h;intro H1 s1 J hJ
  have E1:Ev X.K B M H1 ρ σ:=E.same s1
  have h1:PostF X B M.u H1 (.ok fin) D:=PostF.later h (SameO.of s1) λa z=>.inl z
  refine⟨λi m σ' H'=>m=ts.length - i/\i<=ts.length/\SameO M.u H1 H'/\∃ρ' M',Ev X.K B M' H' ρ' σ'/\(∀a,M'.u a->M.u a\/Nw X.K H1 a)/\bw g F (ts.drop i) ρ'=.ok fin,
   ⟨ts.length,by omega,KI _,λ_ _ e _=>e,ρ,M,E1,λa z=>.inl z,by simpa using qq⟩,?_⟩
  rintro i m σ' H' ⟨rfl,hi',sm,ρ',M',E',ow,hl⟩
  have it:=hJ M.u (OO B M') (λa z=>.inl (.inr z)) (λa z=>z.elim (λw=>.inl (.inl w)) λw=>(ow a w).elim (λy=>.inl (.inr y)) .inr) i H' sm (λa z=>(E'.env.trk a z).some)
  by_cases hlt:i<ts.length
  ·have hti:ts[i]?=ZA ts[i]:=by simp
   obtain⟨go,yl⟩:=it.2 ts[i] hti;rw[Ld hlt]at hl;unfold bw at hl;refine .inr ⟨go,λσ2 H2=>∃m',m'<ts.length - i/\(m'=ts.length - (i+1)/\i+1<=ts.length/\SameO M.u H1 H2/\∃ρ2 M2,Ev X.K B M2 H2 ρ2 σ2/\(∀a,M2.u a->M.u a\/Nw X.K H1 a)/\bw g F (ts.drop (i+1)) ρ2=.ok fin),λσ2 H2 z=>z,λx Hc y=>?_⟩
   obtain⟨sc,rx⟩:=yl x Hc y;refine⟨ρ',OO B M',M',ts[i],E'.env.same sc,rx,?_⟩
   cases e1:g ts[i] ρ' with
   |bad=>rw[e1]at hl;cases hl
   |err cc=>rw[e1]at hl;cases hl
   |ok ρ1=>
    rw[e1,aA]at hl;intro σ1 Eg
    have E2:Ev X.K B M' Hc ρ1 σ1:=⟨Eg,E'.mine⟩;refine⟨ρ1,B,M',E2,?_⟩
    have smc:SameO M.u H1 Hc:=λb o e n=>sc _ _ (sm b o e n)
    have onward:∀{σ3:L2.St}{H3:Hp}{ρ3:En}{M3:Mn},SameO M'.u Hc H3->Ev X.K B M3 H3 ρ3 σ3->(∀a,M3.u a->M'.u a\/Nw X.K Hc a)->bw g F (ts.drop (i+1)) ρ3=.ok fin →
      ∃m',m'<ts.length - i/\(m'=ts.length - (i+1)/\i+1<=ts.length/\SameO M.u H1 H3/\∃ρ2 M2,Ev X.K B M2 H3 ρ2 σ3/\(∀a,M2.u a->M.u a\/Nw X.K H1 a)/\bw g F (ts.drop (i+1)) ρ2=.ok fin):=
     λ{σ3 H3 ρ3 M3} s3 E3 o3 p3=>⟨_,by omega,rfl,hlt,smc.trans s3 ow,ρ3,M3,E3,λa z=>(o3 a z).elim (ow a) (eZ smc),p3⟩
    cases e2:F ρ1 with
    |bad=>rw[e2]at hl;cases hl
    |err cc=>rw[e2]at hl;cases hl
    |ok f=>
     rw[e2,aA]at hl
     cases f with
     |nx ρ2=>exact λσ3 H3 M3 s3 E3 o3=>onward s3 E3 o3 hl
     |ct ρ2=>exact λσ3 H3 M3 s3 E3 o3=>onward s3 E3 o3 hl
     |bk ρ2=>
      cases hl
      exact λσ3 H3 M3 s3 E3 o3=>h1 σ3 H3 M3 (smc.trans s3 ow) E3 λa z=>(o3 a z).elim (ow a) (eZ smc)
     |rt t=>
      cases hl;exact λv H3 s3 r=>h1 v H3 (smc.trans s3 ow) r
  ·refine .inl ⟨it.1 (by omega),?_⟩
   have hi2:i=ts.length:=by omega
   subst hi2;rw[O8]at hl;cases hl;exact h1 σ' H' M' sm E' ow
def F1{pos:Pos}{F:V5}(hc:X.calm=ZC)(hi:QI X tg iter fi)(hg:QG X.nox tg g)(hb:z9 X.nox body F)(hs:autoParam (∀x,J8 iter X.env x=pure x) t_):US X (.For tg iter body [] pos) (gz fi g F):=⟨HJ hc hi.h hg.h hb.h hs⟩
end
variable{ce:Str}{g:List T->Rs T}
def Df{F:V5}{CE:ZE}{np hpos p5 p6 pos:Pos}(hst:X.stack=X.env::X.outer)(hfe:X.env.frame=ZA X.env.locals)(hcl:∀x c,X.env.cells.lookup x≠ZA c)(hex:X.ex=[])
  (hm:X.mg ce=ZA (.ref CE)) (OE:OX X.K CE bmE) (hb:∀pn xe,nC {X with pn:=pn,xe:=xe} body F) (hg:Gl X ce) (hd:(ce == ("__debug__" : Str))=ZD):
  CQ X (.Try body [.ExceptHandler (ZA (.Name ce np)) ZB [.Return (ZA (.Constant .none j p5)) p6] hpos] [] [] pos) (qX F (tE ce .non)):=by
 intro ca s σ H D I ⟨ρ,B,M,E,hq⟩;refine w9 ?_
 unfold qX at hq
 cases q:F ρ with
 |bad=>rw[q]at hq;exact hq.elim
 |ok fl=>
  rw[q]at hq;refine cF (hb X.pn (λ_ _=>False) ca s σ H D (I.FM _) ⟨ρ,B,M,E,by rw[q];cases fl <;> exact hq⟩) (λf s1 r=>?_) (λe s1 z=>z.elim)
  cases f with
  |next=>obtain⟨σ7,H7,I7,q7⟩:=r;exact⟨σ7,H7,I7.FM _,q7⟩
  |ret u=>obtain⟨x7,σ7,H7,I7,r7,q7⟩:=r;exact⟨x7,σ7,H7,I7.FM _,r7,q7⟩
  |brk=>obtain⟨σ7,H7,I7,q7⟩:=r;exact⟨σ7,H7,I7.FM _,q7⟩
  |cont=>obtain⟨σ7,H7,I7,q7⟩:=r;exact⟨σ7,H7,I7.FM _,q7⟩
 |err c=>
  rw[q]at hq
  have hc:c=ce:=by
   by_cases z:c=ce
   ·exact z
   ·have:tE ce .non c=.bad:=by unfold tE;rw[if_neg z]
    simp only[this]at hq;exact hq.elim
  subst hc
  have q2:tE c .non c=.ok .non:=by unfold tE;rw[if_pos rfl]
  simp only[q2]at hq
  have hq':∀v H',SameO M.u H H'->Rep X.K B H' .non v->D.rt v H':=hq;refine cF (hb (X.pn++ca) _ [] s σ H {nx:=λ_ _=>False,rt:=λ_ _=>False,bk:=λ_ _=>False,ct:=λ_ _=>False} ((Tr.Inv.Jo ca I).FM _) ⟨ρ,B,M,E,?_⟩) (λfl s' z=>?_) λ_ _ z=>z
  rotate_left
  ·cases fl with
   |next=>obtain⟨_,_,_,z⟩:=z;exact z.elim
   |cont=>obtain⟨_,_,_,z⟩:=z;exact z.elim
   |brk=>obtain⟨_,_,_,z⟩:=z;exact z.elim
   |ret v=>obtain⟨_,_,_,_,_,z⟩:=z;exact z.elim
  rw[q];intro pins1 ev s1 w;obtain⟨e,T,C,σ1,H1,rfl,hmc,I1,sm,he,heo,fl,hT,hpp⟩:=w
  have I1:Inv X ca σ1 H1 s1:=Tr.Inv.Ji (X:=X) I1
  have hpp:∀p∈X.pn++ca,p.1≠e/\T≠ZA p.1:=λp hp=>hpp p (K4 _ hp)
  have heo:=heo hex
  have hT:∀t,T=ZA t->H1 t=ZB/\X.s₀.heap.get? t=ZB:=λt z=>⟨(hT t z).1,(hT t z).2 hex⟩
  show ZJ _ _ _ _ _ _
  have hfr:X.A.frames=ZA (X.env::X.outer):=by rw[<-hst];exact I1.ok.frames
  have hstk:s1.heap.FunFrames X.base (X.env::X.outer):=by rw[<-hst];exact I1.stack
  obtain rfl:C=CE:=by
   have z:X.mg c=ZA (.ref C):=hmc;rw[hm]at z;cases z;rfl
  refine G9 hfr hstk hfe fl λh' T' g=>?_
  refine EY hst hfe hcl hex I1 g he heo hT hpp λoe ev oT ts hoe hoc hod h1 hoT hdT h3 I3 hnf I5=>?_
  refine Qt (PQ (iQ (X:=z8 X e oe) I3 hg hm ?_ hd)) (by intro z;cases z)
  refine yz OE OE I3.kIn hoe hoc (by simp) (Pl ?_)
  refine P7 hoe hod h1 hoT hdT h3 ?_
  refine NM (ON (QY ?_))
  exact⟨.non,σ1,H1,uQ I.ok I5,rfl,hq' _ H1 sm Rep.IR⟩
def C1{F:V5}{CE:ZE}{np hpos p5 p6 pos:Pos}(hm:X.mg ce=ZA (.ref CE))(OE:OX X.K CE bmE)(hb:∀pn xe,z9 {X with pn:=pn,xe:=xe} body F)
  (hst:autoParam (X.stack=X.env::X.outer) u_) (hfe:autoParam (X.env.frame=ZA X.env.locals) u_) (hcl:∀x c,X.env.cells.lookup x≠ZA c) (hex:autoParam (X.ex=[]) u_) (hg:autoParam (Gl X ce) u_) (hd:autoParam ((ce == ("__debug__" : Str))=ZD) s_):
  US X (.Try body [.ExceptHandler (ZA (.Name ce np)) ZB [.Return (ZA (.Constant .none j p5)) p6] hpos] [] [] pos) (qX F (tE ce .non)):=⟨Df hst hfe hcl hex hm OE (λpn xe=>(hb pn xe).h) hg hd⟩
def d_cT{fs:V4}{pos:Pos}(hc:CallT X (.type Ty) g)(hm:X.mg x=ZB)(hv:Ke x=ZA (.type Ty))(ha:HX X (e::es) fs)(hn:aW (e::es)=ZC)(hg:Gl X x)(h1:x≠ "__name__")(h2:(x == ("__debug__" : Str))=ZD):
  zW X (.Call (.Name x p) (e::es) [] pos) (cl g fs):=by
 intro ca s σ H Q I ⟨ρ,O,E,hq⟩;refine oQ (eg I hg hm hv ?_ h1 h2)
 have hs:=ha pos ca s σ H _ I (dR E hq)
 have he:JZ (e::es) X.env=(ZD,eval e X.env)::JZ es X.env:=a7 (by unfold aW at hn;exact(Ky.mp hn).1)
 have hpl:=dy (pos:=pos) (env:=X.env) hn;rw[he]at hs hpl ⊢;exact qF hpl (oP (i6 hs λus s1 ⟨vs,H1,I1,r1,ts,rs,s',E',q1⟩=>.of (hc ca s1 σ H1 O ts vs us Q I1 (λp=>E'.fresh) rs r1 q1)))
def u_cT{fs:V4}{pos:Pos}(hc:CallT X (.type Ty) g)(hm:X.mg x=ZB)(hv:Ke x=ZA (.type Ty))(ha:UA X (e::es) fs)(hn:autoParam (aW (e::es)=ZC) u_)(hg:autoParam (Gl X x) u_)(h1:autoParam (x≠ "__name__") s_)(h2:autoParam ((x == ("__debug__" : Str))=ZD) s_):
  UE X (.Call (.Name x p) (e::es) [] pos) (cl g fs):=⟨d_cT hc hm hv ha.h hn hg h1 h2⟩
theorem Cl.c{mg:V0}{base:ZH}{m:List T->Rs T}(h:Cl P w K mg base k x n m):Aa P w K mg base k x n m:=by
 obtain⟨f,fd,ps,h1,h2,h3,h4,F⟩:=h.ex;exact⟨f,fd,ps,h1,h2,h3,h4,⟨F.h.len,λA o s H a us vs Q E r e b v z=>cC.of (F.h.run A o s H a us vs Q E r e b v z)⟩,λA o s H a us vs O ts c R r e b v x y l g z=>cC.of (F.x A o s H a us vs O ts c R r e b v x y l g z)⟩
end Tr
namespace G
open PySem PySem.Spec PyProof.Rows L2 Tr
structure Bl (mg:V0):Prop where
 b_ValueError:mg "ValueError" =ZB
 b_all:mg "all" =ZB
 b_bool:mg "bool" =ZB
 b_dict:mg "dict" =ZB
 b_enumerate:mg "enumerate" =ZB
 b_int:mg "int" =ZB
 b_isinstance:mg "isinstance" =ZB
 b_len:mg "len" =ZB
 b_range:mg "range" =ZB
 b_str:mg "str" =ZB
 b_tuple:mg "tuple" =ZB
 b_zip:mg "zip" =ZB
structure Cs (mg:V0):Prop where
 MOST_CLOCKS:∃t,mg "MOST_CLOCKS" =ZA (.int 4 t)
 MOST_LETTERS:∃t,mg "MOST_LETTERS" =ZA (.int 8 t)
 MOST_READINGS:∃t,mg "MOST_READINGS" =ZA (.int 4 t)
 LAST_READING:∃t,mg "LAST_READING" =ZA (.int 99 t)
 SLOWEST:∃t,mg "SLOWEST" =ZA (.int 9 t)
 LONGEST:∃t,mg "LONGEST" =ZA (.int 999 t)
 FARTHEST:∃t,mg "FARTHEST" =ZA (.int 999999999 t)
def qk:Ke "bool" =ZA (.type "bool"):=by decide+kernel
def k9:Ke "int" =ZA (.type "int"):=by decide+kernel
def fQ:Ke "str" =ZA (.type "str"):=by decide+kernel
def c6:Ke "tuple" =ZA (.type "tuple"):=by decide+kernel
structure Xs (K:Jz)(mg:V0)(ac al am bi bn bv:ZE):Prop where
 m_NoRecord:mg "NoRecord" =ZA (.ref ac)
 m_NoEvent:mg "NoEvent" =ZA (.ref al)
 m_NoNumber:mg "NoNumber" =ZA (.ref am)
 m_NoWorld:mg "NoWorld" =ZA (.ref bi)
 m_NoText:mg "NoText" =ZA (.ref bn)
 m_ClockError:mg "ClockError" =ZA (.ref bv)
 o_NoRecord:OX K ac (.ref bv::r9)
 o_NoEvent:OX K al (.ref bv::r9)
 o_NoNumber:OX K am (.ref bv::r9)
 o_NoWorld:OX K bi (.ref bv::r9)
 o_NoText:OX K bn (.ref bv::r9)
 o_ClockError:OX K bv r9
 d:[ac,al,am,bi,bn,bv].Nodup
def iG:V5:=
 (ay (dP (tb (o2 eqT (vr 0) (ez ai))) (aF (o2 cz (cn (.int 7)) (vr 1))) sN) (aF (o2 aG (o2 aS (vr 0) (o2 j0 (vr 1) (cl cA (ae (vr 0) ai)))) (o2 cz (cn (.int 6553)) (o2 j7 (vr 1) (cl cA (ae (vr 0) ai)))))))
def eJ:List T->Rs T:=val 2 2 iG
def gQ:V5:=
 (ay (cu (o2 j0 (o2 aG (o2 cz (o2 j0 (cl eJ (ae (vr 0) (ae (vr 1) ai))) (cn (.int 2147483563))) (cn (.int 69069))) (o2 cz (cn (.int 104723)) (o2 aG (vr 1) (cn (.int 1))))) (cn (.int 2147483563))) (gN 3)) (ay (cu (o2 j0 (o2 aG (o2 cz (vr 3) (vr 3)) (o2 j7 (vr 3) (cn (.int 3)))) (cn (.int 2147483399))) (gN 3)) (aF (o2 j0 (o2 j7 (o2 j0 (o2 aG (o2 cz (vr 3) (vr 3)) (o2 j7 (vr 3) (cn (.int 7)))) (cn (.int 2147483647))) (cn (.int 11))) (vr 2)))))
def ax:List T->Rs T:=val 3 4 gQ
abbrev evF:V5:=cu (o2 aG (vr 1) (d9 (iR (ae (cl cA (ae (o2 aS (vr 3) (cn (.int 2))) ai)) ai)) [ZB,ZA 2] (gN 0) bT (a8 (ae (vr 1) (ae (vr 0) ai))))) (gN 1)
def jr:V5:=
 (ay (cu (ez ai) (gN 1)) (ay (gz (iE (ae (vr 0) ai)) (gT 2 (mG (gN 2) (mG (gN 3) wo))) evF) (aF (vr 1))))
def cw:List T->Rs T:=val 1 4 jr
def dA:V5:=
 (ay (cu (cl cw (ae (vr 2) ai)) (gN 3)) (ay (dP (tb (o2 FF (cl cA (ae (vr 3) ai)) (cn (.int 2)))) (aF (cn .non)) sN) (ay (cu (cl ax (ae (vr 0) (ae (vr 1) (ae (cl cA (ae (vr 3) ai)) ai)))) (gN 4)) (ay (cu (o2 j0 (o2 aG (o2 aG (vr 4) (cn (.int 1))) (cl ax (ae (vr 0) (ae (o2 aG (vr 1) (cn (.int 1))) (ae (o2 gg (cl cA (ae (vr 3) ai)) (cn (.int 1))) ai))))) (cl cA (ae (vr 3) ai))) (gN 5)) (ay (cu (cl ax (ae (vr 0) (ae (o2 aG (vr 1) (cn (.int 2))) (ae (cn (.int 8)) ai)))) (gN 6)) (ay (cu (FJ (tb (o2 eqT (cl ax (ae (vr 0) (ae (o2 aG (vr 1) (cn (.int 3))) (ae (cn (.int 3)) ai)))) (cn (.int 0)))) (cn .non) (o2 aG (vr 6) (cl ax (ae (vr 0) (ae (o2 aG (vr 1) (cn (.int 4))) (ae (cn (.int 9)) ai)))))) (gN 7)) (aF (a8 (ae (o2 aS (vr 3) (vr 4)) (ae (o2 aS (vr 3) (vr 5)) (ae (vr 6) (ae (vr 7) ai))))))))))))
def cZ:List T->Rs T:=val 3 8 dA
abbrev clF:V5:=cu (o2 aG (vr 3) (a8 (ae (o2 aG (o2 aG (o2 aS (vr 3) (o1 eR (cn (.int 1)))) (cn (.int 1))) (cl ax (ae (vr 0) (ae (o2 aG (o2 aG (vr 1) (cn (.int 3))) (vr 4)) (ae (cn (.int 5)) ai))))) ai))) (gN 3)
def gR:V5:=
 (ay (cu (o2 aG (cn (.int 1)) (cl ax (ae (vr 0) (ae (vr 1) (ae (cn (.int 3)) ai))))) (gN 2)) (ay (cu (a8 (ae (cl ax (ae (vr 0) (ae (o2 aG (vr 1) (cn (.int 2))) (ae (cn (.int 6)) ai)))) ai)) (gN 3)) (ay (gz (iR (ae (cl ax (ae (vr 0) (ae (o2 aG (vr 1) (cn (.int 1))) (ae (cn (.int 3)) ai)))) ai)) (gN 4) clF) (aF (a8 (ae (vr 2) (ae (o2 aG (vr 2) (cl ax (ae (vr 0) (ae (o2 aG (vr 1) (cn (.int 6))) (ae (cn (.int 3)) ai))))) (ae (vr 3) ai))))))))
def cj:List T->Rs T:=val 2 5 gR
abbrev leF:V5:=ay (cu (cl cZ (ae (vr 0) (ae (o2 aG (o2 aG (vr 1) (cn (.int 31))) (o2 cz (cn (.int 6)) (vr 5))) (ae (vr 3) ai)))) (gN 6)) (cu (o2 aG (vr 4) (o2 cz (ez (ae (vr 6) ai)) (cl y1 (ae (o2 gm (vr 6) (cn .non)) ai)))) (gN 4))
def gb:V5:=
 (ay (cu (cl fU (ae (d9 (iR (ae (o2 aG (cn (.int 1)) (cl ax (ae (vr 0) (ae (vr 1) (ae (cn (.int 3)) ai))))) ai)) [ZB,ZA 0,ZA 1] (gN 0) bT (cl cj (ae (vr 1) (ae (o2 aG (o2 aG (vr 2) (cn (.int 1))) (o2 cz (cn (.int 8)) (vr 0))) ai)))) ai)) (gN 3)) (ay (cu (ez ai) (gN 4)) (ay (gz (iR (ae (cl ax (ae (vr 0) (ae (o2 aG (vr 1) (cn (.int 30))) (ae (o2 aG (vr 2) (cn (.int 1))) ai)))) ai)) (gN 5) leF) (aF (a8 (ae (vr 3) (ae (cl fU (ae (vr 4) ai)) ai)))))))
def eE:List T->Rs T:=val 3 7 gb
def oF:V5:=
 (aF (bZ (o1 (z6 "tuple") (vr 0)) (ch Eu Eu (vr 1) (cl cA (ae (vr 0) ai)) (vr 2))))
def aL:List T->Rs T:=val 3 3 oF
def tT:V5:=
 (aF (bZ (o1 (z6 "int") (vr 0)) (o1 Bp (o1 (z6 "bool") (vr 0)))))
def ef:List T->Rs T:=val 1 1 tT
def iC:V5:=
 (aF (bZ (cl ef (ae (vr 0) ai)) (ch Eu Eu (vr 1) (vr 0) (vr 2))))
def aU:List T->Rs T:=val 3 3 iC
def kL:V5:=
 (aF (bZ (cl aU (ae (vr 0) (ae (cn (.int 1)) (ae (cn (.int 9)) ai)))) (cl aU (ae (vr 1) (ae (vr 0) (ae (cn (.int 9)) ai))))))
def fm:List T->Rs T:=val 2 2 kL
def vt:V5:=
 (aF (cl lu (ae (d9 (iR (ae (o2 gg (cl cA (ae (vr 0) ai)) (cn (.int 1))) ai)) [ZB,ZA 0] (gN 0) bT (o2 FF (o2 aS (vr 1) (vr 0)) (o2 aS (vr 1) (o2 aG (vr 0) (cn (.int 1)))))) ai)))
def iP:List T->Rs T:=val 1 1 vt
def d7:V5:=
 (ay (dP (cI (tb (cl aL (ae (vr 0) (ae (cn (.int 1)) (ae (cn (.int 4)) ai)))))) (aF (cn (.bl ZD))) sN) (aF (bZ (cl lu (ae (d9 (iS (vr 0)) [ZB] (gN 0) bT (cl aU (ae (vr 0) (ae (cn (.int 0)) (ae (cn (.int 99)) ai))))) ai)) (cl iP (ae (vr 0) ai)))))
def bK:List T->Rs T:=val 1 1 d7
def gM:V5:=
 (aF (bZ (cl aL (ae (vr 0) (ae (cn (.int 3)) (ae (cn (.int 3)) ai)))) (bZ (cl fm (ae (o2 aS (vr 0) (cn (.int 0))) (ae (o2 aS (vr 0) (cn (.int 1))) ai))) (cl bK (ae (o2 aS (vr 0) (cn (.int 2))) ai)))))
def di:List T->Rs T:=val 1 1 gM
def gO:V5:=
 (aF (bZ (cl aL (ae (vr 0) (ae (cn (.int 1)) (ae (cn (.int 4)) ai)))) (cl lu (ae (d9 (iS (vr 0)) [ZB] (gN 0) bT (cl di (ae (vr 0) ai))) ai))))
def dq:List T->Rs T:=val 1 1 gO
def gK:V5:=
 (ay (dP (lZ (cI (tb (cl aL (ae (vr 1) (ae (cn (.int 2)) (ae (cn (.int 2)) ai)))))) (cI (tb (cl aU (ae (o2 aS (vr 1) (cn (.int 0))) (ae (cn (.int 0)) (ae (o2 gg (cl cA (ae (vr 0) ai)) (cn (.int 1))) ai))))))) (aF (cn (.bl ZD))) sN) (aF (cl aU (ae (o2 aS (vr 1) (cn (.int 1))) (ae (cn (.int 0)) (ae (o2 gg (cl cA (ae (o2 aS (o2 aS (vr 0) (o2 aS (vr 1) (cn (.int 0)))) (cn (.int 2))) ai)) (cn (.int 1))) ai))))))
def cv:List T->Rs T:=val 2 2 gK
def gL:V5:=
 (aF (bZ (cl aU (ae (vr 0) (ae (cn (.int 0)) (ae (cn (.int 999)) ai)))) (z0 (o2 lh (vr 1) (cn .non)) (cl aU (ae (vr 1) (ae (vr 0) (ae (cn (.int 999)) ai)))))))
def dF:List T->Rs T:=val 2 2 gL
def dO:V5:=
 (ay (dP (lZ (cI (tb (cl aL (ae (vr 1) (ae (cn (.int 4)) (ae (cn (.int 4)) ai)))))) (cI (tb (cl dF (ae (o2 aS (vr 1) (cn (.int 2))) (ae (o2 aS (vr 1) (cn (.int 3))) ai)))))) (aF (cn (.bl ZD))) sN) (aF (bZ (cl cv (ae (vr 0) (ae (o2 aS (vr 1) (cn (.int 0))) ai))) (bZ (cl cv (ae (vr 0) (ae (o2 aS (vr 1) (cn (.int 1))) ai))) (o2 neT (o2 aS (vr 1) (cn (.int 0))) (o2 aS (vr 1) (cn (.int 1))))))))
def bS:List T->Rs T:=val 2 2 dO
def f9:V5:=
 (aF (bZ (cl aL (ae (vr 1) (ae (cn (.int 0)) (ae (cn (.int 8)) ai)))) (cl lu (ae (d9 (iS (vr 1)) [ZB,ZA 0] (gN 0) bT (cl bS (ae (vr 1) (ae (vr 0) ai)))) ai))))
def cY:List T->Rs T:=val 2 2 f9
def fR:V5:=
 (aF (bZ (cl aL (ae (vr 0) (ae (cn (.int 2)) (ae (cn (.int 2)) ai)))) (bZ (cl dq (ae (o2 aS (vr 0) (cn (.int 0))) ai)) (cl cY (ae (o2 aS (vr 0) (cn (.int 0))) (ae (o2 aS (vr 0) (cn (.int 1))) ai))))))
def dh:List T->Rs T:=val 1 1 fR
def fZ:V5:=
 (dP (cI (tb (cl dh (ae (vr 0) ai)))) (ph "NoRecord") sN)
def bB:List T->Rs T:=val 1 1 fZ
abbrev peF:V5:=lX 1 (d9 (iR (ae (cl cA (ae (o2 aS (vr 3) (cn (.int 2))) ai)) ai)) [ZB,ZA 2] (gN 0) bT (a8 (ae (vr 1) (ae (vr 0) ai))))
def mZ:V5:=
 (ay (zZ (cl bB (ae (vr 0) ai))) (ay (jg 1 ai) (ay (gz (iE (ae (o2 aS (vr 0) (cn (.int 0))) ai)) (gT 2 (mG (gN 2) (mG (gN 3) wo))) peF) (pj 1 (aF (vr 1))))))
def bJ:List T->Rs T:=val 1 4 mZ
def iD:V5:=
 (ay (cu (oD gY (vr 0) (o2 aS (vr 1) (cn (.int 1)))) (gN 3)) (aF (z0 (o2 lh (vr 3) (cn .non)) (o2 FF (o2 aG (o2 aS (vr 2) (cn (.int 0))) (o2 aS (vr 1) (cn (.int 2)))) (o2 aS (vr 3) (cn (.int 0)))))))
def dj:List T->Rs T:=val 3 4 iD
abbrev zY:V5:=(ay (cu (ln 2 (oD gY (vr 2) (o2 aS (vr 5) (cn (.int 0))))) (gN 6)) (ay (dP (lZ (tb (o2 lh (vr 6) (cn .non))) (cI (Et 2 (tb (cl dj (ae (vr 2) (ae (vr 5) (ae (vr 6) ai)))))))) Cw sN) (ay (cu (o2 aG (o2 aS (vr 6) (cn (.int 1))) (ez (ae (vr 4) ai))) (gN 7)) (ay (cu (d9 (iS (vr 7)) [ZB,ZA 0] (gN 0) bT (o2 aS (o2 aS (vr 1) (vr 0)) (cn (.int 0)))) (gN 8)) (ay (dP (tb (o2 FI (o2 aS (vr 5) (cn (.int 1))) (vr 8))) (aF (a8 (ae (cn .non) (ae (sl (vr 7) (pS (oL fP (vr 8) (o2 aS (vr 5) (cn (.int 1))))) pN) ai)))) sN) (ay (vL 2 (o2 aS (vr 5) (cn (.int 1))) (a8 (ae (o2 aG (o2 aS (vr 6) (cn (.int 0))) (o2 aS (vr 5) (cn (.int 2)))) (ae (vr 7) ai)))) (cu (cn (.bl ZC)) (gN 3))))))))
def iA:V5:=
 (ay (nL 2 (d9 (iS (vr 1)) [ZB] (gN 0) bT (a8 (ae (vr 0) (ae (a8 (ae (cn (.int 0)) (ae (ez ai) ai))) ai))))) (ay (cu (cn (.bl ZC)) (gN 3)) (ay (bH (tb (vr 3)) (ay (cu (cn (.bl ZD)) (gN 3)) (gz (iE (ae (vr 0) ai)) (gT 2 (mG (gN 4) (mG (gN 5) wo))) zY)) FU) (pj 2 (aF (a8 (ae (vr 2) (ae (cn .non) ai))))))))
def iq:List T->Rs T:=val 2 9 iA
def eC:V5:=
 (ay (cu (cl bJ (ae (vr 0) ai)) (gN 2)) (ay (cu (o2 aS (cl iq (ae (vr 1) (ae (vr 2) ai))) (cn (.int 0))) (gN 3)) (ay (dP (tb (o2 lh (vr 3) (cn .non))) (aF (cn .non)) sN) (aF (cl fU (ae (d9 (iS (vr 2)) [ZB,ZA 3] (gN 0) bT (o2 aS (o2 ja (vr 1) (vr 0)) (cn (.int 0)))) ai))))))
def dm:List T->Rs T:=val 2 4 eC
abbrev bcF:V5:=(ay (cu (a8 (ae (vr 0) (ae (vr 4) ai))) (gN 5)) (ay (cu (a8 (ae (vr 0) (ae (o2 aG (vr 4) (cn (.int 1))) ai))) (gN 6)) (ay (cu (o2 gg (o2 aS (vr 2) (o2 aG (vr 4) (cn (.int 1)))) (o2 aS (vr 2) (vr 4))) (gN 7)) (ay (nh 3 (a8 (ae (vr 5) (ae (vr 6) (ae (o2 cz (vr 7) (o2 aS (vr 1) (cn (.int 1)))) ai))))) (nh 3 (a8 (ae (vr 6) (ae (vr 5) (ae (o2 cz (o1 eR (vr 7)) (o2 aS (vr 1) (cn (.int 0)))) ai)))))))))
def d6:V5:=
 (ay (cu (o2 aS (vr 1) (cn (.int 2))) (gN 2)) (ay (jg 3 ai) (ay (gz (iR (ae (o2 gg (cl cA (ae (vr 2) ai)) (cn (.int 1))) ai)) (gN 4) bcF) (pj 3 (aF (vr 3))))))
def cf:List T->Rs T:=val 2 8 d6
def dG:V5:=
 (ay (jg 1 (ae (a8 (ae (o2 aS (vr 0) (cn (.int 1))) (ae (o2 aS (vr 0) (cn (.int 0))) (ae (o1 eR (o2 aS (vr 0) (cn (.int 2)))) ai)))) ai)) (ay (dP (tb (o2 gm (o2 aS (vr 0) (cn (.int 3))) (cn .non))) (nh 1 (a8 (ae (o2 aS (vr 0) (cn (.int 0))) (ae (o2 aS (vr 0) (cn (.int 1))) (ae (o2 aS (vr 0) (cn (.int 3))) ai))))) sN) (pj 1 (aF (vr 1)))))
def bY:List T->Rs T:=val 1 2 dG
abbrev bdF:V5:=lX 1 (cl cf (ae (vr 2) (ae (vr 3) ai)))
def m4:V5:=
 (ay (zZ (cl bB (ae (vr 0) ai))) (ay (jg 1 ai) (ay (gz (iE (ae (o2 aS (vr 0) (cn (.int 0))) ai)) (gT 2 (mG (gN 2) (mG (gN 3) wo))) bdF) (ay (gz (iS (o2 aS (vr 0) (cn (.int 1)))) (gN 4) (lX 1 (cl bY (ae (vr 4) ai)))) (pj 1 (aF (vr 1)))))))
def fz:List T->Rs T:=val 1 5 m4
def Cg:V5:=
 (aF (cl dm (ae (vr 0) (ae (cl fz (ae (vr 0) ai)) ai))))
def dW:List T->Rs T:=val 1 1 Cg
def sg:V5:=
 (aF (o2 gm (cl dW (ae (vr 0) ai)) (cn .non)))
def eI:List T->Rs T:=val 1 1 sg
abbrev dtF:V5:=(ay (cu (o2 aS (ez (ae (cn (.int 1)) (ae (cn (.int 1)) (ae (cn (.int 1)) (ae (cn (.int 24999)) ai))))) (cl ax (ae (vr 0) (ae (o2 aG (o2 aG (vr 1) (vr 5)) (cn (.int 20))) (ae (cn (.int 4)) ai))))) (gN 6)) (cu (o2 aG (vr 4) (a8 (ae (o2 gg (o2 cz (cl ax (ae (vr 0) (ae (o2 aG (vr 1) (vr 5)) (ae (cn (.int 41)) ai)))) (vr 6)) (cn (.int 20))) ai))) (gN 4)))
def gP:V5:=
 (ay (cu (cl cw (ae (o2 aS (vr 2) (cn (.int 0))) ai)) (gN 3)) (ay (cu (a8 ai) (gN 4)) (ay (gz (iR (ae (cl cA (ae (vr 3) ai)) ai)) (gN 5) dtF) (aF (vr 4)))))
def dY:List T->Rs T:=val 3 7 gP
def iF:V5:=
 (ay (cu (cl cA (ae (cl bJ (ae (vr 0) ai)) ai)) (gN 2)) (aF (bZ (cl aL (ae (vr 1) (ae (vr 2) (ae (vr 2) ai)))) (cl lu (ae (d9 (iS (vr 1)) [ZB] (gN 0) bT (cl ef (ae (vr 0) ai))) ai)))))
def cg:List T->Rs T:=val 2 3 iF
def kM:V5:=
 (aF (bZ (cl cg (ae (vr 0) (ae (vr 1) ai))) (cl lu (ae (d9 (iS (vr 1)) [ZB] (gN 0) bT (cl aU (ae (vr 0) (ae (o1 eR (cn (.int 999999999))) (ae (cn (.int 999999999)) ai))))) ai))))
def bh:List T->Rs T:=val 2 2 kM
def gJ:V5:=
 (dP (cI (tb (cl cv (ae (o2 aS (vr 0) (cn (.int 0))) (ae (vr 1) ai))))) (ph "NoEvent") sN)
def ff:List T->Rs T:=val 2 2 gJ
def gI:V5:=
 (ay (zZ (cl bB (ae (vr 0) ai))) (ay (zZ (cl ff (ae (vr 0) (ae (vr 1) ai)))) (aF (o2 aS (o2 aS (o2 aS (o2 aS (vr 0) (cn (.int 0))) (o2 aS (vr 1) (cn (.int 0)))) (cn (.int 2))) (o2 aS (vr 1) (cn (.int 1)))))))
def cS:List T->Rs T:=val 2 2 gI
def iB:V5:=
 (ay (cu (d9 (iS (cl bJ (ae (vr 0) ai))) [ZB,ZA 1] (gN 0) (tb (o2 eqT (o2 aS (vr 0) (cn (.int 0))) (vr 1))) (vr 0)) (gN 3)) (ay (cu (d9 (iS (vr 3)) [ZB,ZA 0,ZA 2] (gN 0) bT (o2 aG (o2 aG (cl lT (ae (cl cS (ae (vr 1) (ae (vr 0) ai))) ai)) (cn (.str " at "))) (cl lT (ae (o2 ja (vr 2) (vr 0)) ai)))) (gN 4)) (aF (o2 aG (o2 aG (o2 aG (cl lT (ae (vr 1) ai)) (cn (.str ": "))) (oS kW (cn (.str ", ")) (ae (vr 4) ai))) (cn (.str "\n"))))))
def dJ:List T->Rs T:=val 3 5 iB
def gH:V5:=
 (ay (dP (cI (tb (cl bh (ae (vr 0) (ae (vr 1) ai))))) (ph "NoNumber") sN) (ay (cu (cl FK (ae (cl bJ (ae (vr 0) ai)) (ae (vr 1) ai))) (gN 2)) (aF (oS kW (cn (.str "")) (ae (d9 (iR (ae (cl cA (ae (o2 aS (vr 0) (cn (.int 0))) ai)) ai)) [ZB,ZA 0,ZA 2] (gN 0) bT (cl dJ (ae (vr 1) (ae (vr 0) (ae (vr 2) ai))))) ai)))))
def aR:List T->Rs T:=val 2 3 gH
def sf:V5:=
 (vM (vr 0))
def bR:List T->Rs T:=val 1 1 sf
abbrev Gq:V5:=ay (dP (lZ (cI (tb (cl bh (ae (vr 0) (ae (vr 3) ai))))) (tb (o2 neT (cl aR (ae (vr 0) (ae (vr 3) ai))) (vr 1)))) (ph "NoText") sN) (aF (vr 3))
def fh:V5:=
 (ay (zZ (cl bB (ae (vr 0) ai))) (ay (dP (cI (tb (o1 (z6 "str") (vr 1)))) (ph "NoText") sN) (ay (cu (sl (oS de (o1 (jR "\n" ", ") (vr 1)) (ae (cn (.str ", ")) ai)) pN (pS (o1 eR (cn (.int 1))))) (gN 2)) (ay (cu (cl fU (ae (d9 (iS (vr 2)) [ZB] (gN 0) bT (cl bR (ae (o2 aS (oS ie (vr 0) (ae (cn (.str " at ")) ai)) (cn (.int 2))) ai))) ai)) (gN 3)) Gq))))
def bf:List T->Rs T:=val 2 4 fh
def Ci:V5:=
 (aF (o2 Eu (o2 gg (o2 ja (vr 1) (o2 aS (vr 0) (cn (.int 1)))) (o2 ja (vr 1) (o2 aS (vr 0) (cn (.int 0))))) (o2 aS (vr 0) (cn (.int 2)))))
def lC:List T->Rs T:=val 2 2 Ci
def m3:V5:=
 (ay (cu (cl FK (ae (cl bJ (ae (vr 0) ai)) (ae (vr 1) ai))) (gN 2)) (aF (d9 (iE (ae (cl fz (ae (vr 0) ai)) ai)) [ZB,ZB,ZA 2] (gT 2 (mG (gN 0) (mG (gN 1) wo))) (cI (tb (cl lC (ae (vr 1) (ae (vr 2) ai))))) (vr 0))))
def dX:List T->Rs T:=val 2 3 m3
def tS:V5:=
 (aF (bZ (cl cg (ae (vr 0) (ae (vr 1) ai))) (o2 eqT (cl dX (ae (vr 0) (ae (vr 1) ai))) (ez ai))))
def dE:List T->Rs T:=val 2 2 tS
def sh:V5:=
 (qX (aF (cl bf (ae (vr 0) (ae (vr 1) ai)))) (tE "NoText" .non))
def bL:List T->Rs T:=val 2 2 sh
def jF:V5:=
 (ay (dP (cI (tb (cl dE (ae (vr 0) (ae (vr 1) ai))))) (ph "NoWorld") sN) (aF (cl fU (ae (d9 (iS (vr 1)) [ZB,ZA 2] (gN 0) bT (o2 aG (vr 0) (vr 1))) ai))))
def fy:List T->Rs T:=val 3 3 jF
def zV:V5:=
 (ay (cu (cl eE (ae (vr 0) (ae (cn (.int 0)) (ae (cn (.int 3)) ai)))) (gN 1)) (ay (cu (cl bJ (ae (vr 1) ai)) (gN 2)) (ay (cu (ez (ae (cl dY (ae (vr 0) (ae (cn (.int 80)) (ae (vr 1) ai)))) (ae (cl dY (ae (vr 0) (ae (cn (.int 130)) (ae (vr 1) ai)))) ai))) (gN 3)) (ay (dP (tb (cl eI (ae (vr 1) ai))) (ay (cu (o2 aG (vr 3) (ez (ae (cl dW (ae (vr 1) ai)) (ae (cl fy (ae (vr 1) (ae (cl dW (ae (vr 1) ai)) (ae (o2 gg (cl ax (ae (vr 0) (ae (cn (.int 70)) (ae (cn (.int 99)) ai)))) (cn (.int 50))) ai)))) ai)))) (gN 3)) (dP (cI (tb (cl dE (ae (vr 1) (ae (cl bf (ae (vr 1) (ae (cl aR (ae (vr 1) (ae (o2 aS (vr 3) (cn (.int 3))) ai))) ai))) ai))))) (aF (cn (.bl ZD))) sN)) sN) (ay (cu (d9 (iS (vr 3)) [ZB,ZA 1] (gN 0) bT (cl aR (ae (vr 1) (ae (vr 0) ai)))) (gN 4)) (ay (gz (iZ (ae (vr 3) (ae (vr 4) ai))) (gT 2 (mG (gN 5) (mG (gN 6) wo))) (ay (cu (cl bf (ae (vr 1) (ae (vr 6) ai))) (gN 7)) (ay (dP (lZ (tb (o2 neT (vr 7) (vr 5))) (cI (tb (cl cg (ae (vr 1) (ae (vr 7) ai)))))) (aF (cn (.bl ZD))) sN) (ay (dP (tb (o2 neT (cl dX (ae (vr 1) (ae (vr 7) ai))) (cl dX (ae (vr 1) (ae (vr 5) ai))))) (aF (cn (.bl ZD))) sN) (ay (dP (tb (o2 neT (cl cA (ae (oS de (vr 6) (ae (cn (.str "\n")) ai)) ai)) (o2 aG (cl cA (ae (o2 aS (vr 1) (cn (.int 0))) ai)) (cn (.int 1))))) (aF (cn (.bl ZD))) sN) (ay (dP (tb (o2 neT (cl cA (ae (oS de (vr 6) (ae (cn (.str " at ")) ai)) ai)) (o2 aG (cl cA (ae (vr 2) ai)) (cn (.int 1))))) (aF (cn (.bl ZD))) sN) (ay (dP (tb (o2 neT (d9 (iS (vr 3)) [ZB,ZA 1,ZA 6,ZA 5] (gN 0) (tb (o2 neT (o2 eqT (cl aR (ae (vr 1) (ae (vr 0) ai))) (vr 2)) (o2 eqT (vr 0) (vr 3)))) (vr 0)) (ez ai))) (aF (cn (.bl ZD))) sN) (ay (cu (o2 aS (o2 aS (vr 1) (cn (.int 0))) (o1 eR (cn (.int 1)))) (gN 8)) (ay (cu (a8 (ae (o2 aG (sl (o2 aS (vr 1) (cn (.int 0))) pN (pS (o1 eR (cn (.int 1))))) (a8 (ae (o2 aG (sl (vr 8) pN (pS (cn (.int 2)))) (a8 (ae (o2 aG (sl (o2 aS (vr 8) (cn (.int 2))) pN (pS (o1 eR (cn (.int 1))))) (a8 (ae (o2 aG (o2 aS (o2 aS (vr 8) (cn (.int 2))) (o1 eR (cn (.int 1)))) (cn (.int 1))) ai))) ai))) ai))) (ae (a8 ai) ai))) (gN 9)) (ay (dP (tb (o2 gm (cl bL (ae (vr 9) (ae (vr 6) ai))) (cn .non))) (aF (cn (.bl ZD))) sN) (ay (cu (a8 (ae (sl (o2 aS (vr 1) (cn (.int 0))) pN (pS (o1 eR (cn (.int 1))))) (ae (a8 ai) ai))) (gN 10)) (ay (dP (qm (tb (o2 neT (o2 aS (vr 10) (cn (.int 0))) (a8 ai))) (tb (o2 gm (cl bL (ae (vr 10) (ae (vr 6) ai))) (cn .non)))) (aF (cn (.bl ZD))) sN) (dP (tb (o2 neT (cl bL (ae (a8 (ae (o2 aS (vr 1) (cn (.int 0))) (ae (a8 ai) ai))) (ae (vr 6) ai))) (vr 5))) (aF (cn (.bl ZD))) sN))))))))))))) (aF (cn (.bl ZC)))))))))
def m_law:List T->Rs T:=val 1 11 zV
variable{bv al am ac bn bi:ZE}{mg:V0}
section
variable (P:J1)(w:Ks)(base:ZH)
abbrev o9:ZF:=top 56
theorem pM(F:fH K mg "_law_cell" o9 ["_law_script","_law_k"])(B:Bl mg):Cl P w K mg base 1 "_law_cell" 2 eJ:=
 aY ["_law_script","_law_k"] F λd f c A o s H E hr x=>(ar (cH (cE (nQ (i9 hr)) (af 0) (fq ag)) (au (az (aw dB aj (af 1)))) bq) (au (az (aw aH (aE (af 0) (aw jy (af 1) (cN cL B.b_len LB (ah (af 0) ag)))) (aw dB aj (aw lz (af 1) (cN cL B.b_len LB (ah (af 0) ag))))))))
abbrev m9:ZF:=top 57
theorem nv(F:fH K mg "_law_drawn" m9 ["_law_script","_law_k","_law_many"])(aau:Cl P w K mg base 1 "_law_cell" 2 eJ):Cl P w K mg base 2 "_law_drawn" 3 ax:=
 aY ["_law_script","_law_k","_law_many","_law_cell_here"] F λd f c A o s H E hr x=>(by(apply ar;exact(aJ (aw jy (aw aH (aw dB (aw jy (aQ aau hr (ah (af 0) (ah (af 1) ag))) aj) aj) (aw dB aj (aw aH (af 1) aj))) aj) (ao 3 d));apply ar;exact(aJ (aw jy (aw aH (aw dB (af 3) (af 3)) (aw lz (af 3) aj)) aj) (ao 3 d));exact au (az (aw jy (aw lz (aw jy (aw aH (aw dB (af 3) (af 3)) (aw lz (af 3) aj)) aj) aj) (af 2)))))
abbrev ia:ZF:=top 60
abbrev ip:List Str:=["_law_clocks","_law_found","_law_number","_law_clock_here"]
theorem l7(F:fH K mg "_law_events" ia ["_law_clocks"])(B:Bl mg):Cl P w K mg base 1 "_law_events" 1 cw:=
 aY ip F λd f c A o s H E hr x=>(by(apply ar;exact(aJ (fq ag) (ao 1 d));apply ar;exact(eY rfl (g8 B.b_enumerate (ah (af 0) ag)) (iH rfl (b9 (ao 2 d) (b9 (ao 3 d) gf))) (au (aJ (aw aH (af 1) (dC ["_law_place","_law_number"] ip ia (cR B.b_range (ah (cN cL B.b_len LB (ah (aE (af 3) aj) ag)) ag)) (λd _ _ _ _ _=>⟨(ao 0 d),bF,(bz (ah (af 1) (ah (af 0) ag)))⟩))) (ao 1 d))));exact au (az (af 1))))
abbrev lV:ZF:=top 59
theorem l6(F:fH K mg "_law_letter" lV ["_law_script","_law_at","_law_clocks"])(aa9:Cl P w K mg base 1 "_law_events" 1 cw)(aa0:Cl P w K mg base 2 "_law_drawn" 3 ax)(B:Bl mg):Cl P w K mg base 3 "_law_letter" 3 cZ:=
 aY ["_law_script","_law_at","_law_clocks","_law_row","_law_place","_law_other","_law_least","_law_most"] F λd f c A o s H E hr x=>(by(apply ar;exact(aJ (aQ aa9 hr (ah (af 2) ag)) (ao 3 d));apply ar;exact(cH (cE ye (cN cL B.b_len LB (ah (af 3) ag)) aj) (au (az dQ)) bq);apply ar;exact(aJ (aQ aa0 hr (ah (af 0) (ah (af 1) (ah (cN cL B.b_len LB (ah (af 3) ag)) ag)))) (ao 4 d));apply ar;exact(aJ (aw jy (aw aH (aw aH (af 4) aj) (aQ aa0 hr (ah (af 0) (ah (aw aH (af 1) aj) (ah (aw gA (cN cL B.b_len LB (ah (af 3) ag)) aj) ag))))) (cN cL B.b_len LB (ah (af 3) ag))) (ao 5 d));apply ar;exact(aJ (aQ aa0 hr (ah (af 0) (ah (aw aH (af 1) aj) (ah aj ag)))) (ao 6 d));apply ar;exact(aJ (FR (cE (nQ (i9 hr)) (aQ aa0 hr (ah (af 0) (ah (aw aH (af 1) aj) (ah aj ag)))) aj) dQ (aw aH (af 6) (aQ aa0 hr (ah (af 0) (ah (aw aH (af 1) aj) (ah aj ag)))))) (ao 7 d));exact au (az (bz (ah (aE (af 3) (af 4)) (ah (aE (af 3) (af 5)) (ah (af 6) (ah (af 7) ag))))))))
abbrev nc:ZF:=top 58
theorem ny(F:fH K mg "_law_clock" nc ["_law_script","_law_at"])(aa0:Cl P w K mg base 2 "_law_drawn" 3 ax)(B:Bl mg):Cl P w K mg base 3 "_law_clock" 2 cj:=
 aY ["_law_script","_law_at","_law_slow","_law_readings","_law_k"] F λd f c A o s H E hr x=>(by(apply ar;exact(aJ (aw aH aj (aQ aa0 hr (ah (af 0) (ah (af 1) (ah aj ag))))) (ao 2 d));apply ar;exact(aJ (bz (ah (aQ aa0 hr (ah (af 0) (ah (aw aH (af 1) aj) (ah aj ag)))) ag)) (ao 3 d));apply ar;exact(eY rfl (cR B.b_range (ah (aQ aa0 hr (ah (af 0) (ah (aw aH (af 1) aj) (ah aj ag)))) ag)) (ao 4 d) (au (aJ (aw aH (af 3) (bz (ah (aw aH (aw aH (aE (af 3) (fS aj)) aj) (aQ aa0 hr (ah (af 0) (ah (aw aH (aw aH (af 1) aj) (af 4)) (ah aj ag))))) ag))) (ao 3 d))));exact au (az (bz (ah (af 2) (ah (aw aH (af 2) (aQ aa0 hr (ah (af 0) (ah (aw aH (af 1) aj) (ah aj ag))))) (ah (af 3) ag)))))))
abbrev hZ:ZF:=top 61
abbrev il:List Str:=["_law_script","_law_at","_law_most","_law_clocks","_law_letters","_law_k","_law_letter_here"]
theorem l5(F:fH K mg "_law_record" hZ ["_law_script","_law_at","_law_most"])(aa0:Cl P w K mg base 2 "_law_drawn" 3 ax)(aan:Cl P w K mg base 3 "_law_letter" 3 cZ)(aaq:Cl P w K mg base 3 "_law_clock" 2 cj)(B:Bl mg):Cl P w K mg base 4 "_law_record" 3 eE:=
 aY il F λd f c A o s H E hr x=>(by(apply ar;exact(aJ (kN iy B.b_tuple c6 (ah (dC ["_law_k","_law_script","_law_at"] il hZ (cR B.b_range (ah (aw aH aj (aQ aa0 hr (ah (af 0) (ah (af 1) (ah aj ag))))) ag)) (λd _ _ _ _ _=>⟨(ao 0 d),bF,(aQ aaq hr (ah (af 1) (ah (aw aH (aw aH (af 2) aj) (aw dB aj (af 0))) ag)))⟩)) ag)) (ao 3 d));apply ar;exact(aJ (fq ag) (ao 4 d));apply ar;exact(eY rfl (cR B.b_range (ah (aQ aa0 hr (ah (af 0) (ah (aw aH (af 1) aj) (ah (aw aH (af 2) aj) ag)))) ag)) (ao 5 d) (ar (aJ (aQ aan hr (ah (af 0) (ah (aw aH (aw aH (af 1) aj) (aw dB aj (af 5))) (ah (af 3) ag)))) (ao 6 d)) (au (aJ (aw aH (af 4) (aw dB (fq (ah (af 6) ag)) (kN Fs B.b_int k9 (ah (ft ij (af 6) dQ) ag)))) (ao 4 d)))));exact au (az (bz (ah (af 3) (ah (kN iy B.b_tuple c6 (ah (af 4) ag)) ag))))))
abbrev sJ:ZF:=top 16
theorem sY(F:fH K mg "is_long" sJ ["thing","least","most"])(B:Bl mg):Cl P w K mg base 1 "is_long" 3 aL:=
 aY ["thing","least","most"] F λd f c A o s H E hr x=>(au (az (da (tW B.b_isinstance B.b_tuple c6 (af 0)) (dw (qz rj rj (af 1) (cN cL B.b_len LB (ah (af 0) ag)) (af 2))))))
abbrev qO:ZF:=top 14
theorem rn(F:fH K mg "is_whole" qO ["thing"])(B:Bl mg):Cl P w K mg base 1 "is_whole" 1 ef:=
 aY ["thing"] F λd f c A o s H E hr x=>(au (az (da (tW B.b_isinstance B.b_int k9 (af 0)) (dw (CW (tW B.b_isinstance B.b_bool qk (af 0)))))))
abbrev oZ:ZF:=top 15
theorem pF(F:fH K mg "is_within" oZ ["thing","least","most"])(aad:Cl P w K mg base 1 "is_whole" 1 ef):Cl P w K mg base 2 "is_within" 3 aU:=
 aY ["thing","least","most"] F λd f c A o s H E hr x=>(au (az (da (aQ aad hr (ah (af 0) ag)) (dw (qz rj rj (af 1) (af 0) (af 2))))))
abbrev sI:ZF:=top 19
theorem sX(F:fH K mg "is_pace" sI ["slow","fast"])(aa2:Cl P w K mg base 2 "is_within" 3 aU)(C:Cs mg):Cl P w K mg base 3 "is_pace" 2 fm:=
 aY ["slow","fast"] F λd f c A o s H E hr x=>(au (az (da (aQ aa2 hr (ah (af 0) (ah aj (ah (m5 C.SLOWEST) ag)))) (dw (aQ aa2 hr (ah (af 1) (ah (af 0) (ah (m5 C.SLOWEST) ag))))))))
abbrev qM:ZF:=top 17
abbrev rC:List Str:=["numbers"]
theorem yi(F:fH K mg "rises" qM ["numbers"])(B:Bl mg):Cl P w K mg base 1 "rises" 1 iP:=
 aY rC F λd f c A o s H E hr x=>(au (az (cN (kH rfl) B.b_all Rf (ah (dC ["k","numbers"] rC qM (cR B.b_range (ah (aw gA (cN cL B.b_len LB (ah (af 0) ag)) aj) ag)) (λd _ _ _ _ _=>⟨(ao 0 d),bF,(ft ye (aE (af 1) (af 0)) (aE (af 1) (aw aH (af 0) aj)))⟩)) ag))))
abbrev gU:ZF:=top 18
abbrev gV:List Str:=["thing"]
theorem lb(F:fH K mg "are_readings" gU ["thing"])(aa1:Cl P w K mg base 1 "is_long" 3 aL)(aaG:Cl P w K mg base 1 "rises" 1 iP)(aa2:Cl P w K mg base 2 "is_within" 3 aU)(B:Bl mg)(C:Cs mg):Cl P w K mg base 3 "are_readings" 1 bK:=
 aY gV F λd f c A o s H E hr x=>(ar (cH (c9 (cD (aQ aa1 hr (ah (af 0) (ah aj (ah (m5 C.MOST_READINGS) ag)))))) (au (az eX)) bq) (au (az (da (cN (kH rfl) B.b_all Rf (ah (dC ["part"] gV gU (cQ (af 0)) (λd _ _ _ _ _=>⟨(ao 0 d),bF,(aQ aa2 hr (ah (af 0) (ah aj (ah (m5 C.LAST_READING) ag))))⟩)) ag)) (dw (aQ aaG hr (ah (af 0) ag)))))))
abbrev qR:ZF:=top 20
theorem rq(F:fH K mg "is_clock" qR ["thing"])(aa1:Cl P w K mg base 1 "is_long" 3 aL)(aaE:Cl P w K mg base 3 "is_pace" 2 fm)(aak:Cl P w K mg base 3 "are_readings" 1 bK):Cl P w K mg base 4 "is_clock" 1 di:=
 aY ["thing"] F λd f c A o s H E hr x=>(au (az (da (aQ aa1 hr (ah (af 0) (ah aj (ah aj ag)))) (da (aQ aaE hr (ah (aE (af 0) aj) (ah (aE (af 0) aj) ag))) (dw (aQ aak hr (ah (aE (af 0) aj) ag)))))))
abbrev jf:ZF:=top 21
abbrev jk:List Str:=["thing"]
theorem nt(F:fH K mg "are_clocks" jf ["thing"])(aa1:Cl P w K mg base 1 "is_long" 3 aL)(aaB:Cl P w K mg base 4 "is_clock" 1 di)(B:Bl mg)(C:Cs mg):Cl P w K mg base 5 "are_clocks" 1 dq:=
 aY jk F λd f c A o s H E hr x=>(au (az (da (aQ aa1 hr (ah (af 0) (ah aj (ah (m5 C.MOST_CLOCKS) ag)))) (dw (cN (kH rfl) B.b_all Rf (ah (dC ["part"] jk jf (cQ (af 0)) (λd _ _ _ _ _=>⟨(ao 0 d),bF,(aQ aaB hr (ah (af 0) ag))⟩)) ag))))))
abbrev qP:ZF:=top 22
theorem ro(F:fH K mg "is_event" qP ["clocks","thing"])(aa2:Cl P w K mg base 2 "is_within" 3 aU)(aa1:Cl P w K mg base 1 "is_long" 3 aL)(B:Bl mg):Cl P w K mg base 3 "is_event" 2 cv:=
 aY ["clocks","thing"] F λd f c A o s H E hr x=>(ar (cH (qx (lL (c9 (cD (aQ aa1 hr (ah (af 1) (ah aj (ah aj ag)))))) (jH (c9 (cD (aQ aa2 hr (ah (aE (af 1) aj) (ah aj (ah (aw gA (cN cL B.b_len LB (ah (af 0) ag)) aj) ag))))))))) (au (az eX)) bq) (au (az (aQ aa2 hr (ah (aE (af 1) aj) (ah aj (ah (aw gA (cN cL B.b_len LB (ah (aE (aE (af 0) (aE (af 1) aj)) aj) ag)) aj) ag)))))))
abbrev qQ:ZF:=top 23
theorem rp(F:fH K mg "is_delay" qQ ["least","most"])(aa2:Cl P w K mg base 2 "is_within" 3 aU)(C:Cs mg):Cl P w K mg base 3 "is_delay" 2 dF:=
 aY ["least","most"] F λd f c A o s H E hr x=>(au (az (da (aQ aa2 hr (ah (af 0) (ah aj (ah (m5 C.LONGEST) ag)))) (dw (Ck (ft uB (af 1) dQ) (dw (aQ aa2 hr (ah (af 1) (ah (af 0) (ah (m5 C.LONGEST) ag))))))))))
abbrev o5:ZF:=top 24
theorem pH(F:fH K mg "is_letter" o5 ["clocks","thing"])(aaa:Cl P w K mg base 3 "is_event" 2 cv)(aa1:Cl P w K mg base 1 "is_long" 3 aL)(aaC:Cl P w K mg base 3 "is_delay" 2 dF):Cl P w K mg base 4 "is_letter" 2 bS:=
 aY ["clocks","thing"] F λd f c A o s H E hr x=>(ar (cH (qx (lL (c9 (cD (aQ aa1 hr (ah (af 1) (ah aj (ah aj ag)))))) (jH (c9 (cD (aQ aaC hr (ah (aE (af 1) aj) (ah (aE (af 1) aj) ag)))))))) (au (az eX)) bq) (au (az (da (aQ aaa hr (ah (af 0) (ah (aE (af 1) aj) ag))) (da (aQ aaa hr (ah (af 0) (ah (aE (af 1) aj) ag))) (dw (ft (jh (i9 hr)) (aE (af 1) aj) (aE (af 1) aj))))))))
abbrev hW:ZF:=top 25
abbrev ik:List Str:=["clocks","thing"]
theorem l4(F:fH K mg "are_letters" hW ["clocks","thing"])(aa1:Cl P w K mg base 1 "is_long" 3 aL)(aav:Cl P w K mg base 4 "is_letter" 2 bS)(B:Bl mg)(C:Cs mg):Cl P w K mg base 5 "are_letters" 2 cY:=
 aY ik F λd f c A o s H E hr x=>(au (az (da (aQ aa1 hr (ah (af 1) (ah aj (ah (m5 C.MOST_LETTERS) ag)))) (dw (cN (kH rfl) B.b_all Rf (ah (dC ["part","clocks"] ik hW (cQ (af 1)) (λd _ _ _ _ _=>⟨(ao 0 d),bF,(aQ aav hr (ah (af 1) (ah (af 0) ag)))⟩)) ag))))))
abbrev o4:ZF:=top 26
theorem pG(F:fH K mg "is_record" o4 ["thing"])(aa1:Cl P w K mg base 1 "is_long" 3 aL)(aar:Cl P w K mg base 5 "are_clocks" 1 dq)(aao:Cl P w K mg base 5 "are_letters" 2 cY):Cl P w K mg base 6 "is_record" 1 dh:=
 aY ["thing"] F λd f c A o s H E hr x=>(au (az (da (aQ aa1 hr (ah (af 0) (ah aj (ah aj ag)))) (da (aQ aar hr (ah (aE (af 0) aj) ag)) (dw (aQ aao hr (ah (aE (af 0) aj) (ah (aE (af 0) aj) ag))))))))
abbrev lU:ZF:=top 27
theorem l0(F:fH K mg "need_record" lU ["thing"])(aaw:Cl P w K mg base 6 "is_record" 1 dh)(S:Xs K mg ac al am bi bn bv):Cl P w K mg base 7 "need_record" 1 bB:=
 aY ["thing"] F λd f c A o s H E hr x=>(au (cH (c9 (cD (aQ aaw hr (ah (af 0) ag)))) (au (fj S.o_NoRecord S.m_NoRecord)) bq))
abbrev nI:ZF:=top 29
abbrev nS:List Str:=["record","told","number","clock"]
theorem vR(F:fH K mg "events" nI ["record"])(aa3:Cl P w K mg base 7 "need_record" 1 bB)(B:Bl mg):Cl P w K mg base 8 "events" 1 bJ:=
 aY nS F λd f c A o s H E hr x=>(by(apply ar;exact(g7 (aQ aa3 hr (ah (af 0) ag)));apply ar;exact(jI 1 d ag);apply ar;exact(eY rfl (g8 B.b_enumerate (ah (aE (af 0) aj) ag)) (iH rfl (b9 (ao 2 d) (b9 (ao 3 d) gf))) (au (oI 1 (dC ["k","number"] nS nI (cR B.b_range (ah (cN cL B.b_len LB (ah (aE (af 3) aj) ag)) ag)) (λd _ _ _ _ _=>⟨(ao 0 d),bF,(bz (ah (af 1) (ah (af 0) ag)))⟩)))));exact au (jJ 1 (az (af 1)))))
abbrev o6:ZF:=top 49
theorem pI(F:fH K mg "is_better" o6 ["best","bound","ahead"]):Cl P w K mg base 1 "is_better" 3 dj:=
 aY ["best","bound","ahead","known"] F λd f c A o s H E hr x=>(ar (aJ (tY (ER hr) (af 0) (aE (af 1) aj)) (ao 3 d)) (au (az (Ck (ft uB (af 3) dQ) (dw (ft ye (aw aH (aE (af 2) aj) (aE (af 1) aj)) (aE (af 3) aj)))))))
abbrev kl:ZF:=top 48
abbrev kB:List Str:=["limits","starts","best","moved","number","bound","ahead","walk","passed"]
theorem vQ(F:fH K mg "settle" kl ["limits","starts"])(aax:Cl P w K mg base 1 "is_better" 3 dj)(B:Bl mg):Cl P w K mg base 2 "settle" 2 iq:=
 aY kB F λd f c A o s H E hr x=>(by(apply ar;exact(wU 2 (hu8 hr) rfl B.b_dict d (dC ["event"] kB kl (cQ (af 1)) (λd _ _ _ _ _=>⟨(ao 0 d),bF,(bz (ah (af 0) (ah (bz (ah aj (ah (fq ag) ag))) ag)))⟩)));apply ar;exact(aJ eX (ao 3 d));apply ar;exact(vz FU (cD (af 3)) (ar (aJ eX (ao 3 d)) (au (eY rfl (g8 B.b_enumerate (ah (af 0) ag)) (iH rfl (b9 (ao 4 d) (b9 (ao 5 d) gf))) (by(apply ar;exact(aJ (FP 2 (tY (ER hr) (af 2) (aE (af 5) aj))) (ao 6 d));apply ar;exact(cH (qx (lL (cE uB (af 6) dQ) (jH (c9 (CU 2 (cD (aQ aax hr (ah (af 2) (ah (af 5) (ah (af 6) ag)))))))))) (au CV) bq);apply ar;exact(aJ (aw aH (aE (af 6) aj) (fq (ah (af 4) ag))) (ao 7 d));apply ar;exact(oH 8 (N':=["step","limits"]) (src:=[ZB,ZA 0]) rfl (LcScope.by (N:=kB) (names:=(aq kl).names) rfl rfl rfl (by decide+kernel)) (cQ (af 7)) (λ_ _ _ _ _=>⟨(ao 0 (show Ny (["step","limits"]:List Str)by decide+kernel)),bF,(aE (aE (af 1) (af 0)) aj)⟩) d);apply ar;exact(cH (cE (G2 (Hu hr)) (aE (af 5) aj) (af 8)) (au (az (bz (ah dQ (ah (g9 (af 7) (gc (vA (Hu hr) (af 8) (aE (af 5) aj))) gd) ag))))) bq);apply ar;exact(Ad 2 (ER hr) (aE (af 5) aj) (bz (ah (aw aH (aE (af 6) aj) (aE (af 5) aj)) (ah (af 7) ag))));exact au (aJ eX (ao 3 d))))))));exact au (jJ 2 (az (bz (ah (af 2) (ah dQ ag)))))))
abbrev fK:ZF:=top 51
abbrev fN:List Str:=["record","limits","places","best"]
theorem jU(F:fH K mg "greatest_world" fK ["record","limits"])(aa4:Cl P w K mg base 8 "events" 1 bJ)(aaF:Cl P w K mg base 2 "settle" 2 iq)(B:Bl mg):Cl P w K mg base 9 "greatest_world" 2 dm:=
 aY fN F λd f c A o s H E hr x=>(by(apply ar;exact(aJ (aQ aa4 hr (ah (af 0) ag)) (ao 2 d));apply ar;exact(aJ (aE (aQ aaF hr (ah (af 1) (ah (af 2) ag))) aj) (ao 3 d));apply ar;exact(cH (cE uB (af 3) dQ) (au (az dQ)) bq);exact au (az (kN iy B.b_tuple c6 (ah (dC ["event","best"] fN fK (cQ (af 2)) (λd _ _ _ _ _=>⟨(ao 0 d),bF,(aE (oM (ER hr) (af 1) (af 0)) aj)⟩)) ag)))))
abbrev jv:ZF:=top 32
theorem jz(F:fH K mg "bounds_of_clock" jv ["number","clock"])(B:Bl mg):Cl P w K mg base 1 "bounds_of_clock" 2 cf:=
 aY ["number","clock","readings","told","k","first","second","steps"] F λd f c A o s H E hr x=>(by(apply ar;exact(aJ (aE (af 1) aj) (ao 2 d));apply ar;exact(jI 3 d ag);apply ar;exact(eY rfl (cR B.b_range (ah (aw gA (cN cL B.b_len LB (ah (af 2) ag)) aj) ag)) (ao 4 d) (by(apply ar;exact(aJ (bz (ah (af 0) (ah (af 4) ag))) (ao 5 d));apply ar;exact(aJ (bz (ah (af 0) (ah (aw aH (af 4) aj) ag))) (ao 6 d));apply ar;exact(aJ (aw gA (aE (af 2) (aw aH (af 4) aj)) (aE (af 2) (af 4))) (ao 7 d));apply ar;exact(oJ 3 (bz (ah (af 5) (ah (af 6) (ah (aw dB (af 7) (aE (af 1) aj)) ag)))));exact au (oJ 3 (bz (ah (af 6) (ah (af 5) (ah (aw dB (fS (af 7)) (aE (af 1) aj)) ag))))))));exact au (jJ 3 (az (af 3)))))
abbrev i7:ZF:=top 33
theorem i8(F:fH K mg "bounds_of_letter" i7 ["letter"]):Cl P w K mg base 1 "bounds_of_letter" 1 bY:=
 aY ["letter","told"] F λd f c A o s H E hr x=>(by(apply ar;exact(jI 1 d (ah (bz (ah (aE (af 0) aj) (ah (aE (af 0) aj) (ah (fS (aE (af 0) aj)) ag)))) ag));apply ar;exact(cH (cE ij (aE (af 0) aj) dQ) (au (oJ 1 (bz (ah (aE (af 0) aj) (ah (aE (af 0) aj) (ah (aE (af 0) aj) ag)))))) bq);exact au (jJ 1 (az (af 1)))))
abbrev vK:ZF:=top 34
theorem vU(F:fH K mg "bounds" vK ["record"])(aa3:Cl P w K mg base 7 "need_record" 1 bB)(aaf:Cl P w K mg base 1 "bounds_of_clock" 2 cf)(aac:Cl P w K mg base 1 "bounds_of_letter" 1 bY)(B:Bl mg):Cl P w K mg base 8 "bounds" 1 fz:=
 aY ["record","told","number","clock","letter"] F λd f c A o s H E hr x=>(by(apply ar;exact(g7 (aQ aa3 hr (ah (af 0) ag)));apply ar;exact(jI 1 d ag);apply ar;exact(eY rfl (g8 B.b_enumerate (ah (aE (af 0) aj) ag)) (iH rfl (b9 (ao 2 d) (b9 (ao 3 d) gf))) (au (oI 1 (aQ aaf hr (ah (af 2) (ah (af 3) ag))))));apply ar;exact(eY rfl (cQ (aE (af 0) aj)) (ao 4 d) (au (oI 1 (aQ aac hr (ah (af 4) ag)))));exact au (jJ 1 (az (af 1)))))
abbrev xy:ZF:=top 52
theorem yg(F:fH K mg "world" xy ["record"])(aah:Cl P w K mg base 9 "greatest_world" 2 dm)(aal:Cl P w K mg base 8 "bounds" 1 fz):Cl P w K mg base 10 "world" 1 dW:=
 aY ["record"] F λd f c A o s H E hr x=>(au (az (aQ aah hr (ah (af 0) (ah (aQ aal hr (ah (af 0) ag)) ag)))))
abbrev o7:ZF:=top 53
theorem pJ(F:fH K mg "has_world" o7 ["record"])(aam:Cl P w K mg base 10 "world" 1 dW):Cl P w K mg base 11 "has_world" 1 eI:=
 aY ["record"] F λd f c A o s H E hr x=>(au (az (ft ij (aQ aam hr (ah (af 0) ag)) dQ)))
theorem lp{X:Cx}{j3 j4:Nat}{p1 p2 p3 p4 p5:Pos}:QE X (.List [(.Constant (.int 1) j1 p1),(.Constant (.int 1) j2 p2),(.Constant (.int 1) j3 p3),(.Constant (.int 24999) j4 p4)] p5) (ez (ae (cn (.int 1)) (ae (cn (.int 1)) (ae (cn (.int 1)) (ae (cn (.int 24999)) ai))))):=by
 refine @fq X _ _ _ ?_
 refine @ah X _ _ _ _ ?_ ?_ rfl
 ·exact aj
 refine @ah X _ _ _ _ ?_ ?_ rfl
 ·exact aj
 refine @ah X _ _ _ _ ?_ ?_ rfl
 ·exact aj
 refine @ah X _ _ _ _ ?_ ?_ rfl
 ·exact aj
 exact ag
abbrev m8:ZF:=top 62
theorem nu(F:fH K mg "_law_times" m8 ["_law_script","_law_at","_law_record_here"])(aa9:Cl P w K mg base 1 "_law_events" 1 cw)(aa0:Cl P w K mg base 2 "_law_drawn" 3 ax)(B:Bl mg):Cl P w K mg base 3 "_law_times" 3 dY:=
 aY ["_law_script","_law_at","_law_record_here","_law_row","_law_found","_law_k","_law_by"] F λd f c A o s H E hr x=>(by(apply ar;exact(aJ (aQ aa9 hr (ah (aE (af 2) aj) ag)) (ao 3 d));apply ar;exact(aJ (bz ag) (ao 4 d));apply ar;exact(eY rfl (cR B.b_range (ah (cN cL B.b_len LB (ah (af 3) ag)) ag)) (ao 5 d) (ar (aJ (aE lp (aQ aa0 hr (ah (af 0) (ah (aw aH (aw aH (af 1) (af 5)) aj) (ah aj ag))))) (ao 6 d)) (au (aJ (aw aH (af 4) (bz (ah (aw gA (aw dB (aQ aa0 hr (ah (af 0) (ah (aw aH (af 1) (af 5)) (ah aj ag)))) (af 6)) aj) ag))) (ao 4 d)))));exact au (az (af 4))))
abbrev jP:ZF:=top 35
abbrev jX:List Str:=["record","thing","many"]
theorem pK(F:fH K mg "are_times" jP ["record","thing"])(aa4:Cl P w K mg base 8 "events" 1 bJ)(aa1:Cl P w K mg base 1 "is_long" 3 aL)(aad:Cl P w K mg base 1 "is_whole" 1 ef)(B:Bl mg):Cl P w K mg base 9 "are_times" 2 cg:=
 aY jX F λd f c A o s H E hr x=>(ar (aJ (cN cL B.b_len LB (ah (aQ aa4 hr (ah (af 0) ag)) ag)) (ao 2 d)) (au (az (da (aQ aa1 hr (ah (af 1) (ah (af 2) (ah (af 2) ag)))) (dw (cN (kH rfl) B.b_all Rf (ah (dC ["part"] jX jP (cQ (af 1)) (λd _ _ _ _ _=>⟨(ao 0 d),bF,(aQ aad hr (ah (af 0) ag))⟩)) ag)))))))
abbrev fL:ZF:=top 43
abbrev fO:List Str:=["record","thing"]
theorem jV(F:fH K mg "can_be_written" fL ["record","thing"])(aa6:Cl P w K mg base 9 "are_times" 2 cg)(aa2:Cl P w K mg base 2 "is_within" 3 aU)(B:Bl mg)(C:Cs mg):Cl P w K mg base 10 "can_be_written" 2 bh:=
 aY fO F λd f c A o s H E hr x=>(au (az (da (aQ aa6 hr (ah (af 0) (ah (af 1) ag))) (dw (cN (kH rfl) B.b_all Rf (ah (dC ["time"] fO fL (cQ (af 1)) (λd _ _ _ _ _=>⟨(ao 0 d),bF,(aQ aa2 hr (ah (af 0) (ah (fS (m5 C.FARTHEST)) (ah (m5 C.FARTHEST) ag))))⟩)) ag))))))
abbrev m7:ZF:=top 28
theorem nr(F:fH K mg "need_event" m7 ["record","thing"])(aaa:Cl P w K mg base 3 "is_event" 2 cv)(S:Xs K mg ac al am bi bn bv):Cl P w K mg base 4 "need_event" 2 ff:=
 aY ["record","thing"] F λd f c A o s H E hr x=>(au (cH (c9 (cD (aQ aaa hr (ah (aE (af 0) aj) (ah (af 1) ag))))) (au (fj S.o_NoEvent S.m_NoEvent)) bq))
abbrev m6:ZF:=top 30
theorem nj(F:fH K mg "reading_of" m6 ["record","event"])(aa3:Cl P w K mg base 7 "need_record" 1 bB)(aas:Cl P w K mg base 4 "need_event" 2 ff):Cl P w K mg base 8 "reading_of" 2 cS:=
 aY ["record","event"] F λd f c A o s H E hr x=>(by(apply ar;exact(g7 (aQ aa3 hr (ah (af 0) ag)));apply ar;exact(g7 (aQ aas hr (ah (af 0) (ah (af 1) ag))));exact au (az (aE (aE (aE (aE (af 0) aj) (aE (af 1) aj)) aj) (aE (af 1) aj)))))
abbrev gy:ZF:=top 44
abbrev gC:List Str:=["record","number","time_of","places","parts"]
theorem pE(F:fH K mg "line_text" gy ["record","number","time_of"])(aa4:Cl P w K mg base 8 "events" 1 bJ)(aat:Cl P w K mg base 8 "reading_of" 2 cS)(B:Bl mg):Cl P w K mg base 9 "line_text" 3 dJ:=
 aY gC F λd f c A o s H E hr x=>(by(apply ar;exact(oH 3 (N':=["event","number"]) (src:=[ZB,ZA 1]) rfl (LcScope.by (N:=gC) (names:=(aq gy).names) rfl rfl rfl (by decide+kernel)) (cQ (aQ aa4 hr (ah (af 0) ag))) (λ_ _ _ _ _=>⟨(ao 0 (show Ny (["event","number"]:List Str)by decide+kernel)),(lM (cE (nQ (i9 hr)) (aE (af 0) aj) (af 1))),(af 0)⟩) d);apply ar;exact(oH 4 (N':=["event","record","time_of"]) (src:=[ZB,ZA 0,ZA 2]) rfl (LcScope.by (N:=gC) (names:=(aq gy).names) rfl rfl rfl (by decide+kernel)) (cQ (af 3)) (λ_ _ _ _ _=>⟨(ao 0 (show Ny (["event","record","time_of"]:List Str)by decide+kernel)),bF,(aw aH (aw aH (kN tI B.b_str fQ (ah (aQ aat hr (ah (af 1) (ah (af 0) ag))) ag)) gu) (kN tI B.b_str fQ (ah (oM (ER hr) (af 2) (af 0)) ag)))⟩) d);exact au (az (aw aH (aw aH (aw aH (kN tI B.b_str fQ (ah (af 1) ag)) gu) (tV gu (af 4))) gu))))
abbrev jd:ZF:=top 45
abbrev ji:List Str:=["record","times","time_of"]
theorem ni(F:fH K mg "times_text" jd ["record","times"])(aa5:Cl P w K mg base 10 "can_be_written" 2 bh)(aa4:Cl P w K mg base 8 "events" 1 bJ)(aay:Cl P w K mg base 9 "line_text" 3 dJ)(B:Bl mg)(S:Xs K mg ac al am bi bn bv):Cl P w K mg base 11 "times_text" 2 aR:=
 aY ji F λd f c A o s H E hr x=>(by(apply ar;exact(cH (c9 (cD (aQ aa5 hr (ah (af 0) (ah (af 1) ag))))) (au (fj S.o_NoNumber S.m_NoNumber)) bq);apply ar;exact(aJ (tX (hu8 hr) rfl B.b_dict B.b_zip (ah (aQ aa4 hr (ah (af 0) ag)) (ah (af 1) ag))) (ao 2 d));exact au (az (tV gu (dC ["number","record","time_of"] ji jd (cR B.b_range (ah (cN cL B.b_len LB (ah (aE (af 0) aj) ag)) ag)) (λd _ _ _ _ _=>⟨(ao 0 d),bF,(aQ aay hr (ah (af 1) (ah (af 0) (ah (af 2) ag))))⟩))))))
abbrev oX:ZF:=top 40
theorem pD(F:fH K mg "number_of" oX ["word"])(B:Bl mg):Aa P w K mg base 1 "number_of" 1 bR:=
 qg ["word"] F λd f c A o s H E hr x=>(lQ (C2 0 (λ_ _ z=>by cases z) B.b_int B.b_ValueError))
abbrev je:ZF:=top 46
abbrev jj:List Str:=["record","text","parts","times"]
theorem nq(F:fH K mg "read_times" je ["record","text"])(aa3:Cl P w K mg base 7 "need_record" 1 bB)(aaz:Aa P w K mg base 1 "number_of" 1 bR)(aa5:Cl P w K mg base 10 "can_be_written" 2 bh)(aa7:Cl P w K mg base 11 "times_text" 2 aR)(B:Bl mg)(S:Xs K mg ac al am bi bn bv):Aa P w K mg base 12 "read_times" 2 bf:=
 qg jj F λd f c A o s H E hr x=>(by(apply bV;exact(qw (g7 (aQ aa3 hr (ah (af 0) ag))));apply bV;exact(qw (cH (c9 (cD (tW B.b_isinstance B.b_str fQ (af 1)))) (au (fj S.o_NoText S.m_NoText)) bq));apply bV;exact(xi (u_1 (As (Aq (FX (af 1)) gu) gd (gc (fS aj)))) (ao 2 d));apply bV;exact(xi (u_cT iy B.b_tuple c6 (sj (u_lc ["part"] jj je (cQ (af 2)) (λd _ _ _ _ _=>⟨(ao 0 d),bF,(Cq aaz hr (sj (qH (aE (oK (af 0) gu) aj)) (Au ag)))⟩)) (Au ag))) (ao 3 d));apply bV;exact(qw (cH (qx (lL (c9 (cD (aQ aa5 hr (ah (af 0) (ah (af 3) ag))))) (jH (cE (jh (i9 hr)) (aQ aa7 hr (ah (af 0) (ah (af 3) ag))) (af 1))))) (au (fj S.o_NoText S.m_NoText)) bq));exact(lQ (qw (az (af 3))))))
abbrev xA:ZF:=top 36
theorem yj(F:fH K mg "holds" xA ["bound","time_of"]):Cl P w K mg base 1 "holds" 2 lC:=
 aY ["bound","time_of"] F λd f c A o s H E hr x=>(au (az (ft rj (aw gA (oM (ER hr) (af 1) (aE (af 0) aj)) (oM (ER hr) (af 1) (aE (af 0) aj))) (aE (af 0) aj))))
abbrev nJ:ZF:=top 37
abbrev nT:List Str:=["record","times","time_of"]
theorem vS(F:fH K mg "broken" nJ ["record","times"])(aa4:Cl P w K mg base 8 "events" 1 bJ)(aal:Cl P w K mg base 8 "bounds" 1 fz)(aaH:Cl P w K mg base 1 "holds" 2 lC)(B:Bl mg):Cl P w K mg base 9 "broken" 2 dX:=
 aY nT F λd f c A o s H E hr x=>(ar (aJ (tX (hu8 hr) rfl B.b_dict B.b_zip (ah (aQ aa4 hr (ah (af 0) ag)) (ah (af 1) ag))) (ao 2 d)) (au (az (dC ["number","bound","time_of"] nT nJ (g8 B.b_enumerate (ah (aQ aal hr (ah (af 0) ag)) ag)) (λd _ _ _ _ _=>⟨(iH rfl (b9 (ao 0 d) (b9 (ao 1 d) gf))),(lM (c9 (cD (aQ aaH hr (ah (af 1) (ah (af 2) ag)))))),(af 0)⟩)))))
abbrev qN:ZF:=top 38
theorem rl(F:fH K mg "is_world" qN ["record","thing"])(aa6:Cl P w K mg base 9 "are_times" 2 cg)(aai:Cl P w K mg base 9 "broken" 2 dX):Cl P w K mg base 10 "is_world" 2 dE:=
 aY ["record","thing"] F λd f c A o s H E hr x=>(au (az (da (aQ aa6 hr (ah (af 0) (ah (af 1) ag))) (dw (ft (nQ (i9 hr)) (aQ aai hr (ah (af 0) (ah (af 1) ag))) (fq ag))))))
abbrev o8:ZF:=top 63
theorem pL(F:fH K mg "_law_read" o8 ["_law_record_here","_law_text"])(aa8:Aa P w K mg base 12 "read_times" 2 bf)(S:Xs K mg ac al am bi bn bv):Aa P w K mg base 13 "_law_read" 2 bL:=
 qg ["_law_record_here","_law_text"] F λd f c A o s H E hr x=>(lQ (C1 S.m_NoText S.o_NoText (λ_ _=>(lQ (FZ (Cq aa8 hr (sj (qH (af 0)) (sj (qH (af 1)) (Au ag))))))) (hcl:=λ_ _ z=>by cases z)))
abbrev kQ:ZF:=top 54
abbrev kR:List Str:=["record","times","many"]
theorem rk(F:fH K mg "moved_by" kQ ["record","times","many"])(aae:Cl P w K mg base 10 "is_world" 2 dE)(B:Bl mg)(S:Xs K mg ac al am bi bn bv):Cl P w K mg base 11 "moved_by" 3 fy:=
 aY kR F λd f c A o s H E hr x=>(ar (cH (c9 (cD (aQ aae hr (ah (af 0) (ah (af 1) ag))))) (au (fj S.o_NoWorld S.m_NoWorld)) bq) (au (az (kN iy B.b_tuple c6 (ah (dC ["time","many"] kR kQ (cQ (af 1)) (λd _ _ _ _ _=>⟨(ao 0 d),bF,(aw aH (af 0) (af 1))⟩)) ag)))))
abbrev oY:ZF:=top 64
abbrev tf:List Str:=["_law_script","_law_record_here","_law_row","_law_some","_law_texts","_law_times_here","_law_text","_law_told","_law_clock_here","_law_other","_law_less"]
theorem aab:cG tf ["_law_script"] (aq oY):=fsc
theorem Em{f:ZE}(aaI:Fn K mg "law" oY ["_law_script"] f fd)(aap:Cl P w K mg base 4 "_law_record" 3 eE)(aa4:Cl P w K mg base 8 "events" 1 bJ)(aaA:Cl P w K mg base 11 "has_world" 1 eI)(aaj:Cl P w K mg base 3 "_law_times" 3 dY)(aa7:Cl P w K mg base 11 "times_text" 2 aR)(aa8:Aa P w K mg base 12 "read_times" 2 bf)(aae:Cl P w K mg base 10 "is_world" 2 dE)(aai:Cl P w K mg base 9 "broken" 2 dX)(aag:Aa P w K mg base 13 "_law_read" 2 bL)(aam:Cl P w K mg base 10 "world" 1 dW)(aaD:Cl P w K mg base 11 "moved_by" 3 fy)(aa6:Cl P w K mg base 9 "are_times" 2 cg)(aa0:Cl P w K mg base 2 "_law_drawn" 3 ax)(B:Bl mg):zU P w K mg base 14 f fd ["_law_script"] 1 m_law:=
 uT aaI.fn aab rfl λc A o s H E hr x=>(show z9 _ _ _ from(by(apply bV;exact(qw (aJ (aQ aap hr (ah (af 0) (ah aj (ah aj ag)))) (ao 1 aab.nd)));apply bV;exact(qw (aJ (aQ aa4 hr (ah (af 1) ag)) (ao 2 aab.nd)));apply bV;exact(qw (aJ (fq (ah (aQ aaj hr (ah (af 0) (ah aj (ah (af 1) ag)))) (ah (aQ aaj hr (ah (af 0) (ah aj (ah (af 1) ag)))) ag))) (ao 3 aab.nd)));apply bV;exact(xg (u_t (cD (aQ aaA hr (ah (af 1) ag)))) (by(apply bV;exact(qw (aJ (aw aH (af 3) (fq (ah (aQ aam hr (ah (af 1) ag)) (ah (aQ aaD hr (ah (af 1) (ah (aQ aam hr (ah (af 1) ag)) (ah (aw gA (aQ aa0 hr (ah (af 0) (ah aj (ah aj ag)))) aj) ag)))) ag)))) (ao 3 aab.nd)));exact(lQ (xg (F0 (FY (Cq aae.c hr (sj (qH (af 1)) (sj (Cq aa8 hr (sj (qH (af 1)) (sj (qH (aQ aa7 hr (ah (af 1) (ah (aE (af 3) aj) ag)))) (Au ag)))) (Au ag)))))) (oU (au (az eX))) (oU bq))))) (oU bq));apply bV;exact(qw (oH 4 (N':=["_law_times_here","_law_record_here"]) (src:=[ZB,ZA 1]) rfl (LcScope.by (N:=tf) (names:=(aq oY).names) rfl rfl rfl (by decide+kernel)) (cQ (af 3)) (λ_ _ _ _ _=>⟨(ao 0 (show Ny (["_law_times_here","_law_record_here"]:List Str)by decide+kernel)),bF,(aQ aa7 hr (ah (af 1) (ah (af 0) ag)))⟩) aab.nd));apply bV;exact(F1 rfl (Ae B.b_zip (ah (af 3) (ah (af 4) ag))) (iH rfl (b9 (ao 5 aab.nd) (b9 (ao 6 aab.nd) gf))) (by(apply bV;exact(xi (Cq aa8 hr (sj (qH (af 1)) (sj (qH (af 6)) (Au ag)))) (ao 7 aab.nd));apply bV;exact(qw (cH (qx (lL (cE (jh (i9 hr)) (af 7) (af 5)) (jH (c9 (cD (aQ aa6 hr (ah (af 1) (ah (af 7) ag)))))))) (au (az eX)) bq));apply bV;exact(qw (cH (cE (jh (i9 hr)) (aQ aai hr (ah (af 1) (ah (af 7) ag))) (aQ aai hr (ah (af 1) (ah (af 5) ag)))) (au (az eX)) bq));apply bV;exact(qw (cH (cE (jh (i9 hr)) (cN cL B.b_len LB (ah (qy (af 6) gu) ag)) (aw aH (cN cL B.b_len LB (ah (aE (af 1) aj) ag)) aj)) (au (az eX)) bq));apply bV;exact(qw (cH (cE (jh (i9 hr)) (cN cL B.b_len LB (ah (qy (af 6) gu) ag)) (aw aH (cN cL B.b_len LB (ah (af 2) ag)) aj)) (au (az eX)) bq));apply bV;exact(qw (cH (cE (jh (i9 hr)) (dC ["_law_other","_law_record_here","_law_text","_law_times_here"] tf oY (cQ (af 3)) (λd _ _ _ _ _=>⟨(ao 0 d),(lM (cE (jh (i9 hr)) (ft (nQ (i9 hr)) (aQ aa7 hr (ah (af 1) (ah (af 0) ag))) (af 2)) (ft (nQ (i9 hr)) (af 0) (af 3)))),(af 0)⟩)) (fq ag)) (au (az eX)) bq));apply bV;exact(qw (aJ (aE (aE (af 1) aj) (fS aj)) (ao 8 aab.nd)));apply bV;exact(qw (aJ (bz (ah (aw aH (g9 (aE (af 1) aj) gd (gc (fS aj))) (bz (ah (aw aH (g9 (af 8) gd (gc aj)) (bz (ah (aw aH (g9 (aE (af 8) aj) gd (gc (fS aj))) (bz (ah (aw aH (aE (aE (af 8) aj) (fS aj)) aj) ag))) ag))) ag))) (ah (bz ag) ag))) (ao 9 aab.nd)));apply bV;exact(xg (xh ij (Cq aag hr (sj (qH (af 9)) (sj (qH (af 6)) (Au ag)))) (qH dQ)) (oU (au (az eX))) (oU bq));apply bV;exact(qw (aJ (bz (ah (g9 (aE (af 1) aj) gd (gc (fS aj))) (ah (bz ag) ag))) (ao 10 aab.nd)));apply bV;exact(xg (u_w (F2 (u_t (cE (jh (i9 hr)) (aE (af 10) aj) (bz ag))) (C3 (xh ij (Cq aag hr (sj (qH (af 10)) (sj (qH (af 6)) (Au ag)))) (qH dQ))))) (oU (au (az eX))) (oU bq));exact(lQ (xg (xh (jh (i9 hr)) (Cq aag hr (sj (qH (bz (ah (aE (af 1) aj) (ah (bz ag) ag)))) (sj (qH (af 6)) (Au ag)))) (qH (af 5))) (oU (au (az eX))) (oU bq))))));exact(lQ (qw (az eX)))))).h
end
def all_ok{l:PySem.W.OpenLaw}{h:ZH}{fa:ZE}(X:K.In h)(e0:yk asks K=xf asks top)(G:h.Ns Km mg)(hfa:mg "law" =ZA (.ref fa)):
  ∃fd:KO,(∀(s:JB)(v:JD),PK s fd ⟨[v],[]⟩ [("_law_script",v)])/\∀base:ZH,K.In base->base.Ns Km mg->mY l.prog w K mg base CX0 14 fa fd ["_law_script"] (spP K 1 m_law):=by
 have e:pO zL K=oR zL top:=congrArg (·.1) e0
 have B:Bl mg:=⟨eV 0 X G e rfl,eV 1 X G e rfl,eV 2 X G e rfl,eV 3 X G e rfl,eV 4 X G e rfl,eV 5 X G e rfl,eV 6 X G e rfl,eV 7 X G e rfl,eV 8 X G e rfl,eV 9 X G e rfl,eV 10 X G e rfl,eV 11 X G e rfl⟩
 have C:Cs mg:=⟨my 0 X G e rfl,my 1 X G e rfl,my 2 X G e rfl,my 3 X G e rfl,my 4 X G e rfl,my 5 X G e rfl,my 6 X G e rfl⟩;obtain⟨bv,ls,xD,xl,nd⟩:=Eo (Hn e);obtain⟨ac,ls0,x_NoRecord,rfl,xl0⟩:=gq xl;obtain⟨al,ls1,x_NoEvent,rfl,xl1⟩:=gq xl0;obtain⟨am,ls2,x_NoNumber,rfl,xl2⟩:=gq xl1;obtain⟨bi,ls3,x_NoWorld,rfl,xl3⟩:=gq xl2;obtain⟨bn,ls4,x_NoText,rfl,xl4⟩:=gq xl3
 cases zN xl4
 have S:Xs K mg ac al am bi bn bv:=⟨Nc X G (gB x_NoRecord).1,Nc X G (gB x_NoEvent).1,Nc X G (gB x_NoNumber).1,Nc X G (gB x_NoWorld).1,Nc X G (gB x_NoText).1,Nc X G (gB xD).1,G1 x_NoRecord xD,G1 x_NoEvent xD,G1 x_NoNumber xD,G1 x_NoWorld xD,G1 x_NoText xD,ox0 xD,nd⟩;obtain⟨fd43,aaI,bnd⟩:=Hj (n:="law") (i:=64) (x:="_law_script") 43 X G e rfl hfa λ_ _ _ _ _ _ _=>rfl
 refine⟨fd43,bnd,λbase _ _=>?_⟩
 have aau:=pM l.prog w base (cx 0 X G e) B
 have aa0:=nv l.prog w base (cx 1 X G e) aau
 have aa9:=l7 l.prog w base (cx 2 X G e) B
 have aan:=l6 l.prog w base (cx 3 X G e) aa9 aa0 B
 have aaq:=ny l.prog w base (cx 4 X G e) aa0 B
 have aap:=l5 l.prog w base (cx 5 X G e) aa0 aan aaq B
 have aa1:=sY l.prog w base (cx 6 X G e) B
 have aad:=rn l.prog w base (cx 7 X G e) B
 have aa2:=pF l.prog w base (cx 8 X G e) aad
 have aaE:=sX l.prog w base (cx 9 X G e) aa2 C
 have aaG:=yi l.prog w base (cx 10 X G e) B
 have aak:=lb l.prog w base (cx 11 X G e) aa1 aaG aa2 B C
 have aaB:=rq l.prog w base (cx 12 X G e) aa1 aaE aak
 have aar:=nt l.prog w base (cx 13 X G e) aa1 aaB B C
 have aaa:=ro l.prog w base (cx 14 X G e) aa2 aa1 B
 have aaC:=rp l.prog w base (cx 15 X G e) aa2 C
 have aav:=pH l.prog w base (cx 16 X G e) aaa aa1 aaC
 have aao:=l4 l.prog w base (cx 17 X G e) aa1 aav B C
 have aaw:=pG l.prog w base (cx 18 X G e) aa1 aar aao
 have aa3:=l0 l.prog w base (cx 19 X G e) aaw S
 have aa4:=vR l.prog w base (cx 20 X G e) aa3 B
 have aax:=pI l.prog w base (cx 21 X G e)
 have aaF:=vQ l.prog w base (cx 22 X G e) aax B
 have aah:=jU l.prog w base (cx 23 X G e) aa4 aaF B
 have aaf:=jz l.prog w base (cx 24 X G e) B
 have aac:=i8 l.prog w base (cx 25 X G e)
 have aal:=vU l.prog w base (cx 26 X G e) aa3 aaf aac B
 have aam:=yg l.prog w base (cx 27 X G e) aah aal
 have aaA:=pJ l.prog w base (cx 28 X G e) aam
 have aaj:=nu l.prog w base (cx 29 X G e) aa9 aa0 B
 have aa6:=pK l.prog w base (cx 30 X G e) aa4 aa1 aad B
 have aa5:=jV l.prog w base (cx 31 X G e) aa6 aa2 B C
 have aas:=nr l.prog w base (cx 32 X G e) aaa S
 have aat:=nj l.prog w base (cx 33 X G e) aa3 aas
 have aay:=pE l.prog w base (cx 34 X G e) aa4 aat B
 have aa7:=ni l.prog w base (cx 35 X G e) aa5 aa4 aay B S
 have aaz:=pD l.prog w base (cx 36 X G e) B
 have aa8:=nq l.prog w base (cx 37 X G e) aa3 aaz aa5 aa7 B S
 have aaH:=yj l.prog w base (cx 38 X G e)
 have aai:=vS l.prog w base (cx 39 X G e) aa4 aal aaH B
 have aae:=rl l.prog w base (cx 40 X G e) aa6 aai
 have aag:=pL l.prog w base (cx 41 X G e) aa8 S
 have aaD:=rk l.prog w base (cx 42 X G e) aae B S;exact(Em l.prog w base aaI aap aa4 aaA aaj aa7 aa8 aae aai aag aam aaD aa6 aa0 B).h
end G
namespace Tr
open PySem
abbrev RR(cs ls:List T):T:=.tup [.tup cs,.tup ls]
mutual
def T.pl:T->Bool
 |.scr _=>ZD
 |.dct _ _=>ZD
 |.ob _ _ _=>ZD
 |.tup l=>plS l
 |.lst l=>plS l
 |_=>ZC
def plS:List T->Bool
 |[] =>ZC
 |t::l=>t.pl&&plS l
end
theorem jS:∀{l:List T}{t:T},plS l=ZC->t∈l->t.pl=ZC
 |[],_,_,h=>by cases h
 |u::l,t,h,m=>by
  unfold plS at h;rw[JH]at h;rcases JL.mp m with rfl|m
  ·exact h.1
  ·exact jS h.2 m
mutual
theorem T.Iw:∀(t:T),t.pl=ZC->t.nd=ZC
 |.non,_=>rfl
 |.bl _,_=>rfl
 |.int _,_=>rfl
 |.str _,_=>rfl
 |.scr _,h=>by cases h
 |.dct _ _,h=>by cases h
 |.ob _ _ _,h=>by cases h
 |.tup l,h=>by unfold T.pl at h;unfold T.nd;exact plS_nds l h
 |.lst l,h=>by unfold T.pl at h;unfold T.nd;exact plS_nds l h
theorem plS_nds:∀(l:List T),plS l=ZC->nds l=ZC
 |[],_=>rfl
 |t::l,h=>by
  unfold plS at h;rw[JH]at h;unfold nds;rw[T.Iw t h.1,plS_nds l h.2];rfl
end
variable{fe:V6}{h:T->T}
theorem tu:∀(ts:List T)(ρ:En),0<ρ.length->(∀t∈ts,fe (ρ.set 0 (.va t))=.ok (h t))->cT (gN 0) bT fe ts ρ=.ok (ts.map h)
 |[],_,_,_=>rfl
 |t::r,ρ,hl,hf=>by
  unfold cT
  have e1:gN 0 t ρ=.ok (ρ.set 0 (.va t)):=by unfold gN;rw[if_pos hl]
  have ih:=tu r (ρ.set 0 (.va t)) (by rw[Ll];exact hl) (λu hu=>by rw[List.set_set];exact hf u (JF _ hu))
  simp only[e1,aA,bT,if_true,hf t JI,ih,JG]
variable{p:T->Bool}
theorem nW{fc:V7}:∀(ts:List T)(ρ:En),0<ρ.length->(∀t∈ts,fc (ρ.set 0 (.va t))=.ok (p t)/\(p t=ZC->fe (ρ.set 0 (.va t))=.ok (h t)))->cT (gN 0) fc fe ts ρ=.ok ((ts.filter p).map h)
 |[],_,_,_=>rfl
 |t::r,ρ,hl,hf=>by
  unfold cT
  have e1:gN 0 t ρ=.ok (ρ.set 0 (.va t)):=by unfold gN;rw[if_pos hl]
  have ih:=nW r (ρ.set 0 (.va t)) (by rw[Ll];exact hl) (λu hu=>by rw[List.set_set];exact hf u (JF _ hu))
  obtain⟨h1,h2⟩:=hf t JI;simp only[e1,aA,h1]
  cases q:p t with
  |true=>simp only[if_true,h2 q,aA,ih,RV,q,JG]
  |false=>simp only[KQ,if_false,ih,RV,q]
theorem oq(p:T->Bool):∀l:List T,mS (l.map λt=>T.bl (p t))=ZA (l.map p)
 |[] =>rfl
 |t::l=>by rw[JG,mS,oq p l];rfl
theorem all_map(p:T->Bool)(l:List T):lu [.lst (l.map λt=>T.bl (p t))]=.ok (.bl (l.all p)):=by
 simp only[lu,oq,List.all_map]
 rfl
def jE{l:List α}{t:α}(h:l[k]?=ZA t):L2.atI l (k:Int)=ZA t:=by
 have hk:k<l.length:=(Kb.mp h).1
 unfold L2.atI L2.ixN;rw[if_pos (by omega),if_pos (by omega),Kl]
 exact h
def aN(h:n<=k)(hk:autoParam (k<=1000) s_):n<=ZI:=by unfold ZI;omega
variable{fi:V4}{g:T->En->Rs En}{k:Bool}{ks:List T}{x:Rs T}
section
variable {f fa fb fc:V6}{fs:V4}{b c:V7}{F G:V5}{ρ ρ' ρ1 ρ2:En}{t u r:T}{ts l m:List T}
variable{g:T->T->Rs T}
def aI(ha:fa ρ=.ok t)(hb:fb ρ=.ok u)(hg:g t u=x):o2 g fa fb ρ=x:=by unfold o2;rw[ha,hb];exact hg
def Hh{g:T->Rs T}(ha:fa ρ=.ok t)(hg:g t=x):o1 g fa ρ=x:=by unfold o1;rw[ha];exact hg
def Hg{vs:List T}(ha:fa ρ=.ok (.dct ks vs))(hb:fb ρ=.ok u)(hg:g (.dct ks vs) u=x):oD g fa fb ρ=x:=by unfold oD;rw[ha];show(fb ρ >>= g (.dct ks vs))=_;rw[hb];exact hg
def k_oL(ha:fa ρ=.ok (.lst ks))(hb:fb ρ=.ok u)(hg:g (.lst ks) u=x):oL g fa fb ρ=x:=by unfold oL;rw[ha];show(fb ρ >>= g (.lst ks))=_;rw[hb];exact hg
def aP:ai ρ=.ok []:=rfl
def ak(h:f ρ=.ok t)(hs:fs ρ=.ok ts):ae f fs ρ=.ok (t::ts):=by unfold ae;rw[h,hs];rfl
def aT{g:List T->Rs T}(h:fs ρ=.ok ts)(hg:g ts=x):cl g fs ρ=x:=by unfold cl;rw[h];exact hg
def cM(h:f ρ=.ok (.bl k)):tb f ρ=.ok k:=by unfold tb;rw[h];rfl
def gX(h:b ρ=.ok k):cI b ρ=.ok (!k):=by unfold cI;rw[h];rfl
def CD(h:b ρ=.ok ZC):lZ b c ρ=.ok ZC:=by unfold lZ;rw[h];rfl
variable{x:Rs Bool}
def uJ(h:b ρ=.ok ZD)(h2:c ρ=x):lZ b c ρ=x:=by unfold lZ;rw[h];exact h2
def EK(h:b ρ=.ok ZD):qm b c ρ=.ok ZD:=by unfold qm;rw[h];rfl
def EJ(h:b ρ=.ok ZC)(h2:c ρ=x):qm b c ρ=x:=by unfold qm;rw[h];exact h2
def yU(h:fa ρ=.ok (.bl ZC)):bZ fa fb ρ=fb ρ:=by unfold bZ;rw[h];rfl
def BA(h:fa ρ=.ok (.bl ZD)):bZ fa fb ρ=.ok (.bl ZD):=by unfold bZ;rw[h];rfl
def uL{p q:Bool}(h:fa ρ=.ok (.bl p))(h2:p=ZC->fb ρ=.ok (.bl q)):bZ fa fb ρ=.ok (.bl (p&&q)):=by
 cases p with
 |true=>rw[yU h,h2 rfl];rfl
 |false=>rw[BA h];rfl
def EE(h:fa ρ=.ok (.bl ZC)):z0 fa fb ρ=.ok (.bl ZC):=by unfold z0;rw[h];rfl
def EF(h:fa ρ=.ok (.bl ZD)):z0 fa fb ρ=fb ρ:=by unfold z0;rw[h];rfl
def Hm{p:Bool}(h:b ρ=.ok p):FJ b fa fb ρ=if p then fa ρ else fb ρ:=by unfold FJ;rw[h];rfl
variable{g:T->En->Rs En}
def bU(h:f ρ=.ok t)(hg:g t ρ=.ok ρ'):cu f g ρ=.ok (.nx ρ'):=by unfold cu;rw[h];show(match g t ρ with|.ok ρ'=>Rs.ok (Fl.nx ρ')|_=>.bad)=_;rw[hg]
def aC(h:F ρ=.ok (.nx ρ')):ay F G ρ=G ρ':=by unfold ay;rw[h];rfl
def mw(h:F ρ=.ok (.rt t)):ay F G ρ=.ok (.rt t):=by unfold ay;rw[h];rfl
def yO(h:F ρ=.ok (.ct ρ')):ay F G ρ=.ok (.ct ρ'):=by unfold ay;rw[h];rfl
def yN{c:Str}(h:F ρ=.err c):ay F G ρ=.err c:=by unfold ay;rw[h];rfl
def jn(h:b ρ=.ok ZC):dP b F G ρ=F ρ:=by unfold dP;rw[h];rfl
def du(h:b ρ=.ok ZD):dP b F G ρ=G ρ:=by unfold dP;rw[h];rfl
def cO(h:f ρ=.ok t):aF f ρ=.ok (.rt t):=by unfold aF;rw[h];rfl
def ED{c:Str}(h:f ρ=.err c):aF f ρ=.err c:=by unfold aF;rw[h];rfl
def yS(h:f ρ=.ok t):zZ f ρ=.ok (.nx ρ):=by unfold zZ;rw[h];rfl
def jo{x:Fl}(h:fi ρ=.ok ts)(h2:bw g F ts ρ=.ok x):gz fi g F ρ=.ok x:=by unfold gz;rw[h];show(match bw g F ts ρ with|.ok f=>Rs.ok f|_=>.bad)=_;rw[h2]
def fY(h:g t ρ=.ok ρ1)(h2:F ρ1=.ok (.nx ρ2)):bw g F (t::ts) ρ=bw g F ts ρ2:=by rw[bw,h];show(F ρ1 >>= _)=_;rw[h2];rfl
def Bz(h:g t ρ=.ok ρ1)(h2:F ρ1=.ok (.ct ρ2)):bw g F (t::ts) ρ=bw g F ts ρ2:=by rw[bw,h];show(F ρ1 >>= _)=_;rw[h2];rfl
def By(h:g t ρ=.ok ρ1)(h2:F ρ1=.ok (.rt r)):bw g F (t::ts) ρ=.ok (.rt r):=by rw[bw,h];show(F ρ1 >>= _)=_;rw[h2];rfl
def yK(h:c ρ=.ok ZD):bH c F (n+1) ρ=.ok (.nx ρ):=by unfold bH;rw[h]
def rM(h:c ρ=.ok ZC)(h2:F ρ=.ok (.nx ρ')):bH c F (n+1) ρ=bH c F n ρ':=by rw[bH,h];simp only[h2]
def yJ(h:c ρ=.ok ZC)(h2:F ρ=.ok (.rt t)):bH c F (n+1) ρ=.ok (.rt t):=by rw[bH,h];simp only[h2]
def bM{m:Nat}(hl:ts.length=n)(h:F (aK m ts)=.ok (.rt t)):val n m F ts=.ok t:=by unfold val;rw[if_pos hl];unfold bA;rw[h];rfl
def yM{m:Nat}{c:Str}(hl:ts.length=n)(h:F (aK m ts)=.err c):val n m F ts=.err c:=by unfold val;rw[if_pos hl];unfold bA;rw[h];rfl
def yL{m:Nat}(hl:ts.length=n)(h:F (aK m ts)=.ok (.nx ρ)):val n m F ts=.ok .non:=by unfold val;rw[if_pos hl];unfold bA;rw[h];rfl
def Hf{h:Str->Rs T}{k:Fl}(e:F ρ=.ok k):qX F h ρ=.ok k:=by unfold qX;rw[e]
def EC{h:Str->Rs T}{c:Str}(e:F ρ=.err c)(e2:h c=.ok t):qX F h ρ=.ok (.rt t):=by unfold qX;rw[e];simp only[e2]
def mx{src:List (Option Nat)}(hi:fi ρ=.ok ts)(hs:ts.length<=ZI)(hn:0<src.length)(hf:∀t∈ts,fe ((cJ src ρ).set 0 (.va t))=.ok (h t)):
  d9 fi src (gN 0) bT fe ρ=.ok (.lst (ts.map h)):=by
 have e:=tu (fe:=fe) (h:=h) ts (cJ src ρ) (by unfold cJ;rw[JE];exact hn) hf
 unfold d9;rw[hi,aA,if_pos hs,e]
def CF{src:List (Option Nat)}{fc:V7}(hi:fi ρ=.ok ts)(hs:ts.length<=ZI)(hn:0<src.length)
  (hf:∀t∈ts,fc ((cJ src ρ).set 0 (.va t))=.ok (p t)/\(p t=ZC->fe ((cJ src ρ).set 0 (.va t))=.ok (h t))):d9 fi src (gN 0) fc fe ρ=.ok (.lst ((ts.filter p).map h)):=by
 have e:=nW (fc:=fc) (fe:=fe) (p:=p) (h:=h) ts (cJ src ρ) (by unfold cJ;rw[JE];exact hn) hf
 unfold d9;rw[hi,aA,if_pos hs,e]
def b7(h:fs ρ=.ok ts)(hl:ts.length<=ZI):a8 fs ρ=.ok (.tup ts):=by unfold a8;rw[h];show gW ts=_;unfold gW;rw[if_pos hl]
def jm(h:fs ρ=.ok ts)(hl:ts.length<=ZI):ez fs ρ=.ok (.lst ts):=by unfold ez;rw[h];show jl ts=_;unfold jl;rw[if_pos hl]
def yP{f:V4}(h:f ρ=.ok l)(hi:i<ρ.length)(hl:l.length<=1000):jg i f ρ=.ok (.nx (ρ.set i (.ow (.lst l)))):=by
 unfold jg;rw[h,aA,if_pos ⟨hi,aN hl (by omega)⟩]
def yQ(hi:i<ρ.length):jg i ai ρ=.ok (.nx (ρ.set i (.ow (.lst [])))):=yP rfl hi (KI _)
def yT(h:f ρ=.ok t)(hi:ρ[i]?=ZA (.ow (.lst l)))(hl:l.length<=1000):nh i f ρ=.ok (.nx (ρ.set i (.ow (.lst (l++[t]))))):=by
 unfold nh;rw[hi];simp only[h,aA];rw[if_pos (by unfold ZI;omega)]
def yR(h:f ρ=.ok (.lst m))(hi:ρ[i]?=ZA (.ow (.lst l)))(hl:l.length+m.length<=1000):lX i f ρ=.ok (.nx (ρ.set i (.ow (.lst (l++m))))):=by
 unfold lX;rw[hi];simp only[h,aA,EX];rw[if_pos (by unfold ZI;omega)]
def EI(h:f ρ=.ok (.tup l)):iS f ρ=.ok l:=by unfold iS;rw[h];rfl
def uK(h:f ρ=.ok (.lst l)):iS f ρ=.ok l:=by unfold iS;rw[h];rfl
def CG(h:fs ρ=.ok [.lst l]):iE fs ρ=.ok (bO 0 l):=by unfold iE;rw[h];rfl
def Hk(e:l[n]?=ZA t):aS (.tup l) (.int (n:Int))=.ok t:=by show(match L2.atI l _ with|some t=>Rs.ok t|none=>.bad)=_;rw[jE e]
def EG(e:l[n]?=ZA t):aS (.lst l) (.int (n:Int))=.ok t:=by show(match L2.atI l _ with|some t=>Rs.ok t|none=>.bad)=_;rw[jE e]
def wc(h:fa ρ=.ok (.tup l))(h2:fb ρ=.ok (.int (n:Int)))(e:l[n]?=ZA t):o2 aS fa fb ρ=.ok t:=aI h h2 (Hk e)
def Hl(h:fa ρ=.ok (.lst l))(h2:fb ρ=.ok (.int (n:Int)))(e:l[n]?=ZA t):o2 aS fa fb ρ=.ok t:=aI h h2 (EG e)
def Bx{fl fu:En->Rs (Option Int)}(h:fe ρ=.ok (.tup l))(h1:fl ρ=.ok lo)(h2:fu ρ=.ok hi):sl fe fl fu ρ=.ok (.tup (kc l lo hi)):=by
 unfold sl;rw[h,h1,h2];rfl
def CC{fl fu:En->Rs (Option Int)}(h:fe ρ=.ok (.lst l))(h1:fl ρ=.ok lo)(h2:fu ρ=.ok hi):sl fe fl fu ρ=.ok (.lst (kc l lo hi)):=by
 unfold sl;rw[h,h1,h2];rfl
def k_pS{i:Int}(h:f ρ=.ok (.int i)):pS f ρ=.ok (ZA i):=by unfold pS;rw[h];rfl
def zD(l:List T)(n:Nat):kc l ZB (ZA (n:Int))=l.take n:=by
 unfold kc;rw[HT.sIx_none,HT.sIx_nat,Qa,Mg,List.take_eq_take_iff];omega
def zE(l:List T)(n:Nat):kc l (ZA (n:Int)) ZB=l.drop n:=by
 unfold kc;rw[HT.sIx_none,HT.sIx_nat]
 by_cases h:n<=l.length
 ·rw[Nat.min_eq_left h]
  exact Nr (by rw[Lo];omega)
 ·rw[Nat.min_eq_right (by omega),Mt (JO _),Mt (by omega),List.take_nil]
def k_ln{o:OT}(hi:ρ[i]?=ZA (.ow o))(h:f (disown i ρ)=.ok t)(hk:t.nk o.isD=ZC):ln i f ρ=.ok t:=by
 unfold ln;rw[hi];simp only[h,aA,hk,if_true]
def Hi(h:b (disown i ρ)=.ok k):Et i b ρ=.ok k:=h
def Ho{x:Rs Fl}(h:F (disown i ρ)=x):pj i F ρ=x:=h
end
def mk2(a b:T):gW [a,b]=.ok (.tup [a,b]):=by unfold gW;rw[if_pos (aN (k:=1000) (by simp only[JJ,Le];omega))]
def iK(n:Nat):(rng 0 n).length=n:=by unfold rng;rw[JE,L6];omega
end Tr
variable{M:Nat}{s:Int}{w:List Nat}
namespace Gr
variable {ν:Type}[DecidableEq ν]
abbrev b8(ν:Type):=List (ν×ν×Int)
inductive Wk (L:b8 ν):ν->ν->Int->Prop
 |nil (a:ν):Wk L a a 0
 |step {a b c:ν} {m s:Int}:(a,b,m)∈L->Wk L b c s->Wk L a c (m+s)
def Wk.one{L:b8 ν}{a b:ν}(h:(a,b,m)∈L):Wk L a b m:=by
 have:=Wk.step h (Wk.nil (L:=L) b)
 rwa [Int.add_zero]at this
def Wk.app{L:b8 ν}{a b c:ν}{t:Int}(h:Wk L a b s)(k:Wk L b c t):Wk L a c (s+t):=by
 induction h with
 |nil a=>rwa [Int.zero_add]
 |step e _ ih=>rw[Int.add_assoc];exact .step e (ih k)
def Holds(L:b8 ν)(t:ν->Int):Prop:=∀a b m,(a,b,m)∈L->t b - t a<=m
def Holds.walk{L:b8 ν}{t:ν->Int}(h:Holds L t){a b:ν}(w:Wk L a b s):t b - t a<=s:=by
 induction w with
 |nil a=>omega
 |step e _ ih=>have:=h _ _ _ e;omega
def se(L:b8 ν):Prop:=∀a s,Wk L a a s->0<=s
def Holds.Jj{L:b8 ν}{t:ν->Int}(h:Holds L t):se L:=λa s w=>by have:=h.walk w;omega
def Ch(L:b8 ν):ν->List Nat->ν->Prop
 |a,[],b=>a=b
 |a,k::r,b=>∃c m,L[k]?=ZA (a,c,m)/\Ch L c r b
def most(L:b8 ν)(k:Nat):Int:=match L[k]? with
 |some x=>x.2.2
 |none=>0
def ee(L:b8 ν):List Nat->Int
 |[] =>0
 |k::r=>most L k+ee L r
theorem kf(L:b8 ν):∀(p q:List Nat),ee L (p++q)=ee L p+ee L q
 |[],q=>by simp[ee]
 |k::p,q=>by rw[List.cons_append,ee,ee,kf L p q];omega
theorem Ch.wk{L:b8 ν}:∀{ks:List Nat}{a b:ν},Ch L a ks b->Wk L a b (ee L ks)
 |[],a,b,h=>by cases h;exact .nil a
 |k::r,a,b,⟨c,m,e,h⟩=>by
  have:ee L (k::r)=m+ee L r:=by rw[ee,most,e]
  rw[this];exact .step (K5 e) h.wk
theorem Ch.app{L:b8 ν}:∀{p q:List Nat}{a b c:ν},Ch L a p b->Ch L b q c->Ch L a (p++q) c
 |[],q,a,b,c,h,k=>by cases h;exact k
 |x::p,q,a,b,c,⟨d,m,e,h⟩,k=>⟨d,m,e,Ch.app h k⟩
theorem Ch.lt{L:b8 ν}:∀{ks:List Nat}{a b:ν},Ch L a ks b->∀k∈ks,k<L.length
 |[],_,_,_,k,hk=>by simp at hk
 |x::r,a,b,⟨c,m,e,h⟩,k,hk=>by
  rcases JL.mp hk with rfl|hk
  ·exact(Kb.mp e).1
  ·exact h.lt k hk
def Ch.snoc{L:b8 ν}{a b c:ν}(h:Ch L a p b)(e:L[k]?=ZA (b,c,m)):Ch L a (p++[k]) c:=h.app ⟨c,m,e,rfl⟩
def src(L:b8 ν)(k:Nat):Option ν:=(L[k]?).map (·.1)
abbrev b6(ν:Type):=ν->Option (Int×List Nat)
def put(b:b6 ν)(v:ν)(x:Int×List Nat):b6 ν:=λu=>if u=v then ZA x else b u
def dU{b:b6 ν}{v:ν}:put b v x v=ZA x:=by unfold put;rw[if_pos rfl]
def jw{b:b6 ν}{u v:ν}(h:u≠v):put b v x u=b u:=by unfold put;rw[if_neg h]
def d8(L:b8 ν)(ks:List Nat):List ν:=ks.filterMap (src L)
def dZ(b:b6 ν)(v:ν)(d:Int):Bool:=match b v with
 |none=>ZC
 |some x=>decide (d<x.1)
def gk(L:b8 ν)(b:b6 ν)(k:Nat)(x:ν×ν×Int):Sum (Option (b6 ν)) (List Nat):=match b x.1 with
 |none=>.inl ZB
 |some (d,w)=>if dZ b x.2.1 (d+x.2.2)=ZC then
   if x.2.1∈d8 L (w++[k])then .inr ((w++[k]).drop ((d8 L (w++[k])).idxOf x.2.1))else .inl (ZA (put b x.2.1 (d+x.2.2,w++[k])))
  else .inl ZB
def gS(L:b8 ν):Nat->b8 ν->b6 ν->Bool->Sum (b6 ν×Bool) (List Nat)
 |_,[],b,mv=>.inl (b,mv)
 |k,x::r,b,mv=>match gk L b k x with
  |.inr q=>.inr q
  |.inl ZB=>gS L (k+1) r b mv
  |.inl (ZA b')=>gS L (k+1) r b' ZC
def settle(L:b8 ν):Nat->b6 ν->Option (Sum (b6 ν) (List Nat))
 |0,_=>ZB
 |n+1,b=>match gS L 0 L b ZD with
  |.inr q=>ZA (.inr q)
  |.inl (b',ZC)=>settle L n b'
  |.inl (b',ZD)=>ZA (.inl b')
def pC(L:b8 ν)(p q:List Nat):d8 L (p++q)=d8 L p++d8 L q:=by unfold d8;rw[List.filterMap_append]
def pB{L:b8 ν}{x:ν×ν×Int}(e:L[k]?=ZA x):d8 L [k]=[x.1]:=by unfold d8 src;simp[e]
def Ch.Iz{L:b8 ν}{a b:ν}(h:Ch L a (k::r) b):d8 L (k::r)=a::d8 L r:=by
 obtain⟨c,m,e,_⟩:=h;rw[show k::r=[k] ++r from rfl,pC,pB e];rfl
theorem Ch.cut{L:b8 ν}{v:ν}:∀{ks:List Nat}{a b:ν},Ch L a ks b->v∈d8 L ks->Ch L a (ks.take ((d8 L ks).idxOf v)) v/\Ch L v (ks.drop ((d8 L ks).idxOf v)) b/\(d8 L ks).idxOf v<ks.length
 |[],a,b,_,hv=>by simp[d8]at hv
 |k::r,a,b,h,hv=>by
  rw[h.Iz]at hv ⊢
  have h0:=h;obtain⟨c,m,e,h⟩:=h
  by_cases z:a=v
  ·subst z
   rw[List.idxOf_cons_self];exact⟨rfl,h0,by simp⟩
  ·have hv':v∈d8 L r:=by
    rcases JL.mp hv with q|q
    ·exact absurd q.symm z
    ·exact q
   obtain⟨h1,h2,h3⟩:=h.cut hv'
   have ei:(a::d8 L r).idxOf v=(d8 L r).idxOf v+1:=by
    rw[Sn]
    have:(a == v)=ZD:=by rw[beq_eq_false_iff_ne];exact z
    rw[this];rfl
   rw[ei];exact⟨⟨c,m,e,h1⟩,h2,by simpa using h3⟩
structure Kept (L:b8 ν)(S:List ν)(b:b6 ν):Prop where
 walk:∀v d w,b v=ZA (d,w)->∃s∈S,Ch L s w v/\ee L w=d/\v∉d8 L w/\(d8 L w).Nodup/\∀p q u,w=p++q->Ch L s p u->∃d' w',b u=ZA (d',w')/\d'<=ee L p
 start:∀s∈S,∃d w,b s=ZA (d,w)/\d<=0
theorem Kept.put{L:b8 ν}{S:List ν}{b:b6 ν}(K:Kept L S b){a c:ν}{d:Int}(e:L[k]?=ZA (a,c,m))(ha:b a=ZA (d,w))(hb:dZ b c (d+m)=ZC)(hn:c∉d8 L (w++[k])):
  Kept L S (put b c (d+m,w++[k])):=by
 have low:∀u d' w',b u=ZA (d',w')->∃d'' w'',Gr.put b c (d+m,w++[k]) u=ZA (d'',w'')/\d''<=d':=λu d' w' h=>by
  by_cases z:u=c
  ·subst z
   refine⟨_,_,dU,?_⟩
   unfold dZ at hb;rw[h]at hb
   have:=of_decide_eq_true hb;omega
  ·exact⟨d',w',by rw[jw z];exact h,So _⟩
 obtain⟨s,hs,h1,h2,h3,h4,h5⟩:=K.walk a d w ha
 have hch:Ch L s (w++[k]) c:=h1.snoc e
 have hcost:ee L (w++[k])=d+m:=by rw[kf,h2,ee,ee,most,e];simp
 refine⟨λv d' w' h=>?_,λs' hs'=>?_⟩
 ·by_cases z:v=c
  ·subst z
   rw[dU]at h;cases h;refine⟨s,hs,hch,hcost,hn,?_,λp q u hpq hp=>?_⟩
   ·rw[pC,pB e]
    exact LC.mpr ⟨h4,by simp,λx hx y hy=>by simp at hy;subst hy;exact λz=>h3 (z▸hx)⟩
   ·by_cases hq:q=[]
    ·subst hq
     rw[Kr]at hpq;subst hpq
     have:u=v:=by
      clear low hb hn h5
      have aux:∀{ks:List Nat}{x y z:ν},Ch L x ks y->Ch L x ks z->y=z:=by
       intro ks
       induction ks with
       |nil=>intro x y z h1 h2;cases h1;cases h2;rfl
       |cons k r ih=>
        rintro x y z ⟨c1,m1,e1,r1⟩ ⟨c2,m2,e2,r2⟩
        rw[e1]at e2;cases e2;exact ih r1 r2
      exact aux hp hch
     subst this;exact⟨_,_,dU,by rw[hcost];exact So _⟩
    ·have hw:∃q',w=p++q':=by
      refine⟨q.dropLast,?_⟩
      have:=congrArg List.dropLast hpq;rw[List.dropLast_concat,List.dropLast_append_of_ne_nil hq]at this;exact this
     obtain⟨q',hw⟩:=hw;obtain⟨d1,w1,e1,l1⟩:=h5 p q' u hw hp;obtain⟨d2,w2,e2,l2⟩:=low u d1 w1 e1;exact⟨d2,w2,e2,by omega⟩
  ·rw[jw z]at h
   obtain⟨s',hs',g1,g2,g3,g4,g5⟩:=K.walk v d' w' h;refine⟨s',hs',g1,g2,g3,g4,λp q u hpq hp=>?_⟩
   obtain⟨d1,w1,e1,l1⟩:=g5 p q u hpq hp;obtain⟨d2,w2,e2,l2⟩:=low u d1 w1 e1;exact⟨d2,w2,e2,by omega⟩
 ·obtain⟨d1,w1,e1,l1⟩:=K.start s' hs'
  obtain⟨d2,w2,e2,l2⟩:=low s' d1 w1 e1;exact⟨d2,w2,e2,by omega⟩
def Bar(L:b8 ν)(q:List Nat):Prop:=q≠ []/\(∃a,Ch L a q a)/\ee L q<0/\(d8 L q).Nodup
theorem Ch.II{L:b8 ν}:∀{ks:List Nat}{a b:ν}(i:Nat),Ch L a ks b->d8 L (ks.drop i)=(d8 L ks).drop i
 |[],_,_,i,_=>by simp[d8]
 |k::r,a,b,0,_=>rfl
 |k::r,a,b,i+1,h=>by
  have:=h;obtain⟨c,m,e,h'⟩:=this;rw[h.Iz,Qn,Qn,h'.II i]
def Kept.round{L:b8 ν}{S:List ν}{b:b6 ν}(K:Kept L S b){a c:ν}{d:Int}(e:L[k]?=ZA (a,c,m))(ha:b a=ZA (d,w))(hb:dZ b c (d+m)=ZC)(hn:c∈d8 L (w++[k])):
  Bar L ((w++[k]).drop ((d8 L (w++[k])).idxOf c)):=by
 obtain⟨s,hs,h1,h2,h3,h4,h5⟩:=K.walk a d w ha
 have hch:Ch L s (w++[k]) c:=h1.snoc e
 have hcost:ee L (w++[k])=d+m:=by rw[kf,h2,ee,ee,most,e];simp
 obtain⟨c1,c2,c3⟩:=hch.cut hn
 generalize hi:(d8 L (w++[k])).idxOf c=i at c1 c2 c3
 refine⟨λz=>?_,⟨c,c2⟩,?_,?_⟩
 ·have:=congrArg Lh z
  rw[Lo]at this
  simp at this c3
  omega
 ·have hsum:ee L ((w++[k]).take i)+ee L ((w++[k]).drop i)=d+m:=by rw[<-kf,Pv,hcost]
  have hiw:i<=w.length:=by simp at c3;omega
  have ht:(w++[k]).take i=w.take i:=by rw[List.take_append_of_le_length hiw]
  rw[ht]at c1 hsum;obtain⟨d1,w1,e1,l1⟩:=h5 (w.take i) (w.drop i) c (Pv i w).symm c1;unfold dZ at hb;rw[e1]at hb
  have:=of_decide_eq_true hb;simp only at this;omega
 ·rw[hch.II,pC,pB e]
  refine(List.drop_sublist _ _).nodup (LC.mpr ⟨h4,by simp,λx hx y hy=>?_⟩)
  rw[JY.mp hy];exact λz=>h3 (by have z:x=a:=z;rw[<-z];exact hx)
def size(L:b8 ν):Nat:=(L.map λx=>x.2.2.natAbs).sum
theorem jc{f:Nat->Nat}:∀{ks rs:List Nat},ks.Nodup->(∀k∈ks,k∈rs)->(ks.map f).sum<=(rs.map f).sum
 |[],rs,_,_=>by simp
 |k::ks,rs,hn,hs=>by
  have hk:k∈rs:=hs k JI;rw[KA]at hn
  have hp:=List.perm_cons_erase hk
  have e:(rs.map f).sum=f k+((rs.erase k).map f).sum:=by
   have:=(hp.map f).sum_nat
   rwa [JG,K1]at this
  rw[e,JG,K1]
  have:=jc (f:=f) hn.2 (rs:=rs.erase k) λj hj=>by
   have h1:=hs j (JF _ hj);exact(P2 (λ(z:j=k)=>hn.1 (z▸hj))).mpr h1
  omega
def sM(L:b8 ν):size L=((KS L.length).map λk=>(most L k).natAbs).sum:=by
 unfold size
 congr 1
 apply List.ext_getElem
 ·simp
 ·intro i h1 h2
  simp only[Pa,List.getElem_range];unfold most;rw[JW (by simpa using h1)]
theorem u9(L:b8 ν):∀(ks:List Nat),(ee L ks).natAbs<=(ks.map λk=>(most L k).natAbs).sum
 |[] =>by simp[ee]
 |k::r=>by
  have:=u9 L r;rw[ee,JG,K1];omega
theorem Ch.nodup{L:b8 ν}:∀{ks:List Nat}{a b:ν},Ch L a ks b->(d8 L ks).Nodup->ks.Nodup
 |[],_,_,_,_=>MR
 |k::r,a,b,h,hn=>by
  have h0:=h;rw[h.Iz,KA]at hn;obtain⟨c,m,e,h⟩:=h;rw[KA];refine⟨λhk=>hn.1 ?_,h.nodup hn.2⟩
  unfold d8 src;exact Od.mpr ⟨k,hk,by rw[e];rfl⟩
def Ch.small{L:b8 ν}{a b:ν}(h:Ch L a ks b)(hn:(d8 L ks).Nodup):(ee L ks).natAbs<=size L:=by
 rw[sM];exact J5 (u9 L ks) (jc (h.nodup hn) λk hk=>Lu.mpr (h.lt k hk))
def val(M:Nat)(b:b6 ν)(v:ν):Nat:=match b v with
 |none=>2*M+1
 |some x=>(x.1+M).toNat
def left(M:Nat)(b:b6 ν)(L:b8 ν):Nat:=(L.map λx=>val M b x.2.1).sum
theorem uF{b b':b6 ν}:∀{L:b8 ν},(∀x∈L,val M b' x.2.1<=val M b x.2.1)->left M b' L<=left M b L
 |[],_=>by simp[left]
 |x::L,h=>by
  have h1:=h x JI
  have h2:=uF (L:=L) λy hy=>h y (JF _ hy)
  unfold left at h2 ⊢;rw[JG,K1,JG,K1];omega
theorem uE{b b':b6 ν}{x:ν×ν×Int}:∀{L:b8 ν},x∈L->(∀x∈L,val M b' x.2.1<=val M b x.2.1)->val M b' x.2.1<val M b x.2.1->left M b' L<left M b L
 |[],hx,_,_=>by simp at hx
 |y::L,hx,h,hl=>by
  have h1:=h y JI
  have h2:=uF (L:=L) λy hy=>h y (JF _ hy)
  unfold left at h2 ⊢;rw[JG,K1,JG,K1];rcases JL.mp hx with rfl|hx
  ·omega
  ·have h3:=uE (L:=L) hx (λy hy=>h y (JF _ hy)) hl
   unfold left at h3;omega
def yB{L:b8 ν}{S:List ν}{b:b6 ν}(K:Kept L S b){a c:ν}{d:Int}(e:L[k]?=ZA (a,c,m))(ha:b a=ZA (d,w))(hb:dZ b c (d+m)=ZC)(hn:c∉d8 L (w++[k])):
  left (size L) (put b c (d+m,w++[k])) L<left (size L) b L:=by
 have K':=K.put e ha hb hn;obtain⟨s,hs,h1,h2,h3,h4,h5⟩:=K'.walk c (d+m) (w++[k]) dU
 have sm:=h1.small h4;rw[h2]at sm
 have lt:val (size L) (put b c (d+m,w++[k])) c<val (size L) b c:=by
  unfold val dZ at*;rw[dU]
  cases z:b c with
  |none=>simp only;omega
  |some y=>
   rw[z]at hb
   have hb:=of_decide_eq_true hb;simp only;omega
 refine uE (x:=(a,c,m)) (K5 e) (λy _=>?_) lt
 by_cases z:y.2.1=c
 ·rw[z];exact Mf lt
 ·unfold val;rw[jw z];exact JO _
def zQ(b:b6 ν)(x:ν×ν×Int):Prop:=∀d w,b x.1=ZA (d,w)->∃d' w',b x.2.1=ZA (d',w')/\d'<=d+x.2.2
def xw{b:b6 ν}{x:ν×ν×Int}(h:∀d w,b x.1=ZA (d,w)->dZ b x.2.1 (d+x.2.2)=ZD):zQ b x:=λd w e=>by
 have:=h d w e;unfold dZ at this
 cases z:b x.2.1 with
 |none=>rw[z]at this;cases this
 |some y=>
  rw[z]at this
  have:=of_decide_eq_false this;exact⟨y.1,y.2,rfl,by omega⟩
theorem hV{L:b8 ν}{S:List ν}:∀(r:b8 ν)(k:Nat)(b:b6 ν)(mv:Bool),L.drop k=r->Kept L S b->match gS L k r b mv with
  |.inr q=>Bar L q
  |.inl (b',mv')=>Kept L S b'/\(mv'=ZD->mv=ZD/\b'=b/\∀x∈r,zQ b x)/\left (size L) b' L<=left (size L) b L/\(mv'=ZC->mv=ZC\/left (size L) b' L<left (size L) b L)
 |[],k,b,mv,_,K=>⟨K,λh=>⟨h,rfl,λx hx=>by simp at hx⟩,JO _,λh=>.inl h⟩
 |x::r,k,b,mv,hr,K=>by
  have e:L[k]?=ZA x:=by
   have:=congrArg (·[0]?) hr
   simpa using this
  have hr':L.drop (k+1)=r:=by
   have:=congrArg (List.drop 1) hr
   simpa [Oq,Of]using this
  rw[gS];obtain⟨a,c,m⟩:=x;unfold gk
  cases z:b a with
  |none=>
   simp only[z]
   have ih:=hV r (k+1) b mv hr' K
   revert ih
   generalize gS L (k+1) r b mv=R
   cases R with
   |inr q=>exact id
   |inl p=>
    obtain⟨b',mv'⟩:=p
    rintro ⟨i1,i2,i3,i4⟩
    refine⟨i1,λh=>?_,i3,i4⟩
    obtain⟨j1,j2,j3⟩:=i2 h;refine⟨j1,j2,λx hx=>?_⟩
    rcases JL.mp hx with rfl|hx
    ·intro d w q;rw[z]at q;cases q
    ·exact j3 x hx
  |some y=>
   obtain⟨d,w⟩:=y;simp only[z]
   by_cases hb:dZ b c (d+m)=ZC
   ·rw[if_pos hb]
    by_cases hn:c∈d8 L (w++[k])
    ·rw[if_pos hn]
     exact K.round e z hb hn
    ·rw[if_neg hn]
     have K':=K.put e z hb hn
     have lt:=yB K e z hb hn
     have ih:=hV r (k+1) (put b c (d+m,w++[k])) ZC hr' K'
     revert ih
     simp only
     generalize gS L (k+1) r (put b c (d+m,w++[k])) ZC=R
     cases R with
     |inr q=>exact id
     |inl p=>
      obtain⟨b',mv'⟩:=p
      rintro ⟨i1,i2,i3,i4⟩
      refine⟨i1,λh=>?_,by omega,λ_=>.inr (by omega)⟩
      obtain⟨j1,_⟩:=i2 h;cases j1
   ·rw[if_neg hb]
    have ih:=hV r (k+1) b mv hr' K
    revert ih
    simp only
    generalize gS L (k+1) r b mv=R
    cases R with
    |inr q=>exact id
    |inl p=>
     obtain⟨b',mv'⟩:=p
     rintro ⟨i1,i2,i3,i4⟩
     refine⟨i1,λh=>?_,i3,i4⟩
     obtain⟨j1,j2,j3⟩:=i2 h;refine⟨j1,j2,λx hx=>?_⟩
     rcases JL.mp hx with rfl|hx
     ·refine xw λd' w' q=>?_
      simp only at q;rw[z]at q;cases q
      simpa using hb
     ·exact j3 x hx
structure Settled (L:b8 ν)(S:List ν)(b:b6 ν):Prop where
 walk:∀v d w,b v=ZA (d,w)->∃s∈S,Ch L s w v/\ee L w=d/\v∉d8 L w/\(d8 L w).Nodup
 least:∀s∈S,∀v t,Wk L s v t->∃d w,b v=ZA (d,w)/\d<=t
def sO{L:b8 ν}{S:List ν}{b:b6 ν}(K:Kept L S b)(h:∀x∈L,zQ b x):Settled L S b where
 walk:=λv d w e=>by
  obtain⟨s,h1,h2,h3,h4,h5,_⟩:=K.walk v d w e;exact⟨s,h1,h2,h3,h4,h5⟩
 least:=by
  have go:∀{u v:ν}{t:Int},Wk L u v t->∀d w,b u=ZA (d,w)->∃d' w',b v=ZA (d',w')/\d'<=d+t:=by
   intro u v t hw
   induction hw with
   |nil a=>exact λd w e=>⟨d,w,e,by omega⟩
   |step e _ ih=>
    intro d w q;obtain⟨d1,w1,e1,l1⟩:=h _ e d w q;obtain⟨d2,w2,e2,l2⟩:=ih d1 w1 e1;exact⟨d2,w2,e2,by simp only at l1;omega⟩
  intro s hs v t hw;obtain⟨d,w,e,l⟩:=K.start s hs;obtain⟨d2,w2,e2,l2⟩:=go hw d w e;exact⟨d2,w2,e2,by omega⟩
theorem nK{L:b8 ν}{S:List ν}:∀(n:Nat)(b:b6 ν),Kept L S b->left (size L) b L<n->∃r,settle L n b=ZA r/\match r with
  |.inr q=>Bar L q
  |.inl b'=>Settled L S b'
 |0,b,K,h=>by omega
 |n+1,b,K,h=>by
  have s:=hV (S:=S) L 0 b ZD rfl K;rw[settle]
  revert s
  generalize gS L 0 L b ZD=R
  cases R with
  |inr q=>exact λs=>⟨_,rfl,s⟩
  |inl p=>
   obtain⟨b',mv'⟩:=p
   rintro ⟨i1,i2,i3,i4⟩
   cases mv' with
   |false=>
    obtain⟨_,j2,j3⟩:=i2 rfl;subst j2
    exact⟨_,rfl,sO i1 j3⟩
   |true=>
    rcases i4 rfl with z|z
    ·cases z
    ·exact nK n b' i1 (by omega)
def start(S:List ν):b6 ν:=λv=>if v∈S then ZA (0,[])else ZB
def mr(L:b8 ν)(S:List ν):Kept L S (start S) where
 walk:=λv d w e=>by
  unfold start at e
  split at e
  ·rename_i h
   cases e;refine⟨v,h,rfl,rfl,by simp[d8],by simp[d8],λp q u hpq hp=>?_⟩
   obtain⟨rfl,rfl⟩:=List.append_eq_nil_iff.mp hpq.symm;cases hp;exact⟨0,[],by unfold start;rw[if_pos h],by simp[ee]⟩
  ·cases e
 start:=λs hs=>⟨0,[],by unfold start;rw[if_pos hs],So _⟩
def yC(L:b8 ν)(S:List ν):left (size L) (start S) L<=L.length*(2*size L+1):=by
 unfold left
 have:∀M:b8 ν,(M.map λx=>val (size L) (start S) x.2.1).sum<=M.length*(2*size L+1):=by
  intro M
  induction M with
  |nil=>simp
  |cons x M ih=>
   rw[JG,K1,JJ,Oe]
   have:val (size L) (start S) x.2.1<=2*size L+1:=by
    unfold val start;split
    ·exact JO _
    ·rename_i h
     split at h
     ·cases h;simp;omega
     ·cases h
   omega
 exact this L
theorem sP(L:b8 ν)(S:List ν)(h:L.length*(2*size L+1)<n):∃r,settle L n (start S)=ZA r/\match r with
  |.inr q=>Bar L q
  |.inl b'=>Settled L S b':=nK n (start S) (mr L S) (QQ (yC L S) h)
def Bar.neg{L:b8 ν}{q:List Nat}(h:Bar L q):¬ se L:=λn=>by
 obtain⟨_,⟨a,ha⟩,hc,_⟩:=h
 have:=n a _ ha.wk;omega
def Settled.holds{L:b8 ν}{S:List ν}{b:b6 ν}(h:Settled L S b)(hS:∀x∈L,x.1∈S/\x.2.1∈S){t:ν->Int}(ht:∀v∈S,∃w,b v=ZA (t v,w)):Holds L t:=λa c m hx=>by
 obtain⟨ha,hc⟩:=hS _ hx;obtain⟨w,e⟩:=ht a ha;obtain⟨s,hs,h1,h2,_⟩:=h.walk a _ _ e;obtain⟨d,w',e',l⟩:=h.least s hs c _ (h1.wk.app (.one hx));obtain⟨w2,e2⟩:=ht c hc;rw[e2]at e';cases e';omega
abbrev tR(ν:Type):=ν->ν->Option Int
def Hy(f:tR ν)(a b:ν)(x:Int):tR ν:=λu v=>if u=a/\v=b then ZA x else f u v
def HC(f:tR ν)(a b:ν)(x:Int):tR ν:=match f a b with
 |none=>Hy f a b x
 |some y=>if x<y then Hy f a b x else f
def Hw(mid one other:ν)(f:tR ν):tR ν:=match f one mid,f mid other with
 |some x,ZA y=>HC f one other (x+y)
 |_,_=>f
def tab0(P:List ν):tR ν:=λu v=>if u∈P/\u=v then ZA 0 else ZB
def tab1(P:List ν)(L:b8 ν):tR ν:=L.foldl (λf x=>HC f x.1 x.2.1 x.2.2) (tab0 P)
def BF(mid one:ν)(P:List ν)(f:tR ν):tR ν:=P.foldl (λf other=>Hw mid one other f) f
def Hz(mid:ν)(Q P:List ν)(f:tR ν):tR ν:=Q.foldl (λf one=>BF mid one P f) f
def HB(M P:List ν)(f:tR ν):tR ν:=M.foldl (λf mid=>Hz mid P P f) f
def table(P:List ν)(L:b8 ν):tR ν:=HB P P (tab1 P L)
end Gr
variable{i j:Int}
namespace G
open PySem Tr
def FH:T->Bool
 |.int _=>ZC
 |_=>ZD
def uX(t:T)(h:t.pl=ZC):ef [t]=.ok (.bl (FH t)):=by
 cases t <;> first|rfl| (simp[T.pl]at h;done)
def within(t:T)(a b:Int):Bool:=match t with
 |.int i=>decide (a<=i)&&decide (i<=b)
 |_=>ZD
def eO(t:T)(a b:Int)(h:t.pl=ZC):aU [t,.int a,.int b]=.ok (.bl (within t a b)):=by
 have w:=uX t h
 cases t with
 |int i=>
  simp[aU,val,bA,iC,aK,aF,bZ,vr,ch,cl,ae,ai,tJ,within,w,FH]
  cases decide (a<=i) <;> rfl
 |scr _=>simp[T.pl]at h
 |dct _ _=>simp[T.pl]at h
 |ob _ _ _=>simp[T.pl]at h
 |_=>simp[aU,val,bA,iC,aK,aF,bZ,vr,ch,cl,ae,ai,within,w,FH]
def c8(t:T)(a b:Nat):Bool:=match t with
 |.tup l=>decide (a<=l.length)&&decide (l.length<=b)
 |_=>ZD
def iw(t:T)(a b:Nat)(h:t.pl=ZC):aL [t,.int a,.int b]=.ok (.bl (c8 t a b)):=by
 cases t with
 |tup l=>
  simp[aL,val,bA,oF,aK,aF,bZ,o1,vr,z6,T.ty,uP,ch,cl,ae,ai,cA,T.items,tJ,c8]
  cases decide (a<=l.length) <;> rfl
 |scr _=>simp[T.pl]at h
 |dct _ _=>simp[T.pl]at h
 |ob _ _ _=>simp[T.pl]at h
 |_=>rfl
def la(x y:T):Bool:=within x 1 9&&(match x with
 |.int i=>within y i 9
 |_=>ZD)
def E5(x y:T)(hx:x.pl=ZC)(hy:y.pl=ZC):fm [x,y]=.ok (.bl (la x y)):=by
 have w:=eO x 1 9 hx;unfold la
 cases q:within x 1 9 with
 |false=>rw[q]at w;simp[fm,val,bA,kL,aK,aF,bZ,vr,cn,cl,ae,ai,w]
 |true=>
  rw[q]at w
  cases x with
  |int i=>simp[fm,val,bA,kL,aK,aF,bZ,vr,cn,cl,ae,ai,w,eO y i 9 hy]
  |_=>cases q
def jG:List Int->Bool
 |a::b::r=>decide (a<b)&&jG (b::r)
 |_=>ZC
def Gm(a b:Int)(r:List Int):jG (a::b::r)=(decide (a<b)&&jG (b::r)):=rfl
variable{l:List T}{ρ:En}
def kJ{fe:V6}{p:T->Bool}{fi:V4}{src:List (Option Nat)}(hi:fi ρ=.ok l)(hs:l.length<=ZI)(hn:0<src.length)(hf:∀t∈l,fe ((cJ src ρ).set 0 (.va t))=.ok (.bl (p t))):
  cl lu (ae (d9 fi src (gN 0) bT fe) ai) ρ=.ok (.bl (l.all p)):=by
 have e:=tu (fe:=fe) (h:=λt=>T.bl (p t)) l (cJ src ρ) (by unfold cJ;rw[JE];exact hn) hf
 simp only[cl,ae,ai,d9,hi,aA,if_pos hs,e,all_map]
def kD(l:List T):T->Bool
 |.int k=>match L2.atI l k,L2.atI l (k+1)with
  |some (.int a),ZA (.int b)=>decide (a<b)
  |_,_=>ZD
 |_=>ZD
def ly{t:T}(h:t∈rng 0 j):∃k:Nat,t=.int k/\(k:Int)<j:=by
 unfold rng at h;obtain⟨k,hk,e⟩:=JQ.mp h;rw[Lu]at hk;exact⟨k,by rw[<-e];simp,by omega⟩
theorem Dl:(l:List Int)->l.length<=4->(rng 0 ((l.length:Int) - 1)).all (kD (l.map .int))=jG l
 |[],_=>rfl
 |[a],_=>rfl
 |[a,b],_=>by simp[rng,Pw,kD,L2.atI,L2.ixN,jG]
 |[a,b,c],_=>by simp[rng,Pw,kD,L2.atI,L2.ixN,jG]
 |[a,b,c,d],_=>by simp[rng,Pw,kD,L2.atI,L2.ixN,jG,Bool.and_assoc]
 |a::b::c::d::e::r,h=>absurd h (by simp only[JJ];omega)
def BL(l:List Int)(h:l.length<=4):iP [.tup (l.map .int)]=.ok (.bl (jG l)):=by
 have hr:iR (ae (o2 gg (cl cA (ae (vr 0) ai)) (cn (.int 1))) ai) [.va (.tup (l.map .int))]=.ok (rng 0 ((l.length:Int) - 1)):=by
  have:z7 ((l.length:Int) - 1)=ZC:=by unfold z7;rw[JH];exact⟨decide_eq_true (by omega),decide_eq_true (by omega)⟩
  simp[iR,ae,ai,o2,cl,vr,cn,cA,T.items,gg,this]
 have hs:(rng 0 ((l.length:Int) - 1)).length<=ZI:=by
  unfold rng ZI;rw[JE,L6];omega
 have e:=kJ (fe:=o2 FF (o2 aS (vr 1) (vr 0)) (o2 aS (vr 1) (o2 aG (vr 0) (cn (.int 1))))) (p:=kD (l.map .int)) (src:=[ZB,ZA 0]) hr hs (by decide) (λt ht=>by
  obtain⟨k,rfl,hk⟩:=ly ht
  have h1:(l.map T.int)[k]?=ZA (.int (l[k]'(by omega))):=by simp
  have h2:(l.map T.int)[k+1]?=ZA (.int (l[k+1]'(by omega))):=by rw[Ko,JW (by omega)];rfl
  have g1:=jE h1
  have g2:L2.atI (l.map T.int) ((k:Int)+1)=ZA (.int (l[k+1]'(by omega))):=jE h2
  simp[o2,vr,cJ,cn,aG,aS,T.items,g1,g2,tJ,kD])
 rw[Dl l h]at e;simp only[iP,val,Ka,if_true,vt,bA,aF,aK]
 show(do let f <-(do let t <-cl lu _ [.va (.tup (l.map .int))];Rs.ok (Fl.rt t));_)=_
 rw[e]
 rfl
def jA:List T->Option (List Int)
 |[] =>ZA []
 |.int i::l=>match jA l with
  |some m=>ZA (i::m)
  |none=>ZB
 |_::_=>ZB
def cp(t:T):Bool:=c8 t 1 4&&(match t with
 |.tup l=>l.all (λu=>within u 0 99)&&(match jA l with|some m=>jG m|none=>ZD)
 |_=>ZD)
theorem l9:∀{l:List T}{m:List Int},jA l=ZA m->l=m.map .int
 |[],m,h=>by cases h;rfl
 |t::l,m,h=>by
  cases t with
  |int i=>
   unfold jA at h
   cases q:jA l with
   |none=>rw[q]at h;cases h
   |some m'=>rw[q]at h;cases h;rw[JG,<-l9 q]
  |_=>cases h
theorem pQ:∀{l:List T}{a b:Int},(l.all λu=>within u a b)=ZC->∃m,jA l=ZA m
 |[],_,_,_=>⟨[],rfl⟩
 |t::l,a,b,h=>by
  rw[QF,JH]at h
  cases t with
  |int i=>
   obtain⟨m,e⟩:=pQ h.2
   exact⟨i::m,by unfold jA;rw[e]⟩
  |_=>exact absurd h.1 (by simp[within])
def cX{t:T}{b:Nat}(h:c8 t a b=ZC):∃l,t=.tup l/\a<=l.length/\l.length<=b:=by
 cases t with
 |tup l=>unfold c8 at h;rw[JH]at h;exact⟨l,rfl,of_decide_eq_true h.1,of_decide_eq_true h.2⟩
 |_=>cases h
def small(h:n<=k)(hk:autoParam (k<=1000) s_):n<=ZI:=by unfold ZI;omega
def tG(t:T)(h:t.pl=ZC):bK [t]=.ok (.bl (cp t)):=by
 have w:aL [t,.int 1,.int 4]=.ok (.bl (c8 t 1 4)):=iw t 1 4 h;unfold cp
 cases q:c8 t 1 4 with
 |false=>rw[q]at w;simp[bK,val,bA,d7,aK,ay,dP,cI,tb,sN,aF,cl,vr,cn,ae,ai,w]
 |true=>
  rw[q]at w;obtain⟨l,rfl,h1,h2⟩:=cX q
  have hp:∀u∈l,u.pl=ZC:=λu hu=>jS (by unfold T.pl at h;exact h) hu
  have e:=kJ (fe:=cl aU (ae (vr 0) (ae (cn (.int 0)) (ae (cn (.int 99)) ai)))) (p:=λu=>within u 0 99) (src:=[ZB]) (fi:=iS (vr 0)) (ρ:=[.va (.tup l)]) rfl (small h2) (by decide) (λu hu=>by
   simp[cl,ae,ai,vr,cn,cJ,eO u 0 99 (hp u hu)])
  have w':cl aL (ae (vr 0) (ae (cn (.int 1)) (ae (cn (.int 4)) ai))) [.va (.tup l)]=.ok (.bl ZC):=w
  show bK _=.ok (.bl (ZC&&(l.all (λu=>within u 0 99)&&(match jA l with|some m=>jG m|none=>ZD))))
  cases qa:l.all λu=>within u 0 99 with
  |false=>
   rw[qa]at e
   simp[bK,val,bA,d7,aK,ay,dP,cI,tb,sN,aF,bZ,e,w']
  |true=>
   rw[qa]at e;obtain⟨m,em⟩:=pQ qa
   have el:=l9 em
   have er:=BL m (by rw[el,JE]at h2;exact h2)
   rw[<-el]at er
   have er':cl iP (ae (vr 0) ai) [.va (.tup l)]=.ok (.bl (jG m)):=er;simp[bK,val,bA,d7,aK,ay,dP,cI,tb,sN,aF,bZ,e,w',er',em]
def at_(t:T)(k:Nat):T:=match t.items with
 |some l=>l.getD k .non
 |none=>.non
def bp(t:T):Bool:=c8 t 3 3&&(match t with
 |.tup [x,y,r] =>la x y&&cp r
 |_=>ZD)
def BO(t:T)(h:t.pl=ZC):di [t]=.ok (.bl (bp t)):=by
 have w:aL [t,.int 3,.int 3]=.ok (.bl (c8 t 3 3)):=iw t 3 3 h;unfold bp
 cases q:c8 t 3 3 with
 |false=>rw[q]at w;simp[di,val,bA,gM,aK,aF,bZ,cl,vr,cn,ae,ai,w]
 |true=>
  rw[q]at w;obtain⟨l,rfl,h1,h2⟩:=cX q
  match l,h1,h2 with
  |[x,y,r],_,_=>
   simp[T.pl,plS]at h;obtain⟨px,py,pr⟩:=h
   have g0:aS (.tup [x,y,r]) (.int 0)=.ok x:=rfl
   have g1:aS (.tup [x,y,r]) (.int 1)=.ok y:=rfl
   have g2:aS (.tup [x,y,r]) (.int 2)=.ok r:=rfl
   have ep:=E5 x y px py
   have er:=tG r pr
   cases qp:la x y with
   |false=>rw[qp]at ep;simp[di,val,bA,gM,aK,aF,bZ,cl,vr,cn,ae,ai,o2,w,g0,g1,ep,qp]
   |true=>rw[qp]at ep;simp[di,val,bA,gM,aK,aF,bZ,cl,vr,cn,ae,ai,o2,w,g0,g1,g2,ep,er,qp]
def a0(t:T):Bool:=c8 t 1 4&&(match t with
 |.tup l=>l.all bp
 |_=>ZD)
def zp(t:T)(h:t.pl=ZC):dq [t]=.ok (.bl (a0 t)):=by
 have w:aL [t,.int 1,.int 4]=.ok (.bl (c8 t 1 4)):=iw t 1 4 h;unfold a0
 cases q:c8 t 1 4 with
 |false=>rw[q]at w;simp[dq,val,bA,gO,aK,aF,bZ,cl,vr,cn,ae,ai,w]
 |true=>
  rw[q]at w;obtain⟨l,rfl,h1,h2⟩:=cX q
  have hp:∀u∈l,u.pl=ZC:=λu hu=>jS (by unfold T.pl at h;exact h) hu
  have e:=kJ (fe:=cl di (ae (vr 0) ai)) (p:=bp) (src:=[ZB]) (fi:=iS (vr 0)) (ρ:=[.va (.tup l)]) rfl (small h2) (by decide) (λu hu=>by
   simp[cl,ae,ai,vr,cn,cJ,BO u (hp u hu)])
  have w':cl aL (ae (vr 0) (ae (cn (.int 1)) (ae (cn (.int 4)) ai))) [.va (.tup l)]=.ok (.bl ZC):=w;simp[dq,val,bA,gO,aK,aF,bZ,e,w']
def eF(x y:T):Bool:=within x 0 999&&(match x,y with
 |_,.non=>ZC
 |.int i,_=>within y i 999
 |_,_=>ZD)
def BN(x y:T)(hx:x.pl=ZC)(hy:y.pl=ZC):dF [x,y]=.ok (.bl (eF x y)):=by
 have w:=eO x 0 999 hx;unfold eF
 cases q:within x 0 999 with
 |false=>rw[q]at w;simp[dF,val,bA,gL,aK,aF,bZ,vr,cn,cl,ae,ai,w]
 |true=>
  rw[q]at w
  cases x with
  |int i=>
   have e:=eO y i 999 hy
   cases y with
   |non=>simp[dF,val,bA,gL,aK,aF,bZ,z0,vr,cn,cl,ae,ai,o2,lh,T.isN,w]
   |_=>simp[dF,val,bA,gL,aK,aF,bZ,z0,vr,cn,cl,ae,ai,o2,lh,T.isN,w,e]
  |_=>cases q
def reads(cs:List T)(c:Int):Nat:=if 0<=c then(match cs[c.toNat]? with
 |some (.tup [_,_,.tup r])=>r.length
 |_=>0)else 0
def a9(cs:List T)(t:T):Bool:=match t with
 |.tup [.int c,.int k] =>decide (0<=c)&&decide (c<cs.length)&&(decide (0<=k)&&decide (k<reads cs c))
 |_=>ZD
def k8{t:T}(h:bp t=ZC):∃x y r,t=.tup [x,y,.tup r]:=by
 unfold bp at h;rw[JH]at h;obtain⟨h1,h2⟩:=h;obtain⟨l,rfl,h3,h4⟩:=cX h1
 match l,h3,h4,h2 with
 |[x,y,r],_,_,h2=>
  simp only[JH]at h2;obtain⟨_,h5⟩:=h2;unfold cp at h5;rw[JH]at h5;obtain⟨m,rfl,_⟩:=cX h5.1;exact⟨x,y,m,rfl⟩
def dD{t:T}{a b:Int}(h:within t a b=ZC):∃i,t=.int i/\a<=i/\i<=b:=by
 cases t with
 |int i=>unfold within at h;rw[JH]at h;exact⟨i,rfl,of_decide_eq_true h.1,of_decide_eq_true h.2⟩
 |_=>cases h
def p9(cs:List T)(t:T)(hc:a0 (.tup cs)=ZC)(h:t.pl=ZC):cv [.tup cs,t]=.ok (.bl (a9 cs t)):=by
 have w:aL [t,.int 2,.int 2]=.ok (.bl (c8 t 2 2)):=iw t 2 2 h
 cases q:c8 t 2 2 with
 |false=>
  rw[q]at w
  have:a9 cs t=ZD:=by
   unfold a9;split
   ·cases q
   ·rfl
  simp[cv,val,bA,gK,aK,ay,dP,lZ,cI,tb,sN,aF,cl,vr,cn,ae,ai,w,this]
 |true=>
  rw[q]at w;obtain⟨l,rfl,h1,h2⟩:=cX q
  match l,h1,h2 with
  |[x,y],_,_=>
   simp[T.pl,plS]at h;obtain⟨px,py⟩:=h
   have g0:aS (.tup [x,y]) (.int 0)=.ok x:=rfl
   have g1:aS (.tup [x,y]) (.int 1)=.ok y:=rfl
   have gl:cA [.tup cs]=.ok (.int cs.length):=rfl
   have e1:=eO x 0 ((cs.length:Int) - 1) px
   cases q1:within x 0 ((cs.length:Int) - 1)with
   |false=>
    rw[q1]at e1
    have:a9 cs (.tup [x,y])=ZD:=by
     cases x with
     |int c=>
      cases y with
      |int k=>
       simp only[within,Px,decide_eq_false_iff_not]at q1;simp only[a9,Px,decide_eq_false_iff_not]
       omega
      |_=>rfl
     |_=>rfl
    simp[cv,val,bA,gK,aK,ay,dP,lZ,cI,tb,sN,aF,cl,vr,cn,ae,ai,o2,gg,w,g0,gl,e1,this]
   |true=>
    rw[q1]at e1;obtain⟨c,rfl,c1,c2⟩:=dD q1;obtain⟨n,rfl⟩:=KL c1
    have hn:n<cs.length:=by omega
    have hcl:bp cs[n]=ZC:=by
     unfold a0 at hc;rw[JH]at hc;exact J4.mp hc.2 _ (Lg hn)
    obtain⟨a,b,r,er⟩:=k8 hcl
    have g2:aS (.tup cs) (.int (n:Int))=.ok (.tup [a,b,.tup r]):=by
     simp only[aS,T.items];rw[jE (JW hn),er]
    have g3:aS (.tup [a,b,.tup r]) (.int 2)=.ok (.tup r):=rfl
    have gr:cA [.tup r]=.ok (.int r.length):=rfl
    have e2:=eO y 0 ((r.length:Int) - 1) py
    have:a9 cs (.tup [.int n,y])=within y 0 ((r.length:Int) - 1):=by
     have er2:reads cs (n:Int)=r.length:=by
      unfold reads;rw[if_pos c1,Kl,JW hn,er]
     cases y with
     |int k=>
      simp only[a9,within,er2];rw[decide_eq_true c1,decide_eq_true (show(n:Int)<cs.length by omega)]
      simp only[Ni]
      congr 1
      exact decide_eq_decide.mpr (by omega)
     |_=>rfl
    simp[cv,val,bA,gK,aK,ay,dP,lZ,cI,tb,sN,aF,cl,vr,cn,ae,ai,o2,gg,w,g0,g1,g2,g3,gl,gr,e1,e2,this]
def bQ(cs:List T)(t:T):Bool:=match t with
 |.tup [a,b,x,y] =>eF x y&&(a9 cs a&&(a9 cs b&& !aX a b))
 |_=>ZD
variable{cs:List T}
def eM{t:T}(h:a9 cs t=ZC):∃c k:Int,t=.tup [.int c,.int k]:=by
 unfold a9 at h
 split at h
 ·exact⟨_,_,rfl⟩
 ·cases h
def zm(cs:List T)(t:T)(hc:a0 (.tup cs)=ZC)(h:t.pl=ZC):bS [.tup cs,t]=.ok (.bl (bQ cs t)):=by
 have w:aL [t,.int 4,.int 4]=.ok (.bl (c8 t 4 4)):=iw t 4 4 h
 cases q:c8 t 4 4 with
 |false=>
  rw[q]at w
  have:bQ cs t=ZD:=by
   unfold bQ;split
   ·cases q
   ·rfl
  simp[bS,val,bA,dO,aK,ay,dP,lZ,cI,tb,sN,aF,cl,vr,cn,ae,ai,w,this]
 |true=>
  rw[q]at w;obtain⟨l,rfl,h1,h2⟩:=cX q
  match l,h1,h2 with
  |[a,b,x,y],_,_=>
   simp[T.pl,plS]at h;obtain⟨pa,pb,px,py⟩:=h
   have g0:aS (.tup [a,b,x,y]) (.int 0)=.ok a:=rfl
   have g1:aS (.tup [a,b,x,y]) (.int 1)=.ok b:=rfl
   have g2:aS (.tup [a,b,x,y]) (.int 2)=.ok x:=rfl
   have g3:aS (.tup [a,b,x,y]) (.int 3)=.ok y:=rfl
   have e1:=BN x y px py
   have e2:=p9 cs a hc pa
   have e3:=p9 cs b hc pb
   show _=Rs.ok (T.bl (eF x y&&(a9 cs a&&(a9 cs b&& !aX a b))))
   cases q1:eF x y with
   |false=>
    rw[q1]at e1
    simp[bS,val,bA,dO,aK,ay,dP,lZ,cI,tb,sN,aF,cl,vr,cn,ae,ai,o2,w,g2,g3,e1]
   |true=>
    rw[q1]at e1
    cases q2:a9 cs a with
    |false=>
     rw[q2]at e2
     simp[bS,val,bA,dO,aK,ay,dP,lZ,cI,tb,sN,aF,bZ,cl,vr,cn,ae,ai,o2,w,g0,g2,g3,e1,e2]
    |true=>
     rw[q2]at e2
     cases q3:a9 cs b with
     |false=>
      rw[q3]at e3
      simp[bS,val,bA,dO,aK,ay,dP,lZ,cI,tb,sN,aF,bZ,cl,vr,cn,ae,ai,o2,w,g0,g1,g2,g3,e1,e2,e3]
     |true=>
      rw[q3]at e3;obtain⟨c,k,rfl⟩:=eM q2
      have f:fD (.tup [.int c,.int k]) b=ZC:=eK (by simp[T.dep,deps]) rfl (T.Iw _ pb)
      have g4:neT (.tup [.int c,.int k]) b=.ok (.bl (!aX (.tup [.int c,.int k]) b)):=by unfold neT;rw[if_pos f]
      simp[bS,val,bA,dO,aK,ay,dP,lZ,cI,tb,sN,aF,bZ,cl,vr,cn,ae,ai,o2,w,g0,g1,g2,g3,g4,e1,e2,e3]
def iU(cs:List T)(t:T):Bool:=c8 t 0 8&&(match t with
 |.tup l=>l.all (bQ cs)
 |_=>ZD)
def wq(cs:List T)(t:T)(hc:a0 (.tup cs)=ZC)(h:t.pl=ZC):cY [.tup cs,t]=.ok (.bl (iU cs t)):=by
 have w:aL [t,.int 0,.int 8]=.ok (.bl (c8 t 0 8)):=iw t 0 8 h;unfold iU
 cases q:c8 t 0 8 with
 |false=>rw[q]at w;simp[cY,val,bA,f9,aK,aF,bZ,cl,vr,cn,ae,ai,w]
 |true=>
  rw[q]at w;obtain⟨l,rfl,h1,h2⟩:=cX q
  have hp:∀u∈l,u.pl=ZC:=λu hu=>jS (by unfold T.pl at h;exact h) hu
  have e:=kJ (fe:=cl bS (ae (vr 1) (ae (vr 0) ai))) (p:=bQ cs) (src:=[ZB,ZA 0]) (fi:=iS (vr 1)) (ρ:=[.va (.tup cs),.va (.tup l)]) rfl (small h2) (by decide) (λu hu=>by
   simp[cl,ae,ai,vr,cn,cJ,zm cs u hc (hp u hu)])
  have w':cl aL (ae (vr 1) (ae (cn (.int 0)) (ae (cn (.int 8)) ai))) [.va (.tup cs),.va (.tup l)]=.ok (.bl ZC):=w;simp[cY,val,bA,f9,aK,aF,bZ,e,w']
def kX(t:T):Bool:=match t with
 |.tup [.tup cs,ls] =>a0 (.tup cs)&&iU cs ls
 |_=>ZD
def zl(t:T)(h:t.pl=ZC):dh [t]=.ok (.bl (kX t)):=by
 have w:aL [t,.int 2,.int 2]=.ok (.bl (c8 t 2 2)):=iw t 2 2 h
 cases q:c8 t 2 2 with
 |false=>
  rw[q]at w
  have:kX t=ZD:=by
   unfold kX;split
   ·cases q
   ·rfl
  simp[dh,val,bA,fR,aK,aF,bZ,cl,vr,cn,ae,ai,w,this]
 |true=>
  rw[q]at w;obtain⟨l,rfl,h1,h2⟩:=cX q
  match l,h1,h2 with
  |[x,y],_,_=>
   simp[T.pl,plS]at h;obtain⟨px,py⟩:=h
   have g0:aS (.tup [x,y]) (.int 0)=.ok x:=rfl
   have g1:aS (.tup [x,y]) (.int 1)=.ok y:=rfl
   have e1:=zp x px
   cases q1:a0 x with
   |false=>
    rw[q1]at e1
    have:kX (.tup [x,y])=ZD:=by
     cases x with
     |tup cs=>show(a0 (.tup cs)&&_)=ZD;rw[q1];rfl
     |_=>rfl
    simp[dh,val,bA,fR,aK,aF,bZ,cl,vr,cn,ae,ai,o2,w,g0,e1,this]
   |true=>
    rw[q1]at e1
    cases x with
    |tup cs=>
     have e2:=wq cs y q1 py
     have:kX (.tup [.tup cs,y])=iU cs y:=by show(a0 (.tup cs)&&_)=_;rw[q1];rfl
     simp[dh,val,bA,fR,aK,aF,bZ,cl,vr,cn,ae,ai,o2,w,g0,g1,e1,e2,this]
    |_=>cases q1
theorem mT:∀(m n:List Int),beqTs (m.map .int) (n.map .int)=decide (m=n)
 |[],[] =>rfl
 |[],_::_=>rfl
 |_::_,[] =>rfl
 |a::m,b::n=>by
  rw[JG,JG,beqTs,mT m n,aX]
  by_cases h:a=b
  ·subst h;simp
  ·simp[h]
def yu(a b:Int):neT (.int a) (.int b)=.ok (.bl (!(a == b))):=by
 unfold neT;rw[if_pos (eK (by simp[T.dep]) rfl rfl)]
 rfl
theorem fo:∀m:List Int,deps (m.map .int)=0
 |[] =>rfl
 |a::m=>by rw[JG,deps,fo m];rfl
def fI(i n:Nat):List T:=(rng 0 n).map λt=>T.tup [.int i,t]
def rf:T->Nat
 |.tup [_,_,.tup r] =>r.length
 |_=>0
def dv:Nat->List T->List T
 |_,[] =>[]
 |i,c::r=>fI i (rf c)++dv (i+1) r
def dN{t:T}(h:bp t=ZC):∃x y r,t=.tup [x,y,.tup r]/\1<=r.length/\r.length<=4:=by
 obtain⟨x,y,r,rfl⟩:=k8 h
 have:cp (.tup r)=ZC:=by
  have h':(la x y&&cp (.tup r))=ZC:=h;rw[JH]at h';exact h'.2
 unfold cp at this;rw[JH]at this;obtain⟨l,e,h1,h2⟩:=cX this.1;cases e;exact⟨x,y,r,rfl,h1,h2⟩
def fE(i n:Nat):(fI i n).length=n:=by unfold fI;rw[JE,iK]
abbrev evG:T->En->Rs En:=gT 2 (mG (gN 2) (mG (gN 3) wo))
def CH{f:V4}(h:f ρ=.ok [.int j])(h0:0<=j)(h1:j<=100000):iR f ρ=.ok (rng 0 j):=by
 have e:z7 j=ZC:=by unfold z7;rw[JH];exact⟨decide_eq_true (by omega),decide_eq_true (by omega)⟩
 unfold iR;rw[h]
 show(if z7 j=ZC then _ else _)=_
 rw[e];rfl
def qo(l m:List T)(h:(l++m).length<=1000):aG (.lst l) (.lst m)=.ok (.lst (l++m)):=by
 show jl (l++m)=_
 unfold jl;rw[if_pos (aN h)]
def ki(l m:List T)(h:(l++m).length<=1000):aG (.tup l) (.tup m)=.ok (.tup (l++m)):=by
 show gW (l++m)=_
 unfold gW;rw[if_pos (aN h)]
def HD(c0 acc x y:T)(r:List T)(i:Nat)(h:r.length<=4):
  d9 (iR (ae (cl cA (ae (o2 aS (vr 3) (cn (.int 2))) ai)) ai)) [ZB,ZA 2] (gN 0) bT (a8 (ae (vr 1) (ae (vr 0) ai))) [.va c0,.va acc,.va (.int i),.va (.tup [x,y,.tup r])]=.ok (.lst (fI i r.length)):=
 mx (CH (j:=(r.length:Int)) rfl (by omega) (by omega)) (aN (k:=4) (by rw[iK];exact h)) (by simp) λt _=>mk2 _ _
def BI(c0 x y:T)(acc r:List T)(i:Nat)(h:r.length<=4)(ha:acc.length<=100):evF [.va c0,.va (.lst acc),.va (.int i),.va (.tup [x,y,.tup r])]=.ok (.nx [.va c0,.va (.lst (acc++fI i r.length)),.va (.int i),.va (.tup [x,y,.tup r])]):=
 bU (aI (t:=.lst acc) rfl (HD c0 (.lst acc) x y r i h) (qo _ _ (by rw[JC,fE];omega))) rfl
theorem uW:∀(cs:List T)(c0:T)(acc:List T)(i:Nat)(s2 s3:Sl),(∀c∈cs,bp c=ZC)->acc.length+4*cs.length<=100 →
  ∃y2 y3,bw evG evF (bO i cs) [.va c0,.va (.lst acc),s2,s3]=.ok (.nx [.va c0,.va (.lst (acc++dv i cs)),y2,y3])
 |[],c0,acc,i,s2,s3,_,_=>⟨s2,s3,by simp[bO,bw,dv]⟩
 |c::cs,c0,acc,i,s2,s3,hc,hl=>by
  obtain⟨x,y,r,rfl,r1,r2⟩:=dN (hc c JI);rw[JJ]at hl;obtain⟨z2,z3,ih⟩:=uW cs c0 (acc++fI i r.length) (i+1) (.va (.int i)) (.va (.tup [x,y,.tup r])) (λc h=>hc c (JF _ h)) (by rw[JC,fE];omega)
  refine⟨z2,z3,?_⟩
  rw[bO,fY (ρ1:=[.va c0,.va (.lst acc),.va (.int i),.va (.tup [x,y,.tup r])]) rfl (BI c0 x y acc r i r2 (by omega)),ih,dv,JX]
  rfl
def bj(hc:a0 (.tup cs)=ZC):(∀c∈cs,bp c=ZC)/\1<=cs.length/\cs.length<=4:=by
 unfold a0 at hc;rw[JH]at hc;obtain⟨l,e,h1,h2⟩:=cX hc.1;cases e;exact⟨λc h=>J4.mp hc.2 c h,h1,h2⟩
def rS(cs:List T)(hc:a0 (.tup cs)=ZC):cw [.tup cs]=.ok (.lst (dv 0 cs)):=by
 obtain⟨ha,h1,h2⟩:=bj hc;obtain⟨y2,y3,e⟩:=uW cs (.tup cs) [] 0 .em .em ha (by simp;omega)
 rw[Mz]at e;refine bM rfl ?_
 unfold jr;rw[aC (ρ':=[.va (.tup cs),.va (.lst []),.em,.em]) rfl,aC ((jo (ts:=bO 0 cs) rfl e))]
 rfl
def Br(h:k<n):T.int (k:Int)∈rng 0 (n:Int):=by
 unfold rng;exact JQ.mpr ⟨k,Lu.mpr (by omega),by simp⟩
def nM(cs:List T)(c:Nat):reads cs (c:Int)=rf (cs.getD c .non):=by
 unfold reads;rw[if_pos (by omega),Kl,Kq]
 cases cs[c]? with
 |none=>rfl
 |some t=>
  cases t with
  |tup l=>
   match l with
   |[] =>rfl
   |[_] =>rfl
   |[_,_] =>rfl
   |[_,_,z] =>cases z <;> rfl
   |_::_::z::_::_=>cases z <;> rfl
  |_=>rfl
mutual
def sm(n:Nat):T->Bool
 |.dct _ _=>ZD
 |.ob _ _ _=>ZD
 |.scr _=>ZD
 |.tup l=>decide (l.length<=n)&&sms n l
 |.lst l=>decide (l.length<=n)&&sms n l
 |_=>ZC
def sms(n:Nat):List T->Bool
 |[] =>ZC
 |t::l=>sm n t&&sms n l
end
mutual
theorem Cv{n:Nat}:∀(t:T),sm n t=ZC->t.pl=ZC
 |.scr _,h=>by simp[sm]at h
 |.dct _ _,h=>by simp[sm]at h
 |.ob _ _ _,h=>by simp[sm]at h
 |.tup l,h=>by rw[sm,JH]at h;rw[T.pl];exact sms_pl l h.2
 |.lst l,h=>by rw[sm,JH]at h;rw[T.pl];exact sms_pl l h.2
 |.non,_=>by simp[T.pl]
 |.bl _,_=>by simp[T.pl]
 |.int _,_=>by simp[T.pl]
 |.str _,_=>by simp[T.pl]
theorem sms_pl{n:Nat}:∀(l:List T),sms n l=ZC->plS l=ZC
 |[],_=>by simp[plS]
 |t::l,h=>by rw[sms,JH]at h;rw[plS,Cv t h.1,sms_pl l h.2];rfl
end
theorem uk:∀{l:List T},sms n l=ZC↔ ∀t∈l,sm n t=ZC
 |[] =>by simp[sms]
 |t::l=>by rw[sms,JH,uk (l:=l)];simp
def sm_tup:sm n (.tup l)=ZC↔l.length<=n/\∀t∈l,sm n t=ZC:=by rw[sm,JH,uk,decide_eq_true_iff]
def jB(h:0<j):j0 (.int i) (.int j)=.ok (.int (i % j)):=by show(if _ then _ else _)=_;rw[if_pos h]
def lE(h:0<j)(h2:j<1073741824):j7 (.int i) (.int j)=.ok (.int (i / j)):=by show(if _ then _ else _)=_;rw[if_pos ⟨h,h2⟩]
def kS(h : -18446744073709551616<i)(h2:i<18446744073709551616):cz (.int i) (.int j)=.ok (.int (i*j)):=by
 show tj (.int i) (.int j)=_
 show(if _ then _ else _)=_
 rw[if_pos (.inl ⟨by omega,by omega⟩)]
def yv(h : -18446744073709551616<j)(h2:j<18446744073709551616):cz (.int i) (.int j)=.ok (.int (i*j)):=by
 show tj (.int i) (.int j)=_
 show(if _ then _ else _)=_
 rw[if_pos (.inr ⟨by omega,by omega⟩)]
def E7(ns:List Int)(k:Nat)(hn:ns.length<=63):∃c,eJ [.scr ns,.int k]=.ok (.int c):=by
 have e0:o2 eqT (vr 0) (ez ai) [.va (.scr ns),.va (.int k)]=.ok (.bl (jq ns [])):=by
  refine aI (t:=.scr ns) (u:=.lst []) rfl (jm (ts:=[]) rfl (aN (k:=0) (JO _))) ?_
  unfold eqT;rw[if_pos (eK (by simp[T.dep]) rfl rfl)]
  rfl
 cases ns with
 |nil=>
  refine⟨7*k,bM rfl ?_⟩
  unfold iG
  refine mw ((jn (cM e0)).trans (cO (aI (t:=.int 7) (u:=.int k) rfl rfl (kS (by omega) (by omega)))))
 |cons a r=>
  have hl:(0:Int)<((a::r).length:Nat):=by simp only[JJ];omega
  have hl2:(((a::r).length:Nat):Int)<1073741824:=by simp only[JJ]at hn ⊢;omega
  have hi:k % (a::r).length<(a::r).length:=Nat.mod_lt _ (by simp)
  have g0:o2 j0 (vr 1) (cl cA (ae (vr 0) ai)) [.va (.scr (a::r)),.va (.int k)]=.ok (.int ((k % (a::r).length:Nat):Int)):=by
   refine aI (t:=.int k) (u:=.int ((a::r).length:Nat)) rfl ?_ (by rw[jB hl];rfl)
   refine aT (ts:=[.scr (a::r)]) rfl ?_
   show Rs.ok (T.int (((a::r).map T.int).length:Nat))=_
   rw[JE]
  have g1:aS (.scr (a::r)) (.int ((k % (a::r).length:Nat):Int))=.ok (.int (a::r)[k % (a::r).length]):=by
   have e:((a::r).map T.int)[k % (a::r).length]?=ZA (.int (a::r)[k % (a::r).length]):=by rw[Ko,JW hi];rfl
   show(match L2.atI ((a::r).map T.int) ((k % (a::r).length:Nat):Int)with|some t=>Rs.ok t|none=>.bad)=_
   rw[jE e]
  have g2:o2 j7 (vr 1) (cl cA (ae (vr 0) ai)) [.va (.scr (a::r)),.va (.int k)]=.ok (.int ((k:Int) / ((a::r).length:Nat))):=by
   refine aI (t:=.int k) (u:=.int ((a::r).length:Nat)) rfl ?_ (lE hl hl2)
   refine aT (ts:=[.scr (a::r)]) rfl ?_
   show Rs.ok (T.int (((a::r).map T.int).length:Nat))=_
   rw[JE]
  refine⟨(a::r)[k % (a::r).length] +6553*((k:Int) / ((a::r).length:Nat)),bM rfl ?_⟩
  unfold iG
  show ay _ _ [.va (.scr (a::r)),.va (.int k)]=_
  refine(aC (ρ':=[.va (.scr (a::r)),.va (.int k)]) ((du (cM e0)).trans rfl)).trans ?_
  exact cO (aI (aI (t:=.scr (a::r)) rfl g0 g1) (aI (t:=.int 6553) rfl g2 (kS (by omega) (by omega))) rfl)
def cW(ns:List Int)(k:Nat)(m:Int)(hn:ns.length<=63)(hm:0<m):∃r,ax [.scr ns,.int k,.int m]=.ok (.int r)/\0<=r/\r<m:=by
 obtain⟨c,hc⟩:=E7 ns k hn
 have b1:∀x:Int,0<=x % 2147483563/\x % 2147483563<2147483563:=λx=>⟨Py _ (by omega),Oj _ (by omega)⟩
 have b2:∀x:Int,0<=x % 2147483399/\x % 2147483399<2147483399:=λx=>⟨Py _ (by omega),Oj _ (by omega)⟩
 generalize hx:(c % 2147483563*69069+104723*((k:Int)+1)) % 2147483563=x
 have hx':=b1 (c % 2147483563*69069+104723*((k:Int)+1));rw[hx]at hx'
 generalize hy:(x*x+x / 3) % 2147483399=y
 have hy':=b2 (x*x+x / 3);rw[hy]at hy';refine⟨(y*y+y / 7) % 2147483647 / 11 % m,bM rfl ?_,Py _ (by omega),Oj _ hm⟩
 show gQ [.va (.scr ns),.va (.int k),.va (.int m),.em]=_
 unfold gQ
 have s1:cu (o2 j0 (o2 aG (o2 cz (o2 j0 (cl eJ (ae (vr 0) (ae (vr 1) ai))) (cn (.int 2147483563))) (cn (.int 69069))) (o2 cz (cn (.int 104723)) (o2 aG (vr 1) (cn (.int 1))))) (cn (.int 2147483563))) (gN 3) [.va (.scr ns),.va (.int k),.va (.int m),.em]=.ok (.nx [.va (.scr ns),.va (.int k),.va (.int m),.va (.int x)]):=by
  refine bU (t:=.int x) (aI (u:=.int 2147483563) (aI (aI (u:=.int 69069) (aI (u:=.int 2147483563) (aT (ts:=[.scr ns,.int k]) rfl hc) rfl (jB (by omega))) rfl (yv (by omega) (by omega))) (aI (t:=.int 104723) (u:=.int ((k:Int)+1)) rfl rfl (kS (by omega) (by omega))) rfl) rfl ?_) rfl
  rw[jB (by omega),hx]
 have s2:cu (o2 j0 (o2 aG (o2 cz (vr 3) (vr 3)) (o2 j7 (vr 3) (cn (.int 3)))) (cn (.int 2147483399))) (gN 3) [.va (.scr ns),.va (.int k),.va (.int m),.va (.int x)]=.ok (.nx [.va (.scr ns),.va (.int k),.va (.int m),.va (.int y)]):=by
  refine bU (t:=.int y) (aI (u:=.int 2147483399) (aI (aI (t:=.int x) (u:=.int x) rfl rfl (kS (by omega) (by omega))) (aI (t:=.int x) (u:=.int 3) rfl rfl (lE (by omega) (by omega))) rfl) rfl ?_) rfl
  rw[jB (by omega),hy]
 rw[aC s1,aC s2];exact cO (aI (u:=.int m) (aI (u:=.int 11) (aI (u:=.int 2147483647) (aI (aI (t:=.int y) (u:=.int y) rfl rfl (kS (by omega) (by omega))) (aI (t:=.int y) (u:=.int 7) rfl rfl (lE (by omega) (by omega))) rfl) rfl (jB (by omega))) rfl (lE (by omega) (by omega))) rfl (jB hm))
def cU{r:Int}{f g h:V6}(e:ax [.scr ns,.int k,.int m]=.ok (.int r))(h1:f ρ=.ok (.scr ns))(h2:g ρ=.ok (.int k))(h3:h ρ=.ok (.int m)):
  cl ax (ae f (ae g (ae h ai))) ρ=.ok (.int r):=aT (ak h1 (ak h2 (ak h3 rfl))) e
theorem qZ:∀(l:List Int)(z y:Int),jG (l++[z])=ZC->z<y->jG (l++[z] ++[y])=ZC
 |[],z,y,_,h=>by simp[jG,h]
 |[a],z,y,h,hy=>by
  simp[jG]at h ⊢
  omega
 |a::b::l,z,y,h,hy=>by
  have h':jG (a::b::(l++[z]))=ZC:=h;rw[Gm,JH]at h'
  have ih:=qZ (b::l) z y h'.2 hy
  show jG (a::b::(l++[z] ++[y]))=ZC
  rw[Gm,h'.1];exact ih
theorem jW:∀l:List Int,jA (l.map .int)=ZA l
 |[] =>rfl
 |a::l=>by rw[JG,jA,jW l]
def RdOk(l:List Int):Prop:=∃(l':List Int)(z:Int),l=l'++[z]/\jG l=ZC/\(∀x∈l,0<=x/\x<=5*l.length)/\z<=5*l.length
def pY(l:List T)(z:T):aS (.tup (l++[z])) (.int (-1))=.ok z:=by
 have e:L2.atI (l++[z]) (-1)=ZA z:=by
  unfold L2.atI L2.ixN;simp;rw[if_pos (by omega)]
  have q:(-1+((l.length:Int)+1)).toNat=l.length:=by omega
  show(l++[z])[(-1+((l.length:Int)+1)).toNat]?=ZA z
  rw[q];simp
 show(match L2.atI (l++[z]) (-1)with|some t=>Rs.ok t|none=>.bad)=_
 rw[e]
def B4(ns:List Int)(hn:ns.length<=63)(a j:Nat)(s:T)(l:List Int)(h:RdOk l)(hl:l.length<=3):∃l2,clF [.va (.scr ns),.va (.int a),.va s,.va (.tup (l.map .int)),.va (.int j)]=.ok (.nx [.va (.scr ns),.va (.int a),.va s,.va (.tup (l2.map .int)),.va (.int j)])/\RdOk l2/\l2.length=l.length+1:=by
 obtain⟨l',z,rfl,h1,h2,h3⟩:=h;obtain⟨d,ed,d0,d1⟩:=cW ns (a+3+j) 5 hn (by omega)
 refine⟨l'++[z] ++[z+1+d],?_,⟨l'++[z],z+1+d,rfl,qZ l' z _ h1 (by omega),?_,?_⟩,by simp⟩
 ·refine bU (t:=.tup ((l'++[z] ++[z+1+d]).map .int)) (aI (t:=.tup ((l'++[z]).map .int)) (u:=.tup [.int (z+1+d)]) rfl (b7 (ts:=[.int (z+1+d)]) (ak (aI (t:=.int (z+1)) (u:=.int d) (aI (t:=.int z) (u:=.int 1) (aI (t:=.tup ((l'++[z]).map .int)) (u:=.int (-1)) rfl rfl ?_) rfl rfl) (cU (k:=a+3+j) ed rfl ?_ rfl) rfl) rfl) (aN (k:=1) (by simp))) ?_) rfl
  ·rw[Kh];exact pY _ _
  ·refine aI (t:=.int ((a:Int)+3)) (u:=.int j) (aI (t:=.int a) (u:=.int 3) rfl rfl rfl) rfl ?_
   show Rs.ok (T.int ((a:Int)+3+j))=_
   congr 2
  ·rw[Kh (l₁:=l'++[z])]
   exact ki _ _ (by rw[JC,JE];simp at hl ⊢;omega)
 ·intro x hx
  rcases JR.mp hx with hx|hx
  ·have:=h2 x hx
   simp only[JC,Ka]at this ⊢;omega
  ·rw[JY]at hx
   subst hx
   have hz:=h2 z (by simp)
   simp only[JC,Ka]at h3 ⊢;omega
 ·simp only[JC,Ka]at h3 ⊢
  omega
theorem vd(ns:List Int)(hn:ns.length<=63)(a:Nat)(s:T):∀(js:List Nat)(l:List Int)(s4:Sl),RdOk l->l.length+js.length<=4->∃l2 s5,bw (gN 4) clF (js.map λ(j:Nat)=>T.int j) [.va (.scr ns),.va (.int a),.va s,.va (.tup (l.map .int)),s4]=.ok (.nx [.va (.scr ns),.va (.int a),.va s,.va (.tup (l2.map .int)),s5])/\RdOk l2/\l2.length=l.length+js.length
 |[],l,s4,h,_=>⟨l,s4,rfl,h,rfl⟩
 |j::js,l,s4,h,hl=>by
  rw[JJ]at hl;obtain⟨l2,e2,h2,n2⟩:=B4 ns hn a j s l h (by omega)
  obtain⟨l3,s5,e3,h3,n3⟩:=vd ns hn a s js l2 (.va (.int j)) h2 (by omega)
  refine⟨l3,s5,?_,h3,by rw[n3,n2,JJ];omega⟩
  rw[JG,fY (ρ1:=[.va (.scr ns),.va (.int a),.va s,.va (.tup (l.map .int)),.va (.int j)]) rfl e2];exact e3
def jQ(n:Nat):rng 0 (n:Int)=(KS n).map λ(j:Nat)=>T.int j:=by
 unfold rng;simp
def RdOk.reads{l:List Int}(h:RdOk l)(hl:l.length<=4):cp (.tup (l.map .int))=ZC:=by
 obtain⟨l',z,rfl,h1,h2,h3⟩:=h;unfold cp;rw[JH];refine⟨?_,?_⟩
 ·simp[c8];simp at hl;omega
 ·show(((l'++[z]).map T.int).all (λu=>within u 0 99)&&(match jA ((l'++[z]).map T.int)with|some m=>jG m|none=>ZD))=ZC
  rw[jW]
  show(_&&jG (l'++[z]))=ZC
  rw[h1,OY,J4];intro t ht;obtain⟨x,hx,rfl⟩:=JQ.mp ht
  have:=h2 x hx;simp only[within,JH,decide_eq_true_eq];omega
def Ay(n:Nat)(l:List Int)(h:l.length<=n):sm n (.tup (l.map .int))=ZC:=sm_tup.mpr ⟨by rw[JE];exact h,λt ht=>by obtain⟨x,_,rfl⟩:=JQ.mp ht;simp[sm]⟩
def Dc(c:T):Prop:=∃(x y:Int)(l:List Int),c=.tup [.int x,.int y,.tup (l.map .int)]/\RdOk l/\l.length<=3
def zo(ns:List Int)(hn:ns.length<=63)(a:Nat):∃c,cj [.scr ns,.int a]=.ok c/\bp c=ZC/\sm 8 c=ZC/\Dc c:=by
 obtain⟨d1,e1,p1,q1⟩:=cW ns a 3 hn (by omega)
 obtain⟨d2,e2,p2,q2⟩:=cW ns (a+2) 6 hn (by omega)
 obtain⟨d3,e3,p3,q3⟩:=cW ns (a+1) 3 hn (by omega)
 obtain⟨d4,e4,p4,q4⟩:=cW ns (a+6) 3 hn (by omega)
 obtain⟨n3,rfl⟩:=KL p3;obtain⟨l,s5,el,hl,nl⟩:=vd ns hn a (.int (1+d1)) (KS n3) [d2] .em ⟨[],d2,rfl,rfl,λx hx=>by rw[JY]at hx;subst hx;simp;omega,by simp;omega⟩ (by simp;omega)
 have nl':l.length<=4:=by rw[nl];simp;omega
 have hr:=hl.reads nl';refine⟨.tup [.int (1+d1),.int (1+d1+d4),.tup (l.map .int)],bM rfl ?_,?_,?_,⟨_,_,l,rfl,hl,by rw[nl];simp;omega⟩⟩
 ·show gR [.va (.scr ns),.va (.int a),.em,.em,.em]=_
  unfold gR;rw[aC (ρ':=[.va (.scr ns),.va (.int a),.va (.int (1+d1)),.em,.em]) (bU (t:=.int (1+d1)) (aI (t:=.int 1) rfl (cU e1 rfl rfl rfl) rfl) rfl)];rw[aC (ρ':=[.va (.scr ns),.va (.int a),.va (.int (1+d1)),.va (.tup ([d2].map .int)),.em]) (bU (t:=.tup [.int d2]) (b7 (ts:=[.int d2]) (ak (cU (k:=a+2) e2 rfl rfl rfl) rfl) (aN (k:=1) (by simp))) rfl)]
  rw[aC ((jo (CH (ak (cU (k:=a+1) e3 rfl rfl rfl) rfl) (by omega) (by omega)) (by rw[jQ];exact el)))]
  exact cO (b7 (ak (t:=.int (1+d1)) rfl (ak (aI (t:=.int (1+d1)) rfl (cU (k:=a+6) e4 rfl rfl rfl) rfl) (ak (t:=.tup (l.map .int)) rfl rfl))) (aN (k:=3) (by simp)))
 ·show(ZC&&(la (.int (1+d1)) (.int (1+d1+d4))&&cp _))=ZC
  rw[hr];simp only[la,within,Ni,OY,JH,decide_eq_true_eq];omega
 ·refine sm_tup.mpr ⟨by simp,λt ht=>?_⟩
  rcases JL.mp ht with rfl|ht
  ·simp[sm]
  ·rcases JL.mp ht with rfl|ht
   ·simp[sm]
   ·rw[JY]at ht;subst ht;exact Ay 8 l (by omega)
variable{y:T}
theorem gD:∀(cs:List T)(i:Nat),y∈dv i cs->∃c k:Nat,y=.tup [.int c,.int k]/\i<=c/\c<i+cs.length/\k<rf (cs.getD (c - i) .non)
 |[],i,h=>by cases h
 |x::cs,i,h=>by
  rw[dv]at h;rcases JR.mp h with h|h
  ·unfold fI at h
   obtain⟨t,ht,rfl⟩:=JQ.mp h;obtain⟨j,rfl,hj⟩:=ly ht;refine⟨i,j,rfl,JO _,by rw[JJ];omega,?_⟩
   rw[MB]
   show j<rf x
   omega
  ·obtain⟨c,k,e,h1,h2,h3⟩:=gD cs (i+1) h
   refine⟨c,k,e,by omega,by rw[JJ];omega,?_⟩
   have:c - i=(c - (i+1))+1:=by omega
   rw[this];exact h3
def zg(h:y∈dv 0 cs):a9 cs y=ZC:=by
 obtain⟨c,k,rfl,_,h2,h3⟩:=gD cs 0 h
 show(decide ((0:Int)<=(c:Int))&&decide ((c:Int)<(cs.length:Int))&&(decide ((0:Int)<=(k:Int))&&decide ((k:Int)<(reads cs (c:Int):Int))))=ZC
 rw[Mg]at h3;rw[nM];simp only[JH,decide_eq_true_eq];omega
theorem kx:∀(cs:List T)(i:Nat),(dv i cs).Nodup
 |[],i=>MR
 |x::cs,i=>by
  rw[dv,LC];refine⟨?_,kx cs (i+1),?_⟩
  ·unfold fI rng
   rw[J6];rw[Oc,List.pairwise_map];refine List.nodup_range.imp ?_
   intro a b hab e
   simp at e
   exact hab (by omega)
  ·intro a ha b hb e
   subst e;unfold fI at ha;obtain⟨t,ht,rfl⟩:=JQ.mp ha;obtain⟨c,k,e,h1,_,_⟩:=gD cs (i+1) hb
   simp at e
   omega
variable{i:Nat}
def yp(h:l.Nodup){j:Nat}(hi:i<l.length)(hj:j<l.length)(hij:i≠j):l[i] ≠l[j]:=by
 rw[Oc,List.pairwise_iff_getElem]at h;rcases Nat.lt_or_ge i j with q|q
 ·exact h i j hi hj q
 ·exact λe=>h j i hj hi (by omega) e.symm
theorem p8:∀(cs:List T)(i:Nat),(∀c∈cs,bp c=ZC)->(dv i cs).length<=4*cs.length
 |[],i,_=>JO _
 |x::cs,i,h=>by
  obtain⟨a,b,r,rfl,_,h2⟩:=dN (h x JI)
  have:=p8 cs (i+1) λc hc=>h c (JF _ hc)
  rw[dv,JC,fE,JJ]
  show r.length+_<=_
  omega
def zf{a b:T}(ha:a9 cs a=ZC)(hb:a9 cs b=ZC)(h:a≠b):aX a b=ZD:=by
 obtain⟨c,k,rfl⟩:=eM ha;obtain⟨c',k',rfl⟩:=eM hb;rw[Bool.eq_false_iff];intro e;simp[aX,beqTs]at e;exact h (by rw[e.1,e.2])
def qU{a:T}(ha:a9 cs a=ZC):sm 8 a=ZC:=by
 obtain⟨c,k,rfl⟩:=eM ha;simp[sm,sms]
def yW(h:i<l.length):aS (.lst l) (.int (i:Int))=.ok l[i]:=by
 show(match L2.atI l (i:Int)with|some t=>Rs.ok t|none=>.bad)=_
 rw[jE (JW h)]
def zi(a b:Int):eqT (.int a) (.int b)=.ok (.bl (a == b)):=by
 unfold eqT;rw[if_pos (eK (by simp[T.dep]) rfl rfl)]
 rfl
def wt(ns:List Int)(hn:ns.length<=63)(a:Nat)(cs:List T)(hc:a0 (.tup cs)=ZC):∃r,cZ [.scr ns,.int a,.tup cs]=.ok r/\(r=.non\/(bQ cs r=ZC/\sm 8 r=ZC)):=by
 obtain⟨ha,h1,h4⟩:=bj hc
 have hlen:=p8 cs 0 ha
 have er:=rS cs hc
 have gl:∀s4 s5 s6 s7:Sl,cl cA (ae (vr 3) ai) [.va (.scr ns),.va (.int a),.va (.tup cs),.va (.lst (dv 0 cs)),s4,s5,s6,s7]=.ok (.int ((dv 0 cs).length:Nat)):=λ_ _ _ _=>rfl
 have s1:cu (cl cw (ae (vr 2) ai)) (gN 3) [.va (.scr ns),.va (.int a),.va (.tup cs),.em,.em,.em,.em,.em]=.ok (.nx [.va (.scr ns),.va (.int a),.va (.tup cs),.va (.lst (dv 0 cs)),.em,.em,.em,.em]):=bU (aT (ts:=[.tup cs]) rfl er) rfl
 have lt:o2 FF (cl cA (ae (vr 3) ai)) (cn (.int 2)) [.va (.scr ns),.va (.int a),.va (.tup cs),.va (.lst (dv 0 cs)),.em,.em,.em,.em]=.ok (.bl (decide (((dv 0 cs).length:Int)<2))):=aI (t:=.int ((dv 0 cs).length:Nat)) (u:=.int 2) (gl _ _ _ _) rfl rfl
 by_cases hs:(dv 0 cs).length<2
 ·refine⟨.non,bM rfl ?_,.inl rfl⟩
  show dA [.va (.scr ns),.va (.int a),.va (.tup cs),.em,.em,.em,.em,.em]=_
  unfold dA;rw[aC s1];rw[decide_eq_true (by omega)]at lt
  exact mw ((jn (cM lt)).trans rfl)
 ·rw[decide_eq_false (by omega)]at lt
  generalize hN:(dv 0 cs).length=n at*
  obtain⟨d1,e1,p1,q1⟩:=cW ns a (n:Int) hn (by omega)
  obtain⟨d2,e2,p2,q2⟩:=cW ns (a+1) ((n:Int) - 1) hn (by omega)
  obtain⟨d3,e3,p3,q3⟩:=cW ns (a+2) 8 hn (by omega)
  obtain⟨d4,e4,p4,q4⟩:=cW ns (a+3) 3 hn (by omega)
  obtain⟨d5,e5,p5,q5⟩:=cW ns (a+4) 9 hn (by omega)
  obtain⟨i,rfl⟩:=KL p1;obtain⟨d2,rfl⟩:=KL p2
  have hi:i<(dv 0 cs).length:=by omega
  have hj:(i+1+d2) % n<(dv 0 cs).length:=by rw[hN];exact Nat.mod_lt _ (by omega)
  have hij:i≠(i+1+d2) % n:=by
   rcases Nat.lt_or_ge (i+1+d2) n with q|q
   ·rw[RW q];omega
   ·have:(i+1+d2) % n=i+1+d2 - n:=by
     rw[Nat.mod_eq_sub_mod q,RW (by omega)]
    rw[this];omega
  have eA:=zg (Lg hi)
  have eB:=zg (Lg hj)
  have eN:(dv 0 cs)[i] ≠(dv 0 cs)[(i+1+d2) % n]:=yp (kx cs 0) hi hj hij
  generalize hA:(dv 0 cs)[i]=A at*
  generalize hB:(dv 0 cs)[(i+1+d2) % n]=B at*
  let y:T:=if d4 == 0 then .non else .int (d3+d5)
  refine⟨.tup [A,B,.int d3,y],bM rfl ?_,.inr ⟨?_,?_⟩⟩
  ·show dA [.va (.scr ns),.va (.int a),.va (.tup cs),.em,.em,.em,.em,.em]=_
   unfold dA;rw[aC s1];rw[aC (ρ':=[.va (.scr ns),.va (.int a),.va (.tup cs),.va (.lst (dv 0 cs)),.em,.em,.em,.em]) ((du (cM lt)).trans rfl)];rw[aC (ρ':=[.va (.scr ns),.va (.int a),.va (.tup cs),.va (.lst (dv 0 cs)),.va (.int (i:Nat)),.em,.em,.em]) (bU (cU e1 rfl rfl (gl _ _ _ _)) rfl)];rw[aC (ρ':=[.va (.scr ns),.va (.int a),.va (.tup cs),.va (.lst (dv 0 cs)),.va (.int (i:Nat)),.va (.int ((i+1+d2) % n:Nat)),.em,.em]) (bU (t:=.int ((i+1+d2) % n:Nat)) (aI (t:=.int ((i:Int)+1+d2)) (u:=.int n) (aI (t:=.int ((i:Int)+1)) (u:=.int d2) rfl (cU (k:=a+1) e2 rfl rfl (aI (t:=.int n) (u:=.int 1) (gl _ _ _ _) rfl rfl)) rfl) (gl _ _ _ _) (jB (by omega))) rfl)]
   rw[aC (ρ':=[.va (.scr ns),.va (.int a),.va (.tup cs),.va (.lst (dv 0 cs)),.va (.int (i:Nat)),.va (.int ((i+1+d2) % n:Nat)),.va (.int d3),.em]) (bU (cU (k:=a+2) e3 rfl rfl rfl) rfl)]
   have ey:FJ (tb (o2 eqT (cl ax (ae (vr 0) (ae (o2 aG (vr 1) (cn (.int 3))) (ae (cn (.int 3)) ai)))) (cn (.int 0)))) (cn .non) (o2 aG (vr 6) (cl ax (ae (vr 0) (ae (o2 aG (vr 1) (cn (.int 4))) (ae (cn (.int 9)) ai))))) [.va (.scr ns),.va (.int a),.va (.tup cs),.va (.lst (dv 0 cs)),.va (.int (i:Nat)),.va (.int ((i+1+d2) % n:Nat)),.va (.int d3),.em]=.ok y:=by
    rw[Hm (cM (aI (u:=.int 0) (cU (k:=a+3) e4 rfl rfl rfl) rfl (zi _ _)))]
    show _=Rs.ok (if d4 == 0 then T.non else .int (d3+d5))
    cases d4 == 0 with
    |true=>rfl
    |false=>exact aI (t:=.int d3) rfl (cU (k:=a+4) e5 rfl rfl rfl) rfl
   rw[aC (ρ':=[.va (.scr ns),.va (.int a),.va (.tup cs),.va (.lst (dv 0 cs)),.va (.int (i:Nat)),.va (.int ((i+1+d2) % n:Nat)),.va (.int d3),.va y]) (bU ey rfl)];refine cO (b7 (ak (t:=A) (aI (t:=.lst (dv 0 cs)) (u:=.int (i:Nat)) rfl rfl ?_) (ak (t:=B) (aI (t:=.lst (dv 0 cs)) (u:=.int ((i+1+d2) % n:Nat)) rfl rfl ?_) (ak (t:=.int d3) rfl (ak (t:=y) rfl rfl)))) (aN (k:=4) (by simp)))
   ·rw[<-hA];exact yW hi
   ·rw[<-hB];exact yW hj
  ·show(eF (.int d3) y&&(a9 cs A&&(a9 cs B&& !aX A B)))=ZC
   rw[eA,eB,zf eA eB eN]
   have:eF (.int d3) y=ZC:=by
    show(within (.int d3) 0 999&&(match(T.int d3),(if d4 == 0 then T.non else .int (d3+d5))with|_,.non=>ZC|.int i,_=>within (if d4 == 0 then T.non else .int (d3+d5)) i 999|_,_=>ZD))=ZC
    cases d4 == 0 with
    |true=>simp[within];omega
    |false=>simp[within];omega
   rw[this];rfl
  ·refine sm_tup.mpr ⟨by simp,λt ht=>?_⟩
   have hy:sm 8 y=ZC:=by show sm 8 (if d4 == 0 then T.non else .int (d3+d5))=ZC;cases d4 == 0 <;> simp[sm]
   simp only[JL,KN,or_false]at ht;rcases ht with rfl|rfl|rfl|rfl
   ·exact qU eA
   ·exact qU eB
   ·simp[sm]
   ·exact hy
def okv:Rs T->T
 |.ok t=>t
 |_=>.non
def uD(l:List T)(k:Int)(h : -(2 ^ 63)<=k/\k<2 ^ 63/\l.length*k.toNat<=ZI):cz (.lst l) (.int k)=.ok (.lst (J9 k.toNat l).flatten):=by
 show tj (.lst l) (.int k)=_
 unfold tj;exact if_pos h
def mul_one(x:T)(b:Bool):cz (.lst [x]) (.int (if b then 1 else 0))=.ok (.lst (if b then [x]else [])):=by
 cases b with
 |true=>exact uD [x] 1 ⟨by decide,by decide,aN (k:=1) (by simp)⟩
 |false=>exact uD [x] 0 ⟨by decide,by decide,aN (k:=1) (by simp)⟩
def wK(cs ls:List T):Prop:=∀t∈ls,bQ cs t=ZC/\sm 8 t=ZC
def Bu(ns:List Int)(hn:ns.length<=63)(a j:Nat)(m:T)(cs ls:List T)(hc:a0 (.tup cs)=ZC)(h:wK cs ls)(hl:ls.length<=100)(s6:Sl):
  ∃ls2 s7,leF [.va (.scr ns),.va (.int a),.va m,.va (.tup cs),.va (.lst ls),.va (.int j),s6]=.ok (.nx [.va (.scr ns),.va (.int a),.va m,.va (.tup cs),.va (.lst ls2),.va (.int j),s7])/\wK cs ls2/\ls2.length<=ls.length+1:=by
 obtain⟨r,er,hr⟩:=wt ns hn (a+31+6*j) cs hc
 have e1:∀G,ay (cu (cl cZ (ae (vr 0) (ae (o2 aG (o2 aG (vr 1) (cn (.int 31))) (o2 cz (cn (.int 6)) (vr 5))) (ae (vr 3) ai)))) (gN 6)) G [.va (.scr ns),.va (.int a),.va m,.va (.tup cs),.va (.lst ls),.va (.int j),s6]=G [.va (.scr ns),.va (.int a),.va m,.va (.tup cs),.va (.lst ls),.va (.int j),.va r]:=λG=>by
  refine aC (bU (t:=r) (aT (ts:=[.scr ns,.int (a+31+6*j:Nat),.tup cs]) (ak (t:=.scr ns) rfl (ak (t:=.int (a+31+6*j:Nat)) (aI (t:=.int ((a:Int)+31)) (u:=.int (6*(j:Int))) rfl (aI (t:=.int 6) (u:=.int j) rfl rfl (kS (by omega) (by omega))) rfl) (ak (t:=.tup cs) rfl rfl))) er) rfl)
 have e2:cl y1 (ae (o2 gm (vr 6) (cn .non)) ai) [.va (.scr ns),.va (.int a),.va m,.va (.tup cs),.va (.lst ls),.va (.int j),.va r]=.ok (.int (if !r.isN then 1 else 0)):=aT (ts:=[.bl (!r.isN)]) rfl rfl
 refine⟨ls++(if !r.isN then [r]else []),.va r,?_,?_,?_⟩
 ·refine(e1 _).trans (bU (aI (t:=.lst ls) (u:=.lst (if !r.isN then [r]else [])) rfl (aI (t:=.lst [r]) (jm (ts:=[r]) rfl (aN (k:=1) (by simp))) e2 (mul_one _ _)) (qo _ _ ?_)) rfl)
  rw[JC];cases r.isN <;> simp <;> omega
 ·intro t ht
  rcases JR.mp ht with ht|ht
  ·exact h t ht
  ·rcases hr with rfl|hr
   ·cases ht
   ·cases q:r.isN with
    |true=>rw[q]at ht;cases ht
    |false=>
     rw[q]at ht;rw[show t=r by simpa using ht]
     exact hr
 ·rw[JC]
  cases r.isN <;> simp
theorem uG(ns:List Int)(hn:ns.length<=63)(a:Nat)(m:T)(cs:List T)(hc:a0 (.tup cs)=ZC):∀(js:List Nat)(ls:List T)(s5 s6:Sl),wK cs ls->ls.length+js.length<=100 →
  ∃ls2 t5 t6,bw (gN 5) leF (js.map λ(j:Nat)=>T.int j) [.va (.scr ns),.va (.int a),.va m,.va (.tup cs),.va (.lst ls),s5,s6]=.ok (.nx [.va (.scr ns),.va (.int a),.va m,.va (.tup cs),.va (.lst ls2),t5,t6])/\wK cs ls2/\ls2.length<=ls.length+js.length
 |[],ls,s5,s6,h,_=>⟨ls,s5,s6,rfl,h,JO _⟩
 |j::js,ls,s5,s6,h,hl=>by
  rw[JJ]at hl;obtain⟨l2,s7,e2,h2,n2⟩:=Bu ns hn a j m cs ls hc h (by omega) s6
  obtain⟨l3,t5,t6,e3,h3,n3⟩:=uG ns hn a m cs hc js l2 (.va (.int j)) s7 h2 (by omega)
  refine⟨l3,t5,t6,?_,h3,by rw[JJ];omega⟩
  rw[JG,fY (ρ1:=[.va (.scr ns),.va (.int a),.va m,.va (.tup cs),.va (.lst ls),.va (.int j),s6]) rfl e2];exact e3
def E6(ns:List Int)(hn:ns.length<=63)(a m:Nat)(hm:m<=8):∃cs ls,eE [.scr ns,.int a,.int m]=.ok (RR cs ls)/\a0 (.tup cs)=ZC/\cs.length<=3/\(∀c∈cs,sm 8 c=ZC)/\wK cs ls/\ls.length<=m/\∀c∈cs,Dc c:=by
 obtain⟨d1,e1,p1,q1⟩:=cW ns a 3 hn (by omega)
 obtain⟨d2,e2,p2,q2⟩:=cW ns (a+30) ((m:Int)+1) hn (by omega)
 obtain⟨d1,rfl⟩:=KL p1;obtain⟨d2,rfl⟩:=KL p2
 let hcl:T->T:=λt=>match t with
  |.int k=>okv (cj [.scr ns,.int ((a:Int)+1+8*k)])
  |_=>.non
 have hh:∀t∈rng 0 ((1+d1:Nat):Int),∃k:Nat,t=.int k/\cj [.scr ns,.int ((a+1+8*k:Nat):Int)]=.ok (hcl t)/\bp (hcl t)=ZC/\sm 8 (hcl t)=ZC/\Dc (hcl t):=λt ht=>by
  obtain⟨k,rfl,_⟩:=ly ht;obtain⟨c,ec,h1,h2,h3⟩:=zo ns hn (a+1+8*k)
  have e:hcl (.int k)=c:=by
   show okv (cj [.scr ns,.int ((a+1+8*k:Nat):Int)])=c
   rw[ec];rfl
  exact⟨k,rfl,by rw[e];exact ec,by rw[e];exact h1,by rw[e];exact h2,by rw[e];exact h3⟩
 generalize hcs:(rng 0 ((1+d1:Nat):Int)).map hcl=cs
 have lc:cs.length=1+d1:=by rw[<-hcs,JE,iK]
 have hc:a0 (.tup cs)=ZC:=by
  show(c8 (.tup cs) 1 4&&cs.all bp)=ZC
  rw[JH,J4];refine⟨by simp[c8];omega,λc h=>?_⟩
  rw[<-hcs]at h;obtain⟨t,ht,rfl⟩:=JQ.mp h;obtain⟨_,_,_,h1,_⟩:=hh t ht;exact h1
 have hsm:∀c∈cs,sm 8 c=ZC:=λc h=>by
  rw[<-hcs]at h;obtain⟨t,ht,rfl⟩:=JQ.mp h;obtain⟨_,_,_,_,h1,_⟩:=hh t ht;exact h1
 obtain⟨ls,t5,t6,el,hl,nl⟩:=uG ns hn a (.int m) cs hc (KS d2) [] .em .em (λt h=>by cases h) (by simp;omega)
 refine⟨cs,ls,bM rfl ?_,hc,by omega,hsm,hl,by simp at nl;omega,λc h=>by
  rw[<-hcs]at h;obtain⟨t,ht,rfl⟩:=JQ.mp h;obtain⟨_,_,_,_,_,h1⟩:=hh t ht;exact h1⟩
 show gb [.va (.scr ns),.va (.int a),.va (.int m),.em,.em,.em,.em]=_
 unfold gb
 have s1:cu (cl fU (ae (d9 (iR (ae (o2 aG (cn (.int 1)) (cl ax (ae (vr 0) (ae (vr 1) (ae (cn (.int 3)) ai))))) ai)) [ZB,ZA 0,ZA 1] (gN 0) bT (cl cj (ae (vr 1) (ae (o2 aG (o2 aG (vr 2) (cn (.int 1))) (o2 cz (cn (.int 8)) (vr 0))) ai)))) ai)) (gN 3) [.va (.scr ns),.va (.int a),.va (.int m),.em,.em,.em,.em]=.ok (.nx [.va (.scr ns),.va (.int a),.va (.int m),.va (.tup cs),.em,.em,.em]):=by
  refine bU (t:=.tup cs) (aT (ts:=[.lst cs]) (ak (t:=.lst cs) ?_ rfl) rfl) rfl
  rw[<-hcs];refine mx (ts:=rng 0 ((1+d1:Nat):Int)) (h:=hcl) (CH (ak (t:=.int ((1+d1:Nat):Int)) (aI (t:=.int 1) (u:=.int d1) rfl (cU e1 rfl rfl rfl) rfl) rfl) (by omega) (by omega)) (aN (k:=3) (by rw[iK];omega)) (by simp) λt ht=>?_
  obtain⟨k,rfl,ek,_,_⟩:=hh t ht;refine aT (ts:=[.scr ns,.int ((a+1+8*k:Nat):Int)]) (ak (t:=.scr ns) rfl (ak (aI (t:=.int ((a:Int)+1)) (u:=.int (8*(k:Int))) rfl (aI (t:=.int 8) (u:=.int k) rfl rfl (kS (by omega) (by omega))) rfl) rfl)) ek
 rw[aC s1];rw[aC (ρ':=[.va (.scr ns),.va (.int a),.va (.int m),.va (.tup cs),.va (.lst []),.em,.em]) (bU (jm (ts:=[]) rfl (aN (k:=0) (by simp))) rfl)]
 rw[aC ((jo (CH (ak (cU (k:=a+30) e2 rfl rfl (aI (t:=.int m) (u:=.int 1) rfl rfl rfl)) rfl) (by omega) (by omega)) (by rw[jQ];exact el)))]
 exact cO (b7 (ak (t:=.tup cs) rfl (ak (t:=.tup ls) rfl rfl)) (aN (k:=2) (by simp)))
def j5{t:T}(h:bQ cs t=ZC):∃a b x y,t=.tup [a,b,x,y]/\eF x y=ZC/\a9 cs a=ZC/\a9 cs b=ZC/\aX a b=ZD:=by
 unfold bQ at h
 split at h
 ·simp only[JH,Ro]at h
  exact⟨_,_,_,_,rfl,h.1,h.2.1,h.2.2.1,h.2.2.2⟩
 ·cases h
def Dm{ls:List T}(hc:a0 (.tup cs)=ZC)(hs:∀c∈cs,sm 8 c=ZC)(hl:wK cs ls)(hn:ls.length<=8):kX (RR cs ls)=ZC/\sm 8 (RR cs ls)=ZC:=by
 refine⟨?_,?_⟩
 ·show(a0 (.tup cs)&&(c8 (.tup ls) 0 8&&ls.all (bQ cs)))=ZC
  rw[hc,Ni,JH,J4];exact⟨by simp[c8];exact hn,λt ht=>(hl t ht).1⟩
 ·refine sm_tup.mpr ⟨by simp,λt ht=>?_⟩
  simp only[JL,KN,or_false]at ht;rcases ht with rfl|rfl
  ·exact sm_tup.mpr ⟨by have:=(bj hc).2.2;omega,hs⟩
  ·exact sm_tup.mpr ⟨hn,λt ht=>(hl t ht).2⟩
end G
namespace Tr
open PySem
section
variable {f fa fb:V6}{fs:V4}{b c:V7}{F G:V5}{ρ ρ' ρ1 ρ2:En}{t u r:T}{ts l m:List T}
mutual
theorem oC:∀(t:T),t.pl=ZC->aX t t=ZC
 |.non,_=>rfl
 |.bl a,_=>by simp[aX]
 |.int a,_=>by simp[aX]
 |.str a,_=>by simp[aX]
 |.tup l,h=>by rw[aX];exact beqTs_refl l (by unfold T.pl at h;exact h)
 |.lst l,h=>by rw[aX];exact beqTs_refl l (by unfold T.pl at h;exact h)
 |.scr _,h=>by simp[T.pl]at h
theorem beqTs_refl:∀(l:List T),plS l=ZC->beqTs l l=ZC
 |[],_=>rfl
 |t::l,h=>by
  unfold plS at h;rw[JH]at h;rw[beqTs,oC t h.1,beqTs_refl l h.2];rfl
end
def jZ(hp:t.pl=ZC)(hd:t.dep<=60):neT t t=.ok (.bl ZD):=by
 unfold neT;rw[if_pos (eK hd (T.Iw _ hp) (T.Iw _ hp)),oC t hp];rfl
theorem qd:∀{l:List T},(∀t∈l,t.dep<=n)->deps l<=n
 |[],_=>by unfold deps;omega
 |t::l,h=>by
  unfold deps
  have:=qd (l:=l) λu hu=>h u (JF _ hu)
  have:=h t JI;omega
theorem ku:∀{l:List T},(∀t∈l,t.pl=ZC)->plS l=ZC
 |[],_=>rfl
 |t::l,h=>by unfold plS;rw[h t JI,ku λu hu=>h u (JF _ hu)];rfl
def Es(hn:n<=59)(h:∀t∈l,t.pl=ZC/\t.dep<=n):neT (.lst l) (.lst l)=.ok (.bl ZD):=
 jZ (by unfold T.pl;exact ku λt ht=>(h t ht).1) (by unfold T.dep;have:=qd (l:=l) (n:=n) λt ht=>(h t ht).2;omega)
end
end Tr
variable{v:List Nat}
namespace G
open PySem Tr
def dr(r:List Int)(k:Nat):Int:=r.getD (k+1) 0 - r.getD k 0
def pr(n:Nat)(x y:Int)(r:List Int)(k:Nat):List T:=
 [.tup [.tup [.int n,.int k],.tup [.int n,.int ((k+1:Nat):Int)],.int (dr r k*y)],.tup [.tup [.int n,.int ((k+1:Nat):Int)],.tup [.int n,.int k],.int (-dr r k*x)]]
def cB(n:Nat)(x y:Int)(r:List Int):List T:=(KS (r.length - 1)).flatMap (pr n x y r)
abbrev zJ(n:Nat)(x y:Int)(r:List Int)(acc:List T)(s4 s5 s6 s7:Sl):En:=[.va (.int n),.va (.tup [.int x,.int y,.tup (r.map .int)]),.va (.tup (r.map .int)),.ow (.lst acc),s4,s5,s6,s7]
def iW{r:List Int}(h:k<r.length):(r.map T.int)[k]?=ZA (.int (r.getD k 0)):=by
 rw[Ko,JW h]
 simp[h]
def Ca(n:Nat)(x y:Int)(r:List Int)(acc:List T)(k:Nat)(s5 s6 s7:Sl)(hk:k+1<r.length)(hx:0<=x/\x<=9)(hy:0<=y/\y<=9)(ha:acc.length<=100):
  bcF (zJ n x y r acc (.va (.int k)) s5 s6 s7)=.ok (.nx (zJ n x y r (acc++pr n x y r k) (.va (.int k)) (.va (.tup [.int n,.int k])) (.va (.tup [.int n,.int ((k+1:Nat):Int)])) (.va (.int (dr r k))))):=by
 have h2:([T.int n,T.int k]:List T).length<=ZI:=aN (k:=2) (by simp)
 have ek:((k:Int)+1)=((k+1:Nat):Int):=by omega
 refine(aC (ρ':=zJ n x y r acc (.va (.int k)) (.va (.tup [.int n,.int k])) s6 s7) (bU (b7 rfl (aN (k:=2) (by simp))) rfl)).trans ?_
 refine(aC (ρ':=zJ n x y r acc (.va (.int k)) (.va (.tup [.int n,.int k])) (.va (.tup [.int n,.int ((k+1:Nat):Int)])) s7) (bU (b7 (ak rfl (ak (t:=.int ((k+1:Nat):Int)) (aI (t:=.int k) (u:=.int 1) rfl rfl (congrArg (λz=>Rs.ok (T.int z)) ek)) rfl)) (aN (k:=2) (by simp))) rfl)).trans ?_
 refine(aC (ρ':=zJ n x y r acc (.va (.int k)) (.va (.tup [.int n,.int k])) (.va (.tup [.int n,.int ((k+1:Nat):Int)])) (.va (.int (dr r k)))) (bU (t:=.int (dr r k)) (aI (t:=.int (r.getD (k+1) 0)) (u:=.int (r.getD k 0)) (wc (n:=k+1) rfl (aI (t:=.int k) (u:=.int 1) rfl rfl (congrArg (λz=>Rs.ok (T.int z)) ek)) (iW hk)) (wc (n:=k) rfl rfl (iW (by omega))) rfl) rfl)).trans ?_
 refine(aC (ρ':=zJ n x y r (acc++[.tup [.tup [.int n,.int k],.tup [.int n,.int ((k+1:Nat):Int)],.int (dr r k*y)]]) (.va (.int k)) (.va (.tup [.int n,.int k])) (.va (.tup [.int n,.int ((k+1:Nat):Int)])) (.va (.int (dr r k)))) (yT (l:=acc) (b7 (ak rfl (ak rfl (ak (aI (t:=.int (dr r k)) (u:=.int y) rfl rfl (yv (by omega) (by omega))) rfl))) (aN (k:=3) (by simp))) rfl (by omega))).trans ?_
 refine(yT (l:=acc++[.tup [.tup [.int n,.int k],.tup [.int n,.int ((k+1:Nat):Int)],.int (dr r k*y)]]) (b7 (ak rfl (ak rfl (ak (aI (t:=.int (-dr r k)) (u:=.int x) rfl rfl (yv (by omega) (by omega))) rfl))) (aN (k:=3) (by simp))) rfl (by rw[JC];simp;omega)).trans ?_
 rw[JX]
 rfl
theorem vj(n:Nat)(x y:Int)(r:List Int)(hx:0<=x/\x<=9)(hy:0<=y/\y<=9):∀(js:List Nat)(acc:List T)(s4 s5 s6 s7:Sl),(∀k∈js,k+1<r.length)->acc.length+2*js.length<=100 →
  ∃t4 t5 t6 t7,bw (gN 4) bcF (js.map λ(k:Nat)=>T.int k) (zJ n x y r acc s4 s5 s6 s7)=.ok (.nx (zJ n x y r (acc++js.flatMap (pr n x y r)) t4 t5 t6 t7))
 |[],acc,s4,s5,s6,s7,_,_=>⟨s4,s5,s6,s7,by simp[bw]⟩
 |k::js,acc,s4,s5,s6,s7,hk,hl=>by
  rw[JJ]at hl
  have e:=Ca n x y r acc k s5 s6 s7 (hk k JI) hx hy (by omega)
  obtain⟨t4,t5,t6,t7,ih⟩:=vj n x y r hx hy js (acc++pr n x y r k) (.va (.int k)) (.va (.tup [.int n,.int k])) (.va (.tup [.int n,.int ((k+1:Nat):Int)])) (.va (.int (dr r k))) (λj hj=>hk j (JF _ hj)) (by rw[JC];simp[pr];omega)
  refine⟨t4,t5,t6,t7,?_⟩
  rw[JG,fY (ρ1:=zJ n x y r acc (.va (.int k)) s5 s6 s7) rfl e,ih,OK,JX]
def zu(n:Nat)(x y:Int)(r:List Int)(hx:0<=x/\x<=9)(hy:0<=y/\y<=9)(h1:1<=r.length)(h4:r.length<=4):cf [.int n,.tup [.int x,.int y,.tup (r.map .int)]]=.ok (.lst (cB n x y r)):=by
 refine bM rfl ?_
 show d6 [.va (.int n),.va (.tup [.int x,.int y,.tup (r.map .int)]),.em,.em,.em,.em,.em,.em]=_
 unfold d6;rw[aC (ρ':=[.va (.int n),.va (.tup [.int x,.int y,.tup (r.map .int)]),.va (.tup (r.map .int)),.em,.em,.em,.em,.em]) (bU (t:=.tup (r.map .int)) rfl rfl)];rw[aC (ρ':=zJ n x y r [] .em .em .em .em) rfl];obtain⟨t4,t5,t6,t7,e⟩:=vj n x y r hx hy (KS (r.length - 1)) [] .em .em .em .em (λk hk=>by have:=Lu.mp hk;omega) (by simp;omega)
 have e1:iR (ae (o2 gg (cl cA (ae (vr 2) ai)) (cn (.int 1))) ai) (zJ n x y r [] .em .em .em .em)=.ok (rng 0 ((r.length - 1:Nat):Int)):=by
  refine CH (j:=((r.length - 1:Nat):Int)) (ak (aI (t:=.int (r.length:Nat)) (u:=.int 1) (aT (ts:=[.tup (r.map .int)]) rfl (by show Rs.ok (T.int ((r.map T.int).length:Nat))=_;rw[JE])) rfl (congrArg (λz=>Rs.ok (T.int z)) (by omega))) rfl) (by omega) (by omega)
 rw[aC ((jo (ts:=(KS (r.length - 1)).map λ(k:Nat)=>T.int k) (by rw[e1,jQ]) e))]
 rfl
def gG{t:T}(h:bp t=ZC):∃(x y:Int)(r:List Int),t=.tup [.int x,.int y,.tup (r.map .int)]/\(0<=x/\x<=9)/\(0<=y/\y<=9)/\1<=r.length/\r.length<=4:=by
 obtain⟨x,y,r,rfl,h1,h4⟩:=dN h
 have h':(la x y&&cp (.tup r))=ZC:=h;rw[JH]at h';obtain⟨hp,hr⟩:=h';unfold la at hp;rw[JH]at hp;obtain⟨i,rfl,i1,i2⟩:=dD hp.1;obtain⟨j,rfl,j1,j2⟩:=dD (t:=y) (a:=i) (b:=9) hp.2;unfold cp at hr;rw[JH]at hr
 have hr2:((r.all λu=>within u 0 99)&&(match jA r with|some m=>jG m|none=>ZD))=ZC:=hr.2
 rw[JH]at hr2;obtain⟨m,em⟩:=pQ hr2.1
 have e:=l9 em;subst e;rw[JE]at h1 h4;exact⟨i,j,m,rfl,⟨by omega,by omega⟩,⟨by omega,by omega⟩,h1,h4⟩
def xB(n:Nat)(t:T):List T:=match t with
 |.tup [.int x,.int y,.tup r] =>match jA r with
  |some m=>cB n x y m
  |none=>[]
 |_=>[]
def bC:Nat->List T->List T
 |_,[] =>[]
 |i,c::r=>xB i c++bC (i+1) r
def lB(t:T):List T:=match t with
 |.tup [a,b,.int le,mo] =>.tup [b,a,.int (-le)] ::(if mo.isN then []else [.tup [a,b,mo]])
 |_=>[]
def FL(cs ls:List T):List T:=bC 0 cs++ls.flatMap lB
def tZ(n:Nat)(x y:Int)(r:List Int):xB n (.tup [.int x,.int y,.tup (r.map .int)])=cB n x y r:=by
 unfold xB;simp only[jW]
def Fu(n:Nat)(x y:Int)(r:List Int):(cB n x y r).length=2*(r.length - 1):=by
 unfold cB;rw[List.length_flatMap]
 have:∀l:List Nat,(l.map λk=>(pr n x y r k).length).sum=2*l.length:=by
  intro l
  induction l with
  |nil=>rfl
  |cons a l ih=>rw[JG,K1,ih,JJ];simp[pr];omega
 rw[this,L6]
def wY{t:T}(h:bp t=ZC):(xB n t).length<=6:=by
 obtain⟨x,y,r,rfl,_,_,h1,h4⟩:=gG h;rw[tZ,Fu];omega
theorem tM:∀{cs:List T}{i:Nat},(∀c∈cs,bp c=ZC)->(bC i cs).length<=6*cs.length
 |[],i,_=>by simp[bC]
 |c::cs,i,h=>by
  rw[bC,JC,JJ]
  have:=wY (n:=i) (h c JI)
  have:=tM (cs:=cs) (i:=i+1) λc hc=>h c (JF _ hc)
  omega
def yI(t:T):(lB t).length<=2:=by
 unfold lB;split
 ·rename_i a b le mo
  cases mo.isN <;> simp
 ·simp
theorem uI:∀(ls:List T),(ls.flatMap lB).length<=2*ls.length
 |[] =>by simp
 |t::ls=>by
  rw[OK,JC,JJ]
  have:=yI t
  have:=uI ls;omega
variable{cs:List T}
def rK{t:T}(h:bQ cs t=ZC):∃(a b mo:T)(le:Int),t=.tup [a,b,.int le,mo]/\a9 cs a=ZC/\a9 cs b=ZC:=by
 obtain⟨a,b,x,y,rfl,hd,ha,hb,_⟩:=j5 h;unfold eF at hd;rw[JH]at hd;obtain⟨i,rfl,_⟩:=dD hd.1;exact⟨a,b,y,i,rfl,ha,hb⟩
def wu{t:T}(h:bQ cs t=ZC):bY [t]=.ok (.lst (lB t)):=by
 obtain⟨a,b,mo,le,rfl,_,_⟩:=rK h;refine bM rfl ?_
 show dG [.va (.tup [a,b,.int le,mo]),.em]=_
 unfold dG;rw[aC (ρ':=[.va (.tup [a,b,.int le,mo]),.ow (.lst [.tup [b,a,.int (-le)]])]) (yP (l:=[.tup [b,a,.int (-le)]]) (ak (b7 (ak rfl (ak rfl (ak rfl rfl))) (aN (k:=3) (by simp))) rfl) (by simp) (by simp))]
 have e:∀(ρ:En) l,ρ=[.va (.tup [a,b,.int le,mo]),.ow (.lst l)]->o2 gm (o2 aS (vr 0) (cn (.int 3))) (cn .non) ρ=.ok (.bl (!mo.isN)):=λρ l z=>by subst z;rfl
 have e2:lB (.tup [a,b,.int le,mo])=.tup [b,a,.int (-le)] ::(if mo.isN then []else [.tup [a,b,mo]]):=rfl
 rw[e2]
 cases q:mo.isN with
 |true=>
  rw[aC (ρ':=[.va (.tup [a,b,.int le,mo]),.ow (.lst [.tup [b,a,.int (-le)]])]) ((du (cM (by rw[e _ _ rfl,q];rfl))).trans rfl)]
  rfl
 |false=>
  rw[aC (ρ':=[.va (.tup [a,b,.int le,mo]),.ow (.lst ([.tup [b,a,.int (-le)]] ++[.tup [a,b,mo]]))]) ((jn (cM (by rw[e _ _ rfl,q];rfl))).trans (yT (l:=[.tup [b,a,.int (-le)]]) (b7 (ak rfl (ak rfl (ak rfl rfl))) (aN (k:=3) (by simp))) rfl (by simp)))]
  rfl
abbrev bdG:T->En->Rs En:=gT 2 (mG (gN 2) (mG (gN 3) wo))
theorem vi(R:T)(s4:Sl):∀(cs:List T)(acc:List T)(i:Nat)(s2 s3:Sl),(∀c∈cs,bp c=ZC)->acc.length+6*cs.length<=100 →
  ∃y2 y3,bw bdG bdF (bO i cs) [.va R,.ow (.lst acc),s2,s3,s4]=.ok (.nx [.va R,.ow (.lst (acc++bC i cs)),y2,y3,s4])
 |[],acc,i,s2,s3,_,_=>⟨s2,s3,by simp[bO,bw,bC]⟩
 |c::cs,acc,i,s2,s3,hc,hl=>by
  have h0:=hc c JI
  have hx:=wY (n:=i) h0;obtain⟨x,y,r,rfl,a1,a2,a3,a4⟩:=gG h0;rw[JJ]at hl;rw[tZ]at hx
  have st:bdF [.va R,.ow (.lst acc),.va (.int i),.va (.tup [.int x,.int y,.tup (r.map .int)]),s4]=.ok (.nx [.va R,.ow (.lst (acc++cB i x y r)),.va (.int i),.va (.tup [.int x,.int y,.tup (r.map .int)]),s4]):=
   yR (l:=acc) (aT (ts:=[.int i,.tup [.int x,.int y,.tup (r.map .int)]]) rfl (zu i x y r a1 a2 a3 a4)) rfl (by omega)
  obtain⟨z2,z3,ih⟩:=vi R s4 cs (acc++cB i x y r) (i+1) (.va (.int i)) (.va (.tup [.int x,.int y,.tup (r.map .int)])) (λc h=>hc c (JF _ h)) (by rw[JC];omega)
  refine⟨z2,z3,?_⟩
  rw[bO,fY (ρ1:=[.va R,.ow (.lst acc),.va (.int i),.va (.tup [.int x,.int y,.tup (r.map .int)]),s4]) rfl st,ih,bC,tZ,JX]
abbrev blF:V5:=lX 1 (cl bY (ae (vr 4) ai))
theorem vg(R:T)(cs:List T)(s2 s3:Sl):∀(ls:List T)(acc:List T)(s4:Sl),(∀t∈ls,bQ cs t=ZC)->acc.length+2*ls.length<=100 →
  ∃y4,bw (gN 4) blF ls [.va R,.ow (.lst acc),s2,s3,s4]=.ok (.nx [.va R,.ow (.lst (acc++ls.flatMap lB)),s2,s3,y4])
 |[],acc,s4,_,_=>⟨s4,by simp[bw]⟩
 |t::ls,acc,s4,hl,hn=>by
  rw[JJ]at hn
  have:=yI t
  have st:blF [.va R,.ow (.lst acc),s2,s3,.va t]=.ok (.nx [.va R,.ow (.lst (acc++lB t)),s2,s3,.va t]):=yR (l:=acc) (aT (ts:=[t]) rfl (wu (hl t JI))) rfl (by omega)
  obtain⟨y4,ih⟩:=vg R cs s2 s3 ls (acc++lB t) (.va t) (λu h=>hl u (JF _ h)) (by rw[JC];omega)
  refine⟨y4,?_⟩
  rw[fY (ρ1:=[.va R,.ow (.lst acc),s2,s3,.va t]) rfl st,ih,OK,JX]
variable{R:T}
def jY(hp:R.pl=ZC)(h:kX R=ZC):bB [R]=.ok .non:=by
 refine yL (ρ:=[.va R]) rfl ?_
 show fZ [.va R]=_
 unfold fZ;exact(du ((gX (k:=ZC) (cM (aT (ts:=[R]) rfl (by rw[zl R hp,h])))))).trans rfl
structure Good (cs ls:List T):Prop where
 c:a0 (.tup cs)=ZC
 l:∀t∈ls,bQ cs t=ZC
 n:ls.length<=8
 p:(RR cs ls).pl=ZC
variable{ls:List T}
def Good.ok(g:Good cs ls):kX (RR cs ls)=ZC:=by
 show(a0 (.tup cs)&&(c8 (.tup ls) 0 8&&ls.all (bQ cs)))=ZC
 rw[g.c,Ni,JH,J4];exact⟨by simp[c8];exact g.n,g.l⟩
def zq(g:Good cs ls):fz [RR cs ls]=.ok (.lst (FL cs ls)):=by
 obtain⟨hc,c1,c4⟩:=bj g.c
 have hn:=g.n;refine bM rfl ?_
 show m4 [.va (RR cs ls),.em,.em,.em,.em]=_
 unfold m4;rw[aC (yS (t:=.non) (aT (ts:=[RR cs ls]) rfl (jY g.p g.ok)))];rw[aC (ρ':=[.va (RR cs ls),.ow (.lst []),.em,.em,.em]) (yQ (by simp))]
 obtain⟨y2,y3,e⟩:=vi (RR cs ls) .em cs [] 0 .em .em hc (by simp;omega)
 rw[aC ((jo (ts:=bO 0 cs) rfl e))]
 have:=tM (i:=0) hc;obtain⟨y4,e2⟩:=vg (RR cs ls) cs y2 y3 ls ([] ++bC 0 cs) .em g.l (by rw[Mz];omega)
 rw[aC ((jo (ts:=ls) rfl e2))]
 rfl
def ib{l:List T}:(T.tup l).pl=plS l:=by unfold T.pl;rfl
def xG{t:T}(h:sm 8 t=ZC):t.pl=ZC:=Cv t h
def x5(c0 s1:Sl)(x y:T)(r:List T)(i:Nat)(h:r.length<=4):
  d9 (iR (ae (cl cA (ae (o2 aS (vr 3) (cn (.int 2))) ai)) ai)) [ZB,ZA 2] (gN 0) bT (a8 (ae (vr 1) (ae (vr 0) ai))) [c0,s1,.va (.int i),.va (.tup [x,y,.tup r])]=.ok (.lst (fI i r.length)):=
 mx (CH (j:=(r.length:Int)) rfl (by omega) (by omega)) (aN (k:=4) (by rw[iK];exact h)) (by simp) λt _=>mk2 _ _
theorem uw:∀(cs:List T)(c0:T)(acc:List T)(i:Nat)(s2 s3:Sl),(∀c∈cs,bp c=ZC)->acc.length+4*cs.length<=100 →
  ∃y2 y3,bw evG peF (bO i cs) [.va c0,.ow (.lst acc),s2,s3]=.ok (.nx [.va c0,.ow (.lst (acc++dv i cs)),y2,y3])
 |[],c0,acc,i,s2,s3,_,_=>⟨s2,s3,by simp[bO,bw,dv]⟩
 |c::cs,c0,acc,i,s2,s3,hc,hl=>by
  obtain⟨x,y,r,rfl,r1,r2⟩:=dN (hc c JI);rw[JJ]at hl
  have st:peF [.va c0,.ow (.lst acc),.va (.int i),.va (.tup [x,y,.tup r])]=.ok (.nx [.va c0,.ow (.lst (acc++fI i r.length)),.va (.int i),.va (.tup [x,y,.tup r])]):=yR (l:=acc) (x5 _ _ x y r i r2) rfl (by rw[fE];omega)
  obtain⟨z2,z3,ih⟩:=uw cs c0 (acc++fI i r.length) (i+1) (.va (.int i)) (.va (.tup [x,y,.tup r])) (λc h=>hc c (JF _ h)) (by rw[JC,fE];omega)
  refine⟨z2,z3,?_⟩
  rw[bO,fY (ρ1:=[.va c0,.ow (.lst acc),.va (.int i),.va (.tup [x,y,.tup r])]) rfl st,ih,dv,JX]
  rfl
def yc(g:Good cs ls):bJ [RR cs ls]=.ok (.lst (dv 0 cs)):=by
 obtain⟨hc,c1,c4⟩:=bj g.c;refine bM rfl ?_
 show mZ [.va (RR cs ls),.em,.em,.em]=_
 unfold mZ;rw[aC (yS (t:=.non) (aT (ts:=[RR cs ls]) rfl (jY g.p g.ok)))];rw[aC (ρ':=[.va (RR cs ls),.ow (.lst []),.em,.em]) (yQ (by simp))]
 obtain⟨y2,y3,e⟩:=uw cs (RR cs ls) [] 0 .em .em hc (by simp;omega)
 rw[aC ((jo (ts:=bO 0 cs) rfl e))]
 rfl
def Bq{t:T}(g:Good cs ls)(ht:t.pl=ZC)(h:a9 cs t=ZC):ff [RR cs ls,t]=.ok .non:=by
 refine yL (ρ:=[.va (RR cs ls),.va t]) rfl ?_
 show gJ [.va (RR cs ls),.va t]=_
 unfold gJ;exact(du ((gX (k:=ZC) (cM (aT (ts:=[.tup cs,t]) rfl (by rw[p9 cs t g.c ht,h])))))).trans rfl
variable{ρ:En}
def p2{a b:V6}{t u:T}(ha:a ρ=.ok t)(hb:b ρ=.ok u):a8 (ae a (ae b ai)) ρ=.ok (.tup [t,u]):=b7 (ak ha (ak hb rfl)) (aN (k:=2) (by simp))
def vI{l:List T}:fU [.lst l]=.ok (.tup l):=rfl
def B8(g:Good cs ls):(FL cs ls).length<=60:=by
 unfold FL;rw[JC];obtain⟨hc,c1,c4⟩:=bj g.c
 have:=tM (i:=0) hc
 have:=uI ls
 have:=g.n;omega
open Gr
structure N2 where
 c:Int
 k:Int
deriving DecidableEq
theorem N2.ext':∀{u v:N2},u.c=v.c->u.k=v.k->u=v
 |⟨_,_⟩,⟨_,_⟩,rfl,rfl=>rfl
def en(v:N2):T:=.tup [.int v.c,.int v.k]
def eB(x:N2×N2×Int):T:=.tup [en x.1,en x.2.1,.int x.2.2]
def eN(ks:List Nat):List T:=ks.map λk=>.int (k:Nat)
def eW(x:Int×List Nat):T:=.tup [.int x.1,.lst (eN x.2)]
def ky(v:N2):List L2.Key:=[.inl v.c,.inl v.k]
def cK(v:N2):keyOf (en v)=ZA (ky v):=rfl
def pX{u v:N2}(h:ZA (ky u)=ZA (ky v)):u=v:=by
 injection h with h
 injection h with h1 h2
 injection h2 with h2 _
 injection h1 with h1
 injection h2 with h2
 exact N2.ext' h1 h2
def tF{u v:N2}(h:en u=en v):u=v:=pX (by rw[<-cK u,<-cK v,h])
def zI(u v:N2):aX (en u) (en v)=decide (u=v):=by
 unfold en aX beqTs aX beqTs beqTs
 by_cases h:u=v
 ·subst h;simp[aX]
 ·have:¬ (u.c=v.c/\u.k=v.k):=λz=>h (N2.ext' z.1 z.2)
  simp[h,aX];exact λz=>λy=>this ⟨z,y⟩
theorem qb(g:N2->T)(v:N2):∀(ns:List N2),mK (ns.map en) (ns.map g) (ky v)=if v∈ns then ZA (g v)else ZB
 |[] =>rfl
 |u::ns=>by
  rw[JG,JG,mK,cK]
  by_cases h:u=v
  ·subst h;rw[if_pos rfl,if_pos JI]
  ·rw[if_neg (λz=>h (pX z)),qb g v ns]
   have:(v∈u::ns)↔v∈ns:=by rw[JL];exact⟨λz=>z.elim (λy=>absurd y.symm h) id,.inr⟩
   simp only[this]
theorem j9(x:T)(v:N2)(g:N2->T):∀(ns:List N2),v∉ns->gF (en v) x (ns.map en) (ns.map g)=(ns.map en++[en v],ns.map g++[x])
 |[],_=>rfl
 |u::ns,h=>by
  rw[JL,not_or]at h;rw[JG,JG,gF,cK,cK,if_neg (λz=>h.1 (pX z).symm),j9 x v g ns h.2]
  rfl
theorem u4(x:T)(v:N2)(g:N2->T):∀(ns:List N2),ns.Nodup->v∈ns->gF (en v) x (ns.map en) (ns.map g)=(ns.map en,ns.map λu=>if u=v then x else g u)
 |[],_,h=>by simp at h
 |u::ns,hn,h=>by
  rw[KA]at hn;rw[JG,JG,JG,gF,cK,cK]
  by_cases z:u=v
  ·subst z
   rw[if_pos rfl,if_pos rfl]
   congr 2
   exact Kp λw hw=>by rw[if_neg (λ(y:w=u)=>hn.1 (y▸hw))]
  ·rw[if_neg (λy=>z (pX y)),if_neg z]
   have h':v∈ns:=(JL.mp h).elim (λy=>absurd y.symm z) id
   rw[u4 x v g ns hn.2 h']
theorem iO [DecidableEq α]:∀{l m:List α},l.Nodup->(∀x∈l,x∈m)->l.length<=m.length
 |[],_,_,_=>KI _
 |x::l,m,hn,h=>by
  rw[KA]at hn
  have hx:=h x JI
  have:=iO (m:=m.erase x) hn.2 λy hy=>(P2 (λ(z:y=x)=>hn.1 (z▸hy))).mpr (h y (JF _ hy))
  rw[List.length_erase_of_mem hx]at this
  have:0<m.length:=List.length_pos_of_mem hx;rw[JJ];omega
def oW(o:Option (Int×List Nat)):T:=match o with
 |some x=>eW x
 |none=>.non
structure DR (P ns:List N2)(b:b6 N2):Prop where
 nd:ns.Nodup
 mem:∀v,v∈ns↔(b v).isSome=ZC
 sub:∀v∈ns,v∈P
def dV(ns:List N2)(b:b6 N2):List T:=ns.map λv=>oW (b v)
variable{P ns:List N2}{b:b6 N2}
def DR.get(D:DR P ns b)(v:N2):mK (ns.map en) (dV ns b) (ky v)=(b v).map eW:=by
 unfold dV;rw[qb (λv=>oW (b v))]
 have:=D.mem v
 cases q:b v with
 |none=>rw[q]at this;rw[if_neg (λz=>by simpa using this.mp z)];rfl
 |some x=>rw[q]at this;rw[if_pos (this.mpr rfl)];rfl
def DR.put(D:DR P ns b){v:N2}(hv:v∈P)(y:Int×List Nat):∃ns',DR P ns' (Gr.put b v y)/\gF (en v) (eW y) (ns.map en) (dV ns b)=(ns'.map en,dV ns' (Gr.put b v y)):=by
 by_cases h:v∈ns
 ·refine⟨ns,⟨D.nd,λu=>?_,D.sub⟩,?_⟩
  ·by_cases z:u=v
   ·subst z;rw[dU];exact⟨λ_=>rfl,λ_=>h⟩
   ·rw[jw z];exact D.mem u
  ·unfold dV
   rw[u4 _ _ _ _ D.nd h]
   congr 1
   refine Kp λu _=>?_
   by_cases z:u=v
   ·subst z;rw[if_pos rfl,dU];rfl
   ·rw[if_neg z,jw z]
 ·refine⟨ns++[v],⟨?_,λu=>?_,λu hu=>?_⟩,?_⟩
  ·exact LC.mpr ⟨D.nd,by simp,λx hx y hy=>by simp at hy;subst hy;exact λz=>h (z▸hx)⟩
  ·rw[JR,JY]
   by_cases z:u=v
   ·subst z;rw[dU];exact⟨λ_=>rfl,λ_=>.inr rfl⟩
   ·rw[jw z,<-D.mem u];exact⟨λw=>w.elim id λy=>absurd y z,.inl⟩
  ·rcases JR.mp hu with w|w
   ·exact D.sub u w
   ·rw[JY.mp w];exact hv
  ·unfold dV
   rw[j9 _ _ _ _ h,Kh,Kh]
   congr 1
   congr 1
   ·refine Kp λu hu=>?_
    rw[jw (λ(z:u=v)=>h (z▸hu))]
   ·simp[dU,oW]
def zr(D:DR P ns b)(x:N2×N2×Int)(d:Int)(w:List Nat):
  dj [.dct (ns.map en) (dV ns b),eB x,eW (d,w)]=.ok (.bl (dZ b x.2.1 (d+x.2.2))):=by
 refine bM rfl ?_
 show iD [.va (.dct (ns.map en) (dV ns b)),.va (eB x),.va (eW (d,w)),.em]=_
 unfold iD
 have g:oD gY (vr 0) (o2 aS (vr 1) (cn (.int 1))) [.va (.dct (ns.map en) (dV ns b)),.va (eB x),.va (eW (d,w)),.em]=.ok (oW (b x.2.1)):=by
  refine Hg (ks:=ns.map en) (vs:=dV ns b) (u:=en x.2.1) rfl rfl ?_
  unfold gY;rw[cK];simp only[D.get];cases b x.2.1 <;> rfl
 rw[aC (bU (t:=oW (b x.2.1)) (ρ':=[.va (.dct (ns.map en) (dV ns b)),.va (eB x),.va (eW (d,w)),.va (oW (b x.2.1))]) g rfl)];refine cO ?_
 unfold dZ
 cases q:b x.2.1 with
 |none=>exact EE (aI (t:=.non) (u:=.non) rfl rfl rfl)
 |some y=>exact(EF (aI (t:=eW y) (u:=.non) rfl rfl rfl)).trans (aI (t:=.int (d+x.2.2)) (u:=.int y.1) rfl rfl rfl)
abbrev Ig:T->En->Rs En:=gT 2 (mG (gN 4) (mG (gN 5) wo))
def eL(L:b8 N2):T:=.lst (L.map eB)
def xC(L:b8 N2)(t:T):T:=match t with
 |.int j=>match L[j.toNat]? with
  |some x=>en x.1
  |none=>.non
 |_=>.non
variable{L:b8 N2}
theorem uA:∀{ks:List Nat}{a b:N2},Ch L a ks b->(eN ks).map (xC L)=(d8 L ks).map en
 |[],_,_,_=>rfl
 |k::r,a,b,h=>by
  rw[h.Iz];obtain⟨c,m,e,h⟩:=h
  show xC L (.int k)::(eN r).map (xC L)=en a::(d8 L r).map en
  rw[uA h]
  congr 1
  unfold xC;simp only[Kl,e]
theorem zM(v:N2):∀(l:List N2),oE (en v) (l.map en)=decide (v∈l)
 |[] =>rfl
 |u::l=>by
  have ih:=zM v l;unfold oE at ih ⊢;rw[JG,LU,ih,zI]
  by_cases h:u=v
  ·subst h;simp
  ·have h':¬ v=u:=λz=>h z.symm
   simp[h,h']
theorem rP(v:N2):∀(l:List N2)(n:Nat),v∈l->iY (en v) (l.map en) n=ZA (n+l.idxOf v)
 |[],n,h=>by simp at h
 |u::l,n,h=>by
  rw[JG,iY,zI,Sn]
  by_cases z:u=v
  ·subst z;simp
  ·have h':v∈l:=(JL.mp h).elim (λy=>absurd y.symm z) id
   have zb:(u == v)=ZD:=by rw[beq_eq_false_iff_ne];exact z
   rw[zb,decide_eq_false z,if_neg J7,rP v l (n+1) h'];simp only[cond_false]
   congr 1
   omega
def CA(v:N2):(en v).nd=ZC:=rfl
theorem pT(f:α->T)(h:∀a,(f a).nd=ZC):∀l:List α,nds (l.map f)=ZC
 |[] =>rfl
 |a::l=>by rw[JG,nds,h a,pT f h l];rfl
def zy(v:N2):(en v).dep<=60:=by show(T.tup [.int v.c,.int v.k]).dep<=60;simp[T.dep,deps]
def Hs(v:N2)(l:List N2):FI (en v) (.lst (l.map en))=.ok (.bl (decide (v∈l))):=by
 show(if (_\/_)/\_/\(T.lst (l.map en)).nd=ZC then _ else _)=_
 rw[if_pos ⟨.inl (zy v),rfl,pT en CA l⟩,zM]
def y6(v:N2)(l:List N2)(h:v∈l):fP (.lst (l.map en)) (en v)=.ok (.int ((l.idxOf v:Nat):Int)):=by
 unfold fP;simp only;rw[if_pos ⟨.inl (zy v),rfl,pT en CA l⟩,rP v l 0 h,M5]
def E8(p q:List Nat):eN (p++q)=eN p++eN q:=by unfold eN;rw[Kh]
theorem yq(D:Bool):∀ks:List Nat,nks D (eN ks)=ZC
 |[] =>rfl
 |k::r=>by show nks D (.int k::eN r)=ZC;unfold nks;rw[yq D r];rfl
def Ch.len{a b:N2}(h:Ch L a ks b)(hn:(d8 L ks).Nodup):ks.length<=L.length:=by
 have:=iO (h.nodup hn) (m:=KS L.length) λk hk=>Lu.mpr (h.lt k hk)
 rwa [L6]at this
abbrev sE(L:b8 N2)(st:T)(o:OT)(b:Bool)(k:Nat)(x:N2×N2×Int)(s6 s7 s8:Sl):En:=[.va (eL L),.va st,.ow o,.va (.bl b),.va (.int k),.va (eB x),s6,s7,s8]
def CO(L:b8 N2)(P ns:List N2)(b:b6 N2)(k:Nat)(x:N2×N2×Int)(st:T)(mv:Bool)(s6 s7 s8:Sl):Sum (Option (b6 N2)) (List Nat)->Prop
 |.inl ZB=>∃s6' s7' s8',zY (sE L st (.dct (ns.map en) (dV ns b)) mv k x s6 s7 s8)=.ok (.ct (sE L st (.dct (ns.map en) (dV ns b)) mv k x s6' s7' s8'))
 |.inl (ZA b')=>∃ns' s6' s7' s8',DR P ns' b'/\zY (sE L st (.dct (ns.map en) (dV ns b)) mv k x s6 s7 s8)=.ok (.nx (sE L st (.dct (ns'.map en) (dV ns' b')) ZC k x s6' s7' s8'))
 |.inr q=>zY (sE L st (.dct (ns.map en) (dV ns b)) mv k x s6 s7 s8)=.ok (.rt (.tup [.non,.lst (eN q)]))
def AA{S:List N2}{x:N2×N2×Int}(K:Kept L S b)(D:DR P ns b)(hL:L.length<=500)(hP:P.length<1000)(e:L[k]?=ZA x)(hx:x.2.1∈P)(st:T)(mv:Bool)(s6 s7 s8:Sl):
  CO L P ns b k x st mv s6 s7 s8 (gk L b k x):=by
 obtain⟨a,c,m⟩:=x;unfold CO
 generalize hks:ns.map en=ks
 generalize hvs:dV ns b=vs
 have get:∀s7 s8,ln 2 (oD gY (vr 2) (o2 aS (vr 5) (cn (.int 0)))) (sE L st (.dct ks vs) mv k (a,c,m) s6 s7 s8)=.ok (oW (b a)):=λs7 s8=>by
  refine k_ln (o:=.dct ks vs) rfl (Hg (ks:=ks) (vs:=vs) (u:=en a) rfl rfl ?_) ?_
  ·unfold gY
   rw[cK,<-hks,<-hvs];simp only[D.get];cases b a <;> rfl
  ·cases b a with
   |none=>rfl
   |some y=>show nks ZC [.int y.1,.lst (eN y.2)]=ZC;simp[nks,T.nk,yq]
 have s1:∀G,ay (cu (ln 2 (oD gY (vr 2) (o2 aS (vr 5) (cn (.int 0))))) (gN 6)) G (sE L st (.dct ks vs) mv k (a,c,m) s6 s7 s8)=G (sE L st (.dct ks vs) mv k (a,c,m) (.va (oW (b a))) s7 s8):=λG=>
  aC (bU (t:=oW (b a)) (get s7 s8) rfl)
 cases qa:b a with
 |none=>
  rw[show gk L b k (a,c,m)=.inl ZB from by unfold gk;simp only[qa]]
  simp only;refine⟨.va .non,s7,s8,?_⟩
  unfold zY;rw[s1,qa]
  exact yO (jn (F:=Cw) (CD (cM (aI (t:=.non) (u:=.non) rfl rfl rfl))))
 |some y=>
  obtain⟨d,w⟩:=y
  have bt:∀s7 s8,Et 2 (tb (cl dj (ae (vr 2) (ae (vr 5) (ae (vr 6) ai))))) (sE L st (.dct ks vs) mv k (a,c,m) (.va (eW (d,w))) s7 s8)=.ok (dZ b c (d+m)):=λs7 s8=>by
   refine Hi (cM (aT (ts:=[.dct ks vs,eB (a,c,m),eW (d,w)]) rfl ?_))
   rw[<-hks,<-hvs];exact zr D (a,c,m) d w
  have nn:tb (o2 lh (vr 6) (cn .non)) (sE L st (.dct ks vs) mv k (a,c,m) (.va (eW (d,w))) s7 s8)=.ok ZD:=cM (aI (t:=eW (d,w)) (u:=.non) rfl rfl rfl)
  have cond:=uJ nn (gX (bt s7 s8))
  have s1':∀G,ay (cu (ln 2 (oD gY (vr 2) (o2 aS (vr 5) (cn (.int 0))))) (gN 6)) G (sE L st (.dct ks vs) mv k (a,c,m) s6 s7 s8)=G (sE L st (.dct ks vs) mv k (a,c,m) (.va (eW (d,w))) s7 s8):=λG=>by rw[s1 G,qa];rfl
  cases hb:dZ b c (d+m)with
  |false=>
   rw[show gk L b k (a,c,m)=.inl ZB from by unfold gk;simp only[qa,hb];rfl]
   simp only;rw[hb]at cond;refine⟨.va (eW (d,w)),s7,s8,?_⟩
   unfold zY;rw[s1']
   exact yO (jn (F:=Cw) cond)
  |true=>
   rw[hb]at cond;obtain⟨s,hs,h1,h2,h3,h4,h5⟩:=K.walk a d w qa
   have hch:Ch L s (w++[k]) c:=h1.snoc e
   have hwl:w.length<=500:=J5 (Ch.len h1 h4) hL
   have s2:∀G,ay (dP (lZ (tb (o2 lh (vr 6) (cn .non))) (cI (Et 2 (tb (cl dj (ae (vr 2) (ae (vr 5) (ae (vr 6) ai)))))))) Cw sN) G (sE L st (.dct ks vs) mv k (a,c,m) (.va (eW (d,w))) s7 s8)=G (sE L st (.dct ks vs) mv k (a,c,m) (.va (eW (d,w))) s7 s8):=λG=>
    aC (ρ':=(sE L st (.dct ks vs) mv k (a,c,m) (.va (eW (d,w))) s7 s8)) ((du (F:=Cw) (G:=sN) cond).trans rfl)
   have wk:o2 aG (o2 aS (vr 6) (cn (.int 1))) (ez (ae (vr 4) ai)) (sE L st (.dct ks vs) mv k (a,c,m) (.va (eW (d,w))) s7 s8)=.ok (.lst (eN (w++[k]))):=by
    refine aI (t:=.lst (eN w)) (u:=.lst (eN [k])) rfl (jm (ts:=[.int k]) rfl (aN (k:=1) (by simp))) ?_
    show jl (eN w++eN [k])=_
    rw[<-E8];unfold jl;rw[if_pos (aN (k:=1000) (by unfold eN;rw[JE,JC];simp;omega))]
   have s3:∀G,ay (cu (o2 aG (o2 aS (vr 6) (cn (.int 1))) (ez (ae (vr 4) ai))) (gN 7)) G (sE L st (.dct ks vs) mv k (a,c,m) (.va (eW (d,w))) s7 s8)=G (sE L st (.dct ks vs) mv k (a,c,m) (.va (eW (d,w))) (.va (.lst (eN (w++[k])))) s8):=λG=>aC (bU wk rfl)
   have ps:d9 (iS (vr 7)) [ZB,ZA 0] (gN 0) bT (o2 aS (o2 aS (vr 1) (vr 0)) (cn (.int 0))) (sE L st (.dct ks vs) mv k (a,c,m) (.va (eW (d,w))) (.va (.lst (eN (w++[k])))) s8)=.ok (.lst ((d8 L (w++[k])).map en)):=by
    rw[<-uA hch];refine mx (ts:=eN (w++[k])) (uK rfl) (aN (k:=1000) (by unfold eN;rw[JE,JC];simp;omega)) (by simp) λt ht=>?_
    unfold eN at ht;obtain⟨j,hj,rfl⟩:=JQ.mp ht
    have hjl:=hch.lt j hj;refine aI (t:=eB L[j]) (u:=.int 0) (Hl (l:=L.map eB) (n:=j) rfl rfl (by rw[Ko,JW hjl];rfl)) rfl ?_
    unfold xC;simp only[Kl,JW hjl]
    rfl
   have s4:∀G,ay (cu (d9 (iS (vr 7)) [ZB,ZA 0] (gN 0) bT (o2 aS (o2 aS (vr 1) (vr 0)) (cn (.int 0)))) (gN 8)) G (sE L st (.dct ks vs) mv k (a,c,m) (.va (eW (d,w))) (.va (.lst (eN (w++[k])))) s8)=G (sE L st (.dct ks vs) mv k (a,c,m) (.va (eW (d,w))) (.va (.lst (eN (w++[k])))) (.va (.lst ((d8 L (w++[k])).map en)))):=λG=>aC (bU ps rfl)
   have inn:tb (o2 FI (o2 aS (vr 5) (cn (.int 1))) (vr 8)) (sE L st (.dct ks vs) mv k (a,c,m) (.va (eW (d,w))) (.va (.lst (eN (w++[k])))) (.va (.lst ((d8 L (w++[k])).map en))))=.ok (decide (c∈d8 L (w++[k]))):=
    cM (aI (t:=en c) (u:=.lst ((d8 L (w++[k])).map en)) rfl rfl (Hs c _))
   by_cases hn:c∈d8 L (w++[k])
   ·rw[show gk L b k (a,c,m)=.inr ((w++[k]).drop ((d8 L (w++[k])).idxOf c))from by unfold gk;simp only[qa,hb,if_pos hn,if_true]]
    simp only;unfold zY;rw[s1',s2,s3,s4];rw[decide_eq_true hn]at inn;refine mw ((jn inn).trans (cO ?_))
    have sle:sl (vr 7) (pS (oL fP (vr 8) (o2 aS (vr 5) (cn (.int 1))))) pN (sE L st (.dct ks vs) mv k (a,c,m) (.va (eW (d,w))) (.va (.lst (eN (w++[k])))) (.va (.lst ((d8 L (w++[k])).map en))))=.ok (.lst (eN ((w++[k]).drop ((d8 L (w++[k])).idxOf c)))):=by
     rw[CC (l:=eN (w++[k])) (lo:=ZA (((d8 L (w++[k])).idxOf c:Nat):Int)) (hi:=ZB) rfl (k_pS (k_oL (ks:=(d8 L (w++[k])).map en) (u:=en c) rfl rfl (y6 c _ hn))) rfl,zE];unfold eN;rw[List.map_drop]
    exact(b7 (ts:=[.non,.lst (eN ((w++[k]).drop ((d8 L (w++[k])).idxOf c)))]) (ak rfl (ak sle rfl)) (aN (k:=2) (by simp)))
   ·rw[show gk L b k (a,c,m)=.inl (ZA (Gr.put b c (d+m,w++[k])))from by unfold gk;simp only[qa,hb,if_neg hn,if_true]]
    simp only;rw[decide_eq_false hn]at inn;obtain⟨ns',D',hd⟩:=D.put hx (d+m,w++[k]);refine⟨ns',.va (eW (d,w)),.va (.lst (eN (w++[k]))),.va (.lst ((d8 L (w++[k])).map en)),D',?_⟩
    unfold zY;rw[s1',s2,s3,s4];rw[aC (ρ':=(sE L st (.dct ks vs) mv k (a,c,m) (.va (eW (d,w))) (.va (.lst (eN (w++[k])))) (.va (.lst ((d8 L (w++[k])).map en))))) ((du (G:=sN) inn).trans rfl)]
    have pt:vL 2 (o2 aS (vr 5) (cn (.int 1))) (a8 (ae (o2 aG (o2 aS (vr 6) (cn (.int 0))) (o2 aS (vr 5) (cn (.int 2)))) (ae (vr 7) ai))) (sE L st (.dct ks vs) mv k (a,c,m) (.va (eW (d,w))) (.va (.lst (eN (w++[k])))) (.va (.lst ((d8 L (w++[k])).map en))))
      = .ok (.nx (sE L st (.dct (ns'.map en) (dV ns' (Gr.put b c (d+m,w++[k])))) mv k (a,c,m) (.va (eW (d,w))) (.va (.lst (eN (w++[k])))) (.va (.lst ((d8 L (w++[k])).map en))))):=by
     have ev:a8 (ae (o2 aG (o2 aS (vr 6) (cn (.int 0))) (o2 aS (vr 5) (cn (.int 2)))) (ae (vr 7) ai)) (sE L st (.dct ks vs) mv k (a,c,m) (.va (eW (d,w))) (.va (.lst (eN (w++[k])))) (.va (.lst ((d8 L (w++[k])).map en))))=.ok (eW (d+m,w++[k])):=
      b7 (ts:=[.int (d+m),.lst (eN (w++[k]))]) rfl (aN (k:=2) (by simp))
     have ek:o2 aS (vr 5) (cn (.int 1)) (sE L st (.dct ks vs) mv k (a,c,m) (.va (eW (d,w))) (.va (.lst (eN (w++[k])))) (.va (.lst ((d8 L (w++[k])).map en))))=.ok (en c):=rfl
     show(a8 _ _ >>= λv=>o2 aS (vr 5) (cn (.int 1)) _ >>= λkk=>match keyOf kk with|some _=>if ks.length<1000 then Rs.ok (Fl.nx _)else .bad|none=>.bad)=_
     rw[ev,aA,ek,aA,cK]
     have hlen:ks.length<1000:=by rw[<-hks,JE];exact QQ (iO D.nd D.sub) hP
     simp only[if_pos hlen]
     have hd1:gF (en c) (eW (d+m,w++[k])) ks vs=(ns'.map en,dV ns' (Gr.put b c (d+m,w++[k]))):=by rw[<-hks,<-hvs];exact hd
     rw[hd1]
     rfl
    rw[aC pt];exact bU (t:=.bl ZC) rfl rfl
def wO(L:b8 N2)(st:T)(ns:List N2)(b:b6 N2)(mv:Bool)(s4 s5 s6 s7 s8:Sl):En:=[.va (eL L),.va st,.ow (.dct (ns.map en) (dV ns b)),.va (.bl mv),s4,s5,s6,s7,s8]
def zP(L:b8 N2)(P:List N2)(st:T)(X:Rs Fl):Sum (b6 N2×Bool) (List Nat)->Prop
 |.inr q=>X=.ok (.rt (.tup [.non,.lst (eN q)]))
 |.inl (b',mv')=>∃ns' s4 s5 s6 s7 s8,DR P ns' b'/\X=.ok (.nx (wO L st ns' b' mv' s4 s5 s6 s7 s8))
theorem pe{S:List N2}(hL:L.length<=500)(hP:P.length<1000)(hx:∀x∈L,x.2.1∈P)(st:T):∀(r:b8 N2)(k:Nat)(b:b6 N2)(mv:Bool)(ns:List N2)(s4 s5 s6 s7 s8:Sl),L.drop k=r->Kept L S b->DR P ns b →
  zP L P st (bw Ig zY (bO k (r.map eB)) (wO L st ns b mv s4 s5 s6 s7 s8)) (gS L k r b mv)
 |[],k,b,mv,ns,s4,s5,s6,s7,s8,_,K,D=>⟨ns,s4,s5,s6,s7,s8,D,rfl⟩
 |x::r,k,b,mv,ns,s4,s5,s6,s7,s8,hr,K,D=>by
  have e:L[k]?=ZA x:=by
   have:=congrArg (·[0]?) hr
   simpa using this
  have hr':L.drop (k+1)=r:=by
   have:=congrArg (List.drop 1) hr
   simpa [Oq,Of]using this
  have tg:Ig (.tup [.int k,eB x]) (wO L st ns b mv s4 s5 s6 s7 s8)=.ok [.va (eL L),.va st,.ow (.dct (ns.map en) (dV ns b)),.va (.bl mv),.va (.int k),.va (eB x),s6,s7,s8]:=rfl
  have tn:=AA K D hL hP e (hx x (K5 e)) st mv s6 s7 s8;rw[gS,JG,bO]
  cases q:gk L b k x with
  |inr w=>
   rw[q]at tn;simp only;unfold zP
   exact By tg tn
  |inl o=>
   rw[q]at tn
   cases o with
   |none=>
    obtain⟨s6',s7',s8',tn⟩:=tn;simp only;rw[Bz tg tn]
    exact pe hL hP hx st r (k+1) b mv ns _ _ _ _ _ hr' K D
   |some b'=>
    obtain⟨ns',s6',s7',s8',D',tn⟩:=tn;simp only;rw[fY tg tn];refine pe (S:=S) hL hP hx st r (k+1) b' ZC ns' _ _ _ _ _ hr' ?_ D'
    obtain⟨a,c,m⟩:=x;unfold gk at q
    cases qa:b a with
    |none=>simp only[qa]at q;cases q
    |some y=>
     obtain⟨d,w⟩:=y;simp only[qa]at q
     split at q
     ·rename_i hb
      split at q
      ·cases q
      ·rename_i hn
       cases q;exact K.put e qa hb hn
     ·cases q
abbrev wF:V5:=ay (cu (cn (.bl ZD)) (gN 3)) (gz (iE (ae (vr 0) ai)) Ig zY)
def SetP(L:b8 N2)(P:List N2)(st:T)(X:Rs Fl):Sum (b6 N2) (List Nat)->Prop
 |.inr q=>X=.ok (.rt (.tup [.non,.lst (eN q)]))
 |.inl b'=>∃ns' s4 s5 s6 s7 s8,DR P ns' b'/\X=.ok (.nx (wO L st ns' b' ZD s4 s5 s6 s7 s8))
theorem qW{S:List N2}(hL:L.length<=500)(hP:P.length<1000)(hx:∀x∈L,x.2.1∈P)(st:T):∀(n:Nat)(b:b6 N2)(ns:List N2)(s4 s5 s6 s7 s8:Sl)(r:Sum (b6 N2) (List Nat)),Kept L S b->DR P ns b->Gr.settle L n b=ZA r →
  SetP L P st (bH (tb (vr 3)) wF (n+1) (wO L st ns b ZC s4 s5 s6 s7 s8)) r
 |0,_,_,_,_,_,_,_,_,_,_,h=>by cases h
 |n+1,b,ns,s4,s5,s6,s7,s8,r,K,D,h=>by
  have sw:=pe hL hP hx st L 0 b ZD ns s4 s5 s6 s7 s8 rfl K D
  have ok:=hV (S:=S) L 0 b ZD rfl K
  have body:∀X,bw Ig zY (bO 0 (L.map eB)) (wO L st ns b ZD s4 s5 s6 s7 s8)=.ok X->wF (wO L st ns b ZC s4 s5 s6 s7 s8)=.ok X:=λX hX=>by
   show ay _ _ _=_
   rw[aC (ρ':=wO L st ns b ZD s4 s5 s6 s7 s8) (bU (t:=.bl ZD) rfl rfl)];exact jo (ts:=bO 0 (L.map eB)) (CG rfl) hX
  have tt:tb (vr 3) (wO L st ns b ZC s4 s5 s6 s7 s8)=.ok ZC:=rfl;rw[Gr.settle]at h
  revert sw ok h
  generalize gS L 0 L b ZD=R
  intro h sw ok
  cases R with
  |inr q=>
   simp only at h;cases h
   exact yJ tt (body _ sw)
  |inl p=>
   obtain⟨b',mv'⟩:=p;obtain⟨ns',t4,t5,t6,t7,t8,D',sw⟩:=sw;obtain⟨K',_⟩:=ok
   cases mv' with
   |true=>
    simp only at h
    have ih:=qW hL hP hx st n b' ns' t4 t5 t6 t7 t8 r K' D' h;rw[rM tt (body _ sw)]
    exact ih
   |false=>
    simp only at h;cases h;refine⟨ns',t4,t5,t6,t7,t8,D',?_⟩
    rw[rM tt (body _ sw)];exact yK rfl
theorem gv{c:V7}{F:V5}{x:Fl}:∀{n m:Nat}{ρ:En},n<=m->bH c F n ρ=.ok x->bH c F m ρ=.ok x
 |0,_,_,_,h=>by cases h
 |n+1,0,_,hl,_=>absurd hl (by omega)
 |n+1,m+1,ρ,hl,h=>by
  unfold bH at h ⊢
  cases q:c ρ with
  |bad=>rw[q]at h;cases h
  |err _=>rw[q]at h;cases h
  |ok k=>
   rw[q]at h
   cases k with
   |false=>exact h
   |true=>
    simp only at h ⊢
    cases q2:F ρ with
    |bad=>rw[q2]at h;cases h
    |err _=>rw[q2]at h;cases h
    |ok f=>
     rw[q2]at h
     cases f with
     |nx ρ'=>exact gv (by omega) h
     |ct ρ'=>exact gv (by omega) h
     |bk ρ'=>exact h
     |rt t=>exact h
theorem xW(w:T):∀S:List N2,FE (S.map λv=>.tup [en v,w])=ZA (S.map λv=>(en v,w))
 |[] =>rfl
 |v::S=>by rw[JG,FE,cK,xW w S];rfl
theorem rX(w:T):∀(S ns:List N2)(g:N2->T),(ns++S).Nodup->(∀v∈S,g v=w)->fF (S.map λv=>(en v,w)) (ns.map en,ns.map g)=((ns++S).map en,(ns++S).map g)
 |[],ns,g,_,_=>by rw[Kr];rfl
 |v::S,ns,g,hn,hg=>by
  have hv:v∉ns:=λz=>by
   rw[LC]at hn;exact hn.2.2 v z v JI rfl
  rw[JG,fF,j9 _ _ _ _ hv]
  have e1:ns.map en++[en v]=(ns++[v]).map en:=by rw[Kh];rfl
  have e2:ns.map g++[w]=(ns++[v]).map g:=by rw[Kh,<-hg v JI];rfl
  rw[e1,e2,rX w S (ns++[v]) g (by rw[JX];exact hn) λu hu=>hg u (JF _ hu),JX]
  rfl
def BZ(w:T)(S:List N2)(hn:S.Nodup)(hl:S.length<=1000):u7 [.lst (S.map λv=>.tup [en v,w])]=.ok (.dct (S.map en) (S.map λ_=>w)):=by
 unfold u7;simp only[xW];rw[if_pos (by rw[JE];exact hl)]
 have:=rX w S [] (λ_=>w) (by simpa using hn) (λ_ _=>rfl)
 rw[Mz]at this;rw[show(([]:List T),([]:List T))=(([]:List N2).map en,([]:List N2).map λ_=>w)from rfl,this]
def eS(S:List N2):T:=.lst (S.map en)
def Cd(L:b8 N2)(P:List N2)(X:Rs T):Sum (b6 N2) (List Nat)->Prop
 |.inr q=>X=.ok (.tup [.non,.lst (eN q)])
 |.inl b'=>∃ns',DR P ns' b'/\X=.ok (.tup [.dct (ns'.map en) (dV ns' b'),.non])
structure FA (L:b8 N2)(P:List N2):Prop where
 len:L.length<=500
 size:size L<=100000000
 ends:∀x∈L,x.1∈P/\x.2.1∈P
 pl:P.length<1000
def SOk(L:b8 N2)(S:List N2):Sum (b6 N2) (List Nat)->Prop
 |.inr q=>Bar L q
 |.inl b'=>Settled L S b'
def zk{S:List N2}(F:FA L P)(hS:S.Nodup)(hSP:∀v∈S,v∈P):∃r,Cd L P (iq [eL L,eS S]) r/\SOk L S r:=by
 have bound:L.length*(2*size L+1)<1000000000000 - 1:=by
  have h1:=F.len
  have h2:=F.size
  have:L.length*(2*size L+1)<=500*(2*100000000+1):=Nat.mul_le_mul h1 (by omega)
  omega
 obtain⟨r,hr,ok⟩:=sP L S bound
 have ok':SOk L S r:=by cases r <;> exact ok
 refine⟨r,?_,ok'⟩
 have hSl:S.length<=1000:=J5 (iO hS hSP) (by have:=F.pl;omega)
 have D0:DR P S (Gr.start S):=⟨hS,λv=>by unfold Gr.start;by_cases h:v∈S <;> simp[h],hSP⟩
 have dv0:dV S (Gr.start S)=S.map λ_=>eW (0,[]):=Kp λv hv=>by unfold Gr.start;rw[if_pos hv];rfl
 have w:=qW F.len F.pl (λx hx=>(F.ends x hx).2) (eS S) _ (Gr.start S) S .em .em .em .em .em r (mr L S) D0 hr
 have lc:d9 (iS (vr 1)) [ZB] (gN 0) bT (a8 (ae (vr 0) (ae (a8 (ae (cn (.int 0)) (ae (ez ai) ai))) ai))) [.va (eL L),.va (eS S),.em,.em,.em,.em,.em,.em,.em]=.ok (.lst (S.map λv=>.tup [en v,eW (0,[])])):=by
  have:=mx (fi:=iS (vr 1)) (src:=[ZB]) (fe:=a8 (ae (vr 0) (ae (a8 (ae (cn (.int 0)) (ae (ez ai) ai))) ai))) (h:=λt=>.tup [t,eW (0,[])]) (ρ:=[.va (eL L),.va (eS S),.em,.em,.em,.em,.em,.em,.em]) (ts:=S.map en) (uK rfl) (aN (k:=1000) (by rw[JE];exact hSl)) (by simp) λt _=>
   b7 (ts:=[t,eW (0,[])]) (ak rfl (ak (b7 (ts:=[.int 0,.lst []]) (ak rfl (ak (jm (ts:=[]) rfl (KI _)) rfl)) (aN (k:=2) (by simp))) rfl)) (aN (k:=2) (by simp))
  rw[this,J6];rfl
 have n0:nL 2 (d9 (iS (vr 1)) [ZB] (gN 0) bT (a8 (ae (vr 0) (ae (a8 (ae (cn (.int 0)) (ae (ez ai) ai))) ai)))) [.va (eL L),.va (eS S),.em,.em,.em,.em,.em,.em,.em]=.ok (.nx [.va (eL L),.va (eS S),.ow (.dct (S.map en) (dV S (Gr.start S))),.em,.em,.em,.em,.em,.em]):=by
  unfold nL;rw[lc,aA,BZ _ S hS hSl,aA,dv0]
  rfl
 have main:∀G X,bH (tb (vr 3)) wF FU (wO L (eS S) S (Gr.start S) ZC .em .em .em .em .em)=.ok X->iA [.va (eL L),.va (eS S),.em,.em,.em,.em,.em,.em,.em]=G->(ay (bH (tb (vr 3)) wF FU) (pj 2 (aF (a8 (ae (vr 2) (ae (cn .non) ai)))))) (wO L (eS S) S (Gr.start S) ZC .em .em .em .em .em)=G:=λG X _ h=>by
  rw[<-h];unfold iA;rw[aC n0,aC (ρ':=wO L (eS S) S (Gr.start S) ZC .em .em .em .em .em) (bU (t:=.bl ZC) rfl rfl)]
 cases r with
 |inr q=>
  have w':=gv (m:=FU) (by unfold FU;omega) w
  refine bM rfl ?_
  show iA [.va (eL L),.va (eS S),.em,.em,.em,.em,.em,.em,.em]=_
  rw[<-main _ _ w' rfl]
  exact mw w'
 |inl b'=>
  obtain⟨ns',s4,s5,s6,s7,s8,D',w⟩:=w
  have w':=gv (m:=FU) (by unfold FU;omega) w
  refine⟨ns',D',bM rfl ?_⟩
  show iA [.va (eL L),.va (eS S),.em,.em,.em,.em,.em,.em,.em]=_
  rw[<-main _ _ w' rfl,aC w'];exact Ho (cO (b7 (ts:=[.dct (ns'.map en) (dV ns' b'),.non]) rfl (aN (k:=2) (by simp))))
theorem mh{f:α->T}{p:α->Prop}:∀{l:List T},(∀t∈l,∃x,t=f x/\p x)->∃L:List α,l=L.map f/\∀x∈L,p x
 |[],_=>⟨[],rfl,λ_ h=>nomatch h⟩
 |t::l,h=>by
  obtain⟨x,e,hx⟩:=h t JI;obtain⟨L,e2,h2⟩:=mh (l:=l) λu hu=>h u (JF _ hu)
  exact⟨x::L,by rw[e,e2];rfl,λy hy=>(JL.mp hy).elim (λz=>z▸hx) (h2 y)⟩
def mM{t:T}(h:bp t=ZC):∃(x y:Int)(r:List Int),t=.tup [.int x,.int y,.tup (r.map .int)]/\(0<=x/\x<=9)/\(0<=y/\y<=9)/\∀k,0<=r.getD k 0/\r.getD k 0<=99:=by
 obtain⟨x,y,r,rfl,h1,h2,h3,h4⟩:=gG h;refine⟨x,y,r,rfl,h1,h2,λk=>?_⟩
 have h':(la (.int x) (.int y)&&cp (.tup (r.map .int)))=ZC:=h;rw[JH]at h'
 have hr:=h'.2;unfold cp at hr;rw[JH]at hr
 have hr2:(((r.map T.int).all λu=>within u 0 99)&&(match jA (r.map .int)with|some m=>jG m|none=>ZD))=ZC:=hr.2
 rw[JH]at hr2
 by_cases hk:k<r.length
 ·have:=J4.mp hr2.1 (.int r[k]) (JQ.mpr ⟨_,Lg hk,rfl⟩)
  obtain⟨i,e,a,b⟩:=dD this;cases e;simp[hk];exact⟨a,b⟩
 ·simp[hk]
variable{i:Nat}
def lA{cs:List T}:∀{cs0:List T}{c k:Nat},i<=c->c<i+cs0.length->k<rf (cs0.getD (c - i) .non)->T.tup [.int c,.int k] ∈dv i cs0:=by
 intro cs0
 induction cs0 generalizing i with
 |nil=>intro c k h1 h2;simp at h2;omega
 |cons a r ih=>
  intro c k h1 h2 h3;rw[dv,JR]
  by_cases e:c=i
  ·subst e
   rw[MB]at h3
   have h3':k<rf a:=h3;exact .inl (JQ.mpr ⟨.int k,Br h3',rfl⟩)
  ·refine .inr (ih (by omega) (by rw[JJ]at h2;omega) ?_)
   rw[show c - i=(c - (i+1))+1 by omega]at h3
   exact h3
def n9{t:T}(h:a9 cs t=ZC):t∈dv 0 cs:=by
 obtain⟨c,k,rfl⟩:=eM h;unfold a9 at h;simp only[JH,decide_eq_true_eq]at h;obtain⟨⟨h1,h2⟩,h3,h4⟩:=h;obtain⟨c,rfl⟩:=KL h1;obtain⟨k,rfl⟩:=KL h3;rw[nM]at h4;exact lA (cs:=cs) (KI _) (by omega) (by rw[Mg];omega)
def zh{t:T}(h:t∈dv 0 cs):∃v:N2,t=en v/\True:=by
 obtain⟨c,k,rfl,_⟩:=gD cs 0 h;exact⟨⟨c,k⟩,rfl,trivial⟩
def big(x:N2×N2×Int):Prop:=x.2.2.natAbs<=999
def nV{a b:Int}(ha : -99<=a/\a<=99)(hb:0<=b/\b<=9):(a*b).natAbs<=999:=by
 rw[Int.natAbs_mul]
 have h1:a.natAbs<=99:=by omega
 have h2:b.natAbs<=9:=by omega
 exact J5 (Nat.mul_le_mul h1 h2) (by decide)
variable{cs0:List T}
theorem CK:∀{cs:List T}{i:Nat},(∀c∈cs,bp c=ZC)->(∀c k:Nat,i<=c->c<i+cs.length->k<rf (cs.getD (c - i) .non)->T.tup [.int c,.int k] ∈dv 0 cs0) →
  ∀t∈bC i cs,∃x,t=eB x/\(en x.1∈dv 0 cs0/\en x.2.1∈dv 0 cs0/\big x)
 |[],_,_,_,t,h=>by simp[bC]at h
 |c::cs,i,hc,hm,t,h=>by
  rw[bC,JR]at h;rcases h with h|h
  ·obtain⟨x,y,r,rfl,hx,hy,hr⟩:=mM (hc c JI)
   have hm0:∀k,k<r.length->T.tup [.int i,.int k] ∈dv 0 cs0:=λk hk=>hm i k (JO _) (by simp) (by rw[MB];show k<(r.map T.int).length;rw[JE];exact hk)
   rw[tZ]at h;unfold cB at h;obtain⟨k,hk,hp⟩:=RX.mp h
   have hk:=Lu.mp hk
   have d : -99<=dr r k/\dr r k<=99:=by have:=hr k;have:=hr (k+1);unfold dr;omega
   unfold pr at hp;simp only[JL,KN,or_false]at hp;rcases hp with rfl|rfl
   ·exact⟨(⟨i,k⟩,⟨i,((k+1:Nat):Int)⟩,dr r k*y),rfl,hm0 k (by omega),hm0 (k+1) (by omega),nV d hy⟩
   ·exact⟨(⟨i,((k+1:Nat):Int)⟩,⟨i,k⟩,-dr r k*x),rfl,hm0 (k+1) (by omega),hm0 k (by omega),nV (by omega) hx⟩
  ·exact CK (cs:=cs) (i:=i+1) (λc h=>hc c (JF _ h)) (λc k h1 h2 h3=>hm c k (by omega) (by rw[JJ];omega) (by rw[show c - i=(c - (i+1))+1 by omega];exact h3)) t h
def He{u:T}(hu:bQ cs u=ZC):∀t∈lB u,∃x,t=eB x/\(en x.1∈dv 0 cs/\en x.2.1∈dv 0 cs/\big x):=by
 intro t ht;obtain⟨a,b,x,y,rfl,hd,ha,hb,_⟩:=j5 hu
 have ma:=n9 ha
 have mb:=n9 hb;obtain⟨va,rfl,_⟩:=zh ma;obtain⟨vb,rfl,_⟩:=zh mb;unfold eF at hd;rw[JH]at hd;obtain⟨i,rfl,i1,i2⟩:=dD hd.1
 have e2:lB (.tup [en va,en vb,.int i,y])=.tup [en vb,en va,.int (-i)] ::(if y.isN then []else [.tup [en va,en vb,y]]):=rfl
 rw[e2]at ht;rcases JL.mp ht with rfl|ht
 ·exact⟨(vb,va,-i),rfl,mb,ma,by unfold big;simp only;omega⟩
 ·cases q:y.isN with
  |true=>rw[q]at ht;simp at ht
  |false=>
   rw[q]at ht
   have ht:t=.tup [en va,en vb,y]:=by simpa using ht
   have hw:within y i 999=ZC:=by
    cases y with
    |non=>cases q
    |_=>exact hd.2
   obtain⟨j,rfl,j1,j2⟩:=dD hw;exact⟨(va,vb,j),ht,ma,mb,by unfold big;simp only;omega⟩
structure Rd (cs ls:List T)(L:b8 N2)(P:List N2):Prop where
 g:Good cs ls
 b:FL cs ls=L.map eB
 e:dv 0 cs=P.map en
 f:FA L P
 nd:P.Nodup
 pl:P.length<=16
 ll:L.length<=60
 bg:∀x∈L,big x
def Az(h:∀x∈L,big x):size L<=999*L.length:=by
 unfold size
 induction L with
 |nil=>simp
 |cons x L ih=>
  rw[JG,K1,JJ]
  have:=ih λy hy=>h y (JF _ hy)
  have:=h x JI;unfold big at this;omega
def yo(h:(P.map en).Nodup):P.Nodup:=by
 induction P with
 |nil=>exact MR
 |cons a r ih=>
  rw[JG,KA]at h;exact KA.mpr ⟨λz=>h.1 (JQ.mpr ⟨a,z,rfl⟩),ih h.2⟩
def nN(g:Good cs ls):∃L P,Rd cs ls L P:=by
 obtain⟨hc,c1,c4⟩:=bj g.c;obtain⟨P,eP,_⟩:=mh (f:=en) (p:=λ_=>True) (l:=dv 0 cs) λt ht=>zh ht
 have key:∀t∈FL cs ls,∃x,t=eB x/\(en x.1∈dv 0 cs/\en x.2.1∈dv 0 cs/\big x):=λt ht=>by
  unfold FL at ht;rw[JR]at ht;rcases ht with h|h
  ·exact CK hc (λc k h1 h2 h3=>lA (cs:=cs) h1 h2 h3) t h
  ·obtain⟨u,hu,h⟩:=RX.mp h
   exact He (g.l u hu) t h
 obtain⟨L,eL,hL⟩:=mh key
 have mem:∀v:N2,en v∈dv 0 cs->v∈P:=λv hv=>by
  rw[eP]at hv;obtain⟨u,hu,e⟩:=JQ.mp hv;rw[<-tF e];exact hu
 have hl:=B8 g;rw[eL,JE]at hl
 have hp:=p8 cs 0 hc;rw[eP,JE]at hp
 have hs:=Az λx hx=>(hL x hx).2.2
 exact⟨L,P,g,eL,eP,⟨by omega,by omega,λx hx=>⟨mem _ (hL x hx).1,mem _ (hL x hx).2.1⟩,by omega⟩,yo (eP▸kx cs 0),by omega,hl,λx hx=>(hL x hx).2.2⟩
def run(L:b8 N2):N2->List Nat->Option N2
 |a,[] =>ZA a
 |a,k::r=>match L[k]? with
  |some x=>if x.1=a then run L x.2.1 r else ZB
  |none=>ZB
def Rd.bounds(R:Rd cs ls L P):fz [RR cs ls]=.ok (eL L):=by rw[zq R.g,R.b];rfl
def Rd.events(R:Rd cs ls L P):bJ [RR cs ls]=.ok (eS P):=by rw[yc R.g,R.e];rfl
def Fj(D:DR P ns b){v:N2}(e:b v=ZA x):ja (.dct (ns.map en) (dV ns b)) (en v)=.ok (eW x):=by
 unfold ja;simp only[cK];rw[D.get,e];rfl
def bu(P:List N2)(t:N2->Int):T:=.tup (P.map λv=>.int (t v))
def Ie(b:b6 N2)(v:N2):Int:=match b v with
 |some x=>x.1
 |none=>0
def atT(t:N2->Int)(u:T):T:=match u with
 |.tup [.int c,.int k] =>.int (t ⟨c,k⟩)
 |_=>.non
def Rd.IY(R:Rd cs ls L P):(¬se L/\dW [(RR cs ls)]=.ok .non)\/(se L/\∃t b,Settled L P b/\(∀v∈P,∃w,b v=ZA (t v,w))/\dW [(RR cs ls)]=.ok (bu P t)):=by
 obtain⟨r,hr,ok⟩:=zk R.f R.nd (λv h=>h)
 have wrap:∀{w:T},dm [(RR cs ls),eL L]=.ok w->dW [(RR cs ls)]=.ok w:=λ{w} e=>bM rfl (cO (aT (ts:=[(RR cs ls),eL L]) (ak rfl (ak (aT (ts:=[(RR cs ls)]) rfl R.bounds) rfl)) e))
 have begin_:∀{x z:T}{y:Rs Fl},iq [eL L,eS P]=.ok (.tup [x,z])->((ay (dP (tb (o2 lh (vr 3) (cn .non))) (aF (cn .non)) sN) (aF (cl fU (ae (d9 (iS (vr 2)) [ZB,ZA 3] (gN 0) bT (o2 aS (o2 ja (vr 1) (vr 0)) (cn (.int 0)))) ai)))) [.va (RR cs ls),.va (eL L),.va (eS P),.va x]=y)->eC [.va (RR cs ls),.va (eL L),.em,.em]=y:=λ{x z y} hs hy=>by
  unfold eC;rw[aC (ρ':=[.va (RR cs ls),.va (eL L),.va (eS P),.em]) (bU (aT (ts:=[(RR cs ls)]) rfl R.events) rfl)];rw[aC (ρ':=[.va (RR cs ls),.va (eL L),.va (eS P),.va x]) (bU (aI (u:=.int 0) (aT (ts:=[eL L,eS P]) rfl hs) rfl rfl) rfl)];exact hy
 cases r with
 |inr q=>exact .inl ⟨λn=>absurd n (Bar.neg ok),wrap (bM rfl (begin_ hr (mw ((jn (cM (aI (t:=.non) (u:=.non) rfl rfl rfl))).trans rfl))))⟩
 |inl b=>
  obtain⟨ns,D,hr⟩:=hr
  have ok:Settled L P b:=ok
  have htm:∀v∈P,∃w,b v=ZA (Ie b v,w):=λv hv=>by
   obtain⟨d,w,e,_⟩:=ok.least v hv v 0 (.nil v);exact⟨w,by unfold Ie;rw[e]⟩
  refine .inr ⟨(ok.holds R.f.ends htm).Jj,Ie b,b,ok,htm,wrap (bM rfl (begin_ hr ?_))⟩
  generalize Ie b=tm at htm
  have lc:d9 (iS (vr 2)) [ZB,ZA 3] (gN 0) bT (o2 aS (o2 ja (vr 1) (vr 0)) (cn (.int 0))) [.va (RR cs ls),.va (eL L),.va (eS P),.va (.dct (ns.map en) (dV ns b))]=.ok (.lst ((P.map en).map (atT tm))):=
   mx (ts:=P.map en) (uK rfl) (aN (k:=16) (by rw[JE];exact R.pl)) (by simp) λt ht=>by
    obtain⟨v,hv,rfl⟩:=JQ.mp ht;obtain⟨w,e⟩:=htm v hv;exact aI (t:=eW (tm v,w)) (u:=.int 0) (aI (t:=.dct (ns.map en) (dV ns b)) (u:=en v) rfl rfl (Fj D e)) rfl rfl
  rw[J6]at lc;rw[aC (ρ':=[.va (RR cs ls),.va (eL L),.va (eS P),.va (.dct (ns.map en) (dV ns b))]) ((du (cM (aI (t:=.dct (ns.map en) (dV ns b)) (u:=.non) rfl rfl rfl))).trans rfl)];exact cO (aT (ak lc rfl) rfl)
def Rd.Ju(R:Rd cs ls L P):∃hw:Bool,eI [(RR cs ls)]=.ok (.bl hw)/\(hw=ZC↔se L):=by
 rcases R.IY with⟨n,e⟩|⟨n,t,b,_,_,e⟩
 ·exact⟨ZD,bM rfl (cO (aI (t:=.non) (u:=.non) (aT (ts:=[(RR cs ls)]) rfl e) rfl rfl)),λz=>(by cases z),λz=>absurd z n⟩
 ·exact⟨ZC,bM rfl (cO (aI (t:=bu P t) (u:=.non) (aT (ts:=[(RR cs ls)]) rfl e) rfl rfl)),λ_=>n,λ_=>rfl⟩
theorem rL:∀(P:List N2),kU (P.map en)=ZC
 |[] =>rfl
 |u::P=>by
  have:=rL P;simp[kU,cK,this]
variable{f:V6}
def EH{l:List T}{t:T}{i:Int}(n:Nat)(h:f ρ=.ok (.tup l))(e:l[n]?=ZA t)(hi:autoParam (i=(n:Nat)) u_):o2 aS f (cn (.int i)) ρ=.ok t:=by subst hi;exact wc h rfl e
theorem mj{g:T->En->Rs En}{fc:V7}{fe:V6}{p:T->Bool}{h:T->T}(I:En->Prop):∀(ts:List T)(ρ:En),I ρ->(∀t∈ts,∀ρ,I ρ->∃ρ1,g t ρ=.ok ρ1/\I ρ1/\fc ρ1=.ok (p t)/\fe ρ1=.ok (h t))->cT g fc fe ts ρ=.ok ((ts.filter p).map h)
 |[],_,_,_=>rfl
 |t::r,ρ,hI,hf=>by
  obtain⟨ρ1,e1,i1,e2,e3⟩:=hf t JI ρ hI
  have ih:=mj I r ρ1 i1 λu hu=>hf u (JF _ hu)
  unfold cT
  cases q:p t with
  |true=>simp only[e1,aA,e2,q,if_true,e3,ih,OZ q,JG]
  |false=>simp only[e1,aA,e2,q,KQ,if_false,ih,O0 (show ¬p t=ZC by rw[q];decide)]
theorem oj(g:N2->T):∀(S ns:List N2),(ns++S).Nodup->fF ((S.map en).zip (S.map g)) (ns.map en,ns.map g)=((ns++S).map en,(ns++S).map g)
 |[],ns,_=>by rw[Kr];rfl
 |v::S,ns,hn=>by
  have hv:v∉ns:=λz=>by
   rw[LC]at hn;exact hn.2.2 v z v JI rfl
  rw[JG,JG,QR,fF,j9 _ _ _ _ hv]
  have e1:ns.map en++[en v]=(ns++[v]).map en:=by rw[Kh];rfl
  have e2:ns.map g++[g v]=(ns++[v]).map g:=by rw[Kh];rfl
  rw[e1,e2,oj g S (ns++[v]) (by rw[JX];exact hn),JX]
  rfl
def lG(P:List N2)(t:N2->Int):T:=.dct (P.map en) (P.map λv=>.int (t v))
def hB(t:N2->Int)(x:N2×N2×Int):Bool:=decide (t x.2.1 - t x.1<=x.2.2)
def Ik(t:N2->Int)(u:T):Bool:=match u with
 |.tup [_,.tup [.tup [.int a,.int b],.tup [.int c,.int d],.int m]] =>!hB t (⟨a,b⟩,⟨c,d⟩,m)
 |_=>ZD
def brH(u:T):T:=match u with
 |.tup [i,_] =>i
 |_=>.non
def B6(t:N2->Int)(L:b8 N2):List T:=((bO 0 (L.map eB)).filter (Ik t)).map brH
def zH(t:N2->Int)(i:T)(x:N2×N2×Int):Ik t (.tup [i,eB x])= !hB t x:=rfl
theorem zj{t:T}:∀{l:List T}{i:Nat},t∈bO i l->∃k u,u∈l/\t=.tup [.int (k:Nat),u]
 |[],i,h=>by simp[bO]at h
 |u::l,i,h=>by
  rw[bO,JL]at h;rcases h with rfl|h
  ·exact⟨i,u,JI,rfl⟩
  ·obtain⟨k,w,hw,e⟩:=zj h
   exact⟨k,w,JF _ hw,e⟩
theorem qj(t:N2->Int):∀(L:b8 N2)(i:Nat),((bO i (L.map eB)).filter (Ik t))=[] ↔L.all (hB t)=ZC
 |[],i=>by simp[bO]
 |x::L,i=>by
  rw[JG,bO,QF,JH,<-qj t L (i+1)]
  cases q:hB t x with
  |true=>rw[O0 (by rw[zH,q];decide)];simp
  |false=>rw[OZ (by rw[zH,q];rfl)];simp
def holds_all{t:N2->Int}:L.all (hB t)=ZC↔Holds L t:=by
 rw[J4];refine⟨λh a b m hm=>by have:=h _ hm;exact of_decide_eq_true this,λh x hx=>decide_eq_true (h _ _ _ hx)⟩
theorem rR:∀(l:List T)(i:Nat),(bO i l).length=l.length
 |[],_=>rfl
 |t::l,i=>by rw[bO,JJ,JJ,rR l (i+1)]
def vf{t:N2->Int}{u:T}(h:u∈B6 t L):∃k:Nat,u=.int (k:Nat):=by
 obtain⟨w,hw,rfl⟩:=JQ.mp h;obtain⟨k,y,_,rfl⟩:=zj (Lw.mp hw).1;exact⟨k,rfl⟩
def Fv(t:N2->Int)(L:b8 N2):eqT (.lst (B6 t L)) (.lst [])=.ok (.bl (L.all (hB t))):=by
 have pl:(T.lst (B6 t L)).pl=ZC:=by
  unfold T.pl;exact ku λu hu=>by obtain⟨k,rfl⟩:=vf hu;rfl
 unfold eqT;rw[if_pos (rO (by simp[T.dep,deps]) (T.Iw _ pl) (T.Iw _ (by rfl)))]
 cases q:L.all (hB t)with
 |true=>
  unfold B6
  rw[(qj t L 0).mpr q];rfl
 |false=>
  have:B6 t L≠ []:=λz=>by
   unfold B6 at z;rw[(qj t L 0).mp (LH.mp z)]at q;cases q
  cases e:B6 t L with
  |nil=>exact absurd e this
  |cons a l=>simp[aX,beqTs]
theorem uU:∀{P:List N2}{τ:List Int},P.Nodup->τ.length=P.length->∃t:N2->Int,P.map t=τ
 |[],[],_,_=>⟨λ_=>0,rfl⟩
 |[],_::_,_,h=>by simp at h
 |_::_,[],_,h=>by simp at h
 |v::P,x::τ,hn,h=>by
  obtain⟨t,e⟩:=uU (KA.mp hn).2 (by simpa using h:τ.length=P.length)
  refine⟨λu=>if u=v then x else t u,?_⟩
  rw[JG,if_pos rfl,<-e]
  congr 1
  refine Kp λu hu=>if_neg λz=>?_
  rw[z]at hu;exact(KA.mp hn).1 hu
def yY(n:Nat)(u:T):Bool:=c8 u n n&&(match u with
 |.tup l=>l.all FH
 |_=>ZD)
def Cu(P:List N2)(t:N2->Int):yY P.length (bu P t)=ZC:=by
 unfold yY bu;simp only[JH];refine⟨by simp[c8],J4.mpr λu hu=>?_⟩
 obtain⟨v,_,rfl⟩:=JQ.mp hu
 rfl
def qJ(P:List N2)(t:N2->Int):(bu P t).pl=ZC:=by
 unfold bu;rw[ib];exact ku λu hu=>by obtain⟨v,_,rfl⟩:=JQ.mp hu;rfl
def xo(P:List N2)(t:N2->Int):(bu P t).dep<=60:=by
 have:deps (P.map λv=>T.int (t v))<=5:=qd λu hu=>by obtain⟨v,_,rfl⟩:=JQ.mp hu;simp[T.dep]
 unfold bu T.dep;omega
def Cz(P:List N2)(t:N2->Int):neT (bu P t) (bu P t)=.ok (.bl ZD):=jZ (qJ P t) (xo P t)
def Rd.pos(R:Rd cs ls L P):0<P.length:=by
 obtain⟨hcl,c1,_⟩:=bj R.g.c
 have e:=congrArg Lh R.e;rw[JE]at e;rw[<-e]
 cases cs with
 |nil=>simp at c1
 |cons c cs=>
  obtain⟨x,y,r,rfl,r1,_⟩:=dN (hcl c JI);rw[dv,JC,fE]
  show 0<r.length+_
  omega
def Rd.dz(R:Rd cs ls L P)(t:N2->Int):FK [eS P,bu P t]=.ok (lG P t):=by
 have h0:=R.pos
 have h1:=R.pl
 show(if kU (P.map en)=ZC/\(P.map en).length=(P.map λv=>T.int (t v)).length/\1<=(P.map en).length/\(P.map en).length<=1000 then _ else _)=_
 rw[if_pos ⟨rL P,by rw[JE,JE],by rw[JE];omega,by rw[JE];omega⟩]
 have:=oj (λv=>.int (t v)) P [] (by simpa using R.nd)
 rw[Mz]at this;rw[show(([]:List T),([]:List T))=(([]:List N2).map en,([]:List N2).map λv=>T.int (t v))from rfl,this]
 rfl
def zA{t:N2->Int}{v:N2}{a b:V6}(ha:a ρ=.ok (lG P t))(hb:b ρ=.ok (en v))(hv:v∈P):o2 ja a b ρ=.ok (.int (t v)):=by
 refine aI (t:=lG P t) (u:=en v) ha hb ?_
 show(match mK (P.map en) (P.map λv=>T.int (t v)) (ky v)with|some t=>Rs.ok t|none=>.bad)=_
 rw[qb (λv=>T.int (t v)),if_pos hv]
def BM{t:N2->Int}{x:N2×N2×Int}(h1:x.1∈P)(h2:x.2.1∈P):lC [eB x,lG P t]=.ok (.bl (hB t x)):=by
 refine bM rfl (cO ?_)
 show o2 Eu (o2 gg (o2 ja (vr 1) (o2 aS (vr 0) (cn (.int 1)))) (o2 ja (vr 1) (o2 aS (vr 0) (cn (.int 0))))) (o2 aS (vr 0) (cn (.int 2))) [.va (eB x),.va (lG P t)]=_
 exact aI (t:=.int (t x.2.1 - t x.1)) (u:=.int x.2.2) (aI (t:=.int (t x.2.1)) (u:=.int (t x.1)) (zA (P:=P) rfl (EH 1 rfl rfl) h2) (zA (P:=P) rfl (EH 0 rfl rfl) h1) rfl) (EH 2 rfl rfl) rfl
def Rd.IK(R:Rd cs ls L P)(t:N2->Int):dX [(RR cs ls),bu P t]=.ok (.lst (B6 t L)):=by
 refine bM rfl ?_
 show m3 [.va (RR cs ls),.va (bu P t),.em]=_
 unfold m3;rw[aC (ρ':=[.va (RR cs ls),.va (bu P t),.va (lG P t)]) (bU (aT (ts:=[eS P,bu P t]) (ak (aT (ts:=[(RR cs ls)]) rfl R.events) rfl) (R.dz t)) rfl)];refine cO ?_
 unfold d9;rw[CG (l:=L.map eB) (ak (aT (ts:=[(RR cs ls)]) rfl R.bounds) rfl),aA,if_pos (aN (k:=60) (by rw[rR,JE];exact R.ll))]
 rw[show cJ [ZB,ZB,ZA 2] [.va (RR cs ls),.va (bu P t),.va (lG P t)]=[.em,.em,.va (lG P t)]from rfl,mj (p:=Ik t) (h:=brH) (λρ=>∃a b,ρ=[a,b,.va (lG P t)]) _ _ ⟨_,_,rfl⟩ λu hu ρ hh_=>by
  obtain⟨a,b,e⟩:=hh_;subst e;obtain⟨k,w,hw,rfl⟩:=zj hu;obtain⟨x,hx,rfl⟩:=JQ.mp hw
  have hh:=R.f.ends x hx;exact⟨[.va (.int (k:Nat)),.va (eB x),.va (lG P t)],rfl,⟨_,_,rfl⟩,(gX (cM (aT (ts:=[eB x,lG P t]) rfl (BM hh.1 hh.2)))),rfl⟩]
 rfl
def Rd.Jd(R:Rd cs ls L P){u:T}(hu:u.pl=ZC):cg [(RR cs ls),u]=.ok (.bl (yY P.length u)):=by
 refine bM rfl ?_
 show iF [.va (RR cs ls),.va u,.em]=_
 unfold iF;rw[aC (ρ':=[.va (RR cs ls),.va u,.va (.int (P.length:Nat))]) (bU (aT (ts:=[eS P]) (ak (aT (ts:=[(RR cs ls)]) rfl R.events) rfl) (by show Rs.ok (T.int ((P.map en).length:Nat))=_;rw[JE])) rfl)]
 refine cO (uL (aT (ts:=[u,.int (P.length:Nat),.int (P.length:Nat)]) rfl (iw u P.length P.length hu)) λh=>?_)
 obtain⟨l,rfl,_,hl⟩:=cX h;exact kJ (EI rfl) (aN (k:=16) (by have:=R.pl;omega)) (by simp) λv hv=>aT (ts:=[v]) rfl (uX v (by rw[ib]at hu;exact jS hu hv))
def Rd.isw(R:Rd cs ls L P)(t:N2->Int):dE [(RR cs ls),bu P t]=.ok (.bl (L.all (hB t))):=by
 refine bM rfl (cO ?_)
 refine(yU (aT (ts:=[(RR cs ls),bu P t]) rfl (by rw[R.Jd (qJ P t),Cu]))).trans ?_
 exact aI (t:=.lst (B6 t L)) (u:=.lst []) (aT (ts:=[(RR cs ls),bu P t]) rfl (R.IK t)) (jm rfl (aN (k:=1) (by simp))) (Fv t L)
open PySem.StrLaws
def tx(l:List Nat):Str:=⟨l.toArray⟩
def gx(l:List Nat):(tx l).cps.toList=l:=by simp[tx]
def bW(l:List Nat):(tx l).length=l.length:=by show l.toArray.size=_;simp
def ju(a b:List Nat):tx a++tx b=tx (a++b):=Str.ext' (by simp[Str.cps_append,tx])
def xk(x:Str):tx x.cps.toList=x:=Str.ext' (by simp[tx])
variable{b:List Nat}
def lR{a:List Nat}(h:tx a=tx b):a=b:=by
 have:=congrArg (λx:Str=>x.cps.toList) h
 rwa [gx,gx]at this
def xm(l:List Str):(l.map λx=>x.cps.toList).map tx=l:=by
 rw[J6];exact(Kp λx _=>xk x).trans (List.map_id l)
def cP(c:Nat):List (List Nat)->List Nat
 |[] =>[]
 |[p] =>p
 |p::q::r=>p++c::cP c (q::r)
theorem uN(c:Nat):∀ps:List (List Nat),QU (tx [c]) (ps.map tx)=tx (cP c ps)
 |[] =>rfl
 |[p] =>rfl
 |p::q::r=>by
  show tx p++tx [c] ++QU (tx [c]) ((q::r).map tx)=_
  rw[uN c (q::r),ju,ju]
  show tx ((p++[c])++cP c (q::r))=tx (p++c::cP c (q::r))
  rw[JX];rfl
theorem HK{c:Nat}:∀{p q r r':List Nat},c∉p->c∉q->(r=[]\/∃t,r=c::t)->(r'=[]\/∃t,r'=c::t)->p++r=q++r'->p=q/\r=r'
 |[],[],r,r',_,_,_,_,h=>⟨rfl,h⟩
 |[],b::q,r,r',_,hq,hr,_,h=>by
  rcases hr with rfl|⟨t,rfl⟩
  ·cases h
  ·injection h with h1 _;exact absurd (h1▸JI) hq
 |a::p,[],r,r',hp,_,_,hr,h=>by
  rcases hr with rfl|⟨t,rfl⟩
  ·cases h
  ·injection h with h1 _;exact absurd (h1▸JI) hp
 |a::p,b::q,r,r',hp,hq,hr,hr',h=>by
  injection h with h1 h2
  obtain⟨e1,e2⟩:=HK (λz=>hp (JF _ z)) (λz=>hq (JF _ z)) hr hr' h2
  exact⟨by rw[h1,e1],e2⟩
def xr(c:Nat):List (List Nat)->List Nat
 |[] =>[]
 |q::r=>c::cP c (q::r)
theorem mC(c:Nat)(p:List Nat):∀r,cP c (p::r)=p++xr c r
 |[] =>(Kr p).symm
 |_::_=>rfl
theorem qK(c:Nat):∀r,xr c r=[]\/∃t,xr c r=c::t
 |[] =>.inl rfl
 |_::_=>.inr ⟨_,rfl⟩
theorem kF{c:Nat}:∀{ps qs:List (List Nat)},ps≠ []->qs≠ []->(∀p∈ps,c∉p)->(∀q∈qs,c∉q)->cP c ps=cP c qs->ps=qs
 |[],_,h,_,_,_,_=>absurd rfl h
 |_::_,[],_,h,_,_,_=>absurd rfl h
 |p::ps,q::qs,_,_,hp,hq,h=>by
  rw[mC,mC]at h;obtain⟨e1,e2⟩:=HK (hp p JI) (hq q JI) (qK c ps) (qK c qs) h
  cases ps with
  |nil=>
   cases qs with
   |nil=>rw[e1]
   |cons=>cases e2
  |cons a ps=>
   cases qs with
   |nil=>cases e2
   |cons b qs=>
    have e3:cP c (a::ps)=cP c (b::qs):=by injection e2
    rw[e1,kF (by simp) (by simp) (λx hx=>hp x (JF _ hx)) (λx hx=>hq x (JF _ hx)) e3]
def xE(x y:Str):LG x y≠ []:=by
 unfold LG;split
 ·simp
 ·split
  ·simp
  ·rw[partsBetween_eq]
   obtain⟨p,r,e⟩:=partsFrom_ne x y.length 0 (Mi x y 0 x.length (x.length+1));rw[e];simp
def qT(c:Nat)(hne:ps≠ [])(hf:∀p∈ps,c∉p):LG (tx (cP c ps)) (tx [c])=ps.map tx:=by
 have e:=join_split (tx (cP c ps)) (tx [c])
 have f:=split_free (tx (cP c ps)) c
 have n:=xE (tx (cP c ps)) (tx [c])
 have f':∀p∈LG (tx (cP c ps)) (tx [c]),c∉p.cps.toList:=f
 generalize LG (tx (cP c ps)) (tx [c])=S at e n f'
 rw[<-xm S,uN]at e
 have:=kF (by intro z;exact n (LH.mp z)) hne (λp hp=>by obtain⟨s,hs,rfl⟩:=JQ.mp hp;exact f' s hs) hf (lR e)
 rw[<-this,xm]
def oV(l:List Nat)(i j:Nat):Nd (tx l) i j=tx ((l.drop i).take (j - i)):=by
 rw[<-xk (Nd (tx l) i j),strSub_toList,gx]
open PySem.NumText PyProof.Rows
def eQ(h:n<=100000):n<=ZI:=by rw[KW];omega
def addS{a:List Nat}(h:a.length+b.length<=100000):aG (.str (tx a)) (.str (tx b))=.ok (.str (tx (a++b))):=by
 show(if (tx a).length+(tx b).length<=ZI then Rs.ok (T.str (tx a++tx b))else .bad)=_
 rw[bW,bW,if_pos (eQ h),ju]
theorem xu:∀ps:List (List Nat),jO (ps.map λp=>T.str (tx p))=ZA (ps.map tx)
 |[] =>rfl
 |p::ps=>by
  show(jO (ps.map λp=>T.str (tx p))).map (tx p:: ·)=_
  rw[xu ps];rfl
def Bt(ps:List (List Nat)):((ps.map tx).map (·.length)).sum=(ps.map (·.length)).sum:=by
 rw[J6];exact congrArg List.sum (Kp λp _=>bW p)
def nY{sep:List Nat}(h:(ps.map (·.length)).sum+ps.length*sep.length<=100000):JoinOk (tx sep) (ps.map tx)=ZC:=by
 unfold JoinOk Builtin.Str.tooLong;rw[joinTotal,Bt,JE,bW,decide_eq_false (by rw[KW];omega)]
 rfl
theorem yV:∀ps:List (List Nat),QU (tx []) (ps.map tx)=tx ps.flatten
 |[] =>rfl
 |[p] =>by show tx p=tx (p++[]);rw[Kr]
 |p::q::r=>by
  show tx p++tx [] ++QU (tx []) ((q::r).map tx)=_
  rw[yV (q::r),ju,ju,Kr];rfl
def Hr(h:(ps.map (·.length)).sum<=100000):kW [.str (tx []),.lst (ps.map λp=>T.str (tx p))]=.ok (.str (tx ps.flatten)):=by
 show(match jO (ps.map λp=>T.str (tx p))with|some ss=>if JoinOk (tx []) ss=ZC then Rs.ok (T.str (Txt.join (tx []) ss))else .bad|none=>.bad)=_
 rw[xu]
 dsimp only
 rw[if_pos (nY (by simpa using h))]
 show Rs.ok (T.str (Rj (tx []) (ps.map tx)))=_
 rw[glued_eq_join,yV]
def De{c:Nat}(hne:ps≠ [])(hf:∀p∈ps,c∉p)(h1:(cP c ps).length<=100000)(h2:ps.length<=100000):de [.str (tx (cP c ps)),.str (tx [c])]=.ok (.lst (ps.map λp=>T.str (tx p))):=by
 show(if (tx [c]).length≠0/\(tx (cP c ps)).length<=1000000/\(LG (tx (cP c ps)) (tx [c])).length<=1000000 then Rs.ok (T.lst ((LG (tx (cP c ps)) (tx [c])).map .str))else .bad)=_
 rw[qT c hne hf,bW,bW,if_pos ⟨by simp,by omega,by rw[JE];omega⟩,J6]
 rfl
variable{fa:V6}{s:Str}
def wb{g:List T->Rs T}{fs:V4}{ts:List T}{x:Rs T}(h1:fa ρ=.ok (.str s))(h2:fs ρ=.ok ts)(h3:g (.str s::ts)=x):oS g fa fs ρ=x:=by
 unfold oS;rw[h1]
 show(fs ρ >>= λts=>g (.str s::ts))=x
 rw[h2];exact h3
def dg(i:Int):List Nat:=(JN (toString i)).cps.toList
def HI(i:Int):tx (dg i)=JN (toString i):=xk _
def HF{t:T}(h:yn (.str s)=.ok t):bR [.str s]=.ok t:=by
 refine bM rfl ?_
 show vM (vr 0) [.va (.str s)]=_
 unfold vM
 show(yn (.str s) >>= λv=>Rs.ok (Fl.rt v))=_
 rw[h];rfl
def aD(y:List Nat):List (List Nat)->List Nat
 |[] =>[]
 |[p] =>p
 |p::q::r=>p++(y++aD y (q::r))
def kZ(y p:List Nat){r:List (List Nat)}(h:r≠ []):aD y (p::r)=p++(y++aD y r):=by
 cases r with
 |nil=>exact absurd rfl h
 |cons=>rfl
theorem mB(y:List Nat):∀ps:List (List Nat),QU (tx y) (ps.map tx)=tx (aD y ps)
 |[] =>rfl
 |[p] =>rfl
 |p::q::r=>by
  show tx p++tx y++QU (tx y) ((q::r).map tx)=_
  rw[mB y (q::r),ju,ju]
  show tx ((p++y)++aD y (q::r))=tx (p++(y++aD y (q::r)))
  rw[JX]
def at_seq:At (tx l) (tx y) (tx l).length i↔i+y.length<=l.length/\(l.drop i).take y.length=y:=by
 unfold At;rw[subAt_eq,gx,bW,bW,gx];simp
section
variable {u:List Nat}{c:Nat}
def vm(h:At (tx l) (tx (u++c::v)) (tx l).length i):l[i+u.length]?=ZA c:=by
 obtain⟨h1,h2⟩:=at_seq.mp h
 have:((l.drop i).take (u++c::v).length)[u.length]?=ZA c:=by rw[h2,Kz (JO _),MB];rfl
 rw[List.getElem?_take]at this
 split at this
 ·rw[Ol]at this;exact this
 ·cases this
def lJ(h:l.drop a=p++((u++c::v)++r))(ha:a<=l.length):At (tx l) (tx (u++c::v)) (tx l).length (a+p.length):=by
 have hl:=congrArg Lh h;rw[Lo,JC,JC]at hl;refine at_seq.mpr ⟨by omega,?_⟩
 rw[<-Oq,h,Qb,Qc]
def zK(h:l.drop a=p++((u++c::v)++r))(hu:c∉u)(hp:c∉p)(hi:a<=i)(hlt:i<a+p.length):¬ At (tx l) (tx (u++c::v)) (tx l).length i:=λz=>by
 have m:=vm z
 have e:l[i+u.length]?=(l.drop a)[i+u.length - a]?:=by rw[Ol];congr 1;omega
 rw[e,h]at m
 by_cases q:i+u.length - a<p.length
 ·rw[Lc q]at m;exact hp (K5 m)
 ·rw[Kz (by omega),JX,Lc (by omega)]at m
  exact hu (K5 m)
def vk(hp:c∉l.drop a)(hi:a<=i):¬ At (tx l) (tx (u++c::v)) (tx l).length i:=λz=>by
 have m:=vm z
 have e:l[i+u.length]?=(l.drop a)[i+u.length - a]?:=by rw[Ol];congr 1;omega
 rw[e]at m;exact hp (K5 m)
theorem nP(hu:c∉u):∀(cuts:List Nat)(a f:Nat)(ps:List (List Nat)),ps≠ []->(∀p∈ps,c∉p)->a<=l.length->l.drop a=aD (u++c::v) ps →
  ChainG (tx l) (tx (u++c::v)) (tx l).length a cuts f->(∀k,f<=k->¬ At (tx l) (tx (u++c::v)) (tx l).length k)->partsFrom (tx l) (tx (u++c::v)).length a cuts=ps.map tx
 |[],a,f,ps,hne,hf,ha,h,hc,hn=>by
  have e:f=a:=hc;subst e
  cases ps with
  |nil=>exact absurd rfl hne
  |cons p r=>
   cases r with
   |nil=>
    show [Nd (tx l) f (tx l).length]=[tx p]
    rw[oV,bW,Nr (by rw[Lo];omega),h];rfl
   |cons q r=>exact absurd (lJ (u:=u) (c:=c) (v:=v) (r:=aD (u++c::v) (q::r)) h ha) (hn _ (by omega))
 |i::cuts,a,f,ps,hne,hf,ha,h,hc,hn=>by
  obtain⟨h1,h2,h3,h4⟩:=hc
  cases ps with
  |nil=>exact absurd rfl hne
  |cons p r=>
   cases r with
   |nil=>exact absurd h2 (vk (by rw[h];exact hf p JI) h1)
   |cons q r=>
    have h':l.drop a=p++((u++c::v)++aD (u++c::v) (q::r)):=h
    have hi:i=a+p.length:=by
     rcases Rq i (a+p.length)with z|z|z
     ·exact absurd h2 (zK h' hu (hf p JI) h1 z)
     ·exact z
     ·exact absurd (lJ h' ha) (h3 _ (by omega) z)
    subst hi
    have hl:=congrArg Lh h';rw[Lo,JC,JC]at hl
    have hy:(tx (u++c::v)).length=(u++c::v).length:=bW _
    show Nd (tx l) a (a+p.length)::partsFrom (tx l) (tx (u++c::v)).length (a+p.length+(tx (u++c::v)).length) cuts=tx p::(q::r).map tx
    rw[nP hu cuts (a+p.length+(tx (u++c::v)).length) f (q::r) (by simp) (λx hx=>hf x (JF _ hx)) (by rw[hy];omega) (by
     rw[hy,Nat.add_assoc,<-Oq,h',<-JX];rw[<-JC,Qb]) h4 hn]
    congr 1
    rw[oV,h']
    congr 1
    rw[Nat.add_sub_cancel_left];simp
end
def sL{x y:Str}(hw:1<=y.length)(h:∀i,¬At x y x.length i):LG x y=[x]:=by
 unfold LG;split
 ·rfl
 ·split
  ·rfl
  ·rename_i z
   exfalso
   apply z
   rcases occ_head x y (x.length+1) (by omega)with⟨e,_⟩|⟨i,r,_,hi,_⟩
   ·rw[e];rfl
   ·exact absurd hi (h i)
def tH(k:Nat):dg (Int.negSucc k)=45::(NK 10 (k+1)).map NT:=by
 unfold dg;rw[signs_ofString]
 show("-" ++Nat.repr (k+1)).toList.map NT=_
 rw[String.toList_append,Nat.toList_repr]
 rfl
def jC(m:Nat):dg (m:Int)=(NK 10 m).map NT:=W.KIN.signs_num m
def lF(m:Nat):AllDigits ((NK 10 m).map NT):=by
 intro c hc;obtain⟨ch,hch,e⟩:=JQ.mp hc
 have r:=digit_range (Nat.isDigit_of_mem_toDigits (by decide) (by decide) hch)
 rw[<-e];exact r
def zx(m:Nat):(NK 10 m).map NT≠ []:=by
 intro e
 have h:=toDigits_len_ge 10 m;rw[LH.mp e]at h;exact absurd h (by decide)
def u6{m:Nat}(h:m<10 ^ 10):((NK 10 m).map NT).length<=10:=by
 have:=W.KT.len_num (n:=(m:Int)) (by omega) (by omega)
 have e:(JN (toString (m:Int))).length=(dg (m:Int)).length:=by unfold dg;rw[Mj];rfl
 rw[e,jC]at this;exact this
def ka(i:Int):∀c∈dg i,c=45\/(48<=c/\c<=57):=by
 intro c hc
 cases i with
 |ofNat m=>exact .inr (lF m c (by have:=jC m;rw[<-this];exact hc))
 |negSucc k=>
  rw[tH]at hc;rcases JL.mp hc with rfl|hc
  ·exact .inl rfl
  ·exact .inr (lF _ c hc)
variable{i:Int}
def k4(h : -(10 ^ 10)<i/\i<10 ^ 10):(dg i).length<=11:=by
 cases i with
 |ofNat m=>rw[show dg (Int.ofNat m)=_ from jC m];exact J5 (u6 (by have:=h.2;simp at this;omega)) (by decide)
 |negSucc k=>rw[tH,JJ];exact Nat.succ_le_succ (u6 (by have:=h.1;omega))
def qc(h : -(10 ^ 10)<i/\i<10 ^ 10):Sd (tx (dg i))=ZA i:=by
 have hl:=k4 h
 cases i with
 |ofNat m=>
  have e:=intText_digits (x:=tx (dg (m:Int))) (by rw[gx,jC];exact lF m) (by rw[gx,jC];exact zx m) (by rw[bW];exact J5 hl (by decide))
  rw[gx,jC,W.KIN.val_back]at e;rw[show dg (Int.ofNat m)=_ from jC m]
  exact e
 |negSucc k=>
  have e:=intText_neg (x:=tx (dg (Int.negSucc k))) (cs:=(NK 10 (k+1)).map NT) (by rw[gx,tH]) (lF _) (zx _) (by rw[bW];exact J5 hl (by decide))
  rw[W.KIN.val_back]at e;rw[e]
  rfl
def Fm(hi : -(10 ^ 10)<i/\i<10 ^ 10)(hj : -(10 ^ 10)<j/\j<10 ^ 10)(h:dg i=dg j):i=j:=by
 have a:=qc hi;rw[h,qc hj]at a;exact(Kn a).symm
def strZ(h : -(10 ^ 10)<i/\i<10 ^ 10):lT [.int i]=.ok (.str (tx (dg i))):=by
 show(if i.natAbs.log2<1920 then Rs.ok (T.str (JN (toString i)))else .bad)=_
 rw[HI,if_pos]
 by_cases z:i.natAbs=0
 ·rw[z];decide
 ·have h2:i.natAbs<2 ^ 34:=by omega
  exact JS ((Nat.log2_lt z).mpr h2) (by decide)
def numZ(h : -(10 ^ 10)<i/\i<10 ^ 10):yn (.str (tx (dg i)))=.ok (.int i):=by
 show(if (tx (dg i)).length<=640/\(tx (dg i)).cps.all (· <1114112)=ZC then Rs.ok (rz (tx (dg i)))else .bad)=_
 have ha:(tx (dg i)).cps.all (· <1114112)=ZC:=by
  rw[Nn];intro c hc
  have hm:c∈dg i:=by simpa [tx]using hc
  have:=ka i c hm
  simp;omega
 rw[if_pos ⟨by rw[bW];have:=k4 h;omega,ha⟩]
 unfold rz;rw[qc h]
def Bw{x y:Str}(h:KC y=KC ⟨#[]⟩):decide (KC x<KC y)=ZD:=by
 rw[h,decide_eq_false_iff_not];unfold KC;rw[if_pos (by simp:(#[]:Array Nat).all (· <256)=ZC)]
 split
 ·omega
 ·split <;> omega
def km{u:List Nat}{c:Nat}(hu:c∉u)(hk:KC (tx (u++c::v))=KC ⟨#[]⟩)(hne:ps≠ [])(hf:∀p∈ps,c∉p):LG (tx (aD (u++c::v) ps)) (tx (u++c::v))=ps.map tx:=by
 have hw:1<=(tx (u++c::v)).length:=by rw[bW,JC,JJ];omega
 cases ps with
 |nil=>exact absurd rfl hne
 |cons p r=>
  cases r with
  |nil=>exact sL hw λi=>vk (a:=0) (hf p JI) (KI _)
  |cons q r=>
   obtain⟨f,hc,hn⟩:=occ_tight (tx (aD (u++c::v) (p::q::r))) (tx (u++c::v)) hw
   have P:=nP hu _ 0 f (p::q::r) (by simp) hf (KI _) rfl hc hn
   have H:=lJ (u:=u) (c:=c) (v:=v) (l:=aD (u++c::v) (p::q::r)) (p:=p) (r:=aD (u++c::v) (q::r)) (a:=0) rfl (KI _);unfold LG;rw[Bw hk,QB]
   have h1:=(at_seq.mp H).1;rw[if_neg (by rw[decide_eq_true_iff,bW,bW];omega)]
   rw[if_neg (λz=>by
    rcases occ_head (tx (aD (u++c::v) (p::q::r))) (tx (u++c::v)) ((tx (aD (u++c::v) (p::q::r))).length+1) (by omega)with⟨_,e⟩|⟨i,s,e,_⟩
    ·exact e _ H
    ·rw[e]at z;cases z),partsBetween_eq]
   exact P
def yb{u a:List Nat}{c:Nat}(hu:c∉u)(ha:c∉a):LA (tx (a++((u++c::v)++b))) (tx (u++c::v))=(tx a,tx (u++c::v),tx b):=by
 have H:=lJ (u:=u) (c:=c) (v:=v) (l:=a++((u++c::v)++b)) (p:=a) (r:=b) (a:=0) rfl (KI _);rw[M5]at H;unfold LA;rcases occ_head (tx (a++((u++c::v)++b))) (tx (u++c::v)) 1 (JO _)with⟨_,hn⟩|⟨i,r,e,hi,hmin⟩
 ·exact absurd H (hn _)
 ·rw[e]
  have:i=a.length:=by
   rcases Rq i a.length with z|z|z
   ·exact absurd hi (zK (p:=a) (r:=b) (a:=0) rfl hu ha (KI _) (by omega))
   ·exact z
   ·exact absurd H (hmin _ z)
  subst this
  dsimp only
  rw[oV,oV,bW,bW]
  have e1:((a++((u++c::v)++b)).drop 0).take (a.length - 0)=a:=by rw[Qa,Mg,Qc]
  have e2:(a++((u++c::v)++b)).drop (a.length+(u++c::v).length)=b:=by rw[<-JX,<-JC,Qb]
  rw[e1,e2,Nr (by rw[JC,JC];omega)]
def xF{u:List Nat}{c:Nat}(hu:c∉u)(hk:KC (tx (u++c::v))=KC ⟨#[]⟩)(hne:ps≠ [])(hf:∀p∈ps,c∉p)(h1:(aD (u++c::v) ps).length<=100000)(h2:ps.length<=100000):
  de [.str (tx (aD (u++c::v) ps)),.str (tx (u++c::v))]=.ok (.lst (ps.map λp=>T.str (tx p))):=by
 show(if _/\_/\_ then _ else _)=_
 rw[km hu hk hne hf,if_pos ⟨by rw[bW,JC,JJ];omega,by rw[bW];omega,by rw[JE];omega⟩,J6]
 rfl
def GZ{u a:List Nat}{c:Nat}(hu:c∉u)(ha:c∉a)(h:(a++((u++c::v)++b)).length<=100000):ie [.str (tx (a++((u++c::v)++b))),.str (tx (u++c::v))]=.ok (.tup [.str (tx a),.str (tx (u++c::v)),.str (tx b)]):=by
 show(if _/\_ then _ else _)=_
 rw[yb hu ha,if_pos ⟨by rw[bW,JC,JJ];omega,by rw[bW];omega⟩]
def Hq(h:(ps.map (·.length)).sum+ps.length*y.length<=100000):kW [.str (tx y),.lst (ps.map λp=>T.str (tx p))]=.ok (.str (tx (aD y ps))):=by
 show(match jO (ps.map λp=>T.str (tx p))with|some ss=>if JoinOk (tx y) ss=ZC then Rs.ok (T.str (Txt.join (tx y) ss))else .bad|none=>.bad)=_
 rw[xu]
 dsimp only
 rw[if_pos (nY h)]
 show Rs.ok (T.str (Rj (tx y) (ps.map tx)))=_
 rw[glued_eq_join,mB]
def Gn{z:List Nat}(hne:ps≠ [])(hf:∀p∈ps,10∉p)(h:(cP 10 ps).length<=100000):jR (tx [10]) (tx z) (.str (tx (cP 10 ps)))=.ok (.str (tx (aD z ps))):=by
 show(if _ then _ else _)=_
 rw[if_pos (by rw[bW];omega)]
 have:=replace_one (tx (cP 10 ps)) (tx z) 10;rw[show(⟨#[10]⟩:Str)=tx [10]from rfl,qT 10 hne hf,mB]at this
 rw[this]
def Gp(cs:List T)(y:T):T:=match y with
 |.tup [.int c,.int k] =>match cs.getD c.toNat .non with
  |.tup [_,_,.tup r] =>r.getD k.toNat .non
  |_=>.non
 |_=>.non
def xK{y:T}(hc:∀c∈cs,bp c=ZC)(h:y∈dv 0 cs):∃(c k:Nat)(x z:T)(r:List T)(v:Int),y=.tup [.int c,.int k]/\cs[c]?=ZA (.tup [x,z,.tup r])/\r[k]?=ZA (.int v)/\Gp cs y=.int v:=by
 obtain⟨c,k,rfl,h1,h2,h3⟩:=gD cs 0 h
 have hcl:c<cs.length:=by omega
 have e0:cs.getD (c - 0) .non=cs[c]:=by simp[hcl]
 rw[e0]at h3;obtain⟨x,z,r,e,_,_,a3,a4⟩:=gG (hc cs[c] (Lg hcl));rw[e]at h3
 have h3':k<r.length:=by
  have:k<(r.map T.int).length:=h3
  rwa [JE]at this
 refine⟨c,k,.int x,.int z,r.map .int,r.getD k 0,rfl,by rw[JW hcl,e],iW h3',?_⟩
 show(match cs.getD ((c:Int).toNat) .non with
  |.tup [_,_,.tup r] =>r.getD ((k:Int).toNat) .non
  |_=>.non)=_
 rw[Kl,Kl,show cs.getD c .non=.tup [.int x,.int z,.tup (r.map .int)]from by simp[hcl,e]]
 show(r.map T.int).getD k .non=_
 rw[Kq,iW h3'];rfl
def vP{y:T}(g:Good cs ls)(h:y∈dv 0 cs):cS [.tup [.tup cs,.tup ls],y]=.ok (Gp cs y):=by
 obtain⟨hc,c1,c4⟩:=bj g.c
 have hev:=zg h;obtain⟨c,k,x,z,r,v,rfl,e1,e2,e3⟩:=xK hc h;rw[e3];refine bM rfl ?_
 show gI [.va (.tup [.tup cs,.tup ls]),.va (.tup [.int c,.int k])]=_
 unfold gI;rw[aC (yS (t:=.non) (aT (ts:=[.tup [.tup cs,.tup ls]]) rfl (jY g.p g.ok)))];rw[aC (yS (t:=.non) (aT (ts:=[.tup [.tup cs,.tup ls],.tup [.int c,.int k]]) rfl (Bq g rfl hev)))];exact(cO (wc (n:=k) (l:=r) (aI (t:=.tup [x,z,.tup r]) (u:=.int 2) (wc (n:=c) (l:=cs) rfl rfl e1) rfl rfl) rfl e2))
variable{v:N2}
def adT(m:Int)(u:T):T:=match u with
 |.int i=>.int (i+m)
 |_=>.non
def Ew{fi:V4}{j:Nat}(t:N2->Int)(m:Int)(h:fi ρ=.ok (P.map λv=>.int (t v)))(hl:P.length<=16)(hj:ρ[j]?=ZA (.va (.int m))):d9 fi [ZB,ZA j] (gN 0) bT (o2 aG (vr 0) (vr 1)) ρ=.ok (.lst (P.map λv=>.int (t v+m))):=by
 rw[mx (h:=adT m) h (aN (k:=16) (by rw[JE];exact hl)) (by simp) λu hu=>by
  obtain⟨v,_,rfl⟩:=JQ.mp hu;refine aI (t:=.int (t v)) (u:=.int m) rfl ?_ rfl
  unfold cJ;simp only[JG,NG,hj]
  rfl,J6]
 rfl
def Rd.moved(R:Rd cs ls L P){t:N2->Int}(h:L.all (hB t)=ZC)(m:Int):fy [(.tup [.tup cs,.tup ls]),bu P t,.int m]=.ok (bu P λv=>t v+m):=by
 refine bM rfl ?_
 show jF [.va (.tup [.tup cs,.tup ls]),.va (bu P t),.va (.int m)]=_
 unfold jF;rw[aC (ρ':=[.va (.tup [.tup cs,.tup ls]),.va (bu P t),.va (.int m)]) ((du (gX (k:=ZC) (cM (aT (ts:=[(.tup [.tup cs,.tup ls]),bu P t]) rfl (by rw[R.isw,h]))))).trans rfl)]
 exact cO (aT (ak (Ew t m (EI rfl) R.pl rfl) rfl) vI)
def kO{b:b6 N2}{t:N2->Int}(F:FA L P)(S:Settled L P b)(hb:∀v∈P,∃w,b v=ZA (t v,w))(hv:v∈P): -100000000<=t v/\t v<=100000000:=by
 obtain⟨w,e⟩:=hb v hv;obtain⟨s,_,h2,h3,h4,h5⟩:=S.walk v _ w e
 have:=h2.small h5
 have:=F.size;rw[h3]at*;omega
abbrev sk:List Nat:=[32] ++97:: [116,32]
abbrev cm:List Nat:=[] ++44:: [32]
abbrev lK:=List (Int×Int)
def wd(x:Int×Int):List Nat:=dg x.1++(sk++dg x.2)
def bd(c:Nat)(row:lK):List Nat:=dg (c:Int)++([58,32] ++aD cm (row.map wd))
def tt:Nat->List lK->List Nat
 |_,[] =>[]
 |c,r::rs=>bd c r++(10::tt (c+1) rs)
def gp:Nat->List lK->List (List Nat)
 |_,[] =>[]
 |c,r::rs=>bd c r::gp (c+1) rs
def pw(q:List Nat×Int):List Nat:=q.1++(sk++dg q.2)
def sU(c:Nat):lK->List (List Nat×Int)
 |[] =>[]
 |x::r=>(dg (c:Int)++([58,32] ++dg x.1),x.2)::r.map λx=>(dg x.1,x.2)
def ig:Nat->List lK->List (List Nat×Int)
 |_,[] =>[]
 |c,r::rs=>sU c r++ig (c+1) rs
theorem fx:∀(rs:List lK)(c:Nat),tt c rs=cP 10 (gp c rs++[[]])
 |[],_=>rfl
 |r::rs,c=>by
  show bd c r++(10::tt (c+1) rs)=cP 10 (bd c r::(gp (c+1) rs++[[]]))
  rw[fx rs]
  cases h:gp (c+1) rs++[[]]with
  |nil=>simp at h
  |cons=>rfl
theorem uf:∀(rs:List lK)(c:Nat),tt c rs=((gp c rs).map (· ++[10])).flatten
 |[],_=>rfl
 |r::rs,c=>by
  show bd c r++(10::tt (c+1) rs)=(bd c r++[10])++((gp (c+1) rs).map (· ++[10])).flatten
  rw[uf rs,JX];rfl
theorem lI:∀(rs:List lK)(c:Nat),(gp c rs).length=rs.length
 |[],_=>rfl
 |r::rs,c=>by show(gp (c+1) rs).length+1=_;rw[lI rs];rfl
theorem et(y a p:List Nat):∀ps,a++aD y (p::ps)=aD y ((a++p)::ps)
 |[] =>rfl
 |q::r=>by show a++(p++(y++aD y (q::r)))=(a++p)++(y++aD y (q::r));rw[JX]
theorem kY(y:List Nat):∀(ps qs:List (List Nat)),ps≠ []->aD y (aD y ps::qs)=aD y (ps++qs)
 |[],_,h=>absurd rfl h
 |[p],qs,_=>rfl
 |p::q::r,qs,_=>by
  have:=kY y (q::r) qs (by simp)
  show aD y ((p++(y++aD y (q::r)))::qs)=p++(y++aD y (q::r++qs))
  rw[<-et,<-et,this]
variable{r:lK}
def HP(c:Nat)(h:r≠ []):bd c r=aD cm ((sU c r).map pw):=by
 cases r with
 |nil=>exact absurd rfl h
 |cons x r=>
  show dg (c:Int)++([58,32] ++aD cm (wd x::r.map wd))=aD cm (pw (dg (c:Int)++([58,32] ++dg x.1),x.2)::(r.map λx=>(dg x.1,x.2)).map pw)
  rw[et,et,J6]
  have e1:dg (c:Int)++([58,32] ++wd x)=pw (dg (c:Int)++([58,32] ++dg x.1),x.2):=by
   unfold wd pw;simp only[JX]
  rw[e1]
  rfl
def A2{c:Nat}(h:r≠ []):(sU c r).map pw≠ []:=by
 cases r with
 |nil=>exact absurd rfl h
 |cons=>simp[sU]
theorem tN:∀(rs:List lK)(c:Nat),(∀r∈rs,r≠ [])->aD cm (gp c rs++[[]])=aD cm ((ig c rs).map pw++[[]])
 |[],_,_=>rfl
 |r::rs,c,h=>by
  have hr:=h r JI
  have ih:=tN rs (c+1) λx hx=>h x (JF _ hx)
  show aD cm (bd c r::(gp (c+1) rs++[[]]))=aD cm ((sU c r++ig (c+1) rs).map pw++[[]])
  rw[HP c hr,Kh,JX];rw[<-kY cm _ ((ig (c+1) rs).map pw++[[]]) (A2 hr)];rw[kZ cm _ (by simp),kZ cm _ (by simp),ih]
theorem jT:∀(rs:List lK)(c:Nat),(ig c rs).map (·.2)=rs.flatten.map (·.2)
 |[],_=>rfl
 |r::rs,c=>by
  show(sU c r++ig (c+1) rs).map (·.2)=_
  rw[Kh,jT rs,K0,Kh]
  congr 1
  cases r with
  |nil=>rfl
  |cons x r=>show x.2::(r.map λx=>(dg x.1,x.2)).map (·.2)=_;rw[J6];rfl
theorem ri:∀(rs:List lK)(c:Nat),∀q∈ig c rs,∀n∈q.1,n≠97/\n≠44/\n≠10
 |[],_,q,h=>by cases h
 |r::rs,c,q,h=>by
  rcases JR.mp (show q∈sU c r++ig (c+1) rs from h)with h|h
  ·have dn:∀(i:Int)(n:Nat),n∈dg i->n≠97/\n≠44/\n≠10:=λi n z=>by rcases ka i n z with z|z <;> omega
   cases r with
   |nil=>cases h
   |cons x r=>
    rcases JL.mp h with rfl|h
    ·intro n hn
     rcases JR.mp hn with hn|hn
     ·exact dn _ n hn
     ·rcases JR.mp hn with hn|hn
      ·simp at hn;omega
      ·exact dn _ n hn
    ·obtain⟨x,_,rfl⟩:=JQ.mp h
     exact λn hn=>dn _ n hn
  ·exact ri rs (c+1) q h
def AX{q:List Nat×Int}(h:∀n∈q.1,n≠97/\n≠44/\n≠10):44∉pw q/\10∉pw q:=by
 have key:∀n∈pw q,n≠44/\n≠10:=λn hn=>by
  rcases JR.mp hn with hn|hn
  ·exact(h n hn).2
  ·rcases JR.mp hn with hn|hn
   ·simp at hn;omega
   ·rcases ka q.2 n hn with z|z <;> omega
 exact⟨λz=>(key _ z).1 rfl,λz=>(key _ z).2 rfl⟩
theorem mE{x:Nat}:∀{ps:List (List Nat)},x∈aD y ps->x∈y\/∃p∈ps,x∈p
 |[],h=>by cases h
 |[p],h=>.inr ⟨p,JI,h⟩
 |p::q::r,h=>by
  rcases JR.mp (show x∈p++(y++aD y (q::r))from h)with h|h
  ·exact .inr ⟨p,JI,h⟩
  ·rcases JR.mp h with h|h
   ·exact .inl h
   ·rcases mE h with h|⟨p',hp,h⟩
    ·exact .inl h
    ·exact .inr ⟨p',JF _ hp,h⟩
def B9(c:Nat)(r:lK):10∉bd c r:=λz=>by
 unfold bd at z;rcases JR.mp z with z|z
 ·rcases ka _ _ z with z|z <;> omega
 ·rcases JR.mp z with z|z
  ·simp at z
  ·rcases mE z with z|⟨p,hp,z⟩
   ·simp at z
   ·obtain⟨x,_,rfl⟩:=JQ.mp hp
    rcases JR.mp z with z|z
    ·rcases ka _ _ z with z|z <;> omega
    ·rcases JR.mp z with z|z
     ·simp at z
     ·rcases ka _ _ z with z|z <;> omega
theorem iz:∀(rs:List lK)(c:Nat),∀p∈gp c rs++[[]],10∉p
 |[],_,p,h=>by simp[gp]at h;subst h;simp
 |r::rs,c,p,h=>by
  rcases JL.mp (show p∈bd c r::(gp (c+1) rs++[[]])from h)with rfl|h
  ·exact B9 c r
  ·exact iz rs (c+1) p h
def AtN(l:List Nat)(n:Nat):Prop:=∃qs:List (List Nat),l=aD sk qs/\(∀q∈qs,97∉q)/\qs.length=n+1
def sd(h:97∉l):AtN l 0:=⟨[l],rfl,λq hq=>by rw[JY]at hq;exact hq▸h,rfl⟩
def atn1:AtN sk 1:=⟨[[],[]],rfl,λq hq=>by simp at hq;subst hq;simp,rfl⟩
theorem mF(y:List Nat):∀(ps:List (List Nat))(p q:List Nat)(qs:List (List Nat)),aD y (ps++[p])++aD y (q::qs)=aD y (ps++(p++q)::qs)
 |[],p,q,qs=>et y p q qs
 |[a],p,q,qs=>by
  show(a++(y++p))++aD y (q::qs)=a++(y++aD y ((p++q)::qs))
  rw[<-et];simp only[JX]
 |a::b::ps,p,q,qs=>by
  have:=mF y (b::ps) p q qs
  show(a++(y++aD y (b::ps++[p])))++aD y (q::qs)=a++(y++aD y (b::ps++(p++q)::qs))
  rw[<-this];simp only[JX]
def AtN.app{m:List Nat}{b:Nat}(h:AtN l a)(h2:AtN m b):AtN (l++m) (a+b):=by
 obtain⟨ps,rfl,f1,n1⟩:=h;obtain⟨qs,rfl,f2,n2⟩:=h2
 cases qs with
 |nil=>simp at n2
 |cons q qs=>
  rcases Pz ps with rfl|⟨ps',p,rfl⟩
  ·simp at n1
  ·refine⟨ps'++(p++q)::qs,by rw[PB,mF],λz hz=>?_,?_⟩
   ·rcases JR.mp hz with hz|hz
    ·exact f1 z (by simp[hz])
    ·rcases JL.mp hz with rfl|hz
     ·intro w
      rcases JR.mp w with w|w
      ·exact f1 p (by simp) w
      ·exact f2 q JI w
     ·exact f2 z (JF _ hz)
   ·simp at n1 n2 ⊢;omega
def Fo(i:Int):97∉dg i:=λz=>by rcases ka i _ z with z|z <;> omega
def Cp(x:Int×Int):AtN (wd x) 1:=(sd (Fo x.1)).app (atn1.app (sd (Fo x.2)))
theorem xH:∀r:lK,AtN (aD cm (r.map wd)) r.length
 |[] =>sd (by simp[aD])
 |[x] =>Cp x
 |x::y::r=>by
  have:=(Cp x).app ((sd (l:=cm) (by simp)).app (xH (y::r)))
  rw[M5,Of]at this;exact this
def HQ(c:Nat)(r:lK):AtN (bd c r) r.length:=by
 have:=(sd (Fo (c:Int))).app ((sd (l:=[58,32]) (by simp)).app (xH r))
 rwa [M5,M5]at this
theorem Ct:∀(rs:List lK)(c:Nat),AtN (tt c rs) rs.flatten.length
 |[],_=>sd (by simp[tt])
 |r::rs,c=>by
  have:=(HQ c r).app ((sd (l:=[10]) (by simp)).app (Ct rs (c+1)))
  rw[M5]at this;rw[K0,JC];exact this
def sT(cs:List T)(v:N2):Int:=match Gp cs (en v)with
 |.int i=>i
 |_=>0
def Sm(i:Int):Prop:=-(10 ^ 10)<i/\i<10 ^ 10
section
variable {t:N2->Int}
def Rd.mem(R:Rd cs ls L P)(hv:v∈P):en v∈dv 0 cs:=by rw[R.e];exact JQ.mpr ⟨v,hv,rfl⟩
def Rd.rdi(R:Rd cs ls L P)(hv:v∈P):cS [(.tup [.tup cs,.tup ls]),en v]=.ok (.int (sT cs v))/\Sm (sT cs v):=by
 have hm:=R.mem hv
 have pr:=vP R.g hm;obtain⟨c,k,e0,h1,h2,h3⟩:=gD cs 0 hm
 have hcl:c<cs.length:=by omega
 obtain⟨x,y,r,e,hx,hy,hb⟩:=mM ((bj R.g.c).1 cs[c] (Lg hcl))
 have e1:cs[c]?=ZA (.tup [.int x,.int y,.tup (r.map .int)]):=by rw[JW hcl,e]
 have hk:k<r.length:=by
  rw[Mg,Kq,e1]at h3
  have:k<(r.map T.int).length:=h3
  rwa [JE]at this
 have e3:Gp cs (en v)=.int (r.getD k 0):=by
  rw[e0]
  show(match cs.getD ((c:Int).toNat) .non with
   |.tup [_,_,.tup r] =>r.getD ((k:Int).toNat) .non
   |_=>.non)=_
  rw[Kl,Kl,Kq,e1]
  show(r.map T.int).getD k .non=_
  rw[Kq,iW hk]
  rfl
 have e4:sT cs v=r.getD k 0:=by unfold sT;rw[e3]
 rw[pr,e3,e4]
 have:=hb k;exact⟨rfl,by unfold Sm;omega⟩
def nA(c:Nat)(v:N2):Bool:=v.c == (c:Int)
def row(cs:List T)(P:List N2)(t:N2->Int)(c:Nat):lK:=(P.filter (nA c)).map λv=>(sT cs v,t v)
def rows(cs:List T)(P:List N2)(t:N2->Int):List lK:=(LI 0 cs.length).map (row cs P t)
theorem gE(y:List Nat):∀ps:List (List Nat),(aD y ps).length<=(ps.map (·.length)).sum+ps.length*y.length
 |[] =>KI _
 |[p] =>by show p.length<=p.length+0+_;omega
 |p::q::r=>by
  have:=gE y (q::r)
  show(p++(y++aD y (q::r))).length<=_
  rw[JC,JC,JG,K1,JJ,Oe];omega
theorem sH:∀{ps:List (List Nat)},(∀p∈ps,p.length<=n)->(ps.map (·.length)).sum<=ps.length*n
 |[],_=>KI _
 |p::ps,h=>by
  have h2:=sH λx hx=>h x (JF _ hx)
  have h3:=h p JI;rw[JG,K1,JJ,Oe];omega
def CY{x:Int×Int}(h1:Sm x.1)(h2:Sm x.2):(wd x).length<=26:=by
 have a:=k4 h1
 have b:=k4 h2;unfold wd;simp only[JC,JJ,Le];omega
def AD(R:Rd cs ls L P)(c:Nat):(row cs P t c).length<=16:=by
 unfold row;rw[JE]
 have:=PC (nA c) P
 have:=R.pl;omega
def Dk(R:Rd cs ls L P)(ht:∀v∈P,Sm (t v))(c:Nat):∀x∈row cs P t c,Sm x.1/\Sm x.2:=λx hx=>by
 obtain⟨v,hv,rfl⟩:=JQ.mp hx
 have hv:=(Lw.mp hv).1;exact⟨(R.rdi hv).2,ht v hv⟩
def y8(R:Rd cs ls L P)(ht:∀v∈P,Sm (t v))(c:Nat):(((row cs P t c).map wd).map (·.length)).sum+((row cs P t c).map wd).length*2<=1000:=by
 have h1:=sH (n:=26) (ps:=(row cs P t c).map wd) λp hp=>by
  obtain⟨x,hx,rfl⟩:=JQ.mp hp
  have:=Dk R ht c x hx;exact CY this.1 this.2
 have h2:=AD (t:=t) R c;rw[JE]at h1 ⊢;omega
def tL(R:Rd cs ls L P)(ht:∀v∈P,Sm (t v)){c:Nat}(hc:c<1000):(bd c (row cs P t c)).length<=1100:=by
 have h:=gE cm ((row cs P t c).map wd)
 have h2:=y8 R ht c
 have h3:=k4 (i:=(c:Int)) (by omega)
 unfold bd;simp only[JC,JJ,Le]at h ⊢;omega
def mz{fb:V6}{a:List Nat}(ha:fa ρ=.ok (.str (tx a)))(hb:fb ρ=.ok (.str (tx b)))(h:a.length+b.length<=100000):o2 aG fa fb ρ=.ok (.str (tx (a++b))):=aI ha hb (addS h)
def tw(h:f ρ=.ok (.int i))(h0:Sm i):cl lT (ae f ai) ρ=.ok (.str (tx (dg i))):=aT (ak h aP) (strZ h0)
def s_cm:JN ", " =tx cm:=rfl
def Rd.line(R:Rd cs ls L P)(ht:∀v∈P,Sm (t v)){c:Nat}(hc:c<1000):dJ [(.tup [.tup cs,.tup ls]),.int c,lG P t]=.ok (.str (tx (bd c (row cs P t c)++[10]))):=by
 have hp:=R.pl;refine bM rfl ?_
 show iB [.va (.tup [.tup cs,.tup ls]),.va (.int c),.va (lG P t),.em,.em]=_
 unfold iB
 have e1:d9 (iS (cl bJ (ae (vr 0) ai))) [ZB,ZA 1] (gN 0) (tb (o2 eqT (o2 aS (vr 0) (cn (.int 0))) (vr 1))) (vr 0) [.va (.tup [.tup cs,.tup ls]),.va (.int c),.va (lG P t),.em,.em]=.ok (.lst ((P.filter (nA c)).map en)):=by
  have:=CF (fc:=tb (o2 eqT (o2 aS (vr 0) (cn (.int 0))) (vr 1))) (fe:=vr 0) (p:=λu=>match u with|.tup [.int a,_] =>a == (c:Int)|_=>ZD) (h:=λu=>u) (src:=[ZB,ZA 1]) (ρ:=[.va (.tup [.tup cs,.tup ls]),.va (.int c),.va (lG P t),.em,.em]) (fi:=iS (cl bJ (ae (vr 0) ai))) (ts:=P.map en) (uK (aT (ak (t:=.tup [.tup cs,.tup ls]) rfl aP) R.events)) (by rw[JE];exact eQ (by omega)) (by decide) (λu hu=>by
   obtain⟨v,hv,rfl⟩:=JQ.mp hu;exact⟨cM (aI (t:=.int v.c) (u:=.int c) rfl rfl (zi _ _)),λ_=>rfl⟩)
  rw[this,List.filter_map,J6]
  rfl
 rw[aC (bU e1 (show gN 3 _ _=.ok [.va (.tup [.tup cs,.tup ls]),.va (.int c),.va (lG P t),.va (.lst ((P.filter (nA c)).map en)),.em]from rfl))]
 have e2:d9 (iS (vr 3)) [ZB,ZA 0,ZA 2] (gN 0) bT (o2 aG (o2 aG (cl lT (ae (cl cS (ae (vr 1) (ae (vr 0) ai))) ai)) (cn (.str " at "))) (cl lT (ae (o2 ja (vr 2) (vr 0)) ai))) [.va (.tup [.tup cs,.tup ls]),.va (.int c),.va (lG P t),.va (.lst ((P.filter (nA c)).map en)),.em]=.ok (.lst (((row cs P t c).map wd).map λp=>T.str (tx p))):=by
  have:=mx (fe:=o2 aG (o2 aG (cl lT (ae (cl cS (ae (vr 1) (ae (vr 0) ai))) ai)) (cn (.str " at "))) (cl lT (ae (o2 ja (vr 2) (vr 0)) ai))) (h:=λu=>match u with|.tup [.int a,.int k] =>T.str (tx (wd (sT cs ⟨a,k⟩,t ⟨a,k⟩)))|_=>.non) (src:=[ZB,ZA 0,ZA 2]) (ρ:=[.va (.tup [.tup cs,.tup ls]),.va (.int c),.va (lG P t),.va (.lst ((P.filter (nA c)).map en)),.em]) (fi:=iS (vr 3)) (ts:=(P.filter (nA c)).map en) rfl (by rw[JE];have:=PC (nA c) P;exact eQ (by omega)) (by decide) (λu hu=>by
   obtain⟨v,hv,rfl⟩:=JQ.mp hu
   have hv:=(Lw.mp hv).1;obtain⟨r1,r2⟩:=R.rdi hv
   have t2:=ht v hv
   have l1:=k4 r2
   have l2:=k4 t2;refine(mz (mz (tw (aT (ak rfl (ak rfl aP)) r1) r2) (b:=sk) rfl ?_) (tw (zA rfl rfl hv) t2) ?_).trans ?_
   any_goals (simp only[JC,JJ,Le];omega)
   show _=Rs.ok (T.str (tx (wd (sT cs v,t v))))
   unfold wd;rw[JX])
  rw[this,J6,J6];unfold row;rw[J6]
  rfl
 rw[aC (bU e2 (show gN 4 _ _=.ok [.va (.tup [.tup cs,.tup ls]),.va (.int c),.va (lG P t),.va (.lst ((P.filter (nA c)).map en)),.va (.lst (((row cs P t c).map wd).map λp=>T.str (tx p)))]from rfl))]
 have hl:=y8 R ht c
 have hb:=tL R ht hc
 have h3:=k4 (i:=(c:Int)) (by omega)
 have hi:=gE cm ((row cs P t c).map wd)
 have ej:oS kW (cn (.str ", ")) (ae (vr 4) ai) [.va (.tup [.tup cs,.tup ls]),.va (.int c),.va (lG P t),.va (.lst ((P.filter (nA c)).map en)),.va (.lst (((row cs P t c).map wd).map λp=>T.str (tx p)))]=.ok (.str (tx (aD cm ((row cs P t c).map wd)))):=
  wb rfl (ak (t:=.lst (((row cs P t c).map wd).map λp=>T.str (tx p))) rfl aP) (by rw[s_cm];exact Hq (by simp only[JC,JJ,Le];omega))
 simp only[JC,JJ,Le]at hi;refine cO ((mz (mz (mz (tw (i:=(c:Int)) rfl (by unfold Sm;omega)) (b:=[58,32]) rfl ?_) ej ?_) (b:=[10]) rfl ?_).trans ?_)
 any_goals (simp only[JC,JJ,Le];omega)
 unfold bd;simp only[JX]
end
theorem grp:∀(cs:List T)(i:Nat)(Q:List N2),Q.map en=dv i cs->((LI i cs.length).map λc=>Q.filter (nA c)).flatten=Q
 |[],i,Q,h=>by
  rw[LH.mp h];rfl
 |c::r,i,Q,h=>by
  obtain⟨Q1,Q2,rfl,h1,h2⟩:=List.map_eq_append_iff.mp (show Q.map en=fI i (rf c)++dv (i+1) r from h)
  have ih:=grp r (i+1) Q2 h2
  have a1:∀v∈Q1,v.c=(i:Int):=λv hv=>by
   have:en v∈fI i (rf c):=by rw[<-h1];exact JQ.mpr ⟨v,hv,rfl⟩
   obtain⟨u,hu,e⟩:=JQ.mp this;unfold en at e
   have:=T.tup.inj e;simp only[Pn,T.int.injEq]at this;exact this.1.symm
  have a2:∀v∈Q2,(i:Int)+1<=v.c:=λv hv=>by
   have:en v∈dv (i+1) r:=by rw[<-h2];exact JQ.mpr ⟨v,hv,rfl⟩
   obtain⟨a,k,e,h3,_⟩:=gD r (i+1) this;unfold en at e
   have:=T.tup.inj e;simp only[Pn,T.int.injEq]at this;omega
  rw[JJ,RY,JG,K0]
  have e1:(Q1++Q2).filter (nA i)=Q1:=by
   rw[QV,List.filter_eq_self.mpr λv hv=>by unfold nA;rw[a1 v hv];simp,Nt.mpr λv hv z=>?_,Kr]
   have:=a2 v hv;unfold nA at z
   have:=eq_of_beq z;omega
  have e2:((LI (i+1) r.length).map λc=>(Q1++Q2).filter (nA c))=(LI (i+1) r.length).map λc=>Q2.filter (nA c):=by
   refine Kp λk hk=>?_
   rw[QV,Nt.mpr λv hv z=>?_,Mz]
   have:=a1 v hv;unfold nA at z
   have:=eq_of_beq z;rw[L8]at hk;omega
  rw[e1,e2,ih]
theorem kh(f:Nat->lK):∀(n i:Nat),gp i ((LI i n).map f)=(LI i n).map λc=>bd c (f c)
 |0,_=>rfl
 |n+1,i=>by
  rw[RY,JG,JG]
  show bd i (f i)::gp (i+1) _=_
  rw[kh f n (i+1)]
def qe(a:List T)(x:T):kc (a++[x]) ZB (ZA (-1))=a:=by
 have e:HT.sIx (a++[x]).length (a++[x]).length (ZA (-1))=a.length:=by
  show(if (-1:Int)<0 then((-1:Int)+((a++[x]).length:Int)).toNat else min (-1:Int).toNat (a++[x]).length)=_
  rw[if_pos (by decide),JC,Ka]
  omega
 unfold kc;rw[e,HT.sIx_none,Qa,Mg,Qc]
section
variable {t:N2->Int}
def Rd.flat(R:Rd cs ls L P):(rows cs P t).flatten=P.map λv=>(sT cs v,t v):=by
 have:=grp cs 0 P R.e.symm;unfold rows
 have e:((LI 0 cs.length).map (row cs P t))=((LI 0 cs.length).map λc=>P.filter (nA c)).map (List.map λv=>(sT cs v,t v)):=by
  rw[J6];rfl
 rw[e,<-List.map_flatten,this]
def Rd.rne(R:Rd cs ls L P):∀r∈rows cs P t,r≠ []:=λr hr z=>by
 obtain⟨c,hc,rfl⟩:=JQ.mp hr;rw[L8]at hc
 have hcl:c<cs.length:=by omega
 obtain⟨x,y,q,e,q1,_⟩:=dN ((bj R.g.c).1 cs[c] (Lg hcl))
 have hm:T.tup [.int (c:Int),.int ((0:Nat):Int)] ∈dv 0 cs:=lA (cs:=cs) (KI _) (by omega) (by
  rw[Mg,Kq,JW hcl,e]
  show 0<q.length
  omega)
 rw[R.e]at hm;obtain⟨v,hv,ev⟩:=JQ.mp hm;unfold en at ev
 have:=T.tup.inj ev;simp only[Pn,T.int.injEq]at this
 have hin:v∈P.filter (nA c):=Lw.mpr ⟨hv,by unfold nA;rw[this.1];simp⟩
 unfold row at z;rw[LH.mp z]at hin;cases hin
abbrev fJ(cs:List T)(P:List N2)(t:N2->Int):List Nat:=tt 0 (rows cs P t)
def Rd.Jl(R:Rd cs ls L P):fJ cs P t=((LI 0 cs.length).map λc=>bd c (row cs P t c)++[10]).flatten:=by
 show tt 0 (rows cs P t)=_
 rw[uf];unfold rows;rw[kh,J6]
 rfl
theorem uV:∀{ps:List (List Nat)},(∀p∈ps,p.length<=n)->ps.flatten.length<=ps.length*n
 |[],_=>KI _
 |p::ps,h=>by
  have h1:=uV λx hx=>h x (JF _ hx)
  have h3:=h p JI;rw[K0,JC,JJ,Oe];omega
def Rd.Jg(R:Rd cs ls L P)(ht:∀v∈P,Sm (t v)):(fJ cs P t).length<=5000:=by
 obtain⟨_,c1,c4⟩:=bj R.g.c;rw[R.Jl]
 have:=uV (n:=1101) (ps:=(LI 0 cs.length).map λc=>bd c (row cs P t c)++[10]) λp hp=>by
  obtain⟨c,hc,rfl⟩:=JQ.mp hp;rw[L8]at hc
  have:=tL R ht (c:=c) (by omega)
  rw[JC];show _+1<=_;omega
 rw[JE,Mu]at this;omega
def Ok9(i:Int):Prop:=-999999999<=i/\i<=999999999
def Ok9.sm(h:Ok9 i):Sm i:=by unfold Ok9 at h;unfold Sm;omega
def uR(τ:List Int):(T.tup (τ.map .int)).pl=ZC:=by
 rw[ib];exact ku λu hu=>by obtain⟨v,_,rfl⟩:=JQ.mp hu;rfl
def Rd.cbw(R:Rd cs ls L P)(τ:List Int):bh [(.tup [.tup cs,.tup ls]),.tup (τ.map .int)]=.ok (.bl (decide (τ.length=P.length)&&(τ.map T.int).all λu=>within u (-999999999) 999999999)):=by
 have ha:=R.Jd (uR τ)
 have e:yY P.length (.tup (τ.map .int))=decide (τ.length=P.length):=by
  unfold yY
  have:((τ.map T.int).all FH)=ZC:=J4.mpr λu hu=>by obtain⟨v,_,rfl⟩:=JQ.mp hu;rfl
  show(c8 (.tup (τ.map .int)) P.length P.length&&(τ.map T.int).all FH)=_
  rw[this,OY];simp only[c8,JE]
  by_cases h:τ.length=P.length
  ·simp[h]
  ·rw[decide_eq_false h]
   by_cases h2:P.length<=τ.length
   ·rw[decide_eq_true h2,decide_eq_false (by omega)];rfl
   ·rw[decide_eq_false h2];rfl
 rw[e]at ha;refine bM rfl (cO (uL (aT (ak (t:=.tup [.tup cs,.tup ls]) rfl (ak (t:=.tup (τ.map .int)) rfl aP)) ha) λh=>?_))
 have hl:=of_decide_eq_true h
 have:=R.pl;refine kJ (l:=τ.map T.int) (EI rfl) (eQ (by rw[JE];omega)) (by simp) λu hu=>?_
 obtain⟨v,_,rfl⟩:=JQ.mp hu;exact aT (ts:=[.int v,.int (-999999999),.int 999999999]) rfl (eO (.int v) _ _ rfl)
def Rd.Jb(R:Rd cs ls L P)(ht:∀v∈P,Ok9 (t v)):bh [(.tup [.tup cs,.tup ls]),bu P t]=.ok (.bl ZC):=by
 have:=R.cbw (P.map t);rw[J6]at this
 show bh [(.tup [.tup cs,.tup ls]),.tup (P.map (T.int∘t))]=_
 rw[this,JE,decide_eq_true rfl,Ni]
 congr 2
 rw[J4];intro u hu;obtain⟨v,hv,rfl⟩:=JQ.mp hu
 have:=ht v hv;unfold Ok9 at this;simp only[Function.comp,within,JH,decide_eq_true_eq];omega
def Rd.IE(R:Rd cs ls L P)(ht:∀v∈P,Ok9 (t v)):aR [(.tup [.tup cs,.tup ls]),bu P t]=.ok (.str (tx (fJ cs P t))):=by
 have hs:∀v∈P,Sm (t v):=λv hv=>(ht v hv).sm
 obtain⟨_,c1,c4⟩:=bj R.g.c;refine bM rfl ?_
 show gH [.va (.tup [.tup cs,.tup ls]),.va (bu P t),.em]=_
 unfold gH;rw[aC ((du (gX (k:=ZC) (cM (aT (ak (t:=.tup [.tup cs,.tup ls]) rfl (ak (t:=bu P t) rfl aP)) (R.Jb ht))))).trans rfl)];rw[aC (ρ':=[.va (.tup [.tup cs,.tup ls]),.va (bu P t),.va (lG P t)]) (bU (aT (ak (aT (ak (t:=.tup [.tup cs,.tup ls]) rfl aP) R.events) (ak (t:=bu P t) rfl aP)) (R.dz t)) rfl)]
 have e1:d9 (iR (ae (cl cA (ae (o2 aS (vr 0) (cn (.int 0))) ai)) ai)) [ZB,ZA 0,ZA 2] (gN 0) bT (cl dJ (ae (vr 1) (ae (vr 0) (ae (vr 2) ai)))) [.va (.tup [.tup cs,.tup ls]),.va (bu P t),.va (lG P t)]=.ok (.lst (((LI 0 cs.length).map λc=>bd c (row cs P t c)++[10]).map λp=>T.str (tx p))):=by
  have:=mx (fe:=cl dJ (ae (vr 1) (ae (vr 0) (ae (vr 2) ai)))) (h:=λu=>match u with|.int c=>T.str (tx (bd c.toNat (row cs P t c.toNat)++[10]))|_=>.non) (src:=[ZB,ZA 0,ZA 2]) (ρ:=[.va (.tup [.tup cs,.tup ls]),.va (bu P t),.va (lG P t)]) (fi:=iR (ae (cl cA (ae (o2 aS (vr 0) (cn (.int 0))) ai)) ai)) (ts:=rng 0 (cs.length:Nat)) (CH (j:=(cs.length:Nat)) (ak (aT (ak (t:=.tup cs) rfl aP) rfl) aP) (by omega) (by omega)) (by rw[iK];exact eQ (by omega)) (by decide) (λu hu=>by
   obtain⟨k,rfl,hk⟩:=ly hu
   show _=Rs.ok (T.str (tx (bd ((k:Int).toNat) (row cs P t ((k:Int).toNat))++[10])))
   rw[Kl];exact aT (ak (t:=.tup [.tup cs,.tup ls]) rfl (ak (t:=.int (k:Nat)) rfl (ak (t:=lG P t) rfl aP))) (R.line hs (by omega)))
  rw[this,jQ,J6,J6,List.range_eq_range']
  rfl
 have hl:=R.Jg hs;rw[R.Jl]at hl ⊢;refine cO (wb rfl (ak e1 aP) ?_)
 rw[show JN "" =tx []from rfl]
 refine Hr ?_
 have:=sH (n:=1101) (ps:=(LI 0 cs.length).map λc=>bd c (row cs P t c)++[10]) λp hp=>by
  obtain⟨c,hc,rfl⟩:=JQ.mp hp;rw[L8]at hc
  have:=tL R hs (c:=c) (by omega)
  rw[JC];show _+1<=_;omega
 rw[JE,Mu]at this;omega
end
theorem n6{y:List Nat}:∀{ps:List (List Nat)},p∈ps->p.length<=(aD y ps).length
 |[],h=>by cases h
 |[q],h=>by rw[JY.mp h];exact JO _
 |a::b::r,h=>by
  show _<=(a++(y++aD y (b::r))).length
  rw[JC,JC];rcases JL.mp h with rfl|h
  ·omega
  ·have:=n6 (y:=y) h;omega
theorem vh:∀(rs:List lK)(c:Nat),((gp c rs).map (·.length)).sum<=(tt c rs).length
 |[],_=>JO _
 |r::rs,c=>by
  have:=vh rs (c+1)
  show((bd c r::gp (c+1) rs).map (·.length)).sum<=(bd c r++(10::tt (c+1) rs)).length
  rw[JG,K1,JC,JJ];omega
def yr(a b:List Nat):Tr.neT (.str (tx a)) (.str (tx b))=.ok (.bl (!decide (a=b))):=by
 unfold Tr.neT;rw[if_pos (eK (by simp[T.dep]) rfl rfl)]
 congr 3
 by_cases h:a=b
 ·subst h;rw[decide_eq_true rfl,aX];simp
 ·rw[decide_eq_false h,aX]
  simp only[beq_eq_false_iff_ne,decide_eq_false_iff_not,ne_eq]
  first|exact λz=>h (lR z)| (intro z;exact h (lR z))
section
def Rd.parse(R:Rd cs ls L P){rs:List lK}(hne:∀r∈rs,r≠ [])(hs:∀x∈rs.flatten,Sm x.2)(hl:(tt 0 rs).length<=5000)(hr:rs.length<=16)(hf:rs.flatten.length<=64):
  ∃p2,fh [.va (.tup [.tup cs,.tup ls]),.va (.str (tx (tt 0 rs))),.em,.em]=Gq [.va (.tup [.tup cs,.tup ls]),.va (.str (tx (tt 0 rs))),p2,.va (.tup ((rs.flatten.map (·.2)).map .int))]:=by
 have hpl:(ig 0 rs).length=rs.flatten.length:=by
  have:=congrArg Lh (jT rs 0)
  rwa [JE,JE]at this
 have hfree:=ri rs 0
 have hI:(aD cm ((ig 0 rs).map pw++[[]])).length<=6000:=by
  rw[<-tN rs 0 hne]
  have h1:=gE cm (gp 0 rs++[[]])
  have h2:=vh rs 0;rw[Kh,List.sum_append,JC,lI]at h1;simp only[JG,NG,K1,List.sum_nil,Le,JJ,JC]at h1;omega
 have e0:o1 (jR "\n" ", ") (vr 1) [.va (.tup [.tup cs,.tup ls]),.va (.str (tx (tt 0 rs))),.em,.em]=.ok (.str (tx (aD cm ((ig 0 rs).map pw++[[]])))):=by
  refine Hh (t:=.str (tx (tt 0 rs))) rfl ?_
  rw[<-tN rs 0 hne,fx];rw[fx]at hl;exact Gn (z:=cm) (by simp) (iz rs 0) (by omega)
 have e1:oS de (o1 (jR "\n" ", ") (vr 1)) (ae (cn (.str ", ")) ai) [.va (.tup [.tup cs,.tup ls]),.va (.str (tx (tt 0 rs))),.em,.em]=.ok (.lst ((((ig 0 rs).map pw).map λp=>T.str (tx p))++[.str (tx [])])):=by
  refine(wb e0 (ak (t:=.str (tx cm)) rfl aP) (xF (u:=[]) (c:=44) (v:=[32]) (by simp) (by decide+kernel) (by simp) (λp hp=>?_) (show(aD cm ((ig 0 rs).map pw++[[]])).length<=100000 by omega) (by rw[JC,JE,hpl,Ka];omega))).trans ?_
  ·rcases JR.mp hp with hp|hp
   ·obtain⟨q,hq,rfl⟩:=JQ.mp hp
    exact(AX (hfree q hq)).1
   ·rw[JY.mp hp];simp
  ·rw[Kh];rfl
 have e2:sl (oS de (o1 (jR "\n" ", ") (vr 1)) (ae (cn (.str ", ")) ai)) pN (pS (o1 eR (cn (.int 1)))) [.va (.tup [.tup cs,.tup ls]),.va (.str (tx (tt 0 rs))),.em,.em]=.ok (.lst (((ig 0 rs).map pw).map λp=>T.str (tx p))):=by
  rw[CC (lo:=ZB) (hi:=ZA (-1)) e1 rfl rfl,qe]
 generalize hL:((ig 0 rs).map pw).map (λp=>T.str (tx p))=L2 at e2
 refine⟨.va (.lst L2),?_⟩
 unfold fh;rw[aC (yS (t:=.non) (aT (ak (t:=.tup [.tup cs,.tup ls]) rfl aP) (jY R.g.p R.g.ok)))];rw[aC ((du (gX (k:=ZC) (cM (Hh (t:=.str (tx (tt 0 rs))) rfl rfl)))).trans rfl)];rw[aC (ρ':=[.va (.tup [.tup cs,.tup ls]),.va (.str (tx (tt 0 rs))),.va (.lst L2),.em]) (bU e2 rfl)]
 have e3:d9 (iS (vr 2)) [ZB] (gN 0) bT (cl bR (ae (o2 aS (oS ie (vr 0) (ae (cn (.str " at ")) ai)) (cn (.int 2))) ai)) [.va (.tup [.tup cs,.tup ls]),.va (.str (tx (tt 0 rs))),.va (.lst L2),.em]=.ok (.lst ((rs.flatten.map (·.2)).map .int)):=by
  have key:∀q∈ig 0 rs,ie [.str (tx (pw q)),.str (tx sk)]=.ok (.tup [.str (tx q.1),.str (tx sk),.str (tx (dg q.2))])/\bR [.str (tx (dg q.2))]=.ok (.int q.2):=λq hq=>by
   have hlen:=n6 (y:=cm) (ps:=(ig 0 rs).map pw++[[]]) (p:=pw q) (K4 _ (JQ.mpr ⟨q,hq,rfl⟩));refine⟨GZ (u:=[32]) (c:=97) (v:=[116,32]) (a:=q.1) (b:=dg q.2) (by simp) (λz=>(hfree q hq 97 z).1 rfl) (show(pw q).length<=100000 by omega),HF (numZ ?_)⟩
   have:q.2∈rs.flatten.map (·.2):=by rw[<-jT rs 0];exact JQ.mpr ⟨q,hq,rfl⟩
   obtain⟨x,hx,e⟩:=JQ.mp this;rw[<-e];exact hs x hx
  have:=mx (fe:=cl bR (ae (o2 aS (oS ie (vr 0) (ae (cn (.str " at ")) ai)) (cn (.int 2))) ai)) (h:=λu=>match ie [u,.str (tx sk)]with|.ok (.tup [_,_,w])=>(match bR [w]with|.ok x=>x|_=>.non)|_=>.non) (src:=[ZB]) (ρ:=[.va (.tup [.tup cs,.tup ls]),.va (.str (tx (tt 0 rs))),.va (.lst L2),.em]) (fi:=iS (vr 2)) (ts:=L2) rfl (by rw[<-hL,JE,JE,hpl];exact eQ (by omega)) (by decide) (λu hu=>by
   rw[<-hL,J6]at hu;obtain⟨q,hq,rfl⟩:=JQ.mp hu;obtain⟨k1,k2⟩:=key q hq
   show _=Rs.ok (match ie [.str (tx (pw q)),.str (tx sk)]with|.ok (.tup [_,_,w])=>(match bR [w]with|.ok x=>x|_=>.non)|_=>.non)
   rw[k1]
   dsimp only
   rw[k2];exact aT (ak (wc (n:=2) (wb (s:=tx (pw q)) rfl (ak (t:=.str (tx sk)) rfl aP) k1) rfl rfl) aP) k2)
  rw[this,<-jT rs 0,<-hL,J6,J6,J6]
  congr 2
  refine Kp λq hq=>?_
  obtain⟨k1,k2⟩:=key q hq
  show(match ie [.str (tx (pw q)),.str (tx sk)]with|.ok (.tup [_,_,w])=>(match bR [w]with|.ok x=>x|_=>.non)|_=>.non)=T.int q.2
  rw[k1]
  dsimp only
  rw[k2]
 rw[aC (ρ':=[.va (.tup [.tup cs,.tup ls]),.va (.str (tx (tt 0 rs))),.va (.lst L2),.va (.tup ((rs.flatten.map (·.2)).map .int))]) (bU (aT (x:=.ok (.tup ((rs.flatten.map (·.2)).map .int))) (ak e3 aP) (by first|rfl| (show gW _=_;unfold gW;rw[if_pos (eQ (by rw[JE,JE];omega))]))) rfl)]
variable {ls0:List T}{L0:b8 N2}{P0:List N2}{t:N2->Int}
def Rd.Jc(R:Rd cs ls L P)(R0:Rd cs0 ls0 L0 P0)(ht:∀v∈P,Ok9 (t v)):
  ∃p2,fh [.va (.tup [.tup cs0,.tup ls0]),.va (.str (tx (fJ cs P t))),.em,.em]=Gq [.va (.tup [.tup cs0,.tup ls0]),.va (.str (tx (fJ cs P t))),p2,.va (bu P t)]:=by
 obtain⟨_,c1,c4⟩:=bj R.g.c
 have hp:=R.pl
 have hs:∀v∈P,Sm (t v):=λv hv=>(ht v hv).sm
 obtain⟨p2,e⟩:=R0.parse (rs:=rows cs P t) R.rne (λx hx=>by rw[R.flat]at hx;obtain⟨v,hv,rfl⟩:=JQ.mp hx;exact hs v hv) (R.Jg hs) (by unfold rows;rw[JE,Mu];omega) (by rw[R.flat,JE];omega)
 refine⟨p2,?_⟩
 rw[R.flat,J6,J6]at e;exact e
def Rd.back(R:Rd cs ls L P)(R0:Rd cs ls0 L0 P)(ht:∀v∈P,Ok9 (t v)):bf [.tup [.tup cs,.tup ls0],.str (tx (fJ cs P t))]=.ok (bu P t):=by
 obtain⟨p2,e⟩:=R.Jc R0 ht;refine bM rfl (PR e ?_)
 unfold Gq;rw[aC ((du (uJ (gX (k:=ZC) (cM (aT (ak (t:=.tup [.tup cs,.tup ls0]) rfl (ak (t:=bu P t) rfl aP)) (R0.Jb ht)))) (cM (aI (aT (ak (t:=.tup [.tup cs,.tup ls0]) rfl (ak (t:=bu P t) rfl aP)) (R0.IE ht)) rfl ((yr _ _).trans (by rw[decide_eq_true rfl];rfl)))))).trans rfl)]
 exact cO rfl
def Rd.diff(R:Rd cs ls L P)(R0:Rd cs0 ls0 L0 P)(ht:∀v∈P,Ok9 (t v))(hd:fJ cs0 P t≠fJ cs P t):bf [.tup [.tup cs0,.tup ls0],.str (tx (fJ cs P t))]=.err "NoText":=by
 obtain⟨p2,e⟩:=R.Jc R0 ht;refine yM rfl (PR e ?_)
 unfold Gq;exact yN ((jn (uJ (gX (k:=ZC) (cM (aT (ak (t:=.tup [.tup cs0,.tup ls0]) rfl (ak (t:=bu P t) rfl aP)) (R0.Jb ht)))) (cM (aI (aT (ak (t:=.tup [.tup cs0,.tup ls0]) rfl (ak (t:=bu P t) rfl aP)) (R0.IE ht)) rfl ((yr _ _).trans (by rw[decide_eq_false hd];rfl)))))).trans rfl)
def Rd.Jk(R:Rd cs ls L P)(R0:Rd cs0 ls0 L0 P0)(ht:∀v∈P,Ok9 (t v))(hd:P.length≠P0.length):bf [.tup [.tup cs0,.tup ls0],.str (tx (fJ cs P t))]=.err "NoText":=by
 obtain⟨p2,e⟩:=R.Jc R0 ht;refine yM rfl (PR e ?_)
 unfold Gq
 have hc:=R0.cbw (P.map t);rw[J6,JE,decide_eq_false hd,On]at hc;exact yN ((jn (CD (gX (k:=ZD) (cM (aT (ak (t:=.tup [.tup cs0,.tup ls0]) rfl (ak (t:=bu P t) rfl aP)) hc))))).trans rfl)
end
theorem q0:∀{a:List Int}{z z':Int},jG (a++[z])=ZC->z<=z'->jG (a++[z'])=ZC
 |[],z,z',_,_=>rfl
 |[b],z,z',h,hz=>by
  have h:(decide (b<z)&&jG [z])=ZC:=h
  show(decide (b<z')&&jG [z'])=ZC
  rw[JH]at h ⊢
  exact⟨decide_eq_true (by have:=of_decide_eq_true h.1;omega),rfl⟩
 |b::c::a,z,z',h,hz=>by
  have h:(decide (b<c)&&jG (c::a++[z]))=ZC:=h
  show(decide (b<c)&&jG (c::a++[z']))=ZC
  rw[JH]at h ⊢;exact⟨h.1,q0 (a:=c::a) h.2 hz⟩
def xI{m:List Int}(h1:1<=m.length)(h4:m.length<=4)(hr:jG m=ZC)(hb:∀x∈m,0<=x/\x<100):cp (.tup (m.map .int))=ZC:=by
 show(c8 (.tup (m.map .int)) 1 4&&((m.map T.int).all (λu=>within u 0 99)&&(match jA (m.map .int)with|some m=>jG m|none=>ZD)))=ZC
 rw[jW]
 dsimp only
 rw[hr,OY,JH,J4];refine⟨by simp[c8];omega,λu hu=>?_⟩
 obtain⟨x,hx,rfl⟩:=JQ.mp hu
 have:=hb x hx;simp only[within,JH,decide_eq_true_eq];omega
theorem j8(c:T):∀(a:List T)(i:Nat),dv i (a++[c])=dv i a++fI (i+a.length) (rf c)
 |[],i=>by show fI i (rf c)++[]=[] ++fI (i+0) (rf c);rw[Kr];rfl
 |b::a,i=>by
  show fI i (rf b)++dv (i+1) (a++[c])=(fI i (rf b)++dv (i+1) a)++fI (i+(a.length+1)) (rf c)
  rw[j8 c a (i+1),JX,Nat.add_assoc,Of 1]
variable{l:List T}
section
variable {t:N2->Int}
def oo(h1:1<=l.length)(h4:l.length<=4)(h:∀c∈l,bp c=ZC):a0 (.tup l)=ZC:=by
 show(c8 (.tup l) 1 4&&l.all bp)=ZC
 rw[JH,J4];exact⟨by simp[c8];omega,h⟩
def p7(hc:a0 (.tup l)=ZC)(hp:∀c∈l,c.pl=ZC):Good l []:=by
 refine⟨hc,λt h=>(by cases h),by simp,?_⟩
 show(T.tup [.tup l,.tup []]).pl=ZC
 rw[ib,plS,plS,plS,ib,ib,ku hp]
 rfl
def uq{cs' ls':List T}(R:Rd cs ls L P)(g:Good cs' ls')(he:dv 0 cs'=dv 0 cs):∃L',Rd cs' ls' L' P:=by
 obtain⟨L',P',R'⟩:=nN g
 have:P'.map en=P.map en:=by rw[<-R'.e,he,R.e]
 have e:P'=P:=(QX λa b h=>tF h).mp this
 exact⟨L',e▸R'⟩
def C4{cs' ls':List T}{L':b8 N2}(R:Rd cs ls L P)(R':Rd cs' ls' L' P)(ht:∀v∈P,Sm (t v))(hl:cs'.length=cs.length)(hv:v∈P)(hn:n<cs.length)(hc:v.c=(n:Int))(hd:sT cs' v≠sT cs v):fJ cs' P t≠fJ cs P t:=λz=>by
 have z':tt 0 (rows cs' P t)=tt 0 (rows cs P t):=z;rw[fx,fx]at z'
 have e1:=OL (kF (by simp) (by simp) (iz _ 0) (iz _ 0) z')
 unfold rows at e1;rw[kh,kh,hl]at e1
 have e2:=MI.mp e1 n (by rw[L8];omega)
 unfold bd at e2
 have e3:=O4 (O4 e2)
 have free:∀(q:lK),∀p∈q.map wd,44∉p:=λq p hp w=>by
  obtain⟨x,_,rfl⟩:=JQ.mp hp;rcases JR.mp w with w|w
  ·rcases ka _ _ w with w|w <;> omega
  ·rcases JR.mp w with w|w
   ·simp at w
   ·rcases ka _ _ w with w|w <;> omega
 have ne1:∀{cs' ls':List T}{L':b8 N2},Rd cs' ls' L' P->cs'.length=cs.length->(row cs' P t n).map wd≠ []:=λ{cs' ls' L'} R' hl y=>R'.rne (t:=t) (row cs' P t n) (JQ.mpr ⟨n,by rw[L8];omega,rfl⟩) (LH.mp y)
 have s1:=km (u:=[]) (c:=44) (v:=[32]) (by simp) (by decide+kernel) (ne1 R' hl) (free _)
 have s2:=km (u:=[]) (c:=44) (v:=[32]) (by simp) (by decide+kernel) (ne1 R rfl) (free _)
 have e3':aD ([] ++44:: [32]) ((row cs' P t n).map wd)=aD ([] ++44:: [32]) ((row cs P t n).map wd):=e3;rw[e3',s2]at s1
 have e4:=(QX λa b h=>lR h).mp s1
 unfold row at e4;rw[J6,J6]at e4
 have e5:=MI.mp e4 v (Lw.mpr ⟨hv,by unfold nA;rw[hc];simp⟩)
 have e6:dg (sT cs v)++(sk++dg (t v))=dg (sT cs' v)++(sk++dg (t v)):=e5;exact hd (Fm (R.rdi hv).2 (R'.rdi hv).2 (OL e6)).symm
end
def BR(ns:List Int)(hn:ns.length<=63)(a:Nat)(r e:T)(k:Nat)(fs:List T)(hf:fs.length<=100)(s6:Sl):∃(x:Int)(u:Sl),dtF [.va (.scr ns),.va (.int (a:Nat)),.va r,.va e,.va (.tup (fs)),.va (.int (k:Nat)),s6]=.ok (.nx [.va (.scr ns),.va (.int (a:Nat)),.va r,.va e,.va (.tup (fs++[.int x])),.va (.int (k:Nat)),u])/\Ok9 x:=by
 obtain⟨d1,e1,p1,q1⟩:=cW ns (a+k+20) 4 hn (by omega)
 obtain⟨d2,e2,p2,q2⟩:=cW ns (a+k) 41 hn (by omega)
 obtain⟨y,ey,hy⟩:∃y:Int,aS (.lst [.int 1,.int 1,.int 1,.int 24999]) (.int d1)=.ok (.int y)/\(y=1\/y=24999):=by
  have:d1=0\/d1=1\/d1=2\/d1=3:=by omega
  rcases this with rfl|rfl|rfl|rfl
  ·exact⟨_,rfl,.inl rfl⟩
  ·exact⟨_,rfl,.inl rfl⟩
  ·exact⟨_,rfl,.inl rfl⟩
  ·exact⟨_,rfl,.inr rfl⟩
 refine⟨d2*y - 20,.va (.int y),?_,?_⟩
 ·unfold dtF
  rw[aC (ρ':=[.va (.scr ns),.va (.int (a:Nat)),.va r,.va e,.va (.tup (fs)),.va (.int (k:Nat)),.va (.int y)]) (bU (aI (jm (ak (t:=.int 1) rfl (ak (t:=.int 1) rfl (ak (t:=.int 1) rfl (ak (t:=.int 24999) rfl aP)))) (eQ (by simp))) (cU (k:=a+k+20) e1 rfl rfl rfl) ey) rfl)]
  exact bU (aI (t:=.tup fs) (u:=.tup [.int (d2*y - 20)]) rfl (b7 (ak (aI (t:=.int (d2*y)) (u:=.int 20) (aI (t:=.int d2) (u:=.int y) (cU (k:=a+k) e2 rfl rfl rfl) rfl (kS (by omega) (by omega))) rfl rfl) aP) (eQ (by simp))) (ki _ _ (by simp;omega))) rfl
 ·unfold Ok9
  rcases hy with rfl|rfl <;> omega
theorem uZ(ns:List Int)(hn:ns.length<=63)(a:Nat)(r e:T):∀(js:List Nat)(xs:List Int)(s5 s6:Sl),xs.length+js.length<=100->(∀x∈xs,Ok9 x)->∃(ys:List Int)(t5 t6:Sl),bw (gN 5) dtF (js.map λ(j:Nat)=>T.int j) [.va (.scr ns),.va (.int (a:Nat)),.va r,.va e,.va (.tup (xs.map .int)),s5,s6]=.ok (.nx [.va (.scr ns),.va (.int (a:Nat)),.va r,.va e,.va (.tup (ys.map .int)),t5,t6])/\(∀x∈ys,Ok9 x)/\ys.length=xs.length+js.length
 |[],xs,s5,s6,_,h=>⟨xs,s5,s6,rfl,h,rfl⟩
 |j::js,xs,s5,s6,hl,h=>by
  rw[JJ]at hl;obtain⟨x,u,e1,hx⟩:=BR ns hn a r e j (xs.map .int) (by rw[JE];omega) s6
  obtain⟨ys,t5,t6,e2,h2,n2⟩:=uZ ns hn a r e js (xs++[x]) (.va (.int (j:Nat))) u (by rw[JC];show _+1+_<=_;omega) (λy hy=>(JR.mp hy).elim (h y) λz=>by rw[JY]at z;exact z▸hx)
  refine⟨ys,t5,t6,?_,h2,by simp only[n2,JC,JJ,Le];omega⟩
  rw[JG,fY (ρ1:=[.va (.scr ns),.va (.int (a:Nat)),.va r,.va e,.va (.tup (xs.map .int)),.va (.int (j:Nat)),s6]) rfl e1];rw[Kh]at e2;exact e2
def Rd.IV(R:Rd cs ls L P)(ns:List Int)(hn:ns.length<=63)(a:Nat):∃t:N2->Int,dY [.scr ns,.int (a:Nat),.tup [.tup cs,.tup ls]]=.ok (bu P t)/\∀v∈P,Ok9 (t v):=by
 have hp:=R.pl;obtain⟨ys,t5,t6,e,h,n⟩:=uZ ns hn a (.tup [.tup cs,.tup ls]) (eS P) (KS P.length) [] .em .em (by simp;omega) (λx h=>by cases h)
 rw[L6,Le,M5]at n;obtain⟨t,ht⟩:=uU R.nd n;refine⟨t,?_,λv hv=>h _ (by rw[<-ht];exact JQ.mpr ⟨v,hv,rfl⟩)⟩
 refine bM rfl ?_
 show gP [.va (.scr ns),.va (.int (a:Nat)),.va (.tup [.tup cs,.tup ls]),.em,.em,.em,.em]=_
 unfold gP;rw[aC (ρ':=[.va (.scr ns),.va (.int (a:Nat)),.va (.tup [.tup cs,.tup ls]),.va (eS P),.em,.em,.em]) (bU (aT (ak (t:=.tup cs) rfl aP) ((rS cs R.g.c).trans (by rw[R.e];rfl))) rfl)]
 rw[aC (ρ':=[.va (.scr ns),.va (.int (a:Nat)),.va (.tup [.tup cs,.tup ls]),.va (eS P),.va (.tup []),.em,.em]) (bU (b7 (ts:=[]) rfl (eQ (by simp))) rfl)]
 rw[aC (jo (CH (j:=(P.length:Nat)) (ak (aT (ak (t:=eS P) rfl aP) (by show Rs.ok (T.int ((P.map en).length:Nat))=_;rw[JE])) aP) (by omega) (by omega)) (by rw[jQ];exact e))]
 refine(cO rfl).trans ?_
 rw[<-ht,J6]
 rfl
abbrev bo(x y:Int)(l:List Int):T:=.tup [.int x,.int y,.tup (l.map .int)]
abbrev tnF:V5:=(ay (cu (Tr.cl bf (ae (vr 1) (ae (vr 6) ai))) (gN 7)) (ay (dP (lZ (tb (o2 Tr.neT (vr 7) (vr 5))) (cI (tb (Tr.cl cg (ae (vr 1) (ae (vr 7) ai)))))) (aF (cn (.bl ZD))) sN) (ay (dP (tb (o2 Tr.neT (Tr.cl dX (ae (vr 1) (ae (vr 7) ai))) (Tr.cl dX (ae (vr 1) (ae (vr 5) ai))))) (aF (cn (.bl ZD))) sN) (ay (dP (tb (o2 Tr.neT (Tr.cl cA (ae (oS de (vr 6) (ae (cn (.str "\n")) ai)) ai)) (o2 aG (Tr.cl cA (ae (o2 aS (vr 1) (cn (.int 0))) ai)) (cn (.int 1))))) (aF (cn (.bl ZD))) sN) (ay (dP (tb (o2 Tr.neT (Tr.cl cA (ae (oS de (vr 6) (ae (cn (.str " at ")) ai)) ai)) (o2 aG (Tr.cl cA (ae (vr 2) ai)) (cn (.int 1))))) (aF (cn (.bl ZD))) sN) (ay (dP (tb (o2 Tr.neT (d9 (iS (vr 3)) [ZB,ZA 1,ZA 6,ZA 5] (gN 0) (tb (o2 Tr.neT (o2 Tr.eqT (Tr.cl aR (ae (vr 1) (ae (vr 0) ai))) (vr 2)) (o2 Tr.eqT (vr 0) (vr 3)))) (vr 0)) (ez ai))) (aF (cn (.bl ZD))) sN) (ay (cu (o2 aS (o2 aS (vr 1) (cn (.int 0))) (o1 eR (cn (.int 1)))) (gN 8)) (ay (cu (a8 (ae (o2 aG (sl (o2 aS (vr 1) (cn (.int 0))) pN (pS (o1 eR (cn (.int 1))))) (a8 (ae (o2 aG (sl (vr 8) pN (pS (cn (.int 2)))) (a8 (ae (o2 aG (sl (o2 aS (vr 8) (cn (.int 2))) pN (pS (o1 eR (cn (.int 1))))) (a8 (ae (o2 aG (o2 aS (o2 aS (vr 8) (cn (.int 2))) (o1 eR (cn (.int 1)))) (cn (.int 1))) ai))) ai))) ai))) (ae (a8 ai) ai))) (gN 9)) (ay (dP (tb (o2 gm (Tr.cl bL (ae (vr 9) (ae (vr 6) ai))) (cn .non))) (aF (cn (.bl ZD))) sN) (ay (cu (a8 (ae (sl (o2 aS (vr 1) (cn (.int 0))) pN (pS (o1 eR (cn (.int 1))))) (ae (a8 ai) ai))) (gN 10)) (ay (dP (qm (tb (o2 Tr.neT (o2 aS (vr 10) (cn (.int 0))) (a8 ai))) (tb (o2 gm (Tr.cl bL (ae (vr 10) (ae (vr 6) ai))) (cn .non)))) (aF (cn (.bl ZD))) sN) (dP (tb (o2 Tr.neT (Tr.cl bL (ae (a8 (ae (o2 aS (vr 1) (cn (.int 0))) (ae (a8 ai) ai))) (ae (vr 6) ai))) (vr 5))) (aF (cn (.bl ZD))) sN))))))))))))
abbrev tnG:T->En->Rs En:=(gT 2 (mG (gN 5) (mG (gN 6) wo)))
def pl2c(h:(T.tup [.tup cs,.tup ls]).pl=ZC):(T.tup cs).pl=ZC:=by
 rw[ib,plS,JH]at h;exact h.1
def uo{t:T}(h:bf [R,t]=.err "NoText"):bL [R,t]=.ok .non:=
 bM rfl (EC (c:="NoText") (ED (aT (ak (t:=R) rfl (ak (t:=t) rfl aP)) h)) rfl)
def xJ{t u:T}(h:bf [R,t]=.ok u):bL [R,t]=.ok u:=
 bM rfl (Hf (cO (aT (ak (t:=R) rfl (ak (t:=t) rfl aP)) h)))
def BJ(a b:List Nat):Tr.eqT (.str (tx a)) (.str (tx b))=.ok (.bl (decide (a=b))):=by
 unfold Tr.eqT;rw[if_pos (eK (by simp[T.dep]) rfl rfl)]
 congr 2
 by_cases h:a=b
 ·subst h;rw[decide_eq_true rfl,aX];simp
 ·rw[decide_eq_false h,aX]
  simp only[beq_eq_false_iff_ne,decide_eq_false_iff_not,ne_eq];exact λz=>h (lR z)
def EZ(P:List N2)(t t':N2->Int):Tr.eqT (bu P t) (bu P t')=.ok (.bl (decide (P.map t=P.map t'))):=by
 unfold Tr.eqT;rw[if_pos (eK (xo P t) (T.Iw _ (qJ P t)) (T.Iw _ (qJ P t')))]
 congr 2
 have:=mT (P.map t) (P.map t');rw[J6,J6]at this
 show aX (.tup (P.map (T.int∘t))) (.tup (P.map (T.int∘t')))=_
 rw[aX];exact this
variable{S:List (N2->Int)}{X4:T}{l ns:List Int}
section
variable {c0:List T}{x y z:Int}{L1 L2 L3:b8 N2}{P3:List N2}{t:N2->Int}
def turn(R:Rd (c0++[bo x y (l++[z])]) ls L P)(R1:Rd (c0++[bo x y (l++[z+1])]) [] L1 P)(R2:Rd (c0++[bo x y (l++[z])]) [] L2 P)(R3:c0≠ []->∃L3 P3,Rd c0 [] L3 P3/\P.length≠P3.length)(hv:(⟨(c0.length:Nat),(l.length:Nat)⟩:N2)∈P)
  (hl:l.length<=8) (hn:S.length<=100) (hS:∀t∈S,∀v∈P,Ok9 (t v)) (ht:t∈S) (s7 s8 s9 s10:Sl):tnF [.va (.scr ns),.va (.tup [.tup (c0++[bo x y (l++[z])]),.tup ls]),.va (eS P),.va (.lst (S.map (bu P))),.va X4,.va (bu P t),.va (.str (tx (fJ (c0++[bo x y (l++[z])]) P t))),s7,s8,s9,s10]=.ok (.nx [.va (.scr ns),.va (.tup [.tup (c0++[bo x y (l++[z])]),.tup ls]),.va (eS P),.va (.lst (S.map (bu P))),.va X4,.va (bu P t),.va (.str (tx (fJ (c0++[bo x y (l++[z])]) P t))),.va (bu P t),.va (bo x y (l++[z])),.va (.tup [.tup (c0++[bo x y (l++[z+1])]),.tup []]),.va (.tup [.tup c0,.tup []])]):=by
 have h9:=hS t ht
 have hs:∀v∈P,Sm (t v):=λv hv=>(h9 v hv).sm
 obtain⟨_,c1,c4⟩:=bj R.g.c
 have hp:=R.pl
 have tl:=R.Jg hs;unfold tnF;rw[aC (ρ':=[.va (.scr ns),.va (.tup [.tup (c0++[bo x y (l++[z])]),.tup ls]),.va (eS P),.va (.lst (S.map (bu P))),.va X4,.va (bu P t),.va (.str (tx (fJ (c0++[bo x y (l++[z])]) P t))),.va (bu P t),s8,s9,s10]) (bU (aT (ak (t:=.tup [.tup (c0++[bo x y (l++[z])]),.tup ls]) rfl (ak (t:=.str (tx (fJ (c0++[bo x y (l++[z])]) P t))) rfl aP)) (R.back R h9)) rfl)];rw[aC ((du (uJ (cM (aI (t:=bu P t) (u:=bu P t) rfl rfl (Cz P t))) (gX (k:=ZC) (cM (aT (ak (t:=.tup [.tup (c0++[bo x y (l++[z])]),.tup ls]) rfl (ak (t:=bu P t) rfl aP)) ((R.Jd (qJ P t)).trans (by rw[Cu]))))))).trans rfl)]
 rw[aC ((du (cM (aI (aT (ak (t:=.tup [.tup (c0++[bo x y (l++[z])]),.tup ls]) rfl (ak (t:=bu P t) rfl aP)) (R.IK t)) (aT (ak (t:=.tup [.tup (c0++[bo x y (l++[z])]),.tup ls]) rfl (ak (t:=bu P t) rfl aP)) (R.IK t)) (Es (n:=0) (by omega) λu hu=>by obtain⟨k,rfl⟩:=vf hu;exact⟨rfl,by simp[T.dep]⟩)))).trans rfl)]
 have e4:oS de (vr 6) (ae (cn (.str "\n")) ai) [.va (.scr ns),.va (.tup [.tup (c0++[bo x y (l++[z])]),.tup ls]),.va (eS P),.va (.lst (S.map (bu P))),.va X4,.va (bu P t),.va (.str (tx (fJ (c0++[bo x y (l++[z])]) P t))),.va (bu P t),s8,s9,s10]=.ok (.lst ((gp 0 (rows (c0++[bo x y (l++[z])]) P t)++[[]]).map λp=>T.str (tx p))):=by
  refine wb (s:=tx (fJ (c0++[bo x y (l++[z])]) P t)) rfl (ak (t:=.str (tx [10])) rfl aP) ?_
  show de [.str (tx (tt 0 (rows (c0++[bo x y (l++[z])]) P t))),.str (tx [10])]=_
  rw[fx]
  have tl':(tt 0 (rows (c0++[bo x y (l++[z])]) P t)).length<=5000:=tl;rw[fx]at tl';exact De (by simp) (iz _ 0) (by omega) (by rw[JC,lI];unfold rows;rw[JE,Mu,Ka];omega)
 have n4:((gp 0 (rows (c0++[bo x y (l++[z])]) P t)++[[]]).map λp=>T.str (tx p)).length=(c0++[bo x y (l++[z])]).length+1:=by
  rw[JE,JC,lI];unfold rows;rw[JE,Mu];rfl
 rw[aC ((du (cM (aI (t:=.int (((c0++[bo x y (l++[z])]).length+1:Nat):Int)) (u:=.int (((c0++[bo x y (l++[z])]).length:Nat)+1)) (aT (ak e4 aP) (by show Rs.ok (T.int ((_:List T).length:Nat))=_;rw[n4])) (aI (t:=.int ((c0++[bo x y (l++[z])]).length:Nat)) (u:=.int 1) (aT (ak (t:=.tup (c0++[bo x y (l++[z])])) rfl aP) rfl) rfl rfl) ((yu _ _).trans (by simp))))).trans rfl)]
 obtain⟨qs,hq1,hq2,hq3⟩:=Ct (rows (c0++[bo x y (l++[z])]) P t) 0
 have e5:oS de (vr 6) (ae (cn (.str " at ")) ai) [.va (.scr ns),.va (.tup [.tup (c0++[bo x y (l++[z])]),.tup ls]),.va (eS P),.va (.lst (S.map (bu P))),.va X4,.va (bu P t),.va (.str (tx (fJ (c0++[bo x y (l++[z])]) P t))),.va (bu P t),s8,s9,s10]=.ok (.lst (qs.map λp=>T.str (tx p))):=by
  refine wb (s:=tx (fJ (c0++[bo x y (l++[z])]) P t)) rfl (ak (t:=.str (tx sk)) rfl aP) ?_
  show de [.str (tx (tt 0 (rows (c0++[bo x y (l++[z])]) P t))),.str (tx sk)]=_
  have tl':(tt 0 (rows (c0++[bo x y (l++[z])]) P t)).length<=5000:=tl
  have hf:(rows (c0++[bo x y (l++[z])]) P t).flatten.length=P.length:=by rw[R.flat,JE]
  rw[hq1]at tl' ⊢;exact xF (u:=[32]) (c:=97) (v:=[116,32]) (by simp) (by decide+kernel) (by intro z;rw[z]at hq3;simp at hq3) hq2 (show(aD sk qs).length<=100000 by omega) (by omega)
 have n5:(qs.map λp=>T.str (tx p)).length=P.length+1:=by rw[JE,hq3,R.flat,JE]
 rw[aC ((du (cM (aI (t:=.int ((P.length+1:Nat):Int)) (u:=.int ((P.length:Nat)+1)) (aT (ak e5 aP) (by show Rs.ok (T.int ((_:List T).length:Nat))=_;rw[n5])) (aI (t:=.int (P.length:Nat)) (u:=.int 1) (aT (ak (t:=eS P) rfl aP) (by show Rs.ok (T.int ((P.map en).length:Nat))=_;rw[JE])) rfl rfl) ((yu _ _).trans (by simp))))).trans rfl)]
 have e6:d9 (iS (vr 3)) [ZB,ZA 1,ZA 6,ZA 5] (gN 0) (tb (o2 Tr.neT (o2 Tr.eqT (Tr.cl aR (ae (vr 1) (ae (vr 0) ai))) (vr 2)) (o2 Tr.eqT (vr 0) (vr 3)))) (vr 0) [.va (.scr ns),.va (.tup [.tup (c0++[bo x y (l++[z])]),.tup ls]),.va (eS P),.va (.lst (S.map (bu P))),.va X4,.va (bu P t),.va (.str (tx (fJ (c0++[bo x y (l++[z])]) P t))),.va (bu P t),s8,s9,s10]=.ok (.lst []):=by
  have:=CF (fc:=tb (o2 Tr.neT (o2 Tr.eqT (Tr.cl aR (ae (vr 1) (ae (vr 0) ai))) (vr 2)) (o2 Tr.eqT (vr 0) (vr 3)))) (fe:=vr 0) (p:=λ_=>ZD) (h:=λu=>u) (src:=[ZB,ZA 1,ZA 6,ZA 5]) (ρ:=[.va (.scr ns),.va (.tup [.tup (c0++[bo x y (l++[z])]),.tup ls]),.va (eS P),.va (.lst (S.map (bu P))),.va X4,.va (bu P t),.va (.str (tx (fJ (c0++[bo x y (l++[z])]) P t))),.va (bu P t),s8,s9,s10]) (fi:=iS (vr 3)) (ts:=S.map (bu P)) rfl (by rw[JE];exact eQ (by omega)) (by decide) (λu hu=>by
   obtain⟨t',ht',rfl⟩:=JQ.mp hu
   have h9':=hS t' ht';refine⟨?_,λz=>by cases z⟩
   have same:decide (fJ (c0++[bo x y (l++[z])]) P t'=fJ (c0++[bo x y (l++[z])]) P t)=decide (P.map t'=P.map t):=by
    by_cases w:P.map t'=P.map t
    ·rw[decide_eq_true w,decide_eq_true]
     have:rows (c0++[bo x y (l++[z])]) P t'=rows (c0++[bo x y (l++[z])]) P t:=by
      unfold rows row;refine Kp λc _=>Kp λv hv=>?_
      rw[MI.mp w v (Lw.mp hv).1]
     show tt 0 (rows (c0++[bo x y (l++[z])]) P t')=tt 0 (rows (c0++[bo x y (l++[z])]) P t)
     rw[this]
    ·rw[decide_eq_false w,decide_eq_false]
     intro z
     have a:=R.back R h9';rw[z,R.back R h9]at a;injection a with a
     have b:=T.tup.inj a;refine w (MI.mpr λv hv=>?_)
     have c:=MI.mp b v hv;injection c with c
     exact c.symm
   refine cM (aI (aI (aT (ak (t:=.tup [.tup (c0++[bo x y (l++[z])]),.tup ls]) rfl (ak (t:=bu P t') rfl aP)) (R.IE h9')) (u:=.str (tx (fJ (c0++[bo x y (l++[z])]) P t))) rfl (BJ _ _)) (aI (t:=bu P t') (u:=bu P t) rfl rfl (EZ P t' t)) ?_)
   rw[same];exact jZ rfl (by simp[T.dep]))
  rw[this]
  congr 2
  rw[Nt.mpr λu _ z=>by cases z]
  rfl
 rw[aC ((du (cM (aI (t:=.lst []) (u:=.lst []) e6 (jm rfl (eQ (by simp))) (jZ rfl (by simp[T.dep,deps]))))).trans rfl)]
 rw[aC (ρ':=[.va (.scr ns),.va (.tup [.tup (c0++[bo x y (l++[z])]),.tup ls]),.va (eS P),.va (.lst (S.map (bu P))),.va X4,.va (bu P t),.va (.str (tx (fJ (c0++[bo x y (l++[z])]) P t))),.va (bu P t),.va (bo x y (l++[z])),s9,s10]) (bU (aI (t:=.tup (c0++[bo x y (l++[z])])) (u:=.int (-1)) rfl rfl (pY c0 _)) rfl)]
 have e9:a8 (ae (o2 aG (sl (o2 aS (vr 1) (cn (.int 0))) pN (pS (o1 eR (cn (.int 1))))) (a8 (ae (o2 aG (sl (vr 8) pN (pS (cn (.int 2)))) (a8 (ae (o2 aG (sl (o2 aS (vr 8) (cn (.int 2))) pN (pS (o1 eR (cn (.int 1))))) (a8 (ae (o2 aG (o2 aS (o2 aS (vr 8) (cn (.int 2))) (o1 eR (cn (.int 1)))) (cn (.int 1))) ai))) ai))) ai))) (ae (a8 ai) ai)) [.va (.scr ns),.va (.tup [.tup (c0++[bo x y (l++[z])]),.tup ls]),.va (eS P),.va (.lst (S.map (bu P))),.va X4,.va (bu P t),.va (.str (tx (fJ (c0++[bo x y (l++[z])]) P t))),.va (bu P t),.va (bo x y (l++[z])),s9,s10]=.ok (.tup [.tup (c0++[bo x y (l++[z+1])]),.tup []]):=by
  refine b7 (ak (t:=.tup (c0++[bo x y (l++[z+1])])) (aI (t:=.tup c0) (u:=.tup [bo x y (l++[z+1])]) ((Bx (l:=(c0++[bo x y (l++[z])])) (lo:=ZB) (hi:=ZA (-1)) rfl rfl rfl).trans (by rw[qe])) (b7 (ak (t:=bo x y (l++[z+1])) (aI (t:=.tup [.int x,.int y]) (u:=.tup [.tup ((l++[z+1]).map .int)]) ((Bx (l:=[.int x,.int y,.tup ((l++[z]).map .int)]) (lo:=ZB) (hi:=ZA ((2:Nat):Int)) rfl rfl rfl).trans (by rw[zD];rfl)) (b7 (ak (aI (t:=.tup (l.map .int)) (u:=.tup [.int (z+1)]) ((Bx (l:=(l++[z]).map .int) (lo:=ZB) (hi:=ZA (-1)) rfl rfl rfl).trans (by rw[Kh];exact congrArg (λq=>Rs.ok (T.tup q)) (qe _ _))) (b7 (ak (aI (t:=.int z) (u:=.int 1) (aI (t:=.tup ((l++[z]).map .int)) (u:=.int (-1)) rfl rfl (by rw[Kh];exact pY _ _)) rfl rfl) aP) (eQ (by simp))) ((ki _ _ (by simp;omega)).trans (by rw[Kh];rfl))) aP) (eQ (by simp))) (ki _ _ (by simp))) aP) (eQ (by simp))) (ki _ _ (by simp at c4 ⊢;omega))) (ak (t:=.tup []) (b7 (ts:=[]) rfl (eQ (by simp))) aP)) (eQ (by simp))
 rw[aC (ρ':=[.va (.scr ns),.va (.tup [.tup (c0++[bo x y (l++[z])]),.tup ls]),.va (eS P),.va (.lst (S.map (bu P))),.va X4,.va (bu P t),.va (.str (tx (fJ (c0++[bo x y (l++[z])]) P t))),.va (bu P t),.va (bo x y (l++[z])),.va (.tup [.tup (c0++[bo x y (l++[z+1])]),.tup []]),s10]) (bU e9 rfl)]
 have hd:fJ (c0++[bo x y (l++[z+1])]) P t≠fJ (c0++[bo x y (l++[z])]) P t:=by
  refine C4 R R1 hs (by simp) (n:=c0.length) hv (by simp) rfl ?_
  have rv:∀w:Int,sT (c0++[bo x y (l++[w])]) ⟨(c0.length:Nat),(l.length:Nat)⟩=w:=λw=>by
   unfold sT
   have:Gp (c0++[bo x y (l++[w])]) (en ⟨(c0.length:Nat),(l.length:Nat)⟩)=.int w:=by
    show(match(c0++[bo x y (l++[w])]).getD (((c0.length:Nat):Int).toNat) .non with
     |.tup [_,_,.tup r] =>r.getD (((l.length:Nat):Int).toNat) .non
     |_=>.non)=_
    rw[Kl,Kl,Kq,Kz (JO _),MB]
    show((l++[w]).map T.int).getD l.length .non=_
    rw[Kh,Kq,Kz (by rw[JE];exact JO _),JE,MB]
    rfl
   rw[this]
  rw[rv,rv];omega
 rw[aC ((du (cM (aI (t:=.non) (u:=.non) (aT (ak (t:=.tup [.tup (c0++[bo x y (l++[z+1])]),.tup []]) rfl (ak (t:=.str (tx (fJ (c0++[bo x y (l++[z])]) P t))) rfl aP)) (uo (R.diff R1 h9 hd))) rfl rfl))).trans rfl)]
 have e10:a8 (ae (sl (o2 aS (vr 1) (cn (.int 0))) pN (pS (o1 eR (cn (.int 1))))) (ae (a8 ai) ai)) [.va (.scr ns),.va (.tup [.tup (c0++[bo x y (l++[z])]),.tup ls]),.va (eS P),.va (.lst (S.map (bu P))),.va X4,.va (bu P t),.va (.str (tx (fJ (c0++[bo x y (l++[z])]) P t))),.va (bu P t),.va (bo x y (l++[z])),.va (.tup [.tup (c0++[bo x y (l++[z+1])]),.tup []]),s10]=.ok (.tup [.tup c0,.tup []]):=b7 (ak (t:=.tup c0) ((Bx (l:=(c0++[bo x y (l++[z])])) (lo:=ZB) (hi:=ZA (-1)) rfl rfl rfl).trans (by rw[qe])) (ak (t:=.tup []) (b7 (ts:=[]) rfl (eQ (by simp))) aP)) (eQ (by simp))
 rw[aC (ρ':=[.va (.scr ns),.va (.tup [.tup (c0++[bo x y (l++[z])]),.tup ls]),.va (eS P),.va (.lst (S.map (bu P))),.va X4,.va (bu P t),.va (.str (tx (fJ (c0++[bo x y (l++[z])]) P t))),.va (bu P t),.va (bo x y (l++[z])),.va (.tup [.tup (c0++[bo x y (l++[z+1])]),.tup []]),.va (.tup [.tup c0,.tup []])]) (bU e10 rfl)]
 have e11:qm (tb (o2 Tr.neT (o2 aS (vr 10) (cn (.int 0))) (a8 ai))) (tb (o2 gm (Tr.cl bL (ae (vr 10) (ae (vr 6) ai))) (cn .non))) [.va (.scr ns),.va (.tup [.tup (c0++[bo x y (l++[z])]),.tup ls]),.va (eS P),.va (.lst (S.map (bu P))),.va X4,.va (bu P t),.va (.str (tx (fJ (c0++[bo x y (l++[z])]) P t))),.va (bu P t),.va (bo x y (l++[z])),.va (.tup [.tup (c0++[bo x y (l++[z+1])]),.tup []]),.va (.tup [.tup c0,.tup []])]=.ok ZD:=by
  by_cases hc:c0=[]
  ·subst hc
   exact EK (cM (aI (t:=.tup []) (u:=.tup []) rfl (b7 rfl (eQ (by simp))) (jZ rfl (by simp[T.dep,deps]))))
  ·obtain⟨L3,P3,R3',hlen⟩:=R3 hc
   have hne:Tr.neT (.tup c0) (.tup [])=.ok (.bl ZC):=by
    unfold Tr.neT;rw[if_pos (rO (by simp[T.dep,deps]) (T.Iw _ (pl2c R3'.g.p)) rfl)]
    cases c0 with
    |nil=>exact absurd rfl hc
    |cons=>rfl
   exact EJ (cM (aI (t:=.tup c0) (u:=.tup []) rfl (b7 rfl (eQ (by simp))) hne)) (cM (aI (t:=.non) (u:=.non) (aT (ak (t:=.tup [.tup c0,.tup []]) rfl (ak (t:=.str (tx (fJ (c0++[bo x y (l++[z])]) P t))) rfl aP)) (uo (R.Jk R3' h9 hlen))) rfl rfl))
 rw[aC ((du e11).trans rfl)];exact(du (cM (aI (t:=bu P t) (u:=bu P t) (aT (ak (t:=.tup [.tup (c0++[bo x y (l++[z])]),.tup []]) (b7 (ak (t:=.tup (c0++[bo x y (l++[z])])) rfl (ak (t:=.tup []) (b7 (ts:=[]) rfl (eQ (by simp))) aP)) (eQ (by simp))) (ak (t:=.str (tx (fJ (c0++[bo x y (l++[z])]) P t))) rfl aP)) (xJ (R.back R2 h9))) rfl (Cz P t)))).trans rfl
end
section
variable {c0:List T}{x y z:Int}{L1 L2:b8 N2}
theorem Cr(R:Rd (c0++[bo x y (l++[z])]) ls L P)(R1:Rd (c0++[bo x y (l++[z+1])]) [] L1 P)(R2:Rd (c0++[bo x y (l++[z])]) [] L2 P)(R3:c0≠ []->∃L3 P3,Rd c0 [] L3 P3/\P.length≠P3.length)(hv:(⟨(c0.length:Nat),(l.length:Nat)⟩:N2)∈P)
  (hl:l.length<=8) (hn:S.length<=100) (hS:∀t∈S,∀v∈P,Ok9 (t v)):∀(Q:List (N2->Int)),(∀t∈Q,t∈S)->∀(s5 s6 s7 s8 s9 s10:Sl),∃t5 t6 t7 t8 t9 t10:Sl,bw tnG tnF (Q.map λt=>T.tup [bu P t,.str (tx (fJ (c0++[bo x y (l++[z])]) P t))]) [.va (.scr ns),.va (.tup [.tup (c0++[bo x y (l++[z])]),.tup ls]),.va (eS P),.va (.lst (S.map (bu P))),.va X4,s5,s6,s7,s8,s9,s10]=.ok (.nx [.va (.scr ns),.va (.tup [.tup (c0++[bo x y (l++[z])]),.tup ls]),.va (eS P),.va (.lst (S.map (bu P))),.va X4,t5,t6,t7,t8,t9,t10])
 |[],_,s5,s6,s7,s8,s9,s10=>⟨s5,s6,s7,s8,s9,s10,rfl⟩
 |t::Q,hQ,s5,s6,s7,s8,s9,s10=>by
  obtain⟨t5,t6,t7,t8,t9,t10,e⟩:=Cr R R1 R2 R3 hv hl hn hS Q (λu hu=>hQ u (JF _ hu)) (.va (bu P t)) (.va (.str (tx (fJ (c0++[bo x y (l++[z])]) P t)))) (.va (bu P t)) (.va (bo x y (l++[z]))) (.va (.tup [.tup (c0++[bo x y (l++[z+1])]),.tup []])) (.va (.tup [.tup c0,.tup []]))
  refine⟨t5,t6,t7,t8,t9,t10,?_⟩
  rw[JG,fY (ρ1:=[.va (.scr ns),.va (.tup [.tup (c0++[bo x y (l++[z])]),.tup ls]),.va (eS P),.va (.lst (S.map (bu P))),.va X4,.va (bu P t),.va (.str (tx (fJ (c0++[bo x y (l++[z])]) P t))),s7,s8,s9,s10]) rfl (turn (X4:=X4) (ns:=ns) R R1 R2 R3 hv hl hn hS (hQ t JI) s7 s8 s9 s10)];exact e
end
theorem qA(f g:α->T):∀S:List α,((S.map f).zip (S.map g)).map (λp=>T.tup [p.1,p.2])=S.map λa=>T.tup [f a,g a]
 |[] =>rfl
 |a::S=>by rw[JG,JG,QR,JG,qA f g S,JG]
def pure_law(ns:List Int)(hn:ns.length<=63):m_law [.scr ns]=.ok (.bl ZC):=by
 obtain⟨cs,ls,er,hc,c3,hs,hl,l3,hD⟩:=E6 ns hn 0 3 (by omega)
 obtain⟨hR,mR⟩:=Dm hc hs hl (by omega)
 have g:Good cs ls:=⟨hc,λt ht=>(hl t ht).1,by omega,xG mR⟩
 obtain⟨L,P,R⟩:=nN g;obtain⟨ha,n1,n4⟩:=bj hc
 have hpc:∀c∈cs,c.pl=ZC:=λc hc=>xG (hs c hc)
 rcases Pz cs with rfl|⟨c0,c,rfl⟩
 ·simp at n1
 rw[PB]at*;obtain⟨x,y,lq,rfl,hRd,hl3⟩:=hD c (by simp)
 obtain⟨l,z,rfl,hris,hb,hz⟩:=hRd;rw[JC,Ka]at hl3 hb hz
 have hck:bp (bo x y (l++[z]))=ZC:=ha _ (by simp)
 have hz0:=hb z (by simp)
 have hck1:bp (bo x y (l++[z+1]))=ZC:=by
  have h':(la (.int x) (.int y)&&cp (.tup ((l++[z]).map .int)))=ZC:=hck;rw[JH]at h'
  show(la (.int x) (.int y)&&cp (.tup ((l++[z+1]).map .int)))=ZC
  rw[h'.1,Ni];refine xI (by rw[JC];simp) (by rw[JC,Ka];omega) (q0 hris (by omega)) λw hw=>?_
  rcases JR.mp hw with hw|hw
  ·have:=hb w (by simp[hw]);omega
  ·rw[JY.mp hw];omega
 rw[JC,Ka]at n1 n4 c3
 have hc1:a0 (.tup (c0++[bo x y (l++[z+1])]))=ZC:=oo (by rw[JC,Ka];omega) (by rw[JC,Ka];omega) λc hc=>by
  rcases JR.mp hc with hc|hc
  ·exact ha c (by simp[hc])
  ·rw[JY.mp hc];exact hck1
 have g1:Good (c0++[bo x y (l++[z+1])]) []:=p7 hc1 λc hc=>by
  rcases JR.mp hc with hc|hc
  ·exact hpc c (by simp[hc])
  ·rw[JY.mp hc,ib,plS,plS,plS,plS,uR];rfl
 have g2:Good (c0++[bo x y (l++[z])]) []:=p7 hc hpc
 obtain⟨L1,R1⟩:=uq R g1 (by
  rw[j8,j8]
  show _++fI _ ((l++[z+1]).map T.int).length=_++fI _ ((l++[z]).map T.int).length
  rw[JE,JE,JC,JC];rfl)
 obtain⟨L2,R2⟩:=uq R g2 rfl
 have rdn:rf (bo x y (l++[z]))=l.length+1:=by show((l++[z]).map T.int).length=_;rw[JE,JC];rfl
 have R3:c0≠ []->∃L3 P3,Rd c0 [] L3 P3/\P.length≠P3.length:=λh0=>by
  have hp0:1<=c0.length:=by cases c0 with|nil=>exact absurd rfl h0|cons=>simp
  obtain⟨L3,P3,R3⟩:=nN (p7 (l:=c0) (oo hp0 (by omega) λc hc=>ha c (by simp[hc])) λc hc=>hpc c (by simp[hc]))
  refine⟨L3,P3,R3,?_⟩
  have a:=congrArg Lh R.e
  have b:=congrArg Lh R3.e;rw[j8,JC,fE,rdn,JE]at a;rw[JE]at b;omega
 have hv:(⟨(c0.length:Nat),(l.length:Nat)⟩:N2)∈P:=by
  have hm:T.tup [.int ((c0.length:Nat):Int),.int ((l.length:Nat):Int)] ∈dv 0 (c0++[bo x y (l++[z])]):=lA (cs:=c0++[bo x y (l++[z])]) (KI _) (by rw[JC,Ka];omega) (by
   rw[Mg,Kq,Kz (JO _),MB]
   show l.length<rf (bo x y (l++[z]))
   rw[rdn];omega)
  rw[R.e]at hm;obtain⟨v,hv,e⟩:=JQ.mp hm
  have:v=⟨(c0.length:Nat),(l.length:Nat)⟩:=tF e;exact this▸hv
 obtain⟨ta,ea,ha9⟩:=R.IV ns hn 80;obtain⟨tb_,eb,hb9⟩:=R.IV ns hn 130;refine bM rfl ?_
 show zV [.va (.scr ns),.em,.em,.em,.em,.em,.em,.em,.em,.em,.em]=_
 unfold zV;rw[aC (ρ':=[.va (.scr ns),.va (.tup [.tup (c0++[bo x y (l++[z])]),.tup ls]),.em,.em,.em,.em,.em,.em,.em,.em,.em]) (bU (aT (ts:=[.scr ns,.int ((0:Nat):Int),.int ((3:Nat):Int)]) rfl er) rfl)];rw[aC (ρ':=[.va (.scr ns),.va (.tup [.tup (c0++[bo x y (l++[z])]),.tup ls]),.va (eS P),.em,.em,.em,.em,.em,.em,.em,.em]) (bU (aT (ak (t:=.tup [.tup (c0++[bo x y (l++[z])]),.tup ls]) rfl aP) R.events) rfl)]
 rw[aC (ρ':=[.va (.scr ns),.va (.tup [.tup (c0++[bo x y (l++[z])]),.tup ls]),.va (eS P),.va (.lst [bu P ta,bu P tb_]),.em,.em,.em,.em,.em,.em,.em]) (bU (jm (ak (t:=bu P ta) (aT (ak (t:=.scr ns) rfl (ak (t:=.int ((80:Nat):Int)) rfl (ak (t:=.tup [.tup (c0++[bo x y (l++[z])]),.tup ls]) rfl aP))) ea) (ak (t:=bu P tb_) (aT (ak (t:=.scr ns) rfl (ak (t:=.int ((130:Nat):Int)) rfl (ak (t:=.tup [.tup (c0++[bo x y (l++[z])]),.tup ls]) rfl aP))) eb) aP)) (eQ (by simp))) rfl)]
 have key:∃S:List (N2->Int),S.length<=100/\(∀t∈S,∀v∈P,Ok9 (t v))/\(dP (tb (Tr.cl eI (ae (vr 1) ai))) (ay (cu (o2 aG (vr 3) (ez (ae (Tr.cl dW (ae (vr 1) ai)) (ae (Tr.cl fy (ae (vr 1) (ae (Tr.cl dW (ae (vr 1) ai)) (ae (o2 gg (Tr.cl ax (ae (vr 0) (ae (cn (.int 70)) (ae (cn (.int 99)) ai)))) (cn (.int 50))) ai)))) ai)))) (gN 3)) (dP (cI (tb (Tr.cl dE (ae (vr 1) (ae (Tr.cl bf (ae (vr 1) (ae (Tr.cl aR (ae (vr 1) (ae (o2 aS (vr 3) (cn (.int 3))) ai))) ai))) ai))))) (aF (cn (.bl ZD))) sN)) sN) [.va (.scr ns),.va (.tup [.tup (c0++[bo x y (l++[z])]),.tup ls]),.va (eS P),.va (.lst [bu P ta,bu P tb_]),.em,.em,.em,.em,.em,.em,.em]=.ok (.nx [.va (.scr ns),.va (.tup [.tup (c0++[bo x y (l++[z])]),.tup ls]),.va (eS P),.va (.lst (S.map (bu P))),.em,.em,.em,.em,.em,.em,.em]):=by
  obtain⟨hw,eh,ih⟩:=R.Ju
  cases hw with
  |false=>exact⟨[ta,tb_],by simp,λt ht=>by rcases JL.mp ht with rfl|ht;exact ha9;rw[JY.mp ht];exact hb9,(du (cM (aT (ak (t:=.tup [.tup (c0++[bo x y (l++[z])]),.tup ls]) rfl aP) eh))).trans rfl⟩
  |true=>
   have n:=ih.mp rfl;rcases R.IY with⟨n',_⟩|⟨_,t,b,St,hb,ew⟩
   ·exact absurd n n'
   have hol:Holds L t:=St.holds R.f.ends hb;obtain⟨m,em,m0,m1⟩:=cW ns 70 99 hn (by omega)
   have ho1:=holds_all.mpr hol
   have ho2:L.all (hB λv=>t v+(m - 50))=ZC:=holds_all.mpr λa c k hk=>by have:=hol a c k hk;omega
   have h9:∀v∈P,Ok9 (t v):=λv hv=>by have:=kO R.f St hb hv;unfold Ok9;omega
   have h9m:∀v∈P,Ok9 (t v+(m - 50)):=λv hv=>by have:=kO R.f St hb hv;unfold Ok9;omega
   refine⟨[ta,tb_,t,λv=>t v+(m - 50)],by simp,λu hu=>?_,?_⟩
   ·rcases JL.mp hu with rfl|hu
    ·exact ha9
    ·rcases JL.mp hu with rfl|hu
     ·exact hb9
     ·rcases JL.mp hu with rfl|hu
      ·exact h9
      ·rw[JY.mp hu];exact h9m
   ·refine(jn (cM (aT (ak (t:=.tup [.tup (c0++[bo x y (l++[z])]),.tup ls]) rfl aP) eh))).trans ?_
    rw[aC (ρ':=[.va (.scr ns),.va (.tup [.tup (c0++[bo x y (l++[z])]),.tup ls]),.va (eS P),.va (.lst [bu P ta,bu P tb_,bu P t,bu P λv=>t v+(m - 50)]),.em,.em,.em,.em,.em,.em,.em]) (bU (aI (t:=.lst [bu P ta,bu P tb_]) (u:=.lst [bu P t,bu P λv=>t v+(m - 50)]) rfl (jm (ak (t:=bu P t) (aT (ak (t:=.tup [.tup (c0++[bo x y (l++[z])]),.tup ls]) rfl aP) ew) (ak (t:=bu P λv=>t v+(m - 50)) (aT (ak (t:=.tup [.tup (c0++[bo x y (l++[z])]),.tup ls]) rfl (ak (t:=bu P t) (aT (ak (t:=.tup [.tup (c0++[bo x y (l++[z])]),.tup ls]) rfl aP) ew) (ak (t:=.int (m - 50)) (aI (t:=.int m) (u:=.int 50) (cU (k:=70) em rfl rfl rfl) rfl rfl) aP))) (R.moved ho1 (m - 50))) aP)) (eQ (by simp))) (qo _ _ (by simp))) rfl)]
    refine(du (gX (k:=ZC) (cM (aT (ak (t:=.tup [.tup (c0++[bo x y (l++[z])]),.tup ls]) rfl (ak (t:=bu P λv=>t v+(m - 50)) (aT (ak (t:=.tup [.tup (c0++[bo x y (l++[z])]),.tup ls]) rfl (ak (aT (ak (t:=.tup [.tup (c0++[bo x y (l++[z])]),.tup ls]) rfl (ak (t:=bu P λv=>t v+(m - 50)) rfl aP)) (R.IE h9m)) aP)) (R.back R h9m)) aP)) ((R.isw _).trans (by rw[ho2])))))).trans rfl
 obtain⟨S,hS1,hS2,eS_⟩:=key;rw[aC eS_]
 have e4:d9 (iS (vr 3)) [ZB,ZA 1] (gN 0) bT (Tr.cl aR (ae (vr 1) (ae (vr 0) ai))) [.va (.scr ns),.va (.tup [.tup (c0++[bo x y (l++[z])]),.tup ls]),.va (eS P),.va (.lst (S.map (bu P))),.em,.em,.em,.em,.em,.em,.em]=.ok (.lst (S.map λt=>T.str (tx (fJ (c0++[bo x y (l++[z])]) P t)))):=by
  have:=mx (fe:=Tr.cl aR (ae (vr 1) (ae (vr 0) ai))) (h:=λu=>match aR [.tup [.tup (c0++[bo x y (l++[z])]),.tup ls],u]with|.ok w=>w|_=>.non) (src:=[ZB,ZA 1]) (ρ:=[.va (.scr ns),.va (.tup [.tup (c0++[bo x y (l++[z])]),.tup ls]),.va (eS P),.va (.lst (S.map (bu P))),.em,.em,.em,.em,.em,.em,.em]) (fi:=iS (vr 3)) (ts:=S.map (bu P)) rfl (by rw[JE];exact eQ (by omega)) (by decide) (λu hu=>by
   obtain⟨t,ht,rfl⟩:=JQ.mp hu;refine aT (ak (t:=.tup [.tup (c0++[bo x y (l++[z])]),.tup ls]) rfl (ak (t:=bu P t) rfl aP)) ?_
   rw[R.IE (hS2 t ht)])
  rw[this,J6]
  congr 2
  refine Kp λt ht=>?_
  show(match aR [.tup [.tup (c0++[bo x y (l++[z])]),.tup ls],bu P t]with|.ok w=>w|_=>.non)=_
  rw[R.IE (hS2 t ht)]
 rw[aC (ρ':=[.va (.scr ns),.va (.tup [.tup (c0++[bo x y (l++[z])]),.tup ls]),.va (eS P),.va (.lst (S.map (bu P))),.va (.lst (S.map λt=>T.str (tx (fJ (c0++[bo x y (l++[z])]) P t)))),.em,.em,.em,.em,.em,.em]) (bU e4 rfl)]
 obtain⟨t5,t6,t7,t8,t9,t10,el⟩:=Cr (ns:=ns) (X4:=.lst (S.map λt=>T.str (tx (fJ (c0++[bo x y (l++[z])]) P t)))) R R1 R2 R3 hv (by omega) hS1 hS2 S (λt h=>h) .em .em .em .em .em .em
 rw[aC (jo (ts:=S.map λt=>T.tup [bu P t,.str (tx (fJ (c0++[bo x y (l++[z])]) P t))]) (by
  show Rs.ok ((((S.map (bu P)).zip (S.map λt=>T.str (tx (fJ (c0++[bo x y (l++[z])]) P t)))).map λp=>T.tup [p.1,p.2]))=_
  rw[qA]) el)]
 exact cO rfl
end G
end
open PySem PySem.W PyProof.Rows
set_option maxRecDepth 100000 in
set_option maxHeartbeats 0 in
theorem PySem.Challenge.cw_farclocks_k93_whole_times_read_holds : PySem.Challenge.rw_farclocks_k93_whole_times_read.Holds := by
  w_on; o_law
  refine Tr.holds_C (q :=G.vw) (loose :=G.lse) (Xt :=λ_ =>true) (XP :=λ_ _ =>True) (Yf :=λs =>((Tr.hookC G.asks G.top).obs s, Nat.ble 1 s.toks)) (Ya :=λw =>((Tr.hookC G.asks G.top).val w, true)) (YP :=(Tr.hookC G.asks G.top).says) (N :=9000) (Tr.left_of (by rfl) (by rfl) (λ_ =>rfl) λw os =>?hl) (λw s e =>(Tr.hookC G.asks G.top).of w s (OR e).1) (Tr.hookC G.asks G.top).keeps (λ_ _ =>trivial) (λ_ _ _ _ _ =>trivial) (by rfl) (by rfl) (by rfl) (λs _ =>recFacts_of (s :=s) rfl) (by rfl) (by assumption) (by decide +kernel) ⟨rfl, rfl, rfl, rfl, rfl, by decide +kernel⟩ ?hw (λw s e =>Nat.le_of_ble_eq_true (OR e).2) ?hc
  case hl =>exact G.Jh w os
  case hw =>w_witness2
  case hc =>exact Tr.walk_C (n :=63) (k :=14) (x := "_law_script") (CX :=L2.CX0) (sp :=λK =>Tr.spP K 1 G.m_law) rfl (by decide) rfl ⟨rfl, by decide, by decide⟩ (λw K mg fa h X e g hf =>G.all_ok X e g hf) (λK H a ns hl _ hS =>Tr.sp_script hS (G.pure_law ns hl)) λ_ _ _ _ z =>z
