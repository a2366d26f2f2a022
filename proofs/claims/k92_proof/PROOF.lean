import PyProof.Rows.All
import Wide.All
import OpenK.AllK
import Wide.FinOn
import Lean
import PyProof.EqAt
import PyProof.EqKinds
import PyProof.TupleCall
import PyProof.ExcClass3
import PyProof.StationsW
import PyProof.ExcBaseAll.ValueError
import PyProof.ExcArgsOwn
import PyProof.IsiBase
import PyProof.IsiH_tuple
import PyProof.ExcAttrAll.ValueError
import PyProof.Rows.RuleN_isinstance
import PyProof.MeetsSeq
import PyProof.RulesAs
import PyProof.IsiH_list
import PyProof.AttrMiss
import KE.KDictOf
import PyProof.Rows.SumAny
import PyProof.Rows.MinMaxN
import PyProof.Rows.SortShellK
import PyProof.Rows.SortWalk
import KE.KSortTup
import PyProof.ZipIter
import PyProof.WalksMore
import PyProof.DictWalks
import PyProof.AutoSeq1
import PyProof.Rows.Range3
import PyProof.CollectWalk
import PyProof.EnumMake
import PyProof.ListRange
import KE.KRevIter
import PyProof.SetScanFacts
import PyProof.SetKind
import PyProof.DictKinds
import PyProof.FactsAll.set_0
import PyProof.FactsAll.set_1
import PyProof.FactsAll.set_2
import PyProof.FactsAll.set_3
import PyProof.FactsLen
import PyProof.TupleIter
import PyProof.Rows.SetFrom
import PyProof.Rows.SortShell
import PyProof.CallStr
import PyProof.RulesTry
import KE.KIntText
import PyProof.Conv_int
import PyProof.ReprStr
import Flt.Str
import PyProof.SliceStr2
import PyProof.ListStr
import PyProof.StrWalks
import PyProof.StrOps2
import PySem.Challenge.RW_farclocks_k92_times_as_texts
noncomputable section
open PySem.Challenge renaming pw_farclocks_k92_times_as_texts→Ih,rw_farclocks_k92_times_as_texts→MC
open PySem.Builtin.SmallTypes renaming ownedTupleHandOut→Lc,ownedTupleIsFree→IL,nextOf→IX
open PySem.AutoListH renaming list___mul___list_int_3→Oj
open Array renaming all_eq_true_iff_forall_mem→Kw,getElem?_eq_some_iff→II,getElem?_toList→Ny,length_toList→Kf,find?_toList→Oh,toList→Nt
open PyProof.Rows renaming slot_tuple_getitem→Ji,callWith_builtin1→J2,callWith_type1→JO,subscriptTail_builtinR→Np,entry_tuple_getitem→N8,args_tuple_getitem→OI,call_isinstance_of→OL,subscriptTail→Nb,tupleItemsOf_→OJ,Subscript_→Pf,boot_all→OV,IntsAre→MJ,AllBare→NK,IsTup→Qc
open PySem.F renaming args_tuple_iterator_next_1→L5,entry_tuple_iterator_next→Mg,slot_tuple_iterator_next→Kn,excBase_ValueError→Mq,args_tuple_add_2→Lg,slot_zip_getattribute→KO,entry_tuple_add→Lo,plainAttrs_list→Lp,slot_tuple_add→LF,plainAttrs_str→LG,typeOf_object_class→LS,slot_enumerate_next→Nv,slot_str_partition→NT,args_str_split_2→Mv,args_zip_next_1→MV,entry_str_split→MX,args_int_rmul_2→O5,slot_tuple_rmul→O7,slot_str_split→LZ,slot_tuple_mul→Ng,entry_zip_next→Nh,slot_int_index→Pz,entry_int_rmul→PB,slot_zip_next→KC,slot_int_rmul→Me,fills_int_mul→PV,slot_zip_iter→P2,slot_gs_get→On,called_int→Mw
open PySem.Builtin.Slice renaming slicePartIndex→PN,sliceApplied→Mm,slicePlaces→Ku,sliceAdjust→Lb
open PySem.Builtin.Str renaming strSliceIndices→Ic,occurrences→KM,strKind→IS,strSub→Lq,glued→O0
open List renaming getD_eq_getElem?_getD→IF,getElem?_append_right→JT,nodup_iff_pairwise_ne→Ms,getElem?_eq_some_iff→Ii,getElem?_append_left→JF,drop_eq_getElem_cons→JG,getElem?_eq_getElem→Iv,getElem?_replicate→KN,getElem?_cons_succ→M6,getElem?_set_self→IJ,drop_eq_nil_of_le→Kl,take_of_length_le→Km,filter_eq_nil_iff→KY,map_eq_append_iff→Nn,mem_append_right→H0,length_singleton→Jm,getElem?_eq_none→Kp,eq_nil_or_concat→ND,concat_eq_append→NF,length_filter_le→NG,mem_cons_of_mem→HQ,mem_append_left→Iw,getElem?_set_ne→IH,mem_of_getElem?→Kb,mem_of_mem_drop→Ky,mem_of_mem_take→La,filterMap_cons→Jo,map_congr_left→JK,replicate_succ→J0,map_eq_nil_iff→KQ,filter_eq_self→Mj,getElem?_range→N7,length_append→HK,mem_cons_self→HU,mem_singleton→Ir,contains_cons→JR,length_range'→J7,filter_append→Lx,getElem?_drop→Mz,mem_filterMap→Og,forIn_toArray→Oq,count_eq_zero→Oy,size_toArray→Il,append_assoc→Iq,getElem?_map→IQ,count_append→Jj,flatten_cons→Jt,length_range→Ke,mem_range'_1→LJ,nodup_append→MU,take_sublist→O4,isEmpty_cons→O9,length_cons→HR,all_eq_true→ID,length_drop→Jh,not_mem_nil→Jr,lookup_cons→Jy,length_take→JI,getElem_mem→J9,drop_length→LY,range'_succ→Ni,filter_cons→PD,mem_flatMap→PH,cons_append→PJ,length_map→HP,mem_append→HV,length_nil→IK,append_nil→Jc,nodup_cons→JE,map_append→JH,length_set→JQ,nil_append→Kh,mem_filter→KA,of_mem_zip→KB,find?_cons→K3,forIn_cons→Lu,range_succ→NA,replicate→Iy,mem_range→JN,forIn_nil→MF,nodup_nil→MH,drop_zero→MI,drop_left→N0,take_left→N1,map_cons→HW,mem_cons→HZ,sum_cons→KP,any_cons→M7,mem_map→HY,map_map→Iu,map_nil→Mu,toArray→Pl,length→JZ,range'→Ka,lookup→Mf,range→Js,Nodup→Ma,foldl→MR,cons→MW
open PySem renaming wpAny_newFunctionEnv_cells→JU,wpAny_binaryOp_repeat_ref→MK,wpAny_callSpecial?_slot→Jq,markedBehindIn_of_false→Nd,wpAny_Call_method_late→KZ,wpAny_nextOf_list_item→Nq,builtinLookup_eq_fast→Ks,codeAny_call_function→LW,wpAny_isTrue_Compare1→NL,pythonCodeMadeTheCall→NN,codeAny_handlers_test→NO,codeAny_call_builtin→L3,wpAny_loadName_local→NU,wpAny_updateSeq_pair→NV,wpAny_setFlight_none→NW,mem_of_lookup→Kg,wpAny_isSubtype_exc→Kj,plainExc_ValueError→Oa,wpAny_raiseNew_none→Ob,wpAny_handleBy_cons→Oc,wpAny_Call_Name_kw→Jw,wpAny_pyIter_tuple→Kr,wpAny_setField_rec→LD,wpAny_List_spliced→OB,tupleKind_room_in1→OM,wpAny_newExc_plain→OS,wpAny_Constant_str→OU,foldedSetIterable→Im,wpAny_loadPart_at→Jb,wpAny_truthy_bool→Jk,wpAny_newObj_type→JM,wpAny_pyIter_list→LL,wpAny_Return_some→Pc,wpAny_assign_Name→Pd,wpAny_sequenceKey→Pe,wpAny_pyIter_enum→Pg,wpAny_call_entry→JS,checkBuiltinCall→L1,wpAny_execs_cons→Nj,noFill_tuple_add→Nk,wpAny_comp_letGo→Nl,seqSlot_of→PC,wpAny_isInstance→PK,lookupAlong_cons→PL,wpAny_pyRepr_str→PM,wpAny_execs_nil→KD,letOwnedTupleGo→KF,wpAny_loadPart'→KH,leftWithCleanup→K6,pushCells_keeps→LB,typeLookup_type→LC,theTreesLotGoes→Mk,importedModules→NI,codeAny_builtin→NM,wpAny_seqItems→Kc,recursionLimit→KU,newFunctionEnv→ML,wpAny_setField→MM,isSubtype_type→MN,wpAny_newEntry→MO,wpAny_newTuple→N3,wpAny_holding→Jp,behindInMarks→JJ,attributeBase→J1,swapsWithSole→Lz,swappedStores→LA,wpAny_standAt→L8,comprehension→L9,wpAny_attempt→Nc,seq_tuple_add→OG,evalPart_none→OK,wpAny_onRaise→ON,plainId_quiet→OP,Comprehension→OQ,bootBuiltins→IC,wpAny_typeOf→MA,codeAny_mono→Pr,codeAny_func→Pt,concat_meets→Pu,callSpecial?→Pv,mainGlobals→IM,wpAny_field→IW,excClassObj→JB,sizeLine_eq→JL,wpAny_of_eq→Lf,sliceBounds→LN,subscripted→N9,lookupAlong→P6,wpAny_point→P8,wpAny_bind→HM,wpAny_pure→HX,wpAny_mono→IR,assignEach→JA,call_meets→KG,wpAny_rule→Ll,sysModules→LK,typeLookup→LM,builtinsNs→Mc,typeIs_int→NP,wpAny_Name→Pb,compareOp→Jl,cellsFrom→J4,Str→Ko,noteFrame→K5,swapsWith→Ld,pushCells→LX,Ctx→MQ,Arguments→MY,specialOf→MZ,treeTable→NH,tupleKind→NJ,numTextOf→OR,strValues→P7,numSeenOf→P9,starEach→Ik,FuncData→Je,binaryOp→J8,boot_len→Kt,NameKind→K1,compPost→NQ,GenState→OA,bindArgs→OF,evalArgs→PP,entryFor→PQ,callWith→PR,intText?→PU,Program→Ip,OsState→Ly,BindsTo→Na,Shared→HJ,Around→IE,Result→LH,IsPair→Ml,IsPart→OH,Paired→Qb,Value→HL,World→IV,Scope→K2,Model→L7,CmpOp→Oz,Drawn→Qa
open PySem.Builtin.Tuple renaming tupleItemsOf→Mo,tupleIsExact→Mp,tupleExact→J5
open PySem.Calls renaming Name_function_global→Mr,callWith_builtin→KW,evalArgs_plain→Kx,spliced_cons→J6,Constant_str→Of,spliced_nil→Kd
open PySem.Builtin.List renaming listTooLong→Kz
open Option renaming isSome_iff_exists→Lj,map_eq_some_iff→Nm,isSome_some→Ol,getD_none→Py,some→Jn
open Int renaming eq_ofNat_of_zero_le→IP,emod_lt_of_pos→Mx,toNat_natCast→IY,emod_nonneg→NC
open PySem.Builtin.Dict renaming updateFrom→M1
open PySem.Heap renaming get?_push_of_some→HN,get?_update_other→Kk,get?_update_self→LQ,get?_push_size→Ie,NewAttrErr→PZ,size_push→Jz,lt_size→Ib,SameBut→KJ
open PySem.W renaming cellsFrom_some→JV,hideAll_none→K9,hideAll_get→JX,codeRec_of→K0,of_hideAll→Ln,callWith_K→Mt,methodObj→MP,hasDictIn→OW,kitx_list→OY,kitx_dict→OZ,plainGet→Nf,openSeen→Pw,openGood→Px,kia_one→JC,topFrom→Lm,hideAll→Md,instObj→Nr,keepIn→KR,codeIn→MB,lookIn→NX,findIn→NY,mg_of→L4,Frag→HI,fnOf→KI,nsIn→Lh
open PySem.Obj renaming isFreed_of_fields→LR,data_mapFields→Kq,mapFields→K8
open Bool renaming and_eq_false_iff→NB,and_eq_true_iff→Ja,false_ne_true→Io,false_eq_true→Jv,not_eq_true'→O8,and_eq_true→HS,eq_iff_iff→Ls,or_eq_true→PY,false_and→MD,and_false→ME,true_and→Lw,or_false→M4,false_or→Om,and_true→Ov,or_true→Pm,true_or→Pn
open PySem.Around renaming frames_deeper→NR,under_plainId→NS
open PySem.Heap.SameBut renaming update→N4
open Nat renaming lt_of_lt_of_le→Ig,lt_succ_of_lt→MS,le_of_succ_le→MT,lt_trichotomy→Pa,mod_eq_of_lt→PF,strongRecOn→P5,lt_irrefl→Iz,le_trans→IA,ne_of_lt→Jx,le_of_eq→KL,sub_zero→K4,le_of_lt→Li,zero_add→Lk,ne_of_gt→LP,toDigits→LV,sub_self→My,succ_mul→Nu,mul_comm→Pj,lt_trans→Pk,le_refl→Ia,zero_le→IZ
open PySem.Str renaming ofString→Ju,ofString→Ij,join→Ox
open PySem.Heap.IsSliceOf renaming new→Od
open PySem.Code renaming quiet_builtin→Oo,isCaller→Ot
open Option.some renaming inj→IT
open ForInStep renaming yield→Ki
open List.cons renaming injEq→Lr
open PySem.Expr renaming Subscript→NZ,ListComp→L6,Constant→M8,Compare→Po,UnaryOp→Pq,BoolOp→Le,Name→JW,Call→LU
open PySem.NameKind renaming free→IU,cell→JP
open PySem.Txt renaming partition→Jg,replace→M9,split→Jf
open PySem.Value renaming builtin→K7,none→IG,bool→Jd,type→KS,ref→IB,str→JD,int→J3
open PySem.Value.ref renaming inj→Oe
open PySem.ExcName renaming means→Ou
open PySem.Sem renaming wp_mono→Mi,wp→Nx
open Prod.mk renaming inj→M0
open PySem.Shared renaming heap→PX
open PySem.Scope renaming names→P3
open PySem.Stmt renaming Assign→P4
open False renaming elim→JY
open True renaming intro→LI
open Char renaming toNat→Mb
open And renaming intro→Lv
open PySem.Env renaming scope→Mh
open PySem.BoolOp renaming Or→Nz
open PyProof.Rows.IsTup renaming new→Oi
open Eq renaming trans→M5
open PySem.Pos renaming line→Os
open Ne renaming symm→Kv
open Iff renaming rfl→MG
open Sum renaming inl→N5,inr→N6
open Prod renaming mk→O6
open Or renaming inl→Ph
set_option Elab.async false
set_option linter.all false
set_option maxRecDepth 100000
set_option maxHeartbeats 8000000
noncomputable section
abbrev nDb (x:Ko):Prop:=(x == Ju "__debug__")=false
theorem qr_ (h:True:=by first | exact .inl rfl | exact .inr rfl | assumption):True:=trivial
def r_:=qr_._auto_1
theorem qs_ (h:True:=by decide):True:=trivial
def s_:=qs_._auto_1
theorem qt_ (h:True:=by intro _;rfl):True:=trivial
def t_:=qt_._auto_1
theorem qu_ (h:True:=by rfl):True:=trivial
def u_:=qu_._auto_1
theorem qv_ (h:True:=by first | exact Ph rfl | exact Or.inr (Ph rfl) | exact Or.inr (Or.inr rfl)):True:=trivial
def v_:=qv_._auto_1
theorem qw_ (h:True:=by with_unfolding_all rfl):True:=trivial
def w_:=qw_._auto_1
theorem qx_ (h:True:=by intro _ _;rfl):True:=trivial
def x_:=qx_._auto_1
theorem qy_ (h:True:=by first | exact Ph rfl | exact Or.inr rfl):True:=trivial
def y_:=qy_._auto_1
theorem qz_ (h:True:=by decide+kernel):True:=trivial
def z_:=qz_._auto_1
theorem qa_ (h:True:=by exact fsc):True:=trivial
def a_:=qa_._auto_1
theorem qb_ (h:True:=by intro x;cases x):True:=trivial
def b_:=qb_._auto_1
namespace L2
open PySem PySem.Spec PyProof.Rows
inductive V where
 | non | bl (b:Bool) | int (i:Int) | str (x:Str) | byt (b:Array UInt8) | flt (b:UInt64) | ref (a:Addr) | ty (n:String)
 deriving DecidableEq
def zP (s:Stmt)(j:Nat):Stmt:=match s with
 | .ClassDef _ _ _ body _ _ _ _ _ _ _=>body.getD j (.Pass ⟨0,0,0,0⟩)
 | _=> .Pass ⟨0,0,0,0⟩
def eX (s:Stmt):MY:=match s with
 | .FunctionDef _ a _ _ _ _ _ _ _ _=>a
 | _=> { posonlyargs:=[],args:=[],vararg:=none,kwonlyargs:=[],kw_defaults:=[],kwarg:=none,defaults:=[] }
def br (s:Stmt):List Stmt:=match s with
 | .FunctionDef _ _ b _ _ _ _ _ _ _=>b
 | _=> []
def ao (s:Stmt):K2:=match s with
 | .FunctionDef _ _ _ _ _ _ sc _ _ _=>sc
 | _=> { kind:=.function,names:=[],isGenerator:=false,isCoroutine:=false }
end L2
namespace Tr
open PySem PySem.Spec PyProof.Rows L2
inductive T where
 | non | bl (b:Bool) | int (i:Int) | str (x:Str) | tup (l:List T) | lst (l:List T)
 /-- the law's script: a list of ints that is only read -/
 | scr (l:List Int)
 /-- a dict: its keys,its values -/
 | dct (ks vs:List T)
 /-- an instance: its class,the names of its attributes,what they are -/
 | ob (C:Str) (ns:List Str) (ts:List T)
inductive OT where
 | lst (l:List T) | dct (ks ts:List T) | dd (ks:List T) (rows:List (List T×List T))
 /-- an instance,its attributes own lists -/
 | ob (C:Str) (ns:List Str) (ls:List (List T))
 /-- a list of own lists -/
 | ll (ls:List (List T))
def OT.view:OT->T
 | .lst l=> .lst l
 | .dct ks ts=> .dct ks ts
 | .dd ks rows=> .dct ks (rows.map λr=> .dct r.1 r.2)
 | .ob C ns ls=> .ob C ns (ls.map T.lst)
 | .ll ls=> .lst (ls.map T.lst)
def T.ty:T->Option String
 | .non=>some "NoneType"
 | .bl _=>some "bool"
 | .int _=>some "int"
 | .str _=>some "str"
 | .tup _=>some "tuple"
 | .lst _=>some "list"
 | .scr _=>none
 | .dct _ _=>none
 | .ob _ _ _=>none
def calmNames:List Str:=["__init__","__getattribute__","__getattr__","__class__"]
def vL:HL->Bool
 | .str _ _=>true
 | _=>false
end Tr
namespace Tr
def fj:List Int->List Int->Bool
 | [],[] =>false
 | [],_::_=>true
 | _::_,[] =>false
 | a::l,b::m=>if a=b then fj l m else decide (a<b)
end Tr
namespace Tr
open PySem PySem.Spec PyProof.Rows L2 PySem.W
structure RK where
 V:Heap->HL->List Int->Prop
 inj:∀{h v a b},V h v a->V h v b->a=b
 on:∀{h h':Heap} {v a},V h v a->(∀b o,h.get? b=some o->h'.get? b=some o)->V h' v a
 b:Bool
 ty:String
 hb:(KS ty != KS "tuple")=b
 ht:(KS ty == KS ty)=true
 fst:∀{h v a},V h v a->∃ad o xs n f,v= .ref ad/\h.get? ad=some o/\o.cls= .type "tuple"/\o.data= .seq xs n/\xs[0]? =some f/\∀M,Looks M h (typeOf f) (.type ty)
 lt:∀{prog w A s E x y a c} {Q:Bool->HJ->Prop},A.units+60<cLine->V s.heap x a->V s.heap y c->Q (fj a c) s->wpAny (model prog w) A (keyLt' (tuples' b) x y) Q E s
variable (R:RK)
open Classical in
def RK.key (h:Heap)(v:HL):Option (List Int):=if e:∃ns,R.V h v ns then some e.choose else none
variable {R:RK}
end Tr
namespace Tr
open PySem PySem.Spec PyProof.Rows L2 PySem.W
def qg (h:Heap):Frag:=(Js h.objs.size).filterMap λa=>(h.get? a).map λo=>(a,o)
def obF (K:Frag)(n:Str):Option (Str×Str×MY×FuncBody×K2×Addr×List (Str×Addr)×HL×Addr×Bool×Bool):=match nsIn K IM n with
 | some (some (.ref f))=>match K.lookup f with
  | some ⟨_,_,.func d,_⟩=>some (d.name,d.qualname,d.params,d.body,d.scope,d.globals,d.closure,d.defaults,d.builtins,codeIn K d.code n,keepIn K (.ref f))
  | _=>none
 | _=>none
def exF (n:Str)(st:Stmt):Option (Str×Str×MY×FuncBody×K2×Addr×List (Str×Addr)×HL×Addr×Bool×Bool):=
 some (n,n,eX st,.stmts (br st),ao st,IM,[],.none,Mc,true,true)
def E9 (K:Frag)(N:Addr)(n:Str):Bool:=match nsIn K N n with | some none=>true | _=>false
def Gj (K:Frag)(n:Str):Option Int:=match nsIn K IM n with | some (some (.int i _))=>some i | _=>none
def rZ:List HL->Bool
 | [.type a,.type b,.type c,.type d] =>a == "ValueError" &&b == "Exception" &&c == "BaseException" &&d == "object"
 | _=>false
def under (D:Option Addr)(m:List HL):Bool:=match D with
 | none=>rZ m
 | some D=>match m with
  | .ref E::m=>E == D&&rZ m
  | _=>false
def zr (K:Frag)(D:Option Addr)(n:Str):Option Addr:=match nsIn K IM n with
 | some (some (.ref C))=>match K.lookup C with
  | some ⟨.type t,_,.cls c,⟨[_,_,_,_,some (.builtin b),_]⟩⟩=>match c.mro,K.lookup c.ns with
   | .ref E::m,some ⟨_,_,.dict es _,_⟩=>
    if (t == "type" &&b == "ValueError.__new__" && !c.hasDel&&(es.toList.all λe=>vL e.key)&&calmNames.all (E9 K c.ns)&&E == C&&under D m)=true then some C else none
   | _,_=>none
  | _=>none
 | _=>none
def rM {α:Type}:List (Option α)->Option (List α)
 | [] =>some []
 | none::_=>none
 | some a::r=>match rM r with | some l=>some (a::l) | none=>none
def ou:List Addr->Bool
 | [] =>true
 | a::r=>(r.all λb=> !(a == b))&&ou r
def Gi (K:Frag):List Str->Bool
 | [] =>true
 | m::es=>match zr K none m with
  | some D=>match rM (es.map (zr K (some D)))with | some l=>ou (l++ [D]) | none=>false
  | none=>false
structure uQ where
 tab:List (Str×Nat)
 zs:List Str
 cs:List (Str×Int)
 es:List Str
def oo (S:uQ)(K:Frag):=(S.tab.map (λp=>obF K p.1),S.zs.all (E9 K IM),S.cs.map (λc=>Gj K c.1),Gi K S.es)
def nN (S:uQ)(top:Nat->Stmt):=(S.tab.map (λp=>exF p.1 (top p.2)),true,S.cs.map (λc=>some c.2),true)
def obM (K:Frag)(C:Addr)(m q:Str):Option (Str×Str×MY×FuncBody×K2×Addr×List (Str×Addr)×HL×Addr×Bool×Bool×Bool):=match findIn K (.ref C) m with
 | some (some (.ref f))=>match K.lookup f with
  | some ⟨_,_,.func d,_⟩=>some (d.name,d.qualname,d.params,d.body,d.scope,d.globals,d.closure,d.defaults,d.builtins,codeIn K d.code q,keepIn K (.ref f),isFn K (.ref f))
  | _=>none
 | _=>none
def exM (m q:Str)(st:Stmt):Option (Str×Str×MY×FuncBody×K2×Addr×List (Str×Addr)×HL×Addr×Bool×Bool×Bool):=
 some (m,q,eX st,.stmts (br st),ao st,IM,[],.none,Mc,true,true,true)
def noAt (K:Frag)(C:Addr)(f:Str):Bool:=match findIn K (.ref C) f with | some none=>true | _=>false
def saOk (K:Frag)(C:Addr):Bool:=match findIn K (.ref C) "__setattr__" with | some (some (.builtin b))=>b == "object.__setattr__" | _=>false
def FY (K:Frag)(C:Addr)(as:List Str):Bool:=plainGet K C Str.empty&&hasDictIn K C&&plainOver K C&&saOk K C&&makesIn K C&&keepIn K (.ref C)&&as.all (noAt K C)
structure DD where
 c:Str
 i:Nat
 as:List Str
 ms:List (Str×Str×Nat)
def obK (K:Frag)(A:DD):=match nsIn K IM A.c with
 | some (some (.ref C))=>some (FY K C A.as,A.ms.map λ(m:Str×Str×Nat)=>obM K C m.1 m.2.1)
 | _=>none
def exK (top:Nat->Stmt)(A:DD):=some (true,A.ms.map λ(m:Str×Str×Nat)=>exM m.1 m.2.1 (zP (top A.i) m.2.2))
structure qE where
 a:uQ
 ks:List DD
def wL (S:qE)(K:Frag):=(oo S.a K,S.ks.map (obK K))
def vj (S:qE)(top:Nat->Stmt):=(nN S.a top,S.ks.map (exK top))
end Tr
namespace G
open PySem PySem.Spec PyProof.Rows L2 Tr
def top (i:Nat):Stmt:=Ih.main.body.getD i (.Pass ⟨0,0,0,0⟩)
def x5:uQ:=⟨([("_law_cell",41),("_law_drawn",42),("_law_events",45),("_law_letter",44),("_law_clock",43),("_law_record",46),("_law_times",47),("_law_text",50),("_law_spoilt",51),("is_long",15),("is_whole",13),("is_within",14),("is_pace",18),("rises",16),("are_readings",17)]:List (Str×Nat))++([("is_clock",19),("are_clocks",20),("is_event",21),("is_delay",22),("is_letter",23),("are_letters",24),("is_record",25),("need_record",26),("events",28),("are_times",31),("can_be_written",36),("need_event",27),("reading_of",29),("line_text",37),("times_text",38)]:List (Str×Nat))++([("number_of",33),("read_times",39),("_law_told",49),("law",52),("_law_refused",48)]:List (Str×Nat)),(["ValueError","all","bool","dict","enumerate","int","isinstance","len","list","range","str","tuple","zip"]:List Str),[("MOST_CLOCKS",4),("MOST_LETTERS",8),("MOST_READINGS",4),("LAST_READING",99),("SLOWEST",9),("LONGEST",999),("FARTHEST",999999999)],["ClockError","NoRecord","NoEvent","NoNumber","NoText"]⟩
def asks:qE:=⟨x5,[]⟩
def vw:Ip:=PySem.W.view Ih [52]
def lse:List Str:=(["ClockError","NoRecord","NoEvent","NoNumber","NoText","MOST_CLOCKS","MOST_LETTERS","MOST_READINGS","LAST_READING","SLOWEST","LONGEST","is_whole","is_within","is_long","rises","are_readings","is_pace","is_clock","are_clocks","is_event"]:List Str)++(["is_delay","is_letter","are_letters","is_record","need_record","need_event","events","reading_of","are_times","number_of","FARTHEST","can_be_written","line_text","times_text","read_times","_law_cell","_law_drawn","_law_clock","_law_letter","_law_events"]:List Str)++(["_law_record","_law_times","_law_refused","_law_told","_law_text","_law_spoilt"]:List Str)
def lhs (w:IV)(h:Heap)(d:Qa)(t:Nat)(os:Ly):=(Lm NH Ih w 9000 ⟨h,⟨[]⟩,d,t,os⟩).map (λs=>(Pw vw lse (NI Ih.main.body) (λ_=>true) true s,(wL asks (qg s.heap),Nat.ble 1 s.toks)))
def rhs (w:IV):=some (Px vw lse,(vj asks top,true))
end G
namespace G
open PySem Tr PySem.W PyProof.Rows
def lhA (w:IV)(h:Heap)(d:Qa)(t:Nat)(os:Ly):=(Lm NH Ih w 9000 ⟨h,⟨[]⟩,d,t,os⟩).map λs=>Pw vw lse (NI Ih.main.body) (λ_=>true) true s
def rhA (_:IV):=some (Px vw lse)
theorem lhA_r:lhA=lhA:=rfl
theorem rhA_r:rhA=rhA:=rfl
def lhB (w:IV)(h:Heap)(d:Qa)(t:Nat)(os:Ly):=(Lm NH Ih w 9000 ⟨h,⟨[]⟩,d,t,os⟩).map λs=>oo asks.a (qg s.heap)
def rhB (_:IV):=some (nN asks.a top)
theorem lhB_r:lhB=lhB:=rfl
theorem rhB_r:rhB=rhB:=rfl
def lhC (w:IV)(h:Heap)(d:Qa)(t:Nat)(os:Ly):=(Lm NH Ih w 9000 ⟨h,⟨[]⟩,d,t,os⟩).map λs=>asks.ks.map (obK (qg s.heap))
def rhC (_:IV):=some (asks.ks.map (exK top))
theorem lhC_r:lhC=lhC:=rfl
theorem rhC_r:rhC=rhC:=rfl
def lhD (w:IV)(h:Heap)(d:Qa)(t:Nat)(os:Ly):=(Lm NH Ih w 9000 ⟨h,⟨[]⟩,d,t,os⟩).map λs=>Nat.ble 1 s.toks
def rhD (_:IV):=some (true)
theorem lhD_r:lhD=lhD:=rfl
theorem rhD_r:rhD=rhD:=rfl
theorem join3 {α β γ δ:Type}{o:Option α}{f:α->β}{g:α->γ}{k:α->δ}{a:β}{b:γ}{c:δ}(h1:o.map f=some a)(h2:o.map g=some b)(h3:o.map k=some c):o.map (λs=>(f s,g s,k s))=some (a,b,c):=by
 cases o with
 | none=>cases h1
 | some s=>cases h1;cases h2;cases h3;rfl
theorem join4 {α β γ δ ε:Type}{o:Option α}{f:α->β}{g:α->γ}{k:α->δ}{m:α->ε}{a:β}{b:γ}{c:δ}{d:ε}(h1:o.map f=some a)(h2:o.map g=some b)(h3:o.map k=some c)(h4:o.map m=some d):o.map (λs=>(f s,((g s,k s),m s)))=some (a,((b,c),d)):=by
 cases o with
 | none=>cases h1
 | some s=>cases h1;cases h2;cases h3;cases h4;rfl
end G
lay_quick G.lhA G.rhA G.lhB G.rhB G.lhC G.rhC G.lhD
name_quick lhAz for G.lhA by G.lhA_r
name_quick rhAz for G.rhA by G.rhA_r
name_quick lhBz for G.lhB by G.lhB_r
name_quick rhBz for G.rhB by G.rhB_r
name_quick lhCz for G.lhC by G.lhC_r
name_quick rhCz for G.rhC by G.rhC_r
name_quick lhDz for G.lhD by G.lhD_r
section
open PySem PySem.W PyProof.Rows
set_option maxRecDepth 100000 in
theorem G.Hm (w:IV)(os:Ly):PySem.W.Fast.lhAz w (boot_heap w.params) boot_drawn boot_toks os=PySem.W.Fast.rhAz w:=by kernel_rfl
set_option maxRecDepth 100000 in
theorem G.Hs (w:IV)(os:Ly):PySem.W.Fast.lhBz w (boot_heap w.params) boot_drawn boot_toks os=PySem.W.Fast.rhBz w:=by kernel_rfl
set_option maxRecDepth 100000 in
theorem G.Ht (w:IV)(os:Ly):PySem.W.Fast.lhCz w (boot_heap w.params) boot_drawn boot_toks os=PySem.W.Fast.rhCz w:=by kernel_rfl
set_option maxRecDepth 100000 in
theorem G.Hi (w:IV)(os:Ly):PySem.W.Fast.lhDz w (boot_heap w.params) boot_drawn boot_toks os=G.rhD w:=by kernel_rfl
theorem G.Hr (w:IV)(os:Ly):G.lhs w (boot_heap w.params) boot_drawn boot_toks os=G.rhs w:=G.join4 (((congrFun (congrFun (congrFun (congrFun (congrFun PySem.W.Fast.lhAz_eq w) _) _) _) os).trans (G.Hm w os)).trans (congrFun PySem.W.Fast.rhAz_eq w).symm) (((congrFun (congrFun (congrFun (congrFun (congrFun PySem.W.Fast.lhBz_eq w) _) _) _) os).trans (G.Hs w os)).trans (congrFun PySem.W.Fast.rhBz_eq w).symm) (((congrFun (congrFun (congrFun (congrFun (congrFun PySem.W.Fast.lhCz_eq w) _) _) _) os).trans (G.Ht w os)).trans (congrFun PySem.W.Fast.rhCz_eq w).symm) ((congrFun (congrFun (congrFun (congrFun (congrFun PySem.W.Fast.lhDz_eq w) _) _) _) os).trans (G.Hi w os))
end
namespace L2
open PySem PySem.Spec PyProof.Rows
abbrev Key:=Sum Int Str
def nc:Key->HL->Bool
 | .inl k,v=>Value.isInt k v
 | .inr x,v=>Value.isStrOf x v
def keyH (w:IV):Key->Int
 | .inl k=>hashInt k
 | .inr x=>hashStr w x
theorem bS:∀{k:Key} {v:HL},nc k v=true->(∃i t,k=N5 i/\v=J3 i t)\/(∃x t,k=N6 x/\v=JD x t)
 | .inl i,v,h=>by
  obtain⟨t,e⟩:=Value.isInt_shape (k:=i) (v:=v) h
  exact .inl ⟨i,t,rfl,e⟩
 | .inr x,v,h=>by
  obtain⟨t,e⟩:=Value.isStrOf_shape (x:=x) (v:=v) h;exact .inr ⟨x,t,rfl,e⟩
theorem ur (i:Int)(t:Tok):nc (.inl i) (.int i t)=true:=by simp[nc,Value.isInt]
theorem uq (x:Str)(t:Tok):nc (.inr x) (.str x t)=true:=by simp[nc,Value.isStrOf]
theorem CN (a b:Int):decide ((N5 a:Key)=N5 b)=(a == b):=by
 by_cases e:a=b
 ·subst e;simp
 ·have h:¬ (N5 a:Key)=N5 b:=λq=>e (N5.inj q)
  rw[decide_eq_false h];exact(beq_eq_false_iff_ne.mpr e).symm
theorem CK (a b:Str):decide ((N6 a:Key)=N6 b)=decide (a=b):=by
 by_cases e:a=b
 ·subst e;simp
 ·have h:¬ (N6 a:Key)=N6 b:=λq=>e (N6.inj q)
  rw[decide_eq_false h,decide_eq_false e]
theorem CM (a:Int)(b:Str):decide ((N5 a:Key)=N6 b)=false:=decide_eq_false (λq=>nomatch q)
theorem CL (a:Str)(b:Int):decide ((N6 a:Key)=N5 b)=false:=decide_eq_false (λq=>nomatch q)
def du (prog:Ip)(w:IV):PySem.KeyKind prog w Key where
 is:=nc
 hash:=keyH w
 inj:=λv a b ha hb=>by
  rcases bS ha with⟨i,t,rfl,rfl⟩ | ⟨x,t,rfl,rfl⟩
  ·rcases bS hb with⟨j,u,rfl,e⟩ | ⟨y,u,rfl,e⟩
   ·injection e with e1 _;rw[e1]
   ·exact nomatch e
  ·rcases bS hb with⟨j,u,rfl,e⟩ | ⟨y,u,rfl,e⟩
   ·exact nomatch e
   ·injection e with e1 _;rw[e1]
 byValue:=λk v h=>by
  rcases bS h with⟨i,t,rfl,rfl⟩ | ⟨x,t,rfl,rfl⟩ <;> rfl
 pyHash:=λhv h=>by
  rcases bS hv with⟨i,t,rfl,rfl⟩ | ⟨x,t,rfl,rfl⟩
  ·exact wpAny_pyHash_int h
  ·exact wpAny_pyHash_str h
 eqBool:=λhu hv h=>by
  rcases bS hu with⟨i,t,rfl,rfl⟩ | ⟨x,t,rfl,rfl⟩
  ·rcases bS hv with⟨j,u,rfl,rfl⟩ | ⟨y,u,rfl,rfl⟩
   ·rw[CN]at h;exact wpAny_eqBool_int h
   ·rw[CM]at h;exact SeqAt.EqAt.int_str i t y u _ _ _ _ h
  ·rcases bS hv with⟨j,u,rfl,rfl⟩ | ⟨y,u,rfl,rfl⟩
   ·rw[CL]at h;exact SeqAt.EqAt.str_int x t j u _ _ _ _ h
   ·rw[CK]at h;exact wpAny_eqBool_str h
 «strs»:=λk x t v h=>by
  rcases bS h with⟨i,u,rfl,e⟩ | ⟨y,u,rfl,e⟩
  ·exact nomatch e
  ·injection e with e1 _
   subst e1;cases v <;> rfl
theorem p9 (prog:Ip)(w:IV)(i:Int)(t:Tok):(du prog w).is (.inl i) (.int i t)=true:=ur i t
theorem p8 (prog:Ip)(w:IV)(x:Str)(t:Tok):(du prog w).is (.inr x) (.str x t)=true:=uq x t
def RelV:V->HL->Prop
 | .non,u=>u=IG
 | .bl b,u=>u=Jd b
 | .int i,u=> ∃t,u=J3 i t
 | .str x,u=> ∃t,u=JD x t
 | .byt b,u=> ∃t,u=Value.bytes b t
 | .flt b,u=> ∃t,u=Value.float b t
 | .ref a,u=>u=IB a
 | .ty n,u=>u=KS n
abbrev Vals:List V->List HL->Prop:=Qb RelV
theorem Vals.length {xs:List V}{us:List HL}(r:Vals xs us):xs.length=us.length:=Paired.length r
theorem Vals.get:∀{xs:List V} {us:List HL} {i:Nat} {x:V},Vals xs us->xs[i]? =some x->∃u,us[i]? =some u/\RelV x u
 | _,_,_,_,.nil,e=>by simp at e
 | _,_,0,_,.cons r _,e=>by simp at e;subst e;exact⟨_,rfl,r⟩
 | _,_,i+1,x,.cons _ t,e=>by
  obtain⟨u,h1,h2⟩:=Vals.get (i:=i) (x:=x) t (by simpa using e)
  exact⟨u,by simpa using h1,h2⟩
theorem Vals.append:∀{xs ys:List V} {us ws:List HL},Vals xs us->Vals ys ws->Vals (xs++ys) (us++ws)
 | _,_,_,_,.nil,s=>s
 | _,_,_,_,.cons r t,s=> .cons r (Vals.append t s)
theorem Vals.take:∀{xs:List V} {us:List HL} (n:Nat),Vals xs us->Vals (xs.take n) (us.take n)
 | _,_,0,_=> .nil
 | _,_,_+1,.nil=> .nil
 | _,_,n+1,.cons r t=> .cons r (Vals.take n t)
theorem Vals.drop:∀{xs:List V} {us:List HL} (n:Nat),Vals xs us->Vals (xs.drop n) (us.drop n)
 | _,_,0,r=>r
 | _,_,_+1,.nil=> .nil
 | _,_,n+1,.cons _ t=>Vals.drop n t
def RelO:Option V->Option HL->Prop
 | some v,some u=>RelV v u
 | none,none=>True
 | _,_=>False
def KV {κ:Type}:List (κ×V)->List (κ×HL)->Prop:=Qb λ(p:κ×V) (q:κ×HL)=>p.1=q.1/\RelV p.2 q.2
def kV:Key->V
 | .inl i=> .int i
 | .inr x=> .str x
inductive HO where
 /-- a list -/
 | lst (xs:List V)
 /-- a tuple (never changes) -/
 | tup (xs:List V)
 /-- a dict whose keys are ints and texts;one whose keys are tuples of ints and texts (the empty one is both) -/
 | dK (kvs:List (Key×V)) | dT (kvs:List (List Key×V))
 /-- a set of ints: its members,its size -/
 | set (S:Int->Bool) (n:Nat)
 /-- an instance of the class at C,its dict at dx,its attributes -/
 | ins (C dx:Addr) (fs:List (Str×V))
 /-- the dict of the instance at x -/
 | own (x:Addr)
 /-- the dict of an exception -/
 | xd (fs:List (Str×V))
 /-- a bound method,f of x -/
 | met (f x:Addr)
 /-- a range object lo,lo+1,.. below hi -/
 | rng (lo hi:Int)
 /-- a thing that is known to the object (the script;a dict while a loop walks it): read,never written while it is so -/
 | frz (o:Obj) (u:HO)
 /-- a code object's table -/
 | tbl (ps:Array HL)
 /-- any other thing,by what is true of its one object (a def of one's own: SetO a S n:=HO.ext λh=> ..) -/
 | ext (φ:Heap->Prop)
abbrev Hp:=Addr->Option HO
def cz (H:Hp)(a:Addr)(o:HO):Hp:=λb=>if b=a then some o else H b
theorem aU {H:Hp}{a:Addr}{o:HO}:cz H a o a=some o:=by unfold cz;rw[if_pos rfl]
theorem aO {H:Hp}{a b:Addr}{o:HO}(h:b≠a):cz H a o b=H b:=by unfold cz;rw[if_neg h]
theorem kE {H:Hp}{a:Addr}{o u:HO}:cz (cz H a o) a u=cz H a u:=by
 funext b;unfold cz;split <;> rfl
theorem A1 {H:Hp}{a b:Addr}{o u:HO}(h:H a=some o)(h':H b=some u)(d:o≠u):a≠b:=by
 intro e;subst e;rw[h]at h';exact d (IT h')
theorem bP {H:Hp}{a b:Addr}{o:HO}(h:H a=some o)(h':H b=none):a≠b:=by
 intro e;subst e;rw[h]at h';cases h'
section
variable (P:Ip)(w:IV)
def ObjOk (H:Hp)(h:Heap)(a:Addr):HO->Prop
 | .lst xs=>xs.length<=sizeLine/\∃(its:List HL) (n:Nat),Vals xs its/\h.get? a=some { cls:=.type "list",data:=.seq its.toArray n }
 | .tup xs=>xs.length<=sizeLine/\∃its:List HL,Vals xs its/\Qc h a its.toArray
 | .dK kvs=>kvs.length<=sizeLine/\(a == LK)=false/\∃vs,KV kvs vs/\h.DictOf (du P w) a vs
 | .dT kvs=>kvs.length<=sizeLine/\(a == LK)=false/\∃xs:List (List Key×Addr×HL),
   Qb (λ(p:List Key×V) (q:List Key×Addr×HL)=>p.1=q.1/\H q.2.1=some (.tup (p.1.map kV))/\RelV p.2 q.2.2) kvs xs ∧
   ∃o es ep,h.get? a=some o/\o.ExactDict/\o.data= .dict es ep/\es.toList=xs.map (entryOfKey (NJ (du P w)))/\(xs.map (·.1)).Nodup
 | .set S n=>h.SetOf (intKind P w) a S n
 | .ins C dx fs=>H dx=some (.own a)/\fs.length<=1000/\dx≠a/\h.get? a=some (Nr C dx) ∧
   ∃mA,h.Ns1 dx mA/\(∀f,RelO (fs.lookup f) (mA f))/\PySem.Within mA (fs.map (·.1))
 | .own _=> ∃o,h.get? a=some o
 | .xd fs=> ∃mA,h.Ns1 a mA/\∀f,RelO (fs.lookup f) (mA f)
 | .rng lo hi=> ∃t u v,h.get? a=some { cls:=.type "range",data:=.fields #[.int lo t,.int hi u,.int 1 v] }
 | .frz o u=>h.get? a=some o/\ObjOk H h a u
 | .tbl ps=>h.get? a=some { cls:=.none,data:=.fields ps }
 | .met f x=>h.get? a=some (MP (.ref f) (.ref x))
 | .ext φ=>φ h/\(∃o,h.get? a=some o)/\∀h1 h2:Heap,φ h1->(∀o,h1.get? a=some o->h2.get? a=some o)->φ h2
def HOk (H:Hp)(h:Heap):Prop:=∀a o,H a=some o->ObjOk P w H h a o
end
section
variable {P:Ip}{w:IV}{H H':Hp}{h h':Heap}{a:Addr}{o:HO}
theorem ObjOk.lt (x:ObjOk P w H h a o):a<h.objs.size:=by
 cases o with
 | lst xs=>obtain⟨_,_,_,_,e⟩:=x;exact Ib e
 | tup xs=>obtain⟨_,_,_,p⟩:=x;exact p.lt
 | dK kvs=>obtain⟨_,_,_,_,o,_,_,e,_⟩:=x;exact Ib e
 | dT kvs=>obtain⟨_,_,_,_,o,_,_,e,_⟩:=x;exact Ib e
 | set S n=>obtain⟨o,_,_,_,e,_⟩:=x;exact Ib e
 | ins C dx fs=>obtain⟨_,_,_,e,_⟩:=x;exact Ib e
 | own y=>obtain⟨_,e⟩:=x;exact Ib e
 | xd fs=>obtain⟨_,⟨_,_,_,e,_⟩,_⟩:=x;exact Ib e
 | rng lo hi=>obtain⟨_,_,_,e⟩:=x;exact Ib e
 | frz ob u=>obtain⟨e,_⟩:=x;exact Ib e
 | tbl ps=>exact Ib (show h.get? a=some _ from x)
 | met f y=>exact Ib (show h.get? a=some _ from x)
 | ext φ=>obtain⟨_,⟨_,e⟩,_⟩:=x;exact Ib e
theorem Paired.G9 {α β:Type}{F G:α->β->Prop}:∀{l₁:List α} {l₂:List β},Qb F l₁ l₂->(∀a b,F a b->G a b)->Qb G l₁ l₂
 | _,_,.nil,_=> .nil
 | _,_,.cons r t,f=> .cons (f _ _ r) (Paired.G9 t f)
theorem ObjOk.GD (x:ObjOk P w H h a o)(k:∀b u,(b=a\/H b=some (.own a))->h.get? b=some u->h'.get? b=some u)
  (ho:∀b,H b=some (.own a)->H' b=some (.own a)) (ht:∀b xs,H b=some (.tup xs)->H' b=some (.tup xs)):ObjOk P w H' h' a o:=by
 induction o with
 | lst xs=>obtain⟨z,its,n,r,e⟩:=x;exact⟨z,its,n,r,k _ _ (.inl rfl) e⟩
 | tup xs=>obtain⟨z,its,r,ob,e,c⟩:=x;exact⟨z,its,r,ob,k _ _ (.inl rfl) e,c⟩
 | dK kvs=>obtain⟨z,y,vs,r,ob,es,ep,e,c⟩:=x;exact⟨z,y,vs,r,ob,es,ep,k _ _ (.inl rfl) e,c⟩
 | dT kvs=>
  obtain⟨z,y,xs,r,ob,es,ep,e,c⟩:=x
  exact⟨z,y,xs,Paired.G9 r λp q z=>⟨z.1,ht _ _ z.2.1,z.2.2⟩,ob,es,ep,k _ _ (.inl rfl) e,c⟩
 | set S n=>obtain⟨ob,es,ep,t,e,c⟩:=x;exact⟨ob,es,ep,t,k _ _ (.inl rfl) e,c⟩
 | ins C dx fs=>
  obtain⟨d,z,ne,e,mA,⟨od,es,ep,e2,c⟩,r⟩:=x
  exact⟨ho _ d,z,ne,k _ _ (.inl rfl) e,mA,⟨od,es,ep,k _ _ (.inr d) e2,c⟩,r⟩
 | own y=>obtain⟨ob,e⟩:=x;exact⟨ob,k _ _ (.inl rfl) e⟩
 | xd fs=>obtain⟨mA,⟨od,es,ep,e,c⟩,r⟩:=x;exact⟨mA,⟨od,es,ep,k _ _ (.inl rfl) e,c⟩,r⟩
 | rng lo hi=>obtain⟨t,u,v,e⟩:=x;exact⟨t,u,v,k _ _ (.inl rfl) e⟩
 | frz ob u ih=>obtain⟨e,q⟩:=x;exact⟨k _ _ (.inl rfl) e,ih q⟩
 | tbl ps=>
  have e:h.get? a=some { cls:=.none,data:=.fields ps }:=x
  show h'.get? a=some { cls:=.none,data:=.fields ps }
  exact k a _ (.inl rfl) e
 | met f y=>
  have e:h.get? a=some (MP (.ref f) (.ref y)):=x
  show h'.get? a=some (MP (.ref f) (.ref y))
  exact k a _ (.inl rfl) e
 | ext φ=>obtain⟨p,⟨o,e⟩,st⟩:=x;exact⟨st _ _ p λo q=>k _ _ (.inl rfl) q,⟨o,k _ _ (.inl rfl) e⟩,st⟩
theorem HOk.lt (x:HOk P w H h)(e:H a=some o):a<h.objs.size:=(x a o e).lt
theorem HOk.fresh (x:HOk P w H h)(e:h.objs.size<=a):H a=none:=by
 cases q:H a with
 | none=>rfl
 | some u=>exact absurd (Ig (x.lt q) e) (Iz _)
theorem HOk.kept (x:HOk P w H h)(k:∀b u,h.get? b=some u->h'.get? b=some u):HOk P w H h':=λa o e=>
 (x a o e).GD (λb u _ q=>k b u q) (λ_ q=>q) λ_ _ q=>q
theorem HOk.laid (x:HOk P w H h)(k:∀b u,h.get? b=some u->h'.get? b=some u)(hp:h.objs.size<=a)(new:ObjOk P w (cz H a o) h' a o):HOk P w (cz H a o) h':=λb u e=>by
 have hn:=x.fresh hp
 by_cases hb:b=a
 ·subst hb;rw[aU]at e;cases e;exact new
 ·rw[aO hb]at e
  exact(x b u e).GD (λc v _ q=>k c v q) (λc q=>by rw[aO (bP q hn)];exact q) λc xs q=>by rw[aO (bP q hn)];exact q
end
def Rd (H:Hp)(a:Addr)(u:HO):Prop:=H a=some u\/∃o,H a=some (.frz o u)
theorem Rd.ok {P:Ip}{w:IV}{H:Hp}{h:Heap}{a:Addr}{u:HO}(r:Rd H a u)(x:HOk P w H h):ObjOk P w H h a u:=by
 rcases r with r | ⟨o,r⟩
 ·exact x a u r
 ·obtain⟨_,q⟩:=x a _ r
  exact q
def F6:Option HO->Prop
 | some (.lst _)=>True
 | some (.dK _)=>True
 | some (.dT _)=>True
 | some (.set _ _)=>True
 | some (.ins _ _ _)=>True
 | some (.ext _)=>True
 | _=>False
section
variable {P:Ip}{w:IV}{H:Hp}{h h':Heap}{x e:Addr}{o':HO}
theorem HOk.write (ok:HOk P w H h)(mu:F6 (H x))(he:e=x\/H e=some (.own x))(k:∀b u,b≠e->h.get? b=some u->h'.get? b=some u)(heo:∃u,h'.get? e=some u)
  (new:ObjOk P w (cz H x o') h' x o'):HOk P w (cz H x o') h':=λb u q=>by
 have nown:∀c y,H c=some (.own y)->c≠x:=λc y r z=>by subst z;rw[r]at mu;exact mu
 have ntup:∀c xs,H c=some (.tup xs)->c≠x:=λc xs r z=>by subst z;rw[r]at mu;exact mu
 by_cases hb:b=x
 ·subst hb;rw[aU]at q;cases q;exact new
 ·rw[aO hb]at q
  by_cases hbe:b=e
  ·have q':H b=some (.own x):=by
    rcases he with z | z
    ·exact absurd (hbe.trans z) hb
    ·rw[hbe];exact z
   rw[q]at q';cases q';obtain⟨v,hv⟩:=heo;exact⟨v,by rw[hbe];exact hv⟩
  ·refine(ok b u q).GD (λc v hc r=>k c v ?_ r) (λc r=>by rw[aO (nown c b r)];exact r) λc xs r=>by rw[aO (ntup c xs r)];exact r
   rcases hc with rfl | hc
   ·exact hbe
   ·rintro rfl
    rcases he with z | z
    ·exact nown c b hc z
    ·rw[hc]at z;cases z;exact hb rfl
end
structure Un (fs ex:List Addr)(H H':Hp)(h h':Heap):Prop where
 keep:∀b o,h.get? b=some o->H b=none->b∉fs->b∉ex->h'.get? b=some o
 slot:∀b o,h.get? b=some o->H b=none->b∈fs->b∉ex->∃sl,h'.get? b=some { o with slots:=sl }
 free:∀b o,h.get? b=some o->H b=none->b∉ex->H' b=none
 there:∀b o,h.get? b=some o->b∉ex->∃o',h'.get? b=some o'
 tups:∀b xs,H b=some (.tup xs)->H' b=some (.tup xs)
 frzs:∀b o u,H b=some (.frz o u)->H' b=some (.frz o u)
 tbls:∀b ps,H b=some (.tbl ps)->∃more,H' b=some (.tbl (ps++more))
section
variable {fs fs' ex ex':List Addr}{H H1 H2:Hp}{h h1 h2 h':Heap}{a x e:Addr}{o:HO}
theorem Un.any (u:Un fs ex H H1 h h1){b:Addr}{ob:Obj}(q:h.get? b=some ob)(n:H b=none)(hx:b∉ex):∃sl,h1.get? b=some { ob with slots:=sl }:=by
 by_cases hb:b∈fs
 ·exact u.slot b ob q n hb hx
 ·exact⟨ob.slots,u.keep b ob q n hb hx⟩
theorem Un.kept (k:∀b u,h.get? b=some u->h'.get? b=some u):Un fs ex H H h h':=
 ⟨λb ob q _ _ _=>k b ob q,λb ob q _ _ _=>⟨ob.slots,k b ob q⟩,λ_ _ _ n _=>n,λb ob q _=>⟨ob,k b ob q⟩,λ_ _ q=>q,λ_ _ _ q=>q,λ_ ps q=>⟨#[],by rw[q];simp⟩⟩
theorem Un.refl:Un fs ex H H h h:=Un.kept λ_ _ q=>q
theorem Un.laid (k:∀b u,h.get? b=some u->h'.get? b=some u)(hp:h.objs.size<=a)(hn:H a=none):Un fs ex H (cz H a o) h h' where
 keep:=λb u q _ _ _=>k b u q
 slot:=λb u q _ _ _=>⟨u.slots,k b u q⟩
 free:=λb u q n _=>by rw[aO (Jx (Ig (Ib q) hp))];exact n
 there:=λb u q _=>⟨u,k b u q⟩
 tups:=λb xs q=>by rw[aO (bP q hn)];exact q
 frzs:=λb u xs q=>by rw[aO (bP q hn)];exact q
 tbls:=λb ps q=>⟨#[],by rw[aO (bP q hn),q];simp⟩
theorem Un.write (mu:F6 (H x))(he:e=x\/H e=some (.own x))(k:∀b u,b≠e->h.get? b=some u->h'.get? b=some u)(heo:∃u,h'.get? e=some u):Un fs ex H (cz H x o) h h':=by
 have hx:∀b,H b=none->b≠x:=λb n z=>by subst z;rw[n]at mu;exact mu
 have hb:∀b,H b=none->b≠e:=λb n z=>by
  subst z;rcases he with r | r
  ·exact hx b n r
  ·rw[n]at r;cases r
 have hm:∀b u,H b=some u->¬ F6 (some u)->b≠x:=λb u q nm z=>by subst z;rw[q]at mu;exact nm mu
 refine⟨λb u q n _ _=>k b u (hb b n) q,λb u q n _ _=>⟨u.slots,k b u (hb b n) q⟩,λb u q n _=>by rw[aO (hx b n)];exact n,λb u q _=> ?_,
  λb xs q=>by rw[aO (hm b _ q λz=>z)];exact q,λb u xs q=>by rw[aO (hm b _ q λz=>z)];exact q,λb ps q=>⟨#[],by rw[aO (hm b _ q λz=>z),q];simp⟩⟩
 by_cases hbe:b=e
 ·subst hbe;exact heo
 ·exact⟨u,k b u hbe q⟩
end
def trk (h:Heap)(H:Hp):List Addr:=(Js h.objs.size).filter λa=>(H a).isSome
def oH (h:Heap)(H:Hp):Heap:=Md h (trk h H)
theorem uA (h:Heap)(H:Hp):(oH h H).objs.size=h.objs.size:=PySem.W.hideAll_size _ _
theorem xt {h:Heap}{H:Hp}{b:Addr}{o:Obj}(e:h.get? b=some o)(n:H b=none):(oH h H).get? b=some o:=
 JX _ e λhm=>by
  have q:(H b).isSome=true:=(KA.mp hm).2;rw[n]at q;simp at q
theorem zq {h:Heap}{H:Hp}{b:Addr}{o:Obj}(e:(oH h H).get? b=some o):h.get? b=some o/\H b=none:=by
 have e':h.get? b=some o:=Ln (trk h H) e;refine⟨e',?_⟩
 cases q:H b with
 | none=>rfl
 | some x=>
  have hm:b∈trk h H:=KA.mpr ⟨JN.mpr (Ib e'),by simp[q]⟩
  have z:(oH h H).get? b=none:=K9 (trk h H) hm;rw[z]at e;cases e
def AA (g h:Heap)(L:Addr):List (Addr×Obj):=(Js h.objs.size).filterMap λa=>if a=L\/(g.get? a).isSome=true then none else(h.get? a).map λo=>(a,o)
def aY (g h:Heap)(L d:Addr):List (Addr×Obj):=(AA g h L).filter λp=>decide (p.1≠d)
structure Mod (K:HI)(mg:Str->Option HL)(base:Heap):Prop where
 kin:K.In base
 glob:base.Ns IM mg
 blt:∃mb,base.Ns Mc mb/\∀x:Str,x≠ "__name__"->mb x=IC x
 nolimit:base.NoLimit
structure Cx where
 prog:Ip
 w:IV
 K:HI
 mg:Str->Option HL
 base:Heap
 A:IE
 N:List Str
 s₀:HJ
 H₀:Hp
 env:Env
 outer:List Env
 stack:List Env
 ex:List Addr
 fn:Str->Bool
 calm:Bool
 pn:List (Addr×Obj)
 xe:HL->HJ->Prop
def iX (l:List Env):List Addr:=l.filterMap (·.frame)
abbrev Cx.fs (X:Cx):List Addr:=iX X.outer
def rO (sc:K2)(x:Str):Prop:=sc.names.lookup x=some .local\/sc.names.lookup x=some .cell\/sc.names.lookup x=some .free
def Loc (sc:K2)(x:Str):Prop:=sc.names.lookup x=some .local\/sc.names.lookup x=some .cell
def Look (env:Env)(h:Heap)(m:Str->Option HL)(x:Str)(u:HL):Prop:=
 (env.kindOf x=some .local/\m x=some u)\/((env.kindOf x=some .cell\/env.kindOf x=some .free)/\∃c,env.cells.lookup x=some c/\h.IsCell c (some u))
structure Cx.Ok (X:Cx):Prop where
 mod:Mod X.K X.mg X.base
 kind:X.env.scope.kind= .function
 glob:X.env.globals=IM
 blt:X.env.builtins=Mc
 above:X.s₀.heap.objs.size<=X.env.locals
 inj:∀x y c,X.env.cells.lookup x=some c->X.env.cells.lookup y=some c->x=y
 has:∀x,(X.env.kindOf x=some .cell\/X.env.kindOf x=some .free)->∃c,X.env.cells.lookup x=some c
 cab:∀x c,X.fn x=true->X.env.cells.lookup x=some c->X.s₀.heap.objs.size<=c
 hd:X.calm=true->X.A.handled=none
 frames:X.A.frames=some X.stack
 stk:X.stack=X.outer\/(X.stack=X.env::X.outer/\X.env.frame=some X.env.locals)
 exf:∀b∈X.ex,b≠X.env.locals/\∀x c,X.env.cells.lookup x=some c->c≠b
 bs:∀b o,X.base.get? b=some o->X.s₀.heap.get? b=some o/\X.H₀ b=none
 bsz:X.base.objs.size<=X.s₀.heap.objs.size
 noex:∀b o,X.base.get? b=some o->b∉X.ex
 exfs:∀b∈X.ex,b∉X.fs
 funs:X.s₀.heap.FunFrames X.base X.outer
 frf:∀b∈X.fs,X.H₀ b=none
structure Inv (X:Cx)(pins:List (Addr×Obj))(σ:List (Option V))(H:Hp)(s:HJ):Prop where
 ok:X.Ok
 os:s.os=X.s₀.os
 bare:NK s.gens
 base:Un X.fs X.ex X.H₀ H X.s₀.heap s.heap
 loc:∃m,s.heap.Ns X.env.locals m/\∀(i:Nat) (x:Str) (v:V),X.N[i]? =some x->σ[i]? =some (some v)->rO X.env.scope x->∃u,RelV v u/\Look X.env s.heap m x u
 cell:∀x c,X.env.cells.lookup x=some c->∃v,s.heap.IsCell c v
 free:H X.env.locals=none
 freeC:∀x c,X.env.cells.lookup x=some c->H c=none
 pin:∀p∈X.pn++pins,s.heap.get? p.1=some p.2/\H p.1=none/\p.1≠X.env.locals/\p.1∉X.fs/\∀v,p.2.data≠ .cell v
 hok:HOk X.prog X.w H s.heap
 len:σ.length=X.N.length
section
variable {X:Cx}{pins:List (Addr×Obj)}{σ:List (Option V)}{H H':Hp}{s:HJ}{h':Heap}
theorem Cx.Ok.Hz (ok:X.Ok){b:Addr}{o:Obj}(e:X.base.get? b=some o):b∉X.fs:=λhb=>by
 have:=(ok.funs.mem hb).1;rw[e]at this;cases this
theorem Inv.bs (I:Inv X pins σ H s):∀b o,X.base.get? b=some o->s.heap.get? b=some o/\H b=none:=λb o e=>
 ⟨I.base.keep b o (I.ok.bs b o e).1 (I.ok.bs b o e).2 (I.ok.Hz e) (I.ok.noex b o e),I.base.free b o (I.ok.bs b o e).1 (I.ok.bs b o e).2 (I.ok.noex b o e)⟩
theorem Inv.bk (I:Inv X pins σ H s):∀b o,X.base.get? b=some o->s.heap.get? b=some o:=λb o e=>(I.bs b o e).1
theorem Inv.mod (I:Inv X pins σ H s):Mod X.K X.mg X.base:=I.ok.mod
theorem Inv.kIn (I:Inv X pins σ H s):X.K.In s.heap:=I.ok.mod.kin.keeps I.bk
theorem Inv.lt (I:Inv X pins σ H s):X.env.locals<s.heap.objs.size:=let ⟨_,hn,_⟩:=I.loc;hn.lt
theorem Inv.sz (I:Inv X pins σ H s):X.s₀.heap.objs.size<=s.heap.objs.size:=IA I.ok.above (Li I.lt)
theorem Inv.HC (I:Inv X pins σ H s){a:Addr}(h:s.heap.objs.size<=a):a∉X.fs:=λhb=>by
 obtain⟨_,o,ho,_⟩:=I.ok.funs.mem hb;exact absurd (Ig (Ib ho) (IA I.sz h)) (Iz _)
theorem Inv.cne (I:Inv X pins σ H s):∀x c,X.env.cells.lookup x=some c->c≠X.env.locals:=λx c e z=>by
 obtain⟨v,o,ho,hd⟩:=I.cell x c e;obtain⟨m,⟨o',es,ep,ho',hd',_⟩,_⟩:=I.loc;rw[z,ho']at ho;cases ho;rw[hd']at hd;cases hd
theorem Inv.funs (I:Inv X pins σ H s):s.heap.FunFrames X.base X.outer:=by
 have all:∀(l:List Env),(∀b∈iX l,b∈X.fs)->X.s₀.heap.FunFrames X.base l->s.heap.FunFrames X.base l:=by
  intro l
  induction l with
  | nil=>intro _ _;trivial
  | cons env r ih=>
   intro hs hl;obtain⟨hk,⟨L,o,hf,hn,ho,hd⟩,hr⟩:=hl
   have hL:L∈X.fs:=hs L (by unfold iX;rw[Jo,hf];exact HU)
   obtain⟨sl,e⟩:=I.base.slot L o ho (I.ok.frf L hL) hL λz=>I.ok.exfs L z hL
   exact⟨hk,⟨L,_,hf,hn,e,hd⟩,ih (λb hb=>hs b (by unfold iX;rw[Jo,hf];exact HQ _ hb)) hr⟩
 exact all X.outer (λ_ hb=>hb) I.ok.funs
theorem Inv.stack (I:Inv X pins σ H s):s.heap.FunFrames X.base X.stack:=by
 rcases I.ok.stk with e | ⟨e,hf⟩
 ·rw[e];exact I.funs
 ·rw[e]
  obtain⟨m,hn,_⟩:=I.loc;refine .cons (by rw[I.ok.kind];decide) hf hn ?_ I.funs
  exact Heap.get?_none_of_le (IA I.ok.bsz I.ok.above)
theorem Inv.GK (I:Inv X pins σ H s):∀b∈iX X.stack,b∈X.env.locals::X.fs:=λb hb=>by
 rcases I.ok.stk with e | ⟨e,hf⟩
 ·rw[e]at hb;exact HQ _ hb
 ·rw[e]at hb
  unfold iX at hb;rw[Jo,hf]at hb;exact hb
theorem Inv.Gy (I:Inv X pins σ H s):∀b∈iX X.stack,H b=none:=λb hb=>by
 rcases HZ.mp (I.GK b hb)with e | hb
 ·rw[e];exact I.free
 ·obtain⟨_,o,ho,_⟩:=I.ok.funs.mem hb
  exact I.base.free b o ho (I.ok.frf b hb) λz=>I.ok.exfs b z hb
theorem Inv.step {g':Array OA}{t':Nat}{d':Qa}{ch:List Addr}(I:Inv X pins σ H s)
  (hch:∀b∈ch,(b∈X.ex\/X.s₀.heap.objs.size<=b)/\b≠X.env.locals/\(∀x c,X.env.cells.lookup x=some c->c≠b)/\∀p∈X.pn++pins,p.1≠b)
  (keep:∀b o,b≠X.env.locals->b∉X.fs->b∉ch->s.heap.get? b=some o->H b=none->h'.get? b=some o)
  (slot:∀b o,b≠X.env.locals->b∈X.fs->b∉ch->s.heap.get? b=some o->H b=none->∃sl,h'.get? b=some { o with slots:=sl }) (free:∀b o,b∉ch->s.heap.get? b=some o->H b=none->H' b=none)
  (there:∀b o,b∉ch->s.heap.get? b=some o->∃o',h'.get? b=some o')
  (tups:∀b xs,H b=some (.tup xs)->H' b=some (.tup xs)) (frzs:∀b o u,H b=some (.frz o u)->H' b=some (.frz o u)) (tbls:∀b ps,H b=some (.tbl ps)->∃more,H' b=some (.tbl (ps++more)))
  (ns:∀m,s.heap.Ns X.env.locals m->h'.Ns X.env.locals m) (hok:HOk X.prog X.w H' h') (hg:NK g') :
  Inv X pins σ H' { s with heap:=h',gens:=g',drawn:=d',toks:=t' }:=by
 have neL:∀b o,X.s₀.heap.get? b=some o->b≠X.env.locals:=λb o e=>Jx (Ig (Ib e) I.ok.above)
 have neC:∀b o,X.s₀.heap.get? b=some o->b∉X.ex->b∉ch:=λb o e hx hb=>by
  rcases(hch b hb).1 with z | z
  ·exact hx z
  ·exact absurd (Ig (Ib e) z) (Iz _)
 have cellK:∀x c,X.env.cells.lookup x=some c->∀v,s.heap.IsCell c v->h'.IsCell c v:=λx c e v hh_=>by
  obtain⟨o,ho,hd⟩:=hh_
  have nch:c∉ch:=λz=>(hch c z).2.2.1 x c e rfl
  by_cases hc:c∈X.fs
  ·obtain⟨sl,q⟩:=slot c o (I.cne x c e) hc nch ho (I.freeC x c e)
   exact⟨_,q,hd⟩
  ·exact⟨o,keep c o (I.cne x c e) hc nch ho (I.freeC x c e),hd⟩
 refine⟨I.ok,I.os,hg,⟨λb o e n hb hx=> ?_,λb o e n hb hx=> ?_,λb o e n hx=> ?_,λb o e hx=> ?_,λb xs e=>tups b xs (I.base.tups b xs e),λb o xs e=>frzs b o xs (I.base.frzs b o xs e),λb ps e=> ?_⟩,?_,λx c e=> ?_,?_,λx c e=> ?_,λp hp=> ?_,hok,I.len⟩
 ·exact keep b o (neL b o e) hb (neC b o e hx) (I.base.keep b o e n hb hx) (I.base.free b o e n hx)
 ·obtain⟨sl,e1⟩:=I.base.slot b o e n hb hx
  obtain⟨sl',e2⟩:=slot b _ (neL b o e) hb (neC b o e hx) e1 (I.base.free b o e n hx);exact⟨sl',e2⟩
 ·obtain⟨o',e1⟩:=I.base.there b o e hx
  exact free b o' (neC b o e hx) e1 (I.base.free b o e n hx)
 ·obtain⟨o',e1⟩:=I.base.there b o e hx
  exact there b o' (neC b o e hx) e1
 ·obtain⟨m1,e1⟩:=I.base.tbls b ps e
  obtain⟨m2,e2⟩:=tbls b _ e1;exact⟨m1++m2,by rw[e2,Array.append_assoc]⟩
 ·obtain⟨m,hn,hl⟩:=I.loc
  refine⟨m,ns m hn,λi x v e1 e2 e3=> ?_⟩
  obtain⟨u,r,l⟩:=hl i x v e1 e2 e3;refine⟨u,r,?_⟩
  rcases l with l | ⟨k,c,e,z⟩
  ·exact .inl l
  ·exact .inr ⟨k,c,e,cellK x c e _ z⟩
 ·obtain⟨v,z⟩:=I.cell x c e
  exact⟨v,cellK x c e v z⟩
 ·obtain⟨m,⟨o,_,_,ho,_⟩,_⟩:=I.loc
  exact free _ o (λz=>(hch _ z).2.1 rfl) ho I.free
 ·obtain⟨v,o,ho,hd⟩:=I.cell x c e
  exact free c o (λz=>(hch c z).2.2.1 x c e rfl) ho (I.freeC x c e)
 ·obtain⟨e,n,ne,nf,d⟩:=I.pin p hp
  have nch:p.1∉ch:=λz=>(hch p.1 z).2.2.2 p hp rfl
  exact⟨keep p.1 p.2 ne nf nch e n,free p.1 p.2 nch e n,ne,nf,d⟩
theorem Inv.un {t':Nat}(I:Inv X pins σ H s)(u:Un X.fs [] H H' s.heap h')(hok:HOk X.prog X.w H' h'):Inv X pins σ H' { s with heap:=h',toks:=t' }:=by
 obtain⟨m,⟨o,es,ep,ho,r⟩,_⟩:=id I.loc;obtain⟨sl,hL⟩:=u.any ho I.free (by simp)
 exact I.step (g':=s.gens) (d':=s.drawn) (ch:=[]) (λ_ z=>nomatch z) (λb o _ hb _ e n=>u.keep b o e n hb (by simp)) (λb o _ hb _ e n=>u.slot b o e n hb (by simp)) (λb o _ e n=>u.free b o e n (by simp)) (λb o _ e=>u.there b o e (by simp)) u.tups u.frzs u.tbls (λm' hm=>by
  obtain⟨o',es',ep',ho',r'⟩:=hm;rw[ho]at ho';cases ho';exact⟨_,es',ep',hL,r'⟩) hok I.bare
theorem Inv.call {g':Array OA}{t':Nat}{d':Qa}{ch:List Addr}(I:Inv X pins σ H s)(u:Un (iX X.stack) ch H H' s.heap h')(hok:HOk X.prog X.w H' h')(hg:NK g')
  (hch:∀b∈ch,(b∈X.ex\/X.s₀.heap.objs.size<=b)/\b≠X.env.locals/\(∀x c,X.env.cells.lookup x=some c->c≠b)/\∀p∈X.pn++pins,p.1≠b) :
  Inv X pins σ H' { s with heap:=h',gens:=g',drawn:=d',toks:=t' }:=by
 obtain⟨m,⟨o,es,ep,ho,r⟩,_⟩:=id I.loc;obtain⟨sl,hL⟩:=u.any ho I.free λz=>(hch _ z).2.1 rfl
 exact I.step (ch:=ch) hch (λb o hL hb hc e n=>u.keep b o e n (λz=>(HZ.mp (I.GK b z)).elim hL hb) hc) (λb o _ _ hc e n=>u.any e n hc) (λb o hc e n=>u.free b o e n hc) (λb o hc e=>u.there b o e hc) u.tups u.frzs u.tbls (λm' hm=>by
  obtain⟨o',es',ep',ho',r'⟩:=hm;rw[ho]at ho';cases ho';exact⟨_,es',ep',hL,r'⟩) hok hg
theorem Inv.turned {t':Nat}{it:Addr}(I:Inv X pins σ H s)(k:∀b o,b≠it->s.heap.get? b=some o->h'.get? b=some o)(hn:H it=none)(hL:it≠X.env.locals)
  (h1:it∈X.ex\/X.s₀.heap.objs.size<=it) (h2:∀x c,X.env.cells.lookup x=some c->c≠it) (h3:∀p∈X.pn++pins,p.1≠it):Inv X pins σ H { s with heap:=h',toks:=t' }:=by
 have nit:∀b u,H b=some u->b≠it:=λb u e z=>by rw[z,hn]at e;cases e
 refine I.step (g':=s.gens) (d':=s.drawn) (ch:=[it]) (λb hb=> ?_) (λb o _ _ hc e _=>k b o (λz=>hc (by simp[z])) e) (λb o _ _ hc e _=>⟨o.slots,k b o (λz=>hc (by simp[z])) e⟩) (λ_ _ _ _ n=>n)
  (λb o hc e=>⟨o,k b o (λz=>hc (by simp[z])) e⟩) (λ_ _ e=>e) (λ_ _ _ e=>e) (λb ps e=>⟨#[],by rw[e];simp⟩) (λm hm=> ?_) (λb u e=> ?_) I.bare
 ·have e:b=it:=by simpa using hb
  subst e;exact⟨h1,hL,h2,h3⟩
 ·obtain⟨o,es,ep,ho,r⟩:=hm
  exact⟨o,es,ep,k _ o (Kv hL) ho,r⟩
 ·refine(I.hok b u e).GD (λc v hc q=>k c v ?_ q) (λ_ q=>q) λ_ _ q=>q
  rcases hc with z | z
  ·rw[z];exact nit b u e
  ·exact nit c _ z
theorem Inv.tok (I:Inv X pins σ H s)(t:Nat):Inv X pins σ H { s with toks:=t }:=I.un (h':=s.heap) (t':=t) Un.refl I.hok
theorem Inv.kept {t':Nat}(I:Inv X pins σ H s)(k:∀b u,s.heap.get? b=some u->h'.get? b=some u):Inv X pins σ H { s with heap:=h',toks:=t' }:=I.un (Un.kept k) (I.hok.kept k)
theorem Inv.laid {a:Addr}{o:HO}{t':Nat}(I:Inv X pins σ H s)(k:∀b u,s.heap.get? b=some u->h'.get? b=some u)(hp:s.heap.objs.size<=a)(new:ObjOk X.prog X.w (cz H a o) h' a o) :
  Inv X pins σ (cz H a o) { s with heap:=h',toks:=t' }:=I.un (Un.laid k hp (I.hok.fresh hp)) (I.hok.laid k hp new)
theorem Inv.write {x e:Addr}{o:HO}{t':Nat}(I:Inv X pins σ H s)(mu:F6 (H x))(he:e=x\/H e=some (.own x))(k:∀b u,b≠e->s.heap.get? b=some u->h'.get? b=some u)(heo:∃u,h'.get? e=some u)
  (new:ObjOk X.prog X.w (cz H x o) h' x o):Inv X pins σ (cz H x o) { s with heap:=h',toks:=t' }:=I.un (Un.write mu he k heo) (I.hok.write mu he k heo new)
theorem Inv.GU {pins':List (Addr×Obj)}(I:Inv X pins σ H s)(h:∀p∈pins',s.heap.get? p.1=some p.2/\H p.1=none/\p.1≠X.env.locals/\p.1∉X.fs/\∀v,p.2.data≠ .cell v):Inv X pins' σ H s:=
 ⟨I.ok,I.os,I.bare,I.base,I.loc,I.cell,I.free,I.freeC,λp hp=>(HV.mp hp).elim (λz=>I.pin p (Iw _ z)) (h p),I.hok,I.len⟩
theorem pX {N:List Str}(hN:N.Nodup){i j:Nat}{x:Str}(a:N[i]? =some x)(b:N[j]? =some x):i=j:=by
 obtain⟨h1,e1⟩:=Ii.mp a
 obtain⟨h2,e2⟩:=Ii.mp b
 exact(List.getElem_inj hN).mp (e1.trans e2.symm)
theorem mS {M:L7}{A:IE}{E:HL->HJ->Prop}{i:Nat}{x:Str}{v:V}{u:HL}{Q:Unit->HJ->Prop}(I:Inv X pins σ H s)(hN:X.N.Nodup)(hi:X.N[i]? =some x)(hx:Loc X.env.scope x)(r:RelV v u)
  (h:∀s',Inv X pins (σ.set i (some v)) H s'->(∃a,KJ a s.heap s'.heap/\(a=X.env.locals\/X.env.cells.lookup x=some a))->Q () s') (hf:autoParam (X.fn x=true\/X.env.scope.names.lookup x=some .local) r_):wpAny M A (storeName X.env x u) Q E s:=by
 obtain⟨m,hn,hl⟩:=id I.loc
 have hcls:(X.env.scope.kind == .class||(X.env.scope.kind == .module&&X.env.locals != X.env.globals))=false:=by rw[I.ok.kind];rfl
 have hiσ:i<σ.length:=by rw[I.len];exact(Ii.mp hi).1
 have cne:=I.cne
 have tracked:∀{a:Addr} {h':Heap},(∃o,s.heap.get? a=some o/\H a=none)->KJ a s.heap h'->HOk X.prog X.w H h':=λ{a h'} ha hs b ob e=>by
  obtain⟨_,_,hfree⟩:=ha;refine(I.hok b ob e).GD (λc w' hc q=>(hs.2 c ?_).trans q) (λ_ q=>q) λ_ _ q=>q
  rintro rfl
  rcases hc with rfl | hc
  ·rw[hfree]at e;cases e
  ·rw[hfree]at hc;cases hc
 rcases hx with hk | hk
 ·refine wpAny_storeName_local hk hn (λh' hn' hs=> ?_) hcls
  obtain⟨oL,_,_,hoL,_⟩:=id hn;refine h _ ⟨I.ok,I.os,I.bare,⟨λb o e n hb hx=> ?_,λb o e n hb hx=> ?_,I.base.free,λb o e hx=> ?_,I.base.tups,I.base.frzs,I.base.tbls⟩,⟨_,hn',λj y v' e1 e2 e3=> ?_⟩,λy c e=> ?_,I.free,I.freeC,λp hp=> ?_,tracked ⟨oL,hoL,I.free⟩ hs,by simpa using I.len⟩ ⟨_,hs,.inl rfl⟩
  ·exact(hs.2 b (Jx (Ig (Ib e) I.ok.above))).trans (I.base.keep b o e n hb hx)
  ·obtain⟨sl,e1⟩:=I.base.slot b o e n hb hx
   exact⟨sl,(hs.2 b (Jx (Ig (Ib e) I.ok.above))).trans e1⟩
  ·obtain⟨o',e1⟩:=I.base.there b o e hx
   exact⟨o',(hs.2 b (Jx (Ig (Ib e) I.ok.above))).trans e1⟩
  ·by_cases hj:j=i
   ·subst hj
    rw[hi]at e1;cases e1;rw[IJ hiσ]at e2
    cases e2;exact⟨u,r,.inl ⟨hk,by simp⟩⟩
   ·rw[IH (Kv hj)]at e2
    obtain⟨u',r',q⟩:=hl j y v' e1 e2 e3;refine⟨u',r',?_⟩
    rcases q with⟨k,e⟩ | ⟨k,c,e,z⟩
    ·refine .inl ⟨k,?_⟩
     have:y≠x:=λe=>hj (pX hN e1 (e▸hi))
     simp[this,e]
    ·exact .inr ⟨k,c,e,z.sameBut hs (cne y c e)⟩
  ·obtain⟨w',z⟩:=I.cell y c e
   exact⟨w',z.sameBut hs (cne y c e)⟩
  ·obtain⟨e,n,ne,nf,d⟩:=I.pin p hp
   exact⟨(hs.2 p.1 ne).trans e,n,ne,nf,d⟩
 ·have hfn:X.fn x=true:=by
   rcases hf with z | z
   ·exact z
   ·rw[z]at hk;cases hk
  obtain⟨c,hc⟩:=I.ok.has x (.inl hk);obtain⟨w',z⟩:=I.cell x c hc;refine wpAny_storeName_cell I.ok.kind hk hc z (λh' hc' hs=> ?_)
  obtain⟨oc,hoc,hocd⟩:=id z;refine h { s with heap:=h' } ⟨I.ok,I.os,I.bare,⟨λb o e n hb hx=> ?_,λb o e n hb hx=> ?_,I.base.free,λb o e hx=> ?_,I.base.tups,I.base.frzs,I.base.tbls⟩,⟨m,hn.sameBut hs (Kv (cne x c hc)),λj y v' e1 e2 e3=> ?_⟩,λy c' e=> ?_,I.free,I.freeC,λp hp=> ?_,tracked ⟨oc,hoc,I.freeC x c hc⟩ hs,by simpa using I.len⟩ ⟨c,hs,.inr hc⟩
  ·exact(hs.2 b (Jx (Ig (Ib e) (I.ok.cab x c hfn hc)))).trans (I.base.keep b o e n hb hx)
  ·obtain⟨sl,e1⟩:=I.base.slot b o e n hb hx
   exact⟨sl,(hs.2 b (Jx (Ig (Ib e) (I.ok.cab x c hfn hc)))).trans e1⟩
  ·obtain⟨o',e1⟩:=I.base.there b o e hx
   exact⟨o',(hs.2 b (Jx (Ig (Ib e) (I.ok.cab x c hfn hc)))).trans e1⟩
  ·by_cases hj:j=i
   ·subst hj
    rw[hi]at e1;cases e1;rw[IJ hiσ]at e2
    cases e2;exact⟨u,r,.inr ⟨.inl hk,c,hc,hc'⟩⟩
   ·rw[IH (Kv hj)]at e2
    obtain⟨u',r',q⟩:=hl j y v' e1 e2 e3;refine⟨u',r',?_⟩
    rcases q with q | ⟨k,c',e,z'⟩
    ·exact .inl q
    ·refine .inr ⟨k,c',e,z'.sameBut hs ?_⟩
     rintro rfl
     exact hj (pX hN e1 (I.ok.inj _ _ _ e hc▸hi))
  ·by_cases hcc:c'=c
   ·subst hcc;exact⟨_,hc'⟩
   ·obtain⟨w2,z2⟩:=I.cell y c' e
    exact⟨w2,z2.sameBut hs hcc⟩
  ·obtain⟨e,n,ne,nf,d⟩:=I.pin p hp
   refine⟨(hs.2 p.1 ?_).trans e,n,ne,nf,d⟩
   intro q;rw[q,hoc]at e
   have q':oc=p.2:=IT e;exact d w' (by rw[<-q'];exact hocd)
theorem kZ {M:L7}{A:IE}{E:HL->HJ->Prop}{i:Nat}{x:Str}{v:V}{u:HL}{Q:Unit->HJ->Prop}(I:Inv X pins σ H s)(hN:X.N.Nodup)(hi:X.N[i]? =some x)(hx:Loc X.env.scope x)(r:RelV v u)
  (h:∀s',Inv X pins (σ.set i (some v)) H s'->Q () s') (hf:autoParam (X.fn x=true\/X.env.scope.names.lookup x=some .local) r_):wpAny M A (storeName X.env x u) Q E s:=
 mS I hN hi hx r (λs' I' _=>h s' I') hf
theorem Inv.GT {s':HJ}{ch:List Addr}(I:Inv X pins σ H s)(ho:s'.os=s.os)(u:Un (iX X.stack) ch H H' s.heap s'.heap)(hok:HOk X.prog X.w H' s'.heap)(hg:NK s'.gens)
  (hch:∀b∈ch,(b∈X.ex\/X.s₀.heap.objs.size<=b)/\b≠X.env.locals/\(∀x c,X.env.cells.lookup x=some c->c≠b)/\∀p∈X.pn++pins,p.1≠b):Inv X pins σ H' s':=by
 obtain⟨h',g',d',t',o'⟩:=s'
 have e:o'=s.os:=ho;subst e;exact I.call (g':=g') (t':=t') (d':=d') u hok hg hch
end
abbrev XK:=HL->Option Addr->Hp->Prop
abbrev St:=List (Option V)
abbrev VK:=V->Hp->Prop
abbrev TE:=St->Hp->VK->Prop
abbrev TT:=St->Hp->(Bool->Hp->Prop)->Prop
abbrev TA:=St->Hp->(List V->Hp->Prop)->Prop
structure Ends where
 nx:St->Hp->Prop
 rt:VK
 bk:St->Hp->Prop:=λ_ _=>False
 ct:St->Hp->Prop:=λ_ _=>False
abbrev TS:=Ends->St->Hp->Prop
def EP (X:Cx)(pins:List (Addr×Obj))(σ:St)(Q:VK)(u:HL)(s':HJ):Prop:=∃v H',Inv X pins σ H' s'/\RelV v u/\Q v H'
def TP (X:Cx)(pins:List (Addr×Obj))(σ:St)(Q:Bool->Hp->Prop)(b:Bool)(s':HJ):Prop:=∃H',Inv X pins σ H' s'/\Q b H'
def AP (X:Cx)(pins:List (Addr×Obj))(σ:St)(Q:List V->Hp->Prop)(us:List HL)(s':HJ):Prop:=∃vs H',Inv X pins σ H' s'/\Vals vs us/\Q vs H'
def SP (X:Cx)(pins:List (Addr×Obj))(D:Ends)(f:Flow)(s':HJ):Prop:=
 match f with
 | .next=> ∃σ' H',Inv X pins σ' H' s'/\D.nx σ' H'
 | .brk=> ∃σ' H',Inv X pins σ' H' s'/\D.bk σ' H'
 | .cont=> ∃σ' H',Inv X pins σ' H' s'/\D.ct σ' H'
 | .ret u=> ∃v σ' H',Inv X pins σ' H' s'/\RelV v u/\D.rt v H'
def PE (X:Cx)(e:Expr)(t:TE):Prop:=
 ∀(pins:List (Addr×Obj)) (s:HJ) (σ:St) (H:Hp) (Q:VK),Inv X pins σ H s->t σ H Q->wpAny (model X.prog X.w) X.A (eval e X.env) (EP X pins σ Q) X.xe s
def PT (X:Cx)(e:Expr)(t:TT):Prop:=
 ∀(pins:List (Addr×Obj)) (s:HJ) (σ:St) (H:Hp) (Q:Bool->Hp->Prop),Inv X pins σ H s->t σ H Q->wpAny (model X.prog X.w) X.A (isTrue e X.env (eval e X.env)) (TP X pins σ Q) X.xe s
def PW (X:Cx)(e:Expr)(t:TT):Prop:=
 ∀(whole:Sem HL) (pins:List (Addr×Obj)) (s:HJ) (σ:St) (H:Hp) (Q:Bool->Hp->Prop),Inv X pins σ H s->t σ H Q->wpAny (model X.prog X.w) X.A (isTrue e X.env whole) (TP X pins σ Q) X.xe s
theorem PW.pt {X:Cx}{e:Expr}{t:TT}(h:PW X e t):PT X e t:=h _
def PA (X:Cx)(es:List Expr)(t:TA):Prop:=
 ∀(pos:Pos) (pins:List (Addr×Obj)) (s:HJ) (σ:St) (H:Hp) (Q:List V->Hp->Prop),Inv X pins σ H s->t σ H Q->wpAny (model X.prog X.w) X.A (spliced (backTo pos (Ik es X.env))) (AP X pins σ Q) X.xe s
def PS (X:Cx)(st:Stmt)(t:TS):Prop:=
 ∀(pins:List (Addr×Obj)) (s:HJ) (σ:St) (H:Hp) (D:Ends),Inv X pins σ H s->t D σ H->wpAny (model X.prog X.w) X.A (exec st X.env) (SP X pins D) X.xe s
def PSs (X:Cx)(st:List Stmt)(t:TS):Prop:=
 ∀(pins:List (Addr×Obj)) (s:HJ) (σ:St) (H:Hp) (D:Ends),Inv X pins σ H s->t D σ H->wpAny (model X.prog X.w) X.A (execs st X.env) (SP X pins D) X.xe s
theorem bF {α:Type}{t:Sem α}{Q Q':α->HJ->Prop}{M:L7}{A:IE}{E:HL->HJ->Prop}{s:HJ}(h:wpAny M A t Q E s)(hQ:∀a s,Q a s->Q' a s):wpAny M A t Q' E s:=IR h hQ λ_ _ x=>x
section
variable {X:Cx}
def vG (i:Nat):TE:=λσ H Q=> ∃v,σ[i]? =some (some v)/\Q v H
def tC (v:V):TE:=λ_ H Q=>Q v H
theorem jP {i:Nat}{x:Str}{pos:Pos}(hN:X.N[i]? =some x)(hv:rO X.env.scope x)(hd:autoParam ((x == ("__debug__" : Str))=false) s_)(hcd:autoParam ((x == ("__classdict__" : Str))=false) s_):PE X (.Name x pos) (vG i):=by
 intro pins s σ H Q I h;obtain⟨v,e,h⟩:=h;obtain⟨m,hn,hl⟩:=I.loc;obtain⟨u,r,l⟩:=hl i x v hN e hv
 have fin:EP X pins σ Q u s:=⟨v,H,I,r,h⟩;rcases l with⟨hk,hm⟩ | ⟨hk,c,hc,hcell⟩
 ·exact Pb (NU I.ok.kind hk hn hm fin) hd
 ·rcases hk with hk | hk
  ·exact Pb (wpAny_loadName_cell I.ok.kind hk hc hcell fin) hd
  ·exact Pb (wpAny_loadName_free I.ok.kind hk hc hcell fin hcd) hd
theorem wq {i j pos}:PE X (.Constant (.int i) j pos) (tC (.int i)):=λ_ _ _ H _ I h=>wpAny_Constant_int ⟨.int i,H,I.tok _,⟨_,rfl⟩,h⟩
theorem wy {b j pos}:PE X (.Constant (.bool b) j pos) (tC (.bl b)):=λ_ _ _ H _ I h=>Constant_bool ⟨.bl b,H,I,rfl,h⟩
theorem Cn {j pos}:PE X (.Constant .none j pos) (tC .non):=λ_ _ _ H _ I h=>Constant_none ⟨.non,H,I,rfl,h⟩
theorem wk {x j pos}:PE X (.Constant (.str x) j pos) (tC (.str x)):=λ_ _ _ H _ I h=>Of ⟨.str x,H,I.tok _,⟨_,rfl⟩,h⟩
def Gl (X:Cx)(x:Str):Prop:=X.env.kindOf x=some .globalImplicit
theorem gf {E:HL->HJ->Prop}{pins:List (Addr×Obj)}{s:HJ}{σ:St}{H:Hp}{x:Str}{u:HL}{pos:Pos}{Q:HL->HJ->Prop}(I:Inv X pins σ H s)(hg:Gl X x)(hm:X.mg x=some u)(h:Q u s)
  (hd:autoParam ((x == ("__debug__" : Str))=false) s_):wpAny (model X.prog X.w) X.A (eval (.Name x pos) X.env) Q E s:=
 Mr I.ok.kind hg (Calls.loadGlobal_global (by rw[I.ok.glob];exact I.mod.glob.keeps I.bk) hm h) hd
theorem dX {E:HL->HJ->Prop}{pins:List (Addr×Obj)}{s:HJ}{σ:St}{H:Hp}{x:Str}{u:HL}{pos:Pos}{Q:HL->HJ->Prop}(I:Inv X pins σ H s)(hg:Gl X x)(hm:X.mg x=none)(hv:IC x=some u)(h:Q u s)
  (hn:autoParam (x≠ "__name__") s_) (hd:autoParam ((x == ("__debug__" : Str))=false) s_):wpAny (model X.prog X.w) X.A (eval (.Name x pos) X.env) Q E s:=by
 obtain⟨mb,h1,h2⟩:=I.mod.blt;exact Mr I.ok.kind hg (Calls.loadGlobal_builtin (by rw[I.ok.glob];exact I.mod.glob.keeps I.bk) hm (by rw[I.ok.blt];exact h1.keeps I.bk) ((h2 x hn).trans hv) h) hd
theorem sr {x:Str}{v:V}{u:HL}{pos:Pos}(hg:Gl X x)(hm:X.mg x=some u)(r:RelV v u)(hd:autoParam ((x == ("__debug__" : Str))=false) s_):PE X (.Name x pos) (tC v):=
 λ_ _ _ H _ I h=>gf I hg hm ⟨v,H,I,r,h⟩ hd
theorem sy {x:Str}{v:V}{u:HL}{pos:Pos}(hg:Gl X x)(hm:X.mg x=none)(hv:IC x=some u)(r:RelV v u)(hn:autoParam (x≠ "__name__") s_)(hd:autoParam ((x == ("__debug__" : Str))=false) s_):PE X (.Name x pos) (tC v):=
 λ_ _ _ H _ I h=>dX I hg hm hv ⟨v,H,I,r,h⟩ hn hd
variable {a b:Expr}{ta tb:TE}{pos:Pos}
def tB (t:TE):TT:=λσ H Q=>t σ H λx H1=> ∃c,x= .bl c/\Q c H1
theorem v9 {e:Expr}{t:TE}(h:PE X e t)(he:autoParam (∀whole,isTrue e X.env whole=(do let v <-whole;standAt e.pos;holding [v] (truthy v))) t_):PT X e (tB t):=by
 intro pins s σ H Q I hw;refine isTrue_plain (bF (h pins s σ H _ I hw) λv s1 ⟨x,H1,I1,r1,q1⟩=> ?_) (he _)
 obtain⟨d,rfl,q⟩:=q1;cases r1;exact Jk ⟨H1,I1,q⟩
variable {tA tB':TT}{aY:List Expr}
def tOr (t u:TT):TT:=λσ H Q=>t σ H λc H1=>if c=true then Q true H1 else u σ H1 Q
def tNot (t:TT):TT:=λσ H Q=>t σ H λc H1=>Q (!c) H1
theorem v8 (ha:PT X a tA):PW X (.BoolOp .Or [a] pos) tA:=by
 intro wh pins s σ H Q I h;refine isTrue_or (bF (ha pins s σ H Q I h) λc s1 e=> ?_)
 cases c with
 | false=>exact isTrue_or_nil e
 | true=>exact e
theorem AX (ha:PT X a tA)(hb:PW X (.BoolOp .Or (b::aY) pos) tB'):PW X (.BoolOp .Or (a::b::aY) pos) (tOr tA tB'):=by
 intro wh pins s σ H Q I h;refine isTrue_or (bF (ha pins s σ H _ I h) λc s1 hh_=> ?_)
 obtain⟨H1,I1,q1⟩:=hh_
 cases c with
 | true=>exact⟨H1,I1,q1⟩
 | false=>exact hb wh pins s1 σ H1 Q I1 q1
theorem wa (ha:PT X a tA):PT X (.UnaryOp .Not a pos) (tNot tA):=by
 intro pins s σ H Q I h;exact isTrue_not (ha pins s σ H (λc H1=>Q (!c) H1) I h)
def Ef (ta tb:TE):TE:=λσ H Q=>ta σ H λx H1=> ∃c,x= .bl c/\if c=true then tb σ H1 Q else Q (.bl false) H1
def tOrV (ta tb:TE):TE:=λσ H Q=>ta σ H λx H1=> ∃c,x= .bl c/\if c=true then Q (.bl true) H1 else tb σ H1 Q
def D7 (ta:TE):TE:=λσ H Q=>ta σ H λx H1=> ∃c,x= .bl c/\Q (.bl (!c)) H1
theorem Ck {op}{t:TE}(h:PE X a t):PE X (.BoolOp op [a] pos) t:=λpins s σ H Q I hw=>BoolOp_one (h pins s σ H Q I hw)
theorem Cp (ha:PE X a ta)(hb:PE X (.BoolOp .And (b::aY) pos) tb):PE X (.BoolOp .And (a::b::aY) pos) (Ef ta tb):=by
 intro pins s σ H Q I h;refine BoolOp_and (bF (ha pins s σ H _ I h) λv s1 hh_=> ?_)
 obtain⟨x,H1,I1,r1,q1⟩:=hh_;obtain⟨c,rfl,q1⟩:=q1;cases r1;refine Jk ?_
 cases c with
 | true=>exact hb pins s1 σ H1 Q I1 q1
 | false=>exact⟨.bl false,H1,I1,rfl,q1⟩
theorem EV (ha:PE X a ta)(hb:PE X (.BoolOp .Or (b::aY) pos) tb):PE X (.BoolOp .Or (a::b::aY) pos) (tOrV ta tb):=by
 intro pins s σ H Q I h;refine BoolOp_or (bF (ha pins s σ H _ I h) λv s1 hh_=> ?_)
 obtain⟨x,H1,I1,r1,q1⟩:=hh_;obtain⟨c,rfl,q1⟩:=q1;cases r1;refine Jk ?_
 cases c with
 | false=>exact hb pins s1 σ H1 Q I1 q1
 | true=>exact⟨.bl true,H1,I1,rfl,q1⟩
theorem Cm (ha:PE X a ta):PE X (.UnaryOp .Not a pos) (D7 ta):=by
 intro pins s σ H Q I h;refine UnaryOp_ (bF (ha pins s σ H _ I h) λv s1 hh_=> ?_)
 obtain⟨x,H1,I1,r1,q1⟩:=hh_;obtain⟨c,rfl,q1⟩:=q1;cases r1;exact not_of (Jk ⟨.bl (!c),H1,I1,rfl,q1⟩)
def tIf (t:TT)(ta tb:TE):TE:=λσ H Q=>t σ H λc H1=>if c=true then ta σ H1 Q else tb σ H1 Q
theorem wt {c:Expr}(hc:PT X c tA)(ha:PE X a ta)(hb:PE X b tb):PE X (.IfExp c a b pos) (tIf tA ta tb):=by
 intro pins s σ H Q I h;refine wpAny_IfExp (bF (hc pins s σ H _ I h) λd s1 hh_=> ?_)
 obtain⟨H1,I1,q1⟩:=hh_
 cases d with
 | true=>exact ha pins s1 σ H1 Q I1 q1
 | false=>exact hb pins s1 σ H1 Q I1 q1
end
def SqL (K:HI)(H:Hp)(a:Addr)(xs:List V):Prop:=
 Rd H a (.lst xs) ∨
  ∃(o:Obj) (its:Array HL) (n:Nat),K.lookup a=some o/\o.cls= .type "list"/\o.dict=none/\o.data= .seq its n/\its.size<=sizeLine/\Vals xs its.toList
def SqT (K:HI)(H:Hp)(a:Addr)(xs:List V):Prop:=
 Rd H a (.tup xs) ∨
  ∃(o:Obj) (its:Array HL) (n:Nat),K.lookup a=some o/\o.cls= .type "tuple"/\o.data= .seq its n/\its.size<=sizeLine/\Vals xs its.toList
def absV:HL->Option V
 | .none=>some .non
 | .bool b=>some (.bl b)
 | .int i _=>some (.int i)
 | .str x _=>some (.str x)
 | .bytes b _=>some (.byt b)
 | .float b _=>some (.flt b)
 | .ref a=>some (.ref a)
 | .type n=>some (.ty n)
 | _=>none
theorem RelV.abs {x:V}{u:HL}(r:RelV x u):absV u=some x:=by
 cases x with
 | non=>cases r;rfl
 | bl _=>cases r;rfl
 | int _=>obtain⟨t,rfl⟩:=r;rfl
 | str _=>obtain⟨t,rfl⟩:=r;rfl
 | byt _=>obtain⟨t,rfl⟩:=r;rfl
 | flt _=>obtain⟨t,rfl⟩:=r;rfl
 | ref _=>cases r;rfl
 | ty _=>cases r;rfl
theorem RelV.inj {x y:V}{u:HL}(r:RelV x u)(q:RelV y u):x=y:=IT (r.abs.symm.trans q.abs)
theorem Vals.inj:∀{xs ys:List V} {us:List HL},Vals xs us->Vals ys us->xs=ys
 | _,_,_,.nil,.nil=>rfl
 | _,_,_,.cons r t,.cons r' t'=>by rw[r.inj r',Vals.inj t t']
section
variable {X:Cx}{pins:List (Addr×Obj)}{σ:St}{H:Hp}{s:HJ}{a:Addr}{xs ys:List V}
theorem SqL.of {K:HI}(h:H a=some (.lst xs)):SqL K H a xs:=.inl (.inl h)
theorem SqT.of {K:HI}(h:H a=some (.tup xs)):SqT K H a xs:=.inl (.inl h)
theorem Inv.list (I:Inv X pins σ H s)(h:SqL X.K H a xs):∃its:List HL,Vals xs its/\PlainL s.heap a its.toArray/\xs.length<=sizeLine:=by
 rcases h with h | ⟨o,its,n,hk,hc,hd,hs,hz,r⟩
 ·obtain⟨z,its,n,r,e⟩:=h.ok I.hok
  exact⟨its,r,⟨_,n,e,rfl,rfl,rfl⟩,z⟩
 ·refine⟨its.toList,r,⟨o,n,I.kIn a o hk,hc,hd,by simpa using hs⟩,?_⟩
  have e:=r.length;simp only[Kf]at e;omega
theorem Inv.tuple (I:Inv X pins σ H s)(h:SqT X.K H a xs):∃its:List HL,Vals xs its/\Qc s.heap a its.toArray/\xs.length<=sizeLine:=by
 rcases h with h | ⟨o,its,n,hk,hc,hs,hz,r⟩
 ·obtain⟨z,its,r,p⟩:=h.ok I.hok
  exact⟨its,r,p,z⟩
 ·refine⟨its.toList,r,⟨o,I.kIn a o hk,hc,n,by simpa using hs⟩,?_⟩
  have e:=r.length;simp only[Kf]at e;omega
theorem Inv.GM (I:Inv X pins σ H s)(h:SqL X.K H a xs)(h':SqL X.K H a ys):xs=ys:=by
 obtain⟨its,r,⟨o,n,e,_,_,d⟩,_⟩:=I.list h;obtain⟨its',r',⟨o',n',e',_,_,d'⟩,_⟩:=I.list h';rw[e]at e';cases e';rw[d]at d';injection d' with d1 _
 have:its=its':=by simpa using congrArg Nt d1
 subst this;exact r.inj r'
theorem Inv.GJ (I:Inv X pins σ H s)(h:SqT X.K H a xs)(h':SqT X.K H a ys):xs=ys:=by
 obtain⟨its,r,⟨o,e,_,n,d⟩,_⟩:=I.tuple h;obtain⟨its',r',⟨o',e',_,n',d'⟩,_⟩:=I.tuple h';rw[e]at e';cases e';rw[d]at d';injection d' with d1 _
 have:its=its':=by simpa using congrArg Nt d1
 subst this;exact r.inj r'
end
abbrev Cx.FM (X:Cx)(E:HL->HJ->Prop):Cx:={ X with xe:=E }
abbrev Cx.nox (X:Cx):Cx:=X.FM λ_ _=>False
theorem Cx.Ok.FM {X:Cx}(ok:X.Ok)(E:HL->HJ->Prop):(X.FM E).Ok:=
 ⟨ok.mod,ok.kind,ok.glob,ok.blt,ok.above,ok.inj,ok.has,ok.cab,ok.hd,ok.frames,ok.stk,ok.exf,ok.bs,ok.bsz,ok.noex,ok.exfs,ok.funs,ok.frf⟩
theorem Cx.Ok.Gx {X:Cx}{E:HL->HJ->Prop}(ok:(X.FM E).Ok):X.Ok:=
 ⟨ok.mod,ok.kind,ok.glob,ok.blt,ok.above,ok.inj,ok.has,ok.cab,ok.hd,ok.frames,ok.stk,ok.exf,ok.bs,ok.bsz,ok.noex,ok.exfs,ok.funs,ok.frf⟩
section
variable {X:Cx}{pins:List (Addr×Obj)}{σ:St}{H:Hp}{s:HJ}{E:HL->HJ->Prop}
theorem Inv.FM (I:Inv X pins σ H s)(E:HL->HJ->Prop):Inv (X.FM E) pins σ H s:=⟨I.ok.FM E,I.os,I.bare,I.base,I.loc,I.cell,I.free,I.freeC,I.pin,I.hok,I.len⟩
theorem Inv.Gx (I:Inv (X.FM E) pins σ H s):Inv X pins σ H s:=⟨I.ok.Gx,I.os,I.bare,I.base,I.loc,I.cell,I.free,I.freeC,I.pin,I.hok,I.len⟩
theorem SP.Gx {D:Ends}{f:Flow}{s':HJ}(h:SP (X.FM E) pins D f s'):SP X pins D f s':=by
 cases f with
 | next=>obtain⟨σ',H',I,q⟩:=h;exact⟨σ',H',I.Gx,q⟩
 | brk=>obtain⟨σ',H',I,q⟩:=h;exact⟨σ',H',I.Gx,q⟩
 | cont=>obtain⟨σ',H',I,q⟩:=h;exact⟨σ',H',I.Gx,q⟩
 | ret u=>obtain⟨v,σ',H',I,r,q⟩:=h;exact⟨v,σ',H',I.Gx,r,q⟩
theorem PSs.nox {st:List Stmt}{t:TS}(h:PSs X.nox st t):PSs X st t:=λpins s σ H D I hw=>
 IR (h pins s σ H D (I.FM _) hw) (λ_ _ q=>q.Gx) λ_ _ z=>JY z
end
section
variable {X:Cx}{st:Stmt}{aY:List Stmt}{t u:TS}{e:Expr}{te:TE}{pos:Pos}
def D8:TS:=λD σ H=>D.nx σ H
def D2 (t u:TS):TS:=λD σ H=>t { D with nx:=u D } σ H
theorem si:PSs X [] D8:=λ_ _ σ H _ I h=>KD ⟨σ,H,I,h⟩
theorem lg (h1:PS X st t)(h2:PSs X aY u):PSs X (st::aY) (D2 t u):=by
 intro pins s σ H D I h;refine Nj (bF (h1 pins s σ H { D with nx:=u D } I h) λf s1 q=> ?_)
 cases f with
 | next=>
  obtain⟨σ',H',I',q⟩:=q
  exact h2 pins s1 σ' H' D I' q
 | ret v=>exact q
 | brk=>exact q
 | cont=>exact q
theorem il (h1:PS X st t):PSs X [st] t:=by
 intro pins s σ H D I h;refine Nj (bF (h1 pins s σ H D I h) λf s1 q=> ?_)
 cases f with
 | next=>exact KD q
 | ret v=>exact q
 | brk=>exact q
 | cont=>exact q
theorem Inv.quiet {pins:List (Addr×Obj)}{σ:St}{H:Hp}{s:HJ}(I:Inv X pins σ H s):interactive X.env=false:=by simp[interactive,I.ok.kind]
def Eb (te:TE):TS:=λD σ H=>te σ H λ_ H1=>D.nx σ H1
theorem sj (he:PE X e te)(hs:autoParam (Ld e none pos.line X.env=pure false) u_):PS X (.Expr e pos) (Eb te):=by
 intro pins s σ H D I h;exact wpAny_Expr_any (bF (he pins s σ H _ I h) λv s1 ⟨x,H1,I1,r1,q1⟩=>⟨σ,H1,I1,q1⟩) I.quiet hs
def D5 (te:TE):TS:=λD σ H=>te σ H D.rt
theorem lh (he:PE X e te):PS X (.Return (some e) pos) (D5 te):=by
 intro pins s σ H D I h;exact Pc (bF (he pins s σ H _ I h) λv s1 ⟨x,H1,I1,r1,q1⟩=>⟨x,σ,H1,I1,r1,q1⟩)
def Ea (c:TT)(t u:TS):TS:=λD σ H=>c σ H λb H1=>if b=true then t D σ H1 else u D σ H1
theorem AY {c:Expr}{a b:List Stmt}{tc:TT}(hc:PT X c tc)(ha:PSs X a t)(hb:PSs X b u):PS X (.If c a b pos) (Ea tc t u):=by
 intro pins s σ H D I h;refine wpAny_If (bF (hc pins s σ H _ I h) λd s1 hh_=> ?_)
 obtain⟨H1,I1,q1⟩:=hh_
 cases d with
 | true=>exact ha pins s1 σ H1 D I1 q1
 | false=>exact hb pins s1 σ H1 D I1 q1
def BB:TS:=λ_ _ _=>False
theorem wc:PS X st BB:=λ_ _ _ _ _ _ h=>h.elim
end
abbrev TG:=V->St->Hp->(St->Hp->Prop)->Prop
abbrev AB:=List V->St->Hp->(St->Hp->Prop)->Prop
def PG (X:Cx)(target:Expr)(t:TG):Prop:=
 ∀(pins:List (Addr×Obj)) (s:HJ) (σ:St) (H:Hp) (v:V) (u:HL) (Q:St->Hp->Prop),Inv X pins σ H s->RelV v u->t v σ H Q →
  wpAny (model X.prog X.w) X.A (assign target X.env u) (λ_ s'=> ∃σ' H',Inv X pins σ' H' s'/\Q σ' H') X.xe s
def PGs (X:Cx)(ts:List Expr)(t:AB):Prop:=
 ∀(pins:List (Addr×Obj)) (s:HJ) (σ:St) (H:Hp) (vs:List V) (us:List HL) (Q:St->Hp->Prop),Inv X pins σ H s->Vals vs us->t vs σ H Q →
  wpAny (model X.prog X.w) X.A (assignInOrder ((JA ts X.env).map (·.2)) us) (λ_ s'=> ∃σ' H',Inv X pins σ' H' s'/\Q σ' H') X.xe s
section
variable {X:Cx}{pos:Pos}
def xw (i:Nat):TG:=λv σ H Q=>Q (σ.set i (some v)) H
theorem zh {i:Nat}{x:Str}(hN:X.N.Nodup)(hi:X.N[i]? =some x)(hx:Loc X.env.scope x)(hf:autoParam (X.fn x=true\/X.env.scope.names.lookup x=some .local) r_):PG X (.Name x pos) (xw i):=by
 intro pins s σ H v u Q I r h;exact Pd (kZ I hN hi hx r (λs' I'=>⟨_,H,I',h⟩) hf)
def gNil:AB:=λvs σ H Q=>vs= []/\Q σ H
def FC (t:TG)(u:AB):AB:=λvs σ H Q=> ∃v r,vs=v::r/\t v σ H λσ' H'=>u r σ' H' Q
theorem zg:PGs X [] gNil:=by
 intro pins s σ H vs us Q I r h;obtain⟨e,h⟩:=h;subst e;cases r;exact assignInOrder_nil ⟨σ,H,I,h⟩
theorem wg {e:Expr}{es:List Expr}{t:TG}{u:AB}(h1:PG X e t)(h2:PGs X es u)
  (hs:autoParam ((JA (e::es) X.env).map (·.2)=assign e X.env::(JA es X.env).map (·.2)) u_):PGs X (e::es) (FC t u):=by
 intro pins s σ H vs us Q I r h;obtain⟨v,vr,e1,h⟩:=h;subst e1
 cases r with
 | cons r rr=>
  rw[hs];refine assignInOrder_cons (bF (h1 pins s σ H _ _ _ I r h) λ_ s1 hh_=> ?_)
  obtain⟨σ1,H1,I1,q1⟩:=hh_;exact h2 pins s1 σ1 H1 _ _ Q I1 rr q1
def gTup (K:HI)(n:Nat)(t:AB):TG:=λv σ H Q=> ∃a xs,v= .ref a/\SqT K H a xs/\xs.length=n/\t xs σ H Q
theorem Cj {es:List Expr}{k:Nat}{t:AB}{n:Nat}(hc:X.calm=true)(h:PGs X es t)
  (hn:autoParam ((JA es X.env).length=n) u_) (hst:autoParam ((JA es X.env).findIdx? (·.1)=none) u_):PG X (.Tuple es k pos) (gTup X.K n t):=by
 intro pins s σ H v u Q I r hw;obtain⟨a,xs,e1,hq,hl,hw⟩:=hw;subst e1;cases r;obtain⟨its,rv,ht,hz⟩:=I.tuple hq;refine assign_Tuple_tuple (I.ok.hd hc) ht (by simp[hn,<-hl,rv.length]) hst λh' hx=> ?_
 have I1:Inv X pins σ H { s with heap:=h' }:=I.kept (t':=s.toks) λb o e=>hx b o (Jx (Ib e)) e
 exact h pins _ σ H xs _ Q I1 (by simpa using rv) hw
def vI (te:TE)(g:TG):TS:=λD σ H=>te σ H λx H1=>g x σ H1 D.nx
theorem Cg {tg e:Expr}{te:TE}{g:TG}(he:PE X e te)(hg:PG X tg g)(hs:autoParam (Lz [tg] e pos.line X.env=pure false) u_)(hw:autoParam (LA [tg] e X.env=pure none) u_)
  (h1:autoParam ((JA [tg] X.env).map (·.2)= [assign tg X.env]) u_):PS X (.Assign [tg] e pos) (vI te g):=by
 intro pins s σ H D I h;refine wpAny_Assign_stores (bF (he pins s σ H _ I h) λv s1 ⟨x,H1,I1,r1,q1⟩=> ?_) hs hw
 rw[h1];exact bF (hg pins s1 σ H1 x v _ I1 r1 q1) λ_ s2 q=>q
theorem wb {i:Nat}{x:Str}{e:Expr}{te:TE}{pos':Pos}(hN:X.N.Nodup)(hi:X.N[i]? =some x)(hx:Loc X.env.scope x)(he:PE X e te)(hs:autoParam (Ld e (some (.Name x pos')) pos.line X.env=pure false) u_)(hf:autoParam (X.fn x=true\/X.env.scope.names.lookup x=some .local) r_) :
  PS X (.Assign [.Name x pos'] e pos) (vI te (xw i)):=by
 intro pins s σ H D I h;refine wpAny_Assign_Name (bF (he pins s σ H _ I h) λv s1 ⟨y,H1,I1,r1,q1⟩=> ?_) hs
 exact kZ I1 hN hi hx r1 (λs2 I2=>⟨_,H1,I2,q1⟩) hf
end
structure It where
 go:Nat->Hp->Prop
 yld:Nat->Hp->V->Hp->Prop
 stop:Nat->Hp->Prop
def hG (X:Cx)(pins:List (Addr×Obj))(H:Hp)(b:Addr):Prop:=
 H b=none/\b≠X.env.locals/\b∉X.fs/\(b∈X.ex\/X.s₀.heap.objs.size<=b)/\(∀x c,X.env.cells.lookup x=some c->c≠b)/\∀p∈X.pn++pins,p.1≠b
theorem Inv.GO {X:Cx}{pins:List (Addr×Obj)}{σ:St}{H H':Hp}{s:HJ}{b:Addr}(I:Inv X pins σ H s)(hb:s.heap.objs.size<=b)(hn:H' b=none):hG X pins H' b:=by
 refine⟨hn,LP (Ig I.lt hb),I.HC hb,.inr (IA I.sz hb),λx c e z=> ?_,λp hp z=> ?_⟩
 ·obtain⟨v,q⟩:=I.cell x c e
  exact absurd (Ig q.lt (by rw[z];exact hb)) (Iz _)
 ·exact absurd (Ig (Ib (I.pin p hp).1) (by rw[z];exact hb)) (Iz _)
structure x9 (P:Ip)(w:IV)(K:HI)(tg:Expr)(J:It)(fp:List Addr)(it:Addr)(tn:Nat->Heap->Prop):Prop where
 mem:it∈fp
 obj:∀i h,tn i h->∀b∈fp,∃o,h.get? b=some o/\∀v,o.data≠ .cell v
 keep:∀i h h',tn i h->(∀b∈fp,∀o,h.get? b=some o->h'.get? b=some o)->tn i h'
 item:∀(X:Cx),X.prog=P->X.w=w->X.K=K->X.calm=true->∀(i:Nat) (pins:List (Addr×Obj)) (s:HJ) (σ:St) (H:Hp) (E:HL->HJ->Prop),Inv X pins σ H s->(∀b∈fp,hG X pins H b)->tn i s.heap->J.go i H →
  wpAny (model P w) X.A (pyNext (.ref it)) (λr s1=> ∃u,r=some u ∧
   wpAny (model P w) X.A (KF tg (.ref it) u) (λ_ s2=> ∃x H',Inv X pins σ H' s2/\RelV x u/\J.yld i H x H'/\tn (i+1) s2.heap/\∀b∈fp,H' b=none) E s1) E s
 done:∀(X:Cx),X.prog=P->X.w=w->X.K=K->X.calm=true->∀(i:Nat) (pins:List (Addr×Obj)) (s:HJ) (σ:St) (H:Hp) (E:HL->HJ->Prop),Inv X pins σ H s->(∀b∈fp,hG X pins H b)->tn i s.heap->J.stop i H →
  wpAny (model P w) X.A (pyNext (.ref it)) (λr s1=>r=none/\Inv X pins σ H s1) E s
 self:∀(A:IE) (i:Nat) (s:HJ) (Q:HL->HJ->Prop) (E:HL->HJ->Prop),tn i s.heap->Q (.ref it) s->wpAny (model P w) A (pyIter (.ref it)) Q E s
abbrev TI:=St->Hp->(It->Hp->Prop)->Prop
def Gq (X:Cx)(pins:List (Addr×Obj))(σ:St)(tg:Expr)(R:It->Hp->Prop)(itv:HL)(s2:HJ):Prop:=
 ∃(it:Addr) (fp:List Addr) (tn:Nat->Heap->Prop) (J:It) (H':Hp),itv= .ref it/\Inv X pins σ H' s2/\x9 X.prog X.w X.K tg J fp it tn/\tn 0 s2.heap/\(∀b∈fp,hG X pins H' b)/\R J H'
def PI (X:Cx)(tg iter:Expr)(wi:TI):Prop:=
 ∀(pins:List (Addr×Obj)) (s:HJ) (σ:St) (H:Hp) (R:It->Hp->Prop),Inv X pins σ H s->wi σ H R →
  wpAny (model X.prog X.w) X.A (eval iter X.env) (λv s1=>wpAny (model X.prog X.w) X.A (pyIter v) (Gq X pins σ tg R) X.xe s1) X.xe s
theorem xu {M:L7}{A:IE}{E:HL->HJ->Prop}{s:HJ}{tg:Expr}{it:Addr}{u:HL}{o:Obj}{n:String}{vs:Array HL}{Q:Unit->HJ->Prop}(ho:s.heap.get? it=some o)(hc:o.cls= .type n)(hd:o.data= .fields vs)
  (hn:["enumerate","zip","dict_itemiterator","dict_reverseitemiterator","odict_iterator","itertools.zip_longest","itertools.pairwise"].contains n=false) (hQ:Q () s):wpAny M A (KF tg (.ref it) u) Q E s:=by
 unfold KF
 cases tg <;> first
  | exact HX hQ
  | (cases u <;> first
    | exact HX hQ
    | (refine HM (wpAny_load ho ?_)
       rw[hc,hd]
       show wpAny M A (if (["enumerate","zip","dict_itemiterator","dict_reverseitemiterator","odict_iterator","itertools.zip_longest","itertools.pairwise"].contains n&&vs[0]? == some (rawInt _))=true then _ else _) Q E s
       rw[if_neg (by intro h;rw[hn,MD]at h;cases h)]
       exact HX hQ))
def Itl (K:HI)(a:Addr):It:=
 ⟨λi H=> ∃xs x,SqL K H a xs/\xs[i]? =some x,λi H x H'=>H'=H/\∀xs,SqL K H a xs->xs[i]? =some x,λi H=> ∃xs,SqL K H a xs/\xs.length<=i⟩
def Itt (K:HI)(a:Addr):It:=
 ⟨λi H=> ∃xs x,SqT K H a xs/\xs[i]? =some x,λi H x H'=>H'=H/\∀xs,SqT K H a xs->xs[i]? =some x,λi H=> ∃xs,SqT K H a xs/\xs.length<=i⟩
def Itr (lo:Int)(n:Nat):It:=⟨λi _=>i<n,λi H x H'=>H'=H/\x= .int (lo+i),λi _=>n<=i⟩
theorem mQ {P:Ip}{w:IV}{K:HI}{tg:Expr}(a it:Addr):x9 P w K tg (Itl K a) [it] it (λi h=>h.IsListIter it a i) where
 mem:=by simp
 obj:=λi h st b hb=>by
  have e:b=it:=by simpa using hb
  subst e;obtain⟨o,e,c,d⟩:=st;exact⟨o,e,λv z=>by rw[d]at z;cases z⟩
 keep:=λi h h' st k=>st.at λo e=>k it (by simp) o e
 item:=by
  intro X hP hw hK hc i pins s σ H E I hf st hg;subst hP hw hK;obtain⟨xs,x,hq,hx⟩:=hg;obtain⟨its,rv,p,hz⟩:=I.list hq;obtain⟨u,hu,ru⟩:=rv.get hx;obtain⟨f0,f1,f2,f3,f4,f5⟩:=hf it (by simp)
  refine wpAny_pyNext_list_item st p.isList (x:=u) (by simpa using hu) λh' st' sb=> ?_
  have I1:Inv X pins σ H { s with heap:=h' }:=I.turned (t':=s.toks) (λb o hb e=>(sb.2 b hb).trans e) f0 f1 f3 f4 f5
  obtain⟨o,e,c,d⟩:=id st';exact⟨u,rfl,xu (s:={ s with heap:=h' }) e c d (by decide) ⟨x,H,I1,ru,⟨rfl,λys hy=>by rw[I.GM hy hq];exact hx⟩,st',λb hb=>(hf b hb).1⟩⟩
 done:=by
  intro X hP hw hK hc i pins s σ H E I hf st hg;subst hP hw hK;obtain⟨xs,hq,hx⟩:=hg;obtain⟨its,rv,p,hz⟩:=I.list hq;obtain⟨f0,f1,f2,f3,f4,f5⟩:=hf it (by simp)
  have hl:=rv.length;exact wpAny_pyNext_list_end (I.ok.hd hc) st p.isList (by simp;omega) λh' eb=>⟨rfl,I.turned (t':=s.toks) (λb o hb e=>eb b o hb e) f0 f1 f3 f4 f5⟩
 self:=λ_ _ _ _ _ st h=>wpAny_pyIter_listiter st h
theorem kX {P:Ip}{w:IV}{K:HI}{tg:Expr}(a it:Addr):x9 P w K tg (Itt K a) [it] it (λi h=>h.IsTupleIter it a i) where
 mem:=by simp
 obj:=λi h st b hb=>by
  have e:b=it:=by simpa using hb
  subst e;obtain⟨o,e,c,d⟩:=st;exact⟨o,e,λv z=>by rw[d]at z;cases z⟩
 keep:=λi h h' st k=>st.at λo e=>k it (by simp) o e
 item:=by
  intro X hP hw hK hc i pins s σ H E I hf st hg;subst hP hw hK;obtain⟨xs,x,hq,hx⟩:=hg;obtain⟨its,rv,p,hz⟩:=I.tuple hq;obtain⟨u,hu,ru⟩:=rv.get hx;obtain⟨f0,f1,f2,f3,f4,f5⟩:=hf it (by simp)
  refine wpAny_pyNext_tuple_item st (show s.heap.IsTuple a its.toArray from p) (x:=u) (by simpa using hu) λh' st' sb=> ?_
  have I1:Inv X pins σ H { s with heap:=h' }:=I.turned (t':=s.toks) (λb o hb e=>(sb.2 b hb).trans e) f0 f1 f3 f4 f5
  obtain⟨o,e,c,d⟩:=id st';exact⟨u,rfl,xu (s:={ s with heap:=h' }) e c d (by decide) ⟨x,H,I1,ru,⟨rfl,λys hy=>by rw[I.GJ hy hq];exact hx⟩,st',λb hb=>(hf b hb).1⟩⟩
 done:=by
  intro X hP hw hK hc i pins s σ H E I hf st hg;subst hP hw hK;obtain⟨xs,hq,hx⟩:=hg;obtain⟨its,rv,p,hz⟩:=I.tuple hq;obtain⟨f0,f1,f2,f3,f4,f5⟩:=hf it (by simp)
  have hl:=rv.length;exact wpAny_pyNext_tuple_end (I.ok.hd hc) st (show s.heap.IsTuple a its.toArray from p) (by simp;omega) λh' eb=>⟨rfl,I.turned (t':=s.toks) (λb o hb e=>eb b o hb e) f0 f1 f3 f4 f5⟩
 self:=λ_ _ _ _ _ st h=>wpAny_pyIter_tupleiter st h
theorem qK {P:Ip}{w:IV}{K:HI}{tg:Expr}(it:Addr)(lo:Int)(n:Nat):x9 P w K tg (Itr lo n) [it] it (λi h=>IsRangeIter h it (lo+(i:Nat)*1) ((n:Int) - (i:Nat)) 1) where
 mem:=by simp
 obj:=λi h st b hb=>by
  have e:b=it:=by simpa using hb
  subst e
  exact⟨_,st,λv z=>by
   have z':Data.fields _=Data.cell v:=z;cases z'⟩
 keep:=λi h h' st k=>k it (by simp) _ st
 item:=by
  intro X hP hw hK hc i pins s σ H E I hf st hg;subst hP hw hK;obtain⟨f0,f1,f2,f3,f4,f5⟩:=hf it (by simp)
  have W:=Walks.range (prog:=X.prog) (w:=X.w) (I.ok.hd hc) it lo 1 n;refine W.item i s _ _ hg st λv h' tk hv st' kk=> ?_
  obtain⟨t,rfl⟩:=hv
  have I1:Inv X pins σ H { s with heap:=h',toks:=tk }:=I.turned (λb o hb e=>kk b o (by simpa using hb) e) f0 f1 f3 f4 f5
  refine⟨_,rfl,xu (s:={ s with heap:=h',toks:=tk }) (n:="range_iterator") st' rfl rfl (by decide) ⟨.int (lo+i),H,I1,⟨t,?_⟩,⟨rfl,rfl⟩,st',λb hb=>(hf b hb).1⟩⟩
  rw[Int.mul_one]
 done:=by
  intro X hP hw hK hc i pins s σ H E I hf st hg;subst hP hw hK;obtain⟨f0,f1,f2,f3,f4,f5⟩:=hf it (by simp)
  exact wpAny_pyNext_range_end (I.ok.hd hc) st (by have:n<=i:=hg;omega) λh' eb=>⟨rfl,I.turned (t':=s.toks) (λb o hb e=>eb b o hb e) f0 f1 f3 f4 f5⟩
 self:=λ_ _ _ _ _ st h=>wpAny_pyIter_rangeiter st h
section
variable {X:Cx}{tg:Expr}
def Bc (K:HI)(tl:TE):TI:=λσ H R=>tl σ H λx H1=> ∃a,x= .ref a/\(∃xs,SqL K H1 a xs)/\R (Itl K a) H1
def FA (K:HI)(tl:TE):TI:=λσ H R=>tl σ H λx H1=> ∃a,x= .ref a/\(∃xs,SqT K H1 a xs)/\R (Itt K a) H1
theorem ze {l:Expr}{tl:TE}(hl:PE X l tl):PI X tg l (Bc X.K tl):=by
 intro pins s σ H R I h;refine bF (hl pins s σ H _ I h) λv s1 hh_=> ?_
 obtain⟨x,H1,I1,r1,q1⟩:=hh_;obtain⟨a,e,⟨xs,hq⟩,q⟩:=q1;subst e;cases r1;obtain⟨its,rv,p,hz⟩:=I1.list hq;refine LL p.isList ?_
 refine⟨s1.heap.objs.size,[s1.heap.objs.size],_,_,H1,rfl,I1.kept (t':=s1.toks) λb o e=>HN _ e,mQ a _,⟨_,Ie _ rfl,rfl,rfl⟩,λb hb=> ?_,q⟩
 have e:b=s1.heap.objs.size:=by simpa using hb
 subst e;exact I1.GO (Ia _) (I1.hok.fresh (Ia _))
theorem Ci {l:Expr}{tl:TE}(hl:PE X l tl):PI X tg l (FA X.K tl):=by
 intro pins s σ H R I h;refine bF (hl pins s σ H _ I h) λv s1 hh_=> ?_
 obtain⟨x,H1,I1,r1,q1⟩:=hh_;obtain⟨a,e,⟨xs,hq⟩,q⟩:=q1;subst e;cases r1;obtain⟨its,rv,p,hz⟩:=I1.tuple hq;refine Kr (show s1.heap.IsTuple a its.toArray from p) ?_
 refine⟨s1.heap.objs.size,[s1.heap.objs.size],_,_,H1,rfl,I1.kept (t':=s1.toks) λb o e=>HN _ e,kX a _,⟨_,Ie _ rfl,rfl,rfl⟩,λb hb=> ?_,q⟩
 have e:b=s1.heap.objs.size:=by simpa using hb
 subst e;exact I1.GO (Ia _) (I1.hok.fresh (Ia _))
theorem pM {pins:List (Addr×Obj)}{σ:St}{H:Hp}{s:HJ}{R:It->Hp->Prop}{E:HL->HJ->Prop}{lo hi:Int}{t u v:Tok}{tk:Nat}(I:Inv X pins σ H s)(h1 : -(2 ^ 62)<=lo)(h2:lo<2 ^ 62)(h3 : -(2 ^ 62)<=hi)(h4:hi<2 ^ 62)
  (q:R (Itr lo (hi - lo).toNat) H):wpAny (model X.prog X.w) X.A (pyIter (.ref s.heap.objs.size)) (Gq X pins σ tg R) E { s with heap:=s.heap.push { cls:=.type "range",data:=.fields #[.int lo t,.int hi u,.int 1 v] },toks:=tk }:=by
 refine wpAny_pyIter_range (IsRange.new ..) (small_one h1 h2 h3 h4) ?_
 have I1:Inv X pins σ H { s with heap:=s.heap.push { cls:=.type "range",data:=.fields #[.int lo t,.int hi u,.int 1 v] },toks:=tk }:=I.kept λb o e=>HN _ e
 refine⟨(s.heap.push { cls:=.type "range",data:=.fields #[.int lo t,.int hi u,.int 1 v] }).objs.size,[(s.heap.push { cls:=.type "range",data:=.fields #[.int lo t,.int hi u,.int 1 v] }).objs.size],_,_,H,rfl,
  I1.kept (t':=tk) λb o e=>HN _ e,qK _ lo (hi - lo).toNat,?_,λb hb=> ?_,q⟩
 ·have e1:lo+((0:Nat):Int)*1=lo:=by simp
  have e2:(((hi - lo).toNat:Nat):Int) - ((0:Nat):Int)=Builtin.Range.rangeSize lo hi 1:=by rw[rangeSize_one];split <;> omega
  show IsRangeIter _ _ (lo+((0:Nat):Int)*1) ((((hi - lo).toNat:Nat):Int) - ((0:Nat):Int)) 1
  rw[e1,e2];exact Ie _ rfl
 ·have e:b=(s.heap.push { cls:=.type "range",data:=.fields #[.int lo t,.int hi u,.int 1 v] }).objs.size:=by simpa using hb
  subst e;exact I1.GO (Ia _) (I1.hok.fresh (Ia _))
def BD (wi:TI)(g:TG)(tb:TS):TS:=λD σ H=>wi σ H λJ H1=> ∃W:Nat->Nat->St->Hp->Prop,(∃m,W 0 m σ H1)/\∀i m σ H,W i m σ H →
 (J.stop i H/\D.nx σ H)\/(J.go i H/\∃N:St->Hp->Prop,(∀σ' H',N σ' H'->∃m',m'<m/\W (i+1) m' σ' H')/\∀x H',J.yld i H x H'->g x σ H' λσ2 H2=>tb { D with nx:=N,ct:=N,bk:=D.nx } σ2 H2)
def gM (fp:List Addr)(h:Heap):List (Addr×Obj):=fp.filterMap λb=>(h.get? b).map λo=>(b,o)
theorem bY {fp:List Addr}{h:Heap}{b:Addr}{o:Obj}(hb:b∈fp)(e:h.get? b=some o):(b,o)∈gM fp h:=Og.mpr ⟨b,hb,by rw[e];rfl⟩
theorem ua {fp:List Addr}{h:Heap}{p:Addr×Obj}(hp:p∈gM fp h):p.1∈fp/\h.get? p.1=some p.2:=by
 obtain⟨b,hb,e⟩:=Og.mp hp
 cases q:h.get? b with
 | none=>rw[q]at e;cases e
 | some o=>
  rw[q]at e
  have e':(b,o)=p:=IT e;subst e';exact⟨hb,q⟩
theorem Inv.pinned {pins:List (Addr×Obj)}{σ:St}{H:Hp}{s:HJ}{fp:List Addr}(I:Inv X pins σ H s)(hf:∀b∈fp,hG X pins H b)(ho:∀b∈fp,∃o,s.heap.get? b=some o/\∀v,o.data≠ .cell v):Inv X (pins++gM fp s.heap) σ H s:=
 I.GU λp hp=>(HV.mp hp).elim (λz=>I.pin p (H0 _ z)) λz=>by
  obtain⟨hb,e⟩:=ua z;obtain⟨f0,f1,f2,_⟩:=hf p.1 hb;obtain⟨o,e',d⟩:=ho p.1 hb;rw[e]at e';cases e';exact⟨e,f0,f1,f2,d⟩
theorem Inv.Gv {pins pl:List (Addr×Obj)}{σ:St}{H:Hp}{s:HJ}(I:Inv X (pins++pl) σ H s):Inv X pins σ H s:=I.GU λp hp=>I.pin p (H0 _ (Iw _ hp))
end
abbrev R2:=V->V->Hp->VK->Prop
def mJ (X:Cx)(f:HL->HL->Sem HL)(r:R2):Prop:=
 ∀(pins:List (Addr×Obj)) (s:HJ) (σ:St) (H:Hp) (x y:V) (v u:HL) (Q:VK),Inv X pins σ H s->RelV x v->RelV y u->r x y H Q →
  wpAny (model X.prog X.w) X.A (f v u) (EP X pins σ Q) X.xe s
def UnR (X:Cx)(f:HL->Sem HL)(r:V->Hp->VK->Prop):Prop:=
 ∀(pins:List (Addr×Obj)) (s:HJ) (σ:St) (H:Hp) (x:V) (v:HL) (Q:VK),Inv X pins σ H s->RelV x v->r x H Q →
  wpAny (model X.prog X.w) X.A (f v) (EP X pins σ Q) X.xe s
def CallR (X:Cx)(f:HL)(r:List V->Hp->VK->Prop):Prop:=
 ∀(pins:List (Addr×Obj)) (s:HJ) (σ:St) (H:Hp) (xs:List V) (us:List HL) (Q:VK),Inv X pins σ H s->Vals xs us->r xs H Q →
  wpAny (model X.prog X.w) X.A (call f us) (EP X pins σ Q) X.xe s
def tOp (r:R2)(ta tb:TE):TE:=λσ H Q=>ta σ H λx H1=>tb σ H1 λy H2=>r x y H2 Q
def tUn (r:V->Hp->VK->Prop)(ta:TE):TE:=λσ H Q=>ta σ H λx H1=>r x H1 Q
def rI (C:Int->Int->Prop)(g:Int->Int->V):R2:=λx y H Q=> ∃i j,x= .int i/\y= .int j/\C i j/\Q (g i j) H
def BV (g:Int->Int->V):R2:=λx y H Q=> ∃i j,x= .int i/\y= .int j/\Q (g i j) H
def rU (g:Int->V):V->Hp->VK->Prop:=λx H Q=> ∃i,x= .int i/\Q (g i) H
section
variable {X:Cx}{a b c:Expr}{ta tb tc:TE}{pos:Pos}
theorem EU {op:UnaryOp}{r:V->Hp->VK->Prop}(ho:UnR X (unaryOp op) r)(ha:PE X a ta):PE X (.UnaryOp op a pos) (tUn r ta):=by
 intro pins s σ H Q I h;exact UnaryOp_ (bF (ha pins s σ H _ I h) λv s1 ⟨x,H1,I1,r1,q1⟩=>ho pins s1 σ H1 x v Q I1 r1 q1)
theorem opI {f:HL->HL->Sem HL}{C:Int->Int->Prop}{g:Int->Int->Int}
  (rule:∀(i j:Int) (t u:Tok) (s:HJ) (Q:HL->HJ->Prop) (E:HL->HJ->Prop),C i j->Q (.int (g i j) s.toks) { s with toks:=s.toks+1 }->wpAny (model X.prog X.w) X.A (f (.int i t) (.int j u)) Q E s) :
  mJ X f (rI C λi j=> .int (g i j)):=by
 intro pins s σ H x y v u Q I rx ry h;obtain⟨i,j,rfl,rfl,hc,q⟩:=h;obtain⟨t,rfl⟩:=rx;obtain⟨t',rfl⟩:=ry;exact rule i j t t' s _ _ hc ⟨.int (g i j),H,I.tok _,⟨_,rfl⟩,q⟩
theorem E7 {f:HL->HL->Sem HL}{g:Int->Int->Int}
  (rule:∀(i j:Int) (t u:Tok) (s:HJ) (Q:HL->HJ->Prop) (E:HL->HJ->Prop),Q (.int (g i j) s.toks) { s with toks:=s.toks+1 }->wpAny (model X.prog X.w) X.A (f (.int i t) (.int j u)) Q E s) :
  mJ X f (BV λi j=> .int (g i j)):=by
 intro pins s σ H x y v u Q I rx ry h;obtain⟨i,j,rfl,rfl,q⟩:=h;obtain⟨t,rfl⟩:=rx;obtain⟨t',rfl⟩:=ry;exact rule i j t t' s _ _ ⟨.int (g i j),H,I.tok _,⟨_,rfl⟩,q⟩
theorem E8 {f:HL->HL->Sem HL}{g:Int->Int->Bool}
  (rule:∀(i j:Int) (t u:Tok) (s:HJ) (Q:HL->HJ->Prop) (E:HL->HJ->Prop),Q (.bool (g i j)) s->wpAny (model X.prog X.w) X.A (f (.int i t) (.int j u)) Q E s) :
  mJ X f (BV λi j=> .bl (g i j)):=by
 intro pins s σ H x y v u Q I rx ry h;obtain⟨i,j,rfl,rfl,q⟩:=h;obtain⟨t,rfl⟩:=rx;obtain⟨t',rfl⟩:=ry;exact rule i j t t' s _ _ ⟨.bl (g i j),H,I,rfl,q⟩
def CDiv (i j:Int):Prop:=0<j/\j<1073741824
def CMul (i j:Int):Prop:=(-(2 ^ 64)<i/\i<2 ^ 64)\/(-(2 ^ 64)<j/\j<2 ^ 64)
theorem CMul.ok {i j:Int}(h:CMul i j):IntMulOk i j:=by
 rcases h with⟨h1,h2⟩ | ⟨h1,h2⟩
 ·exact .of_left (intBits_le_64 h1 h2)
 ·exact .of_right (intBits_le_64 h1 h2)
theorem Cz:mJ X (J8 .Add) (BV λi j=> .int (i+j)):=E7 λ_ _ _ _ _ _ _ q=>add_int q
theorem Cr:mJ X (J8 .Sub) (BV λi j=> .int (i - j)):=E7 λ_ _ _ _ _ _ _ q=>sub_int q
theorem Cu:mJ X (J8 .Mult) (rI CMul λi j=> .int (i*j)):=opI λ_ _ _ _ _ _ _ hc q=>mul_int q hc.ok
theorem zo:mJ X (J8 .FloorDiv) (rI CDiv λi j=> .int (i / j)):=opI λi j _ _ _ _ _ hc q=>by
 have h1:(0:Int)<j:=hc.1
 have h2:j<1073741824:=hc.2;exact floordiv_int (by omega) (by rw[Int.fdiv_eq_ediv_of_nonneg i (by omega)];exact q) (.inl (PyProof.noPylong_small (by omega)))
theorem Cv:mJ X (J8 .Mod) (rI (λ_ j=>0<j) λi j=> .int (i % j)):=opI λi j _ _ _ _ _ hc q=>by
 have h1:(0:Int)<j:=hc;exact mod_int' (by omega) (by rw[Int.fmod_eq_emod_of_nonneg i (by omega)];exact q)
theorem unI {f:HL->Sem HL}{g:Int->Int}
  (rule:∀(i:Int) (t:Tok) (s:HJ) (Q:HL->HJ->Prop) (E:HL->HJ->Prop),Q (.int (g i) s.toks) { s with toks:=s.toks+1 }->wpAny (model X.prog X.w) X.A (f (.int i t)) Q E s) :
  UnR X f (rU λi=> .int (g i)):=by
 intro pins s σ H x v Q I rx h;obtain⟨i,rfl,q⟩:=h;obtain⟨t,rfl⟩:=rx;exact rule i t s _ _ ⟨.int (g i),H,I.tok _,⟨_,rfl⟩,q⟩
theorem Bu:UnR X (unaryOp .USub) (rU λi=> .int (-i)):=unI λ_ _ _ _ _ q=>neg_int q
end
def scal:V->V->Bool
 | .non,.non=>true | .non,.int _=>true | .int _,.non=>true | .non,.bl _=>true | .bl _,.non=>true | .non,.str _=>true | .str _,.non=>true
 | .int _,.int _=>true | .bl _,.bl _=>true | .str _,.str _=>true | .byt _,.byt _=>true
 | .int _,.str _=>true | .str _,.int _=>true | .bl _,.str _=>true | .str _,.bl _=>true
 | _,_=>false
def rNe:R2:=λx y H Q=>scal x y=true/\Q (.bl (!decide (x=y))) H
theorem Ai {i j:Int}:decide (V.int i=V.int j)=(i == j):=by
 rw[Ls];simp
theorem Dp {i j:Bool}:decide (V.bl i=V.bl j)=(i == j):=by
 rw[Ls];simp
theorem Ah {i j:Str}:decide (V.str i=V.str j)=(i == j):=by
 rw[Ls];simp
theorem Aj {i j:Array UInt8}:decide (V.byt i=V.byt j)=(i.toList == j.toList):=by
 rw[Ls];cases i;cases j;simp
section
variable {X:Cx}{a b c:Expr}{ta tb tc:TE}{pos:Pos}
theorem cX {pins:List (Addr×Obj)}{σ:St}{H:Hp}{s:HJ}{Q:VK}{k k':Bool}(I:Inv X pins σ H s)(q:Q (.bl k) H)(e:k=k'):EP X pins σ Q (.bool k') s:=by
 subst e;exact⟨.bl k,H,I,rfl,q⟩
theorem EZ:mJ X (Jl .NotEq) rNe:=by
 intro pins s σ H x y v u Q I rx ry h;obtain⟨hs,q⟩:=h
 cases x with
 | non=>
  cases rx
  cases y with
  | non=>cases ry;exact PySem.EqNone.ne_none_none (cX I q (by simp))
  | bl j=>cases ry;exact PySem.EqNone.ne_none_bool (cX I q (by simp))
  | int j=>obtain⟨t',rfl⟩:=ry;exact PySem.EqNone.ne_none_int (cX I q (by simp))
  | str j=>obtain⟨t',rfl⟩:=ry;exact PySem.EqNone.ne_none_str (cX I q (by simp))
  | _=>exact absurd (show false=true from hs) Io
 | bl i=>
  cases rx
  cases y with
  | non=>cases ry;exact PySem.EqNone.ne_bool_none (cX I q (by simp))
  | bl j=>cases ry;exact ne_bool (cX I q (congrArg not Dp))
  | str j=>obtain⟨t',rfl⟩:=ry;exact PySem.EqMixed.ne_bool_str (cX I q (by simp))
  | _=>exact absurd (show false=true from hs) Io
 | int i=>
  obtain⟨t,rfl⟩:=rx
  cases y with
  | non=>cases ry;exact PySem.EqNone.ne_int_none (cX I q (by simp))
  | int j=>obtain⟨t',rfl⟩:=ry;exact ne_int (cX I q (congrArg not Ai))
  | str j=>obtain⟨t',rfl⟩:=ry;exact PySem.EqMixed.ne_int_str (cX I q (by simp))
  | _=>exact absurd (show false=true from hs) Io
 | str i=>
  obtain⟨t,rfl⟩:=rx
  cases y with
  | non=>cases ry;exact PySem.EqNone.ne_str_none (cX I q (by simp))
  | bl j=>cases ry;exact PySem.EqMixed.ne_str_bool (cX I q (by simp))
  | int j=>obtain⟨t',rfl⟩:=ry;exact PySem.EqMixed.ne_str_int (cX I q (by simp))
  | str j=>obtain⟨t',rfl⟩:=ry;exact ne_str (cX I q (congrArg not Ah))
  | _=>exact absurd (show false=true from hs) Io
 | byt i=>
  obtain⟨t,rfl⟩:=rx
  cases y with
  | byt j=>obtain⟨t',rfl⟩:=ry;exact PySem.W.ne_bytes (cX I q (congrArg not Aj))
  | _=>exact absurd (show false=true from hs) Io
 | _=>cases y <;> exact absurd (show false=true from hs) Io
theorem E5:mJ X (Jl .Lt) (BV λi j=> .bl (decide (i<j))):=E8 λ_ _ _ _ _ _ _ q=>lt_int q
theorem E6:mJ X (Jl .LtE) (BV λi j=> .bl (decide (i<=j))):=E8 λ_ _ _ _ _ _ _ q=>le_int q
theorem Cw:mJ X (Jl .Is) (λx y H Q=>y= .non/\Q (.bl (decide (x= .non))) H):=by
 intro pins s σ H x y v u Q I rx ry h;obtain⟨rfl,q⟩:=h;cases ry;refine is_none_gen (cX I q ?_)
 cases x <;> first
  | (cases rx;rfl)
  | (obtain⟨t,rfl⟩:=rx;rfl)
theorem zm:mJ X (Jl .IsNot) (λx y H Q=>y= .non/\Q (.bl (!decide (x= .non))) H):=by
 intro pins s σ H x y v u Q I rx ry h;obtain⟨rfl,q⟩:=h;cases ry;refine isnot_none_gen (cX I q ?_)
 cases x <;> first
  | (cases rx;rfl)
  | (obtain⟨t,rfl⟩:=rx;rfl)
theorem CF (b:Expr){op:Oz}(h:autoParam (op≠ .In) s_)(h2:autoParam (op≠ .NotIn) s_):JJ op b=false:=by
 have e1:(op == CmpOp.In)=false:=by cases op <;> first | rfl | exact absurd rfl h
 have e2:(op == CmpOp.NotIn)=false:=by cases op <;> first | rfl | exact absurd rfl h2
 cases b <;> simp[JJ,e1,e2]
def D1 (t:TE):TT:=λσ H Q=>t σ H λx H'=> ∃k,x= .bl k/\Q k H'
theorem y6 {op:Oz}{r:R2}(ho:mJ X (Jl op) r)(ha:PE X a ta)(hb:PE X b tb)(hm:JJ op b=false):PT X (.Compare a [op] [b] pos) (D1 (tOp r ta tb)):=by
 intro pins s σ H Q I h
 refine NL (bF (ha pins s σ H _ I h) λv s1 ⟨x,H1,I1,r1,q1⟩=>bF (hb pins s1 σ H1 _ I1 q1) λu s2 ⟨y,H2,I2,r2,q2⟩=>
  bF (ho pins s2 σ H2 x y v u _ I2 r1 r2 q2) λc s3 ⟨z,H3,I3,r3,k,e,q3⟩=> ?_) hm
 subst e;cases r3;exact Jk ⟨H3,I3,q3⟩
theorem lD:(sizeLine:Nat)<2 ^ 63:=by rw[JL];decide
theorem qY:mJ X (J8 .Add) (λx y H Q=> ∃i j,x= .str i/\y= .str j/\i.length+j.length<=sizeLine/\Q (.str (i++j)) H):=by
 intro pins s σ H x y v u Q I rx ry h;obtain⟨i,j,rfl,rfl,hz,q⟩:=h;obtain⟨t,rfl⟩:=rx;obtain⟨t',rfl⟩:=ry;exact add_str (λt' tk=>⟨.str (i++j),H,I.tok _,⟨_,rfl⟩,q⟩) hz
theorem jg {x:V}{us:List HL}(r:Vals [x] us):∃u,us= [u]/\RelV x u:=by
 cases r with
 | cons r1 r2=>cases r2;exact⟨_,rfl,r1⟩
theorem vg {x y:V}{us:List HL}(r:Vals [x,y] us):∃u w',us= [u,w']/\RelV x u/\RelV y w':=by
 cases r with
 | cons r1 r2=>
  cases r2 with
  | cons r3 r4=>cases r4;exact⟨_,_,rfl,r1,r3⟩
theorem uJ:CallR X (.type "int") (λxs H Q=>(∃i,xs= [.int i]/\Q (.int i) H)\/∃k,xs= [.bl k]/\Q (.int (if k then 1 else 0)) H):=by
 intro pins s σ H xs us Q I r h;rcases h with⟨i,rfl,q⟩ | ⟨k,rfl,q⟩
 ·obtain⟨u,rfl,t,rfl⟩:=jg r
  exact call_int_int ⟨.int i,H,I,⟨_,rfl⟩,q⟩
 ·obtain⟨u,rfl,r1⟩:=jg r
  cases r1;exact call_int_bool ⟨.int (if k then 1 else 0),H,I.tok _,⟨_,rfl⟩,q⟩
end
structure ObjM (h:Heap)(x dx C:Addr)(mA:Str->Option HL):Prop where
 obj:h.get? x=some (Nr C dx)
 ns:h.Ns1 dx mA
 ne:dx≠x
theorem uk {h:Heap}{dx:Addr}{mA:Str->Option HL}(n:h.Ns1 dx mA):∃od,h.get? dx=some od/\∀name,NX name od=some (mA name):=by
 obtain⟨o,es,ep,ho,hd,hk,_,hm⟩:=n;refine⟨o,ho,λname=> ?_⟩
 have e:=hm name;unfold nsFind findBy at e;rw[<-Oh]at e
 unfold NX;rw[hd]
 dsimp only
 split
 ·rename_i y q
  rw[q]at e;exact congrArg some e
 ·rename_i q
  rw[q]at e
  have a:es.toList.any (·.refKey)=false:=by
   rw[List.any_eq_false];intro y hy;obtain⟨z,t,hkey⟩:=hk y (Array.mem_toList_iff.mp hy);simp[DictEntry.refKey,hkey]
  have a':¬ es.toList.any (·.refKey)=true:=by rw[a];exact Io
  rw[if_neg a'];exact congrArg some e
theorem ObjM.look {h:Heap}{x dx C:Addr}{mA:Str->Option HL}(I:ObjM h x dx C mA):∃od,PySem.W.InstAt h x (Nr C dx) C (some od)/\∀name,NX name od=some (mA name):=
 let ⟨od,ho,hl⟩:=uk I.ns
 ⟨od,⟨I.obj,rfl,rfl,ho⟩,hl⟩
section
variable {prog:Ip}{w:IV}{A:IE}{E:HL->HJ->Prop}{s:HJ}{K:HI}{x dx C f:Addr}{mA:Str->Option HL}{name:Str}{v:HL}
theorem iu {expr:Bool}{Q:HL->HJ->Prop}(X:K.In s.heap)(I:ObjM s.heap x dx C mA)(hg:Nf K C name=true)(hh:OW K C=true)
  (ha:NY K (.ref C) name=some none) (hv:mA name=some v) (hv':PySem.W.handedIn v=true) (h:Q v { s with toks:=s.toks+1 }) :
  wpAny (model prog w) A (getAttr (.ref x) name expr) Q E s:=by
 obtain⟨od,J,hl⟩:=I.look;exact PySem.W.get_value X J (PySem.W.plainGet_of hg).1 (PySem.W.findObj_own hh ha rfl (by rw[hl,hv])) hv' h
end
theorem RelO.some_of {v:V}{o:Option HL}(r:RelO (some v) o):∃u,o=some u/\RelV v u:=by
 cases o with
 | none=>exact(show False from r).elim
 | some u=>exact⟨u,rfl,r⟩
section
variable {P:Ip}{w:IV}{H H':Hp}{h h':Heap}{a C dx:Addr}{fs fs':List (Str×V)}
theorem zN (hok:HOk P w H h)(e:H a=some (.ins C dx fs)):∃mA,ObjM h a dx C mA/\(∀f,RelO (fs.lookup f) (mA f))/\PySem.Within mA (fs.map (·.1))/\fs.length<=1000/\H dx=some (.own a):=by
 obtain⟨d,z,ne,ob,mA,n,r,q⟩:=(show ObjOk P w H h a (.ins C dx fs)from hok a _ e)
 exact⟨mA,⟨ob,n,ne⟩,r,q,z,d⟩
end
structure Cls (K:HI)(C:Addr):Prop where
 pg:Nf K C Str.empty=true
 hd:OW K C=true
 po:PySem.W.plainOver K C=true
 sa:NY K (.ref C) "__setattr__" =some (some (.builtin "object.__setattr__"))
theorem Cls.get {K:HI}{C:Addr}(c:Cls K C)(f:Str):Nf K C f=true:=c.pg
section
variable {X:Cx}{pins:List (Addr×Obj)}{σ:St}{H:Hp}{s:HJ}{A:IE}{E:HL->HJ->Prop}{Q:HL->HJ->Prop}{c:HL}{b:Bool}
inductive j6 (K:HI) (H:Hp):V->HL->Prop where
 | non:j6 K H .non (.type "NoneType")
 | bl (x:Bool):j6 K H (.bl x) (.type "bool")
 | int (i:Int):j6 K H (.int i) (.type "int")
 | str (x:Str):j6 K H (.str x) (.type "str")
 | flt (x:UInt64):j6 K H (.flt x) (.type "float")
 | lst {a:Addr} {xs:List V} (e:H a=some (.lst xs)):j6 K H (.ref a) (.type "list")
 | frz {a:Addr} {o:Obj} {xs:List V} (e:H a=some (.frz o (.lst xs))):j6 K H (.ref a) (.type "list")
 | tup {a:Addr} {xs:List V} (e:H a=some (.tup xs)):j6 K H (.ref a) (.type "tuple")
 | dK {a:Addr} {kvs:List (Key×V)} (e:H a=some (.dK kvs)):j6 K H (.ref a) (.type "dict")
 | dT {a:Addr} {kvs:List (List Key×V)} (e:H a=some (.dT kvs)):j6 K H (.ref a) (.type "dict")
 | ins {a C dx:Addr} {fs:List (Str×V)} (e:H a=some (.ins C dx fs)) (cl:Cls K C) (ha:NY K (.ref C) "__class__" =some (some (.builtin "object.__class__")))
   (hn:PySem.W.specialIn K (.builtin "object.__class__") "__get__" =some (some (.builtin "getset_descriptor.__get__"))) (htk:PySem.W.takesIn K (.builtin "object.__class__")=some true)
   (hm:PySem.W.mroIn K C (.type "object")=some true):j6 K H (.ref a) (.ref C)
theorem uw {x:V}{u t:HL}(I:Inv X pins σ H s)(rx:RelV x u)(ty:j6 X.K H x t)(e:PySem.W.kitOne X.K t c=some b)(h:∀tk,Q (.bool b) { s with toks:=tk }) :
  wpAny (model X.prog X.w) A (call (.builtin "isinstance") [u,c]) Q E s:=by
 cases ty with
 | non=>cases (show u=IG from rx);exact JC PySem.W.kitx_none I.kIn LI e (λz=>nomatch z) h
 | bl y=>cases (show u=Jd y from rx);exact JC PySem.W.kitx_bool I.kIn LI e (λz=>nomatch z) h
 | int i=>obtain⟨t,q⟩:=(show ∃t,u=J3 i t from rx);cases q;exact JC PySem.W.kitx_int I.kIn LI e (λz=>nomatch z) h
 | str y=>obtain⟨t,q⟩:=(show ∃t,u=JD y t from rx);cases q;exact JC PySem.W.kitx_str I.kIn LI e (λz=>nomatch z) h
 | flt y=>obtain⟨t,q⟩:=(show ∃t,u=Value.float y t from rx);cases q;exact JC PySem.W.kitx_float I.kIn LI e (λz=>nomatch z) h
 | @lst a xs ea=>
  cases (show u=IB a from rx)
  obtain⟨_,_,n,_,h1⟩:=(show ObjOk X.prog X.w H s.heap a (.lst xs)from I.hok a _ ea)
  exact JC OY I.kIn ⟨_,h1,rfl⟩ e (λz=>nomatch z) h
 | @frz a ob xs ea=>
  cases (show u=IB a from rx)
  obtain⟨_,_,_,n,_,h1⟩:=(show ObjOk X.prog X.w H s.heap a (.frz ob (.lst xs))from I.hok a _ ea)
  exact JC OY I.kIn ⟨_,h1,rfl⟩ e (λz=>nomatch z) h
 | @tup a xs ea=>
  cases (show u=IB a from rx)
  obtain⟨_,_,_,p⟩:=(show ObjOk X.prog X.w H s.heap a (.tup xs)from I.hok a _ ea)
  obtain⟨o,h1,h2,_⟩:=p
  exact JC PySem.W.kitx_tuple I.kIn ⟨o,h1,h2⟩ e (λz=>nomatch z) h
 | @dK a kvs ea=>
  cases (show u=IB a from rx)
  obtain⟨_,_,vs,_,p⟩:=(show ObjOk X.prog X.w H s.heap a (.dK kvs)from I.hok a _ ea)
  obtain⟨o,es,ep,h1,h2,_⟩:=p
  exact JC OZ I.kIn ⟨o,h1,h2.1⟩ e (λz=>nomatch z) h
 | @dT a kvs ea=>
  cases (show u=IB a from rx)
  obtain⟨_,_,xs,_,o,es,ep,h1,h2,_⟩:=(show ObjOk X.prog X.w H s.heap a (.dT kvs)from I.hok a _ ea)
  exact JC OZ I.kIn ⟨o,h1,h2.1⟩ e (λz=>nomatch z) h
 | @ins a C dx fs ea cl ha hn htk hm=>
  cases (show u=IB a from rx)
  obtain⟨mA,O,_⟩:=zN I.hok ea;obtain⟨od,J,_⟩:=O.look;exact JC (PySem.W.kitx_own (cl.get _) cl.hd ha hn htk hm) I.kIn J e (λz=>nomatch z) h
end
structure Room (k:Nat)(A:IE):Prop where
 hd:A.handled=none
 dp:A.depth+3*k+5<KU
 un:A.units+16*k+200<cLine
theorem Room.mono {j k:Nat}{A:IE}(r:Room k A)(h:j<=k):Room j A:=⟨r.hd,by have:=r.dp;omega,by have:=r.un;omega⟩
theorem Room.deeper {k:Nat}{A:IE}(r:Room (k+1) A)(env:Env):Room k (A.deeper env):=
 ⟨r.hd,by have:=r.dp;show A.depth+1+3*k+5<_;omega,by have:=r.un;show A.units+3+16*k+200<_;omega⟩
theorem Room.depth {k:Nat}{A:IE}(r:Room k A):A.depth<KU:=by have:=r.dp;omega
def vH:TA:=λ_ H Q=>Q [] H
def jn (ta:TE)(tr:TA):TA:=λσ H Q=>ta σ H λx H1=>tr σ H1 λxs H2=>Q (x::xs) H2
section
variable {X:Cx}{e:Expr}{es:List Expr}{te:TE}{t:TA}{pos:Pos}
theorem fD:PA X [] vH:=λ_ _ _ _ H Q I h=>Kd ⟨[],H,I,.nil,h⟩
theorem b9 (ha:PE X e te)(hr:PA X es t)(hs:autoParam (Ik (e::es) X.env=(false,eval e X.env)::Ik es X.env) u_):PA X (e::es) (jn te t):=by
 intro pos pins s σ H Q I h;rw[hs]
 show wpAny _ _ (spliced ((false,eval e X.env)::backTo pos (Ik es X.env))) _ _ s
 refine J6 (bF (ha pins s σ H _ I h) λu s1 hh_=> ?_)
 obtain⟨x,H1,I1,r1,q1⟩:=hh_;exact bF (hr pos pins s1 σ H1 _ I1 q1) λus s2 ⟨xs,H2,I2,r2,q2⟩=>⟨x::xs,H2,I2,.cons r1 r2,q2⟩
def DZ (t:TA):TE:=λσ H Q=>t σ H λxs H1=>xs.length<=sizeLine/\∀p,H1 p=none->Q (.ref p) (cz H1 p (.tup xs))
def tLst (t:TA):TE:=λσ H Q=>t σ H λxs H1=>xs.length<=sizeLine/\∀p,H1 p=none->Q (.ref p) (cz H1 p (.lst xs))
theorem wj {x1}(h:PA X es t):PE X (.Tuple es x1 pos) (DZ t):=by
 intro pins s σ H Q I hq;refine wpAny_Tuple_spliced (bF (h pos pins s σ H _ I hq) λus s1 ⟨xs,H1,I1,r,z,q⟩=>⟨by rw[<-r.length];exact z,?_⟩)
 have hf:H1 s1.heap.objs.size=none:=I1.hok.fresh (Ia _);refine⟨.ref s1.heap.objs.size,cz H1 s1.heap.objs.size (.tup xs),I1.laid (t':=s1.toks) (λb u e=>HN _ e) (Ia _) ?_,rfl,q _ hf⟩
 exact⟨z,us,r,⟨_,Ie _ rfl,rfl,_,rfl⟩⟩
theorem wm (h:PA X es t):PE X (.List es pos) (tLst t):=by
 intro pins s σ H Q I hq;refine OB (bF (h pos pins s σ H _ I hq) λus s1 ⟨xs,H1,I1,r,z,q⟩=>⟨by rw[<-r.length];exact z,?_⟩)
 have hf:H1 s1.heap.objs.size=none:=I1.hok.fresh (Ia _);refine⟨.ref s1.heap.objs.size,cz H1 s1.heap.objs.size (.lst xs),I1.laid (t':=s1.toks) (λb u e=>HN _ e) (Ia _) ?_,rfl,q _ hf⟩
 exact⟨z,us,0,r,Ie _ rfl⟩
end
abbrev Sp:=List V->Hp->VK->XK->Prop
abbrev uO:=List Env->Hp->HJ->XK->HL->HJ->Prop
structure mK (P:Ip)(w:IV)(K:HI)(mg:Str->Option HL)(base:Heap)(A:IE)(outer:List Env)(s:HJ)(H:Hp):Prop where
 frames:A.frames=some outer
 mod:Mod K mg base
 bs:∀b o,base.get? b=some o->s.heap.get? b=some o/\H b=none
 bsz:base.objs.size<=s.heap.objs.size
 funs:s.heap.FunFrames base outer
 frf:∀b∈iX outer,H b=none
 hok:HOk P w H s.heap
 bare:NK s.gens
def CE (outer:List Env)(P:Ip)(w:IV)(H:Hp)(s:HJ)(Q:VK)(u:HL)(s':HJ):Prop:=
 ∃v H',s'.os=s.os/\NK s'.gens/\Un (iX outer) [] H H' s.heap s'.heap/\HOk P w H' s'.heap/\RelV v u/\Q v H'
def CR (CX:uO)(outer:List Env)(P:Ip)(w:IV)(H:Hp)(s:HJ)(Q:VK)(E:XK)(r:LH)(s':HJ):Prop:=
 match r with
 | .ok (.ret u)=>CE outer P w H s Q u s'
 | .ok _=>False
 | .error e=>CX outer H s E e s'
structure uN (P:Ip)(w:IV)(K:HI)(mg:Str->Option HL)(base:Heap)(CX:uO)(k:Nat)(f:Addr)(fd:Je)(ps:List Str)(sp:Sp):Prop where
 len:∀vs H Q E,sp vs H Q E->vs.length=ps.length
 run:∀(A:IE) (outer:List Env) (s:HJ) (H:Hp) (args:Args) (us:List HL) (vs:List V) (Q:VK) (E:XK),Room k A->mK P w K mg base A outer s H->Na s fd args (ps.zip us)->Vals vs us->sp vs H Q E →
  codeAny (model P w) A (.call (.ref f) args) (CR CX outer P w H s Q E) s
section
variable {X:Cx}{pins:List (Addr×Obj)}{σ:St}{H:Hp}{s s':HJ}
theorem Inv.G1 (I:Inv X pins σ H s):mK X.prog X.w X.K X.mg X.base X.A X.stack s H:=
 ⟨I.ok.frames,I.ok.mod,I.bs,IA I.ok.bsz I.sz,I.stack,I.Gy,I.hok,I.bare⟩
theorem Inv.after {Q:VK}{u:HL}(I:Inv X pins σ H s)(h:CE X.stack X.prog X.w H s Q u s'):EP X pins σ Q u s':=by
 obtain⟨v,H',os,bare,un,hok,r,q⟩:=h;obtain⟨hh,g,d,t,os'⟩:=s';obtain rfl:os'=s.os:=os;exact⟨v,H',I.call (h':=hh) (g':=g) (d':=d) (t':=t) (ch:=[]) un hok bare (λb z=>absurd z (by simp)),r,q⟩
end
def Ee (sp:Sp)(dvs:List V)(E:XK)(t:TA):TE:=λσ H Q=>t σ H λvs H1=>sp (vs++dvs) H1 Q E
def Binds (K:HI)(fd:Je)(ps:List Str)(ds:List HL):Prop:=
 ∀(s:HJ) (us:List HL),K.In s.heap->(us++ds).length=ps.length->Na s fd ⟨us,[]⟩ (ps.zip (us++ds))
theorem Binds.all {K:HI}{fd:Je}{ps:List Str}(h:∀us:List HL,us.length=ps.length->OF fd ⟨us,[]⟩=pure (ps.zip us)):Binds K fd ps []:=λs us _ hl=>by
 rw[Jc]at hl ⊢;exact .of_eq (h us hl)
def oZ (CX:uO)(X:Cx)(E:XK):Prop:=∀(pins:List (Addr×Obj)) (σ:St) (H:Hp) (s:HJ) (e:HL) (s':HJ),Inv X pins σ H s->CX X.stack H s E e s'->X.xe e s'
section
variable {X:Cx}{CX:uO}{k:Nat}{f C:Addr}{fd:Je}{ps:List Str}{sp:Sp}{dvs:List V}{ds:List HL}{E:XK}{x m:Str}{p pos apos:Pos}{e o:Expr}{es:List Expr}{ta:TE}{t:TA}
theorem BP {pins:List (Addr×Obj)}{σ:St}{H:Hp}{s:HJ}{Q:VK}{us:List HL}{vs:List V}(F:uN X.prog X.w X.K X.mg X.base CX k f fd ps sp)(hr:Room k X.A)(hb:Binds X.K fd ps ds)(hd:Vals dvs ds)(hx:oZ CX X E)
  (I:Inv X pins σ H s) (r:Vals vs us) (h:sp (vs++dvs) H Q E):wpAny (model X.prog X.w) X.A (call (.ref f) us) (EP X pins σ Q) X.xe s:=by
 have r2:Vals (vs++dvs) (us++ds):=r.append hd
 have hl:(us++ds).length=ps.length:=by rw[<-r2.length];exact F.len _ _ _ _ h
 refine wpAny_call (Pr (F.run X.A X.stack s H ⟨us,[]⟩ (us++ds) (vs++dvs) Q E hr I.G1 (hb s us I.kIn hl) r2 h) λr s' hq=> ?_)
 cases r with
 | error e=>exact hx pins σ H s e s' I hq
 | ok fl=>
  cases fl with
  | ret u=>exact I.after hq
  | next=>exact JY hq
  | brk=>exact JY hq
  | cont=>exact JY hq
theorem sv (F:uN X.prog X.w X.K X.mg X.base CX k f fd ps sp)(hr:Room k X.A)(hg:Gl X x)(hm:X.mg x=some (.ref f))(hk:KR X.K (.ref f)=true)(hb:Binds X.K fd ps ds)(hd:Vals dvs ds)(hx:oZ CX X E)
  (ha:PA X (e::es) t) (hdb:autoParam ((x == ("__debug__" : Str))=false) s_) (he:autoParam (Ik (e::es) X.env=(false,eval e X.env)::Ik es X.env) u_) (hpl:autoParam ((backTo pos (Ik es X.env)).any (·.1)=false) u_) :
  PE X (.Call (.Name x p) (e::es) [] pos) (Ee sp dvs E t):=by
 intro pins s σ H Q I h;refine Jw (gf I hg hm ?_ hdb)
 refine Mt (h₀:=X.base) I.ok.mod.kin hk (bF (ha pos pins s σ H _ I h) λus s1 ⟨vs,H1,I1,r,q⟩=>⟨I1.kIn,?_⟩) he hpl
 exact BP F hr hb hd hx I1 r q
end
structure bN (N P:List Str)(sc:K2):Prop where
 kind:sc.kind= .function
 co:sc.isCoroutine=false
 gen:sc.isGenerator=false
 nd:N.Nodup
 pre:N.take P.length=P
 par:∀x∈P,sc.names.lookup x=some .local\/sc.names.lookup x=some .cell
 nofree:∀y∈sc.names,y.2≠ .free
theorem nz {kindOf:Str->Option K1}{x:Str}:∀{binds:List (Str×HL)} {m:Str->Option HL},(∀v,(x,v)∉binds)->bindL kindOf binds m x=m x
 | [],_,_=>rfl
 | (n,v)::r,m,h=>by
  unfold bindL;rw[nz λw hw=>h w (HQ _ hw)]
  split
  ·have:x≠n:=by rintro rfl;exact h v HU
   simp[this]
  ·rfl
theorem nB {kindOf:Str->Option K1}{x:Str}:∀{binds:List (Str×HL)} {m:Str->Option HL},(∀v,(x,v)∉binds)->bindC kindOf binds m x=m x
 | [],_,_=>rfl
 | (n,v)::r,m,h=>by
  unfold bindC;rw[nB λw hw=>h w (HQ _ hw)]
  split
  ·rfl
  ·have:x≠n:=by rintro rfl;exact h v HU
   simp[this]
theorem nA {kindOf:Str->Option K1}{x:Str}{v:HL}:∀{P:List Str} {vs:List HL} {i:Nat} {m:Str->Option HL},P.Nodup->P[i]? =some x->vs[i]? =some v->kindOf x=some .local →
  bindL kindOf (P.zip vs) m x=some v
 | [],_,_,_,_,h,_,_=>by simp at h
 | _::_,[],_,_,_,_,h,_=>by simp at h
 | p::P,w::vs,0,m,nd,h1,h2,hk=>by
  simp at h1 h2;subst h1;subst h2
  show bindL kindOf ((p,w)::P.zip vs) m p=_
  unfold bindL;rw[nz λv hv=>(JE.mp nd).1 (KB hv).1,if_pos hk]
  simp
 | p::P,w::vs,i+1,m,nd,h1,h2,hk=>by
  show bindL kindOf ((p,w)::P.zip vs) m x=_
  unfold bindL;exact nA (i:=i) (JE.mp nd).2 (by simpa using h1) (by simpa using h2) hk
theorem nC {kindOf:Str->Option K1}{x:Str}{v:HL}:∀{P:List Str} {vs:List HL} {i:Nat} {m:Str->Option HL},P.Nodup->P[i]? =some x->vs[i]? =some v->kindOf x≠some .local →
  bindC kindOf (P.zip vs) m x=some v
 | [],_,_,_,_,h,_,_=>by simp at h
 | _::_,[],_,_,_,_,h,_=>by simp at h
 | p::P,w::vs,0,m,nd,h1,h2,hk=>by
  simp at h1 h2;subst h1;subst h2
  show bindC kindOf ((p,w)::P.zip vs) m p=_
  unfold bindC;rw[nB λv hv=>(JE.mp nd).1 (KB hv).1,if_neg hk]
  simp
 | p::P,w::vs,i+1,m,nd,h1,h2,hk=>by
  show bindC kindOf ((p,w)::P.zip vs) m x=_
  unfold bindC;exact nC (i:=i) (JE.mp nd).2 (by simpa using h1) (by simpa using h2) hk
def start (N:List Str)(vs:List V):St:=vs.map some++Iy (N.length - vs.length) none
def eY (CX:uO)(P:Ip)(w:IV)(K:HI)(mg:Str->Option HL)(base:Heap)(N:List Str)(qual:Str)(scope:K2)(f:Addr)(cd:HL)(A:IE)(outer:List Env)(s:HJ)(H:Hp)(E:XK):Cx where
 prog:=P
 w:=w
 K:=K
 mg:=mg
 base:=base
 A:=A.deeper (envOfC qual scope s.heap.objs.size f cd)
 N:=N
 s₀:=s
 H₀:=H
 env:=envOfC qual scope s.heap.objs.size f cd
 outer:=outer
 stack:=envOfC qual scope s.heap.objs.size f cd::outer
 ex:=[]
 calm:=true
 fn:=λ_=>true
 pn:=[]
 xe:=λe s'=>wpAny (model P w) (A.deeper (envOfC qual scope s.heap.objs.size f cd)) (leaving (envOfC qual scope s.heap.objs.size f cd) e) (λ_ s''=>CX outer H s E e s'') (λe' s''=>CX outer H s E e' s'') s'
theorem qy {sc:K2}{n:Nat}{x:Str}(h:sc.names.lookup x=some .cell):∃c,(J4 n sc.names []).lookup x=some c:=by
 have q:=JV sc.names n [] (.inl h);exact Lj.mp q
theorem fV {CX:uO}{P:Ip}{w:IV}{K:HI}{mg:Str->Option HL}{base:Heap}{N ps:List Str}{qual:Str}{scope:K2}{f:Addr}{cd:HL}{A:IE}{outer:List Env}{s s1:HJ}{H:Hp}{E:XK}{us:List HL}{vs:List V}
  (S:bN N ps scope) (hd:A.handled=none) (e0:mK P w K mg base A outer s H) (hl:vs.length=ps.length) (r:Vals vs us)
  (x:InCallC s s.heap.objs.size (bindL (envOfC qual scope s.heap.objs.size f cd).kindOf (ps.zip us) λ_=>none) (J4 (s.heap.objs.size+1) scope.names []) (bindC (envOfC qual scope s.heap.objs.size f cd).kindOf (ps.zip us) λ_=>none) s1) :
  Inv (eY CX P w K mg base N qual scope f cd A outer s H E) [] (start N vs) H s1:=by
 have hpl:ps.length<=N.length:=by have:=congrArg JZ S.pre;rw[JI]at this;omega
 obtain⟨h1,tk,rfl,hk⟩:=x.done
 have noA:∀b:Addr,b∉(eY CX P w K mg base N qual scope f cd A outer s H E).ex:=λb z=>absurd (show b∈([]:List Addr)from z) (by simp)
 refine⟨⟨e0.mod,S.kind,rfl,rfl,Ia _,λy z c h1 h2=> ?_,λy hy=> ?_,λy c _ h=> ?_,λ_=>hd,NR e0.frames,.inr ⟨rfl,rfl⟩,λb z=>absurd z (noA b),e0.bs,e0.bsz,λb _ _=>noA b,λb z=>absurd z (noA b),e0.funs,e0.frf⟩,
  rfl,e0.bare,Un.kept hk,⟨_,x.toInCall.ns,λi y v h1 h2 h3=> ?_⟩,λy c h=>⟨_,x.cell y c h⟩,e0.hok.fresh (Ia _),λy c h=> ?_,λp hp=>absurd (show p∈([]:List (Addr×Obj))from hp) (by simp),e0.hok.kept hk,?_⟩
 ·exact name_of_addr x.apart (Kg h1) (Kg h2)
 ·have hy:scope.names.lookup y=some .cell\/scope.names.lookup y=some .free:=hy
  rcases hy with hy | hy
  ·exact qy hy
  ·exact absurd rfl (S.nofree _ (Kg hy))
 ·exact Li (x.above y c (Kg h))
 ·have hi:i<vs.length:=by
   unfold start at h2
   by_cases hi:i<vs.length
   ·exact hi
   ·rw[JT (by simpa using hi)]at h2
    rw[KN]at h2
    split at h2 <;> cases h2
  have ha:vs[i]? =some v:=by
   unfold start at h2;rw[JF (by simpa using hi),IQ]at h2
   cases e:vs[i]? with
   | none=>rw[e]at h2;cases h2
   | some a=>rw[e]at h2;cases h2;rfl
  obtain⟨u,hu,rv⟩:=r.get ha
  have hp:ps[i]? =some y:=by
   rw[<-S.pre,List.getElem?_take_of_lt (by omega)];exact h1
  have ndP:ps.Nodup:=by rw[<-S.pre];exact S.nd.sublist (O4 _ _)
  refine⟨u,rv,?_⟩
  rcases S.par y (Kb hp)with k | k
  ·exact .inl ⟨k,nA ndP hp hu k⟩
  ·obtain⟨c,e⟩:=qy (n:=s.heap.objs.size+1) k
   refine .inr ⟨.inl k,c,e,?_⟩
   have q:=x.cell y c e;rw[nC ndP hp hu (by show scope.names.lookup y≠_;rw[k];decide)]at q
   exact q
 ·exact e0.hok.fresh (Li (x.above y c (Kg h)))
 ·unfold start
  show _=N.length
  rw[HK,HP,List.length_replicate];omega
theorem qh {CX:uO}{P:Ip}{w:IV}{K:HI}{mg:Str->Option HL}{base:Heap}{k:Nat}{f:Addr}{name qual:Str}{params:MY}{body:List Stmt}{scope:K2}{dV kV doc pm cdv ct oc:HL}{an od:Option Addr}
  {osl:Array (Option HL)} {N ps:List Str} {sp:Sp} (lk:K.lookup f=some ⟨oc,od,.func (KI name qual params body scope dV kV doc pm an cdv ct),osl⟩) (hcd:MB K cdv qual=true) (S:bN N ps scope)
  (len:∀vs H Q E,sp vs H Q E->vs.length=ps.length)
  (hbody:∀(A:IE) (outer:List Env) (s:HJ) (H:Hp) (vs:List V) (Q:VK) (E:XK),Room k (A.deeper (envOfC qual scope s.heap.objs.size f cdv))->sp vs H Q E →
   ∃t,PSs (eY CX P w K mg base N qual scope f cdv A outer s H E) body t/\t { nx:=λ_ H'=>Q .non H',rt:=Q } (start N vs) H) :
  uN P w K mg base CX (k+1) f (KI name qual params body scope dV kV doc pm an cdv ct) ps sp:=by
 refine⟨len,λA outer s H args us vs Q E hr e0 hb r hsp=> ?_⟩
 have hl:=len _ _ _ _ hsp
 have KX:K.In s.heap:=e0.mod.kin.keeps λb o e=>(e0.bs b o e).1
 have lim:s.heap.NoLimit:=e0.mod.nolimit.keeps λb o e=>(e0.bs b o e).1
 have hkind:∀y∈ps.zip us,scope.names.lookup y.1=some .local\/(scope.names.lookup y.1=some .cell/\((J4 (s.heap.objs.size+1) scope.names []).lookup y.1).isSome=true):=λ⟨n,v⟩ hy=>by
  rcases S.par n (KB hy).1 with q | q
  ·exact .inl q
  ·exact .inr ⟨q,JV _ _ _ (.inl q)⟩
 refine LW hr.depth (KX _ _ lk) rfl S.co S.gen rfl (K0 KX hcd) (hb _ _ _ _ ?_)
 refine JU S.kind hkind λenv he s1 x=> ?_
 subst he;refine⟨lim.keeps x.toInCall.keep,Pt ?_⟩
 obtain⟨t,ht,hq⟩:=hbody A outer s H vs Q E (hr.deeper _) hsp
 have I:Inv (eY CX P w K mg base N qual scope f cdv A outer s H E) [] (start N vs) H s1:=fV S hr.hd e0 hl r x;refine IR (ht [] s1 (start N vs) H _ I hq) (λfl s' hs=> ?_) λe s' hs=>hs
 have fin:∀{σ':St} {H':Hp} {v:V} {u:HL},Inv (eY CX P w K mg base N qual scope f cdv A outer s H E) [] σ' H' s'->RelV v u->Q v H'->CE outer P w H s Q u s':=
  λ{σ' H' v u} J rv q=>⟨v,H',J.os,J.bare,J.base,J.hok,rv,q⟩
 cases fl with
 | ret u=>
  obtain⟨v,σ',H',J,rv,q⟩:=hs
  exact fin J rv q
 | next=>
  obtain⟨σ',H',J,q⟩:=hs
  exact fin (v:=V.non) (u:=IG) J rfl q
 | brk=>
  obtain⟨_,_,_,q⟩:=hs
  exact JY q
 | cont=>
  obtain⟨_,_,_,q⟩:=hs;exact JY q
end L2
namespace HT
open PySem PyProof.Rows
section
variable {prog:Ip}{w:IV}{A:IE}{E:HL->HJ->Prop}{s:HJ}
theorem cat_tup {t b:Addr}{vs ws:List HL}{Q:HL->HJ->Prop}(ht:Qc s.heap t vs.toArray)(hb:Qc s.heap b ws.toArray)(hv:vs≠ [])
  (h1:ws= []->Q (.ref t) s) (h2:ws≠ []->Q (.ref s.heap.objs.size) { s with heap:=s.heap.push { cls:=.type "tuple",data:=.seq (vs++ws).toArray } })
  (hsz:vs.length+ws.length<=sizeLine):wpAny (model prog w) A (J8 .Add (.ref t) (.ref b)) Q E s:=by
 obtain⟨⟨cls,dd,data,sl⟩,ho,hc,n,hd⟩:=id ht;obtain⟨⟨cls2,dd2,data2,sl2⟩,ho2,hc2,n2,hd2⟩:=id hb;simp only at hc hd hc2 hd2;subst hc hd hc2 hd2
 have e:vs.toArray++ws.toArray=(vs++ws).toArray:=by simp
 by_cases hw:ws= []
 ·exact Pu ⟨_,ho,rfl⟩ ⟨_,ho2,rfl⟩ Nk OG LF Lo (Lg _ _)
   (tuple_addW1 t b vs.toArray ws.toArray n n2 dd dd2 sl sl2 (by simpa using hv) (by simp[hw])) ⟨ho,ho2,h1 hw⟩
 ·refine Pu ⟨_,ho,rfl⟩ ⟨_,ho2,rfl⟩ Nk OG LF Lo (Lg _ _)
   (tuple_addW2 t b vs.toArray ws.toArray n n2 dd dd2 sl sl2 (by simpa using hv) (by simpa using hw) (by rw[Il,Il];exact hsz)) ⟨ho,ho2,?_⟩
  rw[e];exact h2 hw
def sIx (n d:Nat):Option Int->Nat
 | none=>d
 | some v=>if v<0 then(v+(n:Int)).toNat else min v.toNat n
theorem sIx_none (n d:Nat):sIx n d none=d:=rfl
theorem sIx_nat (n d k:Nat):sIx n d (some (k:Int))=min k n:=by
 show(if (k:Int)<0 then((k:Int)+(n:Int)).toNat else min (k:Int).toNat n)=min k n
 rw[if_neg (by omega),IY]
theorem BN (n d:Nat)(hd:d<=n)(o:Option Int):sIx n d o<=n:=by
 cases o with
 | none=>exact hd
 | some v=>
  show(if v<0 then(v+(n:Int)).toNat else min v.toNat n)<=n
  by_cases hv:v<0
  ·rw[if_pos hv];omega
  ·rw[if_neg hv];exact Nat.min_le_right _ _
theorem tE (v:Int)(n d:Nat):(if v<0 then max (v+(n:Int)) 0 else min v (n:Int))=((sIx n d (some v):Nat):Int):=by
 show(if v<0 then max (v+(n:Int)) 0 else min v (n:Int))=(((if v<0 then(v+(n:Int)).toNat else min v.toNat n):Nat):Int)
 by_cases hv:v<0
 ·simp only[if_pos hv];omega
 ·simp only[if_neg hv];omega
theorem rN (lo hi:Option Int)(n:Nat):Lb lo hi 1 (n:Int)=(((sIx n 0 lo:Nat):Int),((sIx n n hi:Nat):Int)):=by
 have h1:¬ ((1:Int)<0):=by omega
 unfold Lb;simp only[h1,if_false];refine Prod.ext ?_ ?_
 ·cases lo with
  | none=>rfl
  | some v=>exact tE v n 0
 ·cases hi with
  | none=>rfl
  | some v=>exact tE v n n
theorem qW (i j:Nat):Ku (i:Int) (j:Int) 1=j - i:=by
 unfold Ku
 have h1:(1:Int) > 0:=by omega
 simp only[h1,if_true,Int.ediv_one]
 split <;> omega
theorem k9 {v:HL}{o:Option Int}{Q:Option Int->HJ->Prop}(p:OH v o)(h:Q o s):wpAny (model prog w) A (PN v) Q E s:=by
 cases p with
 | none=>exact slicePart_none h
 | int i t=>exact slicePart_int h
theorem fP {sl:Addr}{vl vu:HL}{lo hi:Option Int}{n:Nat}{Q:Int×Int×Nat->HJ->Prop}(hs:s.heap.IsSliceOf sl vl vu .none)(pl:OH vl lo)(pu:OH vu hi)
  (h:Q (((sIx n 0 lo:Nat):Int),1,sIx n n hi - sIx n 0 lo) s):wpAny (model prog w) A (Mm (.ref sl) (pure (n:Int))) Q E s:=by
 obtain⟨os,hos,hcs,hds⟩:=id hs;unfold Mm Builtin.Slice.sliceFields;refine HM (HM (IW hos hds (x:=vl) rfl (HM (IW hos hds (x:=vu) rfl (HM (IW hos hds (x:=.none) rfl (HX ?_)))))))
 refine HM (slicePart_none ?_)
 show wpAny _ _ (if ((1:Int) == 0)=true then _ else _) _ _ s
 rw[if_neg (by decide)]
 refine HM (k9 pl (HM (k9 pu (HM (HX ?_)))))
 show wpAny _ _ (match Lb lo hi 1 (n:Int)with | (lo,hi)=>pure (lo,(1:Int),Ku lo hi 1)) _ _ s
 rw[rN lo hi n]
 show wpAny _ _ (pure (((sIx n 0 lo:Nat):Int),(1:Int),Ku ((sIx n 0 lo:Nat):Int) ((sIx n n hi:Nat):Int) 1)) _ _ s
 rw[qW];exact HX h
theorem we (xs:Array HL)(i k:Nat):((Js k).filterMap λ(m:Nat)=>xs[((i:Int)+(m:Int)*1).toNat]?).toArray=((xs.toList.drop i).take k).toArray:=by
 have e:(λ(m:Nat)=>xs[((i:Int)+(m:Int)*1).toNat]?)=λm=>xs[i+m]?:=by
  funext m
  have:((i:Int)+(m:Int)*1).toNat=i+m:=by omega
  rw[this]
 rw[e]
 have:=pick_run xs i k;rw[List.filterMap_map]at this
 have e2:((λx=>xs[x]?)∘λx=>i+x)=λm=>xs[i+m]?:=rfl
 rw[e2]at this;rw[this]
theorem getItem_tuple_cut {t sl:Addr}{items:Array HL}{vl vu:HL}{lo hi:Option Int}{Q:HL->HJ->Prop}(ht:Qc s.heap t items)(hs:s.heap.IsSliceOf sl vl vu .none)(pl:OH vl lo)(pu:OH vu hi)
  (hw:¬ (sIx items.size 0 lo=0/\sIx items.size items.size hi=items.size))
  (h:Q (.ref s.heap.objs.size) { s with heap:=s.heap.push { cls:=.type "tuple",data:=.seq ((items.toList.drop (sIx items.size 0 lo)).take (sIx items.size items.size hi - sIx items.size 0 lo)).toArray } })
  (hsz:items.size<=sizeLine):wpAny (model prog w) A (getItem (.ref t) (.ref sl)) Q E s:=by
 have htake:sizeOk (.seq ((items.toList.drop (sIx items.size 0 lo)).take (sIx items.size items.size hi - sIx items.size 0 lo)).toArray):=by
  show((items.toList.drop (sIx items.size 0 lo)).take (sIx items.size items.size hi - sIx items.size 0 lo)).toArray.size<=sizeLine
  rw[Il,JI,Jh,Kf];omega
 have hj:sIx items.size items.size hi<=items.size:=BN _ _ (Ia _) hi;obtain⟨os,hos,hcs,hds⟩:=id hs
 have hTs:s.TypeIs (.ref sl) "slice":=⟨os,hos,hcs⟩;unfold getItem
 try with_reducible refine Jp ?_
 first | refine HM (HX ?_) | skip
 refine HM (Pe ht.typeIs (by decide) ?_)
 refine HM (Jq (name:=Ij "__getitem__") ht.typeIs Ji
  (JS Ji ht.typeIs N8 ?_ (OI _ _)))
 show wpAny _ _ (Mo (.ref t) >>= _) _ _ s
 refine HM (OJ ht ?_)
 refine HM (MA hTs ?_)
 rw[if_pos (by decide)]
 refine HM (fP hs pl pu ?_)
 have hno:¬ ((((sIx items.size 0 lo:Nat):Int) == 0&&(1:Int) == 1&&(sIx items.size items.size hi - sIx items.size 0 lo) == items.size)=true):=by
  intro q;rw[HS,HS]at q
  have q1:((sIx items.size 0 lo:Nat):Int)=0:=eq_of_beq q.1.1
  have q2:sIx items.size items.size hi - sIx items.size 0 lo=items.size:=eq_of_beq q.2;exact hw ⟨by omega,by omega⟩
 show wpAny _ _ (if (((sIx items.size 0 lo:Nat):Int) == 0&&(1:Int) == 1&&(sIx items.size items.size hi - sIx items.size 0 lo) == items.size)=true then _ else _) _ _ s
 rw[if_neg hno,we]
 first
  | exact HM (m:=J5 _) (JM (HX ⟨_,rfl,HX h⟩) htake)
  | exact HM (m:=J5 _) (JM (HM (HX (HX ⟨_,rfl,HX h⟩))) htake)
  | exact HM (HM (m:=J5 _) (JM (HX (HX ⟨_,rfl,HX h⟩)) htake))
  | exact HM (HM (m:=J5 _) (JM (HX ⟨_,rfl,HX h⟩) htake))
end
end HT
namespace L2
open PySem PySem.Spec PyProof.Rows
abbrev TO:=St->Hp->(Option Int->Hp->Prop)->Prop
def PO (X:Cx)(e:Option Expr)(t:TO):Prop:=
 ∀(pins:List (Addr×Obj)) (s:HJ) (σ:St) (H:Hp) (Q:Option Int->Hp->Prop),Inv X pins σ H s->t σ H Q →
  wpAny (model X.prog X.w) X.A (evalPart e X.env) (λu s'=> ∃o H',Inv X pins σ H' s'/\OH u o/\Q o H') X.xe s
def yD:TO:=λ_ H Q=>Q none H
def D6 (t:TE):TO:=λσ H Q=>t σ H λx H1=> ∃i,x= .int i/\Q (some i) H1
theorem rC {ns:List Int}:∀{us:List HL},Vals (ns.map V.int) us->MJ us ns:=by
 induction ns with
 | nil=>intro us r;rw[Mu]at r;cases r;exact .nil
 | cons n ns ih=>
  intro us r;rw[HW]at r
  cases r with
  | cons r1 r2=>
   obtain⟨t,e⟩:=r1;subst e;exact .cons n t (ih r2)
section
variable {X:Cx}{e:Expr}{te:TE}{lo hi:Option Expr}{tl th:TO}{pos p2:Pos}
theorem zb:PO X none yD:=by
 intro pins s σ H Q I h;rw[OK];exact HX ⟨none,H,I,.none,h⟩
theorem za (h:PE X e te):PO X (some e) (D6 te):=by
 intro pins s σ H Q I hw;rw[evalPart_some];refine bF (h pins s σ H _ I hw) λu s1 hh_=> ?_
 obtain⟨x,H1,I1,r1,q1⟩:=hh_;obtain⟨i,rfl,q⟩:=q1;obtain⟨t,rfl⟩:=r1;exact⟨some i,H1,I1,.int i t,q⟩
def SlR (X:Cx)(r:V->Option Int->Option Int->Hp->VK->Prop):Prop:=
 ∀(pins:List (Addr×Obj)) (s:HJ) (σ:St) (H:Hp) (x:V) (v vl vu:HL) (lo hi:Option Int) (sl:Addr) (Q:VK),Inv X pins σ H s->RelV x v->s.heap.IsSliceOf sl vl vu .none->OH vl lo->OH vu hi->r x lo hi H Q →
  ∃T id,LM (.type T) "__getitem__" =pure (some (.builtin id))/\s.TypeIs v T/\wpAny (model X.prog X.w) X.A (getItem v (.ref sl)) (EP X pins σ Q) X.xe s
theorem SlR.or {r r':V->Option Int->Option Int->Hp->VK->Prop}(h:SlR X r)(h':SlR X r'):SlR X (λx lo hi H Q=>r x lo hi H Q\/r' x lo hi H Q):=by
 intro pins s σ H x v vl vu lo hi sl Q I rx hs pl pu q;rcases q with q | q
 ·exact h pins s σ H x v vl vu lo hi sl Q I rx hs pl pu q
 ·exact h' pins s σ H x v vl vu lo hi sl Q I rx hs pl pu q
def tSl (r:V->Option Int->Option Int->Hp->VK->Prop)(te:TE)(tl th:TO):TE:=λσ H Q=>te σ H λx H1=>tl σ H1 λl H2=>th σ H2 λu H3=>r x l u H3 Q
theorem pO {r:V->Option Int->Option Int->Hp->VK->Prop}(hr:SlR X r)(he:PE X e te)(hl:PO X lo tl)(hu:PO X hi th):PE X (.Subscript e (.Slice lo hi none p2) pos) (tSl r te tl th):=by
 intro pins s σ H Q I h;refine Pf (bF (he pins s σ H _ I h) λv s1 hh_=> ?_)
 obtain⟨x,H1,I1,r1,q1⟩:=hh_;refine wpAny_Slice (bF (hl pins s1 σ H1 _ I1 q1) λvl s2 ⟨l,H2,I2,pl,q2⟩=>bF (hu pins s2 σ H2 _ I2 q2) λvu s3 hh_=> ?_)
 obtain⟨u,H3,I3,pu,q3⟩:=hh_;rw[OK];refine HX ?_
 have I4:Inv X pins σ H3 { s3 with heap:=s3.heap.push { cls:=.type "slice",data:=.fields #[vl,vu,.none] } }:=I3.kept (t':=s3.toks) λb ob q=>HN _ q
 obtain⟨T,id,hT,ht,hg⟩:=hr pins { s3 with heap:=s3.heap.push { cls:=.type "slice",data:=.fields #[vl,vu,.none] } } σ H3 x v vl vu l u s3.heap.objs.size Q I4 r1 (Od ..) pl pu q3
 show wpAny (model X.prog X.w) X.A (Nb e (.Slice lo hi none p2) v (.ref s3.heap.objs.size)) (EP X pins σ Q) X.xe { s3 with heap:=s3.heap.push { cls:=.type "slice",data:=.fields #[vl,vu,.none] } }
 exact tail_any (ops:=[.ref s3.heap.objs.size,v]) ht hT hg (by with_unfolding_all rfl)
def qx (xs:List V)(lo hi:Option Int):List V:=(xs.drop (HT.sIx xs.length 0 lo)).take (HT.sIx xs.length xs.length hi - HT.sIx xs.length 0 lo)
theorem km (xs:List V)(lo hi:Option Int):(qx xs lo hi).length<=xs.length:=by
 unfold qx;rw[JI,Jh];omega
def rSlT (K:HI):V->Option Int->Option Int->Hp->VK->Prop:=λx lo hi H Q=> ∃a xs,x= .ref a/\SqT K H a xs ∧
 ¬(HT.sIx xs.length 0 lo=0/\HT.sIx xs.length xs.length hi=xs.length)/\∀p,H p=none->Q (.ref p) (cz H p (.tup (qx xs lo hi)))
theorem sl_tup:SlR X (rSlT X.K):=by
 intro pins s σ H x v vl vu lo hi sl Q I rx hs pl pu h;obtain⟨a,xs,rfl,hx,hw,q⟩:=h;cases rx;obtain⟨its,r,ht,hz⟩:=I.tuple hx
 have hlen:its.toArray.size=xs.length:=by rw[Il];exact r.length.symm
 refine⟨"tuple",_,Ji.lookup,ht.typeIs,?_⟩
 refine HT.getItem_tuple_cut ht hs pl pu (by rw[hlen];exact hw) ?_ (by rw[hlen];exact hz)
 rw[hlen];refine⟨.ref s.heap.objs.size,_,I.laid (t':=s.toks) (o:=.tup (qx xs lo hi)) (λb ob q=>HN _ q) (Ia _) ?_,rfl,q _ (I.hok.fresh (Ia _))⟩
 exact⟨IA (km xs lo hi) hz,_,(r.drop (HT.sIx xs.length 0 lo)).take (HT.sIx xs.length xs.length hi - HT.sIx xs.length 0 lo),Oi _ _⟩
def Ez (K:HI):R2:=λx y H Q=> ∃a b xs ys,x= .ref a/\y= .ref b/\SqT K H a xs/\SqT K H b ys/\xs≠ []/\xs.length+ys.length<=sizeLine ∧
 (ys= []->Q (.ref a) H)/\(ys≠ []->∀p,H p=none->Q (.ref p) (cz H p (.tup (xs++ys))))
theorem Vals.Da {xs:List V}{us:List HL}(r:Vals xs us):us= [] ↔xs= []:=by
 cases r with
 | nil=>simp
 | cons _ _=>simp
theorem zp:mJ X (J8 .Add) (Ez X.K):=by
 intro pins s σ H x y v u Q I rx ry h;obtain⟨a,b,xs,ys,rfl,rfl,ha,hb,hx,hz,q1,q2⟩:=h;cases rx;cases ry;obtain⟨its,r1,p1,_⟩:=I.tuple ha;obtain⟨its2,r2,p2,_⟩:=I.tuple hb;refine HT.cat_tup p1 p2 (λz=>hx (r1.Da.mp z)) (λz=>⟨.ref a,H,I,rfl,q1 (r2.Da.mp z)⟩) (λz=> ?_) (by rw[<-r1.length,<-r2.length];exact hz)
 refine⟨.ref s.heap.objs.size,_,I.laid (t':=s.toks) (o:=.tup (xs++ys)) (λb ob q=>HN _ q) (Ia _) ?_,rfl,q2 (λw=>z (r2.Da.mpr w)) _ (I.hok.fresh (Ia _))⟩
 exact⟨by rw[HK];exact hz,_,r1.append r2,Oi _ _⟩
end
def ixN (n:Nat)(i:Int):Option Nat:=if 0<=i then(if i<n then some i.toNat else none)else if -(n:Int)<=i then some (i+n).toNat else none
def atI {α:Type}(xs:List α)(i:Int):Option α:=(ixN xs.length i).bind λj=>xs[j]?
theorem zK {n:Nat}{i:Int}{j:Nat}(h:ixN n i=some j):seqIndex? i n=some j/\j<n/\-(n:Int)<=i/\i<n:=by
 unfold ixN at h
 by_cases h0:0<=i
 ·rw[if_pos h0]at h
  by_cases h1:i<n
  ·rw[if_pos h1]at h
   have e:i.toNat=j:=IT h;exact⟨by rw[seqIndex_of h0 h1,e],by omega,by omega,h1⟩
  ·rw[if_neg h1]at h;cases h
 ·rw[if_neg h0]at h
  by_cases h1 : -(n:Int)<=i
  ·rw[if_pos h1]at h
   have e:(i+n).toNat=j:=IT h;exact⟨by rw[seqIndex_neg (by omega) h1,e],by omega,h1,by omega⟩
  ·rw[if_neg h1]at h;cases h
theorem oX {α:Type}{xs:List α}{i:Int}{v:α}(h:atI xs i=some v):∃j,seqIndex? i xs.length=some j/\xs[j]? =some v/\j<xs.length/\-(xs.length:Int)<=i/\i<xs.length:=by
 unfold atI at h
 cases e:ixN xs.length i with
 | none=>rw[e]at h;cases h
 | some j=>
  rw[e]at h;obtain⟨h1,h2,h3,h4⟩:=zK e;exact⟨j,h1,h,h2,h3,h4⟩
def tL (b:Expr):Prop:=∀o i,N9 b false o i=operate [o,i] (getItem o i)
def IxR (X:Cx)(r:R2):Prop:=
 ∀(value slice:Expr) (pins:List (Addr×Obj)) (s:HJ) (σ:St) (H:Hp) (x y:V) (v u:HL) (Q:VK),Inv X pins σ H s->RelV x v->RelV y u->r x y H Q →
  N9 slice false v u=operate [v,u] (getItem v u)->wpAny (model X.prog X.w) X.A (Nb value slice v u) (EP X pins σ Q) X.xe s
def MtR (X:Cx)(id:String)(r:V->List V->Hp->VK->Prop):Prop:=
 ∀(pins:List (Addr×Obj)) (s:HJ) (σ:St) (H:Hp) (x:V) (xs:List V) (v:HL) (us:List HL) (Q:VK),Inv X pins σ H s->RelV x v->Vals xs us->r x xs H Q →
  wpAny (model X.prog X.w) X.A (call (.builtin id) (v::us)) (EP X pins σ Q) X.xe s
section
variable {X:Cx}{a b:Expr}{ta tb:TE}{pos:Pos}
theorem IxR.or {r r':R2}(h:IxR X r)(h':IxR X r'):IxR X (λx y H Q=>r x y H Q\/r' x y H Q):=by
 intro value slice pins s σ H x y v u Q I rx ry q hs;rcases q with q | q
 ·exact h value slice pins s σ H x y v u Q I rx ry q hs
 ·exact h' value slice pins s σ H x y v u Q I rx ry q hs
def Ey (K:HI):R2:=λx y H Q=> ∃p xs i v,x= .ref p/\y= .int i/\SqL K H p xs/\atI xs i=some v/\Q v H
def Eu (K:HI):R2:=λx y H Q=> ∃p xs i v,x= .ref p/\y= .int i/\SqT K H p xs/\atI xs i=some v/\Q v H
def Ew:R2:=λx y H Q=> ∃z i c,x= .str z/\y= .int i/\z.length<=sizeLine/\atI z.cps.toList i=some c/\Q (.str ⟨#[c]⟩) H
theorem ix_list:IxR X (Ey X.K):=by
 intro value slice pins s σ H x y v u Q I rx ry h hs;obtain⟨p,xs,i,z,rfl,rfl,hq,he,q⟩:=h;cases rx;obtain⟨t,rfl⟩:=ry;obtain⟨its,r,pl,hz⟩:=I.list hq;obtain⟨j,h1,h2,h3,h4,h5⟩:=oX he;obtain⟨w,ew,rw'⟩:=r.get h2
 have hl:=r.length
 have hn:=lD
 have fin:EP X pins σ Q w s:=⟨z,H,I,rw',q⟩
 by_cases h0:0<=i
 ·have hj:i.toNat=j:=by
   rw[seqIndex_of h0 h5]at h1;exact IT h1
  exact item_listR pl.isList h0 (by omega) (by rw[hj];simpa using ew) fin hs
 ·have hj:(i+(its.toArray.size:Int)).toNat=j:=by
   rw[seqIndex_neg (by omega) h4]at h1
   rw[Il,<-hl];exact IT h1
  exact Np (x:=w) pl.isList.typeIs slot_list_getitem.lookup
   (wpAny_getItem_list_neg (Q:=λr s'=>r=w/\EP X pins σ Q r s') pl.isList (by omega) (by rw[Il] <;> omega) (by omega) (by rw[hj];simpa using ew) ⟨rfl,fin⟩) hs
theorem ix_tup:IxR X (Eu X.K):=by
 intro value slice pins s σ H x y v u Q I rx ry h hs;obtain⟨p,xs,i,z,rfl,rfl,hq,he,q⟩:=h;cases rx;obtain⟨t,rfl⟩:=ry;obtain⟨its,r,pl,hz⟩:=I.tuple hq;obtain⟨j,h1,h2,h3,h4,h5⟩:=oX he;obtain⟨w,ew,rw'⟩:=r.get h2
 have hl:=r.length
 have hn:=lD
 have fin:EP X pins σ Q w s:=⟨z,H,I,rw',q⟩
 exact Np (x:=w) pl.typeIs slot_tuple_getitem.lookup
  (getItem_tuple (j:=j) (Q:=λr s'=>r=w/\EP X pins σ Q r s') pl (by omega) (by omega) (by rw[Il,<-hl];exact h1) (by simpa using ew) ⟨rfl,fin⟩) hs
theorem CU:IxR X Ew:=by
 intro value slice pins s σ H x y v u Q I rx ry h hs;obtain⟨z,i,c,rfl,rfl,hz,he,q⟩:=h;obtain⟨t,rfl⟩:=rx;obtain⟨t',rfl⟩:=ry;obtain⟨j,h1,h2,h3,h4,h5⟩:=oX he
 have hl:z.cps.toList.length=z.length:=by simp[Str.length]
 rw[hl]at h1 h4 h5
 have hn:=lD
 exact tail_any (typeIs_str s z t) slot_str_getitem.lookup (getItem_str (c:=c) (by
  have e1:decide (i< -(2 ^ 63:Int))=false:=decide_eq_false (by omega)
  have e2:decide (i ≥ 2 ^ 63)=false:=decide_eq_false (by omega)
  rw[e1,e2,M4]) (by rw[h1];simpa using h2) ⟨.str ⟨#[c]⟩,H,I.tok _,⟨_,rfl⟩,q⟩) hs
def rIx (K:HI):R2:=λx y H Q=>Ey K x y H Q\/Eu K x y H Q\/Ew x y H Q
theorem CV:IxR X (rIx X.K):=ix_list.or (ix_tup.or CU)
theorem nY (lo hi:Option Int)(n:Nat):(LN lo hi none n).1=((HT.sIx n 0 lo:Nat):Int)/\(LN lo hi none n).2.1=((HT.sIx n n hi:Nat):Int)/\(LN lo hi none n).2.2=1:=by
 refine⟨?_,?_,rfl⟩
 ·cases lo with
  | none=>simp[LN,HT.sIx]
  | some i=>
   simp only[LN,HT.sIx,Py,show(1:Int) > 0 by decide,if_true]
   by_cases h:i<0
   ·simp only[h,if_true] <;> omega
   ·simp only[h,if_false] <;> omega
 ·cases hi with
  | none=>simp[LN,HT.sIx]
  | some i=>
   simp only[LN,HT.sIx,Py,show(1:Int) > 0 by decide,if_true]
   by_cases h:i<0
   ·simp only[h,if_true] <;> omega
   ·simp only[h,if_false] <;> omega
theorem mq (its:List HL)(lo hi:Option Int):slicePick its.toArray lo hi none=((its.drop (HT.sIx its.length 0 lo)).take (HT.sIx its.length its.length hi - HT.sIx its.length 0 lo)).toArray:=by
 obtain⟨h1,h2,h3⟩:=nY lo hi its.toArray.size;unfold slicePick;rw[h1,h2,h3];simp only[sliceRange_one,pick_run,Il] <;> rfl
def rSlL (K:HI):V->Option Int->Option Int->Hp->VK->Prop:=λx lo hi H Q=> ∃a xs,x= .ref a/\SqL K H a xs/\∀p,H p=none->Q (.ref p) (cz H p (.lst (qx xs lo hi)))
theorem sd:SlR X (rSlL X.K):=by
 intro pins s σ H x v vl vu lo hi sl Q I rx hs pl pu h;obtain⟨a,xs,rfl,hx,q⟩:=h;cases rx;obtain⟨its,r,ht,hz⟩:=I.list hx
 have hlen:=r.length;refine⟨"list",_,slot_list_getitem.lookup,ht.isList.typeIs,?_⟩
 refine wpAny_getItem_list_slice ht.isList hs pl pu .none (by simp) ?_ (by rw[Il] <;> omega)
 rw[mq,<-hlen];refine⟨.ref s.heap.objs.size,_,I.laid (t':=s.toks) (o:=.lst (qx xs lo hi)) (λb ob q=>HN _ q) (Ia _) ?_,rfl,q _ (I.hok.fresh (Ia _))⟩
 exact⟨IA (km xs lo hi) hz,_,0,(r.drop (HT.sIx xs.length 0 lo)).take (HT.sIx xs.length xs.length hi - HT.sIx xs.length 0 lo),Ie _ rfl⟩
theorem call_len_seq:CallR X (.builtin "len") (λxs H Q=> ∃p ys,xs= [.ref p]/\(SqL X.K H p ys\/SqT X.K H p ys)/\Q (.int ys.length) H):=by
 intro pins s σ H xs us Q I r h;obtain⟨p,ys,rfl,hq,q⟩:=h;obtain⟨u,rfl,rx⟩:=jg r;cases rx
 have hn:=lD;rcases hq with hq | hq
 ·obtain⟨its,r',pl,hz⟩:=I.list hq
  have hlen:=r'.length;exact Calls.call_len_list pl.isList (by simp only[Il] <;> omega) ⟨.int ys.length,H,I.tok _,⟨s.toks+1,by rw[Il,hlen]⟩,q⟩
 ·obtain⟨its,r',pl,hz⟩:=I.tuple hq
  have hlen:=r'.length;exact len_tuple pl (by simp only[Il] <;> omega) ⟨.int ys.length,H,I.tok _,⟨s.toks+1,by rw[Il,hlen]⟩,q⟩
theorem oQ:CallR X (.builtin "len") (λxs H Q=> ∃z,xs= [.str z]/\z.length<=sizeLine/\Q (.int z.length) H):=by
 intro pins s σ H xs us Q I r h;obtain⟨z,rfl,hz,q⟩:=h;obtain⟨u,rfl,t,rfl⟩:=jg r
 have hn:=lD;exact len_str (by omega) ⟨.int z.length,H,I.tok _,⟨_,rfl⟩,q⟩
theorem CallR.or {f:HL}{r r':List V->Hp->VK->Prop}(h:CallR X f r)(h':CallR X f r'):CallR X f (λxs H Q=>r xs H Q\/r' xs H Q):=by
 intro pins s σ H xs us Q I rs q;rcases q with q | q
 ·exact h pins s σ H xs us Q I rs q
 ·exact h' pins s σ H xs us Q I rs q
theorem oP:CallR X (.type "list") (λxs H Q=> ∃p ys,xs= [.ref p]/\(SqL X.K H p ys\/SqT X.K H p ys)/\∀l,H l=none->Q (.ref l) (cz H l (.lst ys))):=by
 intro pins s σ H xs us Q I r h;obtain⟨p,ys,rfl,hq,q⟩:=h;obtain⟨u,rfl,rx⟩:=jg r;cases rx
 have fin:∀(its:List HL),Vals ys its->ys.length<=sizeLine->∀(h':Heap) (c':Nat),(∀b o',s.heap.get? b=some o'->h'.get? b=some o') →
   h'.get? s.heap.objs.size=some { cls:=.type "list",dict:=none,data:=.seq its.toArray c',slots:=#[] }->EP X pins σ Q (.ref s.heap.objs.size) { s with heap:=h' }:=λits r' hz h' c' kp e=>
  ⟨.ref s.heap.objs.size,_,I.laid (t':=s.toks) kp (Ia _) (show ObjOk X.prog X.w _ h' _ (.lst ys)from⟨hz,its,c',r',e⟩),rfl,q _ (I.hok.fresh (Ia _))⟩
 rcases hq with hq | hq
 ·obtain⟨its,r',pl,hz⟩:=I.list hq
  have hlen:=r'.length;obtain⟨o,ho,hc,n,hd⟩:=pl.isList;exact call_list_seq p (.inl rfl) ho hc hd (λh' c' kp e=>fin its r' hz h' c' kp e) (by simp only[Il] <;> omega)
 ·obtain⟨its,r',pl,hz⟩:=I.tuple hq
  have hlen:=r'.length;obtain⟨o,ho,hc,n,hd⟩:=pl;exact call_list_seq p (.inr rfl) ho hc hd (λh' c' kp e=>fin its r' hz h' c' kp e) (by simp only[Il] <;> omega)
theorem mI:CallR X (.type "tuple") (λxs H Q=> ∃p ys,xs= [.ref p]/\((SqL X.K H p ys/\∀l,H l=none->Q (.ref l) (cz H l (.tup ys)))\/(SqT X.K H p ys/\Q (.ref p) H))):=by
 intro pins s σ H xs us Q I r h;obtain⟨p,ys,rfl,h⟩:=h;obtain⟨u,rfl,rx⟩:=jg r;cases rx;rcases h with⟨hq,q⟩ | ⟨hq,q⟩
 ·obtain⟨its,r',pl,hz⟩:=I.list hq
  have hlen:=r'.length;refine call_tuple_list pl.isList (λh' kp=> ?_) (by simp only[Il] <;> omega)
  have I1:Inv X pins σ H { s with heap:=h' }:=I.kept (t':=s.toks) kp
  have I2:Inv X pins σ (cz H h'.objs.size (.tup ys)) { s with heap:=h'.push { cls:=.type "tuple",data:=.seq its.toArray } }:=
   I1.laid (t':=s.toks) (λb o e=>HN _ e) (Ia _) (show ObjOk X.prog X.w _ _ _ (.tup ys)from⟨hz,its,r',Oi _ _⟩)
  exact⟨.ref h'.objs.size,_,I2,rfl,q _ (I1.hok.fresh (Ia _))⟩
 ·obtain⟨its,r',pl,hz⟩:=I.tuple hq
  exact call_tuple_same pl ⟨.ref p,H,I,rfl,q⟩
def tyV (K:HI)(T:String)(x:V)(H:Hp):Prop:=match x with
 | .str _=>T= "str"
 | .int _=>T= "int"
 | .ref p=>(T= "list"/\∃xs,SqL K H p xs)\/(T= "tuple"/\∃o,K.lookup p=some o/\o.cls= .type "tuple"/\o.dict=none) ∨
   (T= "dict"/\((∃kvs,H p=some (.dK kvs))\/∃kvs,H p=some (.dT kvs)))\/(T= "set"/\∃S n,H p=some (.set S n))
 | _=>False
theorem Bz {pins:List (Addr×Obj)}{σ:St}{H:Hp}{s:HJ}{T:String}{x:V}{v:HL}(I:Inv X pins σ H s)(r:RelV x v)(ty:tyV X.K T x H) :
  s.TypeIs v T/\∀a,v= .ref a->∃ob,s.heap.get? a=some ob/\ob.dict=none:=by
 cases x with
 | str z=>
  obtain⟨t,rfl⟩:=r;cases (show T= "str" from ty)
  exact⟨typeIs_str s z t,λ_ e=>nomatch e⟩
 | int i=>
  obtain⟨t,rfl⟩:=r;cases (show T= "int" from ty)
  exact⟨NP s i t,λ_ e=>nomatch e⟩
 | ref p=>
  cases r;rcases ty with⟨rfl,xs,hq⟩ | ⟨rfl,o,hk,hc,hd⟩ | ⟨rfl,hk⟩ | ⟨rfl,S,n,hk⟩
  ·obtain⟨its,_,pl,_⟩:=I.list hq
   refine⟨pl.isList.typeIs,λa e=> ?_⟩
   cases e;obtain⟨o,n,e,c,hd,_⟩:=pl;exact⟨o,e,hd⟩
  ·refine⟨⟨o,I.kIn p o hk,hc⟩,λa e=> ?_⟩
   cases e;exact⟨o,I.kIn _ o hk,hd⟩
  ·have z:∃o,s.heap.get? p=some o/\o.ExactDict:=by
    rcases hk with⟨kvs,hk⟩ | ⟨kvs,hk⟩
    ·obtain⟨_,_,_,_,o,_,_,e,ex,_⟩:=I.hok p _ hk
     exact⟨o,e,ex⟩
    ·obtain⟨_,_,_,_,o,_,_,e,ex,_⟩:=I.hok p _ hk
     exact⟨o,e,ex⟩
   obtain⟨o,e,ex⟩:=z;refine⟨⟨o,e,ex.1⟩,λa e2=> ?_⟩
   cases e2;exact⟨o,e,ex.2.1⟩
  ·obtain⟨o,_,_,_,e,ex,_⟩:=I.hok p _ hk
   refine⟨⟨o,e,ex.1⟩,λa e2=> ?_⟩
   cases e2
   exact⟨o,e,ex.2.1⟩
 | _=>exact JY ty
def tBM (K:HI)(T:String)(r:V->List V->Hp->VK->Prop)(to:TE)(t:TA):TE:=λσ H Q=>to σ H λx H1=>tyV K T x H1/\t σ H1 λxs H2=>r x xs H2 Q
variable {o e:Expr}{es:List Expr}{to:TE}{t:TA}{name:Str}{apos cpos:Pos}{T id:String}{r:V->List V->Hp->VK->Prop}
theorem wu (pa:PlainAttrs T)(slot:Slot T name id)(hty:typeOf (.builtin id)=pure (.type "method_descriptor"))(hm:MtR X id r)(ho:PE X o to)(ha:PA X (e::es) t)
  (hbase:autoParam (J1 o name X.env (eval o X.env)=eval o X.env) u_)
  (hfew:((backTo cpos (Ik (e::es) X.env)).all (λx=> !x.1)&&(backToKw cpos (keywordEach [] X.env)).all (λx=>x.1.isSome)
   &&decide ((e::es).length+([]:List Keyword).length+(if ([]:List Keyword).isEmpty then 0 else 1)<30))=true:=by rfl)
  (hline:autoParam ((apos.endLine == cpos.line)=true) u_) (hs:autoParam (Ik (e::es) X.env=(false,eval e X.env)::Ik es X.env) u_) (hplain:autoParam ((backTo cpos (Ik es X.env)).any (·.1)=false) u_) :
  PE X (.Call (.Attribute o name apos) (e::es) [] cpos) (tBM X.K T r to t):=by
 intro pins s σ H Q I h;refine KZ hbase hfew hline rfl (bF (ho pins s σ H _ I h) λv s1 hh_=> ?_)
 obtain⟨x,H1,I1,r1,ty,q1⟩:=hh_;obtain⟨h1,h2⟩:=Bz I1 r1 ty;refine⟨T,id,pa,slot,hty,h1,h2,?_⟩
 have hA:=ha cpos pins s1 σ H1 _ I1 q1;rw[hs]at hA ⊢;refine KW (by show(false||(backTo cpos (Ik es X.env)).any (·.1))=false;rw[hplain] <;> rfl) (Kx ?_)
 exact bF hA λus s2 ⟨vs,H2,I2,r2,q2⟩=>hm pins s2 σ H2 x vs v us Q I2 r1 r2 q2
end
def MtM (X:Cx)(id:String)(r:V->List V->Hp->VK->Prop):Prop:=
 ∀(pins:List (Addr×Obj)) (s:HJ) (σ:St) (H:Hp) (x:V) (xs:List V) (v:HL) (us:List HL) (Q:VK),Inv X pins σ H s->RelV x v->Vals xs us->r x xs H Q →
  wpAny (model X.prog X.w) X.A (call (.builtin id) (v::us)) (EP X pins σ Q) X.xe s
theorem Vals.one:∀{x:V} {us:List HL},Vals [x] us->∃u,us= [u]/\RelV x u
 | _,_,.cons r .nil=>⟨_,rfl,r⟩
theorem Vals.rep {xs:List V}{us:List HL}(h:Vals xs us):∀k:Nat,Vals (Iy k xs).flatten (Iy k us).flatten
 | 0=> .nil
 | k+1=>by
  rw[J0,J0,Jt,Jt];exact Vals.append h (Vals.rep h k)
theorem foldl_rep (its:List HL):∀(k:Nat) (acc:List HL),
  MR (λx1 x2=>x1++x2) acc.toArray (Iy k its.toArray)=(acc++(Iy k its).flatten).toArray
 | 0,acc=>by simp
 | k+1,acc=>by
  have e:acc.toArray++its.toArray=(acc++its).toArray:=by simp
  have e2:(acc++its)++(Iy k its).flatten=acc++(Iy (k+1) its).flatten:=by
   rw[J0,Jt,Iq]
  rw[<-e2,<-foldl_rep its k (acc++its),<-e,J0,List.foldl_cons]
section
variable {X:Cx}{pins:List (Addr×Obj)}{σ:St}{H:Hp}{s:HJ}{l b:Addr}{xs ys zs:List V}
theorem Inv.Hg {its its':List HL}{n:Nat}{f:Array HL->Array HL}{t':Nat}(I:Inv X pins σ H s)(hH:H l=some (.lst xs))
  (e:s.heap.get? l=some { cls:=.type "list",data:=.seq its.toArray n }) (hf:f its.toArray=its'.toArray) (hv:Vals ys its') (hz:ys.length<=sizeLine) :
  Inv X pins σ (cz H l (.lst ys)) { s with heap:=s.heap.update l (Obj.mapSeq f),toks:=t' }:=by
 have q:=PySem.IsL.update e f;rw[hf]at q;refine I.write (x:=l) (e:=l) (by rw[hH];exact trivial) (.inl rfl) (λb' u hb hu=>(Kk s.heap (Obj.mapSeq f) (Kv hb)).trans hu) ⟨_,q⟩ ?_
 exact⟨hz,its',_,hv,q⟩
theorem Inv.GW {its:List HL}{t':Nat}(I:Inv X pins σ H s)(hv:Vals ys its)(hz:ys.length<=sizeLine) :
  Inv X pins σ (cz H s.heap.objs.size (.lst ys)) { s with heap:=s.heap.push { cls:=.type "list",data:=.seq its.toArray },toks:=t' }:=
 I.laid (λ_ _ q=>HN _ q) (Ia _) ⟨hz,its,0,hv,Ie _ rfl⟩
theorem Inv.fresh (I:Inv X pins σ H s):H s.heap.objs.size=none:=I.hok.fresh (Ia _)
theorem Inv.GH (I:Inv X pins σ H s)(hH:H l=some (.lst xs)):xs.length<=sizeLine/\∃(its:List HL) (n:Nat),Vals xs its/\xs.length=its.length/\s.heap.get? l=some { cls:=.type "list",data:=.seq its.toArray n }:=by
 obtain⟨z,its,n,r,e⟩:=I.hok l _ hH;exact⟨z,its,n,r,r.length,e⟩
theorem pW {n:Nat}(h:n<=sizeLine):Kz n=false:=by
 unfold Kz;exact decide_eq_false (by omega)
end
section
variable {X:Cx}
def yN:V->List V->Hp->VK->Prop:=λx vs H Q=> ∃l xs y,x= .ref l/\vs= [y]/\H l=some (.lst xs)/\xs.length<sizeLine/\Q .non (cz H l (.lst (xs++ [y])))
theorem m7:MtM X "list.append" yN:=by
 intro pins s σ H x vs v us Q I rx rv h;obtain⟨l,xs,y,rfl,rfl,hH,hz,q⟩:=h;cases rx;obtain⟨u,rfl,ru⟩:=rv.one;obtain⟨z,its,n,r,hl,e⟩:=I.GH hH;refine KG F.slot_list_append ⟨_,e,rfl⟩ F.entry_list_append (F.args_list_append_2 _ _) (PySem.list_append l its.toArray n u (by rw[Il];omega)) ⟨e,?_⟩
 refine⟨.non,_,I.Hg (its':=its++ [u]) hH e (by simp) (r.append (.cons ru .nil)) ?_,rfl,q⟩
 rw[HK,Jm];omega
def yL:V->List V->Hp->VK->Prop:=λx vs H Q=> ∃l b xs zs,x= .ref l/\vs= [.ref b]/\H l=some (.lst xs)/\H b=some (.lst zs)/\xs.length+zs.length<=sizeLine/\Q .non (cz H l (.lst (xs++zs)))
theorem ug:MtM X "list.extend" yL:=by
 intro pins s σ H x vs v us Q I rx rv h;obtain⟨l,b,xs,zs,rfl,rfl,hH,hB,hz,q⟩:=h;cases rx;obtain⟨u,rfl,ru⟩:=rv.one;cases ru;obtain⟨z,its,n,r,hl,e⟩:=I.GH hH;obtain⟨z2,its2,n2,r2,hl2,e2⟩:=I.GH hB
 have hsz:its.toArray.size+its2.toArray.size<=sizeLine:=by rw[Il,Il];omega
 have hlong:¬ (!its.toArray.isEmpty&&Kz (its.toArray.size+its2.toArray.size))=true:=by
  rw[pW hsz,ME];exact Io
 refine KG F.slot_list_extend ⟨_,e,rfl⟩ F.entry_list_extend (F.args_list_extend_2 _ _)
  (AutoSeq1.list_extend_list_list_0 l its.toArray n b its2.toArray n2 hlong (by rw[Il];omega) (by omega)) ⟨e,e2,?_⟩
 refine⟨.non,_,I.Hg (its':=its++its2) hH e (by simp) (r.append r2) ?_,rfl,q⟩
 rw[HK];omega
def rCat:R2:=λx y H Q=> ∃l b xs zs,x= .ref l/\y= .ref b/\H l=some (.lst xs)/\H b=some (.lst zs)/\xs.length+zs.length<=sizeLine/\∀p,H p=none->Q (.ref p) (cz H p (.lst (xs++zs)))
theorem Cy:mJ X (J8 .Add) rCat:=by
 intro pins s σ H x y v u Q I rx ry h;obtain⟨l,b,xs,zs,rfl,rfl,hH,hB,hz,q⟩:=h;cases rx;cases ry;obtain⟨z,its,n,r,hl,e⟩:=I.GH hH;obtain⟨z2,its2,n2,r2,hl2,e2⟩:=I.GH hB;refine PySem.P.add_list e e2 ?_ (by rw[Il,Il];omega)
 have ea:its.toArray++its2.toArray=(its++its2).toArray:=by simp
 rw[ea];exact⟨.ref _,_,I.GW (t':=s.toks) (r.append r2) (by rw[HK];omega),rfl,q _ I.fresh⟩
def rRep:R2:=λx y H Q=> ∃l k xs,x= .ref l/\y= .int k/\H l=some (.lst xs)/\-(2 ^ 63)<=k/\k<2 ^ 63/\xs.length*k.toNat<=sizeLine ∧
 ∀p,H p=none->Q (.ref p) (cz H p (.lst (Iy k.toNat xs).flatten))
theorem len_rep {α:Type}(xs:List α)(k:Nat):(Iy k xs).flatten.length=k*xs.length:=by
 induction k with
 | zero=>simp
 | succ k ih=>rw[J0,Jt,HK,ih,Nu,Nat.add_comm]
theorem Ct:mJ X (J8 .Mult) rRep:=by
 intro pins s σ H x y v u Q I rx ry h;obtain⟨l,k,xs,rfl,rfl,hH,h1,h2,hz,q⟩:=h;cases rx;obtain⟨t,rfl⟩:=ry;obtain⟨z,its,n,r,hl,e⟩:=I.GH hH
 have hlen:its.toArray.size*k.toNat<=sizeLine:=by rw[Il,<-hl];exact hz
 have hcap:¬ its.toArray.size*k.toNat > (2 ^ 63 - 1) / 8:=by
  have:(sizeLine:Nat)<=(2 ^ 63 - 1) / 8:=by decide
  omega
 have hfit:¬ (!Builtin.List.listFitsIndex k)=true:=by
  rw[fitsIndex_both h1 h2];exact Io
 have hlong:¬ Kz (its.toArray.size*k.toNat)=true:=by
  rw[pW hlen];exact Io
 have hnew:MR (λx1 x2=>x1++x2) #[] (Iy (if its.toArray.isEmpty=true then 0 else k.toNat) its.toArray)=(Iy k.toNat its).flatten.toArray:=by
  have f0:∀m:Nat,MR (λx1 x2=>x1++x2) #[] (Iy m its.toArray)=(Iy m its).flatten.toArray:=λm=>by
   have:=foldl_rep its m [];rw[Kh]at this;exact this
  rw[f0]
  cases its with
  | nil=>simp
  | cons a r'=>rw[if_neg (by simp)]
 refine MK (T:="list") (U:="int") (by decide) ⟨_,e,rfl⟩ (λs'=>NP s' k t) noFill_list_mul PV Me repeat_list Pz.lookup
  (KG Me (NP s k t) PB (O5 _ _) (int___rmul___int_list k t l its.toArray n)
   ⟨e,rfl,⟨_,e,rfl⟩,KG F.slot_list_mul ⟨_,e,rfl⟩ F.entry_list_mul (F.args_list_mul_2 _ _) (Oj l its.toArray n k t hfit hcap hlong) ⟨e,?_⟩⟩)
 rw[hnew];exact⟨.ref _,_,I.GW (t':=s.toks) (r.rep k.toNat) (by rw[len_rep,Pj];exact hz),rfl,q _ I.fresh⟩
end
end L2
namespace Att
open PySem PySem.W PySem.Calls PyProof.Rows
theorem kA {P:Params}{h:Heap}:∀(ns:List Int) (vs:List HL),WellAll P h vs (ns.map WData.int)->MJ vs ns:=by
 intro ns
 induction ns with
 | nil=>
  intro vs w;rw[Mu]at w;cases w
  exact .nil
 | cons n ns ih=>
  intro vs w;rw[HW]at w
  cases w with
  | cons a b=>
   cases a;exact .cons _ _ (ih _ b)
theorem script_of {l:OpenLaw}{n:Nat}(hn:l.most=some n){P:Params}{h:Heap}{args:List WData}{vals:List HL}
  (hpre:l.row.toRowW.claim.pre args=true) (hwl:WellAll P h vals args) :
  ∃a vs ns,vals= [IB a]/\args= [WData.list (ns.map WData.int)]/\h.get? a=some { cls:=.type "list",data:=.seq vs.toArray }/\MJ vs ns/\ns.length<=n:=by
 have hsh:WShape.hasAll [] args [.list .int] =true:=(pre_splitW hpre).1
 have hc:l.pre.holds [] { args:=args }=true:=(pre_splitW hpre).2;obtain⟨d,r,rfl,h1,h2⟩:=hasAllW_cons hsh;obtain rfl:=hasAllW_nil h2;obtain⟨xs,rfl,h3⟩:=hasW_list h1;obtain⟨ns,rfl⟩:=items_int h3
 have hlen:ns.length<=n:=by
  unfold OpenLaw.pre at hc
  have h4:(WTm.not (.lt (.lit (.int (n:Int))) (.len (.arg 0)))).holds [] { args:=[.list (ns.map .int)] }=true:=by
   have h4:=(holds_andW hc).1;rw[hn]at h4;exact h4
  have h5:=condW_of h4 (w_not (w_lt w_lit (w_len_list (w_arg rfl))));rw[HP]at h5;refine Nat.le_of_not_lt λq=> ?_
  have q':(n:Int)<((ns.length:Nat):Int):=by omega
  first
   | (rw[decide_eq_true q']at h5;exact absurd h5 (by decide))
   | (simp at h5;omega)
 cases hwl with
 | cons w1 w2=>
  cases w2
  cases w1 with
  | list ho hall=>exact⟨_,_,ns,rfl,rfl,ho,kA ns _ hall,hlen⟩
theorem post_true (l:OpenLaw)(args:List WData):l.row.toRowW.claim.post args (.bool true) args=true:=
 postW_of (r:=l.row.toRowW) (X:=(true == true))
  (show WShape.has [] (.bool true) .bool=true by first | rfl | decide | simp[WShape.has,WShape.arms,WShape.armsAll])
  (show(WTm.eq .res (.lit (.bool true))).value [] { args:=args,res:=some (.bool true),after:=args }=some (.bool (true == true))from w_eq_bool (w_res rfl) w_lit) rfl
end Att
namespace L2
open PySem PySem.Spec PyProof.Rows
theorem mP:∀{vs:List HL} {ns:List Int},MJ vs ns->Vals (ns.map V.int) vs
 | _,_,.nil=> .nil
 | _,_,.cons n t h=> .cons ⟨t,rfl⟩ (mP h)
def DB (H:Hp):Prop:=∀b,H b=none\/∃o xs,H b=some (.frz o (.lst xs))
abbrev CX0:uO:=λ_ _ _ _ _ _=>False
abbrev E0:XK:=λ_ _ _=>False
theorem wz {X:Cx}:oZ CX0 X E0:=λ_ _ _ _ _ _ _ h=>h.elim
structure Fun (K:HI)(x qual:Str)(st:Stmt)(f:Addr)(fd:Je):Prop where
 ex:∃(oc:HL) (od:Option Addr) (kV doc pm:HL) (an:Option Addr) (cdv ct:HL) (osl:Array (Option HL)),
  fd=KI x qual (eX st) (br st) (ao st) .none kV doc pm an cdv ct/\K.lookup f=some ⟨oc,od,.func fd,osl⟩/\MB K cdv qual=true
 kp:KR K (.ref f)=true
section
variable {P:Ip}{w:IV}{K:HI}{mg:Str->Option HL}{base:Heap}
theorem Fun.ok {x qual:Str}{st:Stmt}{f:Addr}{fd:Je}{N ps:List Str}{k:Nat}{sp:Sp}(F:Fun K x qual st f fd)(S:bN N ps (ao st))(len:∀vs H Q E,sp vs H Q E->vs.length=ps.length)
  (hbody:∀(cdv:HL) (A:IE) (outer:List Env) (s:HJ) (H:Hp) (vs:List V) (Q:VK) (E:XK),Room k (A.deeper (envOfC qual (ao st) s.heap.objs.size f cdv))->sp vs H Q E →
   ∃t,PSs (eY CX0 P w K mg base N qual (ao st) f cdv A outer s H E).nox (br st) t/\t { nx:=λ_ H'=>Q .non H',rt:=Q } (start N vs) H):uN P w K mg base CX0 (k+1) f fd ps sp:=by
 obtain⟨oc,od,kV,doc,pm,an,cdv,ct,osl,rfl,lk,hcd⟩:=F.ex;refine qh lk hcd S len λA outer s H vs Q E hr hsp=> ?_
 obtain⟨t,h,q⟩:=hbody cdv A outer s H vs Q E hr hsp;exact⟨t,h.nox,q⟩
theorem Fun.binds {x qual:Str}{st:Stmt}{f:Addr}{fd:Je}{ps:List Str}(F:Fun K x qual st f fd)
  (h:∀(kV doc pm:HL) (an:Option Addr) (cdv ct:HL) (us:List HL),us.length=ps.length->OF (KI x qual (eX st) (br st) (ao st) .none kV doc pm an cdv ct) ⟨us,[]⟩=pure (ps.zip us)):Binds K fd ps []:=by
 obtain⟨oc,od,kV,doc,pm,an,cdv,ct,osl,rfl,lk,hcd⟩:=F.ex;exact .all (h kV doc pm an cdv ct)
theorem C0 {x qual:Str}{st:Stmt}{f:Addr}{oc:HL}{od an:Option Addr}{osl:Array (Option HL)}{kV doc pm cdv ct:HL}(l:K.lookup f=some ⟨oc,od,.func (KI x qual (eX st) (br st) (ao st) .none kV doc pm an cdv ct),osl⟩)
  (c:MB K cdv qual=true) (k:KR K (.ref f)=true):Fun K x qual st f (KI x qual (eX st) (br st) (ao st) .none kV doc pm an cdv ct):=⟨⟨oc,od,kV,doc,pm,an,cdv,ct,osl,rfl,l,c⟩,k⟩
end
section
variable {X:Cx}
theorem pv (i:Nat){x:Str}{pos:Pos}(hN:autoParam (X.N[i]? =some x) u_)(hv:autoParam (rO X.env.scope x) v_)(hd:autoParam ((x == ("__debug__" : Str))=false) s_)
  (hcd:autoParam ((x == ("__classdict__" : Str))=false) s_):PE X (.Name x pos) (vG i):=jP hN hv hd hcd
end
theorem iteF {A B:Prop}(h:B):if false=true then A else B:=by
 rw[if_neg Io];exact h
theorem iteT {A B:Prop}(h:A):if true=true then A else B:=by
 rw[if_pos rfl];exact h
def Same (H H':Hp):Prop:=∀b o,H b=some o->H' b=some o
theorem Same.refl (H:Hp):Same H H:=λ_ _ h=>h
theorem Same.trans {H H1 H2:Hp}(a:Same H H1)(b:Same H1 H2):Same H H2:=λc o h=>b c o (a c o h)
theorem iZ {env:Env}:∀(names:List (Str×K1)) (acc:List (Str×Addr)),
  (∀x,(x,IU)∈names->∃c,env.cells.lookup x=some c) →
  (∀x c,acc.lookup x=some c->env.cells.lookup x=some c) →
  ∃cl,(forIn (m:=Sem) names acc (λx cs=>(if (x.2 == IU)=true then do let a <-cellOf env x.1;pure (Ki ((x.1,a)::cs))else pure (Ki cs))))=pure cl ∧
   (∀x c,cl.lookup x=some c->env.cells.lookup x=some c) ∧
   (∀x,(x,IU)∈names->∃c,cl.lookup x=some c)/\(∀x c,acc.lookup x=some c->∃c',cl.lookup x=some c')
 | [],acc,_,h=>⟨acc,rfl,h,λx hx=>by simp at hx,λx c e=>⟨c,e⟩⟩
 | (n,k)::r,acc,hf,h=>by
  by_cases hk:k=IU
  ·subst hk
   obtain⟨c,hc⟩:=hf n (by simp)
   have h':∀x c',((n,c)::acc).lookup x=some c'->env.cells.lookup x=some c':=λx c' e=>by
    rw[Jy]at e
    cases q:x == n with
    | true=>
     rw[q]at e
     have e2:c=c':=IT e
     have e3:x=n:=by simpa using q
     rw[<-e2,e3];exact hc
    | false=>rw[q]at e;exact h x c' e
   obtain⟨cl,e1,e2,e3,e4⟩:=iZ r ((n,c)::acc) (λx hx=>hf x (HQ _ hx)) h'
   refine⟨cl,?_,e2,λx hx=> ?_,λx c' e=> ?_⟩
   ·rw[Lu]
    simp only[beq_self_eq_true,if_true,cellOf,hc,pure_bind];exact e1
   ·rcases HZ.mp hx with z | z
    ·have z1:x=n:=by injection z
     subst z1;exact e4 x c (by simp[Jy])
    ·exact e3 x z
   ·cases q:x == n with
    | true=>exact e4 x c (by simp[Jy,q])
    | false=>exact e4 x c' (by simp[Jy,q,e])
  ·have hb:(k == IU)=false:=by simpa using hk
   obtain⟨cl,e1,e2,e3,e4⟩:=iZ r acc (λx hx=>hf x (HQ _ hx)) h
   refine⟨cl,?_,e2,λx hx=> ?_,e4⟩
   ·rw[Lu]
    simp only[hb,Jv,if_false,pure_bind];exact e1
   ·rcases HZ.mp hx with z | z
    ·have z1:IU=k:=by injection z
     exact absurd z1.symm hk
    ·exact e3 x z
theorem lS {env:Env}{scope:K2}(hf:∀x,(x,IU)∈scope.names->∃c,env.cells.lookup x=some c) :
  ∃cl,closureFor scope env=pure cl/\(∀x c,cl.lookup x=some c->env.cells.lookup x=some c)/\(∀x,(x,IU)∈scope.names->∃c,cl.lookup x=some c):=by
 obtain⟨cl,e1,e2,e3,_⟩:=iZ scope.names [] hf (λx c e=>by simp at e)
 refine⟨cl,?_,e2,e3⟩
 unfold closureFor;refine M5 ?_ (congrArg (λz=>z >>= pure) e1|>.trans (by simp))
 rfl
theorem oN {pr:Ip}{wd:IV}{Ar:IE}{Rz:LH->HJ->Prop}{s0:HJ}{el tg it0:Expr}{cs:List Expr}{sc:K2}{ps:Pos}{itv av:HL}{ev:Env}(W:Nat->HJ->Prop)
  (go:∀k st,W k st->wpAny (model pr wd) Ar (pyNext itv) (λr s1=>match r with
   | none=>Rz (.ok .next) s1
   | some v=>wpAny (model pr wd) Ar (KF tg itv v) (λ_ s2=>wpAny (model pr wd) Ar (assign tg ev v) (λ_ s3=>
     wpAny (model pr wd) Ar (forIn cs true λc b=>if b=true then do let z <-isTrue c ev (eval c ev);pure (Ki z)else pure (Ki b)) (λz s4=>
      if z=true then wpAny (model pr wd) Ar (eval el ev) (λy s5=>
       wpAny (model pr wd) Ar (call (.builtin "list.append") [av,y]) (λ_ s6=> ∃m,m<k/\W m s6) (λ_ _=>False) s5) (λ_ _=>False) s4
      else ∃m,m<k/\W m s4) (λ_ _=>False) s3) (λ_ _=>False) s2) (λ_ _=>False) s1) (λ_ _=>False) st)
  (k:Nat) (hk:W k s0):codeAny (model pr wd) Ar (.compLoop (.ListComp el [⟨tg,it0,cs,0⟩] sc ps) 0 itv av ev) Rz s0:=by
 refine codeAny_loop rfl W (λk st hw=> ?_) k hk
 show wpAny (model pr wd) Ar ((compTurn (.ListComp el [⟨tg,it0,cs,0⟩] sc ps) 0 itv av ev).onRaise (λz=>do K5 z ev;Mk z)) _ _ st
 refine wpAny_noted ?_
 rw[compTurn_list]
 have no:∀{α:Type} {t:Sem α} {Q Q':α->HJ->Prop} {E':HL->HJ->Prop} {x:HJ},wpAny (model pr wd) Ar t Q (λ_ _=>False) x->(∀y z,Q y z->Q' y z)->wpAny (model pr wd) Ar t Q' E' x:=λh f=>IR h f λ_ _ z=>z.elim
 refine HM (L8 (HM (no (go k st hw) λr s1 g1=> ?_)))
 cases r with
 | none=>exact HX g1
 | some v=>
  refine HM (no g1 λ_ s2 g2=>HM (no g2 λ_ s3 g3=>HM (no g3 λz s4 g4=> ?_)))
  cases z with
  | false=>exact HX (Lv rfl g4)
  | true=>exact HM (HM (no g4 λy s5 g5=>HM (no g5 λ_ s6 g6=>HX (HX (Lv rfl g6)))))
def aZ (X:Cx)(scope:K2)(cl:List (Str×Addr))(N':List Str)(C:Addr)(s₀:HJ)(H₀:Hp)(fp:List Addr):Cx:=
 { X with N:=N',s₀:=s₀,H₀:=H₀,env:=compEnvC scope cl C X.env,outer:=X.stack,stack:=X.stack,ex:=fp,fn:=λx=>scope.names.lookup x == some .cell,xe:=λ_ _=>False }
def c9 (src:List (Option Nat))(σ:St):St:=src.map λo=>match o with
 | some i=>(σ[i]?).join
 | none=>none
theorem fh {env:Env}:∀{names:List (Str×K1)} {x:Str} {k:K1},
  (names.map λ(n,k)=>if (k == IU&&env.scope.kind == .function&&env.kindOf n == some .cell)then(n,JP)else(n,k)).lookup x=some k →
  ∃k',names.lookup x=some k'/\(k=k'\/k'= .free)
 | [],_,_,h=>by simp at h
 | (n,k0)::r,x,k,h=>by
  have ih:=@fh env r x k
  have h':Mf x ((if (k0 == IU&&env.scope.kind == .function&&env.kindOf n == some .cell)=true then(n,JP)else(n,k0))::(r.map λ(n,k)=>if (k == IU&&env.scope.kind == .function&&env.kindOf n == some .cell)then(n,JP)else(n,k)))=some k:=h
  by_cases hc:(k0 == IU&&env.scope.kind == .function&&env.kindOf n == some .cell)=true
  ·rw[if_pos hc]at h'
   rw[Jy]at h' ⊢
   cases hx:x == n with
   | true=>
    refine⟨k0,rfl,.inr ?_⟩
    have:=Ja.mp hc|>.1
    have:=Ja.mp this|>.1
    simpa using this
   | false=>rw[hx]at h';exact ih h'
  ·rw[if_neg hc]at h'
   rw[Jy]at h' ⊢
   cases hx:x == n with
   | true=>rw[hx]at h';exact⟨k0,rfl,.inl (IT h').symm⟩
   | false=>rw[hx]at h';exact ih h'
theorem dw {names:List (Str×K1)}{x:Str}{k:K1}(h:names.lookup x=some k):(x,k)∈names:=Kg h
theorem eK {env:Env}:∀{names:List (Str×K1)} {x:Str},names.lookup x=some .free →
  (names.map λ(n,k)=>if (k == IU&&env.scope.kind == .function&&env.kindOf n == some .cell)then(n,JP)else(n,k)).lookup x=some .cell ∨
  (names.map λ(n,k)=>if (k == IU&&env.scope.kind == .function&&env.kindOf n == some .cell)then(n,JP)else(n,k)).lookup x=some .free
 | [],_,h=>by simp at h
 | (n,k0)::r,x,h=>by
  have ih:=@eK env r x
  show Mf x ((if (k0 == IU&&env.scope.kind == .function&&env.kindOf n == some .cell)=true then(n,JP)else(n,k0))::_)=_\/Mf x ((if (k0 == IU&&env.scope.kind == .function&&env.kindOf n == some .cell)=true then(n,JP)else(n,k0))::_)=_
  rw[Jy]at h
  by_cases hc:(k0 == IU&&env.scope.kind == .function&&env.kindOf n == some .cell)=true
  ·rw[if_pos hc]
   rw[Jy]
   cases hx:x == n with
   | true=>exact .inl rfl
   | false=>rw[hx]at h;exact ih h
  ·rw[if_neg hc]
   rw[Jy]
   cases hx:x == n with
   | true=>rw[hx]at h;exact .inr h
   | false=>rw[hx]at h;exact ih h
section
variable {X:Cx}
structure LcScope (X:Cx)(scope:K2)(N':List Str)(src:List (Option Nat)):Prop where
 kind:scope.kind= .function
 cel:∀y∈scope.names,y.2= .cell->scope.names.lookup y.1=some .cell
 loc:∀y∈scope.names,y.2= .local->scope.names.lookup y.1=some .local
 len:src.length=N'.length
 from_:∀(j i:Nat) (x:Str),src[j]? =some (some i)->N'[j]? =some x->X.N[i]? =some x/\scope.names.lookup x=some .free
 free:∀x,(x,IU)∈scope.names->X.env.kindOf x=some .cell\/X.env.kindOf x=some .free
def BC (K:HI)(wi:TI)(src:List (Option Nat))(g:TG)(tc:TT)(te:TE):TE:=λσ H Q=>wi σ H λJ H1=> ∀D,H1 D=none->K.lookup D=none →
 ∃W:Nat->Nat->St->List V->Hp->Prop,(∃m,W 0 m (c9 src σ) [] (cz H1 D (.lst [])))/\∀i m σ ys H,W i m σ ys H->H D=some (.lst ys) ∧
  ((J.stop i H/\Q (.ref D) H)\/(J.go i H/\ys.length<sizeLine/\∀x H',J.yld i H x H'->g x σ H' λσ2 H2=>tc σ2 H2 λb H3=>
   if b=true then te σ2 H3 λv H4=>H4 D=some (.lst ys)/\∃m',m'<m/\W (i+1) m' σ2 (ys++ [v]) (cz H4 D (.lst (ys++ [v])))else ∃m',m'<m/\W (i+1) m' σ2 ys H3))
def qF (X:Cx)(ifs:List Expr)(t:TT):Prop:=
 ∀(pins:List (Addr×Obj)) (s:HJ) (σ:St) (H:Hp) (Q:Bool->Hp->Prop),Inv X pins σ H s->t σ H Q →
  wpAny (model X.prog X.w) X.A (forIn ifs true λc r=>if r=true then do let ok <-isTrue c X.env (eval c X.env);pure (Ki ok)else pure (Ki r)) (TP X pins σ Q) X.xe s
def D0:TT:=λ_ H Q=>Q true H
theorem zd:qF X [] D0:=λ_ _ _ H _ I h=>wpAny_tests_nil ⟨H,I,h⟩
theorem zc {c:Expr}{t:TT}(h:PT X c t):qF X [c] t:=λpins s σ H Q I q=>wpAny_tests_one (h pins s σ H Q I q)
theorem iy:∀(names:List (Str×K1)) (h:Heap) (acc:List (Str×Addr)),(∀x y c,acc.lookup x=some c->acc.lookup y=some c->x=y)->(∀x c,acc.lookup x=some c->c<h.objs.size) →
  (∀x c,(J4 h.objs.size names acc).lookup x=some c->acc.lookup x=some c\/(h.objs.size<=c/\(LX h names).IsCell c none)) ∧
  (∀x y c,(J4 h.objs.size names acc).lookup x=some c->(J4 h.objs.size names acc).lookup y=some c->x=y) ∧
  (∀x,(x,JP)∉names->(J4 h.objs.size names acc).lookup x=acc.lookup x) ∧
  (∀x,((x,JP)∈names\/∃c,acc.lookup x=some c)->∃c,(J4 h.objs.size names acc).lookup x=some c) ∧
  (∀x c,(x,JP)∈names->(J4 h.objs.size names acc).lookup x=some c->h.objs.size<=c)
 | [],h,acc,hi,_=>⟨λ_ _ e=> .inl e,hi,λ_ _=>rfl,λx e=>e.elim (λz=>absurd z Jr) id,λ_ _ z=>absurd z Jr⟩
 | (n,k)::r,h,acc,hi,hl=>by
  unfold J4 LX
  by_cases hk:k= .cell
  ·subst hk
   rw[if_pos (by rfl),if_pos (by rfl)]
   have hz:(h.push { cls:=.type "cell",data:=.cell none }).objs.size=h.objs.size+1:=Jz ..
   have lk:∀x,((n,h.objs.size)::acc).lookup x=if x=n then some h.objs.size else acc.lookup x:=λx=>by
    rw[Jy]
    by_cases e:x=n
    ·rw[if_pos e,beq_iff_eq.mpr e]
    ·rw[if_neg e,beq_eq_false_iff_ne.mpr e]
   obtain⟨c1,c2,c3,c4,c5⟩:=iy r (h.push { cls:=.type "cell",data:=.cell none }) ((n,h.objs.size)::acc) (λx y c e1 e2=>by
     rw[lk]at e1 e2
     by_cases q1:x=n
     ·by_cases q2:y=n
      ·rw[q1,q2]
      ·rw[if_pos q1]at e1;rw[if_neg q2]at e2
       cases e1;exact absurd (hl _ _ e2) (Iz _)
     ·rw[if_neg q1]at e1
      by_cases q2:y=n
      ·rw[if_pos q2]at e2
       cases e2;exact absurd (hl _ _ e1) (Iz _)
      ·rw[if_neg q2]at e2;exact hi x y c e1 e2) (λx c e=>by
     rw[lk]at e;rw[hz]
     by_cases q:x=n
     ·rw[if_pos q]at e;cases e;exact Nat.lt_succ_self _
     ·rw[if_neg q]at e;exact MS (hl x c e))
   rw[hz]at c1 c2 c3 c4 c5;refine⟨λx c e=> ?_,c2,λx hx=> ?_,λx hx=> ?_,λx c hx e=> ?_⟩
   ·rcases c1 x c e with z | z
    ·rw[lk]at z
     by_cases q:x=n
     ·rw[if_pos q]at z;cases z
      exact .inr ⟨Ia _,_,LB r _ _ _ (Ie _ rfl),rfl⟩
     ·rw[if_neg q]at z;exact .inl z
    ·exact .inr ⟨MT z.1,z.2⟩
   ·rw[c3 x λz=>hx (HQ _ z),lk,if_neg λz=>hx (by rw[z];exact HU)]
   ·refine c4 x ?_
    rcases hx with hx | hx
    ·rcases HZ.mp hx with z | z
     ·cases z
      exact .inr ⟨_,by rw[lk,if_pos rfl]⟩
     ·exact .inl z
    ·by_cases q:x=n
     ·exact .inr ⟨_,by rw[lk,if_pos q]⟩
     ·exact .inr (by rw[lk,if_neg q];exact hx)
   ·rcases HZ.mp hx with z | z
    ·have q:x=n:=(M0 z).1
     rcases c1 x c e with y | y
     ·rw[lk,if_pos q]at y;cases y;exact Ia _
     ·exact MT y.1
    ·exact MT (c5 x c z e)
  ·have hb:¬ (k == JP)=true:=λz=>hk (by simpa using z)
   rw[if_neg hb,if_neg hb];obtain⟨c1,c2,c3,c4,c5⟩:=iy r h acc hi hl;exact⟨c1,c2,λx hx=>c3 x λz=>hx (HQ _ z),λx hx=>c4 x (hx.imp (λz=>(HZ.mp z).resolve_left λz=>hk (M0 z).2.symm) id),λx c hx=>c5 x c ((HZ.mp hx).resolve_left λz=>hk (M0 z).2.symm)⟩
theorem m3 {M:L7}{A:IE}{E:HL->HJ->Prop}{s:HJ}{scope:K2}{globals:Addr}{cl:List (Str×Addr)}{qual:Str}{env:Env}{Q:Env->HJ->Prop}
  (q:Q (newEnv scope s.heap.objs.size globals (J4 (s.heap.objs.size+1) scope.names cl) qual none .none (some env) Mc) { s with heap:=LX (s.heap.push { cls:=.type "dict",data:=.dict #[] }) scope.names }) :
  wpAny M A (ML scope globals cl [] qual none .none (some env)) Q E s:=by
 simp only[ML,Ol,if_true];refine HM (wpAny_alloc (HM (wpAny_layCells _ (λname kind cells=>by cases hkc:kind == JP <;> simp[hkc]) _ _ _ _ ?_)))
 rw[show({ s with heap:=s.heap.push { cls:=.type "dict",data:=.dict #[] } }:HJ).heap.objs.size=s.heap.objs.size+1 from Jz ..]
 rw[MF];exact HM (HX (HX q))
theorem sL {elt tg iter:Expr}{ifs:List Expr}{scope:K2}{pos fpos:Pos}{N':List Str}{src:List (Option Nat)}{wi:TI}{g:TG}{tc:TT}{te:TE}{use:Option (HL->Sem Unit)}{Qf:HL->HJ->Prop}
  {pins:List (Addr×Obj)} {s:HJ} {σ:St} {H:Hp} {Q:VK}
  (hc:X.calm=true) (S:LcScope X scope N' src) (hi:PI X tg iter wi)
  (block:∀cl C s₀ H₀ fp,PG (aZ X scope cl N' C s₀ H₀ fp) tg g/\qF (aZ X scope cl N' C s₀ H₀ fp) ifs tc/\PE (aZ X scope cl N' C s₀ H₀ fp) elt te)
  (hs:∀x,Im iter X.env x=pure x) (I:Inv X pins σ H s) (h:BC X.K wi src g tc te σ H Q)
  (hend:∀(D C:Addr) (H':Hp) (s':HJ),(∃m,s'.heap.Ns C m)->(∀h',KJ C s'.heap h'->Inv X pins σ H' { s' with heap:=h' })->(H' C=none/\C≠X.env.locals/\X.s₀.heap.objs.size<=C/\(∀x c,X.env.cells.lookup x=some c->c≠C)/\∀p∈X.pn++pins,p.1≠C)->Q (.ref D) H' →
   NQ (model X.prog X.w) X.A X.xe use Qf (.ref D) C (.ok .next) s') :
  wpAny (model X.prog X.w) X.A (L9 (.ListComp elt [⟨tg,iter,ifs,0⟩] scope pos) scope X.env fpos (newList []) false (eval iter X.env) use) Qf X.xe s:=by
 have hcell:∀x,(x,IU)∈scope.names->∃c,X.env.cells.lookup x=some c:=λx hx=>I.ok.has x (S.free x hx)
 obtain⟨cl0,hcl,cl01,cl02⟩:=lS (env:=X.env) (scope:=scope) hcell;refine wpAny_comprehension_free (use:=use) rfl hs hcl S.kind S.loc (bF (hi pins s σ H _ I h) λv s1 h1=>bF h1 λitv s2 h2=> ?_)
 obtain⟨it,fp,tn,J,H2,e,I2,T,st2,f2,hq⟩:=h2;subst e
 -- the new list
 refine JM ?_
 have hD:H2 s2.heap.objs.size=none:=I2.hok.fresh (Ia _)
 have hDK:X.K.lookup s2.heap.objs.size=none:=by
  cases q:X.K.lookup s2.heap.objs.size with
  | none=>rfl
  | some o=>exact absurd (Ib (I2.kIn _ o q)) (Iz _)
 obtain⟨W,⟨m0,w0⟩,turn⟩:=hq s2.heap.objs.size hD hDK
 have I3:=I2.GW (its:=[]) (ys:=[]) (t':=s2.toks) .nil (IZ _)
 generalize hs3:({ s2 with heap:=s2.heap.push { cls:=.type "list",data:=.seq ([]:List HL).toArray },toks:=s2.toks }:HJ)=s3 at I3
 generalize hH3:cz H2 s2.heap.objs.size (.lst [])=H3 at I3 w0
 have hDsz:s2.heap.objs.size<s3.heap.objs.size:=by rw[<-hs3];simp[Jz]
 have fr3:∀b∈fp,H3 b=none:=λb hb=>by
  obtain⟨o,eo,_⟩:=T.obj _ _ st2 b hb;rw[<-hH3,aO (Jx (Ib eo))];exact(f2 b hb).1
 have st3:tn 0 s3.heap:=T.keep _ _ _ st2 λb hb o e=>by rw[<-hs3];exact HN _ e
 have f3:∀b∈fp,hG X pins H3 b:=λb hb=>⟨fr3 b hb,(f2 b hb).2⟩
 have D3:H3 s2.heap.objs.size=some (.lst []):=by rw[<-hH3];exact aU
 generalize s2.heap.objs.size=D at*
 clear hs3 hH3 hD hDK
 -- the block's frame
 refine m3 ?_
 have old:∀b o,s3.heap.get? b=some o->(LX (s3.heap.push { cls:=.type "dict",data:=.dict #[] }) scope.names).get? b=some o:=λb o e=>LB _ _ b o (HN _ e)
 have hns₁:(LX (s3.heap.push { cls:=.type "dict",data:=.dict #[] }) scope.names).Ns s3.heap.objs.size (λ_=>none):=(Heap.Ns.new s3.heap (.type "dict")).keeps (LB _ _)
 have hz3:(s3.heap.push { cls:=.type "dict",data:=.dict #[] }).objs.size=s3.heap.objs.size+1:=Jz ..
 have lt0:∀x c,cl0.lookup x=some c->c<s3.heap.objs.size:=λx c e=>let ⟨_,ic⟩:=I3.cell x c (cl01 x c e);ic.lt
 obtain⟨c1,c2,c3,c4,c5⟩:=iy scope.names (s3.heap.push { cls:=.type "dict",data:=.dict #[] }) cl0 (λx y c e1 e2=>I3.ok.inj x y c (cl01 x c e1) (cl01 y c e2)) λx c e=>by rw[hz3];exact MS (lt0 x c e)
 rw[hz3]at c1 c2 c3 c4 c5
 generalize hcl':J4 (s3.heap.objs.size+1) scope.names cl0=cl at*
 generalize hh₁:LX (s3.heap.push { cls:=.type "dict",data:=.dict #[] }) scope.names=h₁ at*
 have below:∀b o,s3.heap.get? b=some o->b≠s3.heap.objs.size:=λb o e=>Jx (Ib e)
 -- a cell of the block's: one from around,or a new one
 have cl1:∀x c,cl.lookup x=some c->X.env.cells.lookup x=some c\/(s3.heap.objs.size<c/\h₁.IsCell c none):=λx c e=>(c1 x c e).imp (cl01 x c) id
 generalize hC:s3.heap.objs.size=C at*
 have stk:∀b,b≠X.env.locals->b∉X.fs->b∉iX X.stack:=λb h1 h2 z=>(HZ.mp (I3.GK b z)).elim h1 h2
 have apart:∀b∈fp,∀x c,cl.lookup x=some c->c≠b:=λb hb x c e=>by
  rcases cl1 x c e with z | z
  ·exact(f3 b hb).2.2.2.2.1 x c z
  ·obtain⟨o,eo,_⟩:=T.obj _ _ st3 b hb
   have h1:=Ib eo;rw[hC]at h1;exact LP (Pk h1 z.1)
 have I4:Inv (aZ X scope cl N' C s3 H3 fp) pins (c9 src σ) H3 { s3 with heap:=h₁ }:=by
  refine⟨⟨I3.ok.mod,S.kind,I3.ok.glob,I3.ok.blt,KL hC,c2,λx hx=> ?_,λx c hx e=>Li (hC▸c5 x c (dw (beq_iff_eq.mp hx)) e),I3.ok.hd,I3.ok.frames,.inl rfl,
    λb hb=>⟨?_,λx c e=>apart b hb x c e⟩,I3.bs,IA I3.ok.bsz I3.sz,λb o e z=> ?_,λb hb=>stk b (f3 b hb).2.1 (f3 b hb).2.2.1,I3.stack,I3.Gy⟩,
   rfl,I3.bare,Un.kept old,⟨_,hns₁,λj x v e1 e2 e3=> ?_⟩,λx c e=> ?_,I3.hok.fresh (KL hC),λx c e=>(cl1 x c e).elim (I3.freeC x c) λz=>I3.hok.fresh (by rw[hC];exact Li z.1),λp hp=> ?_,I3.hok.kept old,?_⟩
  ·have key:∀k,(relabel scope X.env).names.lookup x=some k->(k= .cell\/k= .free)->∃c,cl.lookup x=some c:=λk e hk=>by
    obtain⟨k',e',z⟩:=fh e
    have hk':k'= .cell\/k'= .free:=z.elim (λz=>z▸hk) .inr
    rcases hk' with q | q
    ·exact c4 x (.inl (q▸dw e'))
    ·exact c4 x (.inr (cl02 x (q▸dw e')))
   rcases hx with hx | hx
   ·exact key _ hx (.inl rfl)
   ·exact key _ hx (.inr rfl)
  ·obtain⟨o,eo,_⟩:=T.obj _ _ st3 b hb
   show b≠C
   exact below b o eo
  ·have z':b∈fp:=z
   obtain⟨_,_,_,z1,_⟩:=f3 b z';rcases z1 with z1 | z1
   ·exact I3.ok.noex b o e z1
   ·exact absurd (Ig (Ib (I3.ok.bs b o e).1) z1) (Iz _)
  ·unfold c9 at e2
   rw[IQ]at e2
   cases q:src[j]? with
   | none=>rw[q]at e2;simp at e2
   | some o=>
    rw[q]at e2
    cases o with
    | none=>simp at e2
    | some i=>
     have e2':(σ[i]?).join=some v:=by simpa using e2
     have e2'':σ[i]? =some (some v):=by
      cases q2:σ[i]? with
      | none=>rw[q2]at e2';simp at e2'
      | some z=>rw[q2]at e2';simp at e2';rw[e2']
     obtain⟨hN,hfree⟩:=S.from_ j i x q e1
     have hm:=dw hfree
     have hk:=S.free x hm;obtain⟨m,hn,hl⟩:=I3.loc
     have hv:rO X.env.scope x:=by
      rcases hk with z | z
      ·exact .inr (.inl z)
      ·exact .inr (.inr z)
     obtain⟨u,r,l⟩:=hl i x v hN e2'' hv;refine⟨u,r,.inr ⟨?_,?_⟩⟩
     ·exact eK hfree
     ·rcases l with⟨z,_⟩ | ⟨_,c,ec,ic⟩
      ·rcases hk with z' | z' <;> rw[z']at z <;> cases z
      ·obtain⟨c',ec0⟩:=cl02 x hm
       have ec':cl.lookup x=some c':=(c3 x λz=>by have:=S.cel _ z rfl;rw[hfree]at this;cases this).trans ec0
       have:=cl01 x c' ec0;rw[ec]at this;cases this;obtain⟨o,ho,hd⟩:=ic;exact⟨c,ec',o,old _ _ ho,hd⟩
  ·rcases cl1 x c e with z | z
   ·obtain⟨v,o,ho,hd⟩:=I3.cell x c z
    exact⟨v,o,old _ _ ho,hd⟩
   ·exact⟨none,z.2⟩
  ·obtain⟨e,n,ne,nf,d⟩:=I3.pin p hp
   exact⟨old _ _ e,n,below _ _ e,stk _ ne nf,d⟩
  ·show(c9 src σ).length=N'.length
   unfold c9;rw[HP];exact S.len
 obtain⟨bG,bI,bE⟩:=block cl C s3 H3 fp
 have stat:∀{H':Hp},(∀b∈fp,H' b=none)->∀b∈fp,hG (aZ X scope cl N' C s3 H3 fp) pins H' b:=λhn b hb=>by
  obtain⟨o,eo,_⟩:=T.obj _ _ st3 b hb;exact⟨hn b hb,below b o eo,stk b (f3 b hb).2.1 (f3 b hb).2.2.1,.inl hb,apart b hb,(f3 b hb).2.2.2.2.2⟩
 have st4:tn 0 h₁:=T.keep _ _ _ st3 λb hb o e=>old b o e
 -- behind the block
 have after:∀(H':Hp) (s':HJ) (σ':St),Inv (aZ X scope cl N' C s3 H3 fp) pins σ' H' s'->Q (.ref D) H' →
   NQ (model X.prog X.w) X.A X.xe use Qf (.ref D) C (.ok .next) s':=λH' s' σ' I' q=>by
  obtain⟨m,hn,_⟩:=id I'.loc
  have fC:X.s₀.heap.objs.size<=C:=by rw[<-hC];exact I3.sz
  have ltC:∀b o,s3.heap.get? b=some o->b<C:=λb o e=>by rw[<-hC];exact Ib e
  refine hend D C H' s' ⟨m,hn⟩ (λh' hsb=> ?_) ⟨I'.free,?_,fC,λx c e z=> ?_,λp hp z=> ?_⟩ q
  rotate_left
  ·have:=I3.lt;rw[hC]at this;exact LP this
  ·obtain⟨v,ic⟩:=I3.cell x c e
   have:=ic.lt;rw[hC,z]at this;exact Iz _ this
  ·have:=ltC _ _ (I3.pin p hp).1;rw[z]at this;exact Iz _ this
  have u:Un (iX X.stack) fp H3 H' s3.heap s'.heap:=I'.base
  have lift:∀b o,s3.heap.get? b=some o->∀o',s'.heap.get? b=some o'->h'.get? b=some o':=λb o e o' e'=>hsb.extBut b o' (below b o e) e'
  have u':Un (iX X.stack) fp H3 H' s3.heap h':=
   ⟨λb o e n hb hx=>lift b o e o (u.keep b o e n hb hx),λb o e n hb hx=>by
     obtain⟨sl,z⟩:=u.slot b o e n hb hx;exact⟨sl,lift b o e _ z⟩,u.free,λb o e hx=>by
     obtain⟨o',z⟩:=u.there b o e hx;exact⟨o',lift b o e _ z⟩,u.tups,u.frzs,u.tbls⟩
  have hCn:H' C=none:=I'.free
  have hok':HOk X.prog X.w H' h':=λb ob e=>by
   refine(I'.hok b ob e).GD (λc w' hc' q'=>(hsb.2 c ?_).trans q') (λ_ q=>q) λ_ _ q=>q
   rintro rfl
   rcases hc' with rfl | hc'
   ·rw[hCn]at e;cases e
   ·rw[hCn]at hc';cases hc'
  have I5:Inv X pins σ H' { s' with heap:=h' }:=I3.GT (s':={ s' with heap:=h' }) (ch:=fp) I'.os u' hok' I'.bare λb hb=>⟨(f3 b hb).2.2.2.1,(f3 b hb).2.1,(f3 b hb).2.2.2.2.1,(f3 b hb).2.2.2.2.2⟩
  exact I5
 have loop:codeAny (model X.prog X.w) X.A (.compLoop (.ListComp elt [⟨tg,iter,ifs,0⟩] scope pos) 0 (.ref it) (.ref D) (compEnvC scope cl C X.env))
   (NQ (model X.prog X.w) X.A X.xe use Qf (.ref D) C) { s3 with heap:=h₁ }:=by
  refine oN (λn s'=> ∃i σ' ys H',Inv (aZ X scope cl N' C s3 H3 fp) pins σ' H' s'/\tn i s'.heap/\(∀b∈fp,H' b=none)/\W i n σ' ys H') ?_ m0 ⟨0,_,[],H3,I4,st4,fr3,w0⟩
  rintro n s5 ⟨i,σ5,ys,H5,I5,st5,fr5,w5⟩
  obtain⟨hDl,alt⟩:=turn i n σ5 ys H5 w5;rcases alt with⟨stop,qn⟩ | ⟨go,hlen,step⟩
  ·refine bF (T.done (aZ X scope cl N' C s3 H3 fp) rfl rfl rfl hc i pins s5 σ5 H5 _ I5 (stat fr5) st5 stop) λr s6 ⟨hr,I6⟩=> ?_
   subst hr;exact after H5 s6 σ5 I6 qn
  ·refine bF (T.item (aZ X scope cl N' C s3 H3 fp) rfl rfl rfl hc i pins s5 σ5 H5 _ I5 (stat fr5) st5 go) λr s6 ⟨u,hr,h6⟩=> ?_
   subst hr;refine bF h6 λ_ s7 hh_=> ?_
   obtain⟨x,H7,I7,r7,y7,st7,fr7⟩:=hh_
   have I7':=I7.pinned (stat fr7) (T.obj _ _ st7);refine bF (bG _ s7 σ5 H7 x u _ I7' r7 (step x H7 y7)) λ_ s8 hh_=> ?_
   obtain⟨σ8,H8,I8,q8⟩:=hh_;refine bF (bI _ s8 σ8 H8 _ I8 q8) λok s9 hh_=> ?_
   obtain⟨H9,I9,q9⟩:=hh_
   have again:∀{σx:St} {Hx:Hp} {sx:HJ} {ys':List V},Inv (aZ X scope cl N' C s3 H3 fp) (pins++gM fp s7.heap) σx Hx sx->(∃m',m'<n/\W (i+1) m' σx ys' Hx) →
     ∃m,m<n/\∃i σ' ys H',Inv (aZ X scope cl N' C s3 H3 fp) pins σ' H' sx/\tn i sx.heap/\(∀b∈fp,H' b=none)/\W i m σ' ys H':=λ{σx Hx sx ys'} Ix nx=>by
    obtain⟨m',hm,wx⟩:=nx;refine⟨m',hm,i+1,σx,ys',Hx,Ix.Gv,T.keep _ _ _ st7 λb hb o e=>(Ix.pin (b,o) (H0 _ (H0 _ (bY hb e)))).1,λb hb=> ?_,wx⟩
    obtain⟨o,e,d⟩:=T.obj _ _ st7 b hb;exact(Ix.pin (b,o) (H0 _ (H0 _ (bY hb e)))).2.1
   cases ok with
   | false=>
    rw[if_neg Io]at q9 ⊢
    exact again I9 q9
   | true=>
    rw[if_pos rfl]at q9 ⊢;refine bF (bE _ s9 σ8 H9 _ I9 q9) λv s10 hh_=> ?_
    obtain⟨y,H10,I10,r10,hD10,q10⟩:=hh_;refine bF (m7 _ s10 σ8 H10 (.ref D) [y] (.ref D) [v] (λ_ H'=>H'=cz H10 D (.lst (ys++ [y]))) I10 rfl (.cons r10 .nil) ⟨D,ys,y,rfl,rfl,hD10,hlen,rfl⟩) λ_ s11 hh_=> ?_
    obtain⟨_,H11,I11,_,e11⟩:=hh_;subst e11;exact again I11 q10
 exact codeAny_compStart_list loop (T.self _ 0 _ _ _ st4 loop)
theorem wo {elt tg iter:Expr}{ifs:List Expr}{scope:K2}{pos:Pos}{N':List Str}{src:List (Option Nat)}{wi:TI}{g:TG}{tc:TT}{te:TE}
  (hc:X.calm=true) (S:LcScope X scope N' src) (hi:PI X tg iter wi)
  (block:∀cl C s₀ H₀ fp,PG (aZ X scope cl N' C s₀ H₀ fp) tg g/\qF (aZ X scope cl N' C s₀ H₀ fp) ifs tc/\PE (aZ X scope cl N' C s₀ H₀ fp) elt te)
  (hs:autoParam (∀x,Im iter X.env x=pure x) t_) :
  PE X (.ListComp elt [⟨tg,iter,ifs,0⟩] scope pos) (BC X.K wi src g tc te):=by
 intro pins s σ H Q I h;rw[eval_ListComp];exact sL (use:=none) hc S hi block hs I h λD C H' s' ⟨m,hn⟩ inv _ q=>⟨m,hn,λh' hsb=>⟨.ref D,H',inv h' hsb,rfl,q⟩⟩
theorem ET {elt tg iter:Expr}{ifs:List Expr}{scope:K2}{pos py spos:Pos}{N':List Str}{src:List (Option Nat)}{wi:TI}{g:TG}{tc:TT}{te:TE}{i:Nat}{y:Str}
  (hc:X.calm=true) (S:LcScope X scope N' src) (hi:PI X tg iter wi)
  (block:∀cl C s₀ H₀ fp,PG (aZ X scope cl N' C s₀ H₀ fp) tg g/\qF (aZ X scope cl N' C s₀ H₀ fp) ifs tc/\PE (aZ X scope cl N' C s₀ H₀ fp) elt te)
  (hN:X.N.Nodup) (hiy:X.N[i]? =some y) (hy:Loc X.env.scope y) (hsw:Ld (.ListComp elt [⟨tg,iter,ifs,0⟩] scope pos) (some (.Name y py)) spos.line X.env=pure true)
  (hf:X.fn y=true\/X.env.scope.names.lookup y=some .local) (hs:autoParam (∀x,Im iter X.env x=pure x) t_) :
  PS X (.Assign [.Name y py] (.ListComp elt [⟨tg,iter,ifs,0⟩] scope pos) spos) (vI (BC X.K wi src g tc te) (xw i)):=by
 intro pins s σ H D I h;rw[exec_Assign_Name_used _ _ _ _ hsw];refine HM (L8 (HM ?_))
 show wpAny (model X.prog X.w) X.A (do let _ <-L9 (.ListComp elt [⟨tg,iter,ifs,0⟩] scope pos) scope X.env _ (newList []) false (eval iter X.env) (some (assign (.Name y py) X.env))) _ _ s
 refine HM (bF (sL (use:=some (assign (.Name y py) X.env)) (Qf:=λ_ s'=>SP X pins D .next s') (Q:=λv H'=>D.nx (σ.set i (some v)) H') hc S hi block hs I h λL C H' s' ⟨m,hn⟩ inv ⟨c0,c1,c2,c3,c4⟩ q=> ?_) λ_ s' hq=>HX (HX hq))
 have I0:Inv X pins σ H' s':=inv s'.heap (Heap.SameBut.refl ..)
 show wpAny (model X.prog X.w) X.A (assign (.Name y py) X.env (.ref L)) _ _ s'
 refine Pd (mS I0 hN hiy hy (v:=.ref L) rfl (λs2 I2 ⟨b,sb,hb⟩=> ?_) hf)
 have hbC:C≠b:=by
  rcases hb with z | z
  ·rw[z];exact c1
  ·exact λw=>c3 y b z w.symm
 refine⟨m,hn.sameBut sb hbC,λh' hsb=> ?_⟩
 exact⟨_,H',I2.turned (t':=s2.toks) (λb' o hb' e=>(hsb.2 b' hb').trans e) c0 c1 (.inr c2) c3 c4,q⟩
end
end L2
namespace Tr
open PySem PySem.Spec PyProof.Rows L2
def Dw (K:HI)(c:Str):Addr:=match Lh K IM c with
 | some (some (.ref C))=>C
 | _=>0
def A4:T->Option Key
 | .int i=>some (.inl i)
 | .str x=>some (.inr x)
 | _=>none
def lH:List T->Option (List Key)
 | [] =>some []
 | t::l=>match A4 t,lH l with
  | some k,some r=>some (k::r)
  | _,_=>none
def keyOf:T->Option (List Key)
 | .tup l=>lH l
 | _=>none
inductive Rs (α:Type) where
 | ok (a:α) | err (c:Str) | bad
def Rs.bind {α β:Type}(x:Rs α)(f:α->Rs β):Rs β:=match x with
 | .ok a=>f a
 | .err c=> .err c
 | .bad=> .bad
instance:Monad Rs where
 pure:=Rs.ok
 bind:=Rs.bind
@[simp] theorem aC {α β:Type} (a:α) (f:α->Rs β):(Rs.ok a >>= f)=f a:=rfl
@[simp] theorem Gg {α:Type} (a:α):(pure a:Rs α)=Rs.ok a:=rfl
@[simp] theorem F4 {α β:Type} (f:α->Rs β):((Rs.bad:Rs α) >>= f)= .bad:=rfl
@[simp] theorem FL {α β:Type} (c:Str) (f:α->Rs β):((Rs.err c:Rs α) >>= f)= .err c:=rfl
abbrev Ow:=Addr->Prop
def ObN (O:Ow)(H:Hp)(a dx:Addr)(fs:List (Str×V)):Prop:=(¬O a/\¬ O dx/\H dx=some (.own a))/\∃as:List Addr,fs.map (·.2)=as.map V.ref/\a∉as/\dx∉as/\dx≠a/\as.Nodup/\(fs.map (·.1)).Nodup
mutual
def Rep (K:HI)(O:Ow)(H:Hp):T->V->Prop
 | .non,v=>v= .non
 | .bl b,v=>v= .bl b
 | .int i,v=>v= .int i
 | .str x,v=>v= .str x
 | .tup l,v=> ∃a vs,v= .ref a/\¬ O a/\H a=some (.tup vs)/\Reps K O H l vs
 | .lst l,v=> ∃a vs,v= .ref a/\¬ O a/\H a=some (.lst vs)/\Reps K O H l vs
 | .scr l,v=> ∃a,v= .ref a/\¬ O a/\SqL K H a (l.map V.int)
 | .dct ks ts,v=> ∃a kvs,v= .ref a/\¬ O a/\Rd H a (.dT kvs)/\ks.map keyOf=kvs.map (λp=>some p.1)/\Reps K O H ts (kvs.map (·.2))
 | .ob C ns ts,v=> ∃a dx fs,v= .ref a/\ObN O H a dx fs/\H a=some (.ins (Dw K C) dx fs)/\fs.map (·.1)=ns/\Reps K O H ts (fs.map (·.2))
def Reps (K:HI)(O:Ow)(H:Hp):List T->List V->Prop
 | [],vs=>vs= []
 | t::r,vs=> ∃v ws,vs=v::ws/\Rep K O H t v/\Reps K O H r ws
end
def SameO (P:Ow)(H H':Hp):Prop:=∀b o,H b=some o->¬ P b->H' b=some o
theorem SameO.of {P:Ow}{H H':Hp}(h:Same H H'):SameO P H H':=λb o e _=>h b o e
theorem Rd.Ho {P:Ow}{H H':Hp}{a:Addr}{u:HO}(h:SameO P H H')(n:¬ P a)(q:Rd H a u):Rd H' a u:=q.elim (λe=> .inl (h _ _ e n)) λ⟨o,e⟩=> .inr ⟨o,h _ _ e n⟩
theorem SqL.keep {K:HI}{P:Ow}{H H':Hp}{a:Addr}{vs:List V}(h:SameO P H H')(n:¬ P a)(q:SqL K H a vs):SqL K H' a vs:=by
 rcases q with(q | ⟨o,q⟩) | q
 ·exact .inl (.inl (h _ _ q n))
 ·exact .inl (.inr ⟨o,h _ _ q n⟩)
 ·exact .inr q
mutual
theorem Rep.keep {K:HI}{O P:Ow}{H H':Hp}(h:SameO P H H')(sub:∀a,P a->O a):∀{t:T} {v:V},Rep K O H t v->Rep K O H' t v
 | .non,_,r=>by unfold Rep at r ⊢;exact r
 | .bl _,_,r=>by unfold Rep at r ⊢;exact r
 | .int _,_,r=>by unfold Rep at r ⊢;exact r
 | .str _,_,r=>by unfold Rep at r ⊢;exact r
 | .tup l,_,r=>by
  unfold Rep at r ⊢;obtain⟨a,vs,e,n,q,z⟩:=r
  exact⟨a,vs,e,n,h _ _ q (λp=>n (sub a p)),Reps.keep h sub z⟩
 | .lst l,_,r=>by
  unfold Rep at r ⊢;obtain⟨a,vs,e,n,q,z⟩:=r
  exact⟨a,vs,e,n,h _ _ q (λp=>n (sub a p)),Reps.keep h sub z⟩
 | .scr l,_,r=>by
  unfold Rep at r ⊢;obtain⟨a,e,n,q⟩:=r
  exact⟨a,e,n,SqL.keep h (λp=>n (sub a p)) q⟩
 | .dct ks ts,_,r=>by
  unfold Rep at r ⊢;obtain⟨a,kvs,e,n,q,k,z⟩:=r
  exact⟨a,kvs,e,n,Rd.Ho h (λp=>n (sub a p)) q,k,Reps.keep h sub z⟩
 | .ob C ns ts,_,r=>by
  unfold Rep at r ⊢;obtain⟨a,dx,fs,e,n,q,k,z⟩:=r;exact⟨a,dx,fs,e,⟨⟨n.1.1,n.1.2.1,h _ _ n.1.2.2 λp=>n.1.2.1 (sub dx p)⟩,n.2⟩,h _ _ q (λp=>n.1.1 (sub a p)),k,Reps.keep h sub z⟩
theorem Reps.keep {K:HI}{O P:Ow}{H H':Hp}(h:SameO P H H')(sub:∀a,P a->O a):∀{l:List T} {vs:List V},Reps K O H l vs->Reps K O H' l vs
 | [],_,r=>by unfold Reps at r ⊢;exact r
 | t::l,_,r=>by
  unfold Reps at r ⊢;obtain⟨v,ws,e,p,q⟩:=r;exact⟨v,ws,e,Rep.keep h sub p,Reps.keep h sub q⟩
end
mutual
theorem Rep.less {K:HI}{O O':Ow}{H:Hp}(sub:∀a,O' a->O a):∀{t:T} {v:V},Rep K O H t v->Rep K O' H t v
 | .non,_,r=>by unfold Rep at r ⊢;exact r
 | .bl _,_,r=>by unfold Rep at r ⊢;exact r
 | .int _,_,r=>by unfold Rep at r ⊢;exact r
 | .str _,_,r=>by unfold Rep at r ⊢;exact r
 | .tup l,_,r=>by
  unfold Rep at r ⊢;obtain⟨a,vs,e,n,q,z⟩:=r
  exact⟨a,vs,e,λp=>n (sub a p),q,Reps.less sub z⟩
 | .lst l,_,r=>by
  unfold Rep at r ⊢;obtain⟨a,vs,e,n,q,z⟩:=r
  exact⟨a,vs,e,λp=>n (sub a p),q,Reps.less sub z⟩
 | .scr l,_,r=>by
  unfold Rep at r ⊢;obtain⟨a,e,n,z⟩:=r
  exact⟨a,e,λp=>n (sub a p),z⟩
 | .dct ks ts,_,r=>by
  unfold Rep at r ⊢;obtain⟨a,kvs,e,n,q,k,z⟩:=r
  exact⟨a,kvs,e,λp=>n (sub a p),q,k,Reps.less sub z⟩
 | .ob C ns ts,_,r=>by
  unfold Rep at r ⊢;obtain⟨a,dx,fs,e,n,q,k,z⟩:=r;exact⟨a,dx,fs,e,⟨⟨λp=>n.1.1 (sub a p),λp=>n.1.2.1 (sub dx p),n.1.2.2⟩,n.2⟩,q,k,Reps.less sub z⟩
theorem Reps.less {K:HI}{O O':Ow}{H:Hp}(sub:∀a,O' a->O a):∀{l:List T} {vs:List V},Reps K O H l vs->Reps K O' H l vs
 | [],_,r=>by unfold Reps at r ⊢;exact r
 | t::l,_,r=>by
  unfold Reps at r ⊢;obtain⟨v,ws,e,p,q⟩:=r;exact⟨v,ws,e,Rep.less sub p,Reps.less sub q⟩
end
section
variable {K:HI}{O:Ow}{H H':Hp}{t:T}{v:V}{l:List T}{vs:List V}
theorem Rep.same (h:Same H H')(r:Rep K O H t v):Rep K O H' t v:=Rep.keep (P:=λ_=>False) (SameO.of h) (λ_ z=>z.elim) r
theorem Reps.same (h:Same H H')(r:Reps K O H l vs):Reps K O H' l vs:=Reps.keep (P:=λ_=>False) (SameO.of h) (λ_ z=>z.elim) r
theorem Rep.G2:Rep K O H .non .non:=by unfold Rep;rfl
theorem Rep.bl_ (b:Bool):Rep K O H (.bl b) (.bl b):=by unfold Rep;rfl
theorem Rep.GA (i:Int):Rep K O H (.int i) (.int i):=by unfold Rep;rfl
theorem Rep.GG (x:Str):Rep K O H (.str x) (.str x):=by unfold Rep;rfl
theorem Rep.Fk:Rep K O H (.tup l) v↔ ∃a vs,v= .ref a/\¬ O a/\H a=some (.tup vs)/\Reps K O H l vs:=by unfold Rep;exact MG
theorem Rep.FB:Rep K O H (.lst l) v↔ ∃a vs,v= .ref a/\¬ O a/\H a=some (.lst vs)/\Reps K O H l vs:=by unfold Rep;exact MG
theorem Rep.GB {ks ts:List T}:Rep K O H (.dct ks ts) v↔ ∃a kvs,v= .ref a/\¬ O a/\Rd H a (.dT kvs)/\ks.map keyOf=kvs.map (λp=>some p.1)/\Reps K O H ts (kvs.map (·.2)):=by unfold Rep;exact MG
theorem Rep.GY {C:Str}{ns:List Str}{ts:List T}:Rep K O H (.ob C ns ts) v↔ ∃a dx fs,v= .ref a/\ObN O H a dx fs/\H a=some (.ins (Dw K C) dx fs)/\fs.map (·.1)=ns/\Reps K O H ts (fs.map (·.2)):=by unfold Rep;exact MG
theorem Rep.Do {i:Int}:Rep K O H (.int i) v↔v= .int i:=by unfold Rep;exact MG
theorem Rep.Gc {b:Bool}:Rep K O H (.bl b) v↔v= .bl b:=by unfold Rep;exact MG
theorem Rep.FS {b:Str}:Rep K O H (.str b) v↔v= .str b:=by unfold Rep;exact MG
theorem Rep.GC:Rep K O H .non v↔v= .non:=by unfold Rep;exact MG
theorem Reps.Gz:Reps K O H [] []:=by unfold Reps;rfl
theorem Reps.Gw (r:Rep K O H t v)(q:Reps K O H l vs):Reps K O H (t::l) (v::vs):=by unfold Reps;exact⟨v,vs,rfl,r,q⟩
theorem Reps.Da:Reps K O H [] vs↔vs= []:=by unfold Reps;exact MG
theorem Reps.AC:Reps K O H (t::l) vs↔ ∃v ws,vs=v::ws/\Rep K O H t v/\Reps K O H l ws:=by
 constructor
 ·intro h;unfold Reps at h;exact h
 ·intro h;unfold Reps;exact h
end
section
variable {K:HI}{O:Ow}{H H':Hp}
theorem Reps.length:∀{l:List T} {vs:List V},Reps K O H l vs->l.length=vs.length
 | [],vs,r=>by rw[Reps.Da.mp r];rfl
 | t::l,vs,r=>by
  obtain⟨v,ws,rfl,_,q⟩:=Reps.AC.mp r;simp[q.length]
theorem Reps.get:∀{l:List T} {vs:List V} {i:Nat} {t:T},Reps K O H l vs->l[i]? =some t->∃v,vs[i]? =some v/\Rep K O H t v
 | [],_,_,_,_,e=>by simp at e
 | t::l,vs,i,u,r,e=>by
  obtain⟨v,ws,rfl,p,q⟩:=Reps.AC.mp r
  cases i with
  | zero=>simp at e;subst e;exact⟨v,rfl,p⟩
  | succ i=>
   obtain⟨z,e1,e2⟩:=q.get (i:=i) (t:=u) (by simpa using e)
   exact⟨z,by simpa using e1,e2⟩
theorem Reps.append:∀{l m:List T} {vs ws:List V},Reps K O H l vs->Reps K O H m ws->Reps K O H (l++m) (vs++ws)
 | [],_,vs,_,r,s=>by rw[Reps.Da.mp r];exact s
 | t::l,m,vs,ws,r,s=>by
  obtain⟨v,us,rfl,p,q⟩:=Reps.AC.mp r;exact Reps.Gw p (q.append s)
theorem Reps.take:∀{l:List T} {vs:List V} (n:Nat),Reps K O H l vs->Reps K O H (l.take n) (vs.take n)
 | _,_,0,_=>Reps.Gz
 | [],vs,n+1,r=>by rw[Reps.Da.mp r];exact Reps.Gz
 | t::l,vs,n+1,r=>by
  obtain⟨v,us,rfl,p,q⟩:=Reps.AC.mp r;exact Reps.Gw p (q.take n)
theorem Reps.drop:∀{l:List T} {vs:List V} (n:Nat),Reps K O H l vs->Reps K O H (l.drop n) (vs.drop n)
 | _,_,0,r=>r
 | [],vs,n+1,r=>by rw[Reps.Da.mp r];exact Reps.Gz
 | t::l,vs,n+1,r=>by
  obtain⟨v,us,rfl,p,q⟩:=Reps.AC.mp r;exact q.drop n
theorem Reps.ints:∀{ns:List Int},Reps K O H (ns.map T.int) (ns.map V.int)
 | [] =>Reps.Gz
 | n::r=>Reps.Gw (Rep.GA n) Reps.ints
end
def RowsR (K:HI)(O:Ow)(H:Hp):List (List T×List T)->List Addr->Prop
 | [],as=>as= []
 | r::rs,as=> ∃b bs kvs,as=b::bs/\H b=some (.dT kvs)/\r.1.map keyOf=kvs.map (λp=>some p.1)/\Reps K O H r.2 (kvs.map (·.2))/\RowsR K O H rs bs
def LsR (K:HI)(O:Ow)(H:Hp):List (List T)->List Addr->Prop
 | [],as=>as= []
 | l::ls,as=> ∃b bs vs,as=b::bs/\H b=some (.lst vs)/\Reps K O H l vs/\LsR K O H ls bs
def ORep (K:HI)(O M:Ow)(H:Hp):OT->V->Prop
 | .lst l,v=> ∃a vs,v= .ref a/\(∀b,M b↔b=a)/\H a=some (.lst vs)/\Reps K O H l vs
 | .dct ks ts,v=> ∃a kvs,v= .ref a/\(∀b,M b↔b=a)/\H a=some (.dT kvs)/\ks.map keyOf=kvs.map (λp=>some p.1)/\Reps K O H ts (kvs.map (·.2))
 | .dd ks rows,v=> ∃a kvs as,v= .ref a/\(∀b,M b↔b=a\/b∈as)/\a∉as/\as.Nodup/\H a=some (.dT kvs)/\ks.map keyOf=kvs.map (λp=>some p.1)/\kvs.map (·.2)=as.map V.ref/\RowsR K O H rows as
 | .ob C ns ls,v=> ∃a dx as,v= .ref a/\(∀b,M b↔b=a\/b=dx\/b∈as)/\(a∉as/\dx∉as/\dx≠a/\as.Nodup)/\H a=some (.ins (Dw K C) dx (ns.zip (as.map V.ref)))/\H dx=some (.own a)/\ns.length=as.length/\ns.Nodup/\LsR K O H ls as
 | .ll ls,v=> ∃a as,v= .ref a/\(∀b,M b↔b=a\/b∈as)/\a∉as/\as.Nodup/\H a=some (.lst (as.map V.ref))/\LsR K O H ls as
inductive Sl where
 | em | va (t:T) | ow (o:OT)
abbrev En:=List Sl
abbrev Mn:=Nat->Ow
def Mn.u (M:Mn):Ow:=λa=> ∃i,M i a
def isO:HO->Bool
 | .ins _ _ _=>true
 | .own _=>true
 | _=>false
def Mtb (H:Hp)(a:Addr):Prop:=(∃vs,H a=some (.lst vs))\/(∃kvs,H a=some (.dT kvs))\/∃o,H a=some o/\isO o=true
theorem Mtb.some {H:Hp}{a:Addr}(h:Mtb H a):∃o,H a=some o:=by
 rcases h with⟨_,e⟩ | ⟨_,e⟩ | ⟨_,e,_⟩ <;> exact⟨_,e⟩
theorem Mtb.at {H H':Hp}{a:Addr}(s:∀o,H a=Jn o->H' a=Jn o)(h:Mtb H a):Mtb H' a:=by
 rcases h with⟨vs,e⟩ | ⟨k,e⟩ | ⟨o,e,q⟩
 ·exact .inl ⟨vs,s _ e⟩
 ·exact .inr (.inl ⟨k,s _ e⟩)
 ·exact .inr (.inr ⟨o,s _ e,q⟩)
theorem Mtb.same {H H':Hp}(s:Same H H'){a:Addr}(h:Mtb H a):Mtb H' a:=h.at λo e=>s a o e
structure EnvM (K:HI)(O:Ow)(M:Mn)(H:Hp)(ρ:En)(σ:L2.St):Prop where
 len:ρ.length=σ.length
 val:∀(i:Nat) (t:T),ρ[i]? =some (.va t)->∃v,σ[i]? =some (some v)/\Rep K O H t v
 own:∀(i:Nat) (o:OT),ρ[i]? =some (.ow o)->∃v,σ[i]? =some (some v)/\ORep K O (M i) H o v
 sub:∀(i:Nat) (a:Addr),M i a->O a
 dis:∀(i j:Nat) (a:Addr),M i a->M j a->i=j
 trk:∀(a:Addr),O a->Mtb H a
theorem RowsR.same {K:HI}{O:Ow}{H H':Hp}(h:Same H H'):∀{rs:List (List T×List T)} {as:List Addr},RowsR K O H rs as->RowsR K O H' rs as
 | [],_,r=>r
 | _::_,_,⟨b,bs,kvs,e1,e2,e3,e4,e5⟩=>⟨b,bs,kvs,e1,h _ _ e2,e3,e4.same h,e5.same h⟩
theorem LsR.same {K:HI}{O:Ow}{H H':Hp}(h:Same H H'):∀{ls:List (List T)} {as:List Addr},LsR K O H ls as->LsR K O H' ls as
 | [],_,r=>r
 | _::_,_,⟨b,bs,vs,e1,e2,e3,e4⟩=>⟨b,bs,vs,e1,h _ _ e2,e3.same h,e4.same h⟩
theorem ORep.same {K:HI}{O M:Ow}{H H':Hp}(h:Same H H'){o:OT}{v:V}(r:ORep K O M H o v):ORep K O M H' o v:=by
 cases o with
 | lst l=>obtain⟨a,vs,e1,e2,e3,e4⟩:=r;exact⟨a,vs,e1,e2,h _ _ e3,e4.same h⟩
 | dct ks ts=>obtain⟨a,kvs,e1,e2,e3,e4,e5⟩:=r;exact⟨a,kvs,e1,e2,h _ _ e3,e4,e5.same h⟩
 | dd ks rows=>obtain⟨a,kvs,as,e1,e2,e3,e4,e5,e6,e7,e8⟩:=r;exact⟨a,kvs,as,e1,e2,e3,e4,h _ _ e5,e6,e7,e8.same h⟩
 | ob C ns ls=>obtain⟨a,dx,as,e1,e2,e3,e4,e5,e6,e7,e8⟩:=r;exact⟨a,dx,as,e1,e2,e3,h _ _ e4,h _ _ e5,e6,e7,e8.same h⟩
 | ll ls=>obtain⟨a,as,e1,e2,e3,e4,e5,e6⟩:=r;exact⟨a,as,e1,e2,e3,e4,h _ _ e5,e6.same h⟩
theorem EnvM.same {K:HI}{O:Ow}{M:Mn}{H H':Hp}{ρ:En}{σ:L2.St}(h:Same H H')(e:EnvM K O M H ρ σ):EnvM K O M H' ρ σ where
 len:=e.len
 val:=λi t q=>let ⟨v,e1,e2⟩:=e.val i t q;⟨v,e1,e2.same h⟩
 own:=λi o q=>let ⟨v,e1,e2⟩:=e.own i o q;⟨v,e1,e2.same h⟩
 sub:=e.sub
 dis:=e.dis
 trk:=λa q=>(e.trk a q).same h
def EnvO (K:HI)(O:Ow)(H:Hp)(ρ:En)(σ:L2.St):Prop:=∃M,EnvM K O M H ρ σ
section
variable {K:HI}{O:Ow}{H H':Hp}{ρ:En}{σ:L2.St}
theorem EnvO.val (e:EnvO K O H ρ σ)(i:Nat)(t:T)(q:ρ[i]? =some (.va t)):∃v,σ[i]? =some (some v)/\Rep K O H t v:=e.elim λ_ e=>e.val i t q
theorem EnvO.mtb (e:EnvO K O H ρ σ):∀a,O a->Mtb H a:=e.elim λ_ e=>e.trk
theorem EnvO.trk (e:EnvO K O H ρ σ)(a:Addr)(z:O a):∃o,H a=some o:=(e.mtb a z).some
theorem EnvO.same (h:Same H H')(e:EnvO K O H ρ σ):EnvO K O H' ρ σ:=e.elim λM e=>⟨M,e.same h⟩
theorem EnvO.fresh (e:EnvO K O H ρ σ){p:Addr}(h:H p=none):¬ O p:=λz=>by
 obtain⟨o,q⟩:=e.trk p z;rw[h]at q;cases q
end
def Flt (h:Heap)(C e:Addr):Option Addr->Prop
 | none=> ∃oe vs,h.get? e=some oe/\oe.cls= .ref C/\oe.data= .fields vs/\vs[1]? =some .none
 | some T=>T≠e/\∃oe vs,h.get? e=some oe/\oe.cls= .ref C/\oe.data= .fields vs/\vs[1]? =some (.ref T)/\∃oT ts,h.get? T=some oT/\oT.data= .fields ts/\ts[3]? =some .none
def RzP (X:Cx)(pins:List (Addr×Obj))(P:Ow)(H:Hp)(c:Str)(ev:HL)(s':HJ):Prop:=
 ∃e T C σ' H',ev= .ref e/\X.mg c=some (.ref C)/\Inv X pins σ' H' s'/\SameO P H H'/\H' e=none/\(X.ex= []->X.s₀.heap.get? e=none)/\Flt s'.heap C e T/\(∀t,T=some t->H' t=none/\(X.ex= []->X.s₀.heap.get? t=none))/\∀p∈X.pn++pins,p.1≠e/\T≠some p.1
def Nw (K:HI)(H:Hp):Ow:=λa=>H a=none/\K.lookup a=none
theorem fv {K:HI}{P:Ow}{H H1:Hp}(h:SameO P H H1){a:Addr}(n:Nw K H1 a):P a\/Nw K H a:=by
 by_cases hp:P a
 ·exact .inl hp
 ·refine .inr ⟨?_,n.2⟩
  cases q:H a with
  | none=>rfl
  | some o=>have:=h a o q hp;rw[n.1]at this;cases this
theorem SameO.trans {K:HI}{P P1:Ow}{H H1 H2:Hp}(h:SameO P H H1)(h1:SameO P1 H1 H2)(sub:∀a,P1 a->P a\/Nw K H a):SameO P H H2:=λb o e n=>
 h1 b o (h b o e n) λz=>(sub b z).elim n λw=>by rw[w.1]at e;cases e
def XA (X:Cx)(P:Ow)(H:Hp)(c:Str):Prop:=∀pins ev s',RzP X pins P H c ev s'->X.xe ev s'
theorem XA.later {X:Cx}{P P1:Ow}{H H1:Hp}{c:Str}(h:XA X P H c)(s:SameO P H H1)(sub:∀a,P1 a->P a\/Nw X.K H a):XA X P1 H1 c:=λpins ev s' ⟨e,T,C,σ',H',a1,a2,a3,a4,a5⟩=>
 h pins ev s' ⟨e,T,C,σ',H',a1,a2,a3,s.trans a4 sub,a5⟩
abbrev wQ:Ow:=λ_=>False
def Post {α:Type}(X:Cx)(H:Hp)(r:Rs α)(k:α->Hp->Prop):Prop:=match r with
 | .ok t=> ∀H',Same H H'->k t H'
 | .err c=>XA X wQ H c
 | .bad=>False
theorem Post.mono {α:Type}{X:Cx}{H:Hp}{r:Rs α}{k k':α->Hp->Prop}(h:Post X H r k)(f:∀t H',Same H H'->k t H'->k' t H'):Post X H r k':=by
 cases r with
 | ok t=>exact λH' s=>f t H' s (h H' s)
 | err c=>exact h
 | bad=>exact h
theorem Post.later {α:Type}{X:Cx}{H H1:Hp}{r:Rs α}{k:α->Hp->Prop}(h:Post X H r k)(s:Same H H1):Post X H1 r k:=by
 cases r with
 | ok t=>exact λH' s'=>h H' (s.trans s')
 | err c=>exact XA.later h (SameO.of s) λ_ z=>z.elim
 | bad=>exact h
theorem Post.bind {α β:Type}{X:Cx}{H:Hp}{r:Rs α}{f:α->Rs β}{k:β->Hp->Prop}(h:Post X H (r >>= f) k):Post X H r λt H'=>Post X H' (f t) k:=by
 cases r with
 | ok t=>exact λH' s=>Post.later h s
 | err c=>exact h
 | bad=>exact h
def tP (X:Cx)(f:En->Rs T):TE:=λσ H Q=> ∃ρ O,EnvO X.K O H ρ σ/\Post X H (f ρ) λt H'=> ∀v,Rep X.K O H' t v->Q v H'
def tPA (X:Cx)(f:En->Rs (List T)):TA:=λσ H Q=> ∃ρ O,EnvO X.K O H ρ σ/\Post X H (f ρ) λt H'=> ∀v,Reps X.K O H' t v->Q v H'
def uR (X:Cx)(f:En->Rs Bool):TT:=λσ H Q=> ∃ρ O,EnvO X.K O H ρ σ/\Post X H (f ρ) λb H'=>Q b H'
abbrev cL (X:Cx)(e:Expr)(f:En->Rs T):Prop:=PE X e (tP X f)
abbrev o4 (X:Cx)(e:List Expr)(f:En->Rs (List T)):Prop:=PA X e (tPA X f)
abbrev yb (X:Cx)(e:Expr)(f:En->Rs Bool):Prop:=PT X e (uR X f)
theorem PE.imp {X:Cx}{e:Expr}{t t':TE}(h:PE X e t)(w:∀σ H Q,t' σ H Q->t σ H Q):PE X e t':=λpins s σ H Q I q=>h pins s σ H Q I (w σ H Q q)
theorem PA.imp {X:Cx}{e:List Expr}{t t':TA}(h:PA X e t)(w:∀σ H Q,t' σ H Q->t σ H Q):PA X e t':=λpos pins s σ H Q I q=>h pos pins s σ H Q I (w σ H Q q)
theorem PS.imp {X:Cx}{e:Stmt}{t t':TS}(h:PS X e t)(w:∀D σ H,t' D σ H->t D σ H):PS X e t':=λpins s σ H D I q=>h pins s σ H D I (w D σ H q)
theorem PSs.imp {X:Cx}{e:List Stmt}{t t':TS}(h:PSs X e t)(w:∀D σ H,t' D σ H->t D σ H):PSs X e t':=λpins s σ H D I q=>h pins s σ H D I (w D σ H q)
section
variable {X:Cx}
theorem aI {σ:L2.St}{H:Hp}{ρ:En}{O:Ow}{α:Type}{f:En->Rs T}{k:T->Rs α}{Q:α->Hp->Prop}(E:EnvO X.K O H ρ σ)(h:Post X H (f ρ >>= k) Q) :
  tP X f σ H λv H'=> ∃t,Rep X.K O H' t v/\Same H H'/\EnvO X.K O H' ρ σ/\Post X H' (k t) Q:=
 ⟨ρ,O,E,Post.mono h.bind λt H' s q v r=>⟨t,r,s,E.same s,q⟩⟩
theorem dH {σ:L2.St}{H:Hp}{ρ:En}{O:Ow}{α:Type}{f:En->Rs (List T)}{k:List T->Rs α}{Q:α->Hp->Prop}(E:EnvO X.K O H ρ σ)(h:Post X H (f ρ >>= k) Q) :
  tPA X f σ H λv H'=> ∃t,Reps X.K O H' t v/\Same H H'/\EnvO X.K O H' ρ σ/\Post X H' (k t) Q:=
 ⟨ρ,O,E,Post.mono h.bind λt H' s q v r=>⟨t,r,s,E.same s,q⟩⟩
theorem gH {σ:L2.St}{H:Hp}{ρ:En}{O:Ow}{α:Type}{f:En->Rs Bool}{k:Bool->Rs α}{Q:α->Hp->Prop}(E:EnvO X.K O H ρ σ)(h:Post X H (f ρ >>= k) Q) :
  uR X f σ H λb H'=>Same H H'/\EnvO X.K O H' ρ σ/\Post X H' (k b) Q:=
 ⟨ρ,O,E,Post.mono h.bind λt H' s q=>⟨s,E.same s,q⟩⟩
noncomputable def vr (i:Nat)(ρ:En):Rs T:=match ρ[i]? with
 | some (.va t)=> .ok t
 | _=> .bad
def cn (t:T)(_:En):Rs T:=.ok t
theorem ED (i:Nat){x:Str}{pos:Pos}(hN:autoParam (X.N[i]? =some x) u_)(hv:autoParam (rO X.env.scope x) v_)(hd:autoParam ((x == ("__debug__" : Str))=false) s_)
  (hcd:autoParam ((x == ("__classdict__" : Str))=false) s_):cL X (.Name x pos) (vr i):=PE.imp (jP hN hv hd hcd) λσ H Q hh_=>by
 obtain⟨ρ,O,E,h⟩:=hh_;unfold vr at h
 split at h
 ·rename_i t e
  obtain⟨v,e1,e2⟩:=E.val i t e;exact⟨v,e1,h H (Same.refl H) v e2⟩
 ·exact h.elim
theorem EM {i j pos}:cL X (.Constant (.int i) j pos) (cn (.int i)):=PE.imp wq λσ H Q ⟨ρ,O,E,h⟩=>h H (Same.refl H) _ (Rep.GA i)
theorem q_bl {i j pos}:cL X (.Constant (.bool i) j pos) (cn (.bl i)):=PE.imp wy λσ H Q ⟨ρ,O,E,h⟩=>h H (Same.refl H) _ (Rep.bl_ i)
theorem EI {j pos}:cL X (.Constant .none j pos) (cn .non):=PE.imp Cn λσ H Q ⟨ρ,O,E,h⟩=>h H (Same.refl H) _ Rep.G2
theorem EF {i j pos}:cL X (.Constant (.str i) j pos) (cn (.str i)):=PE.imp wk λσ H Q ⟨ρ,O,E,h⟩=>h H (Same.refl H) _ (Rep.GG i)
theorem Cb {x:Str}{i:Int}{u:HL}{pos:Pos}(hm:X.mg x=some u)(r:RelV (.int i) u)(hg:autoParam (Gl X x) u_)(hd:autoParam ((x == ("__debug__" : Str))=false) s_):cL X (.Name x pos) (cn (.int i)):=
 PE.imp (sr hg hm r hd) λσ H Q ⟨ρ,O,E,h⟩=>h H (Same.refl H) _ (Rep.GA i)
def ai (_:En):Rs (List T):=.ok []
def ae (f:En->Rs T)(g:En->Rs (List T))(ρ:En):Rs (List T):=do
 let t <-f ρ
 let r <-g ρ
 .ok (t::r)
theorem Ca:o4 X [] ai:=PA.imp fD λσ H Q ⟨ρ,O,E,h⟩=>h H (Same.refl H) _ Reps.Gz
theorem yY {e:Expr}{es:List Expr}{f:En->Rs T}{g:En->Rs (List T)}(he:cL X e f)(hr:o4 X es g)(hs:autoParam (Ik (e::es) X.env=(false,eval e X.env)::Ik es X.env) u_):o4 X (e::es) (ae f g):=by
 intro pos pins s σ H Q I h;obtain⟨ρ,O,E,h⟩:=h;refine b9 he hr hs pos pins s σ H Q I ?_
 obtain⟨ρ1,O1,E1,h1⟩:=aI E h;refine⟨ρ1,O1,E1,Post.mono h1 λt H' s q v r=> ?_⟩
 obtain⟨t',r',s',E',q'⟩:=q v r;refine⟨ρ,O,E',Post.mono q'.bind λts H2 s2 q2 vs rs=> ?_⟩
 exact q2 H2 (Same.refl H2) _ (Reps.Gw (r'.same s2) rs)
end
section
variable {X:Cx}
def fg (l:List T):Rs T:=if l.length<=sizeLine then .ok (.tup l)else .bad
def kg (l:List T):Rs T:=if l.length<=sizeLine then .ok (.lst l)else .bad
def bt (f:En->Rs (List T))(ρ:En):Rs T:=f ρ >>= fg
def g7 (f:En->Rs (List T))(ρ:En):Rs T:=f ρ >>= kg
theorem aV {H:Hp}{p:Addr}(h:H p=none)(o:HO):Same H (cz H p o):=λb u q=>by rw[aO (bP q h)];exact q
theorem dI {K:HI}{O:Ow}{H:Hp}{p:Addr}{l:List T}{vs:List V}(h:H p=none)(n:¬ O p)(r:Reps K O H l vs):Rep K O (cz H p (.tup vs)) (.tup l) (.ref p):=
 Rep.Fk.mpr ⟨p,vs,rfl,n,aU,r.same (aV h _)⟩
theorem eF {K:HI}{O:Ow}{H:Hp}{p:Addr}{l:List T}{vs:List V}(h:H p=none)(n:¬ O p)(r:Reps K O H l vs):Rep K O (cz H p (.lst vs)) (.lst l) (.ref p):=
 Rep.FB.mpr ⟨p,vs,rfl,n,aU,r.same (aV h _)⟩
theorem EE {es:List Expr}{x1:Nat}{pos:Pos}{f:En->Rs (List T)}(h:o4 X es f):cL X (.Tuple es x1 pos) (bt f):=by
 intro pins s σ H Q I ⟨ρ,O,E,hq⟩;refine wj h pins s σ H Q I ?_
 obtain⟨ρ1,O1,E1,h1⟩:=dH E hq;refine⟨ρ1,O1,E1,Post.mono h1 λts H1 s1 q vs r=> ?_⟩
 obtain⟨t',r',s',E',q'⟩:=q vs r;unfold fg at q'
 split at q'
 ·rename_i hz
  refine⟨by rw[<-r'.length];exact hz,λp hp=> ?_⟩
  exact q' _ (aV hp _) _ (dI hp (E'.fresh hp) r')
 ·exact q'.elim
theorem EK {es:List Expr}{pos:Pos}{f:En->Rs (List T)}(h:o4 X es f):cL X (.List es pos) (g7 f):=by
 intro pins s σ H Q I ⟨ρ,O,E,hq⟩;refine wm h pins s σ H Q I ?_
 obtain⟨ρ1,O1,E1,h1⟩:=dH E hq;refine⟨ρ1,O1,E1,Post.mono h1 λts H1 s1 q vs r=> ?_⟩
 obtain⟨t',r',s',E',q'⟩:=q vs r;unfold kg at q'
 split at q'
 ·rename_i hz
  refine⟨by rw[<-r'.length];exact hz,λp hp=> ?_⟩
  exact q' _ (aV hp _) _ (eF hp (E'.fresh hp) r')
 ·exact q'.elim
def OpT (X:Cx)(f:HL->HL->Sem HL)(g:T->T->Rs T):Prop:=
 ∀(pins:List (Addr×Obj)) (s:HJ) (σ:L2.St) (H:Hp) (O:Ow) (x y:T) (vx vy:V) (ux uy:HL) (Q:VK),Inv X pins σ H s->(∀p,H p=none->¬ O p)->Rep X.K O H x vx->Rep X.K O H y vy->RelV vx ux->RelV vy uy →
  Post X H (g x y) (λt H'=> ∀v,Rep X.K O H' t v->Q v H')->wpAny (model X.prog X.w) X.A (f ux uy) (EP X pins σ Q) X.xe s
def o2 (g:T->T->Rs T)(fa fb:En->Rs T)(ρ:En):Rs T:=do
 let x <-fa ρ
 let y <-fb ρ
 g x y
variable {a b c:Expr}{fa fb fc:En->Rs T}{pos:Pos}
theorem ER {op:Operator}{g:T->T->Rs T}(ho:OpT X (J8 op) g)(ha:cL X a fa)(hb:cL X b fb):cL X (.BinOp a op b pos) (o2 g fa fb):=by
 intro pins s σ H Q I ⟨ρ,O,E,hq⟩
 have h1:=aI E hq;refine wpAny_BinOp (bF (ha pins s σ H _ I h1) λv s1 hh_=> ?_)
 obtain⟨x,H1,I1,r1,t,rt,s',E',q1⟩:=hh_
 have h2:=aI (f:=fb) E' q1;refine bF (hb pins s1 σ H1 _ I1 h2) λu s2 hh_=> ?_
 obtain⟨y,H2,I2,r2,t2,rt2,s'',E'',q2⟩:=hh_;exact ho pins s2 σ H2 O t t2 x y v u Q I2 (λp=>E''.fresh) (rt.same s'') rt2 r1 r2 q2
theorem EO {op:Oz}{g:T->T->Rs T}(ho:OpT X (Jl op) g)(ha:cL X a fa)(hb:cL X b fb)(hm:autoParam (JJ op b=false) u_):cL X (.Compare a [op] [b] pos) (o2 g fa fb):=by
 intro pins s σ H Q I ⟨ρ,O,E,hq⟩
 have h1:=aI E hq;refine wpAny_Compare1 (bF (ha pins s σ H _ I h1) λv s1 ⟨x,H1,I1,r1,t,rt,s',E',q1⟩=> ?_) hm
 have h2:=aI (f:=fb) E' q1;refine bF (hb pins s1 σ H1 _ I1 h2) λu s2 hh_=> ?_
 obtain⟨y,H2,I2,r2,t2,rt2,s'',E'',q2⟩:=hh_;exact ho pins s2 σ H2 O t t2 x y v u Q I2 (λp=>E''.fresh) (rt.same s'') rt2 r1 r2 q2
theorem OpT.of {f:HL->HL->Sem HL}{r:R2}(h:mJ X f r){g:T->T->Rs T}
  (w:∀(H:Hp) (O:Ow) (x y:T) (vx vy:V) (Q:VK),(∀p,H p=none->¬ O p)->Rep X.K O H x vx->Rep X.K O H y vy->Post X H (g x y) (λt H'=> ∀v,Rep X.K O H' t v->Q v H')->r vx vy H Q):OpT X f g:=
 λpins s σ H O x y vx vy ux uy Q I hf rx ry r1 r2 hp=>h pins s σ H vx vy ux uy Q I r1 r2 (w H O x y vx vy Q hf rx ry hp)
def kr:T->T->Rs T
 | .int i,.int j=> .ok (.int (i - j))
 | _,_=> .bad
theorem lj:OpT X (J8 .Sub) kr:=OpT.of Cr λH O x y vx vy Q hf rx ry hp=>by
 unfold kr at hp
 split at hp
 ·exact⟨_,_,Rep.Do.mp rx,Rep.Do.mp ry,hp H (Same.refl H) _ (Rep.GA _)⟩
 ·exact hp.elim
def jG:T->T->Rs T
 | .int i,.int j=>if 0<j/\j<1073741824 then .ok (.int (i / j))else .bad
 | _,_=> .bad
def jB:T->T->Rs T
 | .int i,.int j=>if 0<j then .ok (.int (i % j))else .bad
 | _,_=> .bad
theorem kG:OpT X (J8 .FloorDiv) jG:=OpT.of zo λH O x y vx vy Q hf rx ry hp=>by
 unfold jG at hp
 split at hp
 ·split at hp
  ·rename_i h
   exact⟨_,_,Rep.Do.mp rx,Rep.Do.mp ry,h,hp H (Same.refl H) _ (Rep.GA _)⟩
  ·exact hp.elim
 ·exact hp.elim
theorem iU:OpT X (J8 .Mod) jB:=OpT.of Cv λH O x y vx vy Q hf rx ry hp=>by
 unfold jB at hp
 split at hp
 ·split at hp
  ·rename_i h
   exact⟨_,_,Rep.Do.mp rx,Rep.Do.mp ry,h,hp H (Same.refl H) _ (Rep.GA _)⟩
  ·exact hp.elim
 ·exact hp.elim
theorem wI:mJ X (J8 .Add) (λx y H Q=> ∃a b ys,x= .ref a/\y= .ref b/\SqT X.K H a []/\SqT X.K H b ys/\Q (.ref b) H):=by
 intro pins s σ H x y v u Q I rx ry h;obtain⟨a,b,ys,rfl,rfl,ha,hb,q⟩:=h;cases rx;cases ry;obtain⟨its,r1,p1,_⟩:=I.tuple ha;obtain⟨its2,r2,p2,_⟩:=I.tuple hb;obtain⟨⟨cls,dd,data,sl⟩,ho,hc,n,hd⟩:=id p1;obtain⟨⟨cls2,dd2,data2,sl2⟩,ho2,hc2,n2,hd2⟩:=id p2;simp only at hc hd hc2 hd2;subst hc hd hc2 hd2
 have e:its= []:=by cases r1;rfl
 subst e;exact HT_concat0 ho ho2 ⟨.ref b,H,I,rfl,q⟩
where
 HT_concat0 {prog:Ip} {w:IV} {A:IE} {E:HL->HJ->Prop} {s:HJ} {t b:Addr} {ws:Array HL} {n n2:Nat} {dd dd2:Option Addr} {sl sl2:Array (Option HL)} {Q:HL->HJ->Prop}
   (ho:s.heap.get? t=some { cls:=.type "tuple",dict:=dd,data:=.seq (([]:List HL).toArray) n,slots:=sl }) (ho2:s.heap.get? b=some { cls:=.type "tuple",dict:=dd2,data:=.seq ws n2,slots:=sl2 }) (h:Q (.ref b) s) :
   wpAny (model prog w) A (J8 .Add (.ref t) (.ref b)) Q E s:=
  Pu ⟨_,ho,rfl⟩ ⟨_,ho2,rfl⟩ Nk OG LF Lo (Lg _ _)
   (tuple_addW0 t b _ _ n n2 dd dd2 sl sl2 (by simp)) ⟨ho,ho2,h⟩
def aB:T->T->Rs T
 | .int i,.int j=> .ok (.int (i+j))
 | .str i,.str j=>if i.length+j.length<=sizeLine then .ok (.str (i++j))else .bad
 | .tup l,.tup m=>fg (l++m)
 | .lst l,.lst m=>kg (l++m)
 | _,_=> .bad
theorem az:OpT X (J8 .Add) aB:=by
 intro pins s σ H O x y vx vy ux uy Q I hf rx ry r1 r2 hp;unfold aB at hp
 split at hp
 ·exact Cz pins s σ H vx vy ux uy Q I r1 r2 ⟨_,_,Rep.Do.mp rx,Rep.Do.mp ry,hp H (Same.refl H) _ (Rep.GA _)⟩
 ·split at hp
  ·rename_i h
   exact qY pins s σ H vx vy ux uy Q I r1 r2 ⟨_,_,Rep.FS.mp rx,Rep.FS.mp ry,h,hp H (Same.refl H) _ (Rep.GG _)⟩
  ·exact hp.elim
 ·rename_i l m
  unfold fg at hp
  split at hp
  ·rename_i h
   obtain⟨a,vs,e1,n1,q1,z1⟩:=Rep.Fk.mp rx;obtain⟨b,ws,e2,n2,q2,z2⟩:=Rep.Fk.mp ry
   have hl1:=z1.length
   have hl2:=z2.length;rw[HK]at h
   cases vs with
   | nil=>
    have e:l= []:=by cases l with
     | nil=>rfl
     | cons _ _=>simp at hl1
    subst e
    exact wI pins s σ H vx vy ux uy Q I r1 r2 ⟨a,b,ws,e1,e2,SqT.of q1,SqT.of q2,hp H (Same.refl H) _ (Rep.Fk.mpr ⟨b,ws,rfl,n2,q2,z2⟩)⟩
   | cons v0 vr=>
    refine zp pins s σ H vx vy ux uy Q I r1 r2 ⟨a,b,v0::vr,ws,e1,e2,SqT.of q1,SqT.of q2,by simp,by omega,λhw=> ?_,λ_ p hpn=> ?_⟩
    ·subst hw
     have e:m= []:=by cases m with
      | nil=>rfl
      | cons _ _=>simp at hl2
     subst e;rw[Jc]at hp;exact hp H (Same.refl H) _ (Rep.Fk.mpr ⟨a,_,rfl,n1,q1,z1⟩)
    ·exact hp _ (aV hpn _) _ (dI hpn (hf p hpn) (z1.append z2))
  ·exact hp.elim
 ·rename_i l m
  unfold kg at hp
  split at hp
  ·rename_i h
   obtain⟨a,vs,e1,n1,q1,z1⟩:=Rep.FB.mp rx;obtain⟨b,ws,e2,n2,q2,z2⟩:=Rep.FB.mp ry
   have hl1:=z1.length
   have hl2:=z2.length;rw[HK]at h;exact Cy pins s σ H vx vy ux uy Q I r1 r2 ⟨a,b,vs,ws,e1,e2,q1,q2,by omega,λp hpn=>hp _ (aV hpn _) _ (eF hpn (hf p hpn) (z1.append z2))⟩
  ·exact hp.elim
 ·exact hp.elim
def rh:T->T->Rs T
 | .int i,.int j=>if (-(2 ^ 64)<i/\i<2 ^ 64)\/(-(2 ^ 64)<j/\j<2 ^ 64)then .ok (.int (i*j))else .bad
 | .lst l,.int k=>if -(2 ^ 63)<=k/\k<2 ^ 63/\l.length*k.toNat<=sizeLine then .ok (.lst (Iy k.toNat l).flatten)else .bad
 | _,_=> .bad
theorem Reps.rep {K:HI}{O:Ow}{H:Hp}{l:List T}{vs:List V}(h:Reps K O H l vs):∀k:Nat,Reps K O H (Iy k l).flatten (Iy k vs).flatten
 | 0=>Reps.Gz
 | k+1=>by rw[J0,J0,Jt,Jt];exact h.append (h.rep k)
theorem Cq:OpT X (J8 .Mult) rh:=by
 intro pins s σ H O x y vx vy ux uy Q I hf rx ry r1 r2 hp;unfold rh at hp
 split at hp
 ·split at hp
  ·rename_i h
   exact Cu pins s σ H vx vy ux uy Q I r1 r2 ⟨_,_,Rep.Do.mp rx,Rep.Do.mp ry,h,hp H (Same.refl H) _ (Rep.GA _)⟩
  ·exact hp.elim
 ·split at hp
  ·rename_i l k h
   obtain⟨a,vs,e1,n1,q1,z1⟩:=Rep.FB.mp rx
   have hl1:=z1.length;exact Ct pins s σ H vx vy ux uy Q I r1 r2 ⟨a,k,vs,e1,Rep.Do.mp ry,q1,h.1,h.2.1,by rw[<-hl1];exact h.2.2,λp hpn=>hp _ (aV hpn _) _ (eF hpn (hf p hpn) (z1.rep _))⟩
  ·exact hp.elim
 ·exact hp.elim
def gE:T->Rs T
 | .int i=> .ok (.int (-i))
 | _=> .bad
def o1 (g:T->Rs T)(fa:En->Rs T)(ρ:En):Rs T:=fa ρ >>= g
theorem EJ (ha:cL X a fa):cL X (.UnaryOp .USub a pos) (o1 gE fa):=by
 intro pins s σ H Q I ⟨ρ,O,E,hq⟩;refine EU Bu ha pins s σ H Q I ?_
 obtain⟨ρ1,O1,E1,h1⟩:=aI E hq;refine⟨ρ1,O1,E1,Post.mono h1 λts H1 s1 q vs r=> ?_⟩
 obtain⟨t',r',s',E',q'⟩:=q vs r;unfold gE at q'
 split at q'
 ·exact⟨_,Rep.Do.mp r',q' H1 (Same.refl H1) _ (Rep.GA _)⟩
 ·exact q'.elim
def rJ (p:Int->Int->Bool):T->T->Rs T
 | .int i,.int j=> .ok (.bl (p i j))
 | _,_=> .bad
theorem sC {op:Oz}{p:Int->Int->Bool}(h:mJ X (Jl op) (BV λi j=> .bl (p i j))):OpT X (Jl op) (rJ p):=OpT.of h λH O x y vx vy Q hf rx ry hp=>by
 unfold rJ at hp
 split at hp
 ·exact⟨_,_,Rep.Do.mp rx,Rep.Do.mp ry,hp H (Same.refl H) _ (Rep.bl_ _)⟩
 ·exact hp.elim
abbrev A2:=rJ λi j=>decide (i<j)
abbrev Fh:=rJ λi j=>decide (i<=j)
theorem wG:OpT X (Jl .Lt) A2:=sC E5
theorem sA:OpT X (Jl .LtE) Fh:=sC E6
def T.isN:T->Bool
 | .non=>true
 | _=>false
theorem Rep.isN {K:HI}{O:Ow}{H:Hp}{t:T}{v:V}(r:Rep K O H t v):decide (v= .non)=t.isN:=by
 cases t with
 | non=>rw[Rep.GC.mp r];rfl
 | bl _=>rw[Rep.Gc.mp r];rfl
 | int _=>rw[Rep.Do.mp r];rfl
 | str _=>rw[Rep.FS.mp r];rfl
 | tup _=>obtain⟨a,vs,e,_⟩:=Rep.Fk.mp r;rw[e];rfl
 | lst _=>obtain⟨a,vs,e,_⟩:=Rep.FB.mp r;rw[e];rfl
 | scr _=>unfold Rep at r;obtain⟨a,e,_⟩:=r;rw[e];rfl
 | dct _ _=>obtain⟨a,_,e,_⟩:=Rep.GB.mp r;rw[e];rfl
 | ob _ _ _=>obtain⟨a,_,_,e,_⟩:=Rep.GY.mp r;rw[e];rfl
def xo:T->T->Rs T
 | x,.non=> .ok (.bl x.isN)
 | _,_=> .bad
def pV:T->T->Rs T
 | x,.non=> .ok (.bl (!x.isN))
 | _,_=> .bad
theorem EX:OpT X (Jl .Is) xo:=OpT.of Cw λH O x y vx vy Q hf rx ry hp=>by
 unfold xo at hp
 split at hp
 ·exact⟨Rep.GC.mp ry,hp H (Same.refl H) _ (by rw[rx.isN];exact Rep.bl_ _)⟩
 ·exact hp.elim
theorem wH:OpT X (Jl .IsNot) pV:=OpT.of zm λH O x y vx vy Q hf rx ry hp=>by
 unfold pV at hp
 split at hp
 ·exact⟨Rep.GC.mp ry,hp H (Same.refl H) _ (by rw[rx.isN];exact Rep.bl_ _)⟩
 ·exact hp.elim
end
end Tr
namespace Tr
open PySem PySem.Spec PyProof.Rows L2
open PySem.SeqAt
mutual
def ReV (s:HJ):T->HL->Prop
 | .non,u=>u= .none
 | .bl b,u=>u= .bool b
 | .int i,u=> ∃t,u= .int i t
 | .str x,u=> ∃t,u= .str x t
 | .tup l,u=> ∃a its,u= .ref a/\s.heap.IsTuple a (Pl its)/\ReVs s l its
 | .lst l,u=> ∃a its,u= .ref a/\s.heap.IsList a (Pl its)/\ReVs s l its
 | .scr l,u=> ∃a its,u= .ref a/\s.heap.IsList a (Pl its)/\MJ its l
 | .dct _ _,_=>False
 | .ob _ _ _,_=>False
def ReVs (s:HJ):List T->List HL->Prop
 | [],us=>us= []
 | t::r,us=> ∃u ws,us=u::ws/\ReV s t u/\ReVs s r ws
end
theorem ReVs.Da {s:HJ}{us:List HL}:ReVs s [] us↔us= []:=by unfold ReVs;exact MG
theorem ReVs.AC {s:HJ}{t:T}{l:List T}{us:List HL}:ReVs s (t::l) us↔ ∃u ws,us=u::ws/\ReV s t u/\ReVs s l ws:=by
 constructor
 ·intro h;unfold ReVs at h;exact h
 ·intro h;unfold ReVs;exact h
theorem ReVs.length {s:HJ}:∀{l:List T} {us:List HL},ReVs s l us->l.length=us.length
 | [],us,r=>by rw[ReVs.Da.mp r];rfl
 | t::l,us,r=>by
  obtain⟨v,ws,rfl,_,q⟩:=ReVs.AC.mp r;simp[q.length]
theorem ReVs.get {s:HJ}:∀{l:List T} {us:List HL} {i:Nat} {t:T},ReVs s l us->l[i]? =some t->∃v,us[i]? =some v/\ReV s t v
 | [],_,_,_,_,e=>by simp at e
 | t::l,vs,i,u,r,e=>by
  obtain⟨v,ws,rfl,p,q⟩:=ReVs.AC.mp r
  cases i with
  | zero=>simp at e;subst e;exact⟨v,rfl,p⟩
  | succ i=>
   obtain⟨z,e1,e2⟩:=q.get (i:=i) (t:=u) (by simpa using e)
   exact⟨z,by simpa using e1,e2⟩
mutual
def T.nd:T->Bool
 | .dct _ _=>false
 | .ob _ _ _=>false
 | .tup l=>nds l
 | .lst l=>nds l
 | _=>true
def nds:List T->Bool
 | [] =>true
 | t::l=>t.nd&&nds l
end
theorem p7 {t:T}{l:List T}(h:nds (t::l)=true):t.nd=true/\nds l=true:=by unfold nds at h;exact Ja.mp h
section
variable {X:Cx}{pins:List (Addr×Obj)}{σ:L2.St}{H:Hp}{s:HJ}{O:Ow}
mutual
theorem Rep.val (I:Inv X pins σ H s):∀{t:T} {v:V} {u:HL},t.nd=true->Rep X.K O H t v->RelV v u->ReV s t u
 | .non,v,u,hn,r,q=>by cases Rep.GC.mp r;unfold ReV;exact q
 | .bl b,v,u,hn,r,q=>by cases Rep.Gc.mp r;unfold ReV;exact q
 | .int b,v,u,hn,r,q=>by cases Rep.Do.mp r;unfold ReV;exact q
 | .str b,v,u,hn,r,q=>by cases Rep.FS.mp r;unfold ReV;exact q
 | .tup l,v,u,hn,r,q=>by
  obtain⟨a,vs,rfl,_,z,w⟩:=Rep.Fk.mp r;cases q;obtain⟨its,rv,p,_⟩:=I.tuple (SqT.of z);unfold ReV
  exact⟨a,its,rfl,p,Reps.val I (by unfold T.nd at hn;exact hn) w rv⟩
 | .lst l,v,u,hn,r,q=>by
  obtain⟨a,vs,rfl,_,z,w⟩:=Rep.FB.mp r;cases q;obtain⟨its,rv,p,_⟩:=I.list (SqL.of z);unfold ReV
  exact⟨a,its,rfl,p.isList,Reps.val I (by unfold T.nd at hn;exact hn) w rv⟩
 | .scr l,v,u,hn,r,q=>by
  unfold Rep at r;obtain⟨a,rfl,_,z⟩:=r;cases q;obtain⟨its,rv,p,_⟩:=I.list z;unfold ReV
  exact⟨a,its,rfl,p.isList,rC rv⟩
 | .dct _ _,v,u,hn,r,q=>by cases hn
 | .ob _ _ _,v,u,hn,r,q=>by cases hn
theorem Reps.val (I:Inv X pins σ H s):∀{l:List T} {vs:List V} {us:List HL},nds l=true->Reps X.K O H l vs->Vals vs us->ReVs s l us
 | [],vs,us,hn,r,q=>by
  cases Reps.Da.mp r;cases q
  exact ReVs.Da.mpr rfl
 | t::l,vs,us,hn,r,q=>by
  obtain⟨v,ws,rfl,p,z⟩:=Reps.AC.mp r
  cases q with
  | cons q1 q2=>exact ReVs.AC.mpr ⟨_,_,rfl,Rep.val I (p7 hn).1 p q1,Reps.val I (p7 hn).2 z q2⟩
end
end
mutual
def T.dep:T->Nat
 | .tup l=>deps l+1
 | .lst l=>deps l+1
 | .scr _=>1
 | _=>0
def deps:List T->Nat
 | [] =>0
 | t::l=>max t.dep (deps l)
end
def Aw (i:Int):T->Bool
 | .int j=>i == j
 | .bl b=>i == (if b then 1 else 0)
 | _=>false
def iK:List Int->List T->Bool
 | [],[] =>true
 | i::r,t::l=>Aw i t&&iK r l
 | _,_=>false
mutual
def bQ:T->T->Bool
 | .non,.non=>true
 | .bl a,.bl b=>a == b
 | .bl a,.int b=>(if a then 1 else 0) == b
 | .int a,.bl b=>a == (if b then 1 else 0)
 | .int a,.int b=>a == b
 | .str a,.str b=>a == b
 | .tup l,.tup m=>beqTs l m
 | .lst l,.lst m=>beqTs l m
 | .lst l,.scr m=>beqTs l (m.map .int)
 | .scr l,.lst m=>iK l m
 | .scr l,.scr m=>l == m
 | _,_=>false
def beqTs:List T->List T->Bool
 | [],[] =>true
 | t::l,u::m=>bQ t u&&beqTs l m
 | _,_=>false
end
theorem l6 (n:Nat)(e:Nat->Bool):(Js (n+1)).all e=(e 0&&(Js n).all λj=>e (j+1)):=by
 rw[List.range_succ_eq_map,List.all_cons,List.all_map];rfl
theorem j0:∀(l m:List T) (e:Nat->Bool),(∀(j:Nat) t u,l[j]? =some t->m[j]? =some u->e j=bQ t u) →
  beqTs l m=((Js (min l.length m.length)).all e&&l.length == m.length)
 | [],[],_,_=>by simp[beqTs]
 | [],_::_,_,_=>by simp[beqTs]
 | _::_,[],_,_=>by simp[beqTs]
 | t::l,u::m,e,h=>by
  have ih:=j0 l m (λj=>e (j+1)) λj t' u' h1 h2=>h (j+1) t' u' (by simpa using h1) (by simpa using h2)
  rw[beqTs,ih]
  have h0:=h 0 t u rfl rfl;simp only[HR];rw[Nat.succ_min_succ,l6,h0,Bool.and_assoc]
  congr 2
  simp
theorem nE:∀{l m:List T},l.length≠m.length->beqTs l m=false
 | [],[],h=>absurd rfl h
 | [],_::_,_=>by simp[beqTs]
 | _::_,[],_=>by simp[beqTs]
 | t::l,u::m,h=>by
  rw[beqTs,nE (l:=l) (m:=m) (by intro z;exact h (by simp[z]))]
  simp
theorem lP:∀{l:List T} {i:Nat} {t:T},l[i]? =some t->t.dep<=deps l
 | [],_,_,e=>by simp at e
 | t::l,0,u,e=>by simp at e;subst e;unfold deps;exact Nat.le_max_left _ _
 | t::l,i+1,u,e=>by
  have:=lP (l:=l) (i:=i) (t:=u) (by simpa using e)
  unfold deps;exact IA this (Nat.le_max_right _ _)
theorem gX {s:HJ}{a:Addr}{x y:List HL}(h:s.heap.IsTuple a x.toArray)(h':s.heap.IsTuple a y.toArray):x=y:=by
 obtain⟨o,e,_,n,d⟩:=h;obtain⟨o',e',_,n',d'⟩:=h';rw[e]at e';cases e';rw[d]at d';injection d' with d1 _
 simpa using congrArg Nt d1
theorem cy {s:HJ}{a:Addr}{x y:List HL}(h:s.heap.IsList a x.toArray)(h':s.heap.IsList a y.toArray):x=y:=by
 obtain⟨o,e,_,n,d⟩:=h;obtain⟨o',e',_,n',d'⟩:=h';rw[e]at e';cases e';rw[d]at d';injection d' with d1 _
 simpa using congrArg Nt d1
theorem uK {s:HJ}{i:Int}{t:T}{k:Tok}(r:ReV s t (.int i k)):Aw i t=true:=by
 cases t with
 | non=>unfold ReV at r;cases r
 | bl b=>unfold ReV at r;cases r
 | int j=>unfold ReV at r;obtain⟨t,e⟩:=r;injection e with e1 _;subst e1;simp[Aw]
 | str x=>unfold ReV at r;obtain⟨t,e⟩:=r;cases e
 | tup l=>unfold ReV at r;obtain⟨a,its,e,_⟩:=r;cases e
 | lst l=>unfold ReV at r;obtain⟨a,its,e,_⟩:=r;cases e
 | scr l=>unfold ReV at r;obtain⟨a,its,e,_⟩:=r;cases e
 | dct _ _=>unfold ReV at r;exact r.elim
 | ob _ _ _=>unfold ReV at r;exact r.elim
theorem lZ {s:HJ}:∀{ns:List Int} {us:List HL} {l:List T},MJ us ns->ReVs s l us->iK ns l=true
 | [],us,l,h,r=>by
  cases h
  cases l with
  | nil=>rfl
  | cons t l=>obtain⟨_,_,e,_⟩:=ReVs.AC.mp r;cases e
 | n::ns,us,l,h,r=>by
  cases h with
  | cons a b hh=>
   cases l with
   | nil=>have:=ReVs.Da.mp r;cases this
   | cons t l=>
    obtain⟨u,ws,e,p,q⟩:=ReVs.AC.mp r;injection e with e1 e2
    subst e1 e2;rw[iK,uK p,lZ hh q];rfl
theorem dS {s:HJ}:∀{us:List HL} {ns:List Int},MJ us ns->ReVs s (ns.map T.int) us
 | _,_,.nil=>ReVs.Da.mpr rfl
 | _,_,.cons n t h=>ReVs.AC.mpr ⟨_,_,rfl,by unfold ReV;exact⟨_,rfl⟩,dS h⟩
theorem gY:∀{us:List HL} {ns ms:List Int},MJ us ns->MJ us ms->ns=ms
 | _,_,_,.nil,.nil=>rfl
 | _,_,_,.cons n t h,.cons _ _ h'=>by rw[gY h h']
mutual
theorem ReV.refl {s:HJ}:∀{t u:T} {v:HL},ReV s t v->ReV s u v->bQ t u=true
 | .non,u,v,r,q=>by
  unfold ReV at r;subst r
  cases u <;> (unfold ReV at q) <;> first | rfl | (cases q;done) | (obtain⟨_,e⟩:=q;cases e;done) | (obtain⟨_,_,e,_⟩:=q;cases e;done)
 | .bl b,u,v,r,q=>by
  unfold ReV at r;subst r
  cases u <;> (unfold ReV at q) <;> first | (cases q;done) | (cases q;simp[bQ];done) | (obtain⟨_,e⟩:=q;cases e;done) | (obtain⟨_,_,e,_⟩:=q;cases e;done)
 | .int b,u,v,r,q=>by
  unfold ReV at r;obtain⟨k,rfl⟩:=r
  cases u <;> (unfold ReV at q) <;> first | (cases q;done) | (obtain⟨_,e⟩:=q;cases e;simp[bQ];done) | (obtain⟨_,e⟩:=q;cases e;done) | (obtain⟨_,_,e,_⟩:=q;cases e;done)
 | .str b,u,v,r,q=>by
  unfold ReV at r;obtain⟨k,rfl⟩:=r
  cases u <;> (unfold ReV at q) <;> first | (cases q;done) | (obtain⟨_,e⟩:=q;cases e;simp[bQ];done) | (obtain⟨_,e⟩:=q;cases e;done) | (obtain⟨_,_,e,_⟩:=q;cases e;done)
 | .tup l,u,v,r,q=>by
  unfold ReV at r;obtain⟨a,its,rfl,h1,h2⟩:=r
  cases u with
  | non=>unfold ReV at q;cases q
  | dct _ _=>unfold ReV at q;exact q.elim
  | ob _ _ _=>unfold ReV at q;exact q.elim
  | bl _=>unfold ReV at q;cases q
  | int _=>unfold ReV at q;obtain⟨_,e⟩:=q;cases e
  | str _=>unfold ReV at q;obtain⟨_,e⟩:=q;cases e
  | tup m=>
   unfold ReV at q;obtain⟨a',its',e,h1',h2'⟩:=q;injection e with e;subst e
   have:=gX h1 h1';subst this;unfold bQ
   exact ReVs.refl h2 h2'
  | lst m=>unfold ReV at q;obtain⟨a',its',e,h1',h2'⟩:=q;injection e with e;subst e;exact absurd rfl (ne_of_list_tuple h1' h1)
  | scr m=>unfold ReV at q;obtain⟨a',its',e,h1',h2'⟩:=q;injection e with e;subst e;exact absurd rfl (ne_of_list_tuple h1' h1)
 | .lst l,u,v,r,q=>by
  unfold ReV at r;obtain⟨a,its,rfl,h1,h2⟩:=r
  cases u with
  | non=>unfold ReV at q;cases q
  | dct _ _=>unfold ReV at q;exact q.elim
  | ob _ _ _=>unfold ReV at q;exact q.elim
  | bl _=>unfold ReV at q;cases q
  | int _=>unfold ReV at q;obtain⟨_,e⟩:=q;cases e
  | str _=>unfold ReV at q;obtain⟨_,e⟩:=q;cases e
  | lst m=>
   unfold ReV at q;obtain⟨a',its',e,h1',h2'⟩:=q;injection e with e;subst e
   have:=cy h1 h1';subst this;unfold bQ
   exact ReVs.refl h2 h2'
  | tup m=>unfold ReV at q;obtain⟨a',its',e,h1',h2'⟩:=q;injection e with e;subst e;exact absurd rfl (ne_of_list_tuple h1 h1')
  | scr m=>
   unfold ReV at q;obtain⟨a',its',e,h1',h2'⟩:=q;injection e with e;subst e
   have:=cy h1 h1';subst this;unfold bQ
   exact ReVs.refl h2 (dS h2')
 | .scr l,u,v,r,q=>by
  unfold ReV at r;obtain⟨a,its,rfl,h1,h2⟩:=r
  cases u with
  | non=>unfold ReV at q;cases q
  | dct _ _=>unfold ReV at q;exact q.elim
  | ob _ _ _=>unfold ReV at q;exact q.elim
  | bl _=>unfold ReV at q;cases q
  | int _=>unfold ReV at q;obtain⟨_,e⟩:=q;cases e
  | str _=>unfold ReV at q;obtain⟨_,e⟩:=q;cases e
  | lst m=>
   unfold ReV at q;obtain⟨a',its',e,h1',h2'⟩:=q;injection e with e;subst e
   have:=cy h1 h1';subst this;unfold bQ
   exact lZ h2 h2'
  | tup m=>unfold ReV at q;obtain⟨a',its',e,h1',h2'⟩:=q;injection e with e;subst e;exact absurd rfl (ne_of_list_tuple h1 h1')
  | scr m=>
   unfold ReV at q;obtain⟨a',its',e,h1',h2'⟩:=q;injection e with e;subst e
   have:=cy h1 h1';subst this;unfold bQ
   have:=gY h2 h2'
   simp[this]
 | .dct _ _,u,v,r,q=>by unfold ReV at r;exact r.elim
 | .ob _ _ _,u,v,r,q=>by unfold ReV at r;exact r.elim
theorem ReVs.refl {s:HJ}:∀{l m:List T} {us:List HL},ReVs s l us->ReVs s m us->beqTs l m=true
 | [],m,us,r,q=>by
  cases ReVs.Da.mp r
  cases m with
  | nil=>simp[beqTs]
  | cons _ _=>obtain⟨_,_,e,_⟩:=ReVs.AC.mp q;cases e
 | t::l,m,us,r,q=>by
  obtain⟨v,ws,rfl,p,z⟩:=ReVs.AC.mp r
  cases m with
  | nil=>cases ReVs.Da.mp q
  | cons u m=>
   obtain⟨v',ws',e,p',z'⟩:=ReVs.AC.mp q;injection e with e1 e2
   subst e1 e2;rw[beqTs,ReV.refl p p',ReVs.refl z z'];rfl
end
theorem qz:∀(l:List Int) (m:List T),iK l m=beqTs (l.map T.int) m
 | [],[] =>by simp[iK,beqTs]
 | [],_::_=>by simp[iK,beqTs]
 | _::_,[] =>by simp[iK,beqTs]
 | i::l,t::m=>by
  rw[iK,HW,beqTs,qz l m]
  congr 1
  cases t <;> simp[Aw,bQ]
theorem se:∀(l m:List Int),(l == m)=beqTs (l.map T.int) (m.map T.int)
 | [],[] =>by simp[beqTs]
 | [],_::_=>by simp[beqTs]
 | _::_,[] =>by simp[beqTs]
 | i::l,t::m=>by
  rw[HW,HW,beqTs,<-se l m];simp[bQ]
theorem e9:∀(l:List Int),deps (l.map T.int)=0
 | [] =>rfl
 | i::l=>by rw[HW,deps,e9 l];simp[T.dep]
def ip:T->T->Prop
 | .tup _,.tup _=>False
 | .lst _,.lst _=>False
 | .lst _,.scr _=>False
 | .scr _,.lst _=>False
 | .scr _,.scr _=>False
 | _,_=>True
theorem qj (A:IE)(s:HJ)(x y:T)(u v:HL)(hn:ip x y)(hu:A.units<cLine)(rx:ReV s x u)(ry:ReV s y v):EqAt A s u v (bQ x y)/\RcAt A s u v (bQ x y)/\RcNeAt A s u v (!bQ x y):=by
 match x,y,hn,rx,ry with
 | .dct _ _,_,_,rx,_=>exact(by unfold ReV at rx;exact rx:False).elim
 | .ob _ _ _,_,_,rx,_=>exact(by unfold ReV at rx;exact rx:False).elim
 | _,.dct _ _,_,_,ry=>exact(by unfold ReV at ry;exact ry:False).elim
 | _,.ob _ _ _,_,_,ry=>exact(by unfold ReV at ry;exact ry:False).elim
 | .non,.non,hn,rx,ry=>
  obtain rfl:u=IG:=by unfold ReV at rx;exact rx
  obtain rfl:v=IG:=by unfold ReV at ry;exact ry
  exact⟨EqAt.same _,RcAt.none_none ,RcNeAt.none_none ⟩
 | .non,.bl b2,hn,rx,ry=>
  obtain rfl:u=IG:=by unfold ReV at rx;exact rx
  obtain rfl:v=Jd b2:=by unfold ReV at ry;exact ry
  exact⟨EqAt.none_bool b2,RcAt.none_bool b2,RcNeAt.none_bool b2⟩
 | .non,.int i2,hn,rx,ry=>
  obtain rfl:u=IG:=by unfold ReV at rx;exact rx
  obtain⟨k2,rfl⟩:∃k,v=J3 i2 k:=by unfold ReV at ry;exact ry
  exact⟨EqAt.none_int i2 k2,RcAt.none_int i2 k2,RcNeAt.none_int i2 k2⟩
 | .non,.str x2,hn,rx,ry=>
  obtain rfl:u=IG:=by unfold ReV at rx;exact rx
  obtain⟨k2,rfl⟩:∃k,v=JD x2 k:=by unfold ReV at ry;exact ry
  exact⟨EqAt.none_str x2 k2,RcAt.none_str x2 k2,RcNeAt.none_str x2 k2⟩
 | .non,.tup l2,hn,rx,ry=>
  obtain rfl:u=IG:=by unfold ReV at rx;exact rx
  unfold ReV at ry;obtain⟨a2,us2,rfl,h2,q2⟩:=ry
  exact⟨EqAt.none_tuple h2 hu,RcAt.none_tuple h2 hu,RcNeAt.none_tuple h2 hu⟩
 | .non,.lst l2,hn,rx,ry=>
  obtain rfl:u=IG:=by unfold ReV at rx;exact rx
  unfold ReV at ry;obtain⟨a2,us2,rfl,h2,q2⟩:=ry
  exact⟨EqAt.none_list h2 hu,RcAt.none_list h2 hu,RcNeAt.none_list h2 hu⟩
 | .non,.scr l2,hn,rx,ry=>
  obtain rfl:u=IG:=by unfold ReV at rx;exact rx
  unfold ReV at ry;obtain⟨a2,us2,rfl,h2,q2⟩:=ry
  exact⟨EqAt.none_list h2 hu,RcAt.none_list h2 hu,RcNeAt.none_list h2 hu⟩
 | .bl b1,.non,hn,rx,ry=>
  obtain rfl:u=Jd b1:=by unfold ReV at rx;exact rx
  obtain rfl:v=IG:=by unfold ReV at ry;exact ry
  exact⟨EqAt.bool_none b1,RcAt.bool_none b1,RcNeAt.bool_none b1⟩
 | .bl b1,.bl b2,hn,rx,ry=>
  obtain rfl:u=Jd b1:=by unfold ReV at rx;exact rx
  obtain rfl:v=Jd b2:=by unfold ReV at ry;exact ry
  exact⟨EqAt.bool_bool b1 b2,RcAt.bool_bool b1 b2,RcNeAt.bool_bool b1 b2⟩
 | .bl b1,.int i2,hn,rx,ry=>
  obtain rfl:u=Jd b1:=by unfold ReV at rx;exact rx
  obtain⟨k2,rfl⟩:∃k,v=J3 i2 k:=by unfold ReV at ry;exact ry
  exact⟨EqAt.bool_int b1 i2 k2,RcAt.bool_int b1 i2 k2,RcNeAt.bool_int b1 i2 k2⟩
 | .bl b1,.str x2,hn,rx,ry=>
  obtain rfl:u=Jd b1:=by unfold ReV at rx;exact rx
  obtain⟨k2,rfl⟩:∃k,v=JD x2 k:=by unfold ReV at ry;exact ry
  exact⟨EqAt.bool_str b1 x2 k2,RcAt.bool_str b1 x2 k2,RcNeAt.bool_str b1 x2 k2⟩
 | .bl b1,.tup l2,hn,rx,ry=>
  obtain rfl:u=Jd b1:=by unfold ReV at rx;exact rx
  unfold ReV at ry;obtain⟨a2,us2,rfl,h2,q2⟩:=ry
  exact⟨EqAt.bool_tuple b1 h2 hu,RcAt.bool_tuple b1 h2 hu,RcNeAt.bool_tuple b1 h2 hu⟩
 | .bl b1,.lst l2,hn,rx,ry=>
  obtain rfl:u=Jd b1:=by unfold ReV at rx;exact rx
  unfold ReV at ry;obtain⟨a2,us2,rfl,h2,q2⟩:=ry
  exact⟨EqAt.bool_list b1 h2 hu,RcAt.bool_list b1 h2 hu,RcNeAt.bool_list b1 h2 hu⟩
 | .bl b1,.scr l2,hn,rx,ry=>
  obtain rfl:u=Jd b1:=by unfold ReV at rx;exact rx
  unfold ReV at ry;obtain⟨a2,us2,rfl,h2,q2⟩:=ry
  exact⟨EqAt.bool_list b1 h2 hu,RcAt.bool_list b1 h2 hu,RcNeAt.bool_list b1 h2 hu⟩
 | .int i1,.non,hn,rx,ry=>
  obtain⟨k1,rfl⟩:∃k,u=J3 i1 k:=by unfold ReV at rx;exact rx
  obtain rfl:v=IG:=by unfold ReV at ry;exact ry
  exact⟨EqAt.int_none i1 k1,RcAt.int_none i1 k1,RcNeAt.int_none i1 k1⟩
 | .int i1,.bl b2,hn,rx,ry=>
  obtain⟨k1,rfl⟩:∃k,u=J3 i1 k:=by unfold ReV at rx;exact rx
  obtain rfl:v=Jd b2:=by unfold ReV at ry;exact ry
  exact⟨EqAt.int_bool i1 k1 b2,RcAt.int_bool i1 k1 b2,RcNeAt.int_bool i1 k1 b2⟩
 | .int i1,.int i2,hn,rx,ry=>
  obtain⟨k1,rfl⟩:∃k,u=J3 i1 k:=by unfold ReV at rx;exact rx
  obtain⟨k2,rfl⟩:∃k,v=J3 i2 k:=by unfold ReV at ry;exact ry
  exact⟨EqAt.int_int i1 k1 i2 k2,RcAt.int_int i1 k1 i2 k2,RcNeAt.int_int i1 k1 i2 k2⟩
 | .int i1,.str x2,hn,rx,ry=>
  obtain⟨k1,rfl⟩:∃k,u=J3 i1 k:=by unfold ReV at rx;exact rx
  obtain⟨k2,rfl⟩:∃k,v=JD x2 k:=by unfold ReV at ry;exact ry
  exact⟨EqAt.int_str i1 k1 x2 k2,RcAt.int_str i1 k1 x2 k2,RcNeAt.int_str i1 k1 x2 k2⟩
 | .int i1,.tup l2,hn,rx,ry=>
  obtain⟨k1,rfl⟩:∃k,u=J3 i1 k:=by unfold ReV at rx;exact rx
  unfold ReV at ry;obtain⟨a2,us2,rfl,h2,q2⟩:=ry
  exact⟨EqAt.int_tuple i1 k1 h2 hu,RcAt.int_tuple i1 k1 h2 hu,RcNeAt.int_tuple i1 k1 h2 hu⟩
 | .int i1,.lst l2,hn,rx,ry=>
  obtain⟨k1,rfl⟩:∃k,u=J3 i1 k:=by unfold ReV at rx;exact rx
  unfold ReV at ry;obtain⟨a2,us2,rfl,h2,q2⟩:=ry
  exact⟨EqAt.int_list i1 k1 h2 hu,RcAt.int_list i1 k1 h2 hu,RcNeAt.int_list i1 k1 h2 hu⟩
 | .int i1,.scr l2,hn,rx,ry=>
  obtain⟨k1,rfl⟩:∃k,u=J3 i1 k:=by unfold ReV at rx;exact rx
  unfold ReV at ry;obtain⟨a2,us2,rfl,h2,q2⟩:=ry
  exact⟨EqAt.int_list i1 k1 h2 hu,RcAt.int_list i1 k1 h2 hu,RcNeAt.int_list i1 k1 h2 hu⟩
 | .str x1,.non,hn,rx,ry=>
  obtain⟨k1,rfl⟩:∃k,u=JD x1 k:=by unfold ReV at rx;exact rx
  obtain rfl:v=IG:=by unfold ReV at ry;exact ry
  exact⟨EqAt.str_none x1 k1,RcAt.str_none x1 k1,RcNeAt.str_none x1 k1⟩
 | .str x1,.bl b2,hn,rx,ry=>
  obtain⟨k1,rfl⟩:∃k,u=JD x1 k:=by unfold ReV at rx;exact rx
  obtain rfl:v=Jd b2:=by unfold ReV at ry;exact ry
  exact⟨EqAt.str_bool x1 k1 b2,RcAt.str_bool x1 k1 b2,RcNeAt.str_bool x1 k1 b2⟩
 | .str x1,.int i2,hn,rx,ry=>
  obtain⟨k1,rfl⟩:∃k,u=JD x1 k:=by unfold ReV at rx;exact rx
  obtain⟨k2,rfl⟩:∃k,v=J3 i2 k:=by unfold ReV at ry;exact ry
  exact⟨EqAt.str_int x1 k1 i2 k2,RcAt.str_int x1 k1 i2 k2,RcNeAt.str_int x1 k1 i2 k2⟩
 | .str x1,.str x2,hn,rx,ry=>
  obtain⟨k1,rfl⟩:∃k,u=JD x1 k:=by unfold ReV at rx;exact rx
  obtain⟨k2,rfl⟩:∃k,v=JD x2 k:=by unfold ReV at ry;exact ry
  exact⟨EqAt.str_str x1 k1 x2 k2,RcAt.str_str x1 k1 x2 k2,RcNeAt.str_str x1 k1 x2 k2⟩
 | .str x1,.tup l2,hn,rx,ry=>
  obtain⟨k1,rfl⟩:∃k,u=JD x1 k:=by unfold ReV at rx;exact rx
  unfold ReV at ry;obtain⟨a2,us2,rfl,h2,q2⟩:=ry
  exact⟨EqAt.str_tuple x1 k1 h2 hu,RcAt.str_tuple x1 k1 h2 hu,RcNeAt.str_tuple x1 k1 h2 hu⟩
 | .str x1,.lst l2,hn,rx,ry=>
  obtain⟨k1,rfl⟩:∃k,u=JD x1 k:=by unfold ReV at rx;exact rx
  unfold ReV at ry;obtain⟨a2,us2,rfl,h2,q2⟩:=ry
  exact⟨EqAt.str_list x1 k1 h2 hu,RcAt.str_list x1 k1 h2 hu,RcNeAt.str_list x1 k1 h2 hu⟩
 | .str x1,.scr l2,hn,rx,ry=>
  obtain⟨k1,rfl⟩:∃k,u=JD x1 k:=by unfold ReV at rx;exact rx
  unfold ReV at ry;obtain⟨a2,us2,rfl,h2,q2⟩:=ry
  exact⟨EqAt.str_list x1 k1 h2 hu,RcAt.str_list x1 k1 h2 hu,RcNeAt.str_list x1 k1 h2 hu⟩
 | .tup l1,.non,hn,rx,ry=>
  unfold ReV at rx;obtain⟨a1,us1,rfl,h1,q1⟩:=rx;obtain rfl:v=IG:=by unfold ReV at ry;exact ry
  exact⟨EqAt.tuple_none h1 hu,RcAt.tuple_none h1 hu,RcNeAt.tuple_none h1 hu⟩
 | .tup l1,.bl b2,hn,rx,ry=>
  unfold ReV at rx;obtain⟨a1,us1,rfl,h1,q1⟩:=rx;obtain rfl:v=Jd b2:=by unfold ReV at ry;exact ry
  exact⟨EqAt.tuple_bool b2 h1 hu,RcAt.tuple_bool b2 h1 hu,RcNeAt.tuple_bool b2 h1 hu⟩
 | .tup l1,.int i2,hn,rx,ry=>
  unfold ReV at rx;obtain⟨a1,us1,rfl,h1,q1⟩:=rx;obtain⟨k2,rfl⟩:∃k,v=J3 i2 k:=by unfold ReV at ry;exact ry
  exact⟨EqAt.tuple_int i2 k2 h1 hu,RcAt.tuple_int i2 k2 h1 hu,RcNeAt.tuple_int i2 k2 h1 hu⟩
 | .tup l1,.str x2,hn,rx,ry=>
  unfold ReV at rx;obtain⟨a1,us1,rfl,h1,q1⟩:=rx;obtain⟨k2,rfl⟩:∃k,v=JD x2 k:=by unfold ReV at ry;exact ry
  exact⟨EqAt.tuple_str x2 k2 h1 hu,RcAt.tuple_str x2 k2 h1 hu,RcNeAt.tuple_str x2 k2 h1 hu⟩
 | .tup _,.tup _,hn,_,_=>exact hn.elim
 | .tup l1,.lst l2,hn,rx,ry=>
  unfold ReV at rx;obtain⟨a1,us1,rfl,h1,q1⟩:=rx;unfold ReV at ry;obtain⟨a2,us2,rfl,h2,q2⟩:=ry
  exact⟨EqAt.tuple_list h1 h2 hu,RcAt.tuple_list h1 h2 hu,RcNeAt.tuple_list h1 h2 hu⟩
 | .tup l1,.scr l2,hn,rx,ry=>
  unfold ReV at rx;obtain⟨a1,us1,rfl,h1,q1⟩:=rx;unfold ReV at ry;obtain⟨a2,us2,rfl,h2,q2⟩:=ry
  exact⟨EqAt.tuple_list h1 h2 hu,RcAt.tuple_list h1 h2 hu,RcNeAt.tuple_list h1 h2 hu⟩
 | .lst l1,.non,hn,rx,ry=>
  unfold ReV at rx;obtain⟨a1,us1,rfl,h1,q1⟩:=rx;obtain rfl:v=IG:=by unfold ReV at ry;exact ry
  exact⟨EqAt.list_none h1 hu,RcAt.list_none h1 hu,RcNeAt.list_none h1 hu⟩
 | .lst l1,.bl b2,hn,rx,ry=>
  unfold ReV at rx;obtain⟨a1,us1,rfl,h1,q1⟩:=rx;obtain rfl:v=Jd b2:=by unfold ReV at ry;exact ry
  exact⟨EqAt.list_bool b2 h1 hu,RcAt.list_bool b2 h1 hu,RcNeAt.list_bool b2 h1 hu⟩
 | .lst l1,.int i2,hn,rx,ry=>
  unfold ReV at rx;obtain⟨a1,us1,rfl,h1,q1⟩:=rx;obtain⟨k2,rfl⟩:∃k,v=J3 i2 k:=by unfold ReV at ry;exact ry
  exact⟨EqAt.list_int i2 k2 h1 hu,RcAt.list_int i2 k2 h1 hu,RcNeAt.list_int i2 k2 h1 hu⟩
 | .lst l1,.str x2,hn,rx,ry=>
  unfold ReV at rx;obtain⟨a1,us1,rfl,h1,q1⟩:=rx;obtain⟨k2,rfl⟩:∃k,v=JD x2 k:=by unfold ReV at ry;exact ry
  exact⟨EqAt.list_str x2 k2 h1 hu,RcAt.list_str x2 k2 h1 hu,RcNeAt.list_str x2 k2 h1 hu⟩
 | .lst l1,.tup l2,hn,rx,ry=>
  unfold ReV at rx;obtain⟨a1,us1,rfl,h1,q1⟩:=rx;unfold ReV at ry;obtain⟨a2,us2,rfl,h2,q2⟩:=ry
  exact⟨EqAt.list_tuple h1 h2 hu,RcAt.list_tuple h1 h2 hu,RcNeAt.list_tuple h1 h2 hu⟩
 | .lst _,.lst _,hn,_,_=>exact hn.elim
 | .lst _,.scr _,hn,_,_=>exact hn.elim
 | .scr l1,.non,hn,rx,ry=>
  unfold ReV at rx;obtain⟨a1,us1,rfl,h1,q1⟩:=rx;obtain rfl:v=IG:=by unfold ReV at ry;exact ry
  exact⟨EqAt.list_none h1 hu,RcAt.list_none h1 hu,RcNeAt.list_none h1 hu⟩
 | .scr l1,.bl b2,hn,rx,ry=>
  unfold ReV at rx;obtain⟨a1,us1,rfl,h1,q1⟩:=rx;obtain rfl:v=Jd b2:=by unfold ReV at ry;exact ry
  exact⟨EqAt.list_bool b2 h1 hu,RcAt.list_bool b2 h1 hu,RcNeAt.list_bool b2 h1 hu⟩
 | .scr l1,.int i2,hn,rx,ry=>
  unfold ReV at rx;obtain⟨a1,us1,rfl,h1,q1⟩:=rx;obtain⟨k2,rfl⟩:∃k,v=J3 i2 k:=by unfold ReV at ry;exact ry
  exact⟨EqAt.list_int i2 k2 h1 hu,RcAt.list_int i2 k2 h1 hu,RcNeAt.list_int i2 k2 h1 hu⟩
 | .scr l1,.str x2,hn,rx,ry=>
  unfold ReV at rx;obtain⟨a1,us1,rfl,h1,q1⟩:=rx;obtain⟨k2,rfl⟩:∃k,v=JD x2 k:=by unfold ReV at ry;exact ry
  exact⟨EqAt.list_str x2 k2 h1 hu,RcAt.list_str x2 k2 h1 hu,RcNeAt.list_str x2 k2 h1 hu⟩
 | .scr l1,.tup l2,hn,rx,ry=>
  unfold ReV at rx;obtain⟨a1,us1,rfl,h1,q1⟩:=rx;unfold ReV at ry;obtain⟨a2,us2,rfl,h2,q2⟩:=ry
  exact⟨EqAt.list_tuple h1 h2 hu,RcAt.list_tuple h1 h2 hu,RcNeAt.list_tuple h1 h2 hu⟩
 | .scr _,.lst _,hn,_,_=>exact hn.elim
 | .scr _,.scr _,hn,_,_=>exact hn.elim
theorem FO:∀(n:Nat) (A:IE) (s:HJ) (x y:T) (u v:HL),(x.dep<=n\/y.dep<=n)->A.units+n<cLine->ReV s x u->ReV s y v->EqAt A s u v (bQ x y)/\RcAt A s u v (bQ x y)/\RcNeAt A s u v (!bQ x y):=by
 intro n
 induction n with
 | zero=>
  intro A s x y u v hd hu rx ry
  exact qj A s x y u v (by cases x <;> cases y <;> simp_all [ip,T.dep]) (by omega) rx ry
 | succ n ih=>
  intro A s x y u v hd hu rx ry
  have hin:A.in1.units+n<cLine:=by show A.units+1+n<cLine;omega
  have items:∀(l m:List T) (us vs:List HL),(deps l<=n\/deps m<=n)->ReVs s l us->ReVs s m vs->∃e:Nat->Bool,(∀j (h1:j<us.toArray.size) (h2:j<vs.toArray.size),EqAt A.in1 s us.toArray[j] vs.toArray[j] (e j)) ∧
    (∀(j:Nat) t u,l[j]? =some t->m[j]? =some u->e j=bQ t u):=λl m us vs hd r1 r2=>by
   refine⟨λj=>bQ (l.getD j .non) (m.getD j .non),λj h1 h2=> ?_,λj t u e1 e2=>by simp[List.getD,e1,e2]⟩
   have l1:=r1.length
   have l2:=r2.length
   have h1':j<l.length:=by rw[l1];simpa using h1
   have h2':j<m.length:=by rw[l2];simpa using h2
   have e1:l[j]? =some l[j]:=by simp
   have e2:m[j]? =some m[j]:=by simp
   obtain⟨u1,z1,w1⟩:=r1.get e1;obtain⟨u2,z2,w2⟩:=r2.get e2
   have q1:us.toArray[j] =u1:=by
    have:us[j]? =some us.toArray[j]:=by simp
    rw[z1]at this;exact(IT this).symm
   have q2:vs.toArray[j] =u2:=by
    have:vs[j]? =some vs.toArray[j]:=by simp
    rw[z2]at this;exact(IT this).symm
   rw[q1,q2]
   have g1:l.getD j .non=l[j]:=by simp[List.getD,e1]
   have g2:m.getD j .non=m[j]:=by simp[List.getD,e2]
   show EqAt A.in1 s u1 u2 (bQ (l.getD j .non) (m.getD j .non))
   rw[g1,g2];refine(ih A.in1 s l[j] m[j] u1 u2 ?_ hin w1 w2).1
   rcases hd with hd | hd
   ·exact .inl (IA (lP e1) hd)
   ·exact .inr (IA (lP e2) hd)
  have lists:∀(l m:List T) (a b:Addr) (us vs:List HL),(deps l<=n\/deps m<=n)->ReVs s l us->ReVs s m vs->s.heap.IsList a us.toArray->s.heap.IsList b vs.toArray →
    EqAt A s (.ref a) (.ref b) (beqTs l m)/\RcAt A s (.ref a) (.ref b) (beqTs l m)/\RcNeAt A s (.ref a) (.ref b) (!beqTs l m):=λl m a b us vs hd r1 r2 h1 h2=>by
   have l1:=r1.length
   have l2:=r2.length
   have key:RcAt A s (.ref a) (.ref b) (beqTs l m)/\RcNeAt A s (.ref a) (.ref b) (!beqTs l m):=by
    by_cases hl:l.length=m.length
    ·obtain⟨e,he,hb⟩:=items l m us vs hd r1 r2
     have q:=j0 l m e hb
     have q2:beqTs l m=(Js us.toArray.size).all e:=by
      rw[q,hl,Nat.min_self];simp[l2.symm,hl.symm,l1]
     rw[q2]
     have hsz:us.toArray.size=vs.toArray.size:=by simp;omega
     exact⟨RcAt.lists h1 h2 hsz (by omega) he,RcNeAt.lists h1 h2 hsz (by omega) he⟩
    ·rw[nE hl]
     have hsz:(us.toArray.size != vs.toArray.size)=true:=by simp;omega
     exact⟨RcAt.lists_lengths h1 h2 hsz (by omega),RcNeAt.lists_lengths h1 h2 hsz (by omega)⟩
   refine⟨?_,key⟩
   by_cases hab:a=b
   ·subst hab
    have:=cy h1 h2;subst this;rw[ReVs.refl r1 r2];exact EqAt.same _
   ·exact EqAt.of_refs hab key.1
  cases x with
  | tup l=>
   cases y with
   | tup m=>
    unfold ReV at rx ry;obtain⟨a,us,rfl,h1,r1⟩:=rx;obtain⟨b,vs,rfl,h2,r2⟩:=ry
    have hd':deps l<=n\/deps m<=n:=by
     simp only[T.dep]at hd;omega
    have l1:=r1.length
    have l2:=r2.length;obtain⟨e,he,hb⟩:=items l m us vs hd' r1 r2
    have q:=j0 l m e hb
    have q2:beqTs l m=((Js (min us.toArray.size vs.toArray.size)).all e&&us.toArray.size == vs.toArray.size):=by
     rw[q];simp[l1,l2]
    have key:RcAt A s (.ref a) (.ref b) (beqTs l m)/\RcNeAt A s (.ref a) (.ref b) (!beqTs l m):=by
     rw[q2];exact⟨RcAt.tuples h1 h2 (by omega) he,RcNeAt.tuples h1 h2 (by omega) he⟩
    unfold bQ;refine⟨?_,key⟩
    by_cases hab:a=b
    ·subst hab
     have:=gX h1 h2;subst this;rw[ReVs.refl r1 r2];exact EqAt.same _
    ·exact EqAt.of_refs hab key.1
   | _=>exact qj A s _ _ u v (by simp[ip]) (by omega) rx ry
  | lst l=>
   cases y with
   | lst m=>
    unfold ReV at rx ry;obtain⟨a,us,rfl,h1,r1⟩:=rx;obtain⟨b,vs,rfl,h2,r2⟩:=ry;unfold bQ
    exact lists l m a b us vs (by simp only[T.dep]at hd;omega) r1 r2 h1 h2
   | scr m=>
    unfold ReV at rx ry;obtain⟨a,us,rfl,h1,r1⟩:=rx;obtain⟨b,vs,rfl,h2,r2⟩:=ry;unfold bQ
    exact lists l (m.map T.int) a b us vs (by rw[e9];omega) r1 (dS r2) h1 h2
   | _=>exact qj A s _ _ u v (by simp[ip]) (by omega) rx ry
  | scr l=>
   cases y with
   | lst m=>
    unfold ReV at rx ry;obtain⟨a,us,rfl,h1,r1⟩:=rx;obtain⟨b,vs,rfl,h2,r2⟩:=ry;unfold bQ;rw[qz]
    exact lists (l.map T.int) m a b us vs (by rw[e9];omega) (dS r1) r2 h1 h2
   | scr m=>
    unfold ReV at rx ry;obtain⟨a,us,rfl,h1,r1⟩:=rx;obtain⟨b,vs,rfl,h2,r2⟩:=ry;unfold bQ;rw[se]
    exact lists (l.map T.int) (m.map T.int) a b us vs (by rw[e9];omega) (dS r1) (dS r2) h1 h2
   | _=>exact qj A s _ _ u v (by simp[ip]) (by omega) rx ry
  | _=>exact qj A s _ _ u v (by simp[ip]) (by omega) rx ry
mutual
def T.nf:T->T
 | .tup l=> .tup (nfs l)
 | .lst l=> .lst (nfs l)
 | .scr l=> .lst (l.map .int)
 | .non=> .non
 | .bl b=> .bl b
 | .int b=> .int b
 | .str b=> .str b
 | .dct a b=> .dct a b
 | .ob a b c=> .ob a b c
def nfs:List T->List T
 | [] => []
 | t::l=>t.nf::nfs l
end
theorem pZ:∀(l:List Int),nfs (l.map T.int)=l.map T.int
 | [] =>rfl
 | i::l=>by rw[HW,nfs,pZ l];simp[T.nf]
theorem CW {s:HJ}{t:T}{i:Int}{k:Tok}(r:ReV s t (.int i k)):t.nf= .int i:=by
 cases t with
 | non=>unfold ReV at r;cases r
 | bl b=>unfold ReV at r;cases r
 | int j=>unfold ReV at r;obtain⟨t,e⟩:=r;injection e with e1 _;subst e1;rfl
 | str x=>unfold ReV at r;obtain⟨t,e⟩:=r;cases e
 | tup l=>unfold ReV at r;obtain⟨a,its,e,_⟩:=r;cases e
 | lst l=>unfold ReV at r;obtain⟨a,its,e,_⟩:=r;cases e
 | scr l=>unfold ReV at r;obtain⟨a,its,e,_⟩:=r;cases e
 | dct _ _=>unfold ReV at r;exact r.elim
 | ob _ _ _=>unfold ReV at r;exact r.elim
theorem sU {s:HJ}:∀{l:List T} {us:List HL} {ns:List Int},ReVs s l us->MJ us ns->nfs l=ns.map T.int
 | [],us,ns,r,h=>by cases ReVs.Da.mp r;cases h;rfl
 | t::l,us,ns,r,h=>by
  obtain⟨u,ws,rfl,p,q⟩:=ReVs.AC.mp r
  cases h with
  | cons a b hh=>rw[nfs,CW p,sU q hh];rfl
mutual
theorem ReV.nf {s:HJ}:∀{t u:T} {v:HL},ReV s t v->ReV s u v->t.nf=u.nf
 | .non,u,v,r,q=>by
  unfold ReV at r;subst r
  cases u <;> (unfold ReV at q) <;> first | rfl | (cases q;done) | (obtain⟨_,e⟩:=q;cases e;done) | (obtain⟨_,_,e,_⟩:=q;cases e;done)
 | .bl b,u,v,r,q=>by
  unfold ReV at r;subst r
  cases u <;> (unfold ReV at q) <;> first | (cases q;done) | (cases q;rfl) | (obtain⟨_,e⟩:=q;cases e;done) | (obtain⟨_,_,e,_⟩:=q;cases e;done)
 | .int b,u,v,r,q=>by
  unfold ReV at r;obtain⟨k,rfl⟩:=r
  cases u <;> (unfold ReV at q) <;> first | (cases q;done) | (obtain⟨_,e⟩:=q;cases e;done) | (obtain⟨_,e⟩:=q;cases e;rfl) | (obtain⟨_,_,e,_⟩:=q;cases e;done)
 | .str b,u,v,r,q=>by
  unfold ReV at r;obtain⟨k,rfl⟩:=r
  cases u <;> (unfold ReV at q) <;> first | (cases q;done) | (obtain⟨_,e⟩:=q;cases e;done) | (obtain⟨_,e⟩:=q;cases e;rfl) | (obtain⟨_,_,e,_⟩:=q;cases e;done)
 | .tup l,u,v,r,q=>by
  unfold ReV at r;obtain⟨a,its,rfl,h1,h2⟩:=r
  cases u with
  | non=>unfold ReV at q;cases q
  | dct _ _=>unfold ReV at q;exact q.elim
  | ob _ _ _=>unfold ReV at q;exact q.elim
  | bl _=>unfold ReV at q;cases q
  | int _=>unfold ReV at q;obtain⟨_,e⟩:=q;cases e
  | str _=>unfold ReV at q;obtain⟨_,e⟩:=q;cases e
  | tup m=>
   unfold ReV at q;obtain⟨a',its',e,h1',h2'⟩:=q;injection e with e;subst e
   have:=gX h1 h1';subst this;unfold T.nf
   rw[ReVs.nf h2 h2']
  | lst m=>unfold ReV at q;obtain⟨a',its',e,h1',h2'⟩:=q;injection e with e;subst e;exact absurd rfl (ne_of_list_tuple h1' h1)
  | scr m=>unfold ReV at q;obtain⟨a',its',e,h1',h2'⟩:=q;injection e with e;subst e;exact absurd rfl (ne_of_list_tuple h1' h1)
 | .lst l,u,v,r,q=>by
  unfold ReV at r;obtain⟨a,its,rfl,h1,h2⟩:=r
  cases u with
  | non=>unfold ReV at q;cases q
  | dct _ _=>unfold ReV at q;exact q.elim
  | ob _ _ _=>unfold ReV at q;exact q.elim
  | bl _=>unfold ReV at q;cases q
  | int _=>unfold ReV at q;obtain⟨_,e⟩:=q;cases e
  | str _=>unfold ReV at q;obtain⟨_,e⟩:=q;cases e
  | lst m=>
   unfold ReV at q;obtain⟨a',its',e,h1',h2'⟩:=q;injection e with e;subst e
   have:=cy h1 h1';subst this;unfold T.nf
   rw[ReVs.nf h2 h2']
  | tup m=>unfold ReV at q;obtain⟨a',its',e,h1',h2'⟩:=q;injection e with e;subst e;exact absurd rfl (ne_of_list_tuple h1 h1')
  | scr m=>
   unfold ReV at q;obtain⟨a',its',e,h1',h2'⟩:=q;injection e with e;subst e
   have:=cy h1 h1';subst this;unfold T.nf
   rw[ReVs.nf h2 (dS h2'),pZ]
 | .scr l,u,v,r,q=>by
  unfold ReV at r;obtain⟨a,its,rfl,h1,h2⟩:=r
  cases u with
  | non=>unfold ReV at q;cases q
  | dct _ _=>unfold ReV at q;exact q.elim
  | ob _ _ _=>unfold ReV at q;exact q.elim
  | bl _=>unfold ReV at q;cases q
  | int _=>unfold ReV at q;obtain⟨_,e⟩:=q;cases e
  | str _=>unfold ReV at q;obtain⟨_,e⟩:=q;cases e
  | lst m=>
   unfold ReV at q;obtain⟨a',its',e,h1',h2'⟩:=q;injection e with e;subst e
   have:=cy h1 h1';subst this
   have z:=sU h2' h2;unfold T.nf
   rw[z]
  | tup m=>unfold ReV at q;obtain⟨a',its',e,h1',h2'⟩:=q;injection e with e;subst e;exact absurd rfl (ne_of_list_tuple h1 h1')
  | scr m=>
   unfold ReV at q;obtain⟨a',its',e,h1',h2'⟩:=q;injection e with e;subst e
   have:=cy h1 h1';subst this
   rw[gY h2 h2']
 | .dct _ _,u,v,r,q=>by unfold ReV at r;exact r.elim
 | .ob _ _ _,u,v,r,q=>by unfold ReV at r;exact r.elim
theorem ReVs.nf {s:HJ}:∀{l m:List T} {us:List HL},ReVs s l us->ReVs s m us->nfs l=nfs m
 | [],m,us,r,q=>by
  cases ReVs.Da.mp r
  cases m with
  | nil=>rfl
  | cons _ _=>obtain⟨_,_,e,_⟩:=ReVs.AC.mp q;cases e
 | t::l,m,us,r,q=>by
  obtain⟨v,ws,rfl,p,z⟩:=ReVs.AC.mp r
  cases m with
  | nil=>cases ReVs.Da.mp q
  | cons u m=>
   obtain⟨v',ws',e,p',z'⟩:=ReVs.AC.mp q;injection e with e1 e2
   subst e1 e2;rw[nfs,nfs,ReV.nf p p',ReVs.nf z z']
end
section
variable {X:Cx}{a b c:Expr}{fa fb fc:En->Rs T}{pos:Pos}
def gg (x y:T):Bool:=(decide (x.dep<=60)||decide (y.dep<=60))&&(x.nd&&y.nd)
def eqT (x y:T):Rs T:=if gg x y=true then .ok (.bl (bQ x y))else .bad
def neT (x y:T):Rs T:=if gg x y=true then .ok (.bl (!bQ x y))else .bad
theorem dN {x y:T}(h:x.dep<=60)(hx:x.nd=true)(hy:y.nd=true):gg x y=true:=by unfold gg;rw[decide_eq_true h,hx,hy];rfl
theorem iw {x y:T}(h:gg x y=true):x.nd=true/\y.nd=true:=by
 unfold gg at h;exact Ja.mp (Ja.mp h).2
theorem nk {x y:T}(h:gg x y=true):x.dep<=60\/y.dep<=60:=by
 unfold gg at h
 replace h:=(Ja.mp h).1
 rcases Bool.or_eq_true_iff.mp h with h | h
 ·exact .inl (of_decide_eq_true h)
 ·exact .inr (of_decide_eq_true h)
theorem kd (hu:X.A.units+60<cLine):OpT X (Jl .Eq) eqT:=by
 intro pins s σ H O x y vx vy ux uy Q I hf rx ry r1 r2 hp;unfold eqT at hp
 split at hp
 ·rename_i h
  have z:=FO 60 X.A s x y ux uy (nk h) hu (Rep.val I (iw h).1 rx r1) (Rep.val I (iw h).2 ry r2);exact z.2.1 _ _ _ _ ⟨.bl _,H,I,rfl,hp H (Same.refl H) _ (Rep.bl_ _)⟩
 ·exact hp.elim
theorem fR (hu:X.A.units+60<cLine):OpT X (Jl .NotEq) neT:=by
 intro pins s σ H O x y vx vy ux uy Q I hf rx ry r1 r2 hp;unfold neT at hp
 split at hp
 ·rename_i h
  have z:=FO 60 X.A s x y ux uy (nk h) hu (Rep.val I (iw h).1 rx r1) (Rep.val I (iw h).2 ry r2);exact z.2.2 _ _ _ _ ⟨.bl _,H,I,rfl,hp H (Same.refl H) _ (Rep.bl_ _)⟩
 ·exact hp.elim
def T.items:T->Option (List T)
 | .tup l=>some l
 | .lst l=>some l
 | .scr l=>some (l.map T.int)
 | _=>none
def ch (g g':T->T->Rs T)(fa fb fc:En->Rs T)(ρ:En):Rs T:=do
 let x <-fa ρ
 let y <-fb ρ
 let z <-g x y
 match z with
 | .bl true=>do
  let w <-fc ρ
  g' y w
 | .bl false=> .ok (.bl false)
 | _=> .bad
theorem y0 {op op':Oz}{g g':T->T->Rs T}(ho:OpT X (Jl op) g)(ho':OpT X (Jl op') g')(ha:cL X a fa)(hb:cL X b fb)(hc:cL X c fc)
  (hm:autoParam (lastMarks [op,op'] [b,c] =false) w_):cL X (.Compare a [op,op'] [b,c] pos) (ch g g' fa fb fc):=by
 intro pins s σ H Q I ⟨ρ,O,E,hq⟩
 have h1:=aI E hq;refine Compare_chain (bF (ha pins s σ H _ I h1) λv s1 ⟨x,H1,I1,r1,t,rt,s',E',q1⟩=>chain_link ?_) hm
 have h2:=aI (f:=fb) E' q1;refine bF (hb pins s1 σ H1 _ I1 h2) λu s2 hh_=> ?_
 obtain⟨y,H2,I2,r2,t2,rt2,s'',E'',q2⟩:=hh_
 refine bF (ho pins s2 σ H2 O t t2 x y v u (λv' H'=> ∃t',Rep X.K O H' t' v'/\Same H2 H'/\Post X H' (match t' with
  | .bl true=>fc ρ >>= λw=>g' t2 w
  | .bl false=> .ok (.bl false)
  | _=> .bad) (λt H'=> ∀v,Rep X.K O H' t v->Q v H')) I2 (λp=>E''.fresh) (rt.same s'') rt2 r1 r2 (Post.mono q2.bind λt' H' s3 q v rv=>⟨t',rv,s3,q⟩)) λd s3 ⟨z,H3,I3,r3,t3,rt3,sm3,q3⟩=> ?_
 have E3:=E''.same sm3
 split at q3
 ·cases Rep.Gc.mp rt3
  cases r3;refine Jk (ite_tt (chain_last ?_))
  have h4:=aI (f:=fc) E3 q3;refine bF (hc pins s3 σ H3 _ I3 h4) λw' s4 ⟨z',H4,I4,r4,t4,rt4,s4',E4,q4⟩=> ?_
  exact ho' pins s4 σ H4 O t2 t4 y z' u w' Q I4 (λp=>E4.fresh) ((rt2.same sm3).same s4') rt4 r2 r4 q4
 ·cases Rep.Gc.mp rt3
  cases r3;refine Jk (ite_ff ⟨.bl false,H3,I3,rfl,q3 H3 (Same.refl H3) _ (Rep.bl_ false)⟩)
 ·exact q3.elim
def tb (f:En->Rs T)(ρ:En):Rs Bool:=do
 let x <-f ρ
 match x with
 | .bl k=> .ok k
 | _=> .bad
theorem BX {e:Expr}{f:En->Rs T}(h:cL X e f)(he:autoParam (∀whole,isTrue e X.env whole=(do let v <-whole;standAt e.pos;holding [v] (truthy v))) t_):yb X e (tb f):=by
 intro pins s σ H Q I ⟨ρ,O,E,hq⟩;refine v9 h he pins s σ H Q I ?_
 obtain⟨ρ1,O1,E1,h1⟩:=aI E hq;refine⟨ρ1,O1,E1,Post.mono h1 λts H1 s1 q vs r=> ?_⟩
 obtain⟨t',r',s',E',q'⟩:=q vs r
 split at q'
 ·exact⟨_,Rep.Gc.mp r',q' H1 (Same.refl H1)⟩
 ·exact q'.elim
theorem BZ {op:Oz}{g:T->T->Rs T}(ho:OpT X (Jl op) g)(ha:cL X a fa)(hb:cL X b fb)(hm:autoParam (JJ op b=false) u_):yb X (.Compare a [op] [b] pos) (tb (o2 g fa fb)):=by
 intro pins s σ H Q I ⟨ρ,O,E,hq⟩
 have hq':Post X H (o2 g fa fb ρ) λt H'=> ∀v,Rep X.K O H' t v->∃k,v= .bl k/\Q k H':=Post.mono hq.bind λt H' s' q v r=>by
  split at q
  ·exact⟨_,Rep.Gc.mp r,q H' (Same.refl H')⟩
  ·exact q.elim
 have h1:=aI E hq';refine NL (bF (ha pins s σ H _ I h1) λv s1 ⟨x,H1,I1,r1,t,rt,s',E',q1⟩=> ?_) hm
 have h2:=aI (f:=fb) E' q1;refine bF (hb pins s1 σ H1 _ I1 h2) λu s2 hh_=> ?_
 obtain⟨y,H2,I2,r2,t2,rt2,s'',E'',q2⟩:=hh_;refine bF (ho pins s2 σ H2 O t t2 x y v u _ I2 (λp=>E''.fresh) (rt.same s'') rt2 r1 r2 q2) λd s3 hh_=> ?_
 obtain⟨z,H3,I3,r3,k,e,q3⟩:=hh_;subst e;cases r3;exact Jk ⟨H3,I3,q3⟩
def ku (f g:En->Rs Bool)(ρ:En):Rs Bool:=do
 let k <-f ρ
 if k then .ok true else g ρ
def dj (f:En->Rs Bool)(ρ:En):Rs Bool:=do
 let k <-f ρ
 .ok (!k)
variable {f g:En->Rs Bool}{aY:List Expr}
abbrev F5 (X:Cx)(e:Expr)(f:En->Rs Bool):Prop:=PW X e (uR X f)
theorem BW (ha:yb X a f):F5 X (.BoolOp .Or [a] pos) f:=v8 ha
theorem EA (ha:yb X a f)(hb:F5 X (.BoolOp .Or (b::aY) pos) g):F5 X (.BoolOp .Or (a::b::aY) pos) (ku f g):=by
 intro wh pins s σ H Q I ⟨ρ,O,E,hq⟩;refine AX ha hb wh pins s σ H Q I ?_
 obtain⟨ρ1,O1,E1,h1⟩:=gH E hq;refine⟨ρ1,O1,E1,Post.mono h1 λk H1 s1 q=> ?_⟩
 obtain⟨s',E',q'⟩:=q
 cases k with
 | true=>rw[if_pos rfl];exact q' H1 (Same.refl H1)
 | false=>rw[if_neg Io];exact⟨ρ,O,E',by simpa using q'⟩
theorem qt_w {e:Expr}(h:F5 X e f):yb X e f:=h.pt
theorem BY (ha:yb X a f):yb X (.UnaryOp .Not a pos) (dj f):=by
 intro pins s σ H Q I ⟨ρ,O,E,hq⟩;refine wa ha pins s σ H Q I ?_
 obtain⟨ρ1,O1,E1,h1⟩:=gH E hq;exact⟨ρ1,O1,E1,Post.mono h1 λk H1 s1 ⟨s',E',q'⟩=>q' H1 (Same.refl H1)⟩
def bJ (f g:En->Rs T)(ρ:En):Rs T:=do
 let x <-f ρ
 match x with
 | .bl true=>g ρ
 | .bl false=> .ok (.bl false)
 | _=> .bad
def EY (f g:En->Rs T)(ρ:En):Rs T:=do
 let x <-f ρ
 match x with
 | .bl true=> .ok (.bl true)
 | .bl false=>g ρ
 | _=> .bad
def zy:T->Rs T
 | .bl k=> .ok (.bl (!k))
 | _=> .bad
theorem EG {op}(h:cL X a fa):cL X (.BoolOp op [a] pos) fa:=Ck h
theorem ES (ha:cL X a fa)(hb:cL X (.BoolOp .And (b::aY) pos) fb):cL X (.BoolOp .And (a::b::aY) pos) (bJ fa fb):=by
 intro pins s σ H Q I ⟨ρ,O,E,hq⟩;refine Cp ha hb pins s σ H Q I ?_
 obtain⟨ρ1,O1,E1,h1⟩:=aI E hq;refine⟨ρ1,O1,E1,Post.mono h1 λts H1 s1 q vs r=> ?_⟩
 obtain⟨t',r',s',E',q'⟩:=q vs r
 split at q'
 ·exact⟨true,Rep.Gc.mp r',by rw[if_pos rfl];exact⟨ρ,O,E',q'⟩⟩
 ·exact⟨false,Rep.Gc.mp r',by rw[if_neg Io];exact q' H1 (Same.refl H1) _ (Rep.bl_ false)⟩
 ·exact q'.elim
theorem q_or (ha:cL X a fa)(hb:cL X (.BoolOp .Or (b::aY) pos) fb):cL X (.BoolOp .Or (a::b::aY) pos) (EY fa fb):=by
 intro pins s σ H Q I ⟨ρ,O,E,hq⟩;refine EV ha hb pins s σ H Q I ?_
 obtain⟨ρ1,O1,E1,h1⟩:=aI E hq;refine⟨ρ1,O1,E1,Post.mono h1 λts H1 s1 q vs r=> ?_⟩
 obtain⟨t',r',s',E',q'⟩:=q vs r
 split at q'
 ·exact⟨true,Rep.Gc.mp r',by rw[if_pos rfl];exact q' H1 (Same.refl H1) _ (Rep.bl_ true)⟩
 ·exact⟨false,Rep.Gc.mp r',by rw[if_neg Io];exact⟨ρ,O,E',q'⟩⟩
 ·exact q'.elim
theorem EH (ha:cL X a fa):cL X (.UnaryOp .Not a pos) (o1 zy fa):=by
 intro pins s σ H Q I ⟨ρ,O,E,hq⟩;refine Cm ha pins s σ H Q I ?_
 obtain⟨ρ1,O1,E1,h1⟩:=aI E hq;refine⟨ρ1,O1,E1,Post.mono h1 λts H1 s1 q vs r=> ?_⟩
 obtain⟨t',r',s',E',q'⟩:=q vs r;unfold zy at q'
 split at q'
 ·exact⟨_,Rep.Gc.mp r',q' H1 (Same.refl H1) _ (Rep.bl_ _)⟩
 ·exact q'.elim
def zQ (f:En->Rs Bool)(fa fb:En->Rs T)(ρ:En):Rs T:=do
 let k <-f ρ
 if k then fa ρ else fb ρ
theorem q_if (hc:yb X c f)(ha:cL X a fa)(hb:cL X b fb):cL X (.IfExp c a b pos) (zQ f fa fb):=by
 intro pins s σ H Q I ⟨ρ,O,E,hq⟩;refine wt hc ha hb pins s σ H Q I ?_
 obtain⟨ρ1,O1,E1,h1⟩:=gH E hq;refine⟨ρ1,O1,E1,Post.mono h1 λk H1 s1 q=> ?_⟩
 obtain⟨s',E',q'⟩:=q
 cases k with
 | true=>rw[if_pos rfl];exact⟨ρ,O,E',by simpa using q'⟩
 | false=>rw[if_neg Io];exact⟨ρ,O,E',by simpa using q'⟩
end
end Tr
namespace HT
open PySem PyProof.Rows
section
variable {prog:Ip}{w:IV}{A:IE}{E:HL->HJ->Prop}{s:HJ}
theorem iB {t:Addr}{items:Array HL}{Q:Bool->HJ->Prop}(ht:Qc s.heap t items)(h:Q true s):wpAny (model prog w) A (Mp (.ref t)) Q E s:=by
 unfold Mp;refine HM (MA ht.typeIs (HX ?_))
 exact h
theorem getItem_tuple_whole {t sl:Addr}{items:Array HL}{vl vu:HL}{lo hi:Option Int}{Q:HL->HJ->Prop}(ht:Qc s.heap t items)(hs:s.heap.IsSliceOf sl vl vu .none)(pl:OH vl lo)(pu:OH vu hi)
  (hw:sIx items.size 0 lo=0/\sIx items.size items.size hi=items.size) (h:Q (.ref t) s):wpAny (model prog w) A (getItem (.ref t) (.ref sl)) Q E s:=by
 obtain⟨os,hos,hcs,hds⟩:=id hs
 have hTs:s.TypeIs (.ref sl) "slice":=⟨os,hos,hcs⟩;unfold getItem
 try with_reducible refine Jp ?_
 first | refine HM (HX ?_) | skip
 refine HM (Pe ht.typeIs (by decide) ?_)
 refine HM (Jq (name:=Ij "__getitem__") ht.typeIs Ji
  (JS Ji ht.typeIs N8 ?_ (OI _ _)))
 show wpAny _ _ (Mo (.ref t) >>= _) _ _ s
 refine HM (OJ ht ?_)
 refine HM (MA hTs ?_)
 rw[if_pos (by decide)]
 refine HM (fP hs pl pu ?_)
 have hyes:(((sIx items.size 0 lo:Nat):Int) == 0&&(1:Int) == 1&&(sIx items.size items.size hi - sIx items.size 0 lo) == items.size)=true:=by
  rw[hw.1,hw.2];simp
 show wpAny _ _ (if (((sIx items.size 0 lo:Nat):Int) == 0&&(1:Int) == 1&&(sIx items.size items.size hi - sIx items.size 0 lo) == items.size)=true then _ else _) _ _ s
 rw[if_pos hyes]
 first
  | refine HM (iB ht ?_)
  | refine iB ht ?_
 try rw[if_pos rfl]
 first
  | exact HM (Ll (HX ⟨_,rfl,HX h⟩))
  | exact HM (Ll (HM (HX (HX ⟨_,rfl,HX h⟩))))
end
end HT
namespace Tr
open PySem PySem.Spec PyProof.Rows L2
section
variable {X:Cx}{a b c:Expr}{fa fb fc:En->Rs T}{pos:Pos}
theorem Reps.atI {K:HI}{O:Ow}{H:Hp}{l:List T}{vs:List V}{i:Int}{t:T}(r:Reps K O H l vs)(e:L2.atI l i=some t):∃v,L2.atI vs i=some v/\Rep K O H t v:=by
 unfold L2.atI at e ⊢;rw[r.length]at e
 cases q:ixN vs.length i with
 | none=>rw[q]at e;cases e
 | some j=>
  rw[q]at e;obtain⟨v,e1,e2⟩:=r.get (i:=j) (t:=t) e;exact⟨v,e1,e2⟩
def b7 (x y:T):Rs T:=match x.items,y with
 | some l,.int i=>match L2.atI l i with
  | some t=> .ok t
  | none=> .bad
 | _,_=> .bad
theorem q_ix (ha:cL X a fa)(hb:cL X b fb)(hs:autoParam (tL b) x_):cL X (.Subscript a b pos) (o2 b7 fa fb):=by
 intro pins s σ H Q I ⟨ρ,O,E,hq⟩
 have h1:=aI E hq;refine Pf (bF (ha pins s σ H _ I h1) λv s1 hh_=> ?_)
 obtain⟨x,H1,I1,r1,t,rt,s',E',q1⟩:=hh_
 have h2:=aI (f:=fb) E' q1;refine bF (hb pins s1 σ H1 _ I1 h2) λu s2 hh_=> ?_
 obtain⟨y,H2,I2,r2,t2,rt2,s'',E'',q2⟩:=hh_
 have rt':=rt.same s'';unfold b7 at q2
 split at q2
 ·rename_i l i hl
  split at q2
  ·rename_i z hz
   have hy:=Rep.Do.mp rt2;refine CV a b pins s2 σ H2 x y v u Q I2 r1 r2 ?_ (hs _ _)
   cases t with
   | tup m=>
    cases hl;obtain⟨p,vs,e,n,q,rr⟩:=Rep.Fk.mp rt';obtain⟨w,ew,rw'⟩:=rr.atI hz
    exact .inr (.inl ⟨p,vs,i,w,e,hy,SqT.of q,ew,q2 H2 (Same.refl H2) _ rw'⟩)
   | lst m=>
    cases hl;obtain⟨p,vs,e,n,q,rr⟩:=Rep.FB.mp rt';obtain⟨w,ew,rw'⟩:=rr.atI hz
    exact .inl ⟨p,vs,i,w,e,hy,SqL.of q,ew,q2 H2 (Same.refl H2) _ rw'⟩
   | scr m=>
    cases hl;unfold Rep at rt';obtain⟨p,e,n,q⟩:=rt';obtain⟨w,ew,rw'⟩:=(Reps.ints (K:=X.K) (O:=O) (H:=H2) (ns:=m)).atI hz
    exact .inl ⟨p,_,i,w,e,hy,q,ew,q2 H2 (Same.refl H2) _ rw'⟩
   | _=>cases hl
  ·exact q2.elim
 ·exact q2.elim
def gh (l:List T)(lo hi:Option Int):List T:=(l.drop (HT.sIx l.length 0 lo)).take (HT.sIx l.length l.length hi - HT.sIx l.length 0 lo)
theorem Reps.cut {K:HI}{O:Ow}{H:Hp}{l:List T}{vs:List V}(r:Reps K O H l vs)(lo hi:Option Int):Reps K O H (gh l lo hi) (qx vs lo hi):=by
 unfold gh qx;rw[r.length];exact(r.drop _).take _
theorem nv {l:List T}{lo hi:Option Int}(h:HT.sIx l.length 0 lo=0/\HT.sIx l.length l.length hi=l.length):gh l lo hi=l:=by
 unfold gh;rw[h.1,h.2];simp
theorem sl_tup_whole:SlR X (λx lo hi H Q=> ∃a xs,x= .ref a/\SqT X.K H a xs/\(HT.sIx xs.length 0 lo=0/\HT.sIx xs.length xs.length hi=xs.length)/\Q (.ref a) H):=by
 intro pins s σ H x v vl vu lo hi sl Q I rx hs pl pu h;obtain⟨a,xs,rfl,hx,hw,q⟩:=h;cases rx;obtain⟨its,r,ht,hz⟩:=I.tuple hx
 have hlen:its.toArray.size=xs.length:=by rw[Il];exact r.length.symm
 refine⟨"tuple",_,Ji.lookup,ht.typeIs,?_⟩
 exact HT.getItem_tuple_whole ht hs pl pu (by rw[hlen];exact hw) ⟨.ref a,H,I,rfl,q⟩
def pN (_:En):Rs (Option Int):=.ok none
def pS (f:En->Rs T)(ρ:En):Rs (Option Int):=do
 let x <-f ρ
 match x with
 | .int i=> .ok (some i)
 | _=> .bad
def tPO (X:Cx)(f:En->Rs (Option Int)):TO:=λσ H Q=> ∃ρ O,EnvO X.K O H ρ σ/\Post X H (f ρ) λb H'=>Q b H'
abbrev AD (X:Cx)(e:Option Expr)(f:En->Rs (Option Int)):Prop:=PO X e (tPO X f)
theorem yS:AD X none pN:=by
 intro pins s σ H Q I ⟨ρ,O,E,hq⟩;exact zb pins s σ H Q I (hq H (Same.refl H))
theorem yR (ha:cL X a fa):AD X (some a) (pS fa):=by
 intro pins s σ H Q I ⟨ρ,O,E,hq⟩;refine za ha pins s σ H Q I ?_
 obtain⟨ρ1,O1,E1,h1⟩:=aI E hq;refine⟨ρ1,O1,E1,Post.mono h1 λts H1 s1 q vs r=> ?_⟩
 obtain⟨t',r',s',E',q'⟩:=q vs r
 split at q'
 ·exact⟨_,Rep.Do.mp r',q' H1 (Same.refl H1)⟩
 ·exact q'.elim
def slT (x:T)(lo hi:Option Int):Rs T:=match x with
 | .tup l=> .ok (.tup (gh l lo hi))
 | .lst l=> .ok (.lst (gh l lo hi))
 | _=> .bad
def sl (fe:En->Rs T)(fl fu:En->Rs (Option Int))(ρ:En):Rs T:=do
 let x <-fe ρ
 let l <-fl ρ
 let u <-fu ρ
 slT x l u
theorem fO {σ:L2.St}{H:Hp}{ρ:En}{O:Ow}{α:Type}{f:En->Rs (Option Int)}{k:Option Int->Rs α}{Q:α->Hp->Prop}(E:EnvO X.K O H ρ σ)(h:Post X H (f ρ >>= k) Q) :
  tPO X f σ H λb H'=>Same H H'/\EnvO X.K O H' ρ σ/\Post X H' (k b) Q:=
 ⟨ρ,O,E,Post.mono h.bind λt H' s q=>⟨s,E.same s,q⟩⟩
theorem yZ {lo hi:Option Expr}{p2:Pos}{fl fu:En->Rs (Option Int)}(ha:cL X a fa)(hl:AD X lo fl)(hu:AD X hi fu):cL X (.Subscript a (.Slice lo hi none p2) pos) (sl fa fl fu):=by
 intro pins s σ H Q I ⟨ρ,O,E,hq⟩;refine pO (sl_tup.or (sl_tup_whole.or sd)) ha hl hu pins s σ H Q I ?_
 obtain⟨ρ1,O1,E1,h1⟩:=aI E hq;refine⟨ρ1,O1,E1,Post.mono h1 λts H1 s1 q vs r=> ?_⟩
 obtain⟨t',r',s',E',q'⟩:=q vs r;obtain⟨ρ2,O2,E2,h2⟩:=fO E' q';refine⟨ρ2,O2,E2,Post.mono h2 λo1 H2 s2 q=> ?_⟩
 obtain⟨s2',E2',q2⟩:=q;obtain⟨ρ3,O3,E3,h3⟩:=fO E2' q2;refine⟨ρ3,O3,E3,Post.mono h3 λo2 H3 s3 q=> ?_⟩
 obtain⟨s3',E3',q3⟩:=q
 have rt:=(r'.same s2').same s3';unfold slT at q3
 split at q3
 ·rename_i l
  obtain⟨p,ws,e,n,q,rr⟩:=Rep.Fk.mp rt
  have hlen:=rr.length
  by_cases hw:HT.sIx ws.length 0 o1=0/\HT.sIx ws.length ws.length o2=ws.length
  ·refine .inr (.inl ⟨p,ws,e,SqT.of q,hw,?_⟩)
   rw[<-hlen]at hw;refine q3 H3 (Same.refl H3) _ ?_
   rw[nv hw];exact Rep.Fk.mpr ⟨p,ws,rfl,n,q,rr⟩
  ·exact .inl ⟨p,ws,e,SqT.of q,hw,λp' hp=>q3 _ (aV hp _) _ (dI hp (E3'.fresh hp) (rr.cut o1 o2))⟩
 ·rename_i l
  obtain⟨p,ws,e,n,q,rr⟩:=Rep.FB.mp rt;exact .inr (.inr ⟨p,ws,e,SqL.of q,λp' hp=>q3 _ (aV hp _) _ (eF hp (E3'.fresh hp) (rr.cut o1 o2))⟩)
 ·exact q3.elim
def CallT (X:Cx)(f:HL)(g:List T->Rs T):Prop:=
 ∀(pins:List (Addr×Obj)) (s:HJ) (σ:L2.St) (H:Hp) (O:Ow) (ts:List T) (vs:List V) (us:List HL) (Q:VK),Inv X pins σ H s->(∀p,H p=none->¬ O p)->Reps X.K O H ts vs->Vals vs us →
  Post X H (g ts) (λt H'=> ∀v,Rep X.K O H' t v->Q v H')->wpAny (model X.prog X.w) X.A (call f us) (EP X pins σ Q) X.xe s
theorem CallT.of {f:HL}{r:List V->Hp->VK->Prop}(h:CallR X f r){g:List T->Rs T}
  (w:∀(H:Hp) (O:Ow) (ts:List T) (vs:List V) (Q:VK),(∀p,H p=none->¬ O p)->Reps X.K O H ts vs->Post X H (g ts) (λt H'=> ∀v,Rep X.K O H' t v->Q v H')->r vs H Q):CallT X f g:=
 λpins s σ H O ts vs us Q I hf rs rv hp=>h pins s σ H vs us Q I rv (w H O ts vs Q hf rs hp)
def cl (g:List T->Rs T)(fs:En->Rs (List T))(ρ:En):Rs T:=fs ρ >>= g
variable {e:Expr}{es:List Expr}{fs:En->Rs (List T)}{x:Str}{p:Pos}{id:String}{g:List T->Rs T}
theorem y1 (hc:CallT X (.builtin id) g)(hm:X.mg x=none)(hv:IC x=some (.builtin id))(ha:o4 X (e::es) fs)(hg:autoParam (Gl X x) u_)(hn:autoParam (x≠ "__name__") s_)(hdb:autoParam ((x == ("__debug__" : Str))=false) s_)
  (he:autoParam (Ik (e::es) X.env=(false,eval e X.env)::Ik es X.env) u_) (hpl:autoParam ((backTo pos (Ik es X.env)).any (·.1)=false) u_):cL X (.Call (.Name x p) (e::es) [] pos) (cl g fs):=by
 intro pins s σ H Q I ⟨ρ,O,E,hq⟩;refine Jw (dX I hg hm hv ?_ hn hdb)
 have h1:=dH E hq;exact J2 (bF (ha pos pins s σ H _ I h1) λus s1 ⟨vs,H1,I1,r1,ts,rs,s',E',q1⟩=>hc pins s1 σ H1 O ts vs us Q I1 (λp=>E'.fresh) rs r1 q1) he hpl
theorem v5 {Ty:String}(hc:CallT X (.type Ty) g)(hm:X.mg x=none)(hv:IC x=some (.type Ty))(ha:o4 X (e::es) fs)(hg:autoParam (Gl X x) u_)(hn:autoParam (x≠ "__name__") s_)(hdb:autoParam ((x == ("__debug__" : Str))=false) s_)
  (he:autoParam (Ik (e::es) X.env=(false,eval e X.env)::Ik es X.env) u_) (hpl:autoParam ((backTo pos (Ik es X.env)).any (·.1)=false) u_):cL X (.Call (.Name x p) (e::es) [] pos) (cl g fs):=by
 intro pins s σ H Q I ⟨ρ,O,E,hq⟩;refine Jw (dX I hg hm hv ?_ hn hdb)
 have h1:=dH E hq;exact JO (bF (ha pos pins s σ H _ I h1) λus s1 ⟨vs,H1,I1,r1,ts,rs,s',E',q1⟩=>hc pins s1 σ H1 O ts vs us Q I1 (λp=>E'.fresh) rs r1 q1) he hpl
theorem Reps.one {K:HI}{O:Ow}{H:Hp}{t:T}{vs:List V}(r:Reps K O H [t] vs):∃v,vs= [v]/\Rep K O H t v:=by
 obtain⟨v,ws,rfl,p,q⟩:=Reps.AC.mp r;cases Reps.Da.mp q;exact⟨v,rfl,p⟩
theorem Rep.sq {K:HI}{O:Ow}{H:Hp}{t:T}{v:V}{l:List T}(r:Rep K O H t v)(h:t.items=some l):∃a vs,v= .ref a/\¬ O a/\Reps K O H l vs/\(SqL K H a vs\/SqT K H a vs):=by
 cases t with
 | tup m=>cases h;obtain⟨a,vs,e,n,q,z⟩:=Rep.Fk.mp r;exact⟨a,vs,e,n,z,.inr (SqT.of q)⟩
 | lst m=>cases h;obtain⟨a,vs,e,n,q,z⟩:=Rep.FB.mp r;exact⟨a,vs,e,n,z,.inl (SqL.of q)⟩
 | scr m=>cases h;unfold Rep at r;obtain⟨a,e,n,q⟩:=r;exact⟨a,_,e,n,Reps.ints,.inl q⟩
 | _=>cases h
def cH:List T->Rs T
 | [.str x] =>if x.length<=sizeLine then .ok (.int x.length)else .bad
 | [x] =>match x.items with
  | some l=> .ok (.int l.length)
  | none=> .bad
 | _=> .bad
theorem cO:CallT X (.builtin "len") cH:=CallT.of (call_len_seq.or oQ) λH O ts vs Q hf rs hp=>by
 unfold cH at hp
 split at hp
 ·obtain⟨v,rfl,r⟩:=rs.one
  split at hp
  ·rename_i h
   exact .inr ⟨_,by rw[Rep.FS.mp r],h,hp H (Same.refl H) _ (Rep.GA _)⟩
  ·exact hp.elim
 ·obtain⟨v,rfl,r⟩:=rs.one
  split at hp
  ·rename_i l hl
   obtain⟨a,vs,rfl,n,z,q⟩:=r.sq hl;exact .inl ⟨a,vs,rfl,q,hp H (Same.refl H) _ (by rw[<-z.length];exact Rep.GA _)⟩
  ·exact hp.elim
 ·exact hp.elim
def jN:List T->Rs T
 | [.tup l] => .ok (.tup l)
 | [.lst l] => .ok (.tup l)
 | _=> .bad
theorem lR:CallT X (.type "tuple") jN:=CallT.of mI λH O ts vs Q hf rs hp=>by
 unfold jN at hp
 split at hp
 ·obtain⟨v,rfl,r⟩:=rs.one
  obtain⟨a,ws,rfl,n,q,z⟩:=Rep.Fk.mp r;exact⟨a,ws,rfl,.inr ⟨SqT.of q,hp H (Same.refl H) _ (Rep.Fk.mpr ⟨a,ws,rfl,n,q,z⟩)⟩⟩
 ·obtain⟨v,rfl,r⟩:=rs.one
  obtain⟨a,ws,rfl,n,q,z⟩:=Rep.FB.mp r;exact⟨a,ws,rfl,.inl ⟨SqL.of q,λl hl=>hp _ (aV hl _) _ (dI hl (hf l hl) z)⟩⟩
 ·exact hp.elim
def sI:List T->Rs T
 | [x] =>match x.items with
  | some l=> .ok (.lst l)
  | none=> .bad
 | _=> .bad
theorem Ap:CallT X (.type "list") sI:=CallT.of oP λH O ts vs Q hf rs hp=>by
 unfold sI at hp
 split at hp
 ·obtain⟨v,rfl,r⟩:=rs.one
  split at hp
  ·rename_i l hl
   obtain⟨a,ws,rfl,n,z,q⟩:=r.sq hl;exact⟨a,ws,rfl,q,λl hl=>hp _ (aV hl _) _ (eF hl (hf l hl) z)⟩
  ·exact hp.elim
 ·exact hp.elim
def qf:List T->Rs T
 | [.int i] => .ok (.int i)
 | [.bl k] => .ok (.int (if k then 1 else 0))
 | _=> .bad
theorem xR:CallT X (.type "int") qf:=CallT.of uJ λH O ts vs Q hf rs hp=>by
 unfold qf at hp
 split at hp
 ·obtain⟨v,rfl,r⟩:=rs.one
  exact .inl ⟨_,by rw[Rep.Do.mp r],hp H (Same.refl H) _ (Rep.GA _)⟩
 ·obtain⟨v,rfl,r⟩:=rs.one
  exact .inr ⟨_,by rw[Rep.Gc.mp r],hp H (Same.refl H) _ (Rep.GA _)⟩
 ·exact hp.elim
def lX:List T->Option (List Bool)
 | [] =>some []
 | .bl k::r=>(lX r).map (k:: ·)
 | _=>none
def kD:List T->Rs T
 | [.lst l] =>match lX l with
  | some ks=> .ok (.bl (ks.all λk=>k))
  | none=> .bad
 | _=> .bad
theorem lW {K:HI}{O:Ow}{H:Hp}:∀{l:List T} {ks:List Bool} {vs:List V} {us:List HL},lX l=some ks->Reps K O H l vs->Vals vs us->us=ks.map Jd
 | [],ks,vs,us,e,r,v=>by cases e;cases Reps.Da.mp r;cases v;rfl
 | t::l,ks,vs,us,e,r,v=>by
  obtain⟨w,ws,rfl,p,q⟩:=Reps.AC.mp r
  cases t with
  | bl k=>
   unfold lX at e
   cases z:lX l with
   | none=>rw[z]at e;cases e
   | some ks'=>
    rw[z]at e;cases e
    cases v with
    | cons v1 v2=>
     cases Rep.Gc.mp p;cases v1
     rw[lW z q v2];rfl
  | _=>cases e
theorem jZ (hc:X.calm=true):CallT X (.builtin "all") kD:=by
 intro pins s σ H O ts vs us Q I hf rs rv hp;unfold kD at hp
 split at hp
 ·obtain⟨v,rfl,r⟩:=rs.one
  split at hp
  ·rename_i ks hk
   obtain⟨a,ws,rfl,n,q,z⟩:=Rep.FB.mp r;obtain⟨u,rfl,ru⟩:=jg rv;cases ru;obtain⟨its,r',pl,hz⟩:=I.list (SqL.of q)
   have hits:=lW hk z r';refine call_all_walk (LL pl.isList ?_)
   have hne:a≠s.heap.objs.size:=λe=>by
    obtain⟨o,ho,_⟩:=pl.isList;rw[e]at ho;exact absurd (Ib ho) (Iz _)
   refine⟨s.heap.objs.size,_,_,_,_,_,λi=>(ks[i]?).getD true,rfl,Walks.list (A:=X.A.in1) (I.ok.hd hc) s.heap.objs.size a hne its.toArray,⟨⟨_,Ie _ rfl,rfl,rfl⟩,?_⟩,?_,?_⟩
   ·obtain⟨o,ho,hh⟩:=pl.isList
    exact⟨o,HN _ ho,hh⟩
   ·intro i v s' Q' E' hP hQ'
    subst hits
    dsimp only at hQ'
    have hP':(ks.map Jd)[i]? =some v:=by simpa using hP
    rw[IQ]at hP'
    cases e:ks[i]? with
    | none=>rw[e]at hP';cases hP'
    | some k=>
     rw[e]at hP' hQ';cases hP';exact Jk hQ'
   ·intro h' tk hk'
    have hlen:its.toArray.size=ks.length:=by rw[hits];simp
    have e:((Js its.toArray.size).all λi=>(ks[i]?).getD true)=(ks.all λk=>k):=by
     rw[hlen];rw[Ls,ID,ID]
     constructor
     ·intro h x hx
      obtain⟨i,hi,rfl⟩:=List.getElem_of_mem hx
      have:=h i (JN.mpr hi)
      simpa [hi]using this
     ·intro h i hi
      have hi':=JN.mp hi
      have:=h ks[i] (J9 hi')
      simpa [hi']using this
    rw[e]
    have I1:Inv X pins σ H { s with heap:=s.heap.push { cls:=.type "list_iterator",data:=.fields #[.ref a,.int 0 0] } }:=I.kept (t':=s.toks) λb o e=>HN _ e
    have I2:Inv X pins σ H { s with heap:=h',toks:=tk }:=by
     have:=I1.turned (h':=h') (t':=tk) (it:=s.heap.objs.size) (λb o hb e=>hk' b o (by simpa using hb) e) (I.hok.fresh (Ia _))
      (LP I.lt) (.inr I.sz) (λx c e z=> ?_) (λp hp z=> ?_)
     ·exact this
     ·obtain⟨v,q⟩:=I.cell x c e
      exact absurd (Ig q.lt (KL z.symm)) (Iz _)
     ·exact absurd (Ig (Ib (I.pin p hp).1) (KL z.symm)) (Iz _)
    exact⟨.bl _,H,I2,rfl,hp H (Same.refl H) _ (Rep.bl_ _)⟩
  ·exact hp.elim
 ·exact hp.elim
end
def qi (i b t l s:Bool)(Ty:String):Option Bool:=match Ty with
 | "int" =>some i | "bool" =>some b | "tuple" =>some t | "list" =>some l | "str" =>some s
 | _=>none
def sS (n Ty:String):Option Bool:=match n with
 | "NoneType" =>qi false false false false false Ty
 | "bool" =>qi true true false false false Ty
 | "int" =>qi true false false false false Ty
 | "str" =>qi false false false false true Ty
 | "tuple" =>qi false false true false false Ty
 | "list" =>qi false false false true false Ty
 | _=>none
theorem uz (K:HI){n Ty:String}{b:Bool}(h:sS n Ty=some b):PySem.W.kitOne K (.type n) (.type Ty)=some b:=by
 unfold sS at h
 split at h <;> first | (cases h;done) | (unfold qi at h;split at h <;> first | (cases h;done) | (cases h;kernel_rfl))
def yh (Ty:String)(t:T):Rs T:=match t.ty with
 | some n=>match sS n Ty with
  | some b=> .ok (.bl b)
  | none=> .bad
 | none=> .bad
theorem Rep.HB {K:HI}{O:Ow}{H:Hp}{t:T}{v:V}{n:String}(r:Rep K O H t v)(h:t.ty=some n):j6 K H v (.type n):=by
 cases t with
 | non=>cases h;cases Rep.GC.mp r;exact .non
 | bl b=>cases h;cases Rep.Gc.mp r;exact .bl b
 | int b=>cases h;cases Rep.Do.mp r;exact .int b
 | str b=>cases h;cases Rep.FS.mp r;exact .str b
 | tup l=>cases h;obtain⟨a,vs,rfl,_,q,_⟩:=Rep.Fk.mp r;exact .tup q
 | lst l=>cases h;obtain⟨a,vs,rfl,_,q,_⟩:=Rep.FB.mp r;exact .lst q
 | scr l=>cases h
 | dct _ _=>cases h
 | ob _ _ _=>cases h
section
variable {X:Cx}{a b c e:Expr}{es:List Expr}{fa fb fc:En->Rs T}{fs:En->Rs (List T)}{pos p p2:Pos}{x:Str}
theorem eO:IC "isinstance" =some (.builtin "isinstance"):=by decide+kernel
theorem EL {tn:Str}{Ty:String}(hm:X.mg "isinstance" =none)(hmt:X.mg tn=none)(hv:IC tn=some (.type Ty))(ha:cL X a fa)(hg:autoParam (Gl X "isinstance") u_)(hgt:autoParam (Gl X tn) u_)
  (hn:autoParam (tn≠ "__name__") s_) (hd:autoParam ((tn == ("__debug__" : Str))=false) s_)
  (he:autoParam (Ik [a,.Name tn p2] X.env=(false,eval a X.env)::Ik [.Name tn p2] X.env) u_) (hpl:autoParam ((backTo pos (Ik [.Name tn p2] X.env)).any (·.1)=false) u_)
  (hs:autoParam (Ik [.Name tn p2] X.env=(false,eval (.Name tn p2) X.env)::Ik [] X.env) u_) :
  cL X (.Call (.Name "isinstance" p) [a,.Name tn p2] [] pos) (o1 (yh Ty) fa):=by
 intro pins s σ H Q I ⟨ρ,O,E,hq⟩;refine Jw (dX I hg hm eO ?_ (by decide) (by decide))
 have hA:PA X [a,.Name tn p2] (jn (tP X fa) (jn (tC (.ty Ty)) vH)):=b9 ha (b9 (sy (v:=.ty Ty) hgt hmt hv rfl hn hd) fD hs) he;obtain⟨ρ1,O1,E1,h1⟩:=aI E hq;refine J2 (bF (hA pos pins s σ H (λvs H'=> ∃v t,vs= [v,.ty Ty]/\Rep X.K O H' t v/\Post X H' (yh Ty t) (λt H'=> ∀v,Rep X.K O H' t v->Q v H')) I ?_) λus s1 ⟨vs,H1,I1,r1,v,t,e1,rt,q⟩=> ?_) he hpl
 ·refine⟨ρ1,O1,E1,Post.mono h1 λts H1 s1 q vs r=> ?_⟩
  obtain⟨t',r',s',E',q'⟩:=q vs r;exact⟨vs,t',rfl,r',q'⟩
 ·subst e1
  obtain⟨u,w',rfl,ru,rw'⟩:=vg r1;cases rw';unfold yh at q
  split at q
  ·rename_i n hn'
   split at q
   ·rename_i bb hb
    exact uw I1 ru (rt.HB hn') (uz _ hb) λtk=>⟨.bl bb,H1,I1.tok _,rfl,q H1 (Same.refl H1) _ (Rep.bl_ _)⟩
   ·exact q.elim
  ·exact q.elim
def spP (K:HI)(n:Nat)(g:List T->Rs T):Sp:=λvs H Q _=> ∃ts O,Reps K O H ts vs/\(∀a,O a->Mtb H a)/\ts.length=n ∧
 match g ts with
 | .ok t=> ∀v H',Same H H'->Rep K O H' t v->Q v H'
 | _=>False
def RzC (P:Ip)(w:IV)(mg:Str->Option HL)(outer:List Env)(H:Hp)(s:HJ)(c:Str)(ev:HL)(s':HJ):Prop:=
 ∃e T C H',ev= .ref e/\mg c=some (.ref C)/\s'.os=s.os/\NK s'.gens/\Un (iX outer) [] H H' s.heap s'.heap/\HOk P w H' s'.heap/\Same H H'/\H' e=none/\s.heap.get? e=none/\Flt s'.heap C e (some T)/\H' T=none/\s.heap.get? T=none
def FnX (P:Ip)(w:IV)(K:HI)(mg:Str->Option HL)(base:Heap)(k:Nat)(f:Addr)(fd:Je)(ps:List Str)(n:Nat)(g:List T->Rs T):Prop:=
 ∀(A:IE) (outer:List Env) (s:HJ) (H:Hp) (args:Args) (us:List HL) (vs:List V) (O:Ow) (ts:List T) (c:Str) (R:LH->HJ->Prop),Room k A->mK P w K mg base A outer s H->Na s fd args (ps.zip us)->Vals vs us →
  Reps K O H ts vs->(∀a,O a->Mtb H a)->ts.length=n->g ts= .err c->(∀ev s',RzC P w mg outer H s c ev s'->R (.error ev) s')->codeAny (model P w) A (.call (.ref f) args) R s
structure DJ (P:Ip)(w:IV)(K:HI)(mg:Str->Option HL)(base:Heap)(k:Nat)(f:Addr)(fd:Je)(ps:List Str)(n:Nat)(g:List T->Rs T):Prop where
 h:uN P w K mg base CX0 k f fd ps (spP K n g)
 x:FnX P w K mg base k f fd ps n g
theorem wJ {P:Ip}{w:IV}{H:Hp}{h:Heap}{a:Addr}{o:HO}(x:ObjOk P w H h a o):∃u,h.get? a=some u:=by
 cases o with
 | lst xs=>obtain⟨_,_,_,_,e⟩:=x;exact⟨_,e⟩
 | tup xs=>obtain⟨_,_,_,ob,e,_⟩:=x;exact⟨_,e⟩
 | dK kvs=>obtain⟨_,_,_,_,o,_,_,e,_⟩:=x;exact⟨_,e⟩
 | dT kvs=>obtain⟨_,_,_,_,o,_,_,e,_⟩:=x;exact⟨_,e⟩
 | set S n=>obtain⟨o,_,_,_,e,_⟩:=x;exact⟨_,e⟩
 | ins C dx fs=>obtain⟨_,_,_,e,_⟩:=x;exact⟨_,e⟩
 | own y=>obtain⟨_,e⟩:=x;exact⟨_,e⟩
 | xd fs=>obtain⟨_,⟨_,_,_,e,_⟩,_⟩:=x;exact⟨_,e⟩
 | rng lo hi=>obtain⟨_,_,_,e⟩:=x;exact⟨_,e⟩
 | frz ob u=>obtain⟨e,_⟩:=x;exact⟨_,e⟩
 | tbl ps=>exact⟨_,(show h.get? a=some _ from x)⟩
 | met f y=>exact⟨_,(show h.get? a=some _ from x)⟩
 | ext φ=>obtain⟨_,⟨_,e⟩,_⟩:=x;exact⟨_,e⟩
theorem fS {X:Cx}{pins:List (Addr×Obj)}{σ:L2.St}{H:Hp}{s:HJ}(I:Inv X pins σ H s){e:Addr}(n:s.heap.get? e=none):H e=none:=by
 cases z:H e with
 | none=>rfl
 | some o=>
  obtain⟨o',ho'⟩:=wJ (I.hok e o z);rw[n]at ho';cases ho'
theorem fE {X:Cx}{pins:List (Addr×Obj)}{σ:L2.St}{H:Hp}{s:HJ}(I:Inv X pins σ H s)(hex:X.ex= []){e:Addr}(n:s.heap.get? e=none):X.s₀.heap.get? e=none:=by
 cases z:X.s₀.heap.get? e with
 | none=>rfl
 | some o=>
  obtain⟨o',ho'⟩:=I.base.there e o z (by rw[hex];simp)
  rw[n]at ho';cases ho'
theorem Cd {n k:Nat}{f:Addr}{fd:Je}{ps:List Str}{g:List T->Rs T}(F:DJ X.prog X.w X.K X.mg X.base k f fd ps n g)(hr:Room k X.A)(hm:X.mg x=some (.ref f))(hk:KR X.K (.ref f)=true)(hb:Binds X.K fd ps [])(hps:ps.length=n)
  (hl:∀ρ ts,fs ρ= .ok ts->ts.length=n) (ha:o4 X (e::es) fs) (hg:autoParam (Gl X x) u_) (hdb:autoParam ((x == ("__debug__" : Str))=false) s_) (he:autoParam (Ik (e::es) X.env=(false,eval e X.env)::Ik es X.env) u_) (hpl:autoParam ((backTo pos (Ik es X.env)).any (·.1)=false) u_) :
  cL X (.Call (.Name x p) (e::es) [] pos) (cl g fs):=by
 intro pins s σ H Q I ⟨ρ,O,E,hq⟩
 have hq':Post X H (fs ρ >>= g) λt H'=> ∀v,Rep X.K O H' t v->Q v H':=hq
 cases q:fs ρ with
 | bad=>rw[q]at hq';exact hq'.elim
 | err c=>
  rw[q]at hq';refine sv (E:=E0) F.h hr hg hm hk hb .nil wz ha hdb he hpl pins s σ H Q I ⟨ρ,O,E,?_⟩
  rw[q]
  exact hq'
 | ok ts=>
  rw[q]at hq'
  have hq2:Post X H (g ts) λt H'=> ∀v,Rep X.K O H' t v->Q v H':=hq'
  cases q2:g ts with
  | bad=>rw[q2]at hq2;exact hq2.elim
  | ok t=>
   rw[q2]at hq2;refine sv (E:=E0) F.h hr hg hm hk hb .nil wz ha hdb he hpl pins s σ H Q I ⟨ρ,O,E,?_⟩
   rw[q];intro H1 s1 vs rs;rw[Jc];refine⟨ts,O,rs,(E.same s1).mtb,hl ρ ts q,?_⟩
   rw[q2]
   exact λv H' s2 r=>hq2 H' (s1.trans s2) v r
  | err c=>
   rw[q2]at hq2;refine Jw (gf I hg hm ?_ hdb)
   refine Mt (h₀:=X.base) I.ok.mod.kin hk (bF (ha pos pins s σ H (λvs H'=>Same H H'/\Reps X.K O H' ts vs) I ⟨ρ,O,E,?_⟩) (λus s1 ⟨vs,H1,I1,r,sm,rs⟩=>⟨I1.kIn,?_⟩)) he hpl
   ·rw[q];exact λH' sm vs rs=>⟨sm,rs⟩
   ·have hlen:us.length=ps.length:=by rw[<-r.length,<-rs.length,hl ρ ts q,hps]
    have hb':=hb s1 us I1.kIn (by rw[Jc];exact hlen)
    rw[Jc]at hb';refine wpAny_call (Pr (F.x X.A X.stack s1 H1 ⟨us,[]⟩ us vs O ts c (λr s'=>match r with | .error ev=>X.xe ev s' | _=>False) hr I1.G1 hb' r rs (E.same sm).mtb (hl ρ ts q) q2 λev s' w=> ?_) λr s' hq=> ?_)
    ·obtain⟨ea,T,C,H',rfl,hmc,ho,hbare,hun,hok,sm2,hea,heo,fl,hT,hTo⟩:=w
     have I2:Inv X pins σ H' s':=I1.GT ho hun hok hbare (λb z=>absurd z (by simp))
     exact hq2 pins _ _ ⟨ea,some T,C,σ,H',rfl,hmc,I2,λb o q _=>sm2 b o (sm b o q),hea,λhex=>fE I1 hex heo,fl,(λt zt=>by cases zt;exact⟨hT,λhex=>fE I1 hex hTo⟩),λpp hpp=>⟨λzz=>(by have:=(I1.pin pp hpp).1;rw[zz,heo]at this;cases this),λzz=>(by cases zz;have:=(I1.pin pp hpp).1;rw[hTo]at this;cases this)⟩⟩
    ·cases r with
     | error ev=>exact hq
     | ok fl=>exact hq.elim
def yg (X:Cx)(g:T->En->Rs En):TG:=λv σ H Q=> ∃ρ O M t,EnvM X.K O M H ρ σ/\Rep X.K O H t v/\match g t ρ with
 | .ok ρ'=> ∀σ',EnvM X.K O M H ρ' σ'->Q σ' H
 | _=>False
abbrev uT (X:Cx)(tg:Expr)(g:T->En->Rs En):Prop:=PG X tg (yg X g)
def tPGs (X:Cx)(g:List T->En->Rs En):AB:=λvs σ H Q=> ∃ρ O M ts,EnvM X.K O M H ρ σ/\Reps X.K O H ts vs/\match g ts ρ with
 | .ok ρ'=> ∀σ',EnvM X.K O M H ρ' σ'->Q σ' H
 | _=>False
abbrev yd (X:Cx)(tg:List Expr)(g:List T->En->Rs En):Prop:=PGs X tg (tPGs X g)
theorem PG.imp {X:Cx}{e:Expr}{t t':TG}(h:PG X e t)(w:∀v σ H Q,t' v σ H Q->t v σ H Q):PG X e t':=λpins s σ H v u Q I r q=>h pins s σ H v u Q I r (w v σ H Q q)
theorem PGs.imp {X:Cx}{e:List Expr}{t t':AB}(h:PGs X e t)(w:∀v σ H Q,t' v σ H Q->t v σ H Q):PGs X e t':=λpins s σ H v u Q I r q=>h pins s σ H v u Q I r (w v σ H Q q)
def gN (i:Nat)(t:T)(ρ:En):Rs En:=if i<ρ.length then .ok (ρ.set i (.va t))else .bad
theorem EnvM.set {K:HI}{O:Ow}{M:Mn}{H:Hp}{ρ:En}{σ:L2.St}{i:Nat}{t:T}{v:V}(E:EnvM K O M H ρ σ)(hi:i<ρ.length)(r:Rep K O H t v):EnvM K O M H (ρ.set i (.va t)) (σ.set i (some v)) where
 len:=by rw[JQ,JQ];exact E.len
 val:=λj u e=>by
  by_cases hj:i=j
  ·subst hj
   rw[IJ hi]at e
   cases e;exact⟨v,IJ (by rw[<-E.len];exact hi),r⟩
  ·rw[IH hj]at e
   obtain⟨w,e1,e2⟩:=E.val j u e;exact⟨w,by rw[IH hj];exact e1,e2⟩
 own:=λj o e=>by
  by_cases hj:i=j
  ·subst hj
   rw[IJ hi]at e
   cases e
  ·rw[IH hj]at e
   obtain⟨w,e1,e2⟩:=E.own j o e;exact⟨w,by rw[IH hj];exact e1,e2⟩
 sub:=E.sub
 dis:=E.dis
 trk:=E.trk
theorem yX (i:Nat)(hN:X.N.Nodup)(hi:autoParam (X.N[i]? =some x) u_)(hx:autoParam (Loc X.env.scope x) y_)(hf:autoParam (X.fn x=true\/X.env.scope.names.lookup x=some .local) r_):uT X (.Name x pos) (gN i):=
 PG.imp (zh hN hi hx hf) λv σ H Q hh_=>by
  obtain⟨ρ,O,M,t,E,r,h⟩:=hh_;unfold gN at h
  split at h
  ·rename_i ρ' e
   split at e
   ·rename_i hl
    cases e;exact h _ (E.set hl r)
   ·cases e
  ·exact h.elim
def uB (ts:List T)(ρ:En):Rs En:=match ts with
 | [] => .ok ρ
 | _=> .bad
def kB (g:T->En->Rs En)(gs:List T->En->Rs En)(ts:List T)(ρ:En):Rs En:=match ts with
 | t::r=>do
  let ρ1 <-g t ρ
  gs r ρ1
 | [] => .bad
theorem yW:yd X [] uB:=PGs.imp zg λvs σ H Q hh_=>by
 obtain⟨ρ,O,M,ts,E,r,h⟩:=hh_;unfold uB at h
 cases ts with
 | nil=>exact⟨Reps.Da.mp r,h σ E⟩
 | cons _ _=>exact h.elim
theorem vY {g:T->En->Rs En}{gs:List T->En->Rs En}(h1:uT X e g)(h2:yd X es gs)
  (hs:autoParam ((JA (e::es) X.env).map (·.2)=assign e X.env::(JA es X.env).map (·.2)) u_):yd X (e::es) (kB g gs):=
 PGs.imp (wg h1 h2 hs) λvs σ H Q hh_=>by
  obtain⟨ρ,O,M,ts,E,r,h⟩:=hh_
  cases ts with
  | nil=>exact h.elim
  | cons t ts=>
   obtain⟨v,ws,rfl,p,q⟩:=Reps.AC.mp r;refine⟨v,ws,rfl,ρ,O,M,t,E,p,?_⟩
   unfold kB at h
   cases e1:g t ρ with
   | bad=>simp[e1]at h
   | err c=>simp[e1]at h
   | ok ρ1=>
    intro σ1 E1;refine⟨ρ1,O,M,ts,E1,q,?_⟩
    simp only[e1,aC]at h
    cases e2:gs ts ρ1 with
    | bad=>simp[e2]at h
    | err c=>simp[e2]at h
    | ok ρ2=>
     simp only[e2]at h;exact λσ2 E2=>h σ2 E2
def gT (n:Nat)(gs:List T->En->Rs En)(t:T)(ρ:En):Rs En:=match t with
 | .tup l=>if l.length=n then gs l ρ else .bad
 | _=> .bad
theorem B9 {k n:Nat}{gs:List T->En->Rs En}(hc:X.calm=true)(h:yd X es gs)(hn:autoParam ((JA es X.env).length=n) u_)(hst:autoParam ((JA es X.env).findIdx? (·.1)=none) u_):uT X (.Tuple es k pos) (gT n gs):=
 PG.imp (Cj hc h hn hst) λv σ H Q hh_=>by
  obtain⟨ρ,O,M,t,E,r,h⟩:=hh_;unfold gT at h
  cases t with
  | tup l=>
   obtain⟨a,vs,rfl,n',q,z⟩:=Rep.Fk.mp r
   by_cases hl:l.length=n
   ·simp only[if_pos hl]at h
    exact⟨a,vs,rfl,SqT.of q,by rw[<-z.length];exact hl,ρ,O,M,l,E,z,h⟩
   ·simp only[if_neg hl]at h
  | _=>exact h.elim
theorem SqL.nn {K:HI}{H:Hp}{a:Addr}{vs:List V}(q:SqL K H a vs):¬ Nw K H a:=λ⟨h1,h2⟩=>by
 rcases q with(q | ⟨o,q⟩) | ⟨o,_,_,q,_⟩
 ·rw[h1]at q;cases q
 ·rw[h1]at q;cases q
 ·rw[h2]at q;cases q
mutual
theorem Rep.more {K:HI}{O O':Ow}{H:Hp}(sub:∀a,O' a->O a\/Nw K H a):∀{t:T} {v:V},Rep K O H t v->Rep K O' H t v
 | .non,_,r=>by unfold Rep at r ⊢;exact r
 | .bl _,_,r=>by unfold Rep at r ⊢;exact r
 | .int _,_,r=>by unfold Rep at r ⊢;exact r
 | .str _,_,r=>by unfold Rep at r ⊢;exact r
 | .tup l,_,r=>by
  unfold Rep at r ⊢;obtain⟨a,vs,e,n,q,z⟩:=r
  exact⟨a,vs,e,λp=>(sub a p).elim n λw=>(by rw[w.1]at q;cases q),q,Reps.more sub z⟩
 | .lst l,_,r=>by
  unfold Rep at r ⊢;obtain⟨a,vs,e,n,q,z⟩:=r
  exact⟨a,vs,e,λp=>(sub a p).elim n λw=>(by rw[w.1]at q;cases q),q,Reps.more sub z⟩
 | .scr l,_,r=>by
  unfold Rep at r ⊢;obtain⟨a,e,n,q⟩:=r
  exact⟨a,e,λp=>(sub a p).elim n λw=>Tr.SqL.nn q w,q⟩
 | .dct ks ts,_,r=>by
  unfold Rep at r ⊢;obtain⟨a,kvs,e,n,q,k,z⟩:=r
  exact⟨a,kvs,e,λp=>(sub a p).elim n λw=>(by rcases q with q | ⟨_,q⟩ <;> rw[w.1]at q <;> cases q),q,k,Reps.more sub z⟩
 | .ob C ns ts,_,r=>by
  unfold Rep at r ⊢;obtain⟨a,dx,fs,e,n,q,k,z⟩:=r;exact⟨a,dx,fs,e,⟨⟨λp=>(sub a p).elim n.1.1 λw=>(by rw[w.1]at q;cases q),λp=>(sub dx p).elim n.1.2.1 λw=>(by have:=n.1.2.2;rw[w.1]at this;cases this),n.1.2.2⟩,n.2⟩,q,k,Reps.more sub z⟩
theorem Reps.more {K:HI}{O O':Ow}{H:Hp}(sub:∀a,O' a->O a\/Nw K H a):∀{l:List T} {vs:List V},Reps K O H l vs->Reps K O' H l vs
 | [],_,r=>by unfold Reps at r ⊢;exact r
 | t::l,_,r=>by
  unfold Reps at r ⊢;obtain⟨v,ws,e,p,q⟩:=r;exact⟨v,ws,e,Rep.more sub p,Reps.more sub q⟩
end
theorem Rep.move {K:HI}{O O' P:Ow}{H H':Hp}{t:T}{v:V}(hP:∀a,P a->O a\/Nw K H a)(hO:∀a,O' a->O a\/Nw K H a)(h:SameO P H H')(r:Rep K O H t v):Rep K O' H' t v:=
 Rep.less (O:=λa=>O' a\/P a) (λ_ z=> .inl z) (Rep.keep h (λ_ z=> .inr z) (Rep.more (λa z=>z.elim (hO a) (hP a)) r))
theorem Reps.move {K:HI}{O O' P:Ow}{H H':Hp}{t:List T}{v:List V}(hP:∀a,P a->O a\/Nw K H a)(hO:∀a,O' a->O a\/Nw K H a)(h:SameO P H H')(r:Reps K O H t v):Reps K O' H' t v:=
 Reps.less (O:=λa=>O' a\/P a) (λ_ z=> .inl z) (Reps.keep h (λ_ z=> .inr z) (Reps.more (λa z=>z.elim (hO a) (hP a)) r))
def ItT (K:HI)(O:Ow)(H:Hp)(ts:List T)(J:It):Prop:=∀(P O':Ow),(∀a,P a->O a\/Nw K H a)->(∀a,O' a->O a\/Nw K H a)->∀(i:Nat) (Hc:Hp),SameO P H Hc->(∀a,O' a->∃o,Hc a=some o) →
 (ts.length<=i->J.stop i Hc)/\(∀t,ts[i]? =some t->J.go i Hc/\∀x Hc',J.yld i Hc x Hc'->Same Hc Hc'/\Rep K O' Hc' t x)
def Ge (X:Cx)(f:En->Rs (List T)):TI:=λσ H R=> ∃ρ O,EnvO X.K O H ρ σ/\Post X H (f ρ) λts H'=> ∀J,ItT X.K O H' ts J->R J H'
abbrev yc (X:Cx)(tg iter:Expr)(f:En->Rs (List T)):Prop:=PI X tg iter (Ge X f)
theorem PI.imp {tg iter:Expr}{t t':TI}(h:PI X tg iter t)(w:∀σ H R,t' σ H R->t σ H R):PI X tg iter t':=λpins s σ H R I q=>h pins s σ H R I (w σ H R q)
def iL (f:En->Rs T)(ρ:En):Rs (List T):=do
 let x <-f ρ
 match x with
 | .lst l=> .ok l
 | _=> .bad
def iT (f:En->Rs T)(ρ:En):Rs (List T):=do
 let x <-f ρ
 match x with
 | .tup l=> .ok l
 | _=> .bad
theorem sh {tg:Expr}(ha:cL X a fa):yc X tg a (iL fa):=PI.imp (ze ha) λσ H R hh_=>by
 obtain⟨ρ,O,E,h⟩:=hh_;obtain⟨ρ1,O1,E1,h1⟩:=aI E h;refine⟨ρ1,O1,E1,Post.mono h1 λts H1 s1 q vs r=> ?_⟩
 obtain⟨t',r',s',E',q'⟩:=q vs r
 split at q'
 ·rename_i l
  obtain⟨a,ws,rfl,n,q,z⟩:=Rep.FB.mp r';refine⟨a,rfl,⟨ws,SqL.of q⟩,q' H1 (Same.refl H1) _ λP O' hP hO i Hc hs ht=> ?_⟩
  have hnP:¬ P a:=λz=>(hP a z).elim n λw=>by rw[w.1]at q;cases q
  refine⟨λhi=>⟨ws,SqL.of (hs _ _ q hnP),by rw[<-z.length];exact hi⟩,λt ht'=> ?_⟩
  obtain⟨v,e1,e2⟩:=z.get ht';refine⟨⟨ws,v,SqL.of (hs _ _ q hnP),e1⟩,λx Hc' y=> ?_⟩
  obtain⟨e,y⟩:=y;subst e
  have:=y ws (SqL.of (hs _ _ q hnP));rw[e1]at this;cases this;exact⟨Same.refl _,e2.move hP hO hs⟩
 ·exact q'.elim
theorem B7 {tg:Expr}(ha:cL X a fa):yc X tg a (iT fa):=PI.imp (Ci ha) λσ H R hh_=>by
 obtain⟨ρ,O,E,h⟩:=hh_;obtain⟨ρ1,O1,E1,h1⟩:=aI E h;refine⟨ρ1,O1,E1,Post.mono h1 λts H1 s1 q vs r=> ?_⟩
 obtain⟨t',r',s',E',q'⟩:=q vs r
 split at q'
 ·rename_i l
  obtain⟨a,ws,rfl,n,q,z⟩:=Rep.Fk.mp r';refine⟨a,rfl,⟨ws,SqT.of q⟩,q' H1 (Same.refl H1) _ λP O' hP hO i Hc hs ht=> ?_⟩
  have hnP:¬ P a:=λz=>(hP a z).elim n λw=>by rw[w.1]at q;cases q
  refine⟨λhi=>⟨ws,SqT.of (hs _ _ q hnP),by rw[<-z.length];exact hi⟩,λt ht'=> ?_⟩
  obtain⟨v,e1,e2⟩:=z.get ht';refine⟨⟨ws,v,SqT.of (hs _ _ q hnP),e1⟩,λx Hc' y=> ?_⟩
  obtain⟨e,y⟩:=y;subst e
  have:=y ws (SqT.of (hs _ _ q hnP));rw[e1]at this;cases this;exact⟨Same.refl _,e2.move hP hO hs⟩
 ·exact q'.elim
def rng (lo hi:Int):List T:=(Js (hi - lo).toNat).map λ(k:Nat)=>T.int (lo+(k:Int))
def yi (i:Int):Bool:=decide (-(2 ^ 62)<=i)&&decide (i<2 ^ 62)
def iR (f:En->Rs (List T))(ρ:En):Rs (List T):=do
 let x <-f ρ
 match x with
 | [.int j] =>if yi j then .ok (rng 0 j)else .bad
 | [.int i,.int j] =>if yi i&&yi j then .ok (rng i j)else .bad
 | _=> .bad
theorem oG {i:Int}(h:yi i=true) : -(2 ^ 62)<=i/\i<2 ^ 62:=by
 unfold yi at h;rw[HS]at h;exact⟨of_decide_eq_true h.1,of_decide_eq_true h.2⟩
theorem sQ {K:HI}{O:Ow}{H:Hp}(lo hi:Int):ItT K O H (rng lo hi) (Itr lo (hi - lo).toNat):=λP O' hP hO i Hc hs ht=>by
 refine⟨λh=> ?_,λt h=> ?_⟩
 ·show(hi - lo).toNat<=i
  unfold rng at h;rw[HP,Ke]at h;exact h
 ·unfold rng at h
  rw[IQ]at h
  by_cases hi':i<(hi - lo).toNat
  ·rw[N7 hi']at h
   cases h;refine⟨hi',λx Hc' y=> ?_⟩
   obtain⟨e,y⟩:=y;subst e y;exact⟨Same.refl _,Rep.GA _⟩
  ·rw[Kp (by simpa using hi')]at h
   cases h
theorem tX {tg:Expr}(hm:X.mg "range" =none)(ha:o4 X [a] fs)(hg:autoParam (Gl X "range") u_)(hs:autoParam (Ik [a] X.env= [(false,eval a X.env)]) u_):yc X tg (.Call (.Name "range" p) [a] [] pos) (iR fs):=by
 intro pins s σ H R I ⟨ρ,O,E,h⟩
 have h1:=dH E h;refine Call_ (dX I hg hm boot_range (JO (bF (ha pos pins s σ H _ I h1) λus s1 ⟨vs,H1,I1,r1,ts,rs,s',E',q1⟩=> ?_) hs rfl))
 split at q1
 ·obtain⟨v,rfl,r⟩:=rs.one
  split at q1
  ·rename_i j hj
   obtain⟨b1,b2⟩:=oG hj;cases Rep.Do.mp r
   cases r1 with
   | cons r rr=>
    cases rr;obtain⟨t,rfl⟩:=r;exact call_range_1 (pM I1 (by omega) (by omega) b1 b2 (q1 H1 (Same.refl H1) _ (sQ 0 j)))
  ·exact q1.elim
 ·obtain⟨v,ws,rfl,p1,q⟩:=Reps.AC.mp rs
  obtain⟨v2,rfl,r⟩:=q.one
  split at q1
  ·rename_i i j hj
   rw[HS]at hj;obtain⟨b1,b2⟩:=oG hj.1;obtain⟨b3,b4⟩:=oG hj.2;cases Rep.Do.mp p1;cases Rep.Do.mp r
   cases r1 with
   | cons r rr=>
    cases rr with
    | cons r' rr=>
     cases rr;obtain⟨t,rfl⟩:=r;obtain⟨t',rfl⟩:=r';exact call_range_2 (pM I1 b1 b2 b3 b4 (q1 H1 (Same.refl H1) _ (sQ i j)))
  ·exact q1.elim
 ·exact q1.elim
end
section
variable {X:Cx}{a b c e:Expr}{es:List Expr}{fa fb fc:En->Rs T}{fs:En->Rs (List T)}{pos p p2:Pos}{x:Str}
def cq (src:List (Option Nat))(ρ:En):En:=src.map λo=>match o with
 | some i=>match ρ[i]? with
  | some (.va t)=> .va t
  | _=> .em
 | none=> .em
def cx (tgt:T->En->Rs En)(fc:En->Rs Bool)(fe:En->Rs T):List T->En->Rs (List T)
 | [],_=> .ok []
 | t::r,ρ=>do
  let ρ1 <-tgt t ρ
  let k <-fc ρ1
  if k then do
   let y <-fe ρ1
   let ys <-cx tgt fc fe r ρ1
   .ok (y::ys)
  else cx tgt fc fe r ρ1
def fF (fi:En->Rs (List T))(src:List (Option Nat))(tgt:T->En->Rs En)(fc:En->Rs Bool)(fe:En->Rs T)(ρ:En):Rs T:=do
 let ts <-fi ρ
 if ts.length<=sizeLine then match cx tgt fc fe ts (cq src ρ)with
  | .ok ys=> .ok (.lst ys)
  | _=> .bad
 else .bad
def bT (_:En):Rs Bool:=.ok true
def tP0 (K:HI)(f:En->Rs T):TE:=λσ H Q=> ∃ρ O,EnvO K O H ρ σ/\match f ρ with
 | .ok t=> ∀H',Same H H'->∀v,Rep K O H' t v->Q v H'
 | _=>False
def tPT0 (K:HI)(f:En->Rs Bool):TT:=λσ H Q=> ∃ρ O,EnvO K O H ρ σ/\match f ρ with
 | .ok t=> ∀H',Same H H'->Q t H'
 | _=>False
theorem tP0.up {f:En->Rs T}{σ:L2.St}{H:Hp}{Q:VK}(h:tP0 X.K f σ H Q):tP X f σ H Q:=by
 obtain⟨ρ,O,E,h⟩:=h;refine⟨ρ,O,E,?_⟩
 cases q:f ρ with
 | ok t=>rw[q]at h;exact h
 | err c=>rw[q]at h;exact h.elim
 | bad=>rw[q]at h;exact h.elim
theorem tPT0.up {f:En->Rs Bool}{σ:L2.St}{H:Hp}{Q:Bool->Hp->Prop}(h:tPT0 X.K f σ H Q):uR X f σ H Q:=by
 obtain⟨ρ,O,E,h⟩:=h;refine⟨ρ,O,E,?_⟩
 cases q:f ρ with
 | ok t=>rw[q]at h;exact h
 | err c=>rw[q]at h;exact h.elim
 | bad=>rw[q]at h;exact h.elim
theorem yU:qF X [] (uR X bT):=λpins s σ H Q I ⟨ρ,O,E,h⟩=>zd pins s σ H Q I (h H (Same.refl H))
theorem yT {f:En->Rs Bool}(h:yb X c f):qF X [c] (uR X f):=zc h
abbrev noM:Mn:=λ_ _=>False
theorem um {src:List (Option Nat)}{ρ:En}{j:Nat}{o:OT}(e:(cq src ρ)[j]? =some (.ow o)):False:=by
 unfold cq at e;rw[IQ]at e
 cases q:src[j]? with
 | none=>rw[q]at e;cases e
 | some o'=>
  rw[q]at e
  cases o' with
  | none=>cases e
  | some i=>
   have e':(match ρ[i]? with | some (Sl.va t)=>Sl.va t | _=>Sl.em)=Sl.ow o:=IT e
   split at e' <;> cases e'
theorem w6 {K:HI}{O:Ow}{H:Hp}{ρ:En}{σ:L2.St}(E:EnvO K O H ρ σ)(src:List (Option Nat)):EnvM K O noM H (cq src ρ) (c9 src σ) where
 len:=by unfold cq c9;rw[HP,HP]
 val:=λj t e=>by
  unfold cq at e;unfold c9;rw[IQ]at e ⊢
  cases q:src[j]? with
  | none=>rw[q]at e;cases e
  | some o=>
   rw[q]at e
   cases o with
   | none=>cases e
   | some i=>
    have e':(match ρ[i]? with | some (Sl.va t)=>Sl.va t | _=>Sl.em)=Sl.va t:=IT e
    cases q2:ρ[i]? with
    | none=>rw[q2]at e';cases e'
    | some z=>
     rw[q2]at e'
     cases z with
     | em=>cases e'
     | ow l=>cases e'
     | va t'=>
      cases e';obtain⟨v,e1,e2⟩:=E.val i _ q2;exact⟨v,by simp[e1],e2⟩
 own:=λj o e=>(um e).elim
 sub:=λ_ _ z=>z.elim
 dis:=λ_ _ _ z=>z.elim
 trk:=E.mtb
theorem ORep.no {K:HI}{O:Ow}{H:Hp}{o:OT}{v:V}(r:ORep K O wQ H o v):False:=by
 cases o with
 | lst l=>obtain⟨a,_,_,e,_⟩:=r;exact(e a).mpr rfl
 | dct ks ts=>obtain⟨a,_,_,e,_⟩:=r;exact(e a).mpr rfl
 | dd ks rows=>obtain⟨a,_,_,_,e,_⟩:=r;exact(e a).mpr (.inl rfl)
 | ob C ns ls=>obtain⟨a,_,_,_,e,_⟩:=r;exact(e a).mpr (.inl rfl)
 | ll ls=>obtain⟨a,_,_,e,_⟩:=r;exact(e a).mpr (.inl rfl)
theorem EnvM.move {K:HI}{O O' P:Ow}{H H':Hp}{ρ:En}{σ:L2.St}(E:EnvM K O noM H ρ σ)(hP:∀a,P a->O a\/Nw K H a)(hO:∀a,O' a->O a\/Nw K H a)(h:SameO P H H')(trk:∀a,O' a->Mtb H' a):EnvM K O' noM H' ρ σ where
 len:=E.len
 val:=λi t e=>let ⟨v,e1,e2⟩:=E.val i t e;⟨v,e1,e2.move hP hO h⟩
 own:=λi o e=>let ⟨_,_,r⟩:=E.own i o e;r.no.elim
 sub:=λ_ _ z=>z.elim
 dis:=λ_ _ _ z=>z.elim
 trk:=trk
def DF (fi:En->Rs (List T))(src:List (Option Nat))(tgt:T->En->Rs En)(fc:En->Rs Bool)(fe:En->Rs T)(ρ:En):Rs (List T):=fi ρ >>= λts=>if ts.length<=sizeLine then(match cx tgt fc fe ts (cq src ρ)with | .ok ys=>Rs.ok ys | _=> .bad)else .bad
theorem w4 {src:List (Option Nat)}{fi:En->Rs (List T)}{tgt:T->En->Rs En}{fc:En->Rs Bool}{fe:En->Rs T}{ρ:En}:fF fi src tgt fc fe ρ=DF fi src tgt fc fe ρ >>= λl=> .ok (.lst l):=by
 unfold fF DF
 cases fi ρ with
 | bad=>rfl
 | err c=>rfl
 | ok ts=>
  rw[aC,aC]
  by_cases hz:ts.length<=sizeLine
  ·rw[if_pos hz,if_pos hz]
   cases cx tgt fc fe ts (cq src ρ) <;> rfl
  ·rw[if_neg hz,if_neg hz];rfl
abbrev LcW (K:HI)(O':Ow)(D:Addr)(H1:Hp)(ts:List T)(tgt:T->En->Rs En)(fc:En->Rs Bool)(fe:En->Rs T)(all:List T)(i m:Nat)(σ':L2.St)(ys:List V)(H':Hp):Prop:=m=ts.length - i/\i<=ts.length/\ys.length<=i/\H' D=some (.lst ys)/\SameO (λa=>a=D) (cz H1 D (.lst [])) H'/\∃ρ' yts zs,EnvM K O' noM H' ρ' σ'/\Reps K O' H' yts ys/\cx tgt fc fe (ts.drop i) ρ'= .ok zs/\yts++zs=all
theorem LcW.use {K:HI}{O':Ow}{D:Addr}{H1 H':Hp}{ts all:List T}{tgt:T->En->Rs En}{fc:En->Rs Bool}{fe:En->Rs T}{i m:Nat}{σ':L2.St}{ys:List V}(w:LcW K O' D H1 ts tgt fc fe all i m σ' ys H'){Pp:Prop}(k:m=ts.length - i->i<=ts.length->ys.length<=i->H' D=some (.lst ys)->SameO (λa=>a=D) (cz H1 D (.lst [])) H'->∀ρ' yts zs,EnvM K O' noM H' ρ' σ'->Reps K O' H' yts ys->cx tgt fc fe (ts.drop i) ρ'= .ok zs->yts++zs=all->Pp):Pp:=by
 obtain⟨a1,a2,a3,a4,a5,ρ',yts,zs,b1,b2,b3,b4⟩:=w;exact k a1 a2 a3 a4 a5 ρ' yts zs b1 b2 b3 b4
theorem wY {src:List (Option Nat)}{fi:En->Rs (List T)}{tgt:T->En->Rs En}{fc:En->Rs Bool}{fe:En->Rs T}{σ:L2.St}{H:Hp}{Q:VK}{ρ:En}{O:Ow}(E:EnvO X.K O H ρ σ)
  (hq1:Post X H (DF fi src tgt fc fe ρ) λall H1=> ∀D ys H',Nw X.K H1 D->Same H1 H'->H' D=some (.lst ys)->Reps X.K (λa=>O a\/a=D) H' all ys->Q (.ref D) H'):BC X.K (Ge X fi) src (yg X tgt) (tPT0 X.K fc) (tP0 X.K fe) σ H Q:=by
 unfold DF at hq1;refine⟨ρ,O,E,Post.mono hq1.bind λts H1 s1 q1 J hJ D hD hK=> ?_⟩
 have E1:=E.same s1
 by_cases hz:ts.length<=sizeLine
 ·rw[if_pos hz]at q1
  cases hall:cx tgt fc fe ts (cq src ρ)with
  | bad=>rw[hall]at q1;exact q1.elim
  | err c=>rw[hall]at q1;exact q1.elim
  | ok all=>
   rw[hall]at q1
   have q2:∀D ys H',Nw X.K H1 D->Same H1 H'->H' D=some (.lst ys)->Reps X.K (λa=>O a\/a=D) H' all ys->Q (.ref D) H':=q1 H1 (Same.refl H1)
   have nD:Nw X.K H1 D:=⟨hD,hK⟩
   let O':Ow:=λa=>O a\/a=D
   have subO:∀a,O' a->O a\/Nw X.K H1 a:=λa z=>z.elim .inl λw=> .inr (w▸nD)
   -- the walk's word
   refine⟨LcW X.K O' D H1 ts tgt fc fe all,⟨ts.length,?_⟩,?_⟩
   ·have sN:Same H1 (cz H1 D (.lst [])):=aV hD _
    refine⟨by omega,IZ _,Ia _,aU,λb o e _=>e,cq src ρ,[],all,?_,Reps.Gz,by simpa using hall,rfl⟩
    have E2:EnvM X.K O noM H1 (cq src ρ) (c9 src σ):=w6 E1 src
    exact E2.move (P:=λa=>a=D) (λa z=> .inr (z▸nD)) subO (λb o e _=>sN b o e) λa z=>by
     rcases z with z | z
     ·exact(E1.mtb a z).same sN
     ·rw[z];exact .inl ⟨_,aU⟩
   ·refine λi m σ' ys H' w=>w.use λe0 hi' hyl hDl hsm ρ' yts zs E' ry hl hyz=> ?_
    subst e0;refine⟨hDl,?_⟩
    have sm1:SameO (λa=>a=D) H1 H':=λb o e nb=>hsm b o (by rw[aO nb];exact e) nb
    have it:=hJ (λa=>a=D) O' (λa z=> .inr (z▸nD)) subO i H' sm1 (λa z=>(E'.trk a z).some)
    by_cases hlt:i<ts.length
    ·refine .inr ?_
     have hti:ts[i]? =some ts[i]:=by simp
     obtain⟨go,yl⟩:=it.2 ts[i] hti;refine⟨go,by omega,λxx Hc y=> ?_⟩
     obtain⟨sc,rx⟩:=yl xx Hc y
     have Ec:=E'.same sc;rw[JG hlt]at hl;unfold cx at hl;refine⟨ρ',O',noM,ts[i],Ec,rx,?_⟩
     cases e1:tgt ts[i] ρ' with
     | bad=>rw[e1]at hl;cases hl
     | err cc=>rw[e1]at hl;cases hl
     | ok ρ1=>
      rw[e1,aC]at hl;intro σ1 Eg;refine⟨ρ1,O',⟨noM,Eg⟩,?_⟩
      cases e2:fc ρ1 with
      | bad=>rw[e2]at hl;cases hl
      | err cc=>rw[e2]at hl;cases hl
      | ok k=>
       rw[e2,aC]at hl;intro H3 s3
       have E3:=Eg.same s3
       have tot:Same H' H3:=sc.trans s3
       have D3:H3 D=some (.lst ys):=tot _ _ hDl
       have sm3:SameO (λa=>a=D) (cz H1 D (.lst [])) H3:=λb o e nb=>tot _ _ (hsm b o e nb)
       cases k with
       | false=>
        refine L2.iteF ?_
        have hl':cx tgt fc fe (ts.drop (i+1)) ρ1= .ok zs:=by simpa using hl
        exact⟨ts.length - (i+1),by omega,rfl,hlt,by omega,D3,sm3,ρ1,yts,zs,E3,ry.same tot,hl',hyz⟩
       | true=>
        refine L2.iteT ?_
        have hl':(fe ρ1 >>= λy=>cx tgt fc fe (ts.drop (i+1)) ρ1 >>= λys=>Rs.ok (y::ys))= .ok zs:=by simpa using hl
        refine⟨ρ1,O',⟨noM,E3⟩,?_⟩
        cases e3:fe ρ1 with
        | bad=>rw[e3]at hl';cases hl'
        | err cc=>rw[e3]at hl';cases hl'
        | ok yt=>
         rw[e3,aC]at hl'
         cases e4:cx tgt fc fe (ts.drop (i+1)) ρ1 with
         | bad=>rw[e4]at hl';cases hl'
         | err cc=>rw[e4]at hl';cases hl'
         | ok zs'=>
          rw[e4,aC]at hl'
          have hzs:yt::zs'=zs:=by injection hl'
          intro H4 s4 v rv
          have D4:H4 D=some (.lst ys):=s4 _ _ D3
          have E4:=E3.same s4
          have tot4:Same H' H4:=tot.trans s4
          have smD:SameO (λa=>a=D) H4 (cz H4 D (.lst (ys++ [v]))):=λb o e nb=>by rw[aO nb];exact e
          have inO:∀a,a=D->O' a\/Nw X.K H4 a:=λa z=> .inl (.inr z)
          refine⟨D4,ts.length - (i+1),by omega,rfl,hlt,?_,aU,λb o e nb=>smD b o (s4 _ _ (sm3 b o e nb)) nb,ρ1,yts++ [yt],zs',?_,?_,e4,?_⟩
          ·rw[HK,Jm];omega
          ·exact E4.move inO (λa z=> .inl z) smD λaa z=>by
            by_cases hz:aa=D
            ·rw[hz];exact .inl ⟨_,aU⟩
            ·unfold Mtb;rw[aO hz];exact E4.trk aa z
          ·have r1:Reps X.K O' H4 (yts++ [yt]) (ys++ [v]):=(ry.same tot4).append (Reps.Gw rv Reps.Gz)
           exact r1.move inO (λa z=> .inl z) smD
          ·rw[Iq,List.singleton_append,hzs];exact hyz
    ·refine .inl ⟨it.1 (by omega),?_⟩
     have hi2:i=ts.length:=by omega
     subst hi2;rw[LY]at hl
     have hzs:zs= []:=by unfold cx at hl;injection hl with hl;exact hl.symm
     subst hzs;rw[Jc]at hyz;subst hyz
     have sF:Same H1 H':=λb o e=>sm1 b o e λz=>by rw[z,hD]at e;cases e
     exact q2 D ys H' nD sF hDl ry
 ·rw[if_neg hz]at q1
  exact q1.elim
theorem oC {src:List (Option Nat)}{fi:En->Rs (List T)}{tgt:T->En->Rs En}{fc:En->Rs Bool}{fe:En->Rs T}{σ:L2.St}{H:Hp}{Q:VK}(h0:tP X (fF fi src tgt fc fe) σ H Q):BC X.K (Ge X fi) src (yg X tgt) (tPT0 X.K fc) (tP0 X.K fe) σ H Q:=by
 obtain⟨ρ,O,E,hq⟩:=h0;refine wY E ?_
 have e:fF fi src tgt fc fe ρ=DF fi src tgt fc fe ρ >>= λl=> .ok (.lst l):=w4
 rw[e]at hq
 cases q:DF fi src tgt fc fe ρ with
 | bad=>rw[q]at hq;exact hq.elim
 | err c=>rw[q]at hq;exact hq
 | ok l=>
  rw[q,aC]at hq;intro H1 s1 D ys H' nD sD eD rD;exact hq H' (s1.trans sD) _ (Rep.FB.mpr ⟨D,ys,rfl,λz=>(E.same s1).fresh nD.1 z,eD,rD.less λa z=> .inl z⟩)
theorem q_lc {elt tg iter:Expr}{ifs:List Expr}{scope:K2}{N':List Str}{src:List (Option Nat)}{fi:En->Rs (List T)}{tgt:T->En->Rs En}{fc:En->Rs Bool}{fe:En->Rs T}
  (hc:X.calm=true) (S:LcScope X scope N' src) (hi:yc X tg iter fi)
  (block:∀cl C s₀ H₀ fp,uT (aZ X scope cl N' C s₀ H₀ fp) tg tgt/\qF (aZ X scope cl N' C s₀ H₀ fp) ifs (uR (aZ X scope cl N' C s₀ H₀ fp) fc)/\cL (aZ X scope cl N' C s₀ H₀ fp) elt fe)
  (hs:autoParam (∀x,Im iter X.env x=pure x) t_) :
  cL X (.ListComp elt [⟨tg,iter,ifs,0⟩] scope pos) (fF fi src tgt fc fe):=by
 have hPG:∀cl C s₀ H₀ fp,PG (aZ X scope cl N' C s₀ H₀ fp) tg (yg X tgt):=λcl C s₀ H₀ fp=>(block cl C s₀ H₀ fp).1
 have hPI:∀cl C s₀ H₀ fp,qF (aZ X scope cl N' C s₀ H₀ fp) ifs (tPT0 X.K fc):=λcl C s₀ H₀ fp pins s σ H Q I h=>(block cl C s₀ H₀ fp).2.1 pins s σ H Q I (tPT0.up (X:=aZ X scope cl N' C s₀ H₀ fp) h)
 have hPE:∀cl C s₀ H₀ fp,PE (aZ X scope cl N' C s₀ H₀ fp) elt (tP0 X.K fe):=λcl C s₀ H₀ fp pins s σ H Q I h=>(block cl C s₀ H₀ fp).2.2 pins s σ H Q I (tP0.up (X:=aZ X scope cl N' C s₀ H₀ fp) h)
 exact PE.imp (wo (g:=yg X tgt) (tc:=tPT0 X.K fc) (te:=tP0 X.K fe) hc S hi (λcl C s₀ H₀ fp=>⟨hPG cl C s₀ H₀ fp,hPI cl C s₀ H₀ fp,hPE cl C s₀ H₀ fp⟩) hs) λσ H Q h=>oC h
inductive Fl where
 | nx (ρ:En) | rt (t:T) | bk (ρ:En) | ct (ρ:En)
def OO (B:Ow)(M:Mn):Ow:=λa=>B a\/M.u a
structure Ev (K:HI)(B:Ow)(M:Mn)(H:Hp)(ρ:En)(σ:L2.St):Prop where
 env:EnvM K (OO B M) M H ρ σ
 mine:∀a,M.u a->¬ B a
theorem Ev.same {K:HI}{B:Ow}{M:Mn}{H H':Hp}{ρ:En}{σ:L2.St}(h:Same H H')(e:Ev K B M H ρ σ):Ev K B M H' ρ σ:=⟨e.env.same h,e.mine⟩
theorem Ev.o {K:HI}{B:Ow}{M:Mn}{H:Hp}{ρ:En}{σ:L2.St}(e:Ev K B M H ρ σ):EnvO K (OO B M) H ρ σ:=⟨M,e.env⟩
def PostF (X:Cx)(B P:Ow)(H:Hp)(r:Rs Fl)(D:Ends):Prop:=match r with
 | .ok (.nx ρ')=> ∀σ' H' M',SameO P H H'->Ev X.K B M' H' ρ' σ'->(∀a,M'.u a->P a\/Nw X.K H a)->D.nx σ' H'
 | .ok (.rt t)=> ∀v H',SameO P H H'->Rep X.K B H' t v->D.rt v H'
 | .ok (.bk ρ')=> ∀σ' H' M',SameO P H H'->Ev X.K B M' H' ρ' σ'->(∀a,M'.u a->P a\/Nw X.K H a)->D.bk σ' H'
 | .ok (.ct ρ')=> ∀σ' H' M',SameO P H H'->Ev X.K B M' H' ρ' σ'->(∀a,M'.u a->P a\/Nw X.K H a)->D.ct σ' H'
 | .err c=>XA X P H c
 | .bad=>False
def Gd (X:Cx)(F:En->Rs Fl):TS:=λD σ H=> ∃ρ B M,Ev X.K B M H ρ σ/\PostF X B M.u H (F ρ) D
abbrev tM (X:Cx)(s:Stmt)(F:En->Rs Fl):Prop:=PS X s (Gd X F)
abbrev l7 (X:Cx)(s:List Stmt)(F:En->Rs Fl):Prop:=PSs X s (Gd X F)
theorem PostF.later {B P P1:Ow}{H H1:Hp}{r:Rs Fl}{D:Ends}(h:PostF X B P H r D)(s:SameO P H H1)(sub:∀a,P1 a->P a\/Nw X.K H a):PostF X B P1 H1 r D:=by
 have back:∀a,P1 a\/Nw X.K H1 a->P a\/Nw X.K H a:=λa z=>z.elim (sub a) (fv s)
 cases r with
 | bad=>exact h
 | err c=>exact XA.later h s sub
 | ok f=>
  cases f with
  | nx ρ'=>exact λσ' H' M' s' E' o'=>h σ' H' M' (s.trans s' sub) E' λa z=>back a (o' a z)
  | rt t=>exact λv H' s' r=>h v H' (s.trans s' sub) r
  | bk ρ'=>exact λσ' H' M' s' E' o'=>h σ' H' M' (s.trans s' sub) E' λa z=>back a (o' a z)
  | ct ρ'=>exact λσ' H' M' s' E' o'=>h σ' H' M' (s.trans s' sub) E' λa z=>back a (o' a z)
theorem PostF.xa {B P:Ow}{H:Hp}{c:Str}{D:Ends}(h:PostF X B P H (.err c) D):XA X wQ H c:=XA.later (P:=P) h (λ_ _ e _=>e) λ_ z=>z.elim
def sN (ρ:En):Rs Fl:=.ok (.nx ρ)
def aJ (F G:En->Rs Fl)(ρ:En):Rs Fl:=do
 let f <-F ρ
 match f with
 | .nx ρ'=>G ρ'
 | f=> .ok f
theorem B2:l7 X [] sN:=PSs.imp si λD σ H ⟨ρ,B,M,E,h⟩=>h σ H M (λ_ _ e _=>e) E λa z=> .inl z
theorem yQ {st:Stmt}{aY:List Stmt}{F G:En->Rs Fl}(h1:tM X st F)(h2:l7 X aY G):l7 X (st::aY) (aJ F G):=PSs.imp (lg h1 h2) λD σ H hh_=>by
 obtain⟨ρ,B,M,E,h⟩:=hh_;refine⟨ρ,B,M,E,?_⟩
 unfold aJ at h
 cases q:F ρ with
 | bad=>rw[q]at h;exact h.elim
 | err c=>rw[q]at h;exact h
 | ok f=>
  rw[q,aC]at h
  cases f with
  | nx ρ'=>exact λσ' H' M' s' E' o'=>⟨ρ',B,M',E',h.later s' o'⟩
  | rt t=>exact h
  | bk ρ'=>exact h
  | ct ρ'=>exact h
theorem B1 {st:Stmt}{F:En->Rs Fl}(h:tM X st F):l7 X [st] F:=il h
def aM (f:En->Rs T)(ρ:En):Rs Fl:=do
 let t <-f ρ
 .ok (.rt t)
theorem B0 (ha:cL X a fa):tM X (.Return (some a) pos) (aM fa):=PS.imp (lh ha) λD σ H hh_=>by
 obtain⟨ρ,B,M,E,h⟩:=hh_;refine⟨ρ,OO B M,E.o,?_⟩
 unfold aM at h
 cases q:fa ρ with
 | bad=>rw[q]at h;exact h.elim
 | err c=>rw[q]at h;exact PostF.xa h
 | ok t=>
  rw[q,aC]at h;exact λH' s v r=>h v H' (SameO.of s) (r.less λ_ z=> .inl z)
def eE (f:En->Rs Bool)(F G:En->Rs Fl)(ρ:En):Rs Fl:=do
 let k <-f ρ
 if k then F ρ else G ρ
theorem EC {f:En->Rs Bool}{A B:List Stmt}{F G:En->Rs Fl}(hc:yb X c f)(ha:l7 X A F)(hb:l7 X B G):tM X (.If c A B pos) (eE f F G):=PS.imp (AY hc ha hb) λD σ H hh_=>by
 obtain⟨ρ,B,M,E,h⟩:=hh_;refine⟨ρ,OO B M,E.o,?_⟩
 unfold eE at h
 cases q:f ρ with
 | bad=>rw[q]at h;exact h.elim
 | err c=>rw[q]at h;exact PostF.xa h
 | ok k=>
  rw[q,aC]at h;intro H' s
  have E':Ev X.K B M H' ρ σ:=E.same s
  cases k with
  | true=>refine L2.iteT ?_;exact⟨ρ,B,M,E',PostF.later (by simpa using h) (SameO.of s) λa z=> .inl z⟩
  | false=>refine L2.iteF ?_;exact⟨ρ,B,M,E',PostF.later (by simpa using h) (SameO.of s) λa z=> .inl z⟩
def c6 (f:En->Rs T)(g:T->En->Rs En)(ρ:En):Rs Fl:=do
 let t <-f ρ
 match g t ρ with
 | .ok ρ'=> .ok (.nx ρ')
 | _=> .bad
theorem qQ {B:Ow}{M:Mn}{ρ:En}{σ:L2.St}{H:Hp}{D:Ends}{g:T->En->Rs En}{f:En->Rs T}(E:Ev X.K B M H ρ σ)(h:PostF X B M.u H (c6 f g ρ) D):vI (tP X f) (yg X g) D σ H:=by
 refine⟨ρ,OO B M,E.o,?_⟩
 unfold c6 at h
 cases q:f ρ with
 | bad=>rw[q]at h;exact h.elim
 | err c=>rw[q]at h;exact PostF.xa h
 | ok t=>
  rw[q,aC]at h;intro H' s v r;refine⟨ρ,OO B M,M,t,E.env.same s,r,?_⟩
  cases q2:g t ρ with
  | bad=>rw[q2]at h;exact h.elim
  | err c=>rw[q2]at h;exact h.elim
  | ok ρ'=>
   rw[q2]at h;exact λσ' E'=>h σ' H' M (SameO.of s) ⟨E',E.mine⟩ λa z=> .inl z
theorem yC {f:En->Rs T}{σ:L2.St}{H:Hp}{Q Q':VK}(h:tP X f σ H Q)(w:∀v H',Q v H'->Q' v H'):tP X f σ H Q':=by
 obtain⟨ρ,O,E,q⟩:=h;exact⟨ρ,O,E,Post.mono q λt H' _ z v r=>w v H' (z v r)⟩
theorem EB {elt tg iter:Expr}{ifs:List Expr}{scope:K2}{spos py:Pos}{N':List Str}{src:List (Option Nat)}{fi:En->Rs (List T)}{tgt:T->En->Rs En}{fc:En->Rs Bool}{fe:En->Rs T}(i:Nat){y:Str}
  (hc:X.calm=true) (S:LcScope X scope N' src) (hi:yc X tg iter fi)
  (block:∀cl C s₀ H₀ fp,uT (aZ X scope cl N' C s₀ H₀ fp) tg tgt/\qF (aZ X scope cl N' C s₀ H₀ fp) ifs (uR (aZ X scope cl N' C s₀ H₀ fp) fc)/\cL (aZ X scope cl N' C s₀ H₀ fp) elt fe)
  (hN:X.N.Nodup) (hiy:autoParam (X.N[i]? =some y) u_) (hy:autoParam (Loc X.env.scope y) y_) (hsw:autoParam (Ld (.ListComp elt [⟨tg,iter,ifs,0⟩] scope pos) (some (.Name y py)) spos.line X.env=pure true) u_)
  (hf:autoParam (X.fn y=true\/X.env.scope.names.lookup y=some .local) r_) (hs:autoParam (∀x,Im iter X.env x=pure x) t_) :
  tM X (.Assign [.Name y py] (.ListComp elt [⟨tg,iter,ifs,0⟩] scope pos) spos) (c6 (fF fi src tgt fc fe) (gN i)):=by
 have hPG:∀cl C s₀ H₀ fp,PG (aZ X scope cl N' C s₀ H₀ fp) tg (yg X tgt):=λcl C s₀ H₀ fp=>(block cl C s₀ H₀ fp).1
 have hPI:∀cl C s₀ H₀ fp,qF (aZ X scope cl N' C s₀ H₀ fp) ifs (tPT0 X.K fc):=λcl C s₀ H₀ fp pins s σ H Q I h=>(block cl C s₀ H₀ fp).2.1 pins s σ H Q I (tPT0.up (X:=aZ X scope cl N' C s₀ H₀ fp) h)
 have hPE:∀cl C s₀ H₀ fp,PE (aZ X scope cl N' C s₀ H₀ fp) elt (tP0 X.K fe):=λcl C s₀ H₀ fp pins s σ H Q I h=>(block cl C s₀ H₀ fp).2.2 pins s σ H Q I (tP0.up (X:=aZ X scope cl N' C s₀ H₀ fp) h)
 refine PS.imp (ET (g:=yg X tgt) (tc:=tPT0 X.K fc) (te:=tP0 X.K fe) (i:=i) hc S hi (λcl C s₀ H₀ fp=>⟨hPG cl C s₀ H₀ fp,hPI cl C s₀ H₀ fp,hPE cl C s₀ H₀ fp⟩) hN hiy hy hsw hf hs) λD σ H ⟨ρ,B,M,E,h⟩=>oC (yC (qQ E h) λv H' z=> ?_)
 obtain⟨ρ',O,M',t,E',r,q⟩:=z;unfold gN at q
 split at q
 ·rename_i ρ2 e
  split at e
  ·rename_i hl
   cases e;exact q _ (E'.set hl r)
  ·cases e
 ·exact q.elim
theorem B6 {tg:Expr}{g:T->En->Rs En}(ha:cL X a fa)(hg:uT X tg g)(hs:autoParam (Lz [tg] a pos.line X.env=pure false) u_)(hw:autoParam (LA [tg] a X.env=pure none) u_)
  (h1:autoParam ((JA [tg] X.env).map (·.2)= [assign tg X.env]) u_):tM X (.Assign [tg] a pos) (c6 fa g):=PS.imp (Cg ha hg hs hw h1) λD σ H ⟨ρ,B,M,E,h⟩=>qQ E h
def vQ (f:En->Rs T)(ρ:En):Rs Fl:=do
 let _ <-f ρ
 .ok (.nx ρ)
theorem yP (ha:cL X a fa)(hs:autoParam (Ld a none pos.line X.env=pure false) u_):tM X (.Expr a pos) (vQ fa):=PS.imp (sj ha hs) λD σ H hh_=>by
 obtain⟨ρ,B,M,E,h⟩:=hh_;refine⟨ρ,OO B M,E.o,?_⟩
 unfold vQ at h
 cases q:fa ρ with
 | bad=>rw[q]at h;exact h.elim
 | err c=>rw[q]at h;exact PostF.xa h
 | ok t=>
  rw[q,aC]at h;exact λH' s v r=>h σ H' M (SameO.of s) (E.same s) λa z=> .inl z
def bo (g:T->En->Rs En)(F:En->Rs Fl):List T->En->Rs Fl
 | [],ρ=> .ok (.nx ρ)
 | t::r,ρ=>do
  let ρ1 <-g t ρ
  let f <-F ρ1
  match f with
  | .nx ρ2=>bo g F r ρ2
  | .ct ρ2=>bo g F r ρ2
  | .bk ρ2=> .ok (.nx ρ2)
  | .rt t=> .ok (.rt t)
def fB (fi:En->Rs (List T))(g:T->En->Rs En)(F:En->Rs Fl)(ρ:En):Rs Fl:=do
 let ts <-fi ρ
 match bo g F ts ρ with
 | .ok f=> .ok f
 | _=> .bad
theorem dU {α:Type}{t:Sem α}{Q:α->HJ->Prop}{s:HJ}{E:HL->HJ->Prop}{P:Ip}{w:IV}{A:IE}(h:wpAny (model P w) A t Q (λ_ _=>False) s):wpAny (model P w) A t Q E s:=IR h (λ_ _ q=>q) λ_ _ z=>z.elim
theorem y8 {tg iter:Expr}{body:List Stmt}{wi:TI}{g:TG}{tb:TS}{pos:Pos}(hc:X.calm=true)(hi:PI X tg iter wi)(hg:PG X.nox tg g)(hb:PSs X.nox body tb)
  (hs:autoParam (∀x,Im iter X.env x=pure x) t_):PS X (.For tg iter body [] pos) (BD wi g tb):=by
 intro pins s σ H D I h;refine wpAny_For (bF (hi pins s σ H _ I h) λv s1 h1=>bF h1 λitv s2 h2=> ?_) hs
 obtain⟨it,fp,tn,J,H2,e,I2,T,st2,f2,W,⟨m0,w0⟩,turn⟩:=h2;subst e
 have stat:∀{H':Hp},(∀b∈fp,H' b=none)->∀b∈fp,hG X pins H' b:=λhn b hb=>⟨hn b hb,(f2 b hb).2⟩
 refine codeAny_forLoop_any (λn s'=> ∃i σ' H',Inv X pins σ' H' s'/\tn i s'.heap/\(∀b∈fp,H' b=none)/\W i n σ' H') ?_ m0 ⟨0,σ,H2,I2,st2,λb hb=>(f2 b hb).1,w0⟩
 rintro n s3 ⟨i,σ3,H3,I3,st3,fr3,w3⟩
 rcases turn i n σ3 H3 w3 with⟨stop,qn⟩ | ⟨go,N,hN,step⟩
 ·refine dU (bF (T.done X.nox rfl rfl rfl hc i pins s3 σ3 H3 _ (I3.FM _) (stat fr3) st3 stop) λr s4 ⟨hr,I4⟩=> ?_)
  subst hr;exact KD ⟨σ3,H3,I4.FM _,qn⟩
 ·refine dU (bF (T.item X.nox rfl rfl rfl hc i pins s3 σ3 H3 _ (I3.FM _) (stat fr3) st3 go) λr s4 ⟨u,hr,h4⟩=> ?_)
  subst hr;refine dU (bF h4 λ_ s5 hh_=> ?_)
  obtain⟨x,H5,I5,r5,y5,st5,fr5⟩:=hh_
  have I5':=Inv.pinned (X:=X.nox) I5 (stat fr5) (T.obj _ _ st5);refine dU (bF (hg _ s5 σ3 H5 x u _ I5' r5 (step x H5 y5)) λ_ s6 hh_=> ?_)
  obtain⟨σ6,H6,I6,q6⟩:=hh_;refine dU (bF (hb _ s6 σ6 H6 _ I6 q6) λf s7 q7=> ?_)
  have again:∀{σ7:L2.St} {H7:Hp},Inv X.nox (pins++gM fp s5.heap) σ7 H7 s7->N σ7 H7->∃m,m<n/\∃i σ' H',Inv X pins σ' H' s7/\tn i s7.heap/\(∀b∈fp,H' b=none)/\W i m σ' H':=λ{σ7 H7} I7 n7=>by
   obtain⟨m',hm,w7⟩:=hN σ7 H7 n7;refine⟨m',hm,i+1,σ7,H7,(Inv.Gv (X:=X.nox) I7).FM _,T.keep _ _ _ st5 λb hb o e=>(I7.pin (b,o) (H0 _ (H0 _ (bY hb e)))).1,λb hb=> ?_,w7⟩
   obtain⟨o,e,d⟩:=T.obj _ _ st5 b hb;exact(I7.pin (b,o) (H0 _ (H0 _ (bY hb e)))).2.1
  cases f with
  | next=>obtain⟨σ7,H7,I7,n7⟩:=q7;exact again I7 n7
  | cont=>obtain⟨σ7,H7,I7,n7⟩:=q7;exact again I7 n7
  | brk=>obtain⟨σ7,H7,I7,q7⟩:=q7;exact⟨σ7,H7,(Inv.Gv (X:=X.nox) I7).FM _,q7⟩
  | ret v=>obtain⟨x7,σ7,H7,I7,r7,q7⟩:=q7;exact⟨x7,σ7,H7,(Inv.Gv (X:=X.nox) I7).FM _,r7,q7⟩
theorem B3 {tg iter:Expr}{body:List Stmt}{fi:En->Rs (List T)}{g:T->En->Rs En}{F:En->Rs Fl}(hc:X.calm=true)(hi:yc X tg iter fi)(hg:uT X.nox tg g)(hb:l7 X.nox body F)
  (hs:autoParam (∀x,Im iter X.env x=pure x) t_):tM X (.For tg iter body [] pos) (fB fi g F):=PS.imp (y8 hc hi hg hb hs) λD σ H hh_=>by
 obtain⟨ρ,B,M,E,h⟩:=hh_;refine⟨ρ,OO B M,E.o,?_⟩
 unfold fB at h
 cases q:fi ρ with
 | bad=>rw[q]at h;exact h.elim
 | err c=>rw[q]at h;exact PostF.xa h
 | ok ts=>
  rw[q,aC]at h
  cases qq:bo g F ts ρ with
  | bad=>rw[qq]at h;exact h.elim
  | err c=>rw[qq]at h;exact h.elim
  | ok fin=>
  rw[qq]at h;intro H1 s1 J hJ
  have E1:Ev X.K B M H1 ρ σ:=E.same s1
  have h1:PostF X B M.u H1 (.ok fin) D:=PostF.later h (SameO.of s1) λa z=> .inl z
  refine⟨λi m σ' H'=>m=ts.length - i/\i<=ts.length/\SameO M.u H1 H'/\∃ρ' M',Ev X.K B M' H' ρ' σ'/\(∀a,M'.u a->M.u a\/Nw X.K H1 a)/\bo g F (ts.drop i) ρ'= .ok fin,
   ⟨ts.length,by omega,IZ _,λ_ _ e _=>e,ρ,M,E1,λa z=> .inl z,by simpa using qq⟩,?_⟩
  rintro i m σ' H' ⟨rfl,hi',sm,ρ',M',E',ow,hl⟩
  have it:=hJ M.u (OO B M') (λa z=> .inl (.inr z)) (λa z=>z.elim (λw=> .inl (.inl w)) λw=>(ow a w).elim (λy=> .inl (.inr y)) .inr) i H' sm (λa z=>(E'.env.trk a z).some)
  by_cases hlt:i<ts.length
  ·have hti:ts[i]? =some ts[i]:=by simp
   obtain⟨go,yl⟩:=it.2 ts[i] hti;rw[JG hlt]at hl;unfold bo at hl;refine .inr ⟨go,λσ2 H2=> ∃m',m'<ts.length - i/\(m'=ts.length - (i+1)/\i+1<=ts.length/\SameO M.u H1 H2/\∃ρ2 M2,Ev X.K B M2 H2 ρ2 σ2/\(∀a,M2.u a->M.u a\/Nw X.K H1 a)/\bo g F (ts.drop (i+1)) ρ2= .ok fin),λσ2 H2 z=>z,λx Hc y=> ?_⟩
   obtain⟨sc,rx⟩:=yl x Hc y;refine⟨ρ',OO B M',M',ts[i],E'.env.same sc,rx,?_⟩
   cases e1:g ts[i] ρ' with
   | bad=>rw[e1]at hl;cases hl
   | err cc=>rw[e1]at hl;cases hl
   | ok ρ1=>
    rw[e1,aC]at hl;intro σ1 Eg
    have E2:Ev X.K B M' Hc ρ1 σ1:=⟨Eg,E'.mine⟩;refine⟨ρ1,B,M',E2,?_⟩
    have smc:SameO M.u H1 Hc:=λb o e n=>sc _ _ (sm b o e n)
    have onward:∀{σ3:L2.St} {H3:Hp} {ρ3:En} {M3:Mn},SameO M'.u Hc H3->Ev X.K B M3 H3 ρ3 σ3->(∀a,M3.u a->M'.u a\/Nw X.K Hc a)->bo g F (ts.drop (i+1)) ρ3= .ok fin →
      ∃m',m'<ts.length - i/\(m'=ts.length - (i+1)/\i+1<=ts.length/\SameO M.u H1 H3/\∃ρ2 M2,Ev X.K B M2 H3 ρ2 σ3/\(∀a,M2.u a->M.u a\/Nw X.K H1 a)/\bo g F (ts.drop (i+1)) ρ2= .ok fin):=
     λ{σ3 H3 ρ3 M3} s3 E3 o3 p3=>⟨_,by omega,rfl,hlt,smc.trans s3 ow,ρ3,M3,E3,λa z=>(o3 a z).elim (ow a) (fv smc),p3⟩
    cases e2:F ρ1 with
    | bad=>rw[e2]at hl;cases hl
    | err cc=>rw[e2]at hl;cases hl
    | ok f=>
     rw[e2,aC]at hl
     cases f with
     | nx ρ2=>exact λσ3 H3 M3 s3 E3 o3=>onward s3 E3 o3 hl
     | ct ρ2=>exact λσ3 H3 M3 s3 E3 o3=>onward s3 E3 o3 hl
     | bk ρ2=>
      cases hl
      exact λσ3 H3 M3 s3 E3 o3=>h1 σ3 H3 M3 (smc.trans s3 ow) E3 λa z=>(o3 a z).elim (ow a) (fv smc)
     | rt t=>
      cases hl;exact λv H3 s3 r=>h1 v H3 (smc.trans s3 ow) r
  ·refine .inl ⟨it.1 (by omega),?_⟩
   have hi2:i=ts.length:=by omega
   subst hi2;rw[LY]at hl;cases hl;exact h1 σ' H' M' sm E' ow
end
def bh (F:En->Rs Fl)(ρ:En):Rs T:=do
 let f <-F ρ
 match f with
 | .nx _=> .ok .non
 | .rt t=> .ok t
 | _=> .bad
def aG (n:Nat)(ts:List T):En:=ts.map Sl.va++Iy (n - ts.length) Sl.em
theorem tV {n:Nat}{ts:List T}{i:Nat}{o:OT}(e:(aG n ts)[i]? =some (.ow o)):False:=by
 unfold aG at e
 by_cases hi:i<ts.length
 ·rw[JF (by simpa using hi),IQ,Iv hi]at e
  cases e
 ·rw[JT (by simpa using hi),KN]at e
  split at e <;> cases e
theorem ig {K:HI}{O:Ow}{H:Hp}{N:List Str}{ts:List T}{vs:List V}(r:Reps K O H ts vs)(hl:ts.length<=N.length)(trk:∀a,O a->Mtb H a):Ev K O noM H (aG N.length ts) (start N vs):=by
 have hlen:=r.length
 have sub:∀a,OO O noM a->O a:=λa z=>z.elim id λ⟨_,w⟩=>w.elim
 refine⟨⟨by unfold aG L2.start;simp;omega,λi t e=> ?_,λi o e=>(tV e).elim,λ_ _ z=>z.elim,λ_ _ _ z=>z.elim,λa z=>trk a (sub a z)⟩,λa ⟨_,z⟩=>z.elim⟩
 unfold aG at e;unfold L2.start
 by_cases hi:i<ts.length
 ·rw[JF (by simpa using hi),IQ,Iv hi]at e
  have e':ts[i] =t:=by injection e with e;injection e
  obtain⟨v,e1,e2⟩:=r.get (i:=i) (t:=t) (by rw[<-e'];simp)
  refine⟨v,?_,e2.less sub⟩
  rw[JF (by simp;omega),IQ,e1];rfl
 ·rw[JT (by simpa using hi),KN]at e
  split at e <;> cases e
section
variable {P:Ip}{w:IV}{K:HI}{mg:Str->Option HL}{base:Heap}
theorem FG {x qual:Str}{st:Stmt}{f:Addr}{fd:Je}{N ps:List Str}{k n:Nat}{g:List T->Rs T}(Fn:L2.Fun K x qual st f fd)(S:bN N ps (ao st))(hn:ps.length=n)
  (hbody:∀(cdv:HL) (A:IE) (outer:List Env) (s:HJ) (H:Hp) (E:XK),Room k (A.deeper (envOfC qual (ao st) s.heap.objs.size f cdv)) →
   ∃F,l7 (eY CX0 P w K mg base N qual (ao st) f cdv A outer s H E).nox (br st) F/\∀ts,ts.length=n->∀t,g ts= .ok t->bh F (aG N.length ts)= .ok t):uN P w K mg base CX0 (k+1) f fd ps (spP K n g):=by
 have hpl:ps.length<=N.length:=by have:=congrArg JZ S.pre;rw[JI]at this;omega
 refine Fn.ok S (λvs H Q E h=> ?_) (λcdv A outer s H vs Q E hr h=> ?_)
 ·obtain⟨ts,O,r,_,hl,_⟩:=h
  rw[<-r.length,hl,hn]
 ·obtain⟨ts,O,r,trk,hl,h⟩:=h
  obtain⟨F,hF,hv⟩:=hbody cdv A outer s H E hr;refine⟨_,hF,aG N.length ts,O,noM,ig r (by omega) trk,?_⟩
  have no:∀a,¬noM.u a:=λa ⟨_,z⟩=>z
  cases q:g ts with
  | bad=>rw[q]at h;exact h.elim
  | err c=>rw[q]at h;exact h.elim
  | ok t=>
   rw[q]at h
   have hb:=hv ts hl t q;unfold bh at hb
   cases q2:F (aG N.length ts)with
   | bad=>rw[q2]at hb;cases hb
   | err c=>rw[q2]at hb;cases hb
   | ok fl=>
    rw[q2,aC]at hb
    have sameOf:∀H',SameO noM.u H H'->Same H H':=λH' s b o e=>s b o e (no b)
    cases fl with
    | nx ρ'=>cases hb;exact λσ' H' M' s' E' o'=>h .non H' (sameOf H' s') Rep.G2
    | rt t'=>cases hb;exact λv H' s' r'=>h v H' (sameOf H' s') r'
    | bk ρ'=>cases hb
    | ct ρ'=>cases hb
end
end Tr
namespace Enu
open PySem
open AutoSeq1 (wpAny_loadPart')
section
variable {prog:Ip}{w:IV}{A:IE}{E:HL->HJ->Prop}{s:HJ}
theorem tupNext {it tt:Addr}{k:Nat}{its:Array HL}{x:HL}{Q:HL->HJ->Prop}(hi:s.heap.IsTupleIter it tt k)(ht:s.heap.IsTuple tt its)(hx:its[k]? =some x)
  (hQ:∀h',h'.IsTupleIter it tt (k+1)->KJ it s.heap h'->Q x { s with heap:=h' }):wpAny (model prog w) A (IX (.ref it)) Q E s:=by
 obtain⟨ob,g1,g2,g3⟩:=id hi;obtain⟨ot,k1,_,m,k3⟩:=ht;unfold IX;refine HM (Jq (name:=Ij "__next__") hi.typeIs Kn (JS Kn hi.typeIs Mg ?_ (L5 _)))
 show wpAny (model prog w) _ (field (.ref it) 0 >>= _) _ _ s
 refine HM (IW g1 g3 (x:=.ref tt) rfl ?_)
 show wpAny (model prog w) _ (if (IB tt == IG)=true then _ else _) _ _ s
 rw[if_neg (show ¬((IB tt == IG)=true)by exact Io)]
 show wpAny (model prog w) _ (field (.ref it) 1 >>= _) _ _ s
 refine HM (IW g1 g3 (x:=.int k 0) rfl ?_)
 show wpAny (model prog w) _ (seqItems? (.ref tt) >>= _) _ _ s
 refine HM (Kc k1 k3 ?_)
 simp only[hx,IY];refine HM (MM g1 g3 (by simp) (HX ⟨x,rfl,HX (hQ _ ?_ (N4 ..))⟩))
 refine⟨_,LQ _ g1 (LR (Kq g3 _)),(Obj.cls_mapFields ..).trans g2,?_⟩
 rw[Kq g3];simp[rawInt]
theorem tupStop {it tt:Addr}{k:Nat}{its:Array HL}{Q:HL->HJ->Prop}(hh:A.handled=none)(hi:s.heap.IsTupleIter it tt k)(ht:s.heap.IsTuple tt its)(hx:its[k]? =none)
  (hE:∀h' e,Heap.ExtBut it s.heap h'->(∃o,h'.get? e=some o/\o.cls= .type "StopIteration")->E (.ref e) { s with heap:=h' }):wpAny (model prog w) A (IX (.ref it)) Q E s:=by
 obtain⟨ob,g1,g2,g3⟩:=id hi;obtain⟨ot,k1,_,m,k3⟩:=ht;unfold IX;refine HM (Jq (name:=Ij "__next__") hi.typeIs Kn (JS Kn hi.typeIs Mg ?_ (L5 _)))
 show wpAny (model prog w) _ (field (.ref it) 0 >>= _) _ _ s
 refine HM (IW g1 g3 (x:=.ref tt) rfl ?_)
 show wpAny (model prog w) _ (if (IB tt == IG)=true then _ else _) _ _ s
 rw[if_neg (show ¬((IB tt == IG)=true)by exact Io)]
 show wpAny (model prog w) _ (field (.ref it) 1 >>= _) _ _ s
 refine HM (IW g1 g3 (x:=.int k 0) rfl ?_)
 show wpAny (model prog w) _ (seqItems? (.ref tt) >>= _) _ _ s
 refine HM (Kc k1 k3 ?_)
 simp only[hx,IY];refine HM (Ll (HM (MM g1 g3 (by simp) ?_)))
 show wpAny (model prog w) _ (newExc (.type "StopIteration") [] >>= _) _ _ _
 refine HM ?_
 simp only[newTuple,newExc];refine HM (JM ?_ (by size_fits))
 refine HM (m:=firstArgMember _ _) (Lf (a:=IG) (by first | (simp only[firstArgMember];rfl) | rfl) ?_)
 refine JM ?_ (by size_fits)
 simp only[raiseNew];refine HM (wpAny_handled ?_)
 first | rw[hh] | rw[show A.in1.handled=none from hh]
 refine HM (HX (wpAny_throw ?_))
 refine hE _ _ (((N4 ..).extBut.push _).push _) ⟨_,Ie _ rfl,rfl⟩
end
theorem tupDraws {prog:Ip}{w:IV}{A:IE}(hh:A.handled=none)(it tt:Addr)(hne:tt≠it)(its:Array HL) :
  Draws prog w A it [it,tt] its.size (λi v=>its[i]? =some v) (λi h=>h.IsTupleIter it tt i/\h.IsTuple tt its) where
 live:=λ_ _ st=>by obtain⟨o,ho,_⟩:=st.1;exact⟨o,ho⟩
 frame:=λ_ _ _ st hk=>by
  obtain⟨⟨o,e,r⟩,⟨o',e',r'⟩⟩:=st;exact⟨⟨o,hk it (by simp) o e,r⟩,⟨o',hk tt (by simp) o' e',r'⟩⟩
 item:=λi s Q E hi st hQ=>by
  refine tupNext st.1 st.2 (x:=its[i]) (by simp[hi]) λh' hit' hs'=> ?_
  obtain⟨o',e',r'⟩:=st.2;exact hQ _ h' s.toks (by simp[hi]) ⟨hit',⟨o',(hs'.2 tt hne).trans e',r'⟩⟩ hs'
 done:=λs Q E st hE=>tupStop hh st.1 st.2 (by simp) hE
theorem newT (l:Addr)(items:Array HL)(n:Nat)(dct:Option Addr)(sl:Array (Option HL)) :
  Meets (Builtin.«enumerate.__new__» ⟨[.type "enumerate",.ref l],[]⟩) (λ_ R s=>s.heap.get? l=some { cls:=.type "tuple",dict:=dct,data:=.seq items n,slots:=sl } ∧
   R (.ok (.ret (.ref (s.heap.push { cls:=.type "tuple_iterator",data:=.fields #[.ref l,.int 0 0] }).objs.size)))
    { s with heap:=(s.heap.push { cls:=.type "tuple_iterator",data:=.fields #[.ref l,.int 0 0] }).push { cls:=.type "enumerate",data:=.fields #[.none,.bool false,.ref s.heap.objs.size,rawInt 0,.none,.none] } }):=
 .of_wp λprog w A R s h=>by
  obtain⟨hp,g,d,tk,os⟩:=s;obtain⟨hl,h⟩:=h
  have hsub:=sub_enumerate
  have hT:Heap.IsTuple (PX ⟨hp,g,d,tk,os⟩) l items:=⟨_,hl,rfl,n,rfl⟩
  wp_walk using KH hl
  refine wpAny_stack_any λst=>HX ?_
  split
  ·rename_i c _ _ _ _ _
   cases (c == KS "enumerate")
   ·wp_walk using KH hl,Kr hT
    exact⟨_,rfl,h⟩
   ·wp_walk using KH hl,Kr hT
    exact⟨_,rfl,h⟩
  ·wp_walk using KH hl,Kr hT
   exact⟨_,rfl,h⟩
theorem callT {prog:Ip}{w:IV}{A:IE}{E:HL->HJ->Prop}{s:HJ}{l:Addr}{items:Array HL}{Q:HL->HJ->Prop}(hL:s.heap.IsTuple l items)
  (h:∀h',IsEnum h' (s.heap.objs.size+1) s.heap.objs.size 0 .none->h'.IsTupleIter s.heap.objs.size l 0->h'.objs.size=s.heap.objs.size+2 →
   (∀b o,s.heap.get? b=some o->h'.get? b=some o)->Q (.ref (s.heap.objs.size+1)) { s with heap:=h' }):wpAny (model prog w) A (call (.type "enumerate") [.ref l]) Q E s:=by
 obtain⟨⟨cc,dc,dd,ss⟩,hl,hc,n,hd⟩:=hL
 replace hc:cc= .type "tuple":=hc
 replace hd:dd= .seq items n:=hd
 subst hc hd;refine callType_new F.called_enumerate (by decide) (F.typeCall_enumerate_1 _) (F.newCall_enumerate_1 _) (λobj=>F.args_object_init_2 obj _) F.entry_enumerate_new (newT l items n dc ss) ⟨hl,?_⟩
 have hz:(s.heap.push { cls:=.type "tuple_iterator",data:=.fields #[.ref l,.int 0 0] }).objs.size=s.heap.objs.size+1:=Jz ..
 show _/\_
 rw[hz]
 have he:IsEnum ((s.heap.push { cls:=.type "tuple_iterator",data:=.fields #[.ref l,.int 0 0] }).push
   { cls:=.type "enumerate",data:=.fields #[.none,.bool false,.ref s.heap.objs.size,rawInt 0,.none,.none] }) (s.heap.objs.size+1) s.heap.objs.size 0 .none:=by
  have q:=Ie (s.heap.push { cls:=.type "tuple_iterator",data:=.fields #[.ref l,.int 0 0] })
   (o:={ cls:=.type "enumerate",data:=.fields #[.none,.bool false,.ref s.heap.objs.size,rawInt 0,.none,.none] }) rfl
  rw[hz]at q;exact q
 refine⟨⟨_,he,rfl⟩,h _ he ⟨_,HN _ (Ie _ rfl),rfl,rfl⟩ (by rw[Jz,hz]) λb o x=>HN _ (HN _ x)⟩
end Enu
namespace L2
open PySem PySem.Spec PyProof.Rows
section
variable {X:Cx}{pins:List (Addr×Obj)}{σ:L2.St}{H:Hp}{s:HJ}{h':Heap}
theorem Inv.G3 {t':Nat}{fp:List Addr}{Tp:Addr}{xs:List V}(I:Inv X pins σ H s)(hf:∀b∈fp,hG X pins H b)(k:∀b o,b∉fp->s.heap.get? b=some o->h'.get? b=some o)
  (ht:∀b∈fp,∃o,h'.get? b=some o) (hT:s.heap.objs.size<=Tp) (new:ObjOk X.prog X.w (cz H Tp (.tup xs)) h' Tp (.tup xs)):Inv X pins σ (cz H Tp (.tup xs)) { s with heap:=h',toks:=t' }:=by
 have hn:H Tp=none:=I.hok.fresh hT
 have neT:∀b o,s.heap.get? b=some o->b≠Tp:=λb o e=>Jx (Ig (Ib e) hT)
 have nf:∀b u,H b=some u->b∉fp:=λb u e z=>by rw[(hf b z).1]at e;cases e
 refine I.step (g':=s.gens) (d':=s.drawn) (ch:=fp) (λb hb=>⟨(hf b hb).2.2.2.1,(hf b hb).2.1,(hf b hb).2.2.2.2.1,(hf b hb).2.2.2.2.2⟩) (λb o _ _ hc e _=>k b o hc e) (λb o _ _ hc e _=>⟨o.slots,k b o hc e⟩)
  (λb o _ e n=>by rw[aO (neT b o e)];exact n) (λb o hc e=>⟨o,k b o hc e⟩) (λb ys e=>by rw[aO (bP e hn)];exact e) (λb o u e=>by rw[aO (bP e hn)];exact e)
  (λb ps e=>⟨#[],by rw[aO (bP e hn),e];simp⟩) (λm hm=> ?_) (λb u e=> ?_) I.bare
 ·obtain⟨o,es,ep,ho,r⟩:=hm
  exact⟨o,es,ep,k _ o (λz=>(hf _ z).2.1 rfl) ho,r⟩
 ·by_cases hb:b=Tp
  ·subst hb;rw[aU]at e;cases e;exact new
  ·rw[aO hb]at e
   refine(I.hok b u e).GD (λc v hc q=>k c v ?_ q) (λc q=>by rw[aO (bP q hn)];exact q) λc ys q=>by rw[aO (bP q hn)];exact q
   rcases hc with z | z
   ·rw[z];exact nf b u e
   ·exact nf c _ z
theorem Inv.GE {t':Nat}{fp:List Addr}(I:Inv X pins σ H s)(hf:∀b∈fp,hG X pins H b)(k:∀b o,b∉fp->s.heap.get? b=some o->h'.get? b=some o):Inv X pins σ H { s with heap:=h',toks:=t' }:=by
 have nf:∀b u,H b=some u->b∉fp:=λb u e z=>by rw[(hf b z).1]at e;cases e
 refine I.step (g':=s.gens) (d':=s.drawn) (ch:=fp) (λb hb=>⟨(hf b hb).2.2.2.1,(hf b hb).2.1,(hf b hb).2.2.2.2.1,(hf b hb).2.2.2.2.2⟩) (λb o _ _ hc e _=>k b o hc e) (λb o _ _ hc e _=>⟨o.slots,k b o hc e⟩)
  (λb o _ e n=>n) (λb o hc e=>⟨o,k b o hc e⟩) (λb ys e=>e) (λb o u e=>e)
  (λb ps e=>⟨#[],by rw[e];simp⟩) (λm hm=> ?_) (λb u e=> ?_) I.bare
 ·obtain⟨o,es,ep,ho,r⟩:=hm
  exact⟨o,es,ep,k _ o (λz=>(hf _ z).2.1 rfl) ho,r⟩
 ·refine(I.hok b u e).GD (λc v hc q=>k c v ?_ q) (λc q=>q) λc ys q=>q
  rcases hc with z | z
  ·rw[z];exact nf b u e
  ·exact nf c _ z
end
def Bo (K:HI)(H:Hp)(a:Addr)(tt:Bool)(xs:List V):Prop:=if tt then SqT K H a xs else SqL K H a xs
def Gs (K:HI)(a:Addr)(tt:Bool):It:=
 ⟨λi H=> ∃xs x,Bo K H a tt xs/\xs[i]? =some x,λi H x H'=> ∃p v,x= .ref p/\H p=none/\H'=cz H p (.tup [.int (i:Nat),v])/\∀xs,Bo K H a tt xs->xs[i]? =some v,λi H=> ∃xs,Bo K H a tt xs/\xs.length<=i⟩
def itAt (tt:Bool)(h:Heap)(it a:Addr)(i:Nat):Prop:=if tt then h.IsTupleIter it a i else h.IsListIter it a i
theorem itAt.obj {tt:Bool}{h:Heap}{it a:Addr}{i:Nat}(st:itAt tt h it a i):∃o,h.get? it=some o/\∀v,o.data≠ .cell v:=by
 cases tt with
 | true=>obtain⟨o,e,c,d⟩:=(show h.IsTupleIter it a i from st);exact⟨o,e,λv z=>by rw[d]at z;cases z⟩
 | false=>obtain⟨o,e,c,d⟩:=(show h.IsListIter it a i from st);exact⟨o,e,λv z=>by rw[d]at z;cases z⟩
theorem itAt.keep {tt:Bool}{h h':Heap}{it a:Addr}{i:Nat}(st:itAt tt h it a i)(k:∀o,h.get? it=some o->h'.get? it=some o):itAt tt h' it a i:=by
 cases tt with
 | true=>obtain⟨o,e,r⟩:=(show h.IsTupleIter it a i from st);exact(show h'.IsTupleIter it a i from⟨o,k o e,r⟩)
 | false=>obtain⟨o,e,r⟩:=(show h.IsListIter it a i from st);exact(show h'.IsListIter it a i from⟨o,k o e,r⟩)
theorem tU {P:Ip}{w:IV}{K:HI}{elts:List Expr}{kk:Nat}{pos:Pos}(tt:Bool)(a e it:Addr)(hei:e≠it) :
  x9 P w K (.Tuple elts kk pos) (Gs K a tt) [e,it] e (λi h=>(∃old,IsEnum h e it i old)/\itAt tt h it a i) where
 mem:=by simp
 obj:=λi h st b hb=>by
  obtain⟨⟨old,he⟩,hi⟩:=st;rcases HZ.mp hb with rfl | hb
  ·exact⟨_,he,λv z=>by have z':Data.fields _=Data.cell v:=z;cases z'⟩
  ·rw[Ir.mp hb];exact hi.obj
 keep:=λi h h' st k=>by
  obtain⟨⟨old,he⟩,hi⟩:=st;exact⟨⟨old,k e (by simp) _ he⟩,hi.keep λo q=>k it (by simp) o q⟩
 item:=by
  intro X hP hw hK hc i pins s σ H E I hf st hg;subst hP hw hK;obtain⟨xs,x,hq,hx⟩:=hg;obtain⟨⟨old,he⟩,hi⟩:=st
  -- by what is walked
  have key:∀(its:List HL),Vals xs its->(∀ys,Bo X.K H a tt ys->ys=xs)->∀(fp0:List Addr) (St:Nat->Heap->Prop),Draws X.prog X.w X.A.in1 it fp0 its.toArray.size (λi v=>its.toArray[i]? =some v) St->e∉fp0->it∈fp0->St i s.heap →
    (∀h',St (i+1) h'->itAt tt h' it a (i+1)) →
    wpAny (model X.prog X.w) X.A (pyNext (.ref e)) (λr s1=> ∃u,r=some u/\wpAny (model X.prog X.w) X.A (KF (.Tuple elts kk pos) (.ref e) u) (λ_ s2=> ∃x' H',Inv X pins σ H' s2/\RelV x' u/\(Gs X.K a tt).yld i H x' H' ∧
     ((∃old,IsEnum s2.heap e it (i+1:Nat) old)/\itAt tt s2.heap it a (i+1))/\∀b∈ [e,it],H' b=none) E s1) E s:=by
   intro its rv uniq fp0 St D hef hif hst hnext;obtain⟨u,hu,ru⟩:=rv.get hx
   have hlt:i<its.toArray.size:=by
    have:=(Ii.mp hu).1
    simpa using this
   have W:=WalksT.enumerateD D e hei hef hif;refine W.item i s _ _ hlt ⟨⟨old,he⟩,hst⟩ λTp vals h1 tk hPt hTsz hTup hMid hk=>⟨.ref Tp,rfl,?_⟩
   refine W.go elts kk pos i Tp { s with heap:=h1,toks:=tk } _ _ hMid λh2 hst2 hk2=> ?_
   obtain⟨t,x',hPx,hvals⟩:=hPt;subst hvals
   have hxe:x'=u:=by
    have h1':its.toArray[i]? =some x':=hPx
    have h2':its.toArray[i]? =some u:=by simpa using hu
    rw[h1']at h2';exact IT h2'
   subst hxe
   have hTw:=W.apart i Tp h1 hMid;obtain⟨oT,eT,rT⟩:=hTup
   have eT2:h2.get? Tp=some oT:=hk2 Tp oT hTw eT
   have kAll:∀b o,b∉ [e,it]->s.heap.get? b=some o->h2.get? b=some o:=λb o hb q=>hk2 b o hb (hk b o hb q)
   obtain⟨⟨old2,he2⟩,hs2⟩:=hst2
   have hit2:=hnext h2 hs2
   have there:∀b∈ [e,it],∃o,h2.get? b=some o:=λb hb=>by
    rcases HZ.mp hb with rfl | hb
    ·exact⟨_,he2⟩
    ·rw[Ir.mp hb];obtain⟨o,q,_⟩:=hit2.obj;exact⟨o,q⟩
   have hn:H Tp=none:=I.hok.fresh hTsz
   have new:ObjOk X.prog X.w (cz H Tp (.tup [.int (i:Nat),x])) h2 Tp (.tup [.int (i:Nat),x]):=
    ⟨by show 2<=sizeLine;decide,[.int (i:Nat) t,x'],.cons ⟨t,rfl⟩ (.cons ru .nil),⟨oT,eT2,rT⟩⟩
   have I2:=I.G3 (t':=tk) hf kAll there hTsz new;refine⟨.ref Tp,_,I2,rfl,⟨Tp,x,rfl,hn,rfl,λys hy=>by rw[uniq ys hy];exact hx⟩,⟨⟨old2,he2⟩,hit2⟩,λb hb=> ?_⟩
   have hbT:b≠Tp:=λz=>by
    obtain⟨o,q⟩:∃o,s.heap.get? b=some o:=by
     rcases HZ.mp hb with rfl | hb
     ·exact⟨_,he⟩
     ·rw[Ir.mp hb];obtain⟨o,q,_⟩:=hi.obj;exact⟨o,q⟩
    exact absurd (Ig (Ib q) hTsz) (by rw[z];exact Iz _)
   rw[aO hbT];exact(hf b hb).1
  have hne:∀b∈ [e,it],a≠b:=λb hb z=>by
   have hb':=(hf b hb).1;rw[<-z]at hb'
   have hbs:=hf b hb
   cases tt with
   | true=>
    have hq':SqT X.K H a xs:=hq;rcases hq' with(q | ⟨o,q⟩) | ⟨o,its,n,q,_⟩
    ·rw[hb']at q;cases q
    ·rw[hb']at q;cases q
    ·rcases hbs.2.2.2.1 with z1 | z1
     ·exact I.ok.noex a o (I.ok.mod.kin a o q) (z▸z1)
     ·exact absurd (Ig (Ib (I.ok.bs a o (I.ok.mod.kin a o q)).1) (z▸z1)) (Iz _)
   | false=>
    have hq':SqL X.K H a xs:=hq;rcases hq' with(q | ⟨o,q⟩) | ⟨o,its,n,q,_⟩
    ·rw[hb']at q;cases q
    ·rw[hb']at q;cases q
    ·rcases hbs.2.2.2.1 with z1 | z1
     ·exact I.ok.noex a o (I.ok.mod.kin a o q) (z▸z1)
     ·exact absurd (Ig (Ib (I.ok.bs a o (I.ok.mod.kin a o q)).1) (z▸z1)) (Iz _)
  have hea:e≠a:=λz=>hne e (by simp) z.symm
  have hia:it≠a:=λz=>hne it (by simp) z.symm
  cases tt with
  | true=>
   have hq':SqT X.K H a xs:=hq;obtain⟨its,rv,p,hz⟩:=I.tuple hq'
   exact key its rv (λys hy=>I.GJ hy hq') _ _ (Enu.tupDraws (A:=X.A.in1) (I.ok.hd hc) it a (Kv hia) its.toArray) (by simp[hei,hea]) (by simp) ⟨hi,p⟩ λh' z=>z.1
  | false=>
   have hq':SqL X.K H a xs:=hq;obtain⟨its,rv,p,hz⟩:=I.list hq';exact key its rv (λys hy=>I.GM hy hq') _ _ (Draws.list (A:=X.A.in1) (I.ok.hd hc) it a (Kv hia) its.toArray) (by simp[hei,hea]) (by simp) ⟨hi,p.isList⟩ λh' z=>z.1
 done:=by
  intro X hP hw hK hc i pins s σ H E I hf st hg;subst hP hw hK;obtain⟨xs,hq,hx⟩:=hg;obtain⟨⟨old,he⟩,hi⟩:=st
  have fin:∀h',Heap.ExtBut it s.heap h'->(none:Option HL)=none/\Inv X pins σ H { s with heap:=h' }:=λh' eb=>⟨rfl,I.GE (t':=s.toks) hf λb o hb q=>eb b o (λz=>hb (by simp[z])) q⟩
  cases tt with
  | true=>
   have hq':SqT X.K H a xs:=hq;obtain⟨its,rv,p,hz⟩:=I.tuple hq'
   have hl:=rv.length
   have hnone:its.toArray[i]? =none:=by simp;omega
   have hT:s.TypeIs (.ref e) "enumerate":=⟨_,he,rfl⟩;unfold pyNext;refine HM (Nc (Jq (name:=Ij "__next__") hT Nv (JS Nv hT F.entry_enumerate_next ?_ (F.args_enumerate_next_1 _))))
   show wpAny (model X.prog X.w) _ (field (.ref e) 2 >>= _) _ _ _
   refine HM (IW he rfl (x:=.ref it) rfl ?_)
   refine HM (Enu.tupStop (I.ok.hd hc) hi p hnone λh' x he' hx'=> ?_)
   obtain⟨o,ho,hcl⟩:=hx'
   exact HM (PK (T:="StopIteration") (b:=true) ⟨o,ho,hcl⟩ isSubtype_stop (HX (fin h' he')))
  | false=>
   have hq':SqL X.K H a xs:=hq;obtain⟨its,rv,p,hz⟩:=I.list hq'
   have hl:=rv.length
   have hnone:its.toArray[i]? =none:=by simp;omega
   exact wpAny_pyNext_enum_end (I.ok.hd hc) he hi p.isList hnone fin
 self:=λ_ _ _ _ _ st h=>by
  obtain⟨⟨old,he⟩,_⟩:=st;exact Pg he h
section
variable {X:Cx}{elts:List Expr}{kk:Nat}{tpos:Pos}
theorem lV:IC "enumerate" =some (.type "enumerate"):=by decide+kernel
def iEnu (K:HI)(tl:TA):TI:=λσ H R=>tl σ H λvs H1=> ∃a tt,vs= [.ref a]/\(∃xs,Bo K H1 a tt xs)/\R (Gs K a tt) H1
theorem zf {l:Expr}{tl:TA}{p pos:Pos}(hg:Gl X "enumerate")(hm:X.mg "enumerate" =none)(hl:PA X [l] tl)(hs:autoParam (Ik [l] X.env= [(false,eval l X.env)]) u_):PI X (.Tuple elts kk tpos) (.Call (.Name "enumerate" p) [l] [] pos) (iEnu X.K tl):=by
 intro pins s σ H R I h;refine Call_ (dX I hg hm lV (JO (bF (hl pos pins s σ H _ I h) λus s1 ⟨vs,H1,I1,r1,q1⟩=> ?_) hs rfl))
 obtain⟨a,tt,e,⟨xs,hq⟩,q⟩:=q1;subst e;obtain⟨u,rfl,ru⟩:=jg r1;cases ru
 have fin:∀h',IsEnum h' (s1.heap.objs.size+1) s1.heap.objs.size 0 .none->itAt tt h' s1.heap.objs.size a 0->h'.objs.size=s1.heap.objs.size+2->(∀b o,s1.heap.get? b=some o->h'.get? b=some o) →
   wpAny (model X.prog X.w) X.A (pyIter (.ref (s1.heap.objs.size+1))) (Gq X pins σ (.Tuple elts kk tpos) R) X.xe { s1 with heap:=h' }:=λh' he hi hsz hk=>by
  refine Pg he ?_
  have I2:Inv X pins σ H1 { s1 with heap:=h' }:=I1.kept (t':=s1.toks) hk
  refine⟨s1.heap.objs.size+1,[s1.heap.objs.size+1,s1.heap.objs.size],_,_,H1,rfl,I2,tU tt a (s1.heap.objs.size+1) s1.heap.objs.size (Nat.succ_ne_self _),⟨⟨_,he⟩,hi⟩,λb hb=> ?_,q⟩
  rcases HZ.mp hb with rfl | hb
  ·exact I1.GO (by omega) (I1.hok.fresh (by omega))
  ·rw[Ir.mp hb];exact I1.GO (Ia _) (I1.hok.fresh (Ia _))
 cases tt with
 | true=>
  have hq':SqT X.K H1 a xs:=hq;obtain⟨its,rv,pl,hz⟩:=I1.tuple hq'
  exact Enu.callT pl λh' he hi hsz hk=>fin h' he hi hsz hk
 | false=>
  have hq':SqL X.K H1 a xs:=hq;obtain⟨its,rv,pl,hz⟩:=I1.list hq';exact call_enumerate_list pl.isList λh' he hi hsz hk=>fin h' he hi hsz hk
end
end L2
namespace Tr
open PySem PySem.Spec PyProof.Rows L2
section
variable {X:Cx}{a:Expr}{fa:En->Rs T}{fs:En->Rs (List T)}{p pos:Pos}
def iS (f:En->Rs T)(ρ:En):Rs (List T):=do
 let x <-f ρ
 match x with
 | .lst l=> .ok l
 | .tup l=> .ok l
 | _=> .bad
theorem B8 {tg:Expr}(ha:cL X a fa):yc X tg a (iS fa):=by
 intro pins s σ H R I ⟨ρ,O,E,h⟩;unfold iS at h
 cases q:fa ρ with
 | bad=>rw[q]at h;exact h.elim
 | err c=>exact sh ha pins s σ H R I ⟨ρ,O,E,by unfold iL;rw[q]at h ⊢;exact h⟩
 | ok x=>
  rw[q,aC]at h
  cases x with
  | lst l=>exact sh ha pins s σ H R I ⟨ρ,O,E,by unfold iL;rw[q];exact h⟩
  | tup l=>exact B7 ha pins s σ H R I ⟨ρ,O,E,by unfold iT;rw[q];exact h⟩
  | _=>exact h.elim
def de:Nat->List T->List T
 | _,[] => []
 | n,t::r=> .tup [.int n,t] ::de (n+1) r
theorem jX:∀(l:List T) (n i:Nat),(de n l)[i]? =(l[i]?).map λt=>T.tup [.int ((n+i:Nat):Int),t]
 | [],n,i=>by simp[de]
 | t::l,n,0=>by simp[de]
 | t::l,n,i+1=>by
  rw[de,M6,jX l (n+1) i,M6]
  congr 2
  funext t
  congr 4
  omega
theorem nr:∀(l:List T) (n:Nat),(de n l).length=l.length
 | [],n=>rfl
 | t::l,n=>by rw[de,HR,HR,nr l]
def iE (f:En->Rs (List T))(ρ:En):Rs (List T):=do
 let xs <-f ρ
 match xs with
 | [x] =>match x.items with
  | some l=> .ok (de 0 l)
  | none=> .bad
 | _=> .bad
theorem yV {elts:List Expr}{kk:Nat}{tpos:Pos}(hm:X.mg "enumerate" =none)(ha:o4 X [a] fs)(hg:autoParam (Gl X "enumerate") u_)(hs:autoParam (Ik [a] X.env= [(false,eval a X.env)]) u_) :
  yc X (.Tuple elts kk tpos) (.Call (.Name "enumerate" p) [a] [] pos) (iE fs):=PI.imp (zf hg hm ha hs) λσ H R hh_=>by
 obtain⟨ρ,O,E,h⟩:=hh_;obtain⟨ρ1,O1,E1,h1⟩:=dH E h;refine⟨ρ1,O1,E1,Post.mono h1 λts H1 s1 q vs r=> ?_⟩
 obtain⟨t',r',s',E',q'⟩:=q vs r
 split at q'
 ·rename_i x0
  obtain⟨v,rfl,rv⟩:=r'.one
  split at q'
  ·rename_i l hl
   have main:∀(aa:Addr) (tt:Bool) (ws:List V),v= .ref aa->¬ O aa->Reps X.K O H1 l ws->Bo X.K H1 aa tt ws->(∀P Hc,SameO P H1 Hc->¬ P aa->Bo X.K Hc aa tt ws)->¬ Nw X.K H1 aa →
     ∃a tt,[v] = [V.ref a]/\(∃xs,Bo X.K H1 a tt xs)/\R (Gs X.K a tt) H1:=λaa tt ws e n z sq mv nn=>by
    refine⟨aa,tt,by rw[e],⟨ws,sq⟩,q' H1 (Same.refl H1) _ λP O' hP hO i Hc hsm htr=> ?_⟩
    have hnP:¬ P aa:=λy=>(hP aa y).elim n nn
    have sqc:=mv P Hc hsm hnP;refine⟨λhi=>⟨ws,sqc,by rw[<-z.length,<-nr l 0];exact hi⟩,λt ht=> ?_⟩
    rw[jX]at ht
    cases e1:l[i]? with
    | none=>rw[e1]at ht;cases ht
    | some t0=>
     rw[e1]at ht;cases ht;obtain⟨v0,f1,f2⟩:=z.get e1;refine⟨⟨ws,v0,sqc,f1⟩,λx Hc' y=> ?_⟩
     obtain⟨pp,vv,e2,hpn,e3,hy⟩:=y
     have:=hy ws sqc;rw[f1]at this;cases this;subst e2 e3;refine⟨aV hpn _,dI hpn (λzz=> ?_) (Reps.Gw (by simpa using Rep.GA _) (Reps.Gw (f2.move hP hO hsm) Reps.Gz))⟩
     obtain⟨o,w⟩:=htr pp zz;rw[hpn]at w;cases w
   cases x0 with
   | tup m=>
    cases hl;obtain⟨aa,ws,e,n,qq,z⟩:=Rep.Fk.mp rv
    exact main aa true ws e n z (show SqT X.K H1 aa ws from SqT.of qq) (λP Hc hsm hn=>show SqT X.K Hc aa ws from SqT.of (hsm _ _ qq hn)) λw=>by rw[w.1]at qq;cases qq
   | lst m=>
    cases hl;obtain⟨aa,ws,e,n,qq,z⟩:=Rep.FB.mp rv
    exact main aa false ws e n z (show SqL X.K H1 aa ws from SqL.of qq) (λP Hc hsm hn=>show SqL X.K Hc aa ws from SqL.of (hsm _ _ qq hn)) λw=>by rw[w.1]at qq;cases qq
   | scr m=>
    cases hl;unfold Rep at rv;obtain⟨aa,e,n,qq⟩:=rv
    exact main aa false _ e n Reps.ints (show SqL X.K H1 aa _ from qq) (λP Hc hsm hn=>show SqL X.K Hc aa _ from Tr.SqL.keep hsm hn qq) (Tr.SqL.nn qq)
   | _=>cases hl
  ·exact q'.elim
 ·exact q'.elim
end
end Tr
namespace Tm
open PySem PyProof.Rows
theorem jR:fillsNumberSlot (.type "tuple") "mul" =pure false:=
 PySem.fillsNumberSlot_seq (id:="tuple.__mul__") (r:=some (.builtin "tuple.__rmul__")) Ng.lookup (by decide+kernel) O7.lookup (by decide+kernel)
theorem nZ:seqRepeat? (.type "tuple")=pure (some (.builtin "tuple.__mul__")):=by
 unfold seqRepeat?;rw[PC (T:="tuple") (name:="__mul__") (id:="tuple.__mul__") Ng.lookup (by decide+kernel),PC (T:="tuple") (name:="__rmul__") (id:="tuple.__rmul__") O7.lookup (by decide+kernel)]
 rfl
theorem qS (a:Int)(t:Tok)(l:Addr)(items:Array HL)(n:Nat)(dd:Option Addr)(sl:Array (Option HL)) :
  Meets (Builtin.«int.__rmul__» ⟨[.int a t,.ref l],[]⟩) (λ_ R s=>s.heap.get? l=some { cls:=.type "tuple",dict:=dd,data:=.seq items n,slots:=sl }/\R (.ok (.ret Value.notImplemented)) s):=
 .of_wp λprog w A R s h=>by obtain⟨hp,g,d,tk,os⟩:=s;obtain⟨hl,h⟩:=h;wp_walk;exact⟨_,rfl,h⟩
open AutoSeq1 (wpAny_loadPart')
theorem wU (l:Addr)(items:Array HL)(n:Nat)(dd:Option Addr)(sl:Array (Option HL))(x:Int)(u:Tok)(h1:1<x)(h2:x<2 ^ 31)(hne:items.isEmpty=false)(hz:items.size*x.toNat<=sizeLine)
  (hz2:(MR (λa b=>a++b) #[] (Iy x.toNat items)).size<=sizeLine) :
  Meets (Builtin.«tuple.__mul__» ⟨[.ref l,.int x u],[]⟩) (λ_ R s=>s.heap.get? l=some { cls:=.type "tuple",dict:=dd,data:=.seq items n,slots:=sl } ∧
   R (.ok (.ret (IB s.heap.objs.size))) { s with heap:=s.heap.push { cls:=KS "tuple",data:=Data.seq (MR (λa b=>a++b) #[] (Iy x.toNat items)) } }):=
 .of_wp λprog w A R s h=>by
  obtain⟨hp,g,d,tk,os⟩:=s;obtain⟨hl,h⟩:=h
  have hT:Qc hp l items:=⟨_,hl,rfl,n,rfl⟩
  have hx:((items.size:Nat):Int)*x=((items.size*x.toNat:Nat):Int):=by
   have e:x=((x.toNat:Nat):Int):=by omega
   rw[Int.natCast_mul,<-e]
  wp_walk using KH hl
  rw[if_neg (by simp;omega)]
  refine HM (OJ (s:=⟨hp,g,d,tk,os⟩) hT ?_)
  dsimp only
  rw[if_neg (by rw[hne];simp;omega),if_neg (by rw[hne];simp;omega),hx,if_neg (by have:(sizeLine:Nat)<=1000000000:=(by decide);omega),if_neg (by unfold Builtin.Tuple.tupleTooMany;rw[decide_eq_true_iff];omega)]
  refine HM (m:=J5 _) (JM ?_ hz2)
  exact HX ⟨_,rfl,h⟩
section
variable {prog:Ip}{w:IV}{A:IE}{E:HL->HJ->Prop}{s:HJ}
theorem mul_tuple {t:Addr}{vs:List HL}{k:Int}{tk:Tok}{Q:HL->HJ->Prop}(ht:Qc s.heap t vs.toArray)(h1:1<k)(h2:k<2 ^ 31)(hv:vs≠ [])(hz:vs.length*k.toNat<=sizeLine)
  (h:Q (.ref s.heap.objs.size) { s with heap:=s.heap.push { cls:=.type "tuple",data:=.seq (Iy k.toNat vs).flatten.toArray } }) :
  wpAny (model prog w) A (J8 .Mult (.ref t) (.int k tk)) Q E s:=by
 obtain⟨⟨cls,dd,data,sl⟩,ho,hc,n,hd⟩:=id ht;simp only at hc hd;subst hc hd
 have e:MR (λa b=>a++b) #[] (Iy k.toNat vs.toArray)=(Iy k.toNat vs).flatten.toArray:=by
  have q:=L2.foldl_rep vs k.toNat []
  simpa using q
 refine MK (T:="tuple") (U:="int") (by decide) ⟨_,ho,rfl⟩ (λs'=>NP s' k tk) jR PV Me nZ Pz.lookup
  (KG Me (NP s k tk) PB (O5 _ _) (qS k tk t vs.toArray n dd sl)
   ⟨ho,rfl,⟨_,ho,rfl⟩,KG Ng ⟨_,ho,rfl⟩ F.entry_tuple_mul (F.args_tuple_mul_2 _ _) (wU t vs.toArray n dd sl k tk h1 h2 (by simpa using hv) (by simpa using hz) (by rw[e,Il,L2.len_rep,Pj];exact hz)) ⟨ho,?_⟩⟩)
 rw[e];exact h
end
end Tm
namespace Tr
open PySem PySem.Spec PyProof.Rows L2
section
variable {X:Cx}
def cj (x y:T):Rs T:=match x,y with
 | .tup l,.int k=>if 1<k/\k<2 ^ 31/\l≠ []/\l.length*k.toNat<=sizeLine then .ok (.tup (Iy k.toNat l).flatten)else .bad
 | x,y=>rh x y
instance (l:List T):Decidable (l≠ []):=by cases l <;> simp <;> infer_instance
theorem dJ:OpT X (J8 .Mult) cj:=by
 intro pins s σ H O x y vx vy ux uy Q I hf rx ry r1 r2 hp;unfold cj at hp
 split at hp
 ·rename_i l k
  split at hp
  ·rename_i h
   obtain⟨a,vs,e1,n1,q1,z1⟩:=Rep.Fk.mp rx;subst e1;cases Rep.Do.mp ry;cases r1;obtain⟨tk,rfl⟩:=r2;obtain⟨its,rv,pl,hz⟩:=I.tuple (SqT.of q1)
   have hl1:=z1.length
   have hl2:=rv.length
   have hne:its≠ []:=λz=>h.2.2.1 (List.eq_nil_of_length_eq_zero (by rw[hl1,hl2,z];rfl))
   refine Tm.mul_tuple pl h.1 h.2.1 hne (by rw[<-hl2,<-hl1];exact h.2.2.2) ?_
   have hn:=I.hok.fresh (Ia _);refine⟨.ref _,_,I.laid (t':=s.toks) (o:=.tup (Iy k.toNat vs).flatten) (λb ob q=>HN _ q) (Ia _) ?_,rfl,hp _ (aV hn _) _ (dI hn (hf _ hn) (z1.rep _))⟩
   refine⟨?_,_,rv.rep k.toNat,Oi _ _⟩
   rw[len_rep,Pj,<-hl1];exact h.2.2.2
  ·exact hp.elim
 ·exact Cq pins s σ H O _ _ vx vy ux uy Q I hf rx ry r1 r2 hp
end
def zE (outer:List (Str×K1))(N:List Str)(names:List (Str×K1))(N':List Str)(src:List (Option Nat)):Bool:=
 names.all (λy=>y.2 != .cell||names.lookup y.1 == some .cell)&&names.all (λy=>y.2 != .local||names.lookup y.1 == some .local)&&src.length == N'.length&&
 (Js N'.length).all (λj=>match src[j]? with
  | some (some i)=>match N'[j]? with
   | some x=>N[i]? == some x&&names.lookup x == some .free
   | none=>true
  | _=>true)&&
 names.all (λy=>y.2 != .free||(outer.lookup y.1 == some .cell||outer.lookup y.1 == some .free))
theorem LcScope.by {X:Cx}{scope:K2}{N N':List Str}{src:List (Option Nat)}{names:List (Str×K1)}(hN:X.N=N)(hs:X.env.scope.names=names)(hk:scope.kind= .function)(h:zE names N scope.names N' src=true):LcScope X scope N' src:=by
 unfold zE at h;simp only[HS]at h;obtain⟨⟨⟨⟨h1,h2⟩,h3⟩,h4⟩,h5⟩:=h
 have a1:=ID.mp h1
 have a2:=ID.mp h2
 have a4:=ID.mp h4
 have a5:=ID.mp h5;refine⟨hk,λy hy hl=>by have:=a1 y hy;rw[hl]at this;simpa using this,λy hy hl=> ?_,by simpa using h3,λj i x e1 e2=> ?_,λx hx=> ?_⟩
 ·have:=a2 y hy
  rw[hl]at this
  simpa using this
 ·have hj:j<N'.length:=(Ii.mp e2).1
  have:=a4 j (JN.mpr hj);rw[e1]at this;simp only[e2]at this;rw[HS]at this;rw[hN];exact⟨by simpa using this.1,by simpa using this.2⟩
 ·have:=a5 _ hx
  simp only[bne_self_eq_false,Om,PY]at this
  show X.env.scope.names.lookup x=_\/X.env.scope.names.lookup x=_
  rw[hs];rcases this with z | z
  ·exact .inl (by simpa using z)
  ·exact .inr (by simpa using z)
def cR:Expr->Bool
 | .Starred .. =>false
 | _=>true
def a7:List Expr->Bool
 | [] =>true
 | e::r=>cR e&&a7 r
theorem bu {e:Expr}{es:List Expr}{env:Env}(h:cR e=true):Ik (e::es) env=(false,eval e env)::Ik es env:=by
 cases e <;> first | rfl | cases h
theorem eC {pos:Pos}{env:Env}:∀{es:List Expr},a7 es=true->(backTo pos (Ik es env)).any (·.1)=false
 | [],_=>rfl
 | e::r,h=>by
  unfold a7 at h;rw[HS]at h;rw[bu h.1]
  have ih:=eC (pos:=pos) (env:=env) h.2
  show(false||(backTo pos (Ik r env)).any (·.1))=false
  rw[ih];rfl
section
variable {X:Cx}{a b e:Expr}{es:List Expr}{fa:En->Rs T}{fs:En->Rs (List T)}{pos p p2:Pos}{x:Str}
theorem qa_c {f:En->Rs T}{g:En->Rs (List T)}(he:cL X e f)(hr:o4 X es g)(hn:autoParam (cR e=true) u_):o4 X (e::es) (ae f g):=yY he hr (bu hn)
theorem q_cB {id:String}{g:List T->Rs T}(hc:CallT X (.builtin id) g)(hm:X.mg x=none)(hv:IC x=some (.builtin id))(ha:o4 X (e::es) fs)(hn:autoParam (a7 (e::es)=true) u_)(hg:autoParam (Gl X x) u_)(h1:autoParam (x≠ "__name__") s_)(h2:autoParam ((x == ("__debug__" : Str))=false) s_) :
  cL X (.Call (.Name x p) (e::es) [] pos) (cl g fs):=by
 unfold a7 at hn;rw[HS]at hn;exact y1 hc hm hv ha hg h1 h2 (bu hn.1) (eC hn.2)
theorem q_cT {Ty:String}{g:List T->Rs T}(hc:CallT X (.type Ty) g)(hm:X.mg x=none)(hv:IC x=some (.type Ty))(ha:o4 X (e::es) fs)(hn:autoParam (a7 (e::es)=true) u_)(hg:autoParam (Gl X x) u_)(h1:autoParam (x≠ "__name__") s_)(h2:autoParam ((x == ("__debug__" : Str))=false) s_) :
  cL X (.Call (.Name x p) (e::es) [] pos) (cl g fs):=by
 unfold a7 at hn;rw[HS]at hn;exact v5 hc hm hv ha hg h1 h2 (bu hn.1) (eC hn.2)
theorem q_c {n k:Nat}{f:Addr}{fd:Je}{ps:List Str}{g:List T->Rs T}(F:DJ X.prog X.w X.K X.mg X.base k f fd ps n g)(hr:Room k X.A)(hm:X.mg x=some (.ref f))(hk:KR X.K (.ref f)=true)(hb:Binds X.K fd ps [])
  (hl:∀ρ ts,fs ρ= .ok ts->ts.length=n) (ha:o4 X (e::es) fs) (hps:autoParam (ps.length=n) u_) (hn:autoParam (a7 (e::es)=true) u_) (hg:autoParam (Gl X x) u_) (h2:autoParam ((x == ("__debug__" : Str))=false) s_):cL X (.Call (.Name x p) (e::es) [] pos) (cl g fs):=by
 unfold a7 at hn;rw[HS]at hn;exact Cd F hr hm hk hb hps hl ha hg h2 (bu hn.1) (eC hn.2)
theorem q_is {tn:Str}{Ty:String}(hm:X.mg "isinstance" =none)(hmt:X.mg tn=none)(hv:IC tn=some (.type Ty))(ha:cL X a fa)(hn:autoParam (cR a=true) u_)(hg:autoParam (Gl X "isinstance") u_)(hgt:autoParam (Gl X tn) u_)
  (h1:autoParam (tn≠ "__name__") s_) (h2:autoParam ((tn == ("__debug__" : Str))=false) s_):cL X (.Call (.Name "isinstance" p) [a,.Name tn p2] [] pos) (o1 (yh Ty) fa):=
 EL hm hmt hv ha hg hgt h1 h2 (bu hn) (eC rfl) (bu rfl)
end
theorem Bk (ρ:En)(ts:List T)(h:ai ρ= .ok ts):ts.length=0:=by cases h;rfl
theorem Bj {n:Nat}{f:En->Rs T}{g:En->Rs (List T)}(hg:∀ρ ts,g ρ= .ok ts->ts.length=n)(ρ:En)(ts:List T)(h:ae f g ρ= .ok ts):ts.length=n+1:=by
 unfold ae at h
 cases q:f ρ with
 | bad=>rw[q]at h;cases h
 | err c=>rw[q]at h;cases h
 | ok t=>
  rw[q,aC]at h
  cases q2:g ρ with
  | bad=>rw[q2]at h;cases h
  | err c=>rw[q2]at h;cases h
  | ok r=>
   rw[q2,aC]at h;cases h;rw[HR,hg ρ r q2]
theorem fH {k:Nat}{A:IE}(h:Room k A):A.units+60<cLine:=by have:=h.un;omega
structure Fn (K:HI)(mg:Str->Option HL)(x:Str)(st:Stmt)(ps:List Str)(f:Addr)(fd:Je):Prop where
 fn:L2.Fun K x x st f fd
 bd:Binds K fd ps []
 mg:mg x=some (.ref f)
def val (n m:Nat)(F:En->Rs Fl)(ts:List T):Rs T:=if ts.length=n then bh F (aG m ts)else .bad
theorem vh {n m:Nat}{F:En->Rs Fl}{ts:List T}{t:T}(h:val n m F ts= .ok t):bh F (aG m ts)= .ok t:=by
 unfold val at h
 split at h
 ·exact h
 ·cases h
theorem sp_script {K:HI}{H:Hp}{a:Addr}{ns:List Int}{g:List T->Rs T}{E:XK}(hS:SqL K H a (ns.map V.int))(h:g [.scr ns] = .ok (.bl true)):spP K 1 g [.ref a] H (λv _=>v= .bl true) E:=by
 refine⟨[.scr ns],λ_=>False,Reps.Gw ?_ Reps.Gz,λ_ z=>z.elim,rfl,?_⟩
 ·unfold Rep;exact⟨a,rfl,λz=>z,hS⟩
 ·rw[h];exact λv H' _ r=>Rep.Gc.mp r
theorem pH {α:Type}{l:List α}{i:Nat}{z:α}(h:l[i]? =some z):l.set i z=l:=by
 obtain⟨hi,rfl⟩:=Ii.mp h
 exact List.set_getElem_self hi
def Mn.set (M:Mn)(i:Nat)(m:Ow):Mn:=λj=>if j=i then m else M j
theorem Mn.GN {M:Mn}{i:Nat}{m:Ow}{a:Addr}(h:(M.set i m).u a):m a\/M.u a:=by
 obtain⟨j,h⟩:=h;unfold Mn.set at h
 by_cases z:j=i
 ·rw[if_pos z]at h;exact .inl h
 ·rw[if_neg z]at h;exact .inr ⟨j,h⟩
theorem Mn.Hf {M:Mn}{i:Nat}{m:Ow}:M.set i m i=m:=by unfold Mn.set;rw[if_pos rfl]
theorem Mn.GR {M:Mn}{i j:Nat}{m:Ow}(h:j≠i):M.set i m j=M j:=by unfold Mn.set;rw[if_neg h]
theorem RowsR.move {K:HI}{O O' P:Ow}{H H':Hp}(hP:∀a,P a->O a\/Nw K H a)(hO:∀a,O' a->O a\/Nw K H a)(h:SameO P H H'):∀{rs:List (List T×List T)} {as:List Addr},(∀b∈as,¬P b)->RowsR K O H rs as->RowsR K O' H' rs as
 | [],_,_,r=>r
 | _::_,_,hb,⟨b,bs,kvs,e1,e2,e3,e4,e5⟩=>by
  subst e1;exact⟨b,bs,kvs,rfl,h _ _ e2 (hb b HU),e3,e4.move hP hO h,e5.move hP hO h λc hc=>hb c (HQ _ hc)⟩
theorem LsR.move {K:HI}{O O' P:Ow}{H H':Hp}(hP:∀a,P a->O a\/Nw K H a)(hO:∀a,O' a->O a\/Nw K H a)(h:SameO P H H'):∀{rs:List (List T)} {as:List Addr},(∀b∈as,¬P b)->LsR K O H rs as->LsR K O' H' rs as
 | [],_,_,r=>r
 | _::_,_,hb,⟨b,bs,vs,e1,e2,e4,e5⟩=>by
  subst e1;exact⟨b,bs,vs,rfl,h _ _ e2 (hb b HU),e4.move hP hO h,e5.move hP hO h λc hc=>hb c (HQ _ hc)⟩
theorem ORep.move {K:HI}{O O' P M:Ow}{H H':Hp}{o:OT}{v:V}(hP:∀a,P a->O a\/Nw K H a)(hO:∀a,O' a->O a\/Nw K H a)(h:SameO P H H')(hM:∀a,M a->¬ P a)(r:ORep K O M H o v):ORep K O' M H' o v:=by
 cases o with
 | lst l=>obtain⟨a,vs,e1,e2,e3,e4⟩:=r;exact⟨a,vs,e1,e2,h _ _ e3 (hM a ((e2 a).mpr rfl)),e4.move hP hO h⟩
 | dct ks ts=>obtain⟨a,kvs,e1,e2,e3,e4,e5⟩:=r;exact⟨a,kvs,e1,e2,h _ _ e3 (hM a ((e2 a).mpr rfl)),e4,e5.move hP hO h⟩
 | dd ks rows=>
  obtain⟨a,kvs,as,e1,e2,e3,e4,e5,e6,e7,e8⟩:=r
  exact⟨a,kvs,as,e1,e2,e3,e4,h _ _ e5 (hM a ((e2 a).mpr (.inl rfl))),e6,e7,e8.move hP hO h λb hb=>hM b ((e2 b).mpr (.inr hb))⟩
 | ob C ns ls=>
  obtain⟨a,dx,as,e1,e2,e3,e4,e5,e6,e7,e8⟩:=r
  exact⟨a,dx,as,e1,e2,e3,h _ _ e4 (hM a ((e2 a).mpr (.inl rfl))),h _ _ e5 (hM dx ((e2 dx).mpr (.inr (.inl rfl)))),e6,e7,e8.move hP hO h λb hb=>hM b ((e2 b).mpr (.inr (.inr hb)))⟩
 | ll ls=>
  obtain⟨a,as,e1,e2,e3,e4,e5,e6⟩:=r;exact⟨a,as,e1,e2,e3,e4,h _ _ e5 (hM a ((e2 a).mpr (.inl rfl))),e6.move hP hO h λb hb=>hM b ((e2 b).mpr (.inr hb))⟩
theorem RowsR.mtb {K:HI}{O:Ow}{H:Hp}:∀{rs:List (List T×List T)} {as:List Addr},RowsR K O H rs as->∀b∈as,∃kvs,H b=some (.dT kvs)
 | [],_,r,b,hb=>by unfold RowsR at r;subst r;simp at hb
 | _::_,_,⟨b0,bs,kvs,e1,e2,e3,e4,e5⟩,b,hb=>by
  subst e1;rcases HZ.mp hb with rfl | hb
  ·exact⟨kvs,e2⟩
  ·exact e5.mtb b hb
theorem LsR.mtb {K:HI}{O:Ow}{H:Hp}:∀{rs:List (List T)} {as:List Addr},LsR K O H rs as->∀b∈as,∃vs,H b=some (.lst vs)
 | [],_,r,b,hb=>by unfold LsR at r;subst r;simp at hb
 | _::_,_,⟨b0,bs,kvs,e1,e2,e4,e5⟩,b,hb=>by
  subst e1;rcases HZ.mp hb with rfl | hb
  ·exact⟨kvs,e2⟩
  ·exact e5.mtb b hb
def LO (H:Hp)(a:Addr):Prop:=(∃vs,H a=some (.lst vs))\/∃o,H a=some o/\isO o=true
def OT.isD:OT->Bool
 | .lst _=>false
 | .ob _ _ _=>false
 | .ll _=>false
 | _=>true
theorem ORep.kind {K:HI}{O M:Ow}{H:Hp}{o:OT}{v:V}(r:ORep K O M H o v):∀a,M a->if o.isD then ∃kvs,H a=some (.dT kvs)else LO H a:=λa z=>by
 cases o with
 | lst l=>obtain⟨b,vs,e1,e2,e3,e4⟩:=r;cases (e2 a).mp z;exact .inl ⟨vs,e3⟩
 | dct ks ts=>obtain⟨b,kvs,e1,e2,e3,e4,e5⟩:=r;cases (e2 a).mp z;exact⟨kvs,e3⟩
 | dd ks rows=>
  obtain⟨b,kvs,as,e1,e2,e3,e4,e5,e6,e7,e8⟩:=r
  rcases(e2 a).mp z with z | z
  ·cases z;exact⟨kvs,e5⟩
  ·exact e8.mtb a z
 | ob C ns ls=>
  obtain⟨b,dx,as,e1,e2,e3,e4,e5,e6,e7,e8⟩:=r
  rcases(e2 a).mp z with z | z | z
  ·cases z;exact .inr ⟨_,e4,rfl⟩
  ·cases z;exact .inr ⟨_,e5,rfl⟩
  ·exact .inl (e8.mtb a z)
 | ll ls=>
  obtain⟨b,as,e1,e2,e3,e4,e5,e6⟩:=r
  rcases(e2 a).mp z with z | z
  ·cases z;exact .inl ⟨_,e5⟩
  ·exact .inl (e6.mtb a z)
theorem ORep.mtb {K:HI}{O M:Ow}{H:Hp}{o:OT}{v:V}(r:ORep K O M H o v)(a:Addr)(z:M a):Mtb H a:=by
 have:=r.kind a z
 split at this
 ·exact .inr (.inl this)
 ·exact this.imp_right .inr
theorem pK {K:HI}{O:Ow}{H:Hp}:∀{rs:List (List T×List T)} {as:List Addr},(∀b∈as,¬O b)->RowsR K O H rs as->Reps K O H (rs.map λr=>T.dct r.1 r.2) (as.map V.ref)
 | [],_,_,r=>by unfold RowsR at r;subst r;exact Reps.Gz
 | _::_,_,hn,⟨b,bs,kvs,e1,e2,e3,e4,e5⟩=>by
  subst e1;exact Reps.Gw (Rep.GB.mpr ⟨b,kvs,rfl,hn b HU,.inl e2,e3,e4⟩) (pK (λc hc=>hn c (HQ _ hc)) e5)
theorem RowsR.less {K:HI}{O O':Ow}{H:Hp}(sub:∀a,O' a->O a):∀{rs:List (List T×List T)} {as:List Addr},RowsR K O H rs as->RowsR K O' H rs as
 | [],_,r=>r
 | _::_,_,⟨b,bs,kvs,e1,e2,e3,e4,e5⟩=>⟨b,bs,kvs,e1,e2,e3,e4.less sub,e5.less sub⟩
theorem LsR.less {K:HI}{O O':Ow}{H:Hp}(sub:∀a,O' a->O a):∀{rs:List (List T)} {as:List Addr},LsR K O H rs as->LsR K O' H rs as
 | [],_,r=>r
 | _::_,_,⟨b,bs,kvs,e1,e2,e4,e5⟩=>⟨b,bs,kvs,e1,e2,e4.less sub,e5.less sub⟩
theorem LsR.rep {K:HI}{O:Ow}{H:Hp}:∀{rs:List (List T)} {as:List Addr},(∀b∈as,¬O b)->LsR K O H rs as->Reps K O H (rs.map T.lst) (as.map V.ref)
 | [],_,_,r=>by unfold LsR at r;subst r;exact Reps.Gz
 | _::_,_,hn,⟨b,bs,kvs,e1,e2,e4,e5⟩=>by
  subst e1;exact Reps.Gw (Rep.FB.mpr ⟨b,kvs,rfl,hn b HU,e2,e4⟩) (LsR.rep (λc hc=>hn c (HQ _ hc)) e5)
theorem nJ {α β:Type}:∀{l:List α} {m:List β},l.length=m.length->(l.zip m).map (·.1)=l
 | [],[],_=>rfl
 | a::l,b::m,h=>by
  have h':l.length=m.length:=by simpa using h
  show a::(l.zip m).map (·.1)=_
  rw[nJ h']
theorem nI {α β:Type}:∀{l:List α} {m:List β},l.length=m.length->(l.zip m).map (·.2)=m
 | [],[],_=>rfl
 | a::l,b::m,h=>by
  have h':l.length=m.length:=by simpa using h
  show b::(l.zip m).map (·.2)=_
  rw[nI h']
theorem ORep.rep {K:HI}{O O' M:Ow}{H:Hp}{o:OT}{v:V}(sub:∀a,O' a->O a)(hn:∀a,M a->¬ O' a)(r:ORep K O M H o v):Rep K O' H o.view v:=by
 cases o with
 | lst l=>obtain⟨a,vs,e1,e2,e3,e4⟩:=r;exact Rep.FB.mpr ⟨a,vs,e1,hn a ((e2 a).mpr rfl),e3,e4.less sub⟩
 | dct ks ts=>obtain⟨a,kvs,e1,e2,e3,e4,e5⟩:=r;exact Rep.GB.mpr ⟨a,kvs,e1,hn a ((e2 a).mpr rfl),.inl e3,e4,e5.less sub⟩
 | dd ks rows=>
  obtain⟨a,kvs,as,e1,e2,e3,e4,e5,e6,e7,e8⟩:=r;refine Rep.GB.mpr ⟨a,kvs,e1,hn a ((e2 a).mpr (.inl rfl)),.inl e5,e6,?_⟩
  rw[e7]
  exact pK (λb hb=>hn b ((e2 b).mpr (.inr hb))) (e8.less sub)
 | ob C ns ls=>
  obtain⟨a,dx,as,e1,e2,e3,e4,e5,e6,e7,e8⟩:=r
  have hl:ns.length=(as.map V.ref).length:=by rw[HP];exact e6
  refine Rep.GY.mpr ⟨a,dx,_,e1,⟨⟨hn a ((e2 a).mpr (.inl rfl)),hn dx ((e2 dx).mpr (.inr (.inl rfl))),e5⟩,as,nI hl,e3.1,e3.2.1,e3.2.2.1,e3.2.2.2,by rw[nJ hl];exact e7⟩,e4,nJ hl,?_⟩
  rw[nI hl]
  exact(e8.less sub).rep λb hb=>hn b ((e2 b).mpr (.inr (.inr hb)))
 | ll ls=>
  obtain⟨a,as,e1,e2,e3,e4,e5,e6⟩:=r;exact Rep.FB.mpr ⟨a,_,e1,hn a ((e2 a).mpr (.inl rfl)),e5,(e6.less sub).rep λb hb=>hn b ((e2 b).mpr (.inr hb))⟩
section
variable {K:HI}{B:Ow}{M:Mn}{H H':Hp}{ρ:En}{σ:L2.St}{i:Nat}{o o':OT}{v:V}{m:Ow}
theorem Ev.new (E:Ev K B M H ρ σ)(hl:i<ρ.length)(hm:∀a,m a->Nw K H a)(s:Same H H')(r:ORep K (OO B (M.set i m)) m H' o v) :
  Ev K B (M.set i m) H' (ρ.set i (.ow o)) (σ.set i (some v))/\∀a,(M.set i m).u a->M.u a\/Nw K H a:=by
 have hls:i<σ.length:=by rw[<-E.env.len];exact hl
 have sub:∀a,(M.set i m).u a->M.u a\/Nw K H a:=λa z=>(Mn.GN z).elim (λw=> .inr (hm a w)) .inl
 have subO:∀a,OO B (M.set i m) a->OO B M a\/Nw K H a:=λa z=>z.elim (λw=> .inl (.inl w)) λw=>(sub a w).elim (λy=> .inl (.inr y)) .inr
 have dj:∀a,Nw K H a->¬ OO B M a:=λa w z=>by
  obtain⟨o,e⟩:=(E.env.trk a z).some;rw[w.1]at e;cases e
 refine⟨⟨⟨by rw[JQ,JQ];exact E.env.len,λj t e=> ?_,λj o' e=> ?_,λj a z=> .inr ⟨j,z⟩,λj k a z1 z2=> ?_,λa z=> ?_⟩,λa z=> ?_⟩,sub⟩
 ·by_cases hj:i=j
  ·subst hj;rw[IJ hl]at e;cases e
  ·rw[IH hj]at e
   obtain⟨w,e1,e2⟩:=E.env.val j t e;exact⟨w,by rw[IH hj];exact e1,(e2.more subO).same s⟩
 ·by_cases hj:i=j
  ·subst hj
   rw[IJ hl]at e
   cases e;exact⟨v,IJ hls,by rw[Mn.Hf];exact r⟩
  ·rw[IH hj]at e
   obtain⟨w,e1,e2⟩:=E.env.own j o' e;refine⟨w,by rw[IH hj];exact e1,?_⟩
   rw[Mn.GR (λz=>hj z.symm)]
   exact(e2.move (P:=wQ) (λ_ z=>z.elim) subO (λb u q _=>q) λ_ _ z=>z).same s
 ·unfold Mn.set at z1 z2
  by_cases hj:j=i
  ·by_cases hk:k=i
   ·exact hj.trans hk.symm
   ·rw[if_pos hj]at z1;rw[if_neg hk]at z2
    exact(dj a (hm a z1) (.inr ⟨k,z2⟩)).elim
  ·by_cases hk:k=i
   ·rw[if_neg hj]at z1;rw[if_pos hk]at z2
    exact(dj a (hm a z2) (.inr ⟨j,z1⟩)).elim
   ·rw[if_neg hj]at z1;rw[if_neg hk]at z2
    exact E.env.dis j k a z1 z2
 ·rcases z with z | z
  ·exact(E.env.trk a (.inl z)).same s
  ·rcases Mn.GN z with w | w
   ·exact r.mtb a w
   ·exact(E.env.trk a (.inr w)).same s
 ·intro hb
  rcases Mn.GN z with w | w
  ·exact dj a (hm a w) (.inl hb)
  ·exact E.mine a w hb
theorem Ev.put (E:Ev K B M H ρ σ)(hi:ρ[i]? =some (.ow o))(hs:σ[i]? =some (some v))(s:SameO (M i) H H')(r:ORep K (OO B M) (M i) H' o' v):Ev K B M H' (ρ.set i (.ow o')) σ/\SameO M.u H H':=by
 have hl:i<ρ.length:=(Ii.mp hi).1
 have inO:∀a,M i a->OO B M a\/Nw K H a:=λa z=> .inl (.inr ⟨i,z⟩)
 have idO:∀a,OO B M a->OO B M a\/Nw K H a:=λa z=> .inl z
 refine⟨⟨⟨by rw[JQ];exact E.env.len,λj t e=> ?_,λj o2 e=> ?_,E.env.sub,E.env.dis,λa z=> ?_⟩,E.mine⟩,λb u e n=>s b u e λz=>n ⟨i,z⟩⟩
 ·by_cases hj:i=j
  ·subst hj;rw[IJ hl]at e;cases e
  ·rw[IH hj]at e
   obtain⟨w,e1,e2⟩:=E.env.val j t e;exact⟨w,e1,e2.move inO idO s⟩
 ·by_cases hj:i=j
  ·subst hj
   rw[IJ hl]at e
   cases e;exact⟨v,hs,r⟩
  ·rw[IH hj]at e
   obtain⟨w,e1,e2⟩:=E.env.own j o2 e;exact⟨w,e1,e2.move inO idO s λa z y=>hj (E.env.dis i j a y z)⟩
 ·by_cases hz:M i a
  ·exact r.mtb a hz
  ·exact(E.env.trk a z).at λo e=>s _ _ e hz
def disown (i:Nat)(ρ:En):En:=match ρ[i]? with
 | some (.ow o)=>ρ.set i (.va o.view)
 | _=>ρ
theorem EnvM.disown {O O':Ow}{ρ:En}(E:EnvM K O M H ρ σ)(i:Nat)(sub:∀a,O' a->O a)(hn:∀a,M i a->¬ O' a)(hin:∀j a,j≠i->M j a->O' a):EnvM K O' (M.set i wQ) H (disown i ρ) σ:=by
 have base:EnvM K O' (M.set i wQ) H (ρ.set i (match ρ[i]? with | some (.ow o)=> .va o.view | some x=>x | none=> .em)) σ:=by
  refine⟨by rw[JQ];exact E.len,λj t e=> ?_,λj o e=> ?_,λj a z=> ?_,λj k a z1 z2=> ?_,λa z=>E.trk a (sub a z)⟩
  ·by_cases hj:i=j
   ·subst hj
    by_cases hl:i<ρ.length
    ·rw[IJ hl]at e
     cases q:ρ[i]? with
     | none=>rw[q]at e;cases e
     | some z=>
      rw[q]at e
      cases z with
      | em=>cases e
      | va t'=>cases e;obtain⟨w,e1,e2⟩:=E.val i _ q;exact⟨w,e1,e2.less sub⟩
      | ow o=>cases e;obtain⟨w,e1,e2⟩:=E.own i _ q;exact⟨w,e1,e2.rep sub hn⟩
    ·rw[Kp (by rw[JQ];omega)]at e;cases e
   ·rw[IH hj]at e
    obtain⟨w,e1,e2⟩:=E.val j t e;exact⟨w,e1,e2.less sub⟩
  ·by_cases hj:i=j
   ·subst hj
    by_cases hl:i<ρ.length
    ·rw[IJ hl]at e
     cases q:ρ[i]? with
     | none=>rw[q]at e;cases e
     | some z=>
      rw[q]at e
      cases z with
      | em=>cases e
      | va t'=>cases e
      | ow o=>cases e
    ·rw[Kp (by rw[JQ];omega)]at e;cases e
   ·rw[IH hj]at e
    obtain⟨w,e1,e2⟩:=E.own j o e;refine⟨w,e1,?_⟩
    rw[Mn.GR (λz=>hj z.symm)]
    exact e2.move (P:=wQ) (λ_ z=>z.elim) (λa z=> .inl (sub a z)) (λb u q _=>q) λ_ _ z=>z
  ·unfold Mn.set at z
   by_cases hj:j=i
   ·rw[if_pos hj]at z;exact z.elim
   ·rw[if_neg hj]at z;exact hin j a hj z
  ·unfold Mn.set at z1 z2
   by_cases hj:j=i
   ·rw[if_pos hj]at z1;exact z1.elim
   ·by_cases hk:k=i
    ·rw[if_pos hk]at z2;exact z2.elim
    ·rw[if_neg hj]at z1;rw[if_neg hk]at z2;exact E.dis j k a z1 z2
 unfold Tr.disown
 cases q:ρ[i]? with
 | none=>rw[q,List.set_eq_of_length_le (List.getElem?_eq_none_iff.mp q)]at base;exact base
 | some z=>
  rw[q]at base
  cases z with
  | em=>rw[pH q]at base;exact base
  | va t=>rw[pH q]at base;exact base
  | ow o=>exact base
theorem Ev.disown (E:Ev K B M H ρ σ)(i:Nat):Ev K B (M.set i wQ) H (disown i ρ) σ/\∀a,(M.set i wQ).u a->M.u a:=by
 have sub:∀a,(M.set i wQ).u a->M.u a:=λa z=>(Mn.GN z).elim (λw=>w.elim) id
 refine⟨⟨E.env.disown i (λa z=>z.elim .inl λw=> .inr (sub a w)) (λa z y=> ?_) λj a hj z=> .inr ⟨j,by rw[Mn.GR hj];exact z⟩,λa z=>E.mine a (sub a z)⟩,sub⟩
 rcases y with y | ⟨j,y⟩
 ·exact E.mine a ⟨i,z⟩ y
 ·unfold Mn.set at y
  by_cases hj:j=i
  ·rw[if_pos hj]at y;exact y
  ·rw[if_neg hj]at y;exact hj (E.env.dis j i a y z)
end
section
variable {X:Cx}{a:Expr}{es:List Expr}{fa:En->Rs T}{pos p2 p3:Pos}{x:Str}
theorem Ev.subO {K:HI}{B:Ow}{M:Mn}{H:Hp}{i:Nat}{m:Ow}(hm:∀a,m a->Nw K H a)(a:Addr)(z:OO B (M.set i m) a):OO B M a\/Nw K H a:=
 z.elim (λw=> .inl (.inl w)) λw=>(Mn.GN w).elim (λy=> .inr (hm a y)) λy=> .inl (.inr y)
theorem zu {K:HI}{H H1:Hp}(s:Same H H1){a:Addr}(n:Nw K H1 a):Nw K H a:=(fv (SameO.of (P:=wQ) s) n).elim (λz=>z.elim) id
def D9 (X:Cx)(t:TA):TE:=λσ H Q=>t σ H λxs H1=>xs.length<=sizeLine/\∀p,Nw X.K H1 p->Q (.ref p) (cz H1 p (.lst xs))
theorem zi {t:TA}(h:PA X es t):PE X (.List es pos) (D9 X t):=by
 intro pins s σ H Q I hq;refine OB (bF (h pos pins s σ H _ I hq) λus s1 ⟨xs,H1,I1,r,z,q⟩=>⟨by rw[<-r.length];exact z,?_⟩)
 have hf:H1 s1.heap.objs.size=none:=I1.hok.fresh (Ia _)
 have hk:X.K.lookup s1.heap.objs.size=none:=by
  cases q:X.K.lookup s1.heap.objs.size with
  | none=>rfl
  | some o=>exact absurd (Ib (I1.kIn _ o q)) (Iz _)
 refine⟨.ref s1.heap.objs.size,cz H1 s1.heap.objs.size (.lst xs),I1.laid (t':=s1.toks) (λb u e=>HN _ e) (Ia _) ?_,rfl,q _ ⟨hf,hk⟩⟩
 exact⟨z,us,0,r,Ie _ rfl⟩
def la (i:Nat)(f:En->Rs (List T))(ρ:En):Rs Fl:=do
 let l <-f ρ
 if i<ρ.length/\l.length<=sizeLine then .ok (.nx (ρ.set i (.ow (.lst l))))else .bad
theorem yO (i:Nat){f:En->Rs (List T)}(hN:X.N.Nodup)(ha:o4 X es f)(hi:autoParam (X.N[i]? =some x) u_)(hx:autoParam (Loc X.env.scope x) y_)(hs:autoParam (Ld (.List es p2) (some (.Name x p3)) pos.line X.env=pure false) u_)
  (hf:autoParam (X.fn x=true\/X.env.scope.names.lookup x=some .local) r_):tM X (.Assign [.Name x p3] (.List es p2) pos) (la i f):=PS.imp (wb hN hi hx (zi ha) hs hf) λD σ H hh_=>by
 obtain⟨ρ,B,M,E,h⟩:=hh_;refine⟨ρ,OO B M,E.o,?_⟩
 unfold la at h
 cases q:f ρ with
 | bad=>rw[q]at h;exact h.elim
 | err c=>rw[q]at h;exact PostF.xa h
 | ok l=>
  rw[q,aC]at h;intro H1 s1 vs rs
  by_cases hl:i<ρ.length/\l.length<=sizeLine
  ·rw[if_pos hl]at h
   refine⟨by rw[<-rs.length];exact hl.2,λp hp=> ?_⟩
   have hm:∀a,a=p->Nw X.K H1 a:=λa z=>z▸hp
   obtain⟨E2,sub⟩:=(E.same s1).new (m:=λa=>a=p) (o:=.lst l) (v:=.ref p) (H':=cz H1 p (.lst vs)) hl.1 hm (aV hp.1 _) ⟨p,vs,rfl,λb=>MG,aU,(rs.more (Ev.subO hm)).same (aV hp.1 _)⟩
   exact h _ _ _ (SameO.of (s1.trans (aV hp.1 _))) E2 λa z=>(sub a z).imp_right (zu s1)
  ·rw[if_neg hl]at h
   exact h.elim
theorem Ev.putL {K:HI}{B:Ow}{M:Mn}{H:Hp}{ρ:En}{σ:L2.St}{i:Nat}{o:OT}{l':List T}{b:Addr}{vs':List V}(E:Ev K B M H ρ σ)(hi:ρ[i]? =some (.ow o))(hs:σ[i]? =some (some (.ref b)))(hM:∀c,M i c↔c=b)(r:Reps K (OO B M) H l' vs') :
  Ev K B M (cz H b (.lst vs')) (ρ.set i (.ow (.lst l'))) σ/\SameO M.u H (cz H b (.lst vs')):=by
 have sm:SameO (M i) H (cz H b (.lst vs')):=λc u e nb=>by rw[aO (λz=>nb ((hM c).mpr z))];exact e
 exact E.put hi hs sm ⟨b,vs',rfl,hM,aU,r.move (P:=M i) (λa z=> .inl (.inr ⟨i,z⟩)) (λa z=> .inl z) sm⟩
def C6 (i:Nat)(l:List T)(ρ:En):T->Rs Fl
 | .lst m=>if l.length+m.length<=sizeLine then .ok (.nx (ρ.set i (.ow (.lst (l++m)))))else .bad
 | _=> .bad
def qP (i:Nat)(f:En->Rs T)(ρ:En):Rs Fl:=match ρ[i]? with
 | some (.ow (.lst l))=>f ρ >>= C6 i l ρ
 | _=> .bad
theorem B4 (i:Nat){apos cpos:Pos}(ha:cL X a fa)(hN:autoParam (X.N[i]? =some x) u_)(hv:autoParam (rO X.env.scope x) v_)(hn:autoParam (cR a=true) u_)
  (hbase:autoParam (J1 (.Name x p2) "extend" X.env (eval (.Name x p2) X.env)=eval (.Name x p2) X.env) u_) (hline:autoParam ((apos.endLine == cpos.line)=true) u_)
  (hd:autoParam ((x == ("__debug__" : Str))=false) s_) (hcd:autoParam ((x == ("__classdict__" : Str))=false) s_)
  (hsw:autoParam (Ld (.Call (.Attribute (.Name x p2) "extend" apos) [a] [] cpos) none pos.line X.env=pure false) u_):tM X (.Expr (.Call (.Attribute (.Name x p2) "extend" apos) [a] [] cpos) pos) (qP i fa):=by
 have h1:Ik [a] X.env=(false,eval a X.env)::Ik [] X.env:=bu hn;refine PS.imp (sj (wu Lp PySem.F.slot_list_extend PySem.F.type_list_extend ug (jP hN hv hd hcd) (b9 ha fD h1) hbase ?_ hline h1 rfl) hsw) λD σ H ⟨ρ,B,M,E,h⟩=> ?_
 ·rw[h1];rfl
 unfold qP at h
 split at h
 ·rename_i l hl
  obtain⟨v0,e1,b,vs,rfl,hM,e3,e4⟩:=E.env.own i _ hl;refine⟨.ref b,e1,.inl ⟨rfl,vs,SqL.of e3⟩,ρ,OO B M,E.o,?_⟩
  cases q:fa ρ with
  | bad=>rw[q]at h;exact h.elim
  | err c=>rw[q]at h;exact PostF.xa h
  | ok t=>
   rw[q,aC]at h;unfold C6 at h
   split at h
   ·rename_i m
    split at h
    ·rename_i hz
     intro H1 s1 v r;obtain⟨c,ws,rfl,nO,hc,rm⟩:=Rep.FB.mp r
     have e3':=s1 _ _ e3;refine⟨b,c,vs,ws,rfl,rfl,e3',hc,by rw[<-e4.length,<-rm.length];exact hz,?_⟩
     obtain⟨g1,g2⟩:=(E.same s1).putL (l':=l++m) (vs':=vs++ws) hl e1 hM ((e4.same s1).append rm);exact h σ _ M (λc o e nb=>g2 c o (s1 _ _ e) nb) g1 λc z=> .inl z
    ·exact h.elim
   ·exact h.elim
 ·exact h.elim
def BO (i:Nat)(F:En->Rs Fl)(ρ:En):Rs Fl:=F (disown i ρ)
theorem B5 (i:Nat){st:Stmt}{F:En->Rs Fl}(h:tM X st F):tM X st (BO i F):=PS.imp h λD σ H hh_=>by
 obtain⟨ρ,B,M,E,q⟩:=hh_;obtain⟨E',sub⟩:=E.disown i;exact⟨disown i ρ,B,_,E',PostF.later q (λ_ _ e _=>e) λa z=> .inl (sub a z)⟩
end
end Tr
namespace Tr
open PySem L2
def qv:List T->List T->List Key->Option T
 | k'::ks,v::vs,k=>if keyOf k'=some k then some v else qv ks vs k
 | _,_,_=>none
def lO (k v:T):List T->List T->List T×List T
 | k'::ks,v'::vs=>if keyOf k'=keyOf k then(k'::ks,v::vs)else(k'::(lO k v ks vs).1,v'::(lO k v ks vs).2)
 | _,_=>([k],[v])
def mH (x y:T):Rs T:=match x,keyOf y with
 | .dct ks vs,some k=>match qv ks vs k with
  | some t=> .ok t
  | none=> .bad
 | _,_=> .bad
def oD (g:T->T->Rs T)(fa fb:En->Rs T)(ρ:En):Rs T:=fa ρ >>= λx=>match x with
 | .dct ks vs=>fb ρ >>= g (.dct ks vs)
 | _=> .bad
def oL (g:T->T->Rs T)(fa fb:En->Rs T)(ρ:En):Rs T:=fa ρ >>= λx=>match x with
 | .lst l=>fb ρ >>= g (.lst l)
 | _=> .bad
def jH:List (T×T)->List T×List T->List T×List T
 | [],d=>d
 | (k,v)::r,d=>jH r (lO k v d.1 d.2)
def ki:List T->Bool
 | [] =>true
 | k::l=>(keyOf k).isSome&&ki l
end Tr
namespace Tr
open PySem PySem.Spec PyProof.Rows L2
theorem ee {h b b':Heap}:∀{l:List Env},h.FunFrames b l->(∀a∈l.filterMap (·.frame),b'.get? a=none)->h.FunFrames b' l
 | [],_,_=>trivial
 | env::aY,⟨hk,⟨L,o,hf,hn,ho,hd⟩,hr⟩,q=>by
  rw[Jo,hf]at q;exact⟨hk,⟨L,o,hf,q L HU,ho,hd⟩,ee hr λa ha=>q a (HQ _ ha)⟩
section
variable {M:L7}{A:IE}{E:HL->HJ->Prop}{s:HJ}
structure AF (fs:List Addr)(C e:Addr)(T:Option Addr)(h h':Heap)(T':Addr):Prop where
 flt:Flt h' C e (some T')
 new:T=some T'\/h.get? T'=none
 keep:∀b o,b∉fs->b≠e->T≠some b->h.get? b=some o->h'.get? b=some o
 slot:∀b o,b∈fs->h.get? b=some o->∃sl,h'.get? b=some { o with slots:=sl }
theorem wX {base:Heap}{env:Env}{outer:List Env}{L C e:Addr}{T:Option Addr}{Q:Unit->HJ->Prop}(hfr:A.frames=some (env::outer))(hl:s.heap.FunFrames base (env::outer))(hf:env.frame=some L)
  (F:Flt s.heap C e T) (h:∀h' T',AF ((env::outer).filterMap (·.frame)) C e T s.heap h' T'->Q () { s with heap:=h' }):wpAny M A (leaving env (.ref e)) Q E s:=by
 generalize hB:Md s.heap (e::(T.toList++(env::outer).filterMap (·.frame)))=B
 have bm:∀b,b∈e::(T.toList++(env::outer).filterMap (·.frame))->B.get? b=none:=λb m=>by rw[<-hB];exact K9 _ m
 have hl':s.heap.FunFrames B (env::outer):=ee hl λa ha=>bm a (HQ _ (H0 _ ha))
 have hst:B.StaysIn s.heap:=λb o q=>by rw[<-hB]at q;exact Ln _ q
 have hen:B.get? e=none:=bm e HU
 have main:∀h',Heap.Left B (env::outer) e (.ref C) s.heap h'->Q () { s with heap:=h' }:=λh' ⟨x1,x2,⟨oe,vs,T',oT,ts,he,hc,hd,h1,hnT,hTe,hT,hdT,h3⟩,x4⟩=>by
  refine h h' T' ⟨⟨hTe,oe,vs,he,hc,hd,h1,oT,ts,hT,hdT,h3⟩,?_,λb o n1 n2 n3 q=> ?_,λb o m q=> ?_⟩
  ·cases q:s.heap.get? T' with
   | none=>exact .inr rfl
   | some o=>
    left
    by_cases z:T'∈e::(T.toList++(env::outer).filterMap (·.frame))
    ·rcases HZ.mp z with z | z
     ·exact absurd z hTe
     ·rcases HV.mp z with z | z
      ·cases T with
       | none=>simp at z
       | some t=>simp at z;rw[z]
      ·obtain⟨_,o',ho',hnf⟩:=x2.mem z
       rw[hT]at ho';cases ho';exact absurd hdT (hnf ts)
    ·rw[<-hB,JX _ q z]at hnT;cases hnT
  ·refine x1 b o ?_
   rw[<-hB];refine JX _ q λz=> ?_
   rcases HZ.mp z with z | z
   ·exact n2 z
   ·rcases HV.mp z with z | z
    ·cases T with
     | none=>simp at z
     | some t=>simp at z;exact n3 (by rw[z])
    ·exact n1 z
  ·obtain⟨_,o',ho',hnf⟩:=hl.mem m
   rw[q]at ho';cases ho';exact x4 b o q hnf
 cases T with
 | none=>
  obtain⟨oe,vs,he,hc,hd,h1⟩:=F;refine wpAny_leaving_first hfr hl' hf he hst hen hd h1 λh' x=>main h' ?_
  rw[hc]at x;exact x
 | some t=>
  obtain⟨hte,oe,vs,he,hc,hd,h1,oT,ts,hT,hdT,h3⟩:=F;exact wpAny_leaving_next hfr hl' hf ⟨oe,vs,t,oT,ts,he,hc,hd,h1,bm t (HQ _ (Iw _ (by simp))),hte,hT,hdT,h3⟩ hst hen main
end
abbrev lY:List HL:=[.type "ValueError",.type "Exception",.type "BaseException",.type "object"]
structure OwnExc (K:HI)(C:Addr)(bm:List HL):Prop where
 at_:∀h:Heap,K.In h->∃nm q N bs hdct sn sub ab col dd k0 k1 k2 k3 k5 mN,h.get? C=some (JB nm q C N bs bm hdct sn sub ab col dd k0 k1 k2 k3 k5 "ValueError.__new__")/\h.Ns N mN/\mN "__init__" =none/\OwnTail h lY bm
theorem OwnExc.base {K:HI}{C:Addr}{bm:List HL}(O:OwnExc K C bm){h:Heap}(k:K.In h):bm.contains (.type "BaseException")=true:=by
 obtain⟨_,_,_,_,_,_,_,_,_,_,_,_,_,_,_,_,_,_,_,T⟩:=O.at_ h k;exact T.hasType (by decide)
def pJ (c:Str)(_:En):Rs Fl:=.err c
section
variable {X:Cx}
theorem vX {c:Str}{msg:Str}{C:Addr}{bm:List HL}{np p1 cpos pos:Pos}{j:Nat}(O:OwnExc X.K C bm)(hc:X.calm=true)(hm:X.mg c=some (.ref C))(hg:autoParam (Gl X c) u_)(hd:autoParam ((c == ("__debug__" : Str))=false) s_) :
  tM X (.Raise (some (.Call (.Name c np) [.Constant (.str msg) j p1] [] cpos)) none pos) (pJ c):=by
 intro pins s σ H D I ⟨ρ,B,M,E,k⟩
 have k:XA X M.u H c:=k;obtain⟨nm,q,N,bs,hdct,sn,sub,ab,col,dd,k0,k1,k2,k3,k5,mN,hC,hN,hni,T⟩:=O.at_ s.heap I.kIn;refine wpAny_Raise_call_subU (C:=C) (mN:=mN) (nm:=nm) (q:=q) (N:=N) (bs:=bs) (hdct:=hdct) (sn:=sn) (sub:=sub) (ab:=ab) (col:=col) (dd:=dd) (k0:=k0) (k1:=k1) (k2:=k2) (k3:=k3) (k5:=k5) Mq (Bn:="ValueError") (by decide) Mq (O.base I.kIn) (I.ok.hd hc) (by rfl) hni (gf I hg hm ⟨rfl,?_⟩ hd)
 show wpAny _ _ (PP (.ref C) true ((false,eval (.Constant (.str msg) j p1) X.env)::backTo cpos (Ik [] X.env)) []) _ _ s
 refine Kx (J6 (Of (Kd ?_)))
 refine⟨rfl,by show 1<=sizeLine;decide,hC,hN,T,λh' e hm'=>k pins _ _ ?_⟩
 obtain⟨t,ht,ht2,ht3⟩:=hm'.there
 have I':Inv X pins σ H { s with heap:=h',toks:=s.toks+1 }:=I.kept (t':=s.toks+1) λb o z=>hm'.keeps b o z
 refine⟨e,none,C,σ,H,rfl,hm,I',λb o z _=>z,?_,?_,⟨_,_,ht,rfl,rfl,rfl⟩,(λt z=>by cases z),λp hp=>⟨λz=> ?_,λz=>by cases z⟩⟩
 ·exact fS I hm'.new
 ·exact λhex=>fE I hex hm'.new
 ·have:=(I.pin p hp).1
  rw[z,show s.heap.get? e=none from hm'.new]at this
  cases this
end
section
variable {P:Ip}{w:IV}{K:HI}{mg:Str->Option HL}{base:Heap}
theorem C1 {x qual:Str}{st:Stmt}{f:Addr}{fd:Je}{N ps:List Str}{k n:Nat}{g:List T->Rs T}(Fn:L2.Fun K x qual st f fd)(S:bN N ps (ao st))(hn:ps.length=n)
  (hbody:∀(cdv:HL) (A:IE) (outer:List Env) (s:HJ) (H:Hp) (E:XK),Room k (A.deeper (envOfC qual (ao st) s.heap.objs.size f cdv)) →
   ∃F,(∀xe,l7 ((eY CX0 P w K mg base N qual (ao st) f cdv A outer s H E).FM xe) (br st) F)/\∀ts,ts.length=n->∀c,g ts= .err c->F (aG N.length ts)= .err c):FnX P w K mg base (k+1) f fd ps n g:=by
 intro A outer s H args us vs O ts c R hr e0 hb r rs trk hl hg hR
 have hpl:ps.length<=N.length:=by have:=congrArg JZ S.pre;rw[JI]at this;omega
 obtain⟨oc,od,kV,doc,pm,an,cdv,ct,osl,rfl,lk,hcd⟩:=Fn.ex
 have hlen:vs.length=ps.length:=by rw[<-rs.length,hl,hn]
 have KX:K.In s.heap:=e0.mod.kin.keeps λb o e=>(e0.bs b o e).1
 have lim:s.heap.NoLimit:=e0.mod.nolimit.keeps λb o e=>(e0.bs b o e).1
 have hkind:∀y∈ps.zip us,(ao st).names.lookup y.1=some .local\/((ao st).names.lookup y.1=some .cell/\((J4 (s.heap.objs.size+1) (ao st).names []).lookup y.1).isSome=true):=λ⟨n,v⟩ hy=>by
  rcases S.par n (KB hy).1 with q | q
  ·exact .inl q
  ·exact .inr ⟨q,JV _ _ _ (.inl q)⟩
 refine LW hr.depth (KX _ _ lk) rfl S.co S.gen rfl (K0 KX hcd) (hb _ _ _ _ ?_)
 refine JU S.kind hkind λenv he s1 x=> ?_
 subst he;refine⟨lim.keeps x.toInCall.keep,Pt ?_⟩
 obtain⟨F,hF,hv⟩:=hbody cdv A outer s H E0 (hr.deeper _)
 let xe:HL->HJ->Prop:=λev s'=>wpAny (model P w) (A.deeper (envOfC qual (ao st) s.heap.objs.size f cdv)) (leaving (envOfC qual (ao st) s.heap.objs.size f cdv) ev) (λ_ s''=>R (.error ev) s'') (λe' s''=>R (.error e') s'') s'
 have I:Inv ((eY CX0 P w K mg base N qual (ao st) f cdv A outer s H E0).FM xe) [] (start N vs) H s1:=(fV S hr.hd e0 hlen r x).FM _
 have no:∀a,¬noM.u a:=λa ⟨_,z⟩=>z
 refine IR (hF xe [] s1 (start N vs) H { nx:=λ_ _=>False,rt:=λ_ _=>False,bk:=λ_ _=>False,ct:=λ_ _=>False } I ⟨aG N.length ts,O,noM,ig rs (by omega) trk,?_⟩) (λfl s' z=> ?_) λe s' hs=>hs
 rotate_left
 ·cases fl with
  | next=>obtain⟨_,_,_,z⟩:=z;exact z.elim
  | cont=>obtain⟨_,_,_,z⟩:=z;exact z.elim
  | brk=>obtain⟨_,_,_,z⟩:=z;exact z.elim
  | ret v=>obtain⟨_,_,_,_,_,z⟩:=z;exact z.elim
 rw[hv ts hl c hg];intro pins ev s' w'
 show wpAny _ _ _ _ _ _
 obtain⟨e,T,C,σ',H',rfl,hm,I',sm,he,heo,fl,hT,_⟩:=w'
 have heo:=heo rfl
 have hT:∀t,T=some t->H' t=none/\s.heap.get? t=none:=λt z=>⟨(hT t z).1,(hT t z).2 rfl⟩
 refine wX (base:=base) (outer:=outer) (L:=s.heap.objs.size) I'.ok.frames I'.stack rfl fl λh' T' g=>hR _ _ ?_
 have hex:((eY CX0 P w K mg base N qual (ao st) f cdv A outer s H E0).FM xe).ex= []:=rfl
 have Tn:H' T'=none/\s.heap.get? T'=none:=by
  rcases g.new with z | z
  ·exact hT T' z
  ·exact⟨fS I' z,fE I' hex z⟩
 have out:∀b o,s.heap.get? b=some o->b≠s.heap.objs.size:=λb o q z=>by
  have:=Ib q;rw[z]at this;exact absurd this (Iz _)
 have mem:∀b,b∈iX ((envOfC qual (ao st) s.heap.objs.size f cdv)::outer)->b=s.heap.objs.size\/b∈iX outer:=λb z=>by
  have z':b∈s.heap.objs.size::iX outer:=z;exact HZ.mp z'
 have ne:∀b o,s.heap.get? b=some o->b≠e/\T≠some b:=λb o q=>⟨λz=>(by subst z;rw[show s.heap.get? b=none from heo]at q;cases q),λz=>(by rw[show s.heap.get? b=none from(hT b z).2]at q;cases q)⟩
 have keepH:∀b u,H' b≠none->s'.heap.get? b=some u->h'.get? b=some u:=λb u hb q=>by
  refine g.keep b u (λz=>hb (I'.Gy b z)) (λz=>hb (by rw[z];exact he)) (λz=>hb (hT b z).1) q
 refine⟨e,T',C,H',rfl,hm,I'.os,I'.bare,⟨λb o q n hb hx=> ?_,λb o q n hb hx=> ?_,λb o q n hx=>I'.base.free b o q n hx,λb o q hx=> ?_,I'.base.tups,I'.base.frzs,I'.base.tbls⟩,λa o q=> ?_,λb o q=>sm b o q (no b),he,heo,g.flt,Tn.1,Tn.2⟩
 ·exact g.keep b o (λz=>(mem b z).elim (out b o q) hb) (ne b o q).1 (ne b o q).2 (I'.base.keep b o q n hb hx)
 ·obtain⟨sl,q1⟩:=I'.base.slot b o q n hb hx
  obtain⟨sl',q2⟩:=g.slot b _ (HQ _ hb) q1;exact⟨sl',q2⟩
 ·obtain⟨o',q1⟩:=I'.base.there b o q hx
  by_cases z:b∈iX ((envOfC qual (ao st) s.heap.objs.size f cdv)::outer)
  ·obtain⟨sl,q2⟩:=g.slot b o' z q1
   exact⟨_,q2⟩
  ·exact⟨o',g.keep b o' z (ne b o q).1 (ne b o q).2 q1⟩
 ·refine(I'.hok a o q).GD (λb u hb z=>keepH b u ?_ z) (λ_ z=>z) λ_ _ z=>z
  rcases hb with rfl | hb
  ·rw[q];simp
  ·rw[hb];simp
end
theorem rX {n m:Nat}{F:En->Rs Fl}{ts:List T}{c:Str}(h:val n m F ts= .err c):F (aG m ts)= .err c:=by
 unfold val at h
 split at h
 ·unfold bh at h
  cases z:F (aG m ts)with
  | bad=>rw[z]at h;cases h
  | err c'=>rw[z]at h;cases h;rfl
  | ok f=>
   rw[z,aC]at h;cases f <;> cases h
 ·cases h
section
variable {P:Ip}{w:IV}{K:HI}{mg:Str->Option HL}{base:Heap}
theorem C3 {x qual:Str}{st:Stmt}{f:Addr}{fd:Je}{N ps:List Str}{k n:Nat}{F:En->Rs Fl}(Fn:L2.Fun K x qual st f fd)(S:bN N ps (ao st))(hn:ps.length=n)
  (hbody:∀(cdv:HL) (A:IE) (outer:List Env) (s:HJ) (H:Hp) (E:XK),Room k (A.deeper (envOfC qual (ao st) s.heap.objs.size f cdv)) →
   ∀xe,l7 ((eY CX0 P w K mg base N qual (ao st) f cdv A outer s H E).FM xe) (br st) F):DJ P w K mg base (k+1) f fd ps n (val n N.length F):=
 ⟨FG Fn S hn λcdv A outer s H E hr=>⟨F,hbody cdv A outer s H E hr _,λts _ _ h=>vh h⟩,C1 Fn S hn λcdv A outer s H E hr=>⟨F,hbody cdv A outer s H E hr,λts _ c h=>rX h⟩⟩
end
inductive OTail (h:Heap):List HL->Prop
 | base:OTail h lY
 | own {A:Addr} {c0:HL} {dd:Option Addr} {cd:ClassData} {sl:Array (Option HL)} {mA:Str->Option HL} {tl:List HL} :
   h.get? A=some { cls:=c0,dict:=dd,data:=.cls cd,slots:=sl }->h.Ns cd.ns mA->(∀n∈calmNames,mA n=none)->OTail h tl->OTail h (.ref A::tl)
theorem OTail.tail {h:Heap}{tl:List HL}(T:OTail h tl):OwnTail h lY tl:=by
 induction T with
 | base=>exact .base
 | own hA hN hq _ ih=>exact .own hA hN (hq _ (.head _)) ih
section
variable {M:L7}{prog:Ip}{w:IV}{A:IE}{E:HL->HJ->Prop}{h:Heap}{g:Array OA}{d:Qa}{t:Nat}{os:Ly}
theorem Az {tl:List HL}{n:Str}{y:Option HL}{Q:Option HL->HJ->Prop}(hn:n∈calmNames)(T:OTail h tl)(hrest:P6 lY n=pure y)(hq:Q y ⟨h,g,d,t,os⟩) :
  wpAny M A (P6 tl n) Q E ⟨h,g,d,t,os⟩:=by
 induction T with
 | base=>rw[hrest];exact HX hq
 | own hA hN hni _ ih=>
  rw[PL];refine HM (wpAny_classOwn_cls hA hN ?_)
  rw[hni n hn];exact ih
theorem Fe:mroOf (.type "ValueError")=pure lY:=by rw[mroOf_type];kernel_rfl
variable {nm q:Str}{C N:Addr}{bs bm:List HL}{hdct:Bool}{sn:List Str}{sub:List HL}{ab:Bool}{col:Option Bool}{dd:Option Addr}{k0 k1 k2 k3 k5:Option HL}{newId:String}{mN:Str->Option HL}
theorem ri {n:Str}{y:Option HL}{Q:Option HL->HJ->Prop}(hn:n∈calmNames)(hC:h.get? C=some (JB nm q C N bs bm hdct sn sub ab col dd k0 k1 k2 k3 k5 newId))(hN:h.Ns N mN)(hmN:∀n∈calmNames,mN n=none)(T:OTail h bm)
  (hB:LM (.type "ValueError") n=pure y) (hq:Q y ⟨h,g,d,t,os⟩):wpAny M A (LM (.ref C) n) Q E ⟨h,g,d,t,os⟩:=by
 have hrest:P6 lY n=pure y:=by rw[typeLookup_eq,Fe]at hB;exact hB
 rw[typeLookup_eq];refine HM (wpAny_mroOf_exc hC ?_)
 rw[PL];refine HM (wpAny_classOwn_exc hC hN ?_)
 rw[hmN n hn];exact Az hn T hrest hq
theorem wV:LM (.type "ValueError") "__class__" =pure (some (.builtin "object.__class__")):=by rw[LC,Ks];kernel_rfl
theorem rj:LM (.type "ValueError") "__getattr__" =pure none:=by rw[LC,Ks];kernel_rfl
theorem ga_V:Slot "ValueError" "__getattribute__" "BaseException.__getattribute__":=.of (owner:="BaseException") (n:="__getattribute__") (by rw[LC,Ks];kernel_rfl) (by decide+kernel) (by decide+kernel) (by decide+kernel) (by first | exact .inl (by decide+kernel) | exact .inr (by decide+kernel)) (by rw[MN];kernel_rfl)
variable {a:Addr}{o:Obj}{vs:Array HL}
theorem As {R:LH->HJ->Prop}(hC:h.get? C=some (JB nm q C N bs bm hdct sn sub ab col dd k0 k1 k2 k3 k5 newId))(T:OTail h bm)
  (hx:h.get? a=some o) (hc:o.cls= .ref C) (hq:R (.ok (.ret (.ref C))) ⟨h,g,d,t,os⟩) :
  codeAny (model prog w) A (.call (.builtin "getset_descriptor.__get__") ⟨[.builtin "object.__class__",.ref a,.ref C],[]⟩) R ⟨h,g,d,t,os⟩:=by
 have hT5:(⟨h,g,d,t,os⟩:HJ).TypeIs (.builtin "object.__class__") "getset_descriptor":=LS
 have hcB:(IB C::bm).contains (.type (".".intercalate ("object.__class__".cutAt '.').dropLast))=true:=by
  rw[F.owner_object_class,JR,T.tail.hasType (b:=true) (by decide)];rfl
 refine L3 On.plain F.entry_gs_get (On.check _ _ _ _ _ _ _ _ hT5 (F.args_gs_get _ _ _) ?_)
 repeat (any_goals (first | assumption | (with_reducible refine Jb hx ?_;rw[hc]) | (with_reducible refine Kj hC ?_;rw[hcB]) | wp_step))
 refine⟨Oo _ (by decide+kernel),NM F.entry_object_class ?_⟩
 repeat (any_goals (first | assumption | (with_reducible refine Jb hx ?_;rw[hc]) | wp_step))
theorem xv {nameV:HL}{Q:Unit->HJ->Prop}(hC:h.get? C=some (JB nm q C N bs bm hdct sn sub ab col dd k0 k1 k2 k3 k5 newId))(T:OTail h bm)
  (hx:h.get? a=some o) (hc:o.cls= .ref C) (hq:Q () ⟨h,g,d,t,os⟩):wpAny M A (L1 "BaseException.__getattribute__" ⟨[.ref a,nameV],[]⟩) Q E ⟨h,g,d,t,os⟩:=by
 have hk:builtinKind "BaseException.__getattribute__" =some .slot:=by decide+kernel
 have hsplit:splitId "BaseException.__getattribute__" =some ("BaseException","__getattribute__"):=by decide+kernel
 have hcB:(IB C::bm).contains (.type "BaseException")=true:=by rw[JR,T.tail.hasType (b:=true) (by decide)];rfl
 have ha:=F.args_bexc_ga (.ref a) nameV;simp only[L1,hk,hsplit];refine HM ?_
 ·unfold isInstance
  repeat (first | (with_reducible refine Jb hx ?_;rw[hc]) | (with_reducible refine Kj hC ?_;rw[hcB]) | wp_step)
  exact hq
theorem uI {tk:Tok}{Q:Fin->HJ->Prop}(hC:h.get? C=some (JB nm q C N bs bm hdct sn sub ab col dd k0 k1 k2 k3 k5 newId))(hN:h.Ns N mN)
  (hmN:∀n∈calmNames,mN n=none) (T:OTail h bm) (hx:h.get? a=some o) (hc:o.cls= .ref C) (hd:o.data= .fields vs) (hq:Q (.done (.ret (.ref C))) ⟨h,g,d,t,os⟩) :
  wpAny (model prog w) A (Builtin.«object.__getattribute__» ⟨[.ref a,.str "__class__" tk],[]⟩) Q E ⟨h,g,d,t,os⟩:=by
 have hT5:(⟨h,g,d,t,os⟩:HJ).TypeIs (.builtin "object.__class__") "getset_descriptor":=LS
 have f5:=LS
 have f6:=On.lookup
 have f7:=F.slot_gs_set.lookup
 have hmA:("__class__" : Str)∈calmNames:=.tail _ (.tail _ (.tail _ (.head _)))
 repeat (any_goals (first | assumption | (with_reducible refine Jb hx ?_;rw[hc]) | with_reducible refine ri hmA hC hN hmN T wV ?_ | wp_step))
 refine As hC T hx hc ?_
 repeat (any_goals (first | assumption | wp_step))
theorem xS {tk:Tok}{R:LH->HJ->Prop}(hC:h.get? C=some (JB nm q C N bs bm hdct sn sub ab col dd k0 k1 k2 k3 k5 newId))(hN:h.Ns N mN)
  (hmN:∀n∈calmNames,mN n=none) (T:OTail h bm) (hx:h.get? a=some o) (hc:o.cls= .ref C) (hd:o.data= .fields vs) (hq:R (.ok (.ret (.ref C))) ⟨h,g,d,t,os⟩) :
  codeAny (model prog w) A (.call (.builtin "BaseException.__getattribute__") ⟨[.ref a,.str "__class__" tk],[]⟩) R ⟨h,g,d,t,os⟩:=
 L3 ga_V.plain F.entry_bexc_ga (xv hC T hx hc (uI hC hN hmN T hx hc hd hq))
theorem Dv {tk:Tok}{fill expr:Bool}{Q:HL->HJ->Prop}(hC:h.get? C=some (JB nm q C N bs bm hdct sn sub ab col dd k0 k1 k2 k3 k5 newId))(hN:h.Ns N mN)
  (hmN:∀n∈calmNames,mN n=none) (T:OTail h bm) (hx:h.get? a=some o) (hc:o.cls= .ref C) (hd:o.data= .fields vs) (hq:Q (.ref C) ⟨h,g,d,t,os⟩) :
  wpAny (model prog w) A (getAttrBy (.ref a) (.str "__class__" tk) fill expr) Q E ⟨h,g,d,t,os⟩:=by
 have f3:=ga_V.bind (.ref a)
 have hx0:(expr&&onTheHeap (K7 "BaseException.__getattribute__"))=false:=by cases expr <;> rfl
 have hx2:(K7 "BaseException.__getattribute__" == K7 "object.__getattribute__")=false:=by decide+kernel
 have hx1:(onTheHeap (IB C)&&K7 "BaseException.__getattribute__" == K7 "object.__getattribute__")=false:=by rw[hx2];rfl
 have hm1:("__getattribute__" : Str)∈calmNames:=.tail _ (.head _)
 have hm2:("__getattr__" : Str)∈calmNames:=.tail _ (.tail _ (.head _))
 repeat (any_goals (first | assumption | (with_reducible refine Jb hx ?_;rw[hc]) | with_reducible refine ri hm1 hC hN hmN T ga_V.lookup ?_ | with_reducible refine ri hm2 hC hN hmN T rj ?_ | wp_step))
 refine xS hC hN hmN T hx hc hd ?_
 repeat (any_goals (first | assumption | wp_step))
theorem xT {Q:Option HL->HJ->Prop}(hC:h.get? C=some (JB nm q C N bs bm hdct sn sub ab col dd k0 k1 k2 k3 k5 newId))(hN:h.Ns N mN)
  (hmN:∀n∈calmNames,mN n=none) (T:OTail h bm) (hx:h.get? a=some o) (hc:o.cls= .ref C) (hd:o.data= .fields vs) (hq:Q (some (.ref C)) ⟨h,g,d,t+1,os⟩) :
  wpAny (model prog w) A (getAttr? (.ref a) "__class__") Q E ⟨h,g,d,t,os⟩:=by
 unfold getAttr? getAttrBy?
 repeat (any_goals (first | assumption | with_reducible apply Dv hC hN hmN T hx hc hd | wp_step))
end
section
variable {M:L7}{prog:Ip}{w:IV}{A:IE}{E:HL->HJ->Prop}{h:Heap}{g:Array OA}{d:Qa}{t:Nat}{os:Ly}
variable {nm q:Str}{C N:Addr}{bs bm:List HL}{hdct:Bool}{sn:List Str}{sub:List HL}{ab:Bool}{col:Option Bool}{dd:Option Addr}{k0 k1 k2 k3 k5:Option HL}{newId:String}{mN:Str->Option HL}
variable {a:Addr}{o:Obj}{vs:Array HL}
theorem ud {dep:Int}{tk:Tok}{Q:Fin->HJ->Prop}(hx:h.get? a=some o)(hc:o.cls= .ref C)(hq:Q (.done (.ret (.bool true))) ⟨h,g,d,t,os⟩) :
  wpAny (model prog w) A (Builtin.«isinstance.nested» ⟨[.ref a,.ref C,.int dep tk],[]⟩) Q E ⟨h,g,d,t,os⟩:=by
 have e:(IB C == IB C)=true:=by simp
 repeat (any_goals (first | assumption | (with_reducible refine Jb hx ?_;rw[hc]) | wp_step))
theorem CH {dep:Int}{tk:Tok}{Q:Fin->HJ->Prop}(hC:h.get? C=some (JB nm q C N bs bm hdct sn sub ab col dd k0 k1 k2 k3 k5 newId))(T:OTail h bm)(hx:h.get? a=some o)(hc:o.cls= .ref C)
  (hq:Q (.done (.ret (.bool true))) ⟨h,g,d,t,os⟩):wpAny (model prog w) A (Builtin.«isinstance.nested» ⟨[.ref a,.type "ValueError",.int dep tk],[]⟩) Q E ⟨h,g,d,t,os⟩:=by
 have e:(IB C == KS "ValueError")=false:=rfl
 have hty:typeOf (.type "ValueError")=pure (.type "type"):=by kernel_rfl
 have hcB:(IB C::bm).contains (.type "ValueError")=true:=by rw[JR,T.tail.hasType (b:=true) (by decide)];rfl
 repeat (any_goals (first | assumption | (with_reducible refine Jb hx ?_;rw[hc]) | (with_reducible refine Kj hC ?_;rw[hcB]) | wp_step))
theorem wR {D:Addr}{oD:Obj}{cD:ClassData}{dep:Int}{tk:Tok}{Q:Fin->HJ->Prop}(hC:h.get? C=some (JB nm q C N bs bm hdct sn sub ab col dd k0 k1 k2 k3 k5 newId))(hN:h.Ns N mN)(hmN:∀n∈calmNames,mN n=none)(T:OTail h bm)
  (hx:h.get? a=some o) (hc:o.cls= .ref C) (hd:o.data= .fields vs) (hD:h.get? D=some oD) (hDt:oD.cls= .type "type") (hDd:oD.data= .cls cD) (hne:(IB C == IB D)=false) (hnb:(IB C::bm).contains (.ref D)=false)
  (hq:Q (.done (.ret (.bool false))) ⟨h,g,d,t+1,os⟩):wpAny (model prog w) A (Builtin.«isinstance.nested» ⟨[.ref a,.ref D,.int dep tk],[]⟩) Q E ⟨h,g,d,t,os⟩:=by
 repeat (any_goals (first | assumption | (with_reducible refine Jb hx ?_;rw[hc]) | (with_reducible refine Jb hD ?_;rw[hDt]) | (with_reducible refine Jb hD ?_;rw[hDd]) | (with_reducible refine Jb hC ?_) | (with_reducible refine Kj hC ?_;rw[hnb]) | with_reducible refine xT hC hN hmN T hx hc hd ?_ | wp_step))
end
structure OX (K:HI)(C:Addr)(bm:List HL):Prop where
 at_:∀h:Heap,K.In h->∃nm q N bs hdct sn sub ab col dd k0 k1 k2 k3 k5 mN,h.get? C=some (JB nm q C N bs bm hdct sn sub ab col dd k0 k1 k2 k3 k5 "ValueError.__new__")/\h.Ns N mN/\(∀n∈calmNames,mN n=none)/\OTail h bm
theorem OX.own {K:HI}{C:Addr}{bm:List HL}(O:OX K C bm):OwnExc K C bm:=⟨λh k=>by
 obtain⟨nm,q,N,bs,hdct,sn,sub,ab,col,dd,k0,k1,k2,k3,k5,mN,h1,h2,h3,h4⟩:=O.at_ h k;exact⟨nm,q,N,bs,hdct,sn,sub,ab,col,dd,k0,k1,k2,k3,k5,mN,h1,h2,h3 _ (.head _),h4.tail⟩⟩
section
variable {X:Cx}{e C D:Addr}{oe:Obj}{ev:Array HL}{bm bmD:List HL}
def tIs (e:Addr)(b:Bool):TE:=λσ H Q=>σ[0]? =some (some (.ref e))/\Q (.bl b) H
theorem xm {pins:List (Addr×Obj)}{σ:L2.St}{H:Hp}{s:HJ}{Q:VK}(hp:(e,oe)∈X.pn)(hc:oe.cls= .ref C)(hd:oe.data= .fields ev)(OC:OX X.K C bm)(OD:OX X.K D bmD)(b:Bool)(hb:(decide (C=D))=b)(hnb:C≠D->bm.contains (.ref D)=false)
  (I:Inv X pins σ H s) (q:Q (.bl b) H):wpAny (model X.prog X.w) X.A (call (.builtin "isinstance") [.ref e,.ref D]) (EP X pins σ Q) X.xe s:=by
 have hx:s.heap.get? e=some oe:=(I.pin (e,oe) (Iw _ hp)).1;obtain⟨nm,qq,N,bs,hdct,sn,sub,ab,col,dd,k0,k1,k2,k3,k5,mN,hC,hN,hmN,T⟩:=OC.at_ s.heap I.kIn;obtain⟨nm',qq',N',bs',hdct',sn',sub',ab',col',dd',k0',k1',k2',k3',k5',mN',hD,_⟩:=OD.at_ s.heap I.kIn;obtain⟨h,g,d,t,os⟩:=s;refine OL ?_ (by intro z;cases z)
 by_cases z:C=D
 ·subst z
  have:b=true:=by rw[<-hb];simp
  subst this;exact ud hx hc ⟨.bl true,H,I,rfl,q⟩
 ·have:b=false:=by rw[<-hb];simp[z]
  subst this;refine wR hC hN hmN T hx hc hd hD rfl rfl ?_ ?_ ⟨.bl false,H,I.tok _,rfl,q⟩
  ·rw[beq_eq_false_iff_ne];exact λy=>z (Oe y)
  ·rw[JR,hnb z,M4,beq_eq_false_iff_ne]
   exact λy=>z (Oe y).symm
theorem xn {pins:List (Addr×Obj)}{σ:L2.St}{H:Hp}{s:HJ}{Q:VK}(hp:(e,oe)∈X.pn)(hc:oe.cls= .ref C)(OC:OX X.K C bm)
  (I:Inv X pins σ H s) (q:Q (.bl true) H):wpAny (model X.prog X.w) X.A (call (.builtin "isinstance") [.ref e,.type "ValueError"]) (EP X pins σ Q) X.xe s:=by
 have hx:s.heap.get? e=some oe:=(I.pin (e,oe) (Iw _ hp)).1;obtain⟨nm,qq,N,bs,hdct,sn,sub,ab,col,dd,k0,k1,k2,k3,k5,mN,hC,hN,hmN,T⟩:=OC.at_ s.heap I.kIn;obtain⟨h,g,d,t,os⟩:=s;refine OL ?_ (by intro z;cases z)
 exact CH hC T hx hc ⟨.bl true,H,I,rfl,q⟩
theorem qX {en dn:Str}{p p1 p2 pos:Pos}(hN:X.N[0]? =some en)(hv:rO X.env.scope en)(hp:(e,oe)∈X.pn)(hc:oe.cls= .ref C)(hd:oe.data= .fields ev)(OC:OX X.K C bm)(OD:OX X.K D bmD)(b:Bool)(hb:(decide (C=D))=b)(hnb:C≠D->bm.contains (.ref D)=false)
  (hm:X.mg "isinstance" =none) (hmD:X.mg dn=some (.ref D)) (hg:autoParam (Gl X "isinstance") u_) (hgD:autoParam (Gl X dn) u_) (hde:autoParam ((en == ("__debug__" : Str))=false) s_) (hce:autoParam ((en == ("__classdict__" : Str))=false) s_) (hdd:autoParam ((dn == ("__debug__" : Str))=false) s_)
  (he:autoParam (Ik [.Name en p1,.Name dn p2] X.env=(false,eval (.Name en p1) X.env)::Ik [.Name dn p2] X.env) u_) (hpl:autoParam ((backTo pos (Ik [.Name dn p2] X.env)).any (·.1)=false) u_)
  (hs:autoParam (Ik [.Name dn p2] X.env=(false,eval (.Name dn p2) X.env)::Ik [] X.env) u_) :
  PE X (.Call (.Name "isinstance" p) [.Name en p1,.Name dn p2] [] pos) (tIs e b):=by
 intro pins s σ H Q I ⟨hσ,q⟩;refine Jw (dX I hg hm eO ?_ (by decide) (by decide))
 have hA:PA X [.Name en p1,.Name dn p2] (jn (vG 0) (jn (tC (.ref D)) vH)):=b9 (jP hN hv hde hce) (b9 (sr hgD hmD rfl hdd) fD hs) he;refine J2 (bF (hA pos pins s σ H (λvs H'=>vs= [.ref e,.ref D]/\H'=H) I ⟨.ref e,hσ,rfl,rfl⟩) λus s1 ⟨vs,H1,I1,r1,e1,e2⟩=> ?_) he hpl
 subst e1;obtain⟨u,w',rfl,ru,rw'⟩:=vg r1;cases ru;cases rw';subst e2;exact xm hp hc hd OC OD b hb hnb I1 q
end
theorem eqB (a b:Bool):MeetsSeq.EqGives (.bool a) (.bool b) (a == b):=λprog w A E s Q h=>(PySem.SeqAt.EqAt.bool_bool a b (A:=A) (s:=s)) prog w E Q h
section
variable {X:Cx}
theorem nM:∀{ks:List Bool} {us:List HL},Vals (ks.map V.bl) us->us=ks.map Jd
 | [],us,r=>by cases r;rfl
 | k::ks,us,r=>by
  cases r with
  | cons r1 r2=>cases r1;rw[nM r2];rfl
def jD:HL->Bool
 | .bool b=>b
 | _=>false
def yM:V->List V->Hp->VK->Prop:=λx vs H Q=> ∃(l:Addr) (ks:List Bool),x= .ref l/\vs= [.bl true]/\H l=some (.lst (ks.map V.bl))/\Q (.int (ks.countP id:Nat)) H
theorem uh:MtR X "list.count" yM:=by
 intro pins s σ H x vs v us Q I rx rv h;obtain⟨l,ks,rfl,rfl,hH,q⟩:=h;cases rx;obtain⟨u,rfl,ru⟩:=rv.one;cases ru;obtain⟨z,its,n,r,hl,e⟩:=I.GH hH
 have hi:=nM r;subst hi;refine KG F.slot_list_count ⟨_,e,rfl⟩ F.entry_list_count (F.args_list_count_2 _ _) (MeetsSeq.list_count l (ks.map Jd).toArray n (.bool true) jD λy hy=> ?_) ⟨e,?_⟩
 ·have hy':y∈ks.map Jd:=by simpa using hy
  obtain⟨k,_,rfl⟩:=HY.mp hy'
  have:=eqB k true;cases k <;> exact this
 ·have hc:(ks.map Jd).toArray.toList.countP jD=ks.countP id:=by
   simp only[List.countP_map];rfl
  rw[hc];exact⟨.int _,H,I.tok _,⟨_,rfl⟩,q⟩
def yK:V->List V->Hp->VK->Prop:=λx vs H Q=> ∃(l:Addr) (ks:List Bool) (j:Nat),x= .ref l/\vs= [.bl true]/\H l=some (.lst (ks.map V.bl))/\ks[j]? =some true/\(∀m,m<j->ks[m]? =some false)/\j<=1000/\Q (.int (j:Nat)) H
theorem uf:MtR X "list.index" yK:=by
 intro pins s σ H x vs v us Q I rx rv h;obtain⟨l,ks,j,rfl,rfl,hH,hj,hno,hs,q⟩:=h;cases rx;obtain⟨u,rfl,ru⟩:=rv.one;cases ru;obtain⟨z,its,n,r,hl,e⟩:=I.GH hH
 have hi:=nM r;subst hi
 have hjl:j<ks.length:=(Ii.mp hj).1
 refine KG F.slot_list_index ⟨_,e,rfl⟩ F.entry_list_index (F.args_list_index_2 _ _) (MeetsSeq.list_index l (ks.map Jd).toArray n (.bool true) jD (λy hy=> ?_) j (by simpa using hjl) (by omega) ?_ ?_) ⟨e,?_⟩
 ·have hy':y∈ks.map Jd:=by simpa using hy
  obtain⟨k,_,rfl⟩:=HY.mp hy'
  have:=eqB k true;cases k <;> exact this
 ·have:ks[j] =true:=by have:=(Ii.mp hj).2;exact this
  simp[this,jD]
 ·intro m hm hmj
  have hmk:m<ks.length:=by simpa using hm
  have:=(Ii.mp (hno m hmj)).2
  simp[this,jD]
 ·exact⟨.int _,H,I.tok _,⟨_,rfl⟩,q⟩
end
abbrev Gm (P:Ip)(w:IV)(K:HI)(mg:Str->Option HL)(base:Heap)(N:List Str)(qual:Str)(scope:K2)(f:Addr)(cd:HL)(A:IE)(outer:List Env)(s:HJ)(H:Hp)(e:Addr)(oe:Obj):Cx:=
 { eY CX0 P w K mg base N qual scope f cd A outer s H E0 with calm:=false,pn:=[(e,oe)],xe:=λ_ _=>False }
section
variable {P:Ip}{w:IV}{K:HI}{mg:Str->Option HL}{base:Heap}
theorem rB {N ps:List Str}{qual:Str}{scope:K2}{f:Addr}{cd:HL}{A:IE}{outer:List Env}{s s1:HJ}{H:Hp}{us:List HL}{vs:List V}{e:Addr}{oe:Obj}
  (S:bN N ps scope) (e0:mK P w K mg base A outer s H) (hl:vs.length=ps.length) (r:Vals vs us)
  (x:InCallC s s.heap.objs.size (bindL (envOfC qual scope s.heap.objs.size f cd).kindOf (ps.zip us) λ_=>none) (J4 (s.heap.objs.size+1) scope.names []) (bindC (envOfC qual scope s.heap.objs.size f cd).kindOf (ps.zip us) λ_=>none) s1)
  (he:s.heap.get? e=some oe) (hH:H e=none) (hf:e∉iX outer) (hc:∀v,oe.data≠ .cell v) :
  Inv (Gm P w K mg base N qual scope f cd A outer s H e oe) [] (start N vs) H s1:=by
 have e0':mK P w K mg base { A with handled:=none } outer s H:=⟨e0.frames,e0.mod,e0.bs,e0.bsz,e0.funs,e0.frf,e0.hok,e0.bare⟩
 have I:=fV (CX:=CX0) (E:=E0) S (A:={ A with handled:=none }) rfl e0' hl r x
 obtain⟨h1,tk,hs1,hk⟩:=x.done
 have ok:=I.ok;refine⟨⟨ok.mod,ok.kind,ok.glob,ok.blt,ok.above,ok.inj,ok.has,ok.cab,(λz=>by cases z),NR e0.frames,.inr ⟨rfl,rfl⟩,ok.exf,ok.bs,ok.bsz,ok.noex,ok.exfs,ok.funs,ok.frf⟩,I.os,I.bare,I.base,I.loc,I.cell,I.free,I.freeC,λp hp=> ?_,I.hok,I.len⟩
 have hp':p=(e,oe):=by simpa using hp
 subst hp';refine⟨?_,hH,?_,hf,hc⟩
 ·rw[hs1];exact hk e oe he
 ·exact Jx (Ib he)
theorem C2 {x qual:Str}{st:Stmt}{f:Addr}{fd:Je}{N ps:List Str}{A:IE}{outer:List Env}{s:HJ}{H:Hp}{args:Args}{us:List HL}{vs:List V}{Q:VK}{e:Addr}{oe:Obj}(Fn:L2.Fun K x qual st f fd)(S:bN N ps (ao st))(hlen:vs.length=ps.length)
  (hr:A.depth+3<KU) (e0:mK P w K mg base A outer s H) (hb:Na s fd args (ps.zip us)) (r:Vals vs us) (he:s.heap.get? e=some oe) (hH:H e=none) (hf:e∉iX outer) (hc:∀v,oe.data≠ .cell v)
  (hbody:∀(cdv:HL),∃t,PSs (Gm P w K mg base N qual (ao st) f cdv A outer s H e oe) (br st) t/\t { nx:=λ_ _=>False,rt:=Q } (start N vs) H) :
  codeAny (model P w) A (.call (.ref f) args) (CR CX0 outer P w H s Q E0) s:=by
 obtain⟨oc,od,kV,doc,pm,an,cdv,ct,osl,rfl,lk,hcd⟩:=Fn.ex
 have KX:K.In s.heap:=e0.mod.kin.keeps λb o e=>(e0.bs b o e).1
 have lim:s.heap.NoLimit:=e0.mod.nolimit.keeps λb o e=>(e0.bs b o e).1
 have hkind:∀y∈ps.zip us,(ao st).names.lookup y.1=some .local\/((ao st).names.lookup y.1=some .cell/\((J4 (s.heap.objs.size+1) (ao st).names []).lookup y.1).isSome=true):=λ⟨n,v⟩ hy=>by
  rcases S.par n (KB hy).1 with q | q
  ·exact .inl q
  ·exact .inr ⟨q,JV _ _ _ (.inl q)⟩
 refine LW (by omega) (KX _ _ lk) rfl S.co S.gen rfl (K0 KX hcd) (hb _ _ _ _ ?_)
 refine JU S.kind hkind λenv hen s1 x=> ?_
 subst hen;refine⟨lim.keeps x.toInCall.keep,Pt ?_⟩
 obtain⟨t,ht,hq⟩:=hbody cdv
 have I:=rB S e0 hlen r x he hH hf hc;refine IR (ht [] s1 (start N vs) H _ I hq) (λfl s' hs=> ?_) λe s' hs=>hs.elim
 cases fl with
 | ret u=>
  obtain⟨v,σ',H',J,rv,q⟩:=hs
  exact⟨v,H',J.os,J.bare,J.base,J.hok,rv,q⟩
 | next=>obtain⟨_,_,_,q⟩:=hs;exact q.elim
 | brk=>obtain⟨_,_,_,q⟩:=hs;exact q.elim
 | cont=>obtain⟨_,_,_,q⟩:=hs;exact q.elim
end
section
variable {M:L7}{A:IE}{E:HL->HJ->Prop}{s:HJ}
theorem Fc {base:Heap}{env:Env}{outer:List Env}{L C e:Addr}{T:Option Addr}{Q:Unit->HJ->Prop}(hfr:A.frames=some (env::outer))(hl:s.heap.FunFrames base (env::outer))(hf:env.frame=some L)
  (F:Flt s.heap C e T) (h:∀h' T',AF ((env::outer).filterMap (·.frame)) C e T s.heap h' T'->Q () { s with heap:=h' }) :
  wpAny M A (K5 (.ref e) env) (λ_ s'=>wpAny M A (setFlight (.ref e) none) Q E s') E s:=by
 generalize hB:Md s.heap (e::(T.toList++(env::outer).filterMap (·.frame)))=B
 have bm:∀b,b∈e::(T.toList++(env::outer).filterMap (·.frame))->B.get? b=none:=λb m=>by rw[<-hB];exact K9 _ m
 have hl':s.heap.FunFrames B (env::outer):=ee hl λa ha=>bm a (HQ _ (H0 _ ha))
 have hst:B.StaysIn s.heap:=λb o q=>by rw[<-hB]at q;exact Ln _ q
 have hen:B.get? e=none:=bm e HU
 have main:∀h',Heap.Left B (env::outer) e (.ref C) s.heap h'->Q () { s with heap:=h' }:=λh' ⟨x1,x2,⟨oe,vs,T',oT,ts,he,hc,hd,h1,hnT,hTe,hT,hdT,h3⟩,x4⟩=>by
  refine h h' T' ⟨⟨hTe,oe,vs,he,hc,hd,h1,oT,ts,hT,hdT,h3⟩,?_,λb o n1 n2 n3 q=> ?_,λb o m q=> ?_⟩
  ·cases q:s.heap.get? T' with
   | none=>exact .inr rfl
   | some o=>
    left
    by_cases z:T'∈e::(T.toList++(env::outer).filterMap (·.frame))
    ·rcases HZ.mp z with z | z
     ·exact absurd z hTe
     ·rcases HV.mp z with z | z
      ·cases T with
       | none=>simp at z
       | some t=>simp at z;rw[z]
      ·obtain⟨_,o',ho',hnf⟩:=x2.mem z
       rw[hT]at ho';cases ho';exact absurd hdT (hnf ts)
    ·rw[<-hB,JX _ q z]at hnT;cases hnT
  ·refine x1 b o ?_
   rw[<-hB];refine JX _ q λz=> ?_
   rcases HZ.mp z with z | z
   ·exact n2 z
   ·rcases HV.mp z with z | z
    ·cases T with
     | none=>simp at z
     | some t=>simp at z;exact n3 (by rw[z])
    ·exact n1 z
  ·obtain⟨_,o',ho',hnf⟩:=hl.mem m
   rw[q]at ho';cases ho';exact x4 b o q hnf
 cases T with
 | none=>
  obtain⟨oe,vs,he,hc,hd,h1⟩:=F;unfold K5;simp only[hf];refine HM (IW he hd h1 ?_)
  rw[if_neg (by decide)]
  refine MO hfr hl' hf he hst hen hd (II.mp h1).1 λh' x=>main h' ?_
  rw[hc]at x;exact x
 | some t=>
  obtain⟨hte,oe,vs,he,hc,hd,h1,oT,ts,hT,hdT,h3⟩:=F
  have hnT:B.get? t=none:=bm t (HQ _ (Iw _ (by simp)))
  unfold K5;simp only[hf];refine HM (IW he hd h1 ?_)
  rw[if_pos (show(IB t != IG)=true from by simp)]
  refine HM (IW hT hdT h3 ?_)
  rw[if_neg (show ¬((IG == rawInt L)=true)from by simp[rawInt])]
  refine HM (MM hT hdT (II.mp h3).1 ?_)
  have other:∀b,b≠t->(s.heap.update t (K8 (·.setIfInBounds 3 IG))).get? b=s.heap.get? b:=λb hb=>Kk _ _ (Kv hb)
  have noRec:∀b o,s.heap.get? b=some o->(∀vs,o.data≠ .fields vs)->b≠t:=λb o hb hnf q=>by
   rw[q,hT]at hb;injection hb with hb;subst hb;exact hnf ts hdT
  refine MO hfr (hl'.of_keeps λb o hb hnf=>⟨o,(other b (noRec b o hb hnf)).trans hb,rfl⟩) hf ((other e (Kv hte)).trans he)
   (λb o hbo=>(other b λq=>by rw[q,hnT]at hbo;cases hbo).trans (hst b o hbo)) hen hd (II.mp h1).1
   λh' x=>main h' ?_
  obtain⟨x1,x2,x3,x4⟩:=x;rw[hc]at x3;exact⟨x1,x2,x3,λb o hb hnf=>x4 b o ((other b (noRec b o hb hnf)).trans hb) hnf⟩
end
section
variable {X:Cx}{pins:List (Addr×Obj)}{σ:L2.St}{H:Hp}{s:HJ}{h':Heap}
theorem Inv.gone {C e T':Addr}{T:Option Addr}(I:Inv X pins σ H s)(hst:X.stack=X.env::X.outer)(hfe:X.env.frame=some X.env.locals)(hcl:∀x c,X.env.cells.lookup x≠some c)(hex:X.ex= [])
  (g:AF ((X.env::X.outer).filterMap (·.frame)) C e T s.heap h' T') (he:H e=none) (heo:X.s₀.heap.get? e=none) (hT:∀t,T=some t->H t=none/\X.s₀.heap.get? t=none) (hp:∀p∈X.pn++pins,p.1≠e/\T≠some p.1) :
  Inv X pins σ H { s with heap:=h' }:=by
 have mem:∀b,b∈(X.env::X.outer).filterMap (·.frame)↔b=X.env.locals\/b∈X.fs:=λb=>by
  rw[Jo,hfe];exact HZ
 have out:∀b o,X.s₀.heap.get? b=some o->b≠X.env.locals:=λb o q z=>by
  have h1:=Ib q
  have h2:=I.ok.above;rw[z]at h1;exact absurd (Ig h1 h2) (Iz _)
 have ne:∀b o,X.s₀.heap.get? b=some o->b≠e/\T≠some b:=λb o q=>⟨λz=>(by subst z;rw[heo]at q;cases q),λz=>(by rw[(hT b z).2]at q;cases q)⟩
 have fr:∀b,b∈(X.env::X.outer).filterMap (·.frame)->H b=none:=λb z=>I.Gy b (by rw[hst];exact z)
 have keepH:∀b u,H b≠none->s.heap.get? b=some u->h'.get? b=some u:=λb u hb q=>by
  refine g.keep b u (λz=>hb (fr b z)) (λz=>hb (by rw[z];exact he)) (λz=>hb (hT b z).1) q
 refine⟨I.ok,I.os,I.bare,⟨λb o q n hb hx=> ?_,λb o q n hb hx=> ?_,I.base.free,λb o q hx=> ?_,I.base.tups,I.base.frzs,I.base.tbls⟩,?_,λx c z=>absurd z (hcl x c),I.free,I.freeC,λp hp'=> ?_,λa o q=> ?_,I.len⟩
 ·exact g.keep b o (λz=>((mem b).mp z).elim (out b o q) hb) (ne b o q).1 (ne b o q).2 (I.base.keep b o q n hb hx)
 ·obtain⟨sl,q1⟩:=I.base.slot b o q n hb hx
  obtain⟨sl',q2⟩:=g.slot b _ ((mem b).mpr (.inr hb)) q1;exact⟨sl',q2⟩
 ·obtain⟨o',q1⟩:=I.base.there b o q hx
  by_cases z:b∈(X.env::X.outer).filterMap (·.frame)
  ·obtain⟨sl,q2⟩:=g.slot b o' z q1
   exact⟨_,q2⟩
  ·exact⟨o',g.keep b o' z (ne b o q).1 (ne b o q).2 q1⟩
 ·obtain⟨m,⟨o,es,ep,ho,hd,r⟩,hl⟩:=I.loc
  obtain⟨sl,q2⟩:=g.slot X.env.locals o ((mem _).mpr (.inl rfl)) ho;refine⟨m,⟨_,es,ep,q2,hd,r⟩,λi x v a1 a2 a3=> ?_⟩
  obtain⟨u,ru,lk⟩:=hl i x v a1 a2 a3;refine⟨u,ru,?_⟩
  rcases lk with z | ⟨_,c,z,_⟩
  ·exact .inl z
  ·exact absurd z (hcl x c)
 ·obtain⟨b1,b2,b3,b4,b5⟩:=I.pin p hp'
  exact⟨g.keep p.1 p.2 (λz=>((mem _).mp z).elim b3 b4) (hp p hp').1 (hp p hp').2 b1,b2,b3,b4,b5⟩
 ·refine(I.hok a o q).GD (λb u hb z=>keepH b u ?_ z) (λ_ z=>z) λ_ _ z=>z
  rcases hb with rfl | hb
  ·rw[q];simp
  ·rw[hb];simp
end
section
variable {M:L7}{A:IE}{E:HL->HJ->Prop}{h:Heap}{g:Array OA}{d:Qa}{t:Nat}{os:Ly}
variable {nm q:Str}{C N:Addr}{bs bm:List HL}{hdct:Bool}{sn:List Str}{sub:List HL}{ab:Bool}{col:Option Bool}{dd:Option Addr}{k0 k1 k2 k3 k5:Option HL}{newId:String}
variable {nm' q':Str}{D N':Addr}{bs' bm':List HL}{hdct':Bool}{sn':List Str}{sub':List HL}{ab':Bool}{col':Option Bool}{dd':Option Addr}{k0' k1' k2' k3' k5':Option HL}{newId':String}
theorem uj {e:Addr}{oe:Obj}{Q:Bool->HJ->Prop}(hC:h.get? C=some (JB nm q C N bs bm hdct sn sub ab col dd k0 k1 k2 k3 k5 newId))(hD:h.get? D=some (JB nm' q' D N' bs' bm' hdct' sn' sub' ab' col' dd' k0' k1' k2' k3' k5' newId'))
  (he:h.get? e=some oe) (hcls:oe.cls= .ref C) (hb:bm'.contains (.type "BaseException")=true) (hin:(IB C::bm).contains (.ref D)=true) (hq:Q true ⟨h,g,d,t,os⟩):wpAny M A (excMatches (.ref e) (.ref D)) Q E ⟨h,g,d,t,os⟩:=by
 have hcB:(IB D::bm').contains (.type "BaseException")=true:=by rw[JR,hb,Pm]
 have f:=tc_notTuple;unfold excMatches
 repeat (first | (with_reducible refine Jb he ?_;rw[hcls]) | with_reducible refine Jb hD ?_ | (with_reducible refine Kj hD ?_;rw[hcB]) | (with_reducible refine Kj hC ?_;rw[hin]) | wp_step)
 exact hq
end
abbrev oK (X:Cx)(e:Addr)(oe:Obj):Cx:={ X with A:=X.A.mark (some (.ref e)),calm:=false,pn:=(e,oe)::X.pn,xe:=λ_ _=>False }
section
variable {X:Cx}{pins:List (Addr×Obj)}{σ:L2.St}{H:Hp}{s:HJ}{e:Addr}{oe:Obj}
theorem kI (I:Inv X pins σ H s)(he:s.heap.get? e=some oe)(hH:H e=none)(hne:e≠X.env.locals)(hf:e∉X.fs)(hc:∀v,oe.data≠ .cell v):Inv (oK X e oe) pins σ H s:=by
 have ok:=I.ok;refine⟨⟨ok.mod,ok.kind,ok.glob,ok.blt,ok.above,ok.inj,ok.has,ok.cab,(λz=>by cases z),?_,ok.stk,ok.exf,ok.bs,ok.bsz,ok.noex,ok.exfs,ok.funs,ok.frf⟩,I.os,I.bare,I.base,I.loc,I.cell,I.free,I.freeC,λp hp=> ?_,I.hok,I.len⟩
 ·exact ok.frames
 ·rcases HZ.mp (show p∈(e,oe)::(X.pn++pins)from hp)with z | z
  ·subst z;exact⟨he,hH,hne,hf,hc⟩
  ·exact I.pin p z
theorem sT (ok:X.Ok)(I:Inv (oK X e oe) pins σ H s):Inv X pins σ H s:=
 ⟨ok,I.os,I.bare,I.base,I.loc,I.cell,I.free,I.freeC,λp hp=>I.pin p (HQ _ hp),I.hok,I.len⟩
theorem Inv.forget {h':Heap}{tk:Nat}{m:Str->Option HL}(I:Inv X pins σ H s)(hcl:∀x c,X.env.cells.lookup x≠some c)(hn:h'.Ns X.env.locals m)(hs:KJ X.env.locals s.heap h'):Inv X pins (Iy X.N.length none) H { s with heap:=h',toks:=tk }:=by
 have out:∀b o,X.s₀.heap.get? b=some o->b≠X.env.locals:=λb o q z=>by
  have h1:=Ib q
  have h2:=I.ok.above;rw[z]at h1;exact absurd (Ig h1 h2) (Iz _)
 have kp:∀b o,b≠X.env.locals->s.heap.get? b=some o->h'.get? b=some o:=λb o n q=>hs.extBut b o n q
 refine⟨I.ok,I.os,I.bare,⟨λb o q n hb hx=>kp b o (out b o q) (I.base.keep b o q n hb hx),λb o q n hb hx=> ?_,I.base.free,λb o q hx=> ?_,I.base.tups,I.base.frzs,I.base.tbls⟩,⟨m,hn,λi x v a1 a2 a3=> ?_⟩,λx c z=>absurd z (hcl x c),I.free,I.freeC,λp hp=> ?_,λa o q=> ?_,by simp⟩
 ·obtain⟨sl,q1⟩:=I.base.slot b o q n hb hx
  exact⟨sl,kp b _ (out b o q) q1⟩
 ·obtain⟨o',q1⟩:=I.base.there b o q hx
  exact⟨o',kp b o' (out b o q) q1⟩
 ·rw[KN]at a2
  split at a2 <;> cases a2
 ·obtain⟨b1,b2,b3,b4,b5⟩:=I.pin p hp
  exact⟨kp p.1 p.2 b3 b1,b2,b3,b4,b5⟩
 ·have nl:∀b u,H b=some u->b≠X.env.locals:=λb u q z=>by rw[z,I.free]at q;cases q
  refine(I.hok a o q).GD (λb u hb z=>kp b u ?_ z) (λ_ z=>z) λ_ _ z=>z
  rcases hb with rfl | hb
  ·exact nl _ _ q
  ·exact nl _ _ hb
end
def pI (F:En->Rs Fl)(h:Str->Rs T)(ρ:En):Rs Fl:=match F ρ with
 | .err c=>match h c with
  | .ok t=> .ok (.rt t)
  | _=> .bad
 | r=>r
def oY (X:Cx)(i:Nat)(suite:List Stmt)(CE:Addr)(h:Str->Rs T):Prop:=
 ∀(c:Str) (C:Addr) (t:T),X.mg c=some (.ref C)->h c= .ok t->∃bm,OX X.K C bm/\(IB C::bm).contains (.ref CE)=true ∧
  ∀(e:Addr) (oe:Obj) (ev:Array HL),oe.cls= .ref C->oe.data= .fields ev->∀(pins:List (Addr×Obj)) (s:HJ) (σ:L2.St) (H:Hp) (O:Ow) (Q:VK),Inv (oK X e oe) pins σ H s->H e=none->e∉iX X.stack->σ[i]? =some (some (.ref e))->(∀p,H p=none->¬ O p) →
   (∀v H',Same H H'->Rep X.K O H' t v->Q v H')->wpAny (model X.prog X.w) (oK X e oe).A (execs suite X.env) (SP (oK X e oe) pins { nx:=λ_ _=>False,rt:=Q }) (λ_ _=>False) s
section
variable {X:Cx}
theorem Inv.Hu {σ:L2.St}{H:Hp}{s:HJ}(pins:List (Addr×Obj))(I:Inv X pins σ H s):Inv { X with pn:=X.pn++pins } [] σ H s:=
 ⟨⟨I.ok.mod,I.ok.kind,I.ok.glob,I.ok.blt,I.ok.above,I.ok.inj,I.ok.has,I.ok.cab,I.ok.hd,I.ok.frames,I.ok.stk,I.ok.exf,I.ok.bs,I.ok.bsz,I.ok.noex,I.ok.exfs,I.ok.funs,I.ok.frf⟩,I.os,I.bare,I.base,I.loc,I.cell,I.free,I.freeC,λp hp=>I.pin p (by rw[Jc]at hp;exact hp),I.hok,I.len⟩
theorem Inv.Hn {σ:L2.St}{H:Hp}{s:HJ}{pins pins1:List (Addr×Obj)}{xe:HL->HJ->Prop}(I:Inv { X with pn:=X.pn++pins,xe:=xe } pins1 σ H s):Inv X pins σ H s:=
 ⟨⟨I.ok.mod,I.ok.kind,I.ok.glob,I.ok.blt,I.ok.above,I.ok.inj,I.ok.has,I.ok.cab,I.ok.hd,I.ok.frames,I.ok.stk,I.ok.exf,I.ok.bs,I.ok.bsz,I.ok.noex,I.ok.exfs,I.ok.funs,I.ok.frf⟩,I.os,I.bare,I.base,I.loc,I.cell,I.free,I.freeC,λp hp=>I.pin p (Iw _ hp),I.hok,I.len⟩
end
section
variable {X:Cx}{e C:Addr}{oe:Obj}{bm:List HL}
theorem Dy:IC "ValueError" =some (.type "ValueError"):=by decide+kernel
theorem Co {en:Str}{p p1 p2 pos:Pos}(hN:X.N[0]? =some en)(hv:rO X.env.scope en)(hp:(e,oe)∈X.pn)(hc:oe.cls= .ref C)(OC:OX X.K C bm)
  (hm:X.mg "isinstance" =none) (hmD:X.mg "ValueError" =none) (hg:autoParam (Gl X "isinstance") u_) (hgD:autoParam (Gl X "ValueError") u_) (hde:autoParam ((en == ("__debug__" : Str))=false) s_) (hce:autoParam ((en == ("__classdict__" : Str))=false) s_)
  (he:autoParam (Ik [.Name en p1,.Name "ValueError" p2] X.env=(false,eval (.Name en p1) X.env)::Ik [.Name "ValueError" p2] X.env) u_) (hpl:autoParam ((backTo pos (Ik [.Name "ValueError" p2] X.env)).any (·.1)=false) u_)
  (hs:autoParam (Ik [.Name "ValueError" p2] X.env=(false,eval (.Name "ValueError" p2) X.env)::Ik [] X.env) u_) :
  PE X (.Call (.Name "isinstance" p) [.Name en p1,.Name "ValueError" p2] [] pos) (tIs e true):=by
 intro pins s σ H Q I ⟨hσ,q⟩;refine Jw (dX I hg hm eO ?_ (by decide) (by decide))
 have hA:PA X [.Name en p1,.Name "ValueError" p2] (jn (vG 0) (jn (tC (.ty "ValueError")) vH)):=b9 (jP hN hv hde hce) (b9 (sy (v:=.ty "ValueError") hgD hmD Dy rfl) fD hs) he;refine J2 (bF (hA pos pins s σ H (λvs H'=>vs= [.ref e,.ty "ValueError"]/\H'=H) I ⟨.ref e,hσ,rfl,rfl⟩) λus s1 ⟨vs,H1,I1,r1,e1,e2⟩=> ?_) he hpl
 subst e1;obtain⟨u,w',rfl,ru,rw'⟩:=vg r1;cases ru;cases rw';subst e2;exact xn hp hc OC I1 q
end
theorem Fb {K:HI}{N:Addr}{ob:HL}{oe:Option Addr}{es:Array DictEntry}{n:Nat}{oz:Array (Option HL)}(r:K.lookup N=some ⟨ob,oe,.dict es n,oz⟩)(s:(es.toList.all λe=>vL e.key)=true)
  (u0:Lh K N "__init__" =some none) (u1:Lh K N "__getattribute__" =some none) (u2:Lh K N "__getattr__" =some none) (u3:Lh K N "__class__" =some none) :
  ∀h:Heap,K.In h->∃mN,h.Ns N mN/\∀n∈calmNames,mN n=none:=λh k=>by
 refine⟨nsFind es,⟨_,es,n,k _ _ r,rfl,λe he=> ?_,λ_=>rfl⟩,λx hx=> ?_⟩
 ·have:=ID.mp s e (by simpa using he)
  cases q:e.key <;> rw[q]at this <;> first | exact⟨_,_,rfl⟩ | cases this
 ·have key:∀x,Lh K N x=some none->nsFind es x=none:=λx u=>by
   unfold Lh at u;rw[r]at u;simp only at u
   split at u
   ·cases u
   ·rename_i he
    unfold nsFind findBy;rw[<-Oh,he];rfl
  unfold calmNames at hx;simp only[HZ,Jr,or_false]at hx;rcases hx with rfl | rfl | rfl | rfl
  ·exact key _ u0
  ·exact key _ u1
  ·exact key _ u2
  ·exact key _ u3
section
variable {K:HI}{nm q:Str}{C N:Addr}{bs:List HL}{hdct:Bool}{sn:List Str}{sub:List HL}{ab:Bool}{col:Option Bool}{dd:Option Addr}{k0 k1 k2 k3 k5:Option HL}
variable {nm' q':Str}{D N':Addr}{bs':List HL}{hdct':Bool}{sn':List Str}{sub':List HL}{ab':Bool}{col':Option Bool}{dd':Option Addr}{k0' k1' k2' k3' k5':Option HL}
theorem zl (w:K.lookup C=some (JB nm q C N bs lY hdct sn sub ab col dd k0 k1 k2 k3 k5 "ValueError.__new__"))(ns:∀h:Heap,K.In h->∃mN,h.Ns N mN/\∀n∈calmNames,mN n=none):OX K C lY:=⟨λh k=>by
 obtain⟨mN,h1,h2⟩:=ns h k;exact⟨nm,q,N,bs,hdct,sn,sub,ab,col,dd,k0,k1,k2,k3,k5,mN,k _ _ w,h1,h2,.base⟩⟩
theorem wF (w:K.lookup C=some (JB nm q C N bs (.ref D::lY) hdct sn sub ab col dd k0 k1 k2 k3 k5 "ValueError.__new__"))(ns:∀h:Heap,K.In h->∃mN,h.Ns N mN/\∀n∈calmNames,mN n=none)
  (wD:K.lookup D=some (JB nm' q' D N' bs' lY hdct' sn' sub' ab' col' dd' k0' k1' k2' k3' k5' "ValueError.__new__")) (nsD:∀h:Heap,K.In h->∃mN,h.Ns N' mN/\∀n∈calmNames,mN n=none):OX K C (.ref D::lY):=⟨λh k=>by
 obtain⟨mN,h1,h2⟩:=ns h k;obtain⟨mD,d1,d2⟩:=nsD h k;exact⟨nm,q,N,bs,hdct,sn,sub,ab,col,dd,k0,k1,k2,k3,k5,mN,k _ _ w,h1,h2,.own (k _ _ wD) d1 d2 .base⟩⟩
end
theorem Ek {k:Nat}{A:IE}(h:Room k A):A.depth+3<KU:=by have:=h.dp;omega
end Tr
namespace L2
open PySem PySem.Spec PyProof.Rows
section
variable {κ:Type}[DecidableEq κ]
def jj (kvs:List (κ×V))(k:κ):Option V:=(kvs.find? λkv=>decide (kv.1=k)).map (·.2)
def eR (kvs:List (κ×V))(k:κ)(v:V):List (κ×V):=
 if (kvs.any λkv=>decide (kv.1=k))=true then kvs.map (λkv=>if kv.1=k then(kv.1,v)else kv)else kvs++ [(k,v)]
theorem vi {k:κ}:jj ([]:List (κ×V)) k=none:=rfl
theorem jh {p:κ×V}{r:List (κ×V)}{k:κ}(e:p.1=k):jj (p::r) k=some p.2:=by simp[jj,K3,e]
theorem ji {p:κ×V}{r:List (κ×V)}{k:κ}(e:¬ p.1=k):jj (p::r) k=jj r k:=by simp[jj,K3,e]
theorem pk (k:κ):∀kvs:List (κ×V),(kvs.any λkv=>decide (kv.1=k))=(jj kvs k).isSome
 | [] =>rfl
 | p::r=>by
  rw[M7]
  by_cases e:p.1=k
  ·simp only[jh e,decide_eq_true e,Pn,Ol]
  ·rw[ji e,decide_eq_false e,Om];exact pk k r
theorem kh (kvs:List (κ×V))(k:κ)(v:V):(eR kvs k v).length<=kvs.length+1:=by
 unfold eR;split
 ·rw[HP];omega
 ·rw[HK,HR,IK];omega
theorem RelO.GV {o:Option V}{u:Option HL}(r:RelO o u):o.isSome=u.isSome:=by
 cases o with
 | none=>cases u with
  | none=>rfl
  | some _=>exact(show False from r).elim
 | some _=>cases u with
  | none=>exact(show False from r).elim
  | some _=>rfl
theorem KV.val {kvs:List (κ×V)}{vs:List (κ×HL)}(r:KV kvs vs)(k:κ):RelO (jj kvs k) (valueAt vs k):=by
 unfold KV at r
 induction r with
 | nil=>exact LI
 | @cons p q ps qs h t ih=>
  obtain⟨h1,h2⟩:=h
  by_cases e:p.1=k
  ·have e':q.1=k:=h1.symm.trans e
   have b:valueAt (q::qs) k=some q.2:=by simp[valueAt,K3,e']
   rw[jh e,b];exact h2
  ·have e':¬ q.1=k:=λz=>e (h1.trans z)
   have b:valueAt (q::qs) k=valueAt qs k:=by simp[valueAt,K3,e']
   rw[ji e,b];exact ih
end
theorem A9 {P:Ip}{w:IV}{k:Key}{u:HL}(r:RelV (kV k) u):(du P w).is k u=true:=by
 cases k with
 | inl i=>obtain⟨t,e⟩:=(show ∃t,u=J3 i t from r);subst e;exact p9 P w i t
 | inr x=>obtain⟨t,e⟩:=(show ∃t,u=JD x t from r);subst e;exact p8 P w x t
theorem nh {P:Ip}{w:IV}:∀{ks:List Key} {us:List HL},Vals (ks.map kV) us->ItemsAre (du P w) ks us
 | [],_,r=>by rw[Mu]at r;cases r;exact .nil
 | k::ks,_,r=>by
  rw[HW]at r
  cases r with
  | cons h t=>exact .cons (A9 h) (nh t)
abbrev KT (H:Hp):List (List Key×V)->List (List Key×Addr×HL)->Prop:=Qb λp q=>p.1=q.1/\H q.2.1=some (.tup (p.1.map kV))/\RelV p.2 q.2.2
theorem KT.val {H:Hp}{kvs:List (List Key×V)}{xs:List (List Key×Addr×HL)}(r:KT H kvs xs)(k:List Key):RelO (jj kvs k) ((atKey xs k).map (·.2)):=by
 induction r with
 | nil=>exact LI
 | @cons p q ps qs h t ih=>
  obtain⟨h1,_,h2⟩:=h
  by_cases e:p.1=k
  ·have e':q.1=k:=h1.symm.trans e
   have b:atKey (q::qs) k=some q.2:=by simp[atKey,K3,e']
   rw[jh e,b];exact h2
  ·have e':¬ q.1=k:=λz=>e (h1.trans z)
   have b:atKey (q::qs) k=atKey qs k:=by simp[atKey,K3,e']
   rw[ji e,b];exact ih
theorem KT.HH {H:Hp}{kvs:List (List Key×V)}{xs:List (List Key×Addr×HL)}(r:KT H kvs xs)(k:List Key){y:V}{u:HL}(ry:RelV y u) :
  KT H (kvs.map λkv=>if kv.1=k then(kv.1,y)else kv) (xs.map (putAt k u)):=by
 induction r with
 | nil=>exact .nil
 | @cons p q ps qs h t ih=>
  rw[HW,HW];refine .cons ?_ ih
  obtain⟨h1,h2,h3⟩:=h;unfold putAt
  by_cases e:p.1=k
  ·rw[if_pos e,if_pos (h1.symm.trans e)];exact⟨h1,h2,ry⟩
  ·rw[if_neg e,if_neg (λz=>e (h1.trans z))];exact⟨h1,h2,h3⟩
theorem KT.put {H:Hp}{kvs:List (List Key×V)}{xs:List (List Key×Addr×HL)}(r:KT H kvs xs)(k:List Key){b:Addr}{y:V}{u:HL}(hb:H b=some (.tup (k.map kV)))(ry:RelV y u) :
  KT H (eR kvs k y) (storedH xs k b u):=by
 have e:(kvs.any λkv=>decide (kv.1=k))=(atKey xs k).isSome:=by
  rw[pk,(r.val k).GV,Option.isSome_map]
 unfold eR storedH;rw[e]
 by_cases q:(atKey xs k).isSome=true
 ·rw[if_pos q,if_pos q];exact r.HH k ry
 ·rw[if_neg q,if_neg q];exact Paired.snoc r ⟨rfl,hb,ry⟩
theorem KT.keeps {H H':Hp}{kvs:List (List Key×V)}{xs:List (List Key×Addr×HL)}(r:KT H kvs xs)(ht:∀b ys,H b=some (.tup ys)->H' b=some (.tup ys)):KT H' kvs xs:=
 Paired.G9 r λ_ _ z=>⟨z.1,ht _ _ z.2.1,z.2.2⟩
section
variable {P:Ip}{w:IV}{H:Hp}{h:Heap}{a:Addr}
theorem sg {u:HO}(ok:HOk P w H h)(e:Rd H a u):ObjOk P w H h a u:=e.ok ok
theorem Bf {kvs:List (Key×V)}(ok:HOk P w H h)(e:Rd H a (.dK kvs)):kvs.length<=sizeLine/\(a == LK)=false/\∃vs,KV kvs vs/\h.DictOf (du P w) a vs:=
 show ObjOk P w H h a (.dK kvs)from sg ok e
theorem ro {ks:List Key}(ok:HOk P w H h)(e:H a=some (.tup (ks.map kV))):(NJ (du P w)).is h ks a:=by
 obtain⟨_,its,r,o,h1,h2,n,h3⟩:=(show ObjOk P w H h a (.tup (ks.map kV))from ok a _ e)
 exact⟨o,its.toArray,n,h1,h2,h3,by simpa using nh r⟩
theorem xJ {kvs:List (List Key×V)}(ok:HOk P w H h)(e:Rd H a (.dT kvs)):kvs.length<=sizeLine/\(a == LK)=false ∧
  ∃xs,KT H kvs xs/\h.DictOfH (NJ (du P w)) a xs:=by
 obtain⟨z,y,xs,r,o,es,ep,h1,h2,h3,h4,h5⟩:=(show ObjOk P w H h a (.dT kvs)from sg ok e)
 refine⟨z,y,xs,r,o,es,ep,h1,h2,h3,h4,λx hx=> ?_,h5⟩
 have all:∀{l:List (List Key×V)} {m:List (List Key×Addr×HL)},KT H l m->∀x∈m,(NJ (du P w)).is h x.1 x.2.1:=by
  intro l m q
  induction q with
  | nil=>intro x hx;exact nomatch hx
  | @cons p q ps qs hq t ih=>
   intro x hx;rcases HZ.mp hx with e | hx
   ·subst e
    exact ro ok (by rw[<-hq.1];exact hq.2.1)
   ·exact ih x hx
 exact all r x hx
theorem FQ {kvs:List (List Key×V)}(ok:HOk P w H h)(e:H a=some (.dT kvs)):kvs.length<=sizeLine/\(a == LK)=false ∧
  ∃xs,KT H kvs xs/\h.DictOfH (NJ (du P w)) a xs:=xJ ok (.inl e)
end
def DGet (H:Hp)(a:Addr)(y:V)(r:Option V):Prop:=
 (∃kvs k,Rd H a (.dK kvs)/\y=kV k/\r=jj kvs k)\/∃kvs k b,Rd H a (.dT kvs)/\y= .ref b/\H b=some (.tup (k.map kV))/\r=jj kvs k
section
variable {X:Cx}{pins:List (Addr×Obj)}{σ:St}{H:Hp}{s:HJ}{a:Addr}{y v:V}{u r:HL}{o:Option V}{A:IE}{E:HL->HJ->Prop}
theorem Inv.big (I:Inv X pins σ H s):LK<s.heap.objs.size:=by
 have h:IM<s.heap.objs.size:=(I.mod.glob.keeps I.bk).lt;exact Pk (by decide) h
theorem uE {Q:HL->HJ->Prop}(hu:A.units+1<cLine)(I:Inv X pins σ H s)(g:DGet H a y (some v))(ry:RelV y u)(h:∀w' s',Inv X pins σ H s'->RelV v w'->Q w' s') :
  wpAny (model X.prog X.w) A (getItem (.ref a) u) Q E s:=by
 rcases g with⟨kvs,k,e,ey,l⟩ | ⟨kvs,k,b,e,ey,eb,l⟩
 ·subst ey
  obtain⟨z,hd,vs,rel,dd⟩:=Bf I.hok e;obtain⟨w',hw,rw'⟩:=RelO.some_of (v:=v) (o:=valueAt vs k) (by rw[l];exact rel.val k)
  exact wpAny_getItem_of (A9 ry) dd.mapOf hw (h w' _ (I.tok _) rw')
 ·subst ey
  cases (show u=IB b from ry)
  obtain⟨z,hd,xs,rel,dd⟩:=xJ I.hok e;obtain⟨w',hw,rw'⟩:=RelO.some_of (v:=v) (o:=(atKey xs k).map (·.2)) (by rw[l];exact rel.val k)
  obtain⟨p,hp,hp2⟩:=Nm.mp hw;refine wpAny_getItem_heap (OM hu) (ro I.hok eb) dd hp ?_
  rw[hp2];exact h w' _ (I.tok _) rw'
theorem Al {h':Heap}{t':Nat}{ob:HO}(I:Inv X pins σ H s)(mu:F6 (H a))(hs:KJ a s.heap h')(he:∃q,h'.get? a=some q)(new:ObjOk X.prog X.w (cz H a ob) h' a ob) :
  Inv X pins σ (cz H a ob) { s with heap:=h',toks:=t' }:=
 I.write (x:=a) (e:=a) mu (.inl rfl) (λb q hb z=>(hs.2 b hb).trans z) he new
end
def AE (i:Expr):Prop:=∀ov iv,N9 i false ov iv=operate [ov,iv] (getItem ov iv)
theorem yE {prog:Ip}{w:IV}{A:IE}{E:HL->HJ->Prop}{s:HJ}{env:Env}{value slice:Expr}{pos:Pos}{T id:String}{Q:HL->HJ->Prop}
  (hl:LM (.type T) "__getitem__" =pure (some (.builtin id))) (hs:AE slice)
  (h:wpAny (model prog w) A (eval value env) (λo s₁=>wpAny (model prog w) A (eval slice env) (λi s₂=>s₂.TypeIs o T/\wpAny (model prog w) A (getItem o i) Q E s₂) E s₁) E s) :
  wpAny (model prog w) A (eval (.Subscript value slice pos) env) Q E s:=by
 refine Pf (IR h (λo s₁ h₁=>IR h₁ (λi s₂ h₂=> ?_) λ_ _ x=>x) λ_ _ x=>x)
 obtain⟨hT,h₂⟩:=h₂;unfold Nb;refine HM ?_
 rw[getitemInPython_of_ne hT.not_modules];refine HM (wpAny_specialOf hT hl ?_)
 have fin:wpAny (model prog w) A (N9 slice false o i) (λr s₃=>wpAny (model prog w) A (letTemporaryGo value o r >>= λ_=>pure r) Q E s₃) E s₂:=by
  rw[hs o i];exact wpAny_operating (IR h₂ (λr s₃ h₃=>HM (wpAny_letTemporaryGo (HX h₃))) λ_ _ x=>x)
 first
  | exact HX (HM fin)
  | exact HM (HX (HM fin))
  | exact HM fin
theorem qt {X:Cx}{pins:List (Addr×Obj)}{σ:St}{H:Hp}{s:HJ}{a:Addr}{y:V}{o:Option V}(I:Inv X pins σ H s)(g:DGet H a y o):s.TypeIs (.ref a) "dict":=by
 rcases g with⟨kvs,k,e,_,_⟩ | ⟨kvs,k,b,e,_,_,_⟩
 ·obtain⟨_,_,vs,_,dd⟩:=Bf I.hok e
  exact dd.typeIs
 ·obtain⟨_,_,xs,_,dd⟩:=xJ I.hok e
  exact dd.typeIs
def Ed (td ty:TE):TE:=λσ H Q=>td σ H λx H1=>ty σ H1 λy H2=> ∃a v,x= .ref a/\DGet H2 a y (some v)/\Q v H2
section
variable {X:Cx}{o i e value:Expr}{pos pos' tpos:Pos}{td ty tv:TE}
theorem zj (hu:X.A.units+1<cLine)(ho:PE X o td)(hi:PE X i ty)(hs:AE i):PE X (.Subscript o i pos) (Ed td ty):=by
 intro pins s σ H Q I h;refine yE PySem.F.slot_dict_getitem.lookup hs (bF (ho pins s σ H _ I h) λu s1 ⟨x,H1,I1,rx,q1⟩=>bF (hi pins s1 σ H1 _ I1 q1) λiv s2 hh_=> ?_)
 obtain⟨y,H2,I2,ry,a,v,ex,g,q2⟩:=hh_;subst ex;obtain rfl:u=IB a:=rx;exact⟨qt I2 g,uE hu I2 g ry λw' s3 I3 rw'=>⟨v,H2,I3,rw',q2⟩⟩
end
theorem xK {P:Ip}{w:IV}{H:Hp}(h:Heap)(hb:LK<h.objs.size):ObjOk P w H (h.push { cls:=.type "dict",data:=.dict #[] }) h.objs.size (.dT []):=
 ⟨IZ _,beq_eq_false_iff_ne.mpr (Kv (Jx hb)),[],.nil,_,#[],0,Ie _ rfl,⟨rfl,rfl,rfl⟩,rfl,rfl,MH⟩
structure M2 (X:Cx)(o:Expr)(m:Str)(apos:Pos)(e f:Expr)(cpos:Pos):Prop where
 base:J1 o m X.env (eval o X.env)=eval o X.env
 few:((backTo cpos (Ik [e,f] X.env)).all (λx=> !x.1)&&(backToKw cpos (keywordEach [] X.env)).all (λx=>x.1.isSome)
  &&decide (([e,f]:List Expr).length+([]:List Keyword).length+(if ([]:List Keyword).isEmpty then 0 else 1)<30))=true
 line:(apos.endLine == cpos.line)=true
 trees:backTo cpos (Ik [e,f] X.env)= [(false,eval e X.env),(false,eval f X.env)]
end L2
namespace Tr
open PySem PySem.Spec PyProof.Rows L2
theorem DGet.Hv {H:Hp}{a b:Addr}{kvs:List (List Key×V)}{k:List Key}(e:Rd H a (.dT kvs))(eb:H b=some (.tup (k.map kV))):DGet H a (.ref b) (jj kvs k):=.inr ⟨kvs,k,b,e,rfl,eb,rfl⟩
theorem hu1 {k:Nat}{A:IE}(h:Room k A):A.units+1<cLine:=by have:=h.un;omega
theorem lG {K:HI}{O:Ow}{H:Hp}:∀{l:List T} {vs:List V} {k:List Key},lH l=some k->Reps K O H l vs->vs=k.map kV
 | [],vs,k,h,r=>by cases Reps.Da.mp r;cases h;rfl
 | t::l,vs,k,h,r=>by
  obtain⟨v,ws,rfl,p,q⟩:=Reps.AC.mp r;unfold lH at h
  cases e1:A4 t with
  | none=>rw[e1]at h;cases h
  | some a=>
   cases e2:lH l with
   | none=>rw[e1,e2]at h;cases h
   | some b=>
    rw[e1,e2]at h;cases h;rw[lG e2 q,HW]
    congr 1
    cases t with
    | int i=>cases e1;exact Rep.Do.mp p
    | str x=>cases e1;exact Rep.FS.mp p
    | _=>cases e1
theorem sO {K:HI}{O:Ow}{H:Hp}{y:T}{v:V}{k:List Key}(h:keyOf y=some k)(r:Rep K O H y v):∃b,v= .ref b/\H b=some (.tup (k.map kV)):=by
 cases y with
 | tup l=>
  obtain⟨a,vs,e1,_,e3,e4⟩:=Rep.Fk.mp r;rw[lG h e4]at e3
  exact⟨a,e1,e3⟩
 | _=>cases h
theorem qu {K:HI}{O:Ow}{H:Hp}{k:List Key}:∀{ks ts:List T} {kvs:List (List Key×V)},ks.map keyOf=kvs.map (λp=>some p.1)->Reps K O H ts (kvs.map (·.2))->match qv ks ts k with
  | some t=> ∃v,jj kvs k=some v/\Rep K O H t v
  | none=>jj kvs k=none
 | [],ts,kvs,h,r=>by
  cases kvs with
  | nil=>unfold qv;exact vi
  | cons _ _=>cases h
 | k'::ks,ts,kvs,h,r=>by
  cases kvs with
  | nil=>cases h
  | cons p kvs=>
   rw[HW,HW]at h;injection h with h1 h2
   rw[HW]at r
   cases ts with
   | nil=>have:=Reps.Da.mp r;cases this
   | cons t ts=>
    obtain⟨v,ws,e,q1,q2⟩:=Reps.AC.mp r;injection e with e1 e2
    subst e1 e2;unfold qv
    by_cases hk:keyOf k'=some k
    ·rw[if_pos hk]
     rw[h1]at hk;injection hk with hk
     exact⟨_,jh hk,q1⟩
    ·rw[if_neg hk]
     have hk2:¬ p.1=k:=λz=>hk (by rw[h1,z])
     rw[ji hk2];exact qu h2 q2
theorem n4 {κ:Type}[DecidableEq κ]{k:κ}{p:κ×V}{r:List (κ×V)}{v:V}(h:¬ p.1=k):eR (p::r) k v=p::eR r k v:=by
 unfold eR;rw[M7,decide_eq_false h,Om]
 by_cases q:(r.any λkv=>decide (kv.1=k))=true
 ·rw[if_pos q,if_pos q,HW,if_neg h]
 ·rw[if_neg q,if_neg q];rfl
theorem n5 {κ:Type}[DecidableEq κ]{k:κ}{p:κ×V}{r:List (κ×V)}{v:V}(h:p.1=k)(hn:∀q∈r,q.1≠k):eR (p::r) k v=(p.1,v)::r:=by
 unfold eR;rw[M7,decide_eq_true h,Pn,if_pos rfl,HW,if_pos h]
 congr 1
 conv=>rhs;rw[<-List.map_id r]
 exact JK λq hq=>if_neg (hn q hq)
theorem qo {K:HI}{O:Ow}{H:Hp}{kT vT:T}{k:List Key}{v:V}(hk:keyOf kT=some k)(hv:Rep K O H vT v):∀{ks ts:List T} {kvs:List (List Key×V)},ks.map keyOf=kvs.map (λp=>some p.1)->Reps K O H ts (kvs.map (·.2))->(kvs.map (·.1)).Nodup →
  (lO kT vT ks ts).1.map keyOf=(eR kvs k v).map (λp=>some p.1)/\Reps K O H (lO kT vT ks ts).2 ((eR kvs k v).map (·.2))
 | [],ts,kvs,h,r,_=>by
  cases kvs with
  | nil=>
   unfold lO;refine⟨?_,Reps.Gw hv Reps.Gz⟩
   simp[eR,hk]
  | cons _ _=>cases h
 | k'::ks,ts,kvs,h,r,hn=>by
  cases kvs with
  | nil=>cases h
  | cons p kvs=>
   rw[HW,HW]at h;injection h with h1 h2
   rw[HW]at r;rw[HW]at hn;obtain⟨n1,n2⟩:=JE.mp hn
   cases ts with
   | nil=>have:=Reps.Da.mp r;cases this
   | cons t ts=>
    obtain⟨v',ws,e,q1,q2⟩:=Reps.AC.mp r;injection e with e1 e2
    subst e1 e2;unfold lO
    by_cases hz:keyOf k'=keyOf kT
    ·rw[if_pos hz]
     have hp:p.1=k:=by rw[hz,hk]at h1;injection h1 with h1;exact h1.symm
     rw[n5 hp λq hq z=>n1 (by rw[hp,<-z];exact List.mem_map_of_mem hq)]
     exact⟨by rw[HW,HW,h1,h2],Reps.Gw hv q2⟩
    ·rw[if_neg hz]
     have hp:¬ p.1=k:=λz=>hz (by rw[h1,z,hk])
     obtain⟨a1,a2⟩:=qo hk hv h2 q2 n2;rw[n4 hp];exact⟨by rw[HW,HW,h1,a1],Reps.Gw q1 a2⟩
section
variable {X:Cx}{a b:Expr}{fa fb:En->Rs T}{pos:Pos}
theorem EN (hu:X.A.units+1<cLine)(ha:cL X a fa)(hb:cL X b fb)(hs:autoParam (AE b) x_):cL X (.Subscript a b pos) (o2 mH fa fb):=by
 refine PE.imp (zj hu ha hb hs) λσ H Q ⟨ρ,O,E,hq⟩=> ?_
 obtain⟨ρ1,O1,E1,h1⟩:=aI E hq;refine⟨ρ1,O1,E1,Post.mono h1 λt H1 s1 q v r=> ?_⟩
 obtain⟨t',r',s',E',q'⟩:=q v r;obtain⟨ρ2,O2,E2,h2⟩:=aI (f:=fb) E' q';refine⟨ρ2,O2,E2,Post.mono h2 λt2 H2 s2 q2 v2 r2=> ?_⟩
 obtain⟨t2',r2',s2',E2',q2'⟩:=q2 v2 r2
 have r'':=r'.same s2';unfold mH at q2'
 split at q2'
 ·rename_i ks vs k hk
  split at q2'
  ·rename_i x hx
   obtain⟨a,kvs,e1,e2,e3,e4,e5⟩:=Rep.GB.mp r'';obtain⟨b,f1,f2⟩:=sO hk r2'
   have g:=qu (k:=k) e4 e5;rw[hx]at g;obtain⟨w,g1,g2⟩:=g;exact⟨a,w,e1,by rw[f1,<-g1];exact DGet.Hv e3 f2,q2' H2 (Same.refl H2) w g2⟩
  ·exact q2'.elim
 ·exact q2'.elim
end
end Tr
namespace PySem.F
theorem entry_dict_update_loop:PQ table "dict.update.loop" =some Builtin.«dict.update.loop»:=entryFor_of_tree (by kernel_rfl)
theorem plain_dict_update_loop:plainId "dict.update.loop" =true:=by decide+kernel
end PySem.F
namespace Tr
open PySem PySem.Spec PyProof.Rows L2
def kc (kvs:List (List Key×V)):List (List Key×V)->List (List Key×V)
 | [] =>kvs
 | p::ps=>kc (eR kvs p.1 p.2) ps
theorem kE {H:Hp}{d:Addr}{a b:HO}:cz (cz H d a) d b=cz H d b:=by
 funext c
 by_cases h:c=d
 ·rw[h,aU,aU]
 ·rw[aO h,aO h,aO h]
theorem hu8 {k:Nat}{A:IE}(h:Room k A):A.units+8<cLine:=by have:=h.un;omega
theorem rg {kvs:List (List Key×V)}{k:List Key}{v:V}(h:(kvs.map (·.1)).Nodup):((eR kvs k v).map (·.1)).Nodup:=by
 unfold eR
 by_cases a:(kvs.any λkv=>decide (kv.1=k))=true
 ·rw[if_pos a,Iu]
  have:((λx=>x.1)∘λkv:List Key×V=>if kv.1=k then(kv.1,v)else kv)=λx=>x.1:=by
   funext x
   show(if x.1=k then(x.1,v)else x).1=x.1
   by_cases e:x.1=k
   ·rw[if_pos e]
   ·rw[if_neg e]
  rw[this];exact h
 ·rw[if_neg a,JH,MU]
  refine⟨h,by simp,λx hx y hy=> ?_⟩
  simp only[HW,Mu,Ir]at hy;subst hy;intro z;subst z;obtain⟨p,hp,e⟩:=HY.mp hx;exact a (List.any_eq_true.mpr ⟨p,hp,decide_eq_true e⟩)
def Gp (K:HI)(O:Ow)(H:Hp):List (T×T)->List (List Key×V)->Prop
 | [],ps=>ps= []
 | a::l,ps=> ∃p r,ps=p::r/\keyOf a.1=some p.1/\Rep K O H a.2 p.2/\Gp K O H l r
theorem nu {K:HI}{O:Ow}{H:Hp}:∀{l:List (T×T)} {ps:List (List Key×V)} {ks ts:List T} {kvs:List (List Key×V)},Gp K O H l ps->ks.map keyOf=kvs.map (λp=>some p.1)->Reps K O H ts (kvs.map (·.2))->(kvs.map (·.1)).Nodup →
  (jH l (ks,ts)).1.map keyOf=(kc kvs ps).map (λp=>some p.1)/\Reps K O H (jH l (ks,ts)).2 ((kc kvs ps).map (·.2))
 | [],ps,ks,ts,kvs,h,h1,h2,hn=>by unfold Gp at h;subst h;exact⟨h1,h2⟩
 | (a,b)::l,ps,ks,ts,kvs,h,h1,h2,hn=>by
  obtain⟨p,r,rfl,e1,e2,e3⟩:=h;obtain⟨g1,g2⟩:=qo (vT:=b) e1 e2 h1 h2 hn
  show(jH l (lO a b ks ts)).1.map keyOf=(kc (eR kvs p.1 p.2) r).map (λp=>some p.1)/\Reps K O H (jH l (lO a b ks ts)).2 ((kc (eR kvs p.1 p.2) r).map (·.2))
  exact nu (l:=l) e3 g1 g2 (rg hn)
end Tr
namespace Tr
theorem qb:∀l,fj l l=false
 | [] =>rfl
 | a::l=>by unfold fj;rw[if_pos rfl];exact qb l
theorem oA:∀a b c,fj a b=true->fj b c=true->fj a c=true
 | [],[],_,h,_=>absurd h (by simp[fj])
 | _::_,[],_,h,_=>absurd h (by simp[fj])
 | [],_::_,[],_,h=>absurd h (by simp[fj])
 | [],_::_,_::_,_,_=>rfl
 | _::_,_::_,[],_,h=>absurd h (by simp[fj])
 | x::a,y::b,z::c,h,g=>by
  unfold fj at h g ⊢
  by_cases e:x=y
  ·subst e
   rw[if_pos rfl]at h
   by_cases e2:x=z
   ·rw[if_pos e2]at g ⊢;exact oA a b c h g
   ·rw[if_neg e2]at g ⊢;exact g
  ·rw[if_neg e]at h
   by_cases e2:y=z
   ·subst e2;rw[if_neg e];exact h
   ·rw[if_neg e2]at g
    have h1:=of_decide_eq_true h
    have h2:=of_decide_eq_true g;rw[if_neg (by omega)]
    exact decide_eq_true (by omega)
theorem lE:∀a b,fj a b=false->fj b a=false->a=b
 | [],[],_,_=>rfl
 | [],_::_,h,_=>absurd h (by simp[fj])
 | _::_,[],_,h=>absurd h (by simp[fj])
 | x::a,y::b,h,g=>by
  unfold fj at h g
  by_cases e:x=y
  ·subst e
   rw[if_pos rfl]at h g;rw[lE a b h g]
  ·rw[if_neg e]at h
   rw[if_neg (λz=>e z.symm)]at g
   have h1:=of_decide_eq_false h
   have h2:=of_decide_eq_false g;omega
theorem wW (a b c:List Int)(h:fj a c=true):fj a b=true\/fj b c=true:=by
 cases h1:fj a b with
 | true=>exact .inl rfl
 | false=>
  cases h2:fj b a with
  | true=>exact .inr (oA _ _ _ h2 h)
  | false=>rw[<-lE _ _ h1 h2];exact .inr h
end Tr
namespace Tr
open PySem PySem.Spec PyProof.Rows L2 PySem.W
variable (R:RK)
variable {R:RK}
def RK.kind (R:RK)(h:Heap):PyProof.Rows.KeyKind:={ α:=List Int,blt:=fj,irrefl:=qb,trans:=oA,negTrans:=wW,total:=lE,keyOf:=R.key h,dflt:=[] }
def RK.row (R:RK)(h:Heap)(v:HL):List Int:=(R.key h v).getD []
end Tr
namespace Tr
def DG:List T->Rs T
 | [.lst l,.tup m] =>if ki l=true/\l.length=m.length/\1<=l.length/\l.length<=1000 then .ok (.dct (jH (l.zip m) ([],[])).1 (jH (l.zip m) ([],[])).2)else .bad
 | _=> .bad
end Tr
namespace PySem
open Sem (wp)
namespace F
theorem zk_keys:LM (.type "zip") "keys" =pure none:=by rw[LC,Ks];kernel_rfl
theorem zk_ga:LM (.type "zip") "__getattr__" =pure none:=by rw[LC,Ks];kernel_rfl
theorem zk_entry:PQ table "zip.__getattribute__" =some Builtin.«object.__getattribute__»:=
 entryFor_alias (id':="object.__getattribute__") (by kernel_rfl) (by first | rfl | decide+kernel | (unfold String.splitOn;simp+decide [String.splitOnAux])) (by decide+kernel) (by kernel_rfl)
end F
abbrev zO (h:Heap)(z ti to:Addr)(f0 f1:HL):Prop:=h.get? z=some { cls:=.type "zip",dict:=none,data:=.fields #[f0,f1,.bool false,.ref ti,.ref to],slots:=#[] }
section
variable {prog:Ip}{w:IV}{A:IE}{E:HL->HJ->Prop}{h:Heap}{g:Array OA}{d:Qa}{t:Nat}{os:Ly}{z ti to:Addr}{f0 f1:HL}
theorem zk1 {tk:Tok}{Q:Fin->HJ->Prop}(hx:zO h z ti to f0 f1)(hh:A.handled=none)(hq:∀h' tk' e,PZ h h' e (.ref z) "keys"->E (.ref e) ⟨h',g,d,tk',os⟩) :
  wpAny (model prog w) A (Builtin.«object.__getattribute__» ⟨[.ref z,.str "keys" tk],[]⟩) Q E ⟨h,g,d,t,os⟩:=by
 have hT:(⟨h,g,d,t,os⟩:HJ).TypeIs (.ref z) "zip":=⟨_,hx,rfl⟩
 have f4:=F.zk_keys
 repeat (any_goals (first | assumption | wp_step))
 exact wpAny_raiseAttrError hh (λh' tk e hx=>hq h' tk e hx) (attrMsg_fits (by decide+kernel) (by rw[JL];decide))
theorem zk2 {tk:Tok}{R:LH->HJ->Prop}(hx:zO h z ti to f0 f1)(hh:A.handled=none)(hq:∀h' tk' e,PZ h h' e (.ref z) "keys"->R (.error (.ref e)) ⟨h',g,d,tk',os⟩) :
  codeAny (model prog w) A (.call (.builtin "zip.__getattribute__") ⟨[.ref z,.str "keys" tk],[]⟩) R ⟨h,g,d,t,os⟩:=
 L3 KO.plain F.zk_entry (KO.check _ _ _ _ _ _ _ _ (show(⟨h,g,d,t,os⟩:HJ).TypeIs (.ref z) "zip" from⟨_,hx,rfl⟩) (F.args_zip_getattribute_2 _ _) (zk1 hx hh hq))
theorem zk3 {Q:Option HL->HJ->Prop}(hx:zO h z ti to f0 f1)(hh:A.handled=none)(hq:∀h' tk',(∀b o,h.get? b=some o->h'.get? b=some o)->Q none ⟨h',g,d,tk',os⟩):wpAny (model prog w) A (getAttr? (.ref z) "keys") Q E ⟨h,g,d,t,os⟩:=by
 have hT:∀tk,(⟨h,g,d,tk,os⟩:HJ).TypeIs (.ref z) "zip":=λ_=>⟨_,hx,rfl⟩
 have f1:=sub_AttributeError
 have f2:=KO.lookup
 have f3:=KO.bind (.ref z)
 have f5:=F.zk_ga;unfold getAttr? getAttrBy? getAttrBy
 repeat (any_goals (first | assumption | exact hT _ | wp_step))
 refine zk2 hx hh λh' tk' e hx'=> ?_
 obtain⟨t',u',he⟩:=hx'.there
 repeat (any_goals (first | assumption | exact hT _ | wp_step))
 exact hq _ _ hx'.keeps
end
structure Zp (h:Heap)(n l1 t2 k:Nat)(xs ys:Array HL):Prop where
 b1:l1<n
 b2:t2<n
 pr:Ml h (n+2) (.ref n) (.ref (n+1))
 i1:h.IsListIter n l1 k
 i2:h.IsTupleIter (n+1) t2 k
 s1:h.IsList l1 xs
 s2:h.IsTuple t2 ys
theorem fY {h h':Heap}{a:Addr}{xs:Array HL}(x:h.IsTuple a xs)(e:∀o,h.get? a=some o->h'.get? a=some o):h'.IsTuple a xs:=let ⟨o,ho,r⟩:=x;⟨o,e _ ho,r⟩
theorem Zp.keep {h h':Heap}{n l1 t2 k:Nat}{xs ys:Array HL}(q:Zp h n l1 t2 k xs ys)(e:∀c o,c<n+3->h.get? c=some o->h'.get? c=some o):Zp h' n l1 t2 k xs ys where
 b1:=q.b1
 b2:=q.b2
 pr:=e _ _ (by omega) q.pr
 i1:=q.i1.at λo=>e _ o (by omega)
 i2:=q.i2.at λo=>e _ o (by omega)
 s1:=q.s1.at λo=>e _ o (by have:=q.b1;omega)
 s2:=fY q.s2 λo=>e _ o (by have:=q.b2;omega)
section
variable {prog:Ip}{w:IV}{A:IE}{E:HL->HJ->Prop}{s:HJ}{n l1 t2 k:Nat}{xs ys:Array HL}{x y:HL}
theorem o8 {a:Addr}{Q:Option Obj->HJ->Prop}(q:Q (s.heap.get? a) s):wpAny (model prog w) A (loadIfAlive a) Q E s:=λΓ p _=>by
 show Nx _ _ (Sem.loadIfAlive a pure) _ _ _ _
 rw[Sem.wp_loadIfAlive];exact q
end
section
variable {prog:Ip}{w:IV}{A:IE}{E:HL->HJ->Prop}{s:HJ}{n l1 t2 k:Nat}{xs ys:Array HL}{x y:HL}
theorem dP {a b:Nat}(h:a<b\/b<a):a≠b:=by omega
theorem Zp.one {h h':Heap}(q:Zp h n l1 t2 k xs ys)(i:h'.IsListIter n l1 (k+1))(e:KJ n h h'):h'.IsTupleIter (n+1) t2 k/\h'.IsList l1 xs/\h'.IsTuple t2 ys/\Ml h' (n+2) (.ref n) (.ref (n+1)):=by
 have b1:=q.b1
 have b2:=q.b2;exact⟨q.i2.at λo g=>e.extBut _ _ (dP (by omega)) g,q.s1.at λo g=>e.extBut _ _ (dP (by omega)) g,fY q.s2 λo g=>e.extBut _ _ (dP (by omega)) g,e.extBut _ _ (dP (by omega)) q.pr⟩
theorem o7 {T:Addr}{ob:Obj}{f:Bool}{Q:Bool->HJ->Prop}(kz:zO s.heap (n+4) (n+2) (n+3) (rawInt T) (.bool f))(kT:s.heap.get? T=some ob)
  (hk:∀h',zO h' (n+4) (n+2) (n+3) (rawInt T) (.bool true)->(∀c o,c≠n+4->s.heap.get? c=some o->h'.get? c=some o)->h'.objs.size=s.heap.objs.size->Q false { s with heap:=h' }):wpAny (model prog w) A (IL (.ref (n+4))) Q E s:=by
 unfold IL;refine HM (IW kz rfl (x:=rawInt T) rfl ?_)
 show wpAny _ _ (loadIfAlive (Int.toNat (T:Int)) >>= _) _ _ _
 rw[IY];refine HM (o8 ?_)
 rw[kT]
 show wpAny _ _ (field (.ref (n+4)) 1 >>= _) _ _ _
 refine HM (IW kz rfl (x:=.bool f) rfl ?_)
 cases f with
 | true=>
  rw[if_neg (by decide)]
  exact HX (hk _ kz (λ_ _ _ e=>e) rfl)
 | false=>
  rw[if_pos (by decide)]
  refine HM (LD kz (by simp) λh₁ kz₁ hs₁=>HX (hk h₁ kz₁ (λc o c1 e=>hs₁.extBut _ _ c1 e) hs₁.1))
theorem uZ {T:Addr}{ob:Obj}{f:Bool}{Q:HL->HJ->Prop}(q:Zp s.heap n l1 t2 k xs ys)(kz:zO s.heap (n+4) (n+2) (n+3) (rawInt T) (.bool f))(kT:s.heap.get? T=some ob)(hx:xs[k]? =some x)(hy:ys[k]? =some y)
  (kq:∀h' p,s.heap.objs.size<=p->Ml h' p x y->zO h' (n+4) (n+2) (n+3) (rawInt T) (.bool true)->Zp h' n l1 t2 (k+1) xs ys->(∀c o,c≠n->c≠n+1->c≠n+4->s.heap.get? c=some o->h'.get? c=some o)->Q (.ref p) { s with heap:=h' }) :
  wpAny (model prog w) A (Builtin.«zip.__next__» ⟨[.ref (n+4)],[]⟩) (λfin s'=> ∃v,fin= .done (.ret v)/\Q v s') E s:=by
 have b1:=q.b1
 have b2:=q.b2
 show wpAny _ _ (field (.ref (n+4)) 2 >>= _) _ _ _
 refine HM (IW kz rfl (x:=.bool false) rfl ?_)
 show wpAny _ _ (field (.ref (n+4)) 3 >>= _) _ _ _
 refine HM (IW kz rfl (x:=.ref (n+2)) rfl ?_)
 refine HM (Kc q.pr rfl ?_)
 show wpAny _ _ (IL (.ref (n+4)) >>= _) _ _ _
 refine HM (o7 kz kT λh₁ kz₁ e₁ z₁=> ?_)
 have q₁:Zp h₁ n l1 t2 k xs ys:=q.keep λc o hc g=>e₁ c o (by omega) g
 simp only[Jv,if_false,Oq,Lu,MF];refine HM (HM (HM (Jp ?_)))
 show wpAny _ _ (IX (.ref n) >>= _) _ _ _
 refine HM (Nq q₁.i1 q₁.s1 hx λh₂ g₂ e₂=>HX ?_)
 obtain⟨r1,r2,r3,r4⟩:=q₁.one g₂ e₂;refine HX (HM (HM (Jp ?_)))
 show wpAny _ _ (IX (.ref (n+1)) >>= _) _ _ _
 refine HM (Enu.tupNext r1 r3 hy λh₃ g₃ e₃=>HX (HX (HX ?_)))
 show wpAny _ _ (newTuple [x,y] >>= _) _ _ _
 refine HM (N3 (HX ⟨_,rfl,?_⟩))
 have z₃:h₃.objs.size=s.heap.objs.size:=by rw[e₃.1,e₂.1,z₁]
 have up:∀c o,c≠n->c≠n+1->h₁.get? c=some o->(h₃.push { cls:=.type "tuple",data:=.seq #[x,y] }).get? c=some o:=λc o c1 c2 g=>HN _ (e₃.extBut _ _ c2 (e₂.extBut _ _ c1 g))
 refine kq _ h₃.objs.size (KL z₃.symm) (Ie _ rfl) (up _ _ (dP (by omega)) (dP (by omega)) kz₁) ⟨b1,b2,up _ _ (dP (by omega)) (dP (by omega)) q₁.pr,?_,?_,?_,?_⟩ λc o c1 c2 c4 g=>up c o c1 c2 (e₁ c o c4 g)
 ·exact g₂.at λo g=>HN _ (e₃.extBut _ _ (dP (by omega)) g)
 ·exact g₃.at λo g=>HN _ g
 ·exact q₁.s1.at λo g=>up _ o (dP (by omega)) (dP (by omega)) g
 ·exact fY q₁.s2 λo g=>up _ o (dP (by omega)) (dP (by omega)) g
theorem tQ {a b:HL}{Q:HL->HJ->Prop}(q:Zp s.heap n l1 t2 k xs ys)(kz:zO s.heap (n+4) (n+2) (n+3) .none (.bool false))(ho:Ml s.heap (n+3) a b)(hx:xs[k]? =some x)(hy:ys[k]? =some y)
  (kq:∀h' p,s.heap.objs.size<=p->Ml h' p x y->zO h' (n+4) (n+2) (n+3) (rawInt p) (.bool false)->Zp h' n l1 t2 (k+1) xs ys->(∀c o,c≠n->c≠n+1->c≠n+3->c≠n+4->s.heap.get? c=some o->h'.get? c=some o)->Q (.ref p) { s with heap:=h' }) :
  wpAny (model prog w) A (Builtin.«zip.__next__» ⟨[.ref (n+4)],[]⟩) (λfin s'=> ∃v,fin= .done (.ret v)/\Q v s') E s:=by
 have b1:=q.b1
 have b2:=q.b2
 show wpAny _ _ (field (.ref (n+4)) 2 >>= _) _ _ _
 refine HM (IW kz rfl (x:=.bool false) rfl ?_)
 show wpAny _ _ (field (.ref (n+4)) 3 >>= _) _ _ _
 refine HM (IW kz rfl (x:=.ref (n+2)) rfl ?_)
 refine HM (Kc q.pr rfl ?_)
 show wpAny _ _ (IL (.ref (n+4)) >>= _) _ _ _
 have fr:wpAny (model prog w) A (IL (.ref (n+4))) (λv s'=>v=true/\s'=s) E s:=by
  unfold IL;exact HM (IW kz rfl (x:=.none) rfl (HX ⟨rfl,rfl⟩))
 refine HM (IR fr (λv s' hv=> ?_) λ_ _ z=>z)
 obtain⟨rfl,rfl⟩:=hv;simp only[if_true];refine HM (Ll (HM (IW kz rfl (x:=.ref (n+3)) rfl (HM (LD kz (by simp) λh₁ kz₁ e₁=> ?_)))))
 replace kz₁:zO h₁ (n+4) (n+2) (n+3) .ellipsis (.bool false):=kz₁
 have q₁:Zp h₁ n l1 t2 k xs ys:=q.keep λc o hc g=>e₁.extBut c o (dP (by omega)) g
 simp only[List.zipIdx_cons,List.zipIdx_nil,Lu,MF];refine HM (HM (HM (ON ?_)))
 show wpAny _ _ (IX (.ref n) >>= _) _ _ _
 refine HM (Nq q₁.i1 q₁.s1 hx λh₂ g₂ e₂=>HX ?_)
 obtain⟨r1,r2,r3,r4⟩:=q₁.one g₂ e₂
 have o₂:Ml h₂ (n+3) a b:=e₂.extBut _ _ (dP (by omega)) (e₁.extBut _ _ (dP (by omega)) ho)
 refine HM (Kc o₂ rfl (HM (NV o₂ λh₃ o₃ e₃=>HM (wpAny_letGo (HX ?_)))))
 replace o₃:Ml h₃ (n+3) x b:=o₃
 refine HM (HM (ON ?_))
 show wpAny _ _ (IX (.ref (n+1)) >>= _) _ _ _
 refine HM (Enu.tupNext (r1.at λo g=>e₃.extBut _ _ (dP (by omega)) g) (fY r3 λo g=>e₃.extBut _ _ (dP (by omega)) g) hy λh₄ g₄ e₄=>HX ?_)
 have o₄:Ml h₄ (n+3) x b:=e₄.extBut _ _ (dP (by omega)) o₃
 refine HM (Kc o₄ rfl (HM (NV o₄ λh₅ o₅ e₅=>HM (wpAny_letGo (HX (HX ?_))))))
 replace o₅:Ml h₅ (n+3) x y:=o₅
 refine HM (Kc o₅ rfl (HM (N3 ?_)))
 have z₅:h₅.objs.size=s'.heap.objs.size:=by rw[e₅.1,e₄.1,e₃.1,e₂.1,e₁.1]
 have up:∀c o,c≠n->c≠n+1->c≠n+3->h₁.get? c=some o->h₅.get? c=some o:=λc o c1 c2 c3 g=>e₅.extBut _ _ c3 (e₄.extBut _ _ c2 (e₃.extBut _ _ c3 (e₂.extBut _ _ c1 g)))
 show wpAny _ _ (Lc (.ref (n+4)) (.ref h₅.objs.size) >>= _) _ _ _
 have z5:zO (h₅.push { cls:=.type "tuple",data:=.seq #[x,y] }) (n+4) (n+2) (n+3) .ellipsis (.bool false):=HN _ (up _ _ (dP (by omega)) (dP (by omega)) (dP (by omega)) kz₁)
 have hn:n+4<h₅.objs.size:=Ib (up _ _ (dP (by omega)) (dP (by omega)) (dP (by omega)) kz₁)
 refine HM ?_
 unfold Lc;refine HM (LD z5 (by simp) λh₇ z₇ e₇=> ?_)
 replace z₇:zO h₇ (n+4) (n+2) (n+3) (rawInt h₅.objs.size) (.bool false):=z₇
 refine LD z₇ (by simp) λh₈ z₈ e₈=>HX ⟨_,rfl,?_⟩
 replace z₈:zO h₈ (n+4) (n+2) (n+3) (rawInt h₅.objs.size) (.bool false):=z₈
 have up8:∀c o,c≠n+4->h₅.get? c=some o->h₈.get? c=some o:=λc o c1 g=>e₈.extBut _ _ c1 (e₇.extBut _ _ c1 (HN _ g))
 refine kq h₈ h₅.objs.size (KL z₅.symm) (e₈.extBut _ _ (dP (by omega)) (e₇.extBut _ _ (dP (by omega)) (Ie _ rfl))) z₈ ⟨b1,b2,up8 _ _ (dP (by omega)) (up _ _ (dP (by omega)) (dP (by omega)) (dP (by omega)) q₁.pr),?_,?_,?_,?_⟩ λc o c1 c2 c3 c4 g=>up8 c o c4 (up c o c1 c2 c3 (e₁.extBut _ _ c4 g))
 ·exact g₂.at λo g=>up8 _ _ (dP (by omega)) (e₅.extBut _ _ (dP (by omega)) (e₄.extBut _ _ (dP (by omega)) (e₃.extBut _ _ (dP (by omega)) g)))
 ·exact g₄.at λo g=>up8 _ _ (dP (by omega)) (e₅.extBut _ _ (dP (by omega)) g)
 ·exact q₁.s1.at λo g=>up8 _ _ (dP (by omega)) (up _ o (dP (by omega)) (dP (by omega)) (dP (by omega)) g)
 ·exact fY q₁.s2 λo g=>up8 _ _ (dP (by omega)) (up _ o (dP (by omega)) (dP (by omega)) (dP (by omega)) g)
theorem uY {T:Addr}{ob:Obj}{f:Bool}{Q:Fin->HJ->Prop}(hh:A.handled=none)(q:Zp s.heap n l1 t2 k xs ys)(kz:zO s.heap (n+4) (n+2) (n+3) (rawInt T) (.bool f))(kT:s.heap.get? T=some ob)(hx:xs[k]? =none)
  (ke:∀h' e,(∀c o,c≠n->c≠n+4->s.heap.get? c=some o->h'.get? c=some o)->(∃o,h'.get? e=some o/\o.cls= .type "StopIteration")->E (.ref e) { s with heap:=h' }) :
  wpAny (model prog w) A (Builtin.«zip.__next__» ⟨[.ref (n+4)],[]⟩) Q E s:=by
 show wpAny _ _ (field (.ref (n+4)) 2 >>= _) _ _ _
 refine HM (IW kz rfl (x:=.bool false) rfl ?_)
 show wpAny _ _ (field (.ref (n+4)) 3 >>= _) _ _ _
 refine HM (IW kz rfl (x:=.ref (n+2)) rfl ?_)
 refine HM (Kc q.pr rfl ?_)
 show wpAny _ _ (IL (.ref (n+4)) >>= _) _ _ _
 refine HM (o7 kz kT λh₁ kz₁ e₁ z₁=> ?_)
 have q₁:Zp h₁ n l1 t2 k xs ys:=q.keep λc o hc g=>e₁ c o (by omega) g
 simp only[Jv,if_false,Oq,Lu,MF];refine HM (HM (HM (Jp ?_)))
 show wpAny _ _ (IX (.ref n) >>= _) _ _ _
 exact HM (wpAny_nextOf_list_end hh q₁.i1 q₁.s1 hx λh₂ e e₂ he=>ke h₂ e (λc o c1 c4 g=>e₂ _ _ c1 (e₁ c o c4 g)) he)
theorem yo {T:Addr}{ob:Obj}{f:Bool}{Q:Option HL->HJ->Prop}(q:Zp s.heap n l1 t2 k xs ys)(kz:zO s.heap (n+4) (n+2) (n+3) (rawInt T) (.bool f))(kT:s.heap.get? T=some ob)(hx:xs[k]? =some x)(hy:ys[k]? =some y)
  (kq:∀h' p,s.heap.objs.size<=p->Ml h' p x y->zO h' (n+4) (n+2) (n+3) (rawInt T) (.bool true)->Zp h' n l1 t2 (k+1) xs ys->(∀c o,c≠n->c≠n+1->c≠n+4->s.heap.get? c=some o->h'.get? c=some o)->Q (some (.ref p)) { s with heap:=h' }) :
  wpAny (model prog w) A (pyNext (.ref (n+4))) Q E s:=by
 have hy':s.TypeIs (.ref (n+4)) "zip":=⟨_,kz,rfl⟩;unfold pyNext;exact HM (Nc (Jq (name:=Ij "__next__") hy' KC (JS KC hy' Nh (uZ q kz kT hx hy λh' p a1 a2 a3 a4 a5=>HX (kq h' p a1 a2 a3 a4 a5)) (MV _))))
theorem uX {a b:HL}{Q:Option HL->HJ->Prop}(q:Zp s.heap n l1 t2 k xs ys)(kz:zO s.heap (n+4) (n+2) (n+3) .none (.bool false))(ho:Ml s.heap (n+3) a b)(hx:xs[k]? =some x)(hy:ys[k]? =some y)
  (kq:∀h' p,s.heap.objs.size<=p->Ml h' p x y->zO h' (n+4) (n+2) (n+3) (rawInt p) (.bool false)->Zp h' n l1 t2 (k+1) xs ys->(∀c o,c≠n->c≠n+1->c≠n+3->c≠n+4->s.heap.get? c=some o->h'.get? c=some o)->Q (some (.ref p)) { s with heap:=h' }) :
  wpAny (model prog w) A (pyNext (.ref (n+4))) Q E s:=by
 have hy':s.TypeIs (.ref (n+4)) "zip":=⟨_,kz,rfl⟩;unfold pyNext;exact HM (Nc (Jq (name:=Ij "__next__") hy' KC (JS KC hy' Nh (tQ q kz ho hx hy λh' p a1 a2 a3 a4 a5=>HX (kq h' p a1 a2 a3 a4 a5)) (MV _))))
theorem yn {T:Addr}{ob:Obj}{f:Bool}{Q:Option HL->HJ->Prop}(hh:A.handled=none)(q:Zp s.heap n l1 t2 k xs ys)(kz:zO s.heap (n+4) (n+2) (n+3) (rawInt T) (.bool f))(kT:s.heap.get? T=some ob)(hx:xs[k]? =none)
  (kq:∀h',(∀c o,c≠n->c≠n+4->s.heap.get? c=some o->h'.get? c=some o)->Q none { s with heap:=h' }):wpAny (model prog w) A (pyNext (.ref (n+4))) Q E s:=by
 have hy':s.TypeIs (.ref (n+4)) "zip":=⟨_,kz,rfl⟩;unfold pyNext;refine HM (Nc (Jq (name:=Ij "__next__") hy' KC (JS KC hy' Nh (uY hh q kz kT hx λh' e a1 he=> ?_) (MV _))))
 obtain⟨o,ho,hc⟩:=he;exact HM (PK (T:="StopIteration") (b:=true) ⟨o,ho,hc⟩ isSubtype_stop (HX (kq _ a1)))
theorem yp {f0 f1:HL}{Q:HL->HJ->Prop}(kz:zO s.heap (n+4) (n+2) (n+3) f0 f1)(h:Q (.ref (n+4)) s):wpAny (model prog w) A (pyIter (.ref (n+4))) Q E s:=by
 have hy':s.TypeIs (.ref (n+4)) "zip":=⟨_,kz,rfl⟩;refine wpAny_pyIter_slot hy' P2 (JS P2 hy' F.entry_zip_iter ?_ (F.args_zip_iter_1 _))
 show wpAny _ _ (ret (.ref (n+4))) _ _ s
 exact HX ⟨_,rfl,"zip",_,hy',KC.lookup,h⟩
end
abbrev DP (h:Heap)(l t:Addr):Heap:=h.push { cls:=.type "list_iterator",data:=.fields #[.ref l,.int 0 0] }
abbrev Gb (h:Heap)(l t:Addr):Heap:=(DP h l t).push { cls:=.type "tuple_iterator",data:=.fields #[.ref t,.int 0 0] }
abbrev Ga (h:Heap)(l t:Addr):Heap:=(Gb h l t).push { cls:=.type "tuple",data:=.seq #[.ref h.objs.size,.ref (DP h l t).objs.size] }
abbrev F9 (h:Heap)(l t:Addr):Heap:=(Ga h l t).push { cls:=.type "tuple",data:=.seq #[.none,.none] }
abbrev AH (h:Heap)(l t:Addr):Heap:=(F9 h l t).push { cls:=.type "zip",data:=.fields #[.none,.bool false,.bool false,.ref (Gb h l t).objs.size,.ref (Ga h l t).objs.size] }
theorem ui (l t:Addr)(xs ys:Array HL):Meets (Builtin.«zip.__new__» ⟨[.type "zip",.ref l,.ref t],[]⟩) (λ_ R s=>s.heap.IsList l xs/\s.heap.IsTuple t ys/\R (.ok (.ret (.ref (F9 s.heap l t).objs.size))) { s with heap:=AH s.heap l t }):=
 .of_wp λprog w A R s q=>by
  obtain⟨hp,g,d,tk,os⟩:=s;obtain⟨a1,a2,q⟩:=q
  have k0:=sub_zip
  have k1:Heap.IsList (PX ⟨hp,g,d,tk,os⟩) l xs:=a1
  have k2:Heap.IsTuple (PX ⟨DP hp l t,g,d,tk,os⟩) t ys:=fY a2 λo e=>HN _ e
  wp_walk using LL k1,Kr k2
  exact⟨_,rfl,q⟩
section
variable {prog:Ip}{w:IV}{A:IE}{E:HL->HJ->Prop}{s:HJ}
theorem yq {l t:Addr}{xs ys:Array HL}{Q:HL->HJ->Prop}(a1:s.heap.IsList l xs)(a2:s.heap.IsTuple t ys)
  (q:∀h',Zp h' s.heap.objs.size l t 0 xs ys->zO h' (s.heap.objs.size+4) (s.heap.objs.size+2) (s.heap.objs.size+3) .none (.bool false)->Ml h' (s.heap.objs.size+3) .none .none->h'.objs.size=s.heap.objs.size+5 →
   (∀c o,s.heap.get? c=some o->h'.get? c=some o)->Q (.ref (s.heap.objs.size+4)) { s with heap:=h' }) :
  wpAny (model prog w) A (call (.type "zip") [.ref l,.ref t]) Q E s:=by
 refine callType_new F.called_zip (by decide) (F.typeCall_zip_2 _ _) (F.newCall_zip_2 _ _) (λobj=>F.args_object_init_3 obj _ _) F.entry_zip_new (ui l t xs ys) ⟨a1,a2,?_⟩
 have z1:(DP s.heap l t).objs.size=s.heap.objs.size+1:=Jz ..
 have z2:(Gb s.heap l t).objs.size=s.heap.objs.size+2:=by rw[Jz,z1]
 have z3:(Ga s.heap l t).objs.size=s.heap.objs.size+3:=by rw[Jz,z2]
 have z4:(F9 s.heap l t).objs.size=s.heap.objs.size+4:=by rw[Jz,z3]
 have z5:(AH s.heap l t).objs.size=s.heap.objs.size+5:=by rw[Jz,z4]
 have g5:(AH s.heap l t).get? (F9 s.heap l t).objs.size=some _:=Ie _ rfl
 have g4:(AH s.heap l t).get? (Ga s.heap l t).objs.size=some _:=HN _ (Ie _ rfl)
 have g3:(AH s.heap l t).get? (Gb s.heap l t).objs.size=some _:=HN _ (HN _ (Ie _ rfl))
 have g2:(AH s.heap l t).get? (DP s.heap l t).objs.size=some _:=HN _ (HN _ (HN _ (Ie _ rfl)))
 have g1:(AH s.heap l t).get? s.heap.objs.size=some _:=HN _ (HN _ (HN _ (HN _ (Ie _ rfl))))
 have up:∀c o,s.heap.get? c=some o->(AH s.heap l t).get? c=some o:=λc o e=>HN _ (HN _ (HN _ (HN _ (HN _ e))))
 show _/\_
 rw[z2,z3,z4]at g5;rw[z1,z2]at g3;rw[z3]at g4;rw[z1]at g2;rw[z4]
 have lt1:l<s.heap.objs.size:=by obtain⟨o,e,_⟩:=a1;exact Ib e
 have lt2:t<s.heap.objs.size:=by obtain⟨o,e,_⟩:=a2;exact Ib e
 exact⟨⟨_,g5,rfl⟩,q _ ⟨lt1,lt2,g3,⟨_,g1,rfl,rfl⟩,⟨_,g2,rfl,rfl⟩,a1.at λo e=>up _ o e,fY a2 λo e=>up _ o e⟩ g5 g4 z5 up⟩
end
end PySem
namespace Tr
open PySem PySem.Spec PyProof.Rows L2
def ZAt (H:Hp):List V->List V->List (List Key×V)->Prop
 | [],[],ps=>ps= []
 | x::xs,y::ys,ps=> ∃kb p r,ps=p::r/\x= .ref kb/\H kb=some (.tup (p.1.map kV))/\p.2=y/\ZAt H xs ys r
 | _,_,_=>False
theorem ZAt.mono {H H':Hp}(h:∀b vs,H b=some (.tup vs)->H' b=some (.tup vs)):∀{xs ys:List V} {ps:List (List Key×V)},ZAt H xs ys ps->ZAt H' xs ys ps
 | [],[],_,z=>z
 | [],_::_,_,z=>z
 | _::_,[],_,z=>z
 | x::xs,y::ys,_,⟨kb,p,r,e1,e2,e3,e4,e5⟩=>⟨kb,p,r,e1,e2,h _ _ e3,e4,e5.mono h⟩
theorem ZAt.len {H:Hp}:∀{xs ys:List V} {ps:List (List Key×V)},ZAt H xs ys ps->xs.length=ys.length
 | [],[],_,_=>rfl
 | [],_::_,_,z=>z.elim
 | _::_,[],_,z=>z.elim
 | x::xs,y::ys,_,⟨kb,p,r,e1,e2,e3,e4,e5⟩=>by rw[HR,HR,e5.len]
section
variable {X:Cx}{pins:List (Addr×Obj)}{σ:L2.St}{A:IE}{res:HL}{R:LH->HJ->Prop}{d it:Addr}
theorem tm {Ex:Heap->Prop}{i:Nat}{s:HJ}{H:Hp}{kvs:List (List Key×V)}{kb:Addr}{kk:List Key}{v:V}(hu:A.units+3<cLine)(hd:H d=some (.dT kvs))(hz:kvs.length<1000)(hk:H kb=some (.tup (kk.map kV)))
  (hn:∀{Q:Option HL->HJ->Prop} {E:HL->HJ->Prop},(∀h' p u2,Inv X pins σ H { s with heap:=h' }->Ml h' p (.ref kb) u2->RelV v u2->Ex h'->Q (some (.ref p)) { s with heap:=h' })->wpAny (model X.prog X.w) A.in1 (pyNext (.ref it)) Q E s)
  (nx:∀h' h2 tk,Ex h'->(∀c,c≠d->h2.get? c=h'.get? c)->Inv X pins σ (cz H d (.dT (eR kvs kk v))) { s with heap:=h2,toks:=tk }->codeAny (model X.prog X.w) A (.builtin "dict.update.loop" ⟨[.ref d,.ref it,rawInt ((i+1:Nat):Int),res],[]⟩) R { s with heap:=h2,toks:=tk }) :
  codeAny (model X.prog X.w) A (.builtin "dict.update.loop" ⟨[.ref d,.ref it,rawInt (i:Nat),res],[]⟩) R s:=by
 refine NM F.entry_dict_update_loop ?_
 rw[NS F.plain_dict_update_loop _]
 show wpAny _ A.in1 (pyNext (.ref it) >>= _) _ _ s
 refine HM (hn λh' p u2 I1 hp q2 hx=> ?_)
 show wpAny _ A.in1 (holding [IB p] _ >>= _) _ _ _
 refine HM (Jp (HM (wpAny_tryCatch ?_)))
 unfold Builtin.Dict.pairItems;refine HM (MA (s:={ s with heap:=h' }) (T:="tuple") ⟨_,hp,rfl⟩ ?_)
 rw[if_pos (by decide)]
 refine HM (Kc (s:={ s with heap:=h' }) hp rfl (HX ?_))
 show wpAny _ _ (holding [IB kb,u2] (dictSet d (.ref kb) u2)) _ _ _
 refine Jp ?_
 obtain⟨zz,hds,xs2,rel,dd⟩:=FQ I1.hok hd
 have hzl:xs2.length<=sizeLine:=by rw[<-Paired.length rel];exact zz
 have hkl:kvs.length<sizeLine:=by rw[JL];omega
 have hl2:(eR kvs kk v).length<=sizeLine:=by have:=kh kvs kk v;omega
 refine wpAny_dictSet_heap (hsz:=hzl) (OM (by show A.units+1<cLine;omega)) (ro I1.hok hk) dd λh2 dd2 hs2=> ?_
 obtain⟨q,es,ep,hq,h22,h3,h4,_,h5⟩:=dd2
 have I2:Inv X pins σ (cz H d (.dT (eR kvs kk v))) { s with heap:=h2,toks:=s.toks+(NJ (du X.prog X.w)).draws kk }:=
  Al (s:={ s with heap:=h' }) I1 (by rw[hd];exact LI) hs2 ⟨q,hq⟩ ⟨hl2,hds,_,(rel.put kk hk q2).keeps λc ys ec=>by rw[aO (A1 ec hd (λz=>nomatch z))];exact ec,q,es,ep,hq,h22,h3,h4,h5⟩
 have hcast:(i:Int)+1=((i+1:Nat):Int):=by omega
 refine HX ⟨OP F.plain_dict_update_loop _,?_⟩
 rw[hcast];exact nx h' h2 _ hx (λc hc=>hs2.2 c hc) I2
theorem Dl {s:HJ}{i:Nat}(hn:∀{Q:Option HL->HJ->Prop} {E:HL->HJ->Prop},(∀h',R (.ok (.ret res)) { s with heap:=h' }->Q none { s with heap:=h' })->wpAny (model X.prog X.w) A.in1 (pyNext (.ref it)) Q E s) :
  codeAny (model X.prog X.w) A (.builtin "dict.update.loop" ⟨[.ref d,.ref it,rawInt (i:Nat),res],[]⟩) R s:=by
 refine NM F.entry_dict_update_loop ?_
 rw[NS F.plain_dict_update_loop _]
 show wpAny _ A.in1 (pyNext (.ref it) >>= _) _ _ s
 refine HM (hn λh' hr=> ?_)
 show wpAny _ _ (Builtin.Dict.addKeywords d [] >>= _) _ _ _
 exact HM (HX (HX hr))
theorem yu {n l1 t2:Nat}{us ws:Array HL}{xs ys:List V}{T:Addr}(hh:A.handled=none)(hu:A.units+3<cLine)(rx:Vals xs us.toList)(ry:Vals ys ws.toList)(hTn:n+4<T)(hTd:T≠d):∀(k i:Nat) (s:HJ) (H:Hp) (kvs ps:List (List Key×V)) (f:Bool) (ob:Obj),xs.length - i=k->i<=xs.length->H d=some (.dT kvs)->kvs.length+(xs.length - i)<=1000 →
  Inv X pins σ H s->Zp s.heap n l1 t2 i us ws->zO s.heap (n+4) (n+2) (n+3) (rawInt T) (.bool f)->s.heap.get? T=some ob->(∀j:Nat,j<5->hG X pins H (n+j))->l1≠d->t2≠d->ZAt H (xs.drop i) (ys.drop i) ps →
  (∀s',Inv X pins σ (cz H d (.dT (kc kvs ps))) s'->R (.ok (.ret res)) s')->codeAny (model X.prog X.w) A (.builtin "dict.update.loop" ⟨[.ref d,.ref (n+4),rawInt i,res],[]⟩) R s:=by
 have lenx:=rx.length
 have leny:=ry.length;intro k
 induction k with
 | zero=>
  intro i s H kvs ps f ob hk hi hd hz I q kz kT hf hl1 ht2 hp hR
  have hnil:xs.drop i= []:=Kl (by omega)
  have hny:ys.drop i= []:=by
   have:=hp.len;rw[hnil]at this;exact List.length_eq_zero_iff.mp this.symm
  rw[hnil,hny]at hp;unfold ZAt at hp;subst hp
  have e2:cz H d (.dT (kc kvs []))=H:=by
   funext b
   by_cases hb:b=d
   ·rw[hb,aU,hd];rfl
   ·rw[aO hb]
  rw[e2]at hR;refine Dl λ{Q E} hq=>yn hh q kz kT (by rw[Array.getElem?_eq_none];rw[<-Kf];omega) λh' e=>hq h' (hR _ ?_)
  exact I.GE (fp:=[n,n+4]) (t':=s.toks) (λb hb=>by
   simp only[HZ,Jr,or_false]at hb;rcases hb with rfl | rfl
   ·exact hf 0 (by omega)
   ·exact hf 4 (by omega)) λb o hb eb=>e b o (λz=>hb (by rw[z];simp)) (λz=>hb (by rw[z];simp)) eb
 | succ k ih=>
  intro i s H kvs ps f ob hk hi hd hz I q kz kT hf hl1 ht2 hp hR
  have hlt:i<xs.length:=by omega
  have hdx:xs.drop i=xs[i] ::xs.drop (i+1):=JG hlt
  have hyl:i<ys.length:=by
   have:=hp.len;rw[Jh,Jh]at this;omega
  have hdy:ys.drop i=ys[i] ::ys.drop (i+1):=JG hyl;rw[hdx,hdy]at hp;obtain⟨kb,p,r,rfl,ex,hkb,ep,hp'⟩:=hp;obtain⟨u1,q1,q2⟩:=rx.get (Iv hlt)
  obtain⟨u2,q3,q4⟩:=ry.get (Iv hyl)
  rw[Ny]at q1 q3
  rw[ex]at q2;obtain rfl:u1=IB kb:=q2;rw[<-ep]at q4
  have hd0:∀j:Nat,j<5->n+j≠d:=λj hj z=>by have:=(hf j hj).1;rw[z,hd]at this;cases this
  refine tm (pins:=pins) (σ:=σ) (Ex:=λh'=>Zp h' n l1 t2 (i+1) us ws/\zO h' (n+4) (n+2) (n+3) (rawInt T) (.bool true)/\h'.get? T=some ob) hu hd (by omega) hkb (λ{Q E} hq=>yo q kz kT q1 q3 λh' b _ a2 a3 a4 a5=>hq h' b u2 ?_ a2 q4 ⟨a4,a3,a5 _ _ (dP (by omega)) (dP (by omega)) (dP (by omega)) kT⟩) λh1 h2 tk hx3 e2 I2=> ?_
  ·exact I.GE (fp:=[n,n+1,n+4]) (t':=s.toks) (λb hb=>by
    simp only[HZ,Jr,or_false]at hb;rcases hb with rfl | rfl | rfl
    ·exact hf 0 (by omega)
    ·exact hf 1 (by omega)
    ·exact hf 4 (by omega)) λb o hb eb=>a5 b o (λz=>hb (by rw[z];simp)) (λz=>hb (by rw[z];simp)) (λz=>hb (by rw[z];simp)) eb
  ·obtain⟨x1,x2,x3⟩:=hx3
   have lt1:=x1.b1
   have lt2:=x1.b2
   have x1':Zp h2 n l1 t2 (i+1) us ws:=⟨x1.b1,x1.b2,(e2 _ (hd0 2 (by omega))).trans x1.pr,x1.i1.at λo g=>(e2 _ (hd0 0 (by omega))).trans g,x1.i2.at λo g=>(e2 _ (hd0 1 (by omega))).trans g,x1.s1.at λo g=>(e2 _ hl1).trans g,fY x1.s2 λo g=>(e2 _ ht2).trans g⟩
   refine ih (i+1) _ (cz H d (.dT (eR kvs p.1 p.2))) (eR kvs p.1 p.2) r true ob (by omega) (by omega) aU (by have:=kh kvs p.1 p.2;omega) I2 x1' ((e2 _ (hd0 4 (by omega))).trans x2) ((e2 _ hTd).trans x3) (λj hj=>⟨by rw[aO (hd0 j hj)];exact(hf j hj).1,(hf j hj).2⟩) hl1 ht2 (hp'.mono λb vs e=>by rw[aO (A1 e hd (λz=>nomatch z))];exact e) λs' I'=> ?_
   rw[kE]at I';exact hR s' I'
end
section
variable {X:Cx}{pins:List (Addr×Obj)}{σ:L2.St}{A:IE}{E:HL->HJ->Prop}{H:Hp}{s:HJ}{n l1 t2:Nat}{us ws:Array HL}{xs ys:List V}{ps:List (List Key×V)}
theorem Am {Q:HL->HJ->Prop}(hh:A.handled=none)(hu:A.units+8<cLine)(I:Inv X pins σ H s)(q:Zp s.heap n l1 t2 0 us ws)(kz:zO s.heap (n+4) (n+2) (n+3) .none (.bool false))(ko:Ml s.heap (n+3) .none .none)
  (hf:∀j:Nat,j<5->hG X pins H (n+j)) (rx:Vals xs us.toList) (ry:Vals ys ws.toList) (h1:1<=xs.length) (hz:xs.length<=1000) (hp:ZAt H xs ys ps)
  (h:∀p s',Nw X.K H p->Inv X pins σ (cz H p (.dT (kc [] ps))) s'->Q (.ref p) s'):wpAny (model X.prog X.w) A (call (.type "dict") [.ref (n+4)]) Q E s:=by
 have hk:X.K.lookup s.heap.objs.size=none:=by
  cases q:X.K.lookup s.heap.objs.size with
  | none=>rfl
  | some o=>exact absurd (Ib (I.kIn _ o q)) (Iz _)
 have hn:H s.heap.objs.size=none:=I.hok.fresh (Ia _)
 have z4:n+4<s.heap.objs.size:=Ib kz
 have b1:=q.b1
 have b2:=q.b2;refine callType_codes (Q₁:=λobj s₁=>obj= .ref s.heap.objs.size/\s₁= { s with heap:=s.heap.push { cls:=.type "dict",data:=.dict #[] } }) F.kt_called_dict (F.kt_typeCall_dict_1 _) F.entry_dict_init (kt_code_dict_new _ ⟨rfl,rfl⟩) ?_
 rintro obj s₁ ⟨rfl,rfl⟩
 have I1:Inv X pins σ (cz H s.heap.objs.size (.dT [])) { s with heap:=s.heap.push { cls:=.type "dict",data:=.dict #[] } }:=I.laid (a:=s.heap.objs.size) (o:=.dT []) (t':=s.toks) (λ_ _ q=>HN _ q) (Ia _) (xK s.heap I.big)
 have hT:({ s with heap:=s.heap.push { cls:=.type "dict",data:=.dict #[] } }:HJ).TypeIs (.ref s.heap.objs.size) "dict":=⟨_,Ie _ rfl,rfl⟩
 have kz1:zO (s.heap.push { cls:=.type "dict",data:=.dict #[] }) (n+4) (n+2) (n+3) .none (.bool false):=HN _ kz
 refine⟨hT,F.args_dict_init_2 _ _,?_⟩
 unfold Builtin.«dict.__init__»;refine HM ?_
 unfold Builtin.Dict.selfAndRest;refine HM (wpAny_notOrdered_dict hT ?_)
 show wpAny _ _ (pure (s.heap.objs.size,[IB (n+4)])) _ _ _
 refine HX ?_
 show wpAny _ _ (M1 "dict.__init__" s.heap.objs.size (.ref (n+4)) [] .none) _ _ _
 unfold M1;refine HM (MA (T:="zip") ⟨_,kz1,rfl⟩ ?_)
 rw[if_pos (by decide)]
 refine HM (zk3 kz1 hh λh' tk' kp=> ?_)
 have I2:Inv X pins σ (cz H s.heap.objs.size (.dT [])) { s with heap:=h',toks:=tk' }:=I1.kept (t':=tk') kp
 have up:∀c o,s.heap.get? c=some o->h'.get? c=some o:=λc o e=>kp c o (HN _ e)
 rw[if_pos (by rfl)]
 refine HM (Ll ?_)
 have kz2:zO h' (n+4) (n+2) (n+3) .none (.bool false):=up _ _ kz;refine HM (yp (s:={ s with heap:=h',toks:=tk' }) kz2 ?_)
 refine HX ⟨OP F.plain_dict_update_loop _,?_⟩
 have q2:Zp h' n l1 t2 0 us ws:=q.keep λc o _ e=>up c o e
 have hsz:s.heap.objs.size<h'.objs.size:=Ib (kp _ _ (Ie _ rfl))
 have hf2:∀j:Nat,j<5->hG X pins (cz H s.heap.objs.size (.dT [])) (n+j):=λj hj=>⟨by rw[aO (dP (by omega))];exact(hf j hj).1,(hf j hj).2⟩
 obtain⟨x,xs',rfl⟩:∃x xs',xs=x::xs':=by
  cases xs with
  | nil=>simp at h1
  | cons x xs'=>exact⟨x,xs',rfl⟩
 obtain⟨y,ys',rfl⟩:∃y ys',ys=y::ys':=by
  cases ys with
  | nil=>exact hp.elim
  | cons y ys'=>exact⟨y,ys',rfl⟩
 obtain⟨kb,p,r,rfl,ex,hkb,ep,hp'⟩:=hp;obtain⟨u1,v1,v2⟩:=rx.get (i:=0) rfl;obtain⟨u2,v3,v4⟩:=ry.get (i:=0) rfl;rw[Ny]at v1 v3
 rw[ex]at v2;obtain rfl:u1=IB kb:=v2;rw[<-ep]at v4;rw[HR]at hz
 have tupk:∀(o:List (List Key×V)) b vs,H b=some (.tup vs)->cz H s.heap.objs.size (.dT o) b=some (.tup vs):=λo b vs e=>by rw[aO (λz=>by rw[z,hn]at e;cases e)];exact e
 refine tm (A:=A.in1) (X:=X) (pins:=pins) (σ:=σ) (i:=0) (kvs:=[]) (Ex:=λh1=>Zp h1 n l1 t2 1 us ws/\∃T ob,h'.objs.size<=T/\zO h1 (n+4) (n+2) (n+3) (rawInt T) (.bool false)/\h1.get? T=some ob) (by show A.units+1+3<cLine;omega) aU (by simp) (tupk _ _ _ hkb)
  (λ{Q E} hq=>uX q2 kz2 (up _ _ ko) v1 v3 λh1 b a1 a2 a3 a4 a5=>hq h1 b u2 ?_ a2 v4 ⟨a4,b,_,a1,a3,a2⟩) λh1 h2 tk hx3 e2 I3=> ?_
 ·exact I2.GE (fp:=[n,n+1,n+3,n+4]) (t':=tk') (λb hb=>by
   simp only[HZ,Jr,or_false]at hb;rcases hb with rfl | rfl | rfl | rfl
   ·exact hf2 0 (by omega)
   ·exact hf2 1 (by omega)
   ·exact hf2 3 (by omega)
   ·exact hf2 4 (by omega)) λb o hb eb=>a5 b o (λz=>hb (by rw[z];simp)) (λz=>hb (by rw[z];simp)) (λz=>hb (by rw[z];simp)) (λz=>hb (by rw[z];simp)) eb
 ·obtain⟨x1,T,ob,hTs,x2,x3⟩:=hx3
  have hd0:∀j:Nat,j<5->n+j≠s.heap.objs.size:=λj hj=>dP (by omega)
  have x1':Zp h2 n l1 t2 1 us ws:=⟨x1.b1,x1.b2,(e2 _ (hd0 2 (by omega))).trans x1.pr,x1.i1.at λo g=>(e2 _ (hd0 0 (by omega))).trans g,x1.i2.at λo g=>(e2 _ (hd0 1 (by omega))).trans g,x1.s1.at λo g=>(e2 _ (dP (by omega))).trans g,fY x1.s2 λo g=>(e2 _ (dP (by omega))).trans g⟩
  rw[kE]at I3;refine yu (A:=A.in1) (X:=X) (pins:=pins) (σ:=σ) (xs:=x::xs') (ys:=y::ys') (T:=T) hh (by show A.units+1+3<cLine;omega) rx ry (by omega) (dP (by omega)) xs'.length 1 _ (cz H s.heap.objs.size (.dT (eR [] p.1 p.2))) (eR [] p.1 p.2) r false ob (by rw[HR];omega) (by rw[HR];omega) aU (by rw[HR];show 1+_<=1000;omega) I3 x1' ((e2 _ (hd0 4 (by omega))).trans x2) ((e2 _ (dP (by omega))).trans x3) (λj hj=>⟨by rw[aO (hd0 j hj)];exact(hf j hj).1,(hf j hj).2⟩) (dP (by omega)) (dP (by omega)) (hp'.mono (tupk _)) λs' I'=> ?_
  rw[kE]at I';exact⟨rfl,h _ _ ⟨hn,hk⟩ I'⟩
theorem AI {K:HI}{O:Ow}{H:Hp}:∀{l m:List T} {xs ys:List V},ki l=true->l.length=m.length->Reps K O H l xs->Reps K O H m ys->∃ps,ZAt H xs ys ps/\Gp K O H (l.zip m) ps
 | [],[],xs,ys,_,_,r1,r2=>by cases Reps.Da.mp r1;cases Reps.Da.mp r2;exact⟨[],rfl,rfl⟩
 | [],_::_,_,_,_,h,_,_=>by simp at h
 | _::_,[],_,_,_,h,_,_=>by simp at h
 | a::l,b::m,xs,ys,hk,h,r1,r2=>by
  obtain⟨v,vs,rfl,p1,q1⟩:=Reps.AC.mp r1;obtain⟨w,ws,rfl,p2,q2⟩:=Reps.AC.mp r2;unfold ki at hk;rw[HS]at hk;obtain⟨kk,ek⟩:=Lj.mp hk.1;obtain⟨ps,g1,g2⟩:=AI hk.2 (by simpa using h) q1 q2
  obtain⟨kb,f5,f6⟩:=sO ek p1;exact⟨(kk,w)::ps,⟨kb,(kk,w),ps,rfl,f5,f6,rfl,g1⟩,⟨(kk,w),ps,rfl,ek,p2,g2⟩⟩
end
section
variable {X:Cx}{a b:Expr}{fs:En->Rs (List T)}{p p1 p2 pos:Pos}
theorem Cc (hu:X.A.units+8<cLine)(hc:X.calm=true)(hm:X.mg "dict" =none)(hmz:X.mg "zip" =none)(ha:o4 X [a,b] fs)(hst:autoParam (a7 [a,b] =true) u_)(hg:autoParam (Gl X "dict") u_)(hgz:autoParam (Gl X "zip") u_) :
  cL X (.Call (.Name "dict" p) [.Call (.Name "zip" p1) [a,b] [] p2] [] pos) (cl DG fs):=by
 intro pins s σ H Q I ⟨ρ,O,Ev,hq⟩
 have e1:Ik [LU (.Name "zip" p1) [a,b] [] p2] X.env=(false,eval (.Call (.Name "zip" p1) [a,b] [] p2) X.env)::Ik [] X.env:=bu rfl;unfold a7 at hst;rw[HS]at hst
 have e2:Ik [a,b] X.env=(false,eval a X.env)::Ik [b] X.env:=bu hst.1;refine Jw (dX I hg hm (show IC "dict" =some (.type "dict")by decide+kernel) ?_ (by decide) (by decide))
 refine JO ?_ e1 rfl
 rw[e1];refine J6 ?_
 refine Jw (dX I hgz hmz (show IC "zip" =some (.type "zip")by decide+kernel) ?_ (by decide) (by decide))
 refine JO (bF (ha p2 pins s σ H _ I (dH Ev hq)) λus s1 ⟨vs,H1,I1,r1,ts,rs,s',E',q1⟩=> ?_) e2 (eC hst.2)
 unfold DG at q1
 split at q1
 ·rename_i l m
  by_cases hz:ki l=true/\l.length=m.length/\1<=l.length/\l.length<=1000
  ·rw[if_pos hz]at q1
   obtain⟨v1,vs1,rfl,ra,rb⟩:=Reps.AC.mp rs;obtain⟨v2,rfl,rc⟩:=rb.one;obtain⟨c1,xs,rfl,_,hx,rx⟩:=Rep.FB.mp ra;obtain⟨c2,ys,rfl,_,hy,ry⟩:=Rep.Fk.mp rc
   cases r1 with
   | cons w1 w2=>
    obtain⟨u2,rfl,w3⟩:=Vals.one w2;cases w1;obtain rfl:u2=IB c2:=w3;obtain⟨z,its,n,rv,hlen,e⟩:=I1.GH hx;obtain⟨z2,its2,r2,ob,hob1,hob2,nb,hob3⟩:=(show ObjOk X.prog X.w H1 s1.heap c2 (.tup ys)from I1.hok c2 _ hy)
    refine yq (xs:=its.toArray) (ys:=its2.toArray) ⟨_,e,rfl,n,rfl⟩ ⟨ob,hob1,hob2,nb,hob3⟩ λh' g1 g2 g3 g4 g5=> ?_
    refine Kd ?_
    have I2:Inv X pins σ H1 { s1 with heap:=h' }:=I1.kept (t':=s1.toks) g5
    obtain⟨ps,k1,k2⟩:=AI hz.1 hz.2.1 rx ry;refine Am (I2.ok.hd hc) hu I2 g1 g2 g3 (λj hj=>I1.GO (by omega) (I1.hok.fresh (by omega))) rv r2 (by rw[<-rx.length];exact hz.2.2.1) (by rw[<-rx.length];exact hz.2.2.2) k1 λq s' nw I'=>⟨.ref q,_,I',rfl,q1 _ (aV nw.1 _) _ ?_⟩
    obtain⟨d1,d2⟩:=nu (ks:=[]) (ts:=[]) (kvs:=[]) k2 rfl Reps.Gz MH;exact Rep.GB.mpr ⟨q,_,rfl,E'.fresh nw.1,.inl aU,d1,d2.same (aV nw.1 _)⟩
  ·rw[if_neg hz]at q1;exact q1.elim
 ·exact q1.elim
end
end Tr
namespace L2
open PySem PySem.Spec PyProof.Rows
theorem qi {n b:Nat}:b∈ [n+4,n,n+1,n+2,n+3] ↔n<=b/\b<n+5:=by
 simp only[HZ,Jr,or_false];omega
end L2
namespace Tr
open PySem
def c0 (g:List T->Rs T)(_:En):Rs T:=match g []with
 | .ok t=> .ok t
 | _=> .bad
end Tr
namespace PySem
open Sem (wp)
open L2 (itAt)
structure PW (prog:Ip)(w:IV)(A:IE)(I:Addr)(T:String)(fp wr:List Addr)(n:Nat)(R:Nat->HL->HL->Prop)(St:Nat->Option Addr->Heap->Prop):Prop where
 sub:∀b∈wr,b∈fp
 ty:∀i o (s:HJ),St i o s.heap->s.TypeIs (.ref I) T
 frame:∀i o h h',St i o h->(∀b∈fp,∀ob,h.get? b=some ob->h'.get? b=some ob)->St i o h'
 item:∀i o (s:HJ) (Q:Option HL->HJ->Prop) (E:HL->HJ->Prop),i<n->St i o s.heap->(∀t,o=some t->∃ob,s.heap.get? t=some ob) →
  (∀p h' tk x y,R i x y->s.heap.objs.size<=p->Ml h' p x y->St (i+1) (some (o.getD p)) h'->(∀b ob,b∉wr->s.heap.get? b=some ob->h'.get? b=some ob)->Q (some (.ref p)) { s with heap:=h',toks:=tk })->wpAny (model prog w) A (pyNext (.ref I)) Q E s
 done:∀o (s:HJ) (Q:Option HL->HJ->Prop) (E:HL->HJ->Prop),St n o s.heap->(∀t,o=some t->∃ob,s.heap.get? t=some ob)->(∀h' tk,(∀b ob,b∉wr->s.heap.get? b=some ob->h'.get? b=some ob)->Q none { s with heap:=h',toks:=tk })->wpAny (model prog w) A (pyNext (.ref I)) Q E s
 self:∀i o (s:HJ) (Q:HL->HJ->Prop) (E:HL->HJ->Prop),St i o s.heap->Q (.ref I) s->wpAny (model prog w) A (pyIter (.ref I)) Q E s
end PySem
namespace Tr
open PySem
inductive Fx where
 | nx (ρ:En) | rt (t:T) (ρ:En)
def mN (ρ:En):Rs Fx:=.ok (.nx ρ)
end Tr
namespace Tr
open PySem PySem.Spec PyProof.Rows L2
abbrev one (j:Nat)(m:Ow):Mn:=noM.set j m
structure QE (X:Cx)(e:Expr)(f:En->Rs T):Prop where
 h:cL X e f
structure QA (X:Cx)(e:List Expr)(f:En->Rs (List T)):Prop where
 h:o4 X e f
structure QT (X:Cx)(e:Expr)(f:En->Rs Bool):Prop where
 h:yb X e f
structure QW (X:Cx)(e:Expr)(f:En->Rs Bool):Prop where
 h:F5 X e f
structure QS (X:Cx)(e:Stmt)(f:En->Rs Fl):Prop where
 h:tM X e f
structure ya (X:Cx)(e:List Stmt)(f:En->Rs Fl):Prop where
 h:l7 X e f
structure QG (X:Cx)(e:Expr)(f:T->En->Rs En):Prop where
 h:uT X e f
structure Gn (X:Cx)(e:List Expr)(f:List T->En->Rs En):Prop where
 h:yd X e f
structure QI (X:Cx)(t e:Expr)(f:En->Rs (List T)):Prop where
 h:yc X t e f
structure QO (X:Cx)(e:Option Expr)(f:En->Rs (Option Int)):Prop where
 h:AD X e f
structure DH (X:Cx)(e:List Expr)(f:En->Rs Bool):Prop where
 h:qF X e (uR X f)
theorem af {X:Cx}(i:Nat){x:Str}{pos:Pos}(hN:autoParam ((Cx.N X)[i]? =some x) u_)(hv:autoParam (rO (Mh (Cx.env X)) x) v_)(hd:autoParam ((x == Ij "__debug__")=false) s_)(hcd:autoParam ((x == Ij "__classdict__")=false) s_):QE X (JW x pos) (vr i):=
 ⟨ED (i:=i) (hN:=hN) (hv:=hv) (hd:=hd) (hcd:=hcd)⟩
theorem ak {X:Cx}{i:Int}{j:Nat}{pos:Pos}:QE X (M8 (Const.int i) j pos) (cn (T.int i)):=
 ⟨EM ⟩
theorem fN {X:Cx}{i:Bool}{j:Nat}{pos:Pos}:QE X (M8 (Const.bool i) j pos) (cn (T.bl i)):=
 ⟨q_bl ⟩
theorem kN {X:Cx}{j:Nat}{pos:Pos}:QE X (M8 Const.none j pos) (cn T.non):=
 ⟨EI ⟩
theorem bj {X:Cx}{i:Str}{j:Nat}{pos:Pos}:QE X (M8 (Const.str i) j pos) (cn (T.str i)):=
 ⟨EF ⟩
theorem ym {X:Cx}{x:Str}{i:Int}{u:HL}{pos:Pos}(hm:Cx.mg X x=some u)(r:L2.RelV (V.int i) u)(hg:autoParam (Gl X x) u_)(hd:autoParam ((x == Ij "__debug__")=false) s_):QE X (JW x pos) (cn (T.int i)):=
 ⟨Cb (hm:=hm) (r:=r) (hg:=hg) (hd:=hd)⟩
theorem ag {X:Cx}:QA X [] ai:=
 ⟨Ca ⟩
theorem ah {X:Cx}{e:Expr}{es:List Expr}{f:En->Rs T}{g:En->Rs (List T)}(he:QE X e f)(hr:QA X es g)(hn:autoParam (cR e=true) u_):QA X (e::es) (ae f g):=
 ⟨qa_c (he:=he.h) (hr:=hr.h) (hn:=hn)⟩
theorem bA {X:Cx}{es:List Expr}{x1:Nat}{pos:Pos}{f:En->Rs (List T)}(h:QA X es f):QE X (Expr.Tuple es x1 pos) (bt f):=
 ⟨EE (h:=h.h)⟩
theorem iO {X:Cx}{es:List Expr}{pos:Pos}{f:En->Rs (List T)}(h:QA X es f):QE X (Expr.List es pos) (g7 f):=
 ⟨EK (h:=h.h)⟩
theorem ar {X:Cx}{a b:Expr}{fa fb:En->Rs T}{pos:Pos}{op:Operator}{g:T->T->Rs T}(ho:OpT X (J8 op) g)(ha:QE X a fa)(hb:QE X b fb):QE X (Expr.BinOp a op b pos) (o2 g fa fb):=
 ⟨ER (ho:=ho) (ha:=ha.h) (hb:=hb.h)⟩
theorem kO {X:Cx}{a b:Expr}{fa fb:En->Rs T}{pos:Pos}{op:Oz}{g:T->T->Rs T}(ho:OpT X (Jl op) g)(ha:QE X a fa)(hb:QE X b fb)(hm:autoParam (JJ op b=false) u_):QE X (Po a [op] [b] pos) (o2 g fa fb):=
 ⟨EO (ho:=ho) (ha:=ha.h) (hb:=hb.h) (hm:=hm)⟩
theorem iN {X:Cx}{a:Expr}{fa:En->Rs T}{pos:Pos}(ha:QE X a fa):QE X (Pq UnaryOp.USub a pos) (o1 gE fa):=
 ⟨EJ (ha:=ha.h)⟩
theorem o6 {X:Cx}{a b c:Expr}{fa fb fc:En->Rs T}{pos:Pos}{op op':Oz}{g g':T->T->Rs T}(ho:OpT X (Jl op) g)(ho':OpT X (Jl op') g')(ha:QE X a fa)(hb:QE X b fb)(hc:QE X c fc)(hm:autoParam (lastMarks [op,op'] [b,c] =false) w_):QE X (Po a [op,op'] [b,c] pos) (ch g g' fa fb fc):=
 ⟨y0 (ho:=ho) (ho':=ho') (ha:=ha.h) (hb:=hb.h) (hc:=hc.h) (hm:=hm)⟩
theorem d7 {X:Cx}{e:Expr}{f:En->Rs T}(h:QE X e f)(he:autoParam (∀(whole:Sem HL),PySem.isTrue e (Cx.env X) whole=(do let v <-whole;standAt (Expr.pos e);holding [v] (truthy v))) t_):QT X e (tb f):=
 ⟨BX (h:=h.h) (he:=he)⟩
theorem dE {X:Cx}{a b:Expr}{fa fb:En->Rs T}{pos:Pos}{op:Oz}{g:T->T->Rs T}(ho:OpT X (Jl op) g)(ha:QE X a fa)(hb:QE X b fb)(hm:autoParam (JJ op b=false) u_):QT X (Po a [op] [b] pos) (tb (o2 g fa fb)):=
 ⟨BZ (ho:=ho) (ha:=ha.h) (hb:=hb.h) (hm:=hm)⟩
theorem jb {X:Cx}{a:Expr}{pos:Pos}{f:En->Rs Bool}(ha:QT X a f):QW X (Le Nz [a] pos) f:=
 ⟨BW (ha:=ha.h)⟩
theorem kM {X:Cx}{a b:Expr}{pos:Pos}{f g:En->Rs Bool}{aY:List Expr}(ha:QT X a f)(hb:QW X (Le Nz (b::aY) pos) g):QW X (Le Nz (a::b::aY) pos) (ku f g):=
 ⟨EA (ha:=ha.h) (hb:=hb.h)⟩
theorem o5 {X:Cx}{f:En->Rs Bool}{e:Expr}(h:QW X e f):QT X e f:=
 ⟨qt_w (h:=h.h)⟩
theorem d8 {X:Cx}{a:Expr}{pos:Pos}{f:En->Rs Bool}(ha:QT X a f):QT X (Pq UnaryOp.Not a pos) (dj f):=
 ⟨BY (ha:=ha.h)⟩
theorem dF {X:Cx}{a:Expr}{fa:En->Rs T}{pos:Pos}{op:BoolOp}(h:QE X a fa):QE X (Le op [a] pos) fa:=
 ⟨EG (h:=h.h)⟩
theorem df {X:Cx}{a b:Expr}{fa fb:En->Rs T}{pos:Pos}{aY:List Expr}(ha:QE X a fa)(hb:QE X (Le BoolOp.And (b::aY) pos) fb):QE X (Le BoolOp.And (a::b::aY) pos) (bJ fa fb):=
 ⟨ES (ha:=ha.h) (hb:=hb.h)⟩
theorem DM {X:Cx}{a b:Expr}{fa fb:En->Rs T}{pos:Pos}{aY:List Expr}(ha:QE X a fa)(hb:QE X (Le Nz (b::aY) pos) fb):QE X (Le Nz (a::b::aY) pos) (EY fa fb):=
 ⟨q_or (ha:=ha.h) (hb:=hb.h)⟩
theorem Bq {X:Cx}{a:Expr}{fa:En->Rs T}{pos:Pos}(ha:QE X a fa):QE X (Pq UnaryOp.Not a pos) (o1 zy fa):=
 ⟨EH (ha:=ha.h)⟩
theorem DO {X:Cx}{a b c:Expr}{fa fb:En->Rs T}{pos:Pos}{f:En->Rs Bool}(hc:QT X c f)(ha:QE X a fa)(hb:QE X b fb):QE X (Expr.IfExp c a b pos) (zQ f fa fb):=
 ⟨q_if (hc:=hc.h) (ha:=ha.h) (hb:=hb.h)⟩
theorem bc {X:Cx}{a b:Expr}{fa fb:En->Rs T}{pos:Pos}(ha:QE X a fa)(hb:QE X b fb)(hs:autoParam (tL b) x_):QE X (NZ a b pos) (o2 b7 fa fb):=
 ⟨q_ix (ha:=ha.h) (hb:=hb.h) (hs:=hs)⟩
theorem cE {X:Cx}:QO X none pN:=
 ⟨yS ⟩
theorem cA {X:Cx}{a:Expr}{fa:En->Rs T}(ha:QE X a fa):QO X (some a) (pS fa):=
 ⟨yR (ha:=ha.h)⟩
theorem ei {X:Cx}{a:Expr}{fa:En->Rs T}{pos:Pos}{lo hi:Option Expr}{p2:Pos}{fl fu:En->Rs (Option Int)}(ha:QE X a fa)(hl:QO X lo fl)(hu:QO X hi fu):QE X (NZ a (Expr.Slice lo hi none p2) pos) (sl fa fl fu):=
 ⟨yZ (ha:=ha.h) (hl:=hl.h) (hu:=hu.h)⟩
theorem cQ {X:Cx}{e:Expr}{es:List Expr}{fs:En->Rs (List T)}{pos p:Pos}{x:Str}{id:String}{g:List T->Rs T}(hc:CallT X (K7 id) g)(hm:Cx.mg X x=none)(hv:IC x=some (K7 id))(ha:QA X (e::es) fs)(hn:autoParam (a7 (e::es)=true) u_)(hg:autoParam (Gl X x) u_)(h1:autoParam (x≠Ij "__name__") s_)(h2:autoParam ((x == Ij "__debug__")=false) s_):QE X (LU (JW x p) (e::es) [] pos) (cl g fs):=
 ⟨q_cB (hc:=hc) (hm:=hm) (hv:=hv) (ha:=ha.h) (hn:=hn) (hg:=hg) (h1:=h1) (h2:=h2)⟩
theorem gz {X:Cx}{e:Expr}{es:List Expr}{fs:En->Rs (List T)}{pos p:Pos}{x:Str}{Ty:String}{g:List T->Rs T}(hc:CallT X (KS Ty) g)(hm:Cx.mg X x=none)(hv:IC x=some (KS Ty))(ha:QA X (e::es) fs)(hn:autoParam (a7 (e::es)=true) u_)(hg:autoParam (Gl X x) u_)(h1:autoParam (x≠Ij "__name__") s_)(h2:autoParam ((x == Ij "__debug__")=false) s_):QE X (LU (JW x p) (e::es) [] pos) (cl g fs):=
 ⟨q_cT (hc:=hc) (hm:=hm) (hv:=hv) (ha:=ha.h) (hn:=hn) (hg:=hg) (h1:=h1) (h2:=h2)⟩
theorem zq_c {X:Cx}{e:Expr}{es:List Expr}{fs:En->Rs (List T)}{pos p:Pos}{x:Str}{n k:Nat}{f:Addr}{fd:Je}{ps:List Str}{g:List T->Rs T}(F:DJ (Cx.prog X) (Cx.w X) (Cx.K X) (Cx.mg X) (Cx.base X) k f fd ps n g)(hr:Room k (Cx.A X))(hm:Cx.mg X x=some (IB f))(hk:W.keepIn (Cx.K X) (IB f)=true)(hb:L2.Binds (Cx.K X) fd ps [])(hl:∀(ρ:En) (ts:List T),fs ρ=Rs.ok ts->JZ ts=n)(ha:QA X (e::es) fs)(hps:autoParam (JZ ps=n) u_)(hn:autoParam (a7 (e::es)=true) u_)(hg:autoParam (Gl X x) u_)(h2:autoParam ((x == Ij "__debug__")=false) s_):QE X (LU (JW x p) (e::es) [] pos) (cl g fs):=
 ⟨q_c (F:=F) (hr:=hr) (hm:=hm) (hk:=hk) (hb:=hb) (hl:=hl) (ha:=ha.h) (hps:=hps) (hn:=hn) (hg:=hg) (h2:=h2)⟩
theorem rR {X:Cx}{a:Expr}{fa:En->Rs T}{pos p p2:Pos}{tn:Str}{Ty:String}(hm:Cx.mg X (Ij "isinstance")=none)(hmt:Cx.mg X tn=none)(hv:IC tn=some (KS Ty))(ha:QE X a fa)(hn:autoParam (cR a=true) u_)(hg:autoParam (Gl X (Ij "isinstance")) u_)(hgt:autoParam (Gl X tn) u_)(h1:autoParam (tn≠Ij "__name__") s_)(h2:autoParam ((tn == Ij "__debug__")=false) s_):QE X (LU (JW (Ij "isinstance") p) [a,JW tn p2] [] pos) (o1 (yh Ty) fa):=
 ⟨q_is (hm:=hm) (hmt:=hmt) (hv:=hv) (ha:=ha.h) (hn:=hn) (hg:=hg) (hgt:=hgt) (h1:=h1) (h2:=h2)⟩
theorem aq {X:Cx}{pos:Pos}{x:Str}(i:Nat)(hN:Ma (Cx.N X))(hi:autoParam ((Cx.N X)[i]? =some x) u_)(hx:autoParam (L2.Loc (Mh (Cx.env X)) x) y_)(hf:autoParam (Cx.fn X x=true\/Mf x (P3 (Mh (Cx.env X)))=some NameKind.local) r_):QG X (JW x pos) (gN i):=
 ⟨yX (i:=i) (hN:=hN) (hi:=hi) (hx:=hx) (hf:=hf)⟩
theorem gG {X:Cx}:Gn X [] uB:=
 ⟨yW ⟩
theorem cf {X:Cx}{e:Expr}{es:List Expr}{g:T->En->Rs En}{gs:List T->En->Rs En}(h1:QG X e g)(h2:Gn X es gs)(hs:autoParam (List.map (λx=>Prod.snd x) (JA (e::es) (Cx.env X))=assign e (Cx.env X)::List.map (λx=>Prod.snd x) (JA es (Cx.env X))) u_):Gn X (e::es) (kB g gs):=
 ⟨vY (h1:=h1.h) (h2:=h2.h) (hs:=hs)⟩
theorem je {X:Cx}{es:List Expr}{pos:Pos}{k n:Nat}{gs:List T->En->Rs En}(hc:Cx.calm X=true)(h:Gn X es gs)(hn:autoParam (JZ (JA es (Cx.env X))=n) u_)(hst:autoParam (List.findIdx? (λx=>Prod.fst x) (JA es (Cx.env X))=none) u_):QG X (Expr.Tuple es k pos) (gT n gs):=
 ⟨B9 (hc:=hc) (h:=h.h) (hn:=hn) (hst:=hst)⟩
theorem cv {X:Cx}{a:Expr}{fs:En->Rs (List T)}{pos p:Pos}{tg:Expr}(hm:Cx.mg X (Ij "range")=none)(ha:QA X [a] fs)(hg:autoParam (Gl X (Ij "range")) u_)(hs:autoParam (Ik [a] (Cx.env X)= [(false,eval a (Cx.env X))]) u_):QI X tg (LU (JW (Ij "range") p) [a] [] pos) (iR fs):=
 ⟨tX (hm:=hm) (ha:=ha.h) (hg:=hg) (hs:=hs)⟩
theorem cb {X:Cx}:DH X [] bT:=
 ⟨yU ⟩
theorem uV {X:Cx}{c:Expr}{f:En->Rs Bool}(h:QT X c f):DH X [c] f:=
 ⟨yT (h:=h.h)⟩
theorem DN {X:Cx}{pos:Pos}{elt tg iter:Expr}{ifs:List Expr}{scope:K2}{N':List Str}{src:List (Option Nat)}{fi:En->Rs (List T)}{tgt:T->En->Rs En}{fc:En->Rs Bool}{fe:En->Rs T}(hc:Cx.calm X=true)(S:LcScope X scope N' src)(hi:QI X tg iter fi)(block:∀(cl:List (Str×Addr)) (C:Addr) (s₀:HJ) (H₀:Hp) (fp:List Addr),QG (aZ X scope cl N' C s₀ H₀ fp) tg tgt/\DH (aZ X scope cl N' C s₀ H₀ fp) ifs fc/\QE (aZ X scope cl N' C s₀ H₀ fp) elt fe)(hs:autoParam (∀(x:HL),Im iter (Cx.env X) x=pure x) t_):QE X (L6 elt [{ target:=tg,iter:=iter,ifs:=ifs,is_async:=0 }] scope pos) (fF fi src tgt fc fe):=
 ⟨q_lc (hc:=hc) (S:=S) (hi:=hi.h) (block:=λa1 a2 a3 a4 a5=>⟨(block a1 a2 a3 a4 a5).1.h,(block a1 a2 a3 a4 a5).2.1.h,(block a1 a2 a3 a4 a5).2.2.h⟩) (hs:=hs)⟩
theorem bK {X:Cx}:ya X [] sN:=
 ⟨B2 ⟩
theorem aA {X:Cx}{st:Stmt}{aY:List Stmt}{F G:En->Rs Fl}(h1:QS X st F)(h2:ya X aY G):ya X (st::aY) (aJ F G):=
 ⟨yQ (h1:=h1.h) (h2:=h2.h)⟩
theorem ax {X:Cx}{st:Stmt}{F:En->Rs Fl}(h:QS X st F):ya X [st] F:=
 ⟨B1 (h:=h.h)⟩
theorem aF {X:Cx}{a:Expr}{fa:En->Rs T}{pos:Pos}(ha:QE X a fa):QS X (Stmt.Return (some a) pos) (aM fa):=
 ⟨B0 (ha:=ha.h)⟩
theorem dR {X:Cx}{c:Expr}{pos:Pos}{f:En->Rs Bool}{A B:List Stmt}{F G:En->Rs Fl}(hc:QT X c f)(ha:ya X A F)(hb:ya X B G):QS X (Stmt.If c A B pos) (eE f F G):=
 ⟨EC (hc:=hc.h) (ha:=ha.h) (hb:=hb.h)⟩
theorem qG {X:Cx}{pos:Pos}{elt tg iter:Expr}{ifs:List Expr}{scope:K2}{spos py:Pos}{N':List Str}{src:List (Option Nat)}{fi:En->Rs (List T)}{tgt:T->En->Rs En}{fc:En->Rs Bool}{fe:En->Rs T}(i:Nat){y:Str}(hc:Cx.calm X=true)(S:LcScope X scope N' src)(hi:QI X tg iter fi)(block:∀(cl:List (Str×Addr)) (C:Addr) (s₀:HJ) (H₀:Hp) (fp:List Addr),QG (aZ X scope cl N' C s₀ H₀ fp) tg tgt/\DH (aZ X scope cl N' C s₀ H₀ fp) ifs fc/\QE (aZ X scope cl N' C s₀ H₀ fp) elt fe)(hN:Ma (Cx.N X))(hiy:autoParam ((Cx.N X)[i]? =some y) u_)(hy:autoParam (L2.Loc (Mh (Cx.env X)) y) y_)(hsw:autoParam (Ld (L6 elt [{ target:=tg,iter:=iter,ifs:=ifs,is_async:=0 }] scope pos) (some (JW y py)) (Os spos) (Cx.env X)=pure true) u_)(hf:autoParam (Cx.fn X y=true\/Mf y (P3 (Mh (Cx.env X)))=some NameKind.local) r_)(hs:autoParam (∀(x:HL),Im iter (Cx.env X) x=pure x) t_):QS X (P4 [JW y py] (L6 elt [{ target:=tg,iter:=iter,ifs:=ifs,is_async:=0 }] scope pos) spos) (c6 (fF fi src tgt fc fe) (gN i)):=
 ⟨EB (i:=i) (hc:=hc) (S:=S) (hi:=hi.h) (block:=λa1 a2 a3 a4 a5=>⟨(block a1 a2 a3 a4 a5).1.h,(block a1 a2 a3 a4 a5).2.1.h,(block a1 a2 a3 a4 a5).2.2.h⟩) (hN:=hN) (hiy:=hiy) (hy:=hy) (hsw:=hsw) (hf:=hf) (hs:=hs)⟩
theorem aP {X:Cx}{a:Expr}{fa:En->Rs T}{pos:Pos}{tg:Expr}{g:T->En->Rs En}(ha:QE X a fa)(hg:QG X tg g)(hs:autoParam (Lz [tg] a (Os pos) (Cx.env X)=pure false) u_)(hw:autoParam (LA [tg] a (Cx.env X)=pure none) u_)(h1:autoParam (List.map (λx=>Prod.snd x) (JA [tg] (Cx.env X))= [assign tg (Cx.env X)]) u_):QS X (P4 [tg] a pos) (c6 fa g):=
 ⟨B6 (ha:=ha.h) (hg:=hg.h) (hs:=hs) (hw:=hw) (h1:=h1)⟩
theorem jc {X:Cx}{a:Expr}{fa:En->Rs T}{pos:Pos}(ha:QE X a fa)(hs:autoParam (Ld a none (Os pos) (Cx.env X)=pure false) u_):QS X (Stmt.Expr a pos) (vQ fa):=
 ⟨yP (ha:=ha.h) (hs:=hs)⟩
theorem ie {X:Cx}{pos:Pos}{tg iter:Expr}{body:List Stmt}{fi:En->Rs (List T)}{g:T->En->Rs En}{F:En->Rs Fl}(hc:Cx.calm X=true)(hi:QI X tg iter fi)(hg:QG (Cx.nox X) tg g)(hb:ya (Cx.nox X) body F)(hs:autoParam (∀(x:HL),Im iter (Cx.env X) x=pure x) t_):QS X (Stmt.For tg iter body [] pos) (fB fi g F):=
 ⟨B3 (hc:=hc) (hi:=hi.h) (hg:=hg.h) (hb:=hb.h) (hs:=hs)⟩
theorem d9 {X:Cx}{a:Expr}{fa:En->Rs T}{tg:Expr}(ha:QE X a fa):QI X tg a (iS fa):=
 ⟨B8 (ha:=ha.h)⟩
theorem jd {X:Cx}{a:Expr}{fs:En->Rs (List T)}{p pos:Pos}{elts:List Expr}{kk:Nat}{tpos:Pos}(hm:Cx.mg X (Ij "enumerate")=none)(ha:QA X [a] fs)(hg:autoParam (Gl X (Ij "enumerate")) u_)(hs:autoParam (Ik [a] (Cx.env X)= [(false,eval a (Cx.env X))]) u_):QI X (Expr.Tuple elts kk tpos) (LU (JW (Ij "enumerate") p) [a] [] pos) (iE fs):=
 ⟨yV (hm:=hm) (ha:=ha.h) (hg:=hg) (hs:=hs)⟩
theorem uU {X:Cx}{es:List Expr}{pos p2 p3:Pos}{x:Str}(i:Nat){f:En->Rs (List T)}(hN:Ma (Cx.N X))(ha:QA X es f)(hi:autoParam ((Cx.N X)[i]? =some x) u_)(hx:autoParam (L2.Loc (Mh (Cx.env X)) x) y_)(hs:autoParam (Ld (Expr.List es p2) (some (JW x p3)) (Os pos) (Cx.env X)=pure false) u_)(hf:autoParam (Cx.fn X x=true\/Mf x (P3 (Mh (Cx.env X)))=some NameKind.local) r_):QS X (P4 [JW x p3] (Expr.List es p2) pos) (la i f):=
 ⟨yO (i:=i) (hN:=hN) (ha:=ha.h) (hi:=hi) (hx:=hx) (hs:=hs) (hf:=hf)⟩
theorem yj {X:Cx}{a:Expr}{fa:En->Rs T}{pos p2:Pos}{x:Str}(i:Nat){apos cpos:Pos}(ha:QE X a fa)(hN:autoParam ((Cx.N X)[i]? =some x) u_)(hv:autoParam (rO (Mh (Cx.env X)) x) v_)(hn:autoParam (cR a=true) u_)(hbase:autoParam (J1 (JW x p2) (Ij "extend") (Cx.env X) (eval (JW x p2) (Cx.env X))=eval (JW x p2) (Cx.env X)) u_)(hline:autoParam ((Pos.endLine apos == Os cpos)=true) u_)(hd:autoParam ((x == Ij "__debug__")=false) s_)(hcd:autoParam ((x == Ij "__classdict__")=false) s_)(hsw:autoParam (Ld (LU (Expr.Attribute (JW x p2) (Ij "extend") apos) [a] [] cpos) none (Os pos) (Cx.env X)=pure false) u_):QS X (Stmt.Expr (LU (Expr.Attribute (JW x p2) (Ij "extend") apos) [a] [] cpos) pos) (qP i fa):=
 ⟨B4 (i:=i) (ha:=ha.h) (hN:=hN) (hv:=hv) (hn:=hn) (hbase:=hbase) (hline:=hline) (hd:=hd) (hcd:=hcd) (hsw:=hsw)⟩
theorem yk {X:Cx}(i:Nat){st:Stmt}{F:En->Rs Fl}(h:QS X st F):QS X st (BO i F):=
 ⟨B5 (i:=i) (h:=h.h)⟩
theorem fM {X:Cx}{c:Str}{msg:Str}{C:Addr}{bm:List HL}{np p1 cpos pos:Pos}{j:Nat}(O:OX X.K C bm)(hm:X.mg c=some (.ref C))(hc:autoParam (X.calm=true) u_)(hg:autoParam (Gl X c) u_)(hd:autoParam ((c == ("__debug__" : Str))=false) s_) :
  QS X (.Raise (some (.Call (.Name c np) [.Constant (.str msg) j p1] [] cpos)) none pos) (pJ c):=⟨vX O.own hc hm hg hd⟩
theorem yr {P:Ip}{w:IV}{K:HI}{mg:Str->Option HL}{base:Heap}{x qual:Str}{st:Stmt}{f:Addr}{fd:Je}{N ps:List Str}{k n:Nat}{F:En->Rs Fl}(Fn:L2.Fun K x qual st f fd)(S:bN N ps (ao st))(hn:ps.length=n)
  (hbody:∀(cdv:HL) (A:IE) (outer:List Env) (s:HJ) (H:Hp) (E:XK),Room k (A.deeper (envOfC qual (ao st) s.heap.objs.size f cdv)) →
   ∀xe,ya ((eY CX0 P w K mg base N qual (ao st) f cdv A outer s H E).FM xe) (br st) F):DJ P w K mg base (k+1) f fd ps n (val n N.length F):=C3 Fn S hn λcdv A outer s H E hr xe=>(hbody cdv A outer s H E hr xe).h
theorem uW {X:Cx}{a b:Expr}{fa fb:En->Rs T}{pos:Pos}(hu:Around.units (Cx.A X)+1<cLine)(ha:QE X a fa)(hb:QE X b fb)(hs:autoParam (AE b) x_):QE X (NZ a b pos) (o2 mH fa fb):=
 ⟨EN (hu:=hu) (ha:=ha.h) (hb:=hb.h) (hs:=hs)⟩
end Tr
namespace Tr
open PySem PySem.Spec PyProof.Rows L2 PySem.W
theorem xy (h:Heap):(qg h).In h:=by
 have key:∀(l:List Nat) (a:Addr) (o:Obj),(l.filterMap λa=>(h.get? a).map λo=>(a,o)).lookup a=some o->h.get? a=some o:=by
  intro l
  induction l with
  | nil=>intro a o e;cases e
  | cons b r ih=>
   intro a o e
   cases hb:h.get? b with
   | none=>rw[List.filterMap_cons_none (by rw[hb];rfl)]at e;exact ih a o e
   | some ob=>
    rw[List.filterMap_cons_some (b:=(b,ob)) (by rw[hb];rfl),Jy]at e
    cases q:a == b with
    | true=>rw[q]at e;cases e;rw[eq_of_beq q];exact hb
    | false=>rw[q]at e;exact ih a o e
 exact λa o e=>key _ a o e
theorem Bd {K:Frag}{n:Str}{st:Stmt}(e:obF K n=exF n st):∃f fd,nsIn K IM n=some (some (.ref f))/\L2.Fun K n n st f fd:=by
 unfold obF at e
 split at e
 ·rename_i f hf
  split at e
  ·rename_i oc od d sl hl
   cases d;unfold exF at e;simp only[Jn.injEq,O6.injEq]at e;obtain⟨h1,h2,h3,h4,h5,h6,h7,h8,h9,h10,h11⟩:=e;subst h1 h2 h3 h4 h5 h6 h7 h8 h9;exact⟨f,_,hf,C0 hl h10 h11⟩
  ·cases e
 ·cases e
theorem lz {K:Frag}{N:Addr}{n:Str}(e:E9 K N n=true):nsIn K N n=some none:=by
 unfold E9 at e
 split at e
 ·assumption
 ·cases e
theorem CC {K:Frag}{n:Str}{i:Int}(e:Gj K n=some i):∃t,nsIn K IM n=some (some (.int i t)):=by
 unfold Gj at e
 split at e
 ·rename_i i' t h;cases e;exact⟨t,h⟩
 ·cases e
theorem kY:∀{l:List HL},rZ l=true->l=lY:=by
 intro l e;unfold rZ at e
 split at e
 ·simp only[HS,beq_iff_eq]at e
  obtain⟨⟨⟨h1,h2⟩,h3⟩,h4⟩:=e;subst h1 h2 h3 h4;rfl
 ·cases e
theorem gP {K:Frag}{D:Option Addr}{n:Str}{C:Addr}(e:zr K D n=some C):nsIn K IM n=some (some (.ref C)) ∧
  ∃nm q N bs bm hd sn su ab co dd k0 k1 k2 k3 k5,under D bm=true/\K.lookup C=some (JB nm q C N bs bm hd sn su ab co dd k0 k1 k2 k3 k5 "ValueError.__new__")/\∀h:Heap,K.In h->∃mN,h.Ns N mN/\∀n∈calmNames,mN n=none:=by
 unfold zr at e
 split at e
 ·rename_i C' hC
  split at e
  ·rename_i t dd c k0 k1 k2 k3 b k5 hl
   split at e
   ·rename_i E m ob oe es ep oz hm hN
    split at e
    ·rename_i hq
     cases e;simp only[HS,beq_iff_eq,O8]at hq;obtain⟨⟨⟨⟨⟨⟨h1,h2⟩,h3⟩,h4⟩,h5⟩,h6⟩,h7⟩:=hq
     have z:=ID.mp h5;refine⟨hC,c.name,c.qualname,c.ns,c.bases,m,c.hasDict,c.slotNames,c.subclasses,c.abstract,c.collection,dd,k0,k1,k2,k3,k5,h7,?_,Fb hN h4 (lz (z _ (.head _))) (lz (z _ (.tail _ (.head _)))) (lz (z _ (.tail _ (.tail _ (.head _))))) (lz (z _ (.tail _ (.tail _ (.tail _ (.head _))))))⟩
     rw[hl];cases c;simp only at hm h3;subst h1 h2 hm h3 h6
     rfl
    ·cases e
   ·cases e
  ·cases e
 ·cases e
theorem ox0 {K:Frag}{C:Addr}{n:Str}(e:zr K none n=some C):OX K C lY:=by
 obtain⟨_,_,_,_,_,_,_,_,_,_,_,_,_,_,_,_,_,hu,hl,hn⟩:=gP e;cases kY hu;exact zl hl hn
theorem Gh {K:Frag}{C D:Addr}{n m:Str}(e:zr K (some D) n=some C)(d:zr K none m=some D):OX K C (.ref D::lY):=by
 obtain⟨_,_,_,_,_,bm,_,_,_,_,_,_,_,_,_,_,_,hu,hl,hn⟩:=gP e;obtain⟨_,_,_,_,_,_,_,_,_,_,_,_,_,_,_,_,_,hu',hl',hn'⟩:=gP d;cases kY hu';unfold under at hu;simp only at hu
 split at hu
 ·rw[HS]at hu
  cases eq_of_beq hu.1;cases kY hu.2;exact wF hl hn hl' hn'
 ·cases hu
theorem iA {α:Type}{o:Option α}{r:List (Option α)}{l:List α}(e:rM (o::r)=some l):∃a l',o=some a/\l=a::l'/\rM r=some l':=by
 cases o with
 | none=>cases e
 | some a=>
  unfold rM at e
  split at e
  ·rename_i l' h;cases e;exact⟨a,l',rfl,rfl,h⟩
  ·cases e
theorem x6 {α:Type}{l:List α}(e:rM ([]:List (Option α))=some l):l= []:=by cases e;rfl
theorem mY:∀{l:List Addr},ou l=true->l.Nodup
 | [],_=> .nil
 | a::r,h=>by
  unfold ou at h;rw[HS]at h;refine JE.mpr ⟨λhm=> ?_,mY h.2⟩
  have:=ID.mp h.1 a hm
  simp at this
theorem CB {K:Frag}{m:Str}{es:List Str}(e:Gi K (m::es)=true):∃D l,zr K none m=some D/\rM (es.map (zr K (some D)))=some l/\(l++ [D]).Nodup:=by
 rw[Gi]at e
 split at e
 ·rename_i D hD
  split at e
  ·rename_i l hl;exact⟨D,l,hD,hl,mY e⟩
  ·cases e
 ·cases e
section
variable {S:uQ}{top:Nat->Stmt}{K:Frag}{h:Heap}{mg:Str->Option HL}
theorem oy {α β:Type}{f g:α->β}:∀{l:List α} (j:Nat) {a:α},l.map f=l.map g->l[j]? =some a->f a=g a
 | [],_,_,_,q=>by cases q
 | b::l,0,a,e,q=>by cases q;exact(MW.inj e).1
 | b::l,j+1,a,e,q=>oy (l:=l) j (MW.inj e).2 q
theorem Ft (j:Nat){n:Str}{i:Nat}{ps:List Str}(X:K.In h)(G:h.Ns IM mg)(e:oo S K=nN S top)(q:S.tab[j]? =some (n,i))
  (hb:∀(kV doc pm:HL) (an:Option Addr) (cdv ct:HL) (us:List HL),us.length=ps.length->OF (fnOf n n (eX (top i)) (br (top i)) (ao (top i)) .none kV doc pm an cdv ct) ⟨us,[]⟩=pure (ps.zip us)) :
  ∃f fd,Fn K mg n (top i) ps f fd:=by
 obtain⟨f,fd,h1,h2⟩:=Bd (oy j (congrArg (·.1) e) q)
 exact⟨f,fd,h2,h2.binds hb,mg_of X G h1⟩
theorem Fo (j:Nat){n:Str}{i:Nat}{x:Str}{fa:Addr}(X:K.In h)(G:h.Ns IM mg)(e:oo S K=nN S top)(q:S.tab[j]? =some (n,i))(hfa:mg n=some (.ref fa))
  (hb:∀(kV doc pm:HL) (an:Option Addr) (cdv ct u:HL),OF (fnOf n n (eX (top i)) (br (top i)) (ao (top i)) .none kV doc pm an cdv ct) ⟨[u],[]⟩=pure [(x,u)]) :
  ∃fd,Fn K mg n (top i) [x] fa fd/\∀(s:HJ) (u:HL),Na s fd ⟨[u],[]⟩ [(x,u)]:=by
 obtain⟨f,fd,h1,h2⟩:=Bd (oy j (congrArg (·.1) e) q)
 have z:=hfa.symm.trans (mg_of X G h1);cases z
 have hh:=h2;obtain⟨oc,od,kV,doc,pm,an,cdv,ct,osl,rfl,lk,hcd⟩:=hh.ex;exact⟨_,⟨h2,.all λus hl=>match us,hl with | [u],_=>hb kV doc pm an cdv ct u,mg_of X G h1⟩,λs u=> .of_eq (hb kV doc pm an cdv ct u)⟩
theorem dY (j:Nat){n:Str}(X:K.In h)(G:h.Ns IM mg)(e:oo S K=nN S top)(q:S.zs[j]? =some n):mg n=none:=
 mg_none_of X G (lz (ID.mp (congrArg (·.2.1) e:S.zs.all (E9 K IM)=true) n (Kb q)))
theorem lJ (j:Nat){n:Str}{i:Int}(X:K.In h)(G:h.Ns IM mg)(e:oo S K=nN S top)(q:S.cs[j]? =some (n,i)):∃t,mg n=some (.int i t):=by
 obtain⟨t,ht⟩:=CC (oy (f:=λc=>Gj K c.1) (g:=λc=>some c.2) j (congrArg (·.2.2.1) e) q)
 exact⟨t,mg_of X G ht⟩
theorem Fv (e:oo S K=nN S top):Gi K S.es=true:=congrArg (·.2.2.2) e
end
theorem left_of {p q:Ip}{loose:List Str}{Xt:HJ->Bool}{α:Type}{Yf:HJ->α}{Ya:IV->α}{N:Nat}{g0:Bool}
  (e:opening p=plainProg p.main.scope.names) (hN:Nat.ble 600 N=true) (f:∀s,fenceModules? p s=some s)
  (h:∀(w:IV) (os:Ly),(topFrom NH p w N ⟨boot_heap w.params,⟨[]⟩,boot_drawn,boot_toks,os⟩).map (λs=>(openSeen q loose (NI p.main.body) Xt g0 s,Yf s))=some (openGood q loose,Ya w)) :
  LeftO p q loose Xt Yf Ya N g0:=λw=>by
 obtain⟨⟨h0,gs,d,k,os⟩,e1,e2⟩:=Nm.mp (boot_open e hN f w);simp only[O6.injEq]at e2;obtain⟨rfl,rfl,rfl,rfl⟩:=e2;unfold openEnds;rw[e1];exact h w os
structure Cl (P:Ip)(w:IV)(K:Frag)(mg:Str->Option HL)(base:Heap)(k:Nat)(x:Str)(n:Nat)(m:List T->Rs T):Prop where
 ex:∃f fd ps,mg x=some (.ref f)/\keepIn K (.ref f)=true/\Binds K fd ps []/\ps.length=n/\DJ P w K mg base k f fd ps n m
abbrev gF (K:Frag)(mg:Str->Option HL)(x:Str)(st:Stmt)(ps:List Str):Prop:=∃f fd,Fn K mg x st ps f fd
section
variable {P:Ip}{w:IV}{K:Frag}{mg:Str->Option HL}{base:Heap}{x:Str}{st:Stmt}{N ps:List Str}{k n:Nat}{F:En->Rs Fl}
theorem FZ (H:gF K mg x st ps)(S:bN N ps (ao st))(hn:ps.length=n)
  (hbody:∀(f:Addr) (cdv:HL) (A:IE) (outer:List Env) (s:HJ) (H:Hp) (E:XK),Room k (A.deeper (envOfC x (ao st) s.heap.objs.size f cdv)) →
   ∀xe,ya ((eY CX0 P w K mg base N x (ao st) f cdv A outer s H E).FM xe) (br st) F):Cl P w K mg base (k+1) x n (val n N.length F):=by
 obtain⟨f,fd,h⟩:=H;exact⟨f,fd,ps,h.mg,h.fn.kp,h.bd,hn,yr h.fn S hn (hbody f)⟩
end
section
variable {X:Cx}{e:Expr}{es:List Expr}{fs:En->Rs (List T)}{pos p:Pos}{x:Str}{n k k':Nat}{g:List T->Rs T}
theorem aW (c:Cl X.prog X.w X.K X.mg X.base k x n g)(hr:Room k' X.A)(ha:QA X (e::es) fs)(hk:autoParam (k<=k') s_)(hl:∀(ρ:En) (ts:List T),fs ρ= .ok ts->ts.length=n:=by repeat first | exact Bk | refine Bj ?_)
  (hn:autoParam (a7 (e::es)=true) u_) (hg:autoParam (Gl X x) u_) (h2:autoParam ((x == Ij "__debug__")=false) s_):QE X (.Call (.Name x p) (e::es) [] pos) (cl g fs):=by
 obtain⟨f,fd,ps,h1,h3,h4,h5,h6⟩:=c.ex;exact zq_c h6 (hr.mono hk) h1 h3 h4 hl ha h5 hn hg h2
theorem mh {i:Int}(h:∃t,X.mg x=some (.int i t))(hg:autoParam (Gl X x) u_)(hd:autoParam ((x == Ij "__debug__")=false) s_):QE X (.Name x pos) (cn (.int i)):=by
 obtain⟨t,h⟩:=h;exact ym h ⟨_,rfl⟩ hg hd
end
def hookC (S:qE)(top:Nat->Stmt):Hook:=
 ⟨_,λs=>wL S (qg s.heap),λ_=>vj S top,λ_ h=> ∃K:Frag,K.In h/\wL S K=vj S top,λ_ s e=>⟨_,xy s.heap,e⟩,λ_ _ _ ⟨K,a,b⟩ k=>⟨K,a.keeps k,b⟩⟩
end Tr
namespace Tr
open PySem PySem.Spec PyProof.Rows L2
theorem rS {X:Cx}{a b:Expr}{fs:En->Rs (List T)}{p p1 p2 pos:Pos}(hu:X.A.units+8<cLine)(hc:X.calm=true)(hm:X.mg "dict" =none)(hmz:X.mg "zip" =none)(ha:QA X [a,b] fs)(hst:autoParam (a7 [a,b] =true) u_)(hg:autoParam (Gl X "dict") u_)(hgz:autoParam (Gl X "zip") u_) :
  QE X (.Call (.Name "dict" p) [.Call (.Name "zip" p1) [a,b] [] p2] [] pos) (cl DG fs):=⟨Cc hu hc hm hmz ha.h hst hg hgz⟩
theorem fsc {N P:List Str}{sc:K2}(h1:autoParam (sc.kind= .function) u_)(h2:autoParam (sc.isCoroutine=false) u_)(h3:autoParam (sc.isGenerator=false) u_)(h4:autoParam (N.Nodup) z_)(h5:autoParam (N.take P.length=P) u_)
  (h6:autoParam (∀x∈P,sc.names.lookup x=some .local\/sc.names.lookup x=some .cell) z_) (h7:autoParam (∀y∈sc.names,y.2≠ .free) z_):bN N P sc:=⟨h1,h2,h3,h4,h5,h6,h7⟩
end Tr
namespace Tr
open PySem
def tbl (pl:List Nat)(L:Bool):SetTable:={ mask:=7,place:=pl.toArray,dummies:=#[],finger:=0,led:=L,moves:=0,plain:=true }
end Tr
namespace Tr
open PySem PySem.Spec PyProof.Rows L2
section
variable {P:Ip}{w:IV}{K:HI}{mg:Str->Option HL}{base:Heap}{x:Str}{st:Stmt}{ps:List Str}{k n:Nat}{F:En->Rs Fl}
theorem bf (N:List Str)(H:gF K mg x st ps)
  (hbody:N.Nodup->∀(f:Addr) (cdv:HL) (A:IE) (outer:List Env) (s:HJ) (H:Hp) (E:XK),Room k (A.deeper (envOfC x (ao st) s.heap.objs.size f cdv)) →
   ∀xe,ya ((eY CX0 P w K mg base N x (ao st) f cdv A outer s H E).FM xe) (br st) F) (S:autoParam (bN N ps (ao st)) a_) (hn:autoParam (ps.length=n) u_):Cl P w K mg base (k+1) x n (val n N.length F):=FZ H S hn (hbody S.nd)
end
theorem fz {X:Cx}{pos:Pos}{elt tg iter:Expr}{ifs:List Expr}{scope:K2}{src:List (Option Nat)}{fi:En->Rs (List T)}{tgt:T->En->Rs En}{fc:En->Rs Bool}{fe:En->Rs T}(N' N:List Str)(st:Stmt)(hi:QI X tg iter fi)
  (block:N'.Nodup->∀(cl:List (Str×Addr)) (C:Addr) (s₀:HJ) (H₀:Hp) (fp:List Addr),QG (aZ X scope cl N' C s₀ H₀ fp) tg tgt/\DH (aZ X scope cl N' C s₀ H₀ fp) ifs fc/\QE (aZ X scope cl N' C s₀ H₀ fp) elt fe)
  (hc:autoParam (Cx.calm X=true) u_) (hN:autoParam (X.N=N) u_) (hm:autoParam (X.env.scope.names=(ao st).names) u_) (hk:autoParam (scope.kind= .function) u_) (h:autoParam (zE (ao st).names N scope.names N' src=true) z_) (nd:autoParam (N'.Nodup) z_) (hs:autoParam (∀(x:HL),Im iter (Cx.env X) x=pure x) t_) :
  QE X (L6 elt [{ target:=tg,iter:=iter,ifs:=ifs,is_async:=0 }] scope pos) (fF fi src tgt fc fe):=DN hc (LcScope.by hN hm hk h) hi (block nd) hs
@[elab_as_elim] theorem A3 {α:Type} {p:List α->Prop} (h:∀a,p [a]):∀us:List α,us.length=1->p us
 | [a],_=>h a
@[elab_as_elim] theorem Fg {α:Type} {p:List α->Prop} (h:∀a b,p [a,b]):∀us:List α,us.length=2->p us
 | [a,b],_=>h a b
@[elab_as_elim] theorem Ff {α:Type} {p:List α->Prop} (h:∀a b c,p [a,b,c]):∀us:List α,us.length=3->p us
 | [a,b,c],_=>h a b c
section
variable {K:HI}{h:Heap}{mg:Str->Option HL}{S:uQ}{top:Nat->Stmt}
theorem dh (j:Nat){n:Str}{i:Nat}{ps:List Str}(X:K.In h)(G:h.Ns IM mg)(e:oo S K=nN S top)(q:autoParam (S.tab[j]? =some (n,i)) u_)
  (hb:∀(kV doc pm:HL) (an:Option Addr) (cdv ct:HL) (us:List HL),us.length=ps.length->OF (KI n n (eX (top i)) (br (top i)) (ao (top i)) .none kV doc pm an cdv ct) ⟨us,[]⟩=pure (ps.zip us):=by
   intro _ _ _ _ _ _ us hl;first | exact A3 (λ_=>rfl) us hl | exact Fg (λ_ _=>rfl) us hl | exact Ff (λ_ _ _=>rfl) us hl | exact len_0 rfl us hl) :
  ∃f fd,Fn K mg n (top i) ps f fd:=Ft j X G e q hb
end
end Tr
namespace Tr
open PySem
def oS (g:List T->Rs T)(fa:En->Rs T)(fs:En->Rs (List T))(ρ:En):Rs T:=fa ρ >>= λx=>match x with
 | .str s=>fs ρ >>= λts=>g (.str s::ts)
 | _=> .bad
def fZ:List T->Rs T
 | [.int i] =>if i.natAbs.log2<1920 then .ok (.str (Ij (toString i)))else .bad
 | _=> .bad
def fQ:List T->Rs T
 | [.str a,.str b] =>if b.length≠0/\a.length<=1000000 then .ok (.tup [.str (Jg a b).1,.str (Jg a b).2.1,.str (Jg a b).2.2])else .bad
 | _=> .bad
def gL:List T->Rs T
 | [.str a,.str b] =>if b.length≠0/\a.length<=1000000/\(Jf a b).length<=1000000 then .ok (.lst ((Jf a b).map .str))else .bad
 | _=> .bad
def jo:List T->Option (List Str)
 | [] =>some []
 | .str s::l=>(jo l).map (s:: ·)
 | _=>none
def gW:List T->Rs T
 | [.str a,.lst l] =>match jo l with
  | some ss=>if JoinOk a ss=true then .ok (.str (Txt.join a ss))else .bad
  | none=> .bad
 | _=> .bad
end Tr
namespace Tr
open PySem PySem.Spec PyProof.Rows L2
section
variable {X:Cx}{a b:Expr}{fa:En->Rs T}{fs:En->Rs (List T)}{pos p apos cpos:Pos}
theorem jY:CallT X (.type "str") fZ:=by
 intro pins s σ H O ts vs us Q I hf rs rv hp;unfold fZ at hp
 split at hp
 ·split at hp
  ·rename_i i hi
   obtain⟨v,rfl,r⟩:=rs.one;obtain⟨u,rfl,z⟩:=Vals.one rv;rw[Rep.Do.mp r]at z;obtain⟨t,rfl⟩:=z;exact PySem.P.str_of_int hi ⟨.str _,H,I.tok _,⟨_,rfl⟩,hp H (Same.refl H) _ (Rep.GG _)⟩
  ·exact hp.elim
 ·exact hp.elim
theorem pq {x y:Str}{O:Ow}{H:Hp}{vs:List V}{us:List HL}(rs:Reps X.K O H [.str x,.str y] vs)(rv:Vals vs us):∃t u,us= [JD x t,JD y u]:=by
 obtain⟨v1,w1,rfl,r1,rs⟩:=Reps.AC.mp rs;obtain⟨v2,w2,rfl,r2,rs⟩:=Reps.AC.mp rs;cases Reps.Da.mp rs;rw[Rep.FS.mp r1,Rep.FS.mp r2]at rv
 cases rv with
 | cons z1 rv=>
  cases rv with
  | cons z2 rv=>
   cases rv;obtain⟨t,rfl⟩:=z1;obtain⟨u,rfl⟩:=z2;exact⟨t,u,rfl⟩
theorem mO:∀(l:List (Str×Tok)),Vals ((l.map (·.1)).map V.str) (P7 l)
 | [] => .nil
 | (x,t)::l=> .cons ⟨t,rfl⟩ (mO l)
theorem ik {O:Ow}{H:Hp}:∀(ss:List Str),Reps X.K O H (ss.map T.str) (ss.map V.str)
 | [] =>Reps.Gz
 | x::l=>Reps.Gw (Rep.GG _) (ik l)
theorem Inv.Hw {pins:List (Addr×Obj)}{σ:L2.St}{H:Hp}{s:HJ}{ys:List V}{its:List HL}{t':Nat}(I:Inv X pins σ H s)(hv:Vals ys its)(hz:ys.length<=sizeLine) :
  Inv X pins σ (cz H s.heap.objs.size (.tup ys)) { s with heap:=s.heap.push { cls:=.type "tuple",data:=.seq its.toArray },toks:=t' }:=
 I.laid (λ_ _ q=>HN _ q) (Ia _) ⟨hz,its,hv,Oi _ _⟩
theorem Ao:CallT X (.builtin "str.partition") fQ:=by
 intro pins s σ H O ts vs us Q I hf rs rv hp;unfold fQ at hp
 split at hp
 ·rename_i x y
  split at hp
  ·rename_i hh
   obtain⟨h1,h2⟩:=hh;obtain⟨t,u,rfl⟩:=pq rs rv
   have hy:(y.length == 0)=false:=by rw[beq_eq_false_iff_ne];exact h1
   have hx:x.length<=sizeLine:=by rw[JL];omega
   refine KG NT (show typeOf _=_ from rfl) F.entry_str_partition (F.args_str_partition_2 _ _) (meets_str_partition x y t u hy hx) ?_
   have fin:∀(p q r:Str) (tp tq tr:Tok) (k:Nat),(p,q,r)=Jg x y->wants (EP X pins σ Q) X.xe (.ok (.ret (.ref s.heap.objs.size))) { s with heap:=s.heap.push { cls:=.type "tuple",data:=.seq #[.str p tp,.str q tq,.str r tr] },toks:=k }:=λp q r tp tq tr k e=>by
    have np:=I.hok.fresh (Ia s.heap.objs.size)
    have e1:(Jg x y).1=p:=by rw[<-e]
    have e2:(Jg x y).2.1=q:=by rw[<-e]
    have e3:(Jg x y).2.2=r:=by rw[<-e]
    rw[e1,e2,e3]at hp
    have I2:Inv X pins σ (cz H s.heap.objs.size (.tup [.str p,.str q,.str r])) { s with heap:=s.heap.push { cls:=.type "tuple",data:=.seq #[.str p tp,.str q tq,.str r tr] },toks:=k }:=Inv.Hw I (its:=[.str p tp,.str q tq,.str r tr]) (.cons ⟨_,rfl⟩ (.cons ⟨_,rfl⟩ (.cons ⟨_,rfl⟩ .nil))) (by rw[JL];simp)
    exact⟨.ref _,_,I2,rfl,hp _ (aV np _) _ (dI np (hf _ np) (ik [p,q,r]))⟩
   show wants _ _ _ _
   unfold Jg at fin
   cases q:KM x y 0 x.length 1 with
   | nil=>
    rw[q]at fin
    exact fin _ _ _ _ _ _ _ rfl
   | cons i tl=>
    rw[q]at fin;exact fin _ _ _ _ _ _ _ rfl
  ·exact hp.elim
 ·exact hp.elim
theorem ka:∀(ss:List Str) (k:Nat),∃l:List (Str×Tok),strsFrom k ss=P7 l/\l.map (·.1)=ss
 | [],k=>⟨[],rfl,rfl⟩
 | x::ss,k=>by
  obtain⟨l,e1,e2⟩:=ka ss (k+1);exact⟨(x,k)::l,by show JD x k::strsFrom (k+1) ss=_;rw[e1];rfl,by rw[HW,e2]⟩
theorem xP:CallT X (.builtin "str.split") gL:=by
 intro pins s σ H O ts vs us Q I hf rs rv hp;unfold gL at hp
 split at hp
 ·rename_i x y
  split at hp
  ·rename_i hh
   obtain⟨h1,h2,h3⟩:=hh;obtain⟨t,u,rfl⟩:=pq rs rv
   have hy:(y.length == 0)=false:=by rw[beq_eq_false_iff_ne];exact h1
   have hx:x.length<=sizeLine:=by rw[JL];omega
   have fin:∀(l:List (Str×Tok)) (k:Nat),l.map (·.1)=Jf x y->wants (EP X pins σ Q) X.xe (.ok (.ret (.ref s.heap.objs.size))) { s with heap:=s.heap.push { cls:=.type "list",data:=.seq (P7 l).toArray },toks:=k }:=λl k e=>by
    have np:=I.hok.fresh (Ia s.heap.objs.size);rw[<-e]at hp h3;exact⟨.ref _,_,I.GW (t':=k) (mO l) (by rw[HP,JL];omega),rfl,hp _ (aV np _) _ (eF np (hf _ np) (ik _))⟩
   have itself:∀(e:[x] =Jf x y),listOfItself x t X.A (wants (EP X pins σ Q) X.xe) s:=λe=>fin [(x,t)] s.toks e
   unfold Jf at fin itself h3
   cases c1:(decide (x.length<y.length)||decide (IS x<IS y))with
   | true=>
    rw[c1]at itself
    exact KG LZ (show typeOf _=_ from rfl) MX (Mv _ _) (meets_str_split_cannot_occur x y t u c1) (itself (by simp))
   | false=>
    rw[c1]at itself fin h3
    cases c2:(KM x y 0 x.length (x.length+1)).isEmpty with
    | true=>
     rw[c2]at itself
     exact KG LZ (show typeOf _=_ from rfl) MX (Mv _ _) (meets_str_split_not_found x y t u c1 hy c2) (itself (by simp))
    | false=>
     rw[c2]at fin h3;rw[if_neg Io,if_neg Io]at h3;refine KG LZ (show typeOf _=_ from rfl) MX (Mv _ _) (meets_str_split_sep x y t u c1 hy c2 hx (by rw[JL];omega)) ?_
     obtain⟨l,e1,e2⟩:=ka (Builtin.Str.partsBetween x (KM x y 0 x.length (x.length+1)) y.length) s.toks
     show wants _ _ _ _
     rw[e1];exact fin l _ (by rw[e2];simp)
  ·exact hp.elim
 ·exact hp.elim
theorem r8 {O:Ow}{H:Hp}:∀{l:List T} {ss:List Str} {vs:List V} {its:List HL},jo l=some ss->Reps X.K O H l vs->Vals vs its->∃q:List (Str×Tok),its=P7 q/\q.map (·.1)=ss
 | [],ss,vs,its,h,rs,rv=>by
  cases h;cases Reps.Da.mp rs;cases rv
  exact⟨[],rfl,rfl⟩
 | t::l,ss,vs,its,h,rs,rv=>by
  cases t with
  | str x=>
   unfold jo at h
   cases q:jo l with
   | none=>rw[q]at h;cases h
   | some s2=>
    rw[q]at h;cases h;obtain⟨v,w,rfl,r1,rs⟩:=Reps.AC.mp rs
    cases rv with
    | cons z rv=>
     rw[Rep.FS.mp r1]at z;obtain⟨tk,rfl⟩:=z;obtain⟨p,rfl,e⟩:=r8 q rs rv
     exact⟨(x,tk)::p,rfl,by rw[HW,e]⟩
  | _=>cases h
theorem Aq:CallT X (.builtin "str.join") gW:=by
 intro pins s σ H O ts vs us Q I hf rs rv hp;unfold gW at hp
 split at hp
 ·rename_i x l
  split at hp
  ·rename_i ss hss
   split at hp
   ·rename_i hj
    obtain⟨v1,w1,rfl,r1,rs⟩:=Reps.AC.mp rs;obtain⟨v2,w2,rfl,r2,rs⟩:=Reps.AC.mp rs;cases Reps.Da.mp rs;obtain⟨c,ws,rfl,n1,hx,rx⟩:=Rep.FB.mp r2;rw[Rep.FS.mp r1]at rv
    cases rv with
    | cons z1 rv=>
     cases rv with
     | cons z2 rv=>
      cases rv;obtain⟨t,rfl⟩:=z1;obtain rfl:=(show _=IB c from z2)
      obtain⟨z,its,n,rv2,hlen,eo⟩:=I.GH hx;obtain⟨q,rfl,e⟩:=r8 hss rx rv2;exact SC.join (l:=q) ⟨_,eo,rfl,n,rfl⟩ e hj λt' k=>⟨.str _,H,I.tok _,⟨_,rfl⟩,hp H (Same.refl H) _ (Rep.GG _)⟩
   ·exact hp.elim
  ·exact hp.elim
 ·exact hp.elim
theorem AW {nm:Str}{id:String}{g:List T->Rs T}(hsl:Slot "str" nm id)(hty:typeOf (.builtin id)=pure (.type "method_descriptor"))(hc:CallT X (.builtin id) g)(ha:cL X a fa){fb:En->Rs T}(hb:cL X b fb)(hn:cR b=true)
  (hbase:J1 a nm X.env (eval a X.env)=eval a X.env) (hline:(apos.endLine == cpos.line)=true):cL X (.Call (.Attribute a nm apos) [b] [] cpos) (oS g fa (ae fb ai)):=by
 have hs:Ik [b] X.env=(false,eval b X.env)::Ik [] X.env:=bu hn;intro pins s σ H Q I ⟨ρ,O,E,hq⟩;refine KZ hbase (by rw[hs];rfl) hline rfl (bF (ha pins s σ H _ I (aI E hq)) λv s1 hh_=> ?_)
 obtain⟨x,H1,I1,r1,t,rt,s',E',q1⟩:=hh_
 cases t with
 | str y=>
  rw[Rep.FS.mp rt]at r1;obtain⟨tk,rfl⟩:=r1;refine⟨_,_,LG,hsl,hty,(show typeOf _=_ from rfl),(λa z=>nomatch z),?_⟩
  rw[hs]
  have q1':Post X H1 (fb ρ >>= λu=>g [.str y,u]) λt H'=> ∀v,Rep X.K O H' t v->Q v H':=by
   have:(ae fb ai ρ >>= λts=>g (.str y::ts))=(fb ρ >>= λu=>g [.str y,u]):=by
    unfold ae;cases fb ρ <;> rfl
   rw[<-this];exact q1
  refine KW rfl (Kx (J6 (bF (hb pins s1 σ H1 _ I1 (aI (f:=fb) E' q1')) λu s2 ⟨w,H2,I2,r2,t2,rt2,s'',E'',q2⟩=>Kd ?_)))
  exact hc pins s2 σ H2 O [.str y,t2] [.str y,w] [.str y tk,u] Q I2 (λp=>E''.fresh) (Reps.Gw (Rep.GG _) (Reps.Gw rt2 Reps.Gz)) (.cons ⟨tk,rfl⟩ (.cons r2 .nil)) q2
 | _=>exact q1.elim
end
end Tr
namespace L2
open PySem PySem.Spec PyProof.Rows
open Sem (wp)
theorem jO {M:L7}{Γ:MQ}{p:Pos}{t:Sem Fin}{fs:List Frame}{s:HJ}{e:End}{s':HJ}(h:Runs M Γ p t fs s e s'):s.toks<=s'.toks:=by
 induction h with
 | fresh _ ih=>exact IA (Nat.le_succ _) ih
 | call _ _ i1 i2=>exact IA i1 i2
 | resumeFresh _ _ _ _ i1 i2=>exact IA i1 i2
 | resumeSuspended _ _ _ _ i1 i2=>exact IA i1 i2
 | segRet _ _ i1 i2=>exact IA i1 i2
 | segGen _ _ i1 i2=>exact IA i1 i2
 | segSuspGen _ _ _ _ i1 i2=>exact IA i1 i2
 | _=>first | exact Ia _ | assumption
theorem qH {M:L7}{Γ:MQ}{p:Pos}{g:Nat}{r:Resume}{s:HJ}{res:GenResult}{s':HJ}(h:Wakes M Γ p g r s res s'):s.toks<=s'.toks:=by
 unfold Wakes at h
 split at h
 ·exact h.elim
 ·split at h
  ·obtain⟨e,s1,q,_,_,rfl⟩:=h;have:=jO q;exact this
  ·obtain⟨_,rfl⟩:=h;exact Ia _
  ·obtain⟨_,rfl⟩:=h;exact Ia _
 ·obtain⟨e,s1,q,_,_,rfl⟩:=h;have:=jO q;exact this
 ·obtain⟨_,rfl⟩:=h;exact Ia _
 ·obtain⟨_,rfl⟩:=h;exact Ia _
def vD:Nat:=1
theorem rV {α:Type}{M:L7}{Γ:MQ}:∀{t:Sem α} {Q:α->Pos->HJ->Prop} {E:HL->Pos->HJ->Prop} {p:Pos} {s:HJ},vD<=s.toks->wp M Γ t Q E p s →
  wp M Γ t (λa p' s'=>Q a p' s'/\vD<=s'.toks) (λe p' s'=>E e p' s'/\vD<=s'.toks) p s:=by
 intro t
 induction t with
 | pure a=>intro Q E p s h w;rw[Nx]at w ⊢;exact⟨w,h⟩
 | raise e=>intro Q E p s h w;rw[Nx]at w ⊢;exact⟨w,h⟩
 | fresh k ih=>intro Q E p s h w;rw[Nx]at w ⊢;exact ih _ (Nat.le_succ_of_le h) w
 | load a pt k ih=>intro Q E p s h w;rw[Nx]at w ⊢;obtain⟨o,e,w⟩:=w;exact⟨o,e,ih _ h w⟩
 | update a pt f k ih=>intro Q E p s h w;rw[Nx]at w ⊢;exact⟨w.1,ih _ (by exact h) w.2⟩
 | choose src n k ih=>intro Q E p s h w;rw[Nx]at w ⊢;exact⟨w.1,ih _ (by exact h) w.2⟩
 | genState g k ih=>intro Q E p s h w;rw[Nx]at w ⊢;obtain⟨o,e,w⟩:=w;exact⟨o,e,ih _ h w⟩
 | call c hd g l k ih=>intro Q E p s h w;rw[Nx]at w ⊢;obtain⟨r,s',q,w⟩:=w;exact⟨r,s',q,ih _ (IA h (jO q)) w⟩
 | resume g r l k ih=>intro Q E p s h w;rw[Nx]at w ⊢;obtain⟨r,s',q,w⟩:=w;exact⟨r,s',q,ih _ (IA h (qH q)) w⟩
 | _=>intro Q E p s h w;rw[Nx]at w ⊢ <;> first | exact w | (rename_i ih;exact ih _ (by exact h) w)
def CalB (Γ:MQ):Prop:=(Γ.below.map (·.1)).any Ot=true
def Cal (Γ:MQ):Prop:=(((Γ.code::Γ.below.map (·.1))).any Ot)=true
theorem CalB.cal {Γ:MQ}(h:CalB Γ):Cal Γ:=by unfold Cal;rw[M7,show(Γ.below.map (·.1)).any Ot=true from h,Pm]
theorem Cal.enter {Γ:MQ}{c:Code}{h:Option HL}{p:Pos}(z:Cal Γ):CalB (Γ.enter c h p):=z
section
variable {α β:Type}{M:L7}{A:IE}{E:HL->HJ->Prop}{s:HJ}{R R':LH->HJ->Prop}{c:Code}
def wC (M:L7)(A:IE)(t:Sem α)(Q:α->HJ->Prop)(E:HL->HJ->Prop)(s:HJ):Prop:=
 vD<=s.toks->∀Γ p,PySem.Ctx.In Γ A->Cal Γ->wp M Γ t (λa _ s'=>Q a s') (λe _ s'=>E e s') p s
def cC (M:L7)(A:IE)(c:Code)(R:LH->HJ->Prop)(s:HJ):Prop:=
 vD<=s.toks->∀Γ p,Γ.code=c->PySem.Ctx.Below Γ A->CalB Γ->wpCode M Γ R p s
theorem wC.of {t:Sem α}{Q:α->HJ->Prop}(h:wpAny M A t Q E s):wC M A t Q E s:=λ_ Γ p hΓ _=>h Γ p hΓ
theorem cC.of (h:codeAny M A c R s):cC M A c R s:=λ_ Γ p hc hΓ _=>h Γ p hc hΓ
theorem bL {t:Sem α}{Q Q':α->HJ->Prop}{E':HL->HJ->Prop}(h:wC M A t Q E s)(hQ:∀a s,Q a s->Q' a s)(hE:∀e s,E e s->E' e s):wC M A t Q' E' s:=
 λk Γ p hΓ z=>Mi M Γ t (λa _ s=>hQ a s) (λe _ s=>hE e s) p s (h k Γ p hΓ z)
theorem fL {t:Sem α}{Q Q':α->HJ->Prop}(h:wC M A t Q E s)(hQ:∀a s,Q a s->Q' a s):wC M A t Q' E s:=bL h hQ λ_ _ x=>x
theorem a0 {a:α}{Q:α->HJ->Prop}(h:Q a s):wC M A (pure a) Q E s:=.of (HX h)
theorem aQ {m:Sem α}{f:α->Sem β}{Q:β->HJ->Prop}(h:wC M A m (λa s'=>wC M A (f a) Q E s') E s):wC M A (m >>= f) Q E s:=λk Γ p hΓ z=>by
 rw[Sem.wp_bind'];exact Mi M Γ m (λa p' s' h'=>h'.1 h'.2 Γ p' hΓ z) (λ_ _ _ h'=>h'.1) p s (rV k (h k Γ p hΓ z))
theorem ay {m:Sem α}{f:α->Sem β}{Q:β->HJ->Prop}(h:wpAny M A m (λa s'=>wC M A (f a) Q E s') E s):wC M A (m >>= f) Q E s:=aQ (.of h)
theorem fX {m:Sem α}{k:HL->Sem Unit}{Q:α->HJ->Prop}(h:wC M A m Q (λe s'=>wC M A (k e) (λ_ s''=>E e s'') E s') s):wC M A (m.onRaise k) Q E s:=λkk Γ p hΓ z=>by
 rw[Sem.wp_onRaise];exact Mi M Γ m (λ_ _ _ h'=>h'.1) (λe p' s' h'=>h'.1 h'.2 Γ p' hΓ z) p s (rV kk (h kk Γ p hΓ z))
theorem bX {vs:List HL}{m:Sem α}{Q:α->HJ->Prop}(h:wC M A m Q E s):wC M A (holding vs m) Q E s:=λk Γ p hΓ z=>by rw[Sem.wp_holding];exact h k Γ p hΓ z
theorem kQ {vs:List HL}{m:Sem HL}{Q:HL->HJ->Prop}(h:wC M A m Q E s):wC M A (operate vs m) Q E s:=λk Γ p hΓ z=>by rw[Sem.wp_operate];exact h k Γ p hΓ z
theorem kR {m:Sem α}{Q:Except HL α->HJ->Prop}(h:wC M A m (λa=>Q (.ok a)) (λe=>Q (.error e)) s):wC M A m.attempt Q E s:=λk Γ p hΓ z=>by rw[Sem.wp_attempt];exact h k Γ p hΓ z
theorem dG {pos:Pos}{f:Unit->Sem β}{Q:β->HJ->Prop}(h:wC M A (f ()) Q E s):wC M A (standAt pos >>= f) Q E s:=ay (L8 h)
theorem iz (h:cC M A c R s)(hR:∀r s,R r s->R' r s):cC M A c R' s:=λk Γ p hc hΓ z=>wpCode_mono hR (h k Γ p hc hΓ z)
theorem u6 {h:Option HL}{Q:Flow->HJ->Prop}(hc:cC M (A.mark h) c (λr s'=>match r with | .ok f=>Q f s' | .error e=>E e s') s)(hnb:autoParam (h≠some byPass) b_):wC M A (run c h) Q E s:=λk Γ p hΓ z=>by
 rw[Sem.wp_run];exact hc k _ p rfl (hΓ.enter c h p hnb) z.enter
theorem jf {f:HL}{pos:List HL}{kw:List (Str×HL)}{Q:HL->HJ->Prop}(hc:cC M A (.call f ⟨pos,kw⟩) (λr s'=>match r with | .ok (.ret v)=>Q v s' | .ok _=>False | .error e=>E e s') s):wC M A (call f pos kw) Q E s:=λk Γ p hΓ z=>by
 show wp M Γ (runValue (.call f ⟨pos,kw⟩)) _ _ p s
 rw[Sem.wp_runValue];exact hc k _ p rfl (hΓ.enter _ none p (by intro x;cases x)) z.enter
theorem cY (h:wC M (A.under c) (M.den c) (λfin s'=>match fin with | .done f=>R (.ok f) s' | .again c'=>c'.quiet=true/\cC M A c' R s') (λe s'=>R (.error e) s') s):cC M A c R s:=λk Γ p hc hΓ z=>by
 rw[wpCode_iff_wp,hc];refine Mi M Γ _ (λfin p' s' h'=> ?_) (λ_ _ _ h'=>h'.1) p s (rV k (h k Γ p (hc▸hΓ.in) z.cal))
 cases fin with
 | done f=>exact h'.1
 | again c'=>exact⟨h'.1.1,h'.1.2 h'.2 (Γ.goto c') p' rfl (hΓ.goto c') z⟩
theorem Av (hq:c.quiet=true)(I:Nat->HJ->Prop)
  (turn:∀n s,I n s->wC M (A.under c) (M.den c) (λfin s'=>match fin with | .done f=>R (.ok f) s' | .again c'=>c'=c/\∃m,m<n/\I m s') (λe s'=>R (.error e) s') s)
  (n:Nat) (h:I n s):cC M A c R s:=by
 induction n using P5 generalizing s with
 | ind n ih=>
  refine cY (bL (turn n s h) (λfin s' hf=> ?_) λ_ _ h'=>h')
  cases fin with
  | done f=>exact hf
  | again c'=>obtain⟨rfl,m,hm,hI⟩:=hf;exact⟨hq,ih m hm hI⟩
end
end L2
namespace L2
open PySem PySem.Spec PyProof.Rows
section
variable {M:L7}{A:IE}{E:HL->HJ->Prop}{s:HJ}{env:Env}{pos:Pos}
theorem fA {st:Stmt}{aY:List Stmt}{Q:Flow->HJ->Prop}(h:wC M A (exec st env) (λf s'=>match f with | .next=>wC M A (execs aY env) Q E s' | f=>Q f s') E s):wC M A (execs (st::aY) env) Q E s:=by
 rw[execs_cons];refine aQ (fL h λf s' h'=> ?_)
 cases f <;> first | exact a0 h' | exact h'
theorem DQ {c:Expr}{a b:List Stmt}{Q:Flow->HJ->Prop}(h:wC M A (isTrue c env (eval c env)) (λk s'=>if k then wC M A (execs a env) Q E s' else wC M A (execs b env) Q E s') E s):wC M A (exec (.If c a b pos) env) Q E s:=by
 rw[exec_If];refine dG (aQ (fL h λk s' h'=> ?_))
 cases k <;> exact h'
theorem mM {e:Expr}{Q:Flow->HJ->Prop}(h:wC M A (eval e env) (λv=>Q (.ret v)) E s):wC M A (exec (.Return (some e) pos) env) Q E s:=by
 rw[exec_Return_some];exact dG (aQ (fL h λv s' q=>a0 q))
theorem yw {l r:Expr}{op:Oz}{whole:Sem HL}{Q:Bool->HJ->Prop}(h:wC M A (eval l env) (λa s₁=>wC M A (eval r env) (λb s₂=>wC M A (Jl op a b) (λc s₃=>wC M A (truthy c) Q E s₃) E s₂) E s₁) E s)
  (hm:JJ op r=false):wC M A (isTrue (.Compare l [op] [r] pos) env whole) Q E s:=by
 rw[isTrue_Compare1,Nd hm];exact aQ (fL h λa s₁ h₁=>aQ (bX (fL h₁ λb s₂ h₂=>dG (aQ (kQ (fL h₂ λc s₃ h₃=>bX h₃))))))
theorem u7 {x:Expr}{aY:List Expr}{whole:Sem HL}{Q:Bool->HJ->Prop}(h:wC M A (isTrue x env (eval x env)) (λc s'=>if c=true then Q true s' else wC M A (isTrue (.BoolOp .Or aY pos) env whole) Q E s') E s):wC M A (isTrue (.BoolOp .Or (x::aY) pos) env whole) Q E s:=by
 show wC M A (isTrue x env (eval x env) >>= λb=>match Nz,b with
  | .And,false=>pure false
  | .Or,true=>pure true
  | _,_=>allTrue .Or aY env) Q E s
 refine aQ (fL h λc s' h'=> ?_)
 cases c with
 | true=>exact a0 (a:=true) h'
 | false=>exact h'
theorem yv {α:Type}{vs:List HL}{m:Sem α}{Q:α->HJ->Prop}(h:wC M A m Q E s):wC M A (m.keep vs) Q E s:=λk Γ p hΓ z=>by rw[Sem.wp_keep];exact h k Γ p hΓ z
theorem pe {P:Heap->Prop}{f:HL}{first:List HL}{Q:HL->HJ->Prop}{args:List (Bool×Sem HL)}(hplain:args.any (·.1)=false)
  (hk:∀h,P h->∃k,(k=Keeper.frame\/k=Keeper.machine\/k=Keeper.boundFrame)/\PySem.W.Looks M h (keeperOf f) k)
  (h:wC M A (PP f true args []) (λa s₁=>P s₁.heap/\wC M A (call f (first++a.pos) a.kw) Q E s₁) E s):wC M A (PR pos f first args []) Q E s:=by
 unfold PR;refine aQ (bX (fL h λa s₁ h₁=>dG ?_))
 obtain⟨k,hk',L⟩:=hk _ h₁.1
 have e:(args.any (·.1)||([]:List (Option Str×Sem HL)).any (·.1.isNone))=false:=by rw[hplain];rfl
 simp only[e];refine ay (L.here ?_)
 have tail:∀{t:Sem HL},wC M A t Q E s₁->wC M A (t >>= λr=>holding [r] point >>= λ_=>pure r) Q E s₁:=
  λht=>aQ (fL ht λr s₂ hr=>ay (Jp (P8 (a0 hr))))
 have mk:∀m:HL,wC M A (callMarked m f (first++a.pos) a.kw) Q E s₁:=λm=>by unfold callMarked;exact yv h₁.2
 rcases hk' with rfl | rfl | rfl <;> dsimp only <;> first | exact tail h₁.2 | (split <;> first | exact tail h₁.2 | exact tail (mk _))
theorem nK {f:HL}{x:Sem HL}{aY:List (Bool×Sem HL)}{Q:Args->HJ->Prop}(h:wC M A (spliced ((false,x)::aY)) (λvs s'=>Q ⟨vs,[]⟩ s') E s):wC M A (PP f true ((false,x)::aY) []) Q E s:=by
 unfold PP
 show wC M A (spliced ((false,x)::aY) >>= _) Q E s
 refine aQ (fL h λvs s' h'=>bX ?_)
 exact ay (HX (ay (HX (a0 h'))))
theorem kP {x:Sem HL}{aY:List (Bool×Sem HL)}{Q:List HL->HJ->Prop}(h:wC M A x (λv s₁=>wC M A (spliced aY) (λvs s₂=>Q (v::vs) s₂) E s₁) E s):wC M A (spliced ((false,x)::aY)) Q E s:=by
 rw[spliced];refine aQ (fL h λv s₁ h₁=> ?_)
 simp only[Jv,if_false];exact ay (HX (aQ (bX (fL h₁ λvs s₂ h₂=>a0 h₂))))
theorem nL {id:Str}{p:Pos}{args:List Expr}{Q:HL->HJ->Prop}(h:wpAny M A (eval (.Name id p) env) (λf s₁=>wC M A (PR pos f [] (backTo pos (Ik args env)) []) Q E s₁) E s) :
  wC M A (eval (.Call (.Name id p) args [] pos) env) Q E s:=by
 rw[arm_eval_Call_Name'];exact ay h
theorem o9 {α:Type}{m:Sem α}{Q:α->HJ->Prop}(h:wC M A m Q (notedBy M A env E) s):wC M A (m.onRaise λx=>do K5 x env;Mk x) Q E s:=
 fX (bL h (λ_ _ q=>q) λ_ _ hx=>ay (IR hx (λ_ _ e=> .of (wpAny_theTreesLotGoes e)) λ_ _ e=>e))
end
section
variable {prog:Ip}{w:IV}{A:IE}{E:HL->HJ->Prop}{s:HJ}{R:LH->HJ->Prop}
theorem vd {env:Env}{es:List Expr}{x1:Nat}{pos:Pos}{Q:HL->HJ->Prop}
  (h:wC (model prog w) A (spliced (backTo pos (Ik es env))) (λvs s₁=>vs.length<=sizeLine/\Q (.ref s₁.heap.objs.size) { s₁ with heap:=s₁.heap.push { cls:=.type "tuple",data:=.seq vs.toArray } }) E s) :
  wC (model prog w) A (eval (.Tuple es x1 pos) env) Q E s:=by
 rw[arm_eval_Tuple];exact dG (aQ (fL h λvs s₁ h₁=> .of (N3 h₁.2 h₁.1)))
theorem tG {body:List Stmt}{env:Env}
  (h:wC (model prog w) (A.deeper env) (execs body env) (λf s'=>R (.ok (.ret (match f with | .ret v=>v | _=> .none))) s')
   (λe s'=>wpAny (model prog w) (A.deeper env) (leaving env e) (λ_ s''=>R (.error e) s'') (λe' s''=>R (.error e') s'') s') s):cC (model prog w) A (.func body env) R s:=by
 refine cY ?_
 show wC _ (A.deeper env) (do point;match <-(execs body env).onRaise (leaving env)with | .ret v=>ret v | _=>ret .none) _ _ s
 refine ay (P8 (aQ (fX (bL h (λf s' h'=> ?_) λ_ _ h'=> .of h'))))
 cases f <;> exact a0 h'
theorem Bh {a:Addr}{args:Args}{o:Obj}{fd:Je}{body:List Stmt}(hroom:A.depth<KU)(ho:s.heap.get? a=some o)
  (hd':o.data= .func fd) (hco:fd.scope.isCoroutine=false) (hgen:fd.scope.isGenerator=false) (hbody:fd.body= .stmts body) (hcd:s.heap.CodeRec fd.code fd.qualname)
  (h:wpAny (model prog w) A.in1 (OF fd args) (λbinds s₁=>
   wpAny (model prog w) A.in1 (ML fd.scope fd.globals fd.closure binds (fd.qualname++ ".<locals>.") (some a) fd.code none fd.builtins)
    (λenv s₂=>s₂.heap.NoLimit/\cC (model prog w) A (.func body env) R s₂) (λe s'=>R (.error e) s') s₁) (λe s'=>R (.error e) s') s) :
  cC (model prog w) A (.call (.ref a) args) R s:=by
 refine cY ?_
 show wC _ A.in1 (callAny (.ref a) args) _ _ s
 simp only[callAny];refine ay (wpAny_load ho ?_)
 obtain⟨c,oc,vs,tq,hc,hoc,hdc,hq⟩:=hcd;simp only[hd',callFunction,hco,hgen,hbody,hc];rw[hc]at h;refine ay (m:=field (.ref c) 1) (IW hoc hdc hq (ay (HX ?_)))
 refine ay (IR h (λbinds s₁ h₁=> ?_) λ_ _ h'=>h')
 refine ay (IR h₁ (λenv s₂ h₂=> ?_) λ_ _ h'=>h')
 exact ay (wpAny_enterFrame h₂.1 hroom (a0 (Lv rfl h₂.2)))
end
def DE (X:Cx)(e:Expr)(t:TE):Prop:=
 ∀(pins:List (Addr×Obj)) (s:HJ) (σ:St) (H:Hp) (Q:VK),Inv X pins σ H s->t σ H Q->wC (model X.prog X.w) X.A (eval e X.env) (EP X pins σ Q) X.xe s
def DS (X:Cx)(st:Stmt)(t:TS):Prop:=
 ∀(pins:List (Addr×Obj)) (s:HJ) (σ:St) (H:Hp) (D:Ends),Inv X pins σ H s->t D σ H->wC (model X.prog X.w) X.A (exec st X.env) (SP X pins D) X.xe s
section
variable {M:L7}{A:IE}{E:HL->HJ->Prop}{s:HJ}{env:Env}
theorem vc {e:Expr}{scope:K2}{pos:Pos}{newAcc first:Sem HL}{g:OQ}{gs:List OQ}{cl:List (Str×Addr)}{use:Option (HL->Sem Unit)}{Q:HL->HJ->Prop}
  (hcl:clausesOf e=g::gs) (hs:∀x,Im g.iter env x=pure x) (hclos:closureFor scope env=pure cl) (hkind:scope.kind= .function) (hnames:∀x∈scope.names,x.2= .local->scope.names.lookup x.1=some .local)
  (h:wpAny M A first (λx s₁=>wpAny M A (pyIter x) (λit s₂=>wpAny M A newAcc (λacc s₃=>wpAny M A (ML scope env.globals cl [] env.qual none .none (some env)) (λcenv s₄=>
    cC M A (.compStart e 0 it acc { cenv with scope:=relabel scope env }) (NQ M A E use Q acc cenv.locals) s₄) E s₃) E s₂) E s₁) E s):wC M A (L9 e scope env pos newAcc false first use) Q E s:=by
 unfold L9;rw[hclos,hcl]
 have step:∀{α β:Type} {m:Sem α} {f:α->Sem β} {Z:α->HJ->Prop} {Y:β->HJ->Prop} {x:HJ},wpAny M A m Z E x->(∀a s',Z a s'->wC M A (f a) Y E s')->wC M A (m >>= f) Y E x:=λh1 h2=>ay (IR h1 h2 λ_ _ z=>z)
 have stand:∀{α:Type} {c:Prop} [Decidable c] {pos:Pos} {k:PUnit->Sem α} {Y:α->HJ->Prop} {x:HJ},wC M A (k ()) Y E x->wC M A (if c then(standAt pos >>= k)else k ()) Y E x:=λh=>by
  split
  ·exact dG h
  ·exact h
 refine step h λx s₁ h₁=>dG (ay (Lf (hs x) (step (Jp h₁) λit s₂ h₂=>stand (step h₂ λacc s₃ h₃=>ay (HX (step h₃ λcenv s₄ h₄=> ?_))))))
 dsimp only
 have low:∀y∈scope.names,y.2= .local->Env.kindOf { cenv with scope:=relabel scope env } y.1=some .local:=λy hy hl=>lookup_relabel_local (hnames y hy hl)
 have inn:∀{y:Str×K1},y∈(scope.names.filter λx=>(x.2 == .local||x.2 == .cell)&&x.1 != (".0" : Str)).reverse->y∈scope.names:=λhy=>(KA.mp (List.mem_reverse.mp hy)).1
 refine bX (aQ (kR (bX (u6 (iz h₄ λr s' hr=> ?_)))))
 cases r with
 | ok f=>
  cases use with
  | none=>
   obtain⟨m,hn,hr⟩:=hr
   exact ay (Jp (Nl (cenv:={ cenv with scope:=relabel scope env }) hkind _ s' m (λy hy=>low y (inn hy)) hn λh' m' _ hs'=>a0 (hr h' hs')))
  | some u=>
   refine ay (Ll (step (Jp hr) λ_ s'' hr'=> ?_))
   obtain⟨m,hn,hr'⟩:=hr'
   exact ay (Nl (cenv:={ cenv with scope:=relabel scope env }) hkind _ s'' m (λy hy=>low y (inn ((HV.mp hy).elim Ky La))) hn λh' m' _ hs'=>a0 (hr' h' hs'))
 | error x=>
  have hr':∃m,s'.heap.Ns cenv.locals m/\∀h',KJ cenv.locals s'.heap h'->∀cenv':Env,cenv'.locals=cenv.locals->wpAny M A (passOn "comprehension.variables-let-go" x cenv':Sem HL) (λ_ _=>False) E { s' with heap:=h' }:=by cases use <;> exact hr
  obtain⟨m,hn,hr⟩:=hr';exact ay (Jp (Nl (cenv:={ cenv with scope:=relabel scope env }) hkind _ s' m (λy hy=>low y (inn hy)) hn λh' m' _ hs'=> .of (IR (hr h' hs' _ rfl) (λ_ _ f=>f.elim) λ_ _ y=>y)))
end
theorem uH {pr:Ip}{wd:IV}{Ar:IE}{Rz:LH->HJ->Prop}{s0:HJ}{el tg it0:Expr}{cs:List Expr}{sc:K2}{ps:Pos}{itv av:HL}{ev:Env}(W:Nat->HJ->Prop)
  (go:∀k st,W k st->wpAny (model pr wd) Ar (pyNext itv) (λr s1=>match r with
   | none=>Rz (.ok .next) s1
   | some v=>wpAny (model pr wd) Ar (KF tg itv v) (λ_ s2=>wpAny (model pr wd) Ar (assign tg ev v) (λ_ s3=>
     wpAny (model pr wd) Ar (forIn cs true λc b=>if b=true then do let z <-isTrue c ev (eval c ev);pure (Ki z)else pure (Ki b)) (λz s4=>
      if z=true then wC (model pr wd) Ar (eval el ev) (λy s5=>
       wpAny (model pr wd) Ar (call (.builtin "list.append") [av,y]) (λ_ s6=> ∃m,m<k/\W m s6) (λ_ _=>False) s5) (λ_ _=>False) s4
      else ∃m,m<k/\W m s4) (λ_ _=>False) s3) (λ_ _=>False) s2) (λ_ _=>False) s1) (λ_ _=>False) st)
  (k:Nat) (hk:W k s0):cC (model pr wd) Ar (.compLoop (.ListComp el [⟨tg,it0,cs,0⟩] sc ps) 0 itv av ev) Rz s0:=by
 refine Av rfl W (λk st hw=> ?_) k hk
 show wC (model pr wd) Ar ((compTurn (.ListComp el [⟨tg,it0,cs,0⟩] sc ps) 0 itv av ev).onRaise (λz=>do K5 z ev;Mk z)) _ _ st
 refine o9 ?_
 rw[compTurn_list]
 have step:∀{α β:Type} {m:Sem α} {f:α->Sem β} {Z:α->HJ->Prop} {Y:β->HJ->Prop} {E':HL->HJ->Prop} {x:HJ},wpAny (model pr wd) Ar m Z (λ_ _=>False) x->(∀a s',Z a s'->wC (model pr wd) Ar (f a) Y E' s')->wC (model pr wd) Ar (m >>= f) Y E' x:=λh1 h2=>ay (IR h1 h2 λ_ _ z=>z.elim)
 refine dG (step (go k st hw) λr s1 g1=> ?_)
 cases r with
 | none=>exact a0 g1
 | some v=>
  refine step g1 λ_ s2 g2=>step g2 λ_ s3 g3=>step g3 λz s4 g4=> ?_
  cases z with
  | false=>exact a0 (Lv rfl g4)
  | true=>exact aQ (aQ (bL g4 (λy s5 g5=>step g5 λ_ s6 g6=>a0 (a0 (Lv rfl g6))) λ_ _ z=>z.elim))
theorem oR {prog:Ip}{w:IV}{A:IE}{R:LH->HJ->Prop}{s:HJ}{elt target iter:Expr}{ifs:List Expr}{aY:List OQ}{scope:K2}{pos:Pos}{it acc:HL}{env:Env}
  (h0:cC (model prog w) A (.compLoop (.ListComp elt (⟨target,iter,ifs,0⟩::aY) scope pos) 0 it acc env) R s)
  (h:wpAny (model prog w) A (pyIter it) (λit' s'=>cC (model prog w) A (.compLoop (.ListComp elt (⟨target,iter,ifs,0⟩::aY) scope pos) 0 it' acc env) R s') (notedBy (model prog w) A env λx s'=>R (.error x) s') s) :
  cC (model prog w) A (.compStart (.ListComp elt (⟨target,iter,ifs,0⟩::aY) scope pos) 0 it acc env) R s:=by
 refine cY ?_
 show wC _ _ ((compStart (.ListComp elt (⟨target,iter,ifs,0⟩::aY) scope pos) 0 it acc env).onRaise (λx=>do K5 x env;standAt theWindowsPlace)) _ _ s
 refine fX (bL (E:=notedBy (model prog w) A env λx s'=>R (.error x) s') ?_ (λ_ _ q=>q) λ_ _ hx=>ay (IR hx (λ_ _ e=> .of (L8 e)) λ_ _ e=>e))
 unfold compStart
 show wC _ _ (ask >>= _) _ _ s
 refine ay (wpAny_askSetting ?_)
 split
 ·first
   | exact ay (HX (a0 (Lv rfl h0)))
   | exact a0 (Lv rfl h0)
 ·refine ay (Ll ?_)
  show wC _ _ (standAt iter.pos >>= _) _ _ s
  exact dG (ay (IR h (λit' s' h'=>a0 (Lv rfl h')) λ_ _ x=>x))
section
variable {X:Cx}
theorem wZ {elt tg iter:Expr}{ifs:List Expr}{scope:K2}{pos fpos:Pos}{N':List Str}{src:List (Option Nat)}{wi:TI}{g:TG}{tc:TT}{te:TE}{use:Option (HL->Sem Unit)}{Qf:HL->HJ->Prop}
  {pins:List (Addr×Obj)} {s:HJ} {σ:St} {H:Hp} {Q:VK}
  (hc:X.calm=true) (S:LcScope X scope N' src) (hi:PI X tg iter wi)
  (block:∀cl C s₀ H₀ fp,PG (aZ X scope cl N' C s₀ H₀ fp) tg g/\qF (aZ X scope cl N' C s₀ H₀ fp) ifs tc/\DE (aZ X scope cl N' C s₀ H₀ fp) elt te)
  (hs:∀x,Im iter X.env x=pure x) (I:Inv X pins σ H s) (h:BC X.K wi src g tc te σ H Q)
  (hend:∀(D C:Addr) (H':Hp) (s':HJ),(∃m,s'.heap.Ns C m)->(∀h',KJ C s'.heap h'->Inv X pins σ H' { s' with heap:=h' })->(H' C=none/\C≠X.env.locals/\X.s₀.heap.objs.size<=C/\(∀x c,X.env.cells.lookup x=some c->c≠C)/\∀p∈X.pn++pins,p.1≠C)->Q (.ref D) H' →
   NQ (model X.prog X.w) X.A X.xe use Qf (.ref D) C (.ok .next) s') :
  wC (model X.prog X.w) X.A (L9 (.ListComp elt [⟨tg,iter,ifs,0⟩] scope pos) scope X.env fpos (newList []) false (eval iter X.env) use) Qf X.xe s:=by
 have hcell:∀x,(x,IU)∈scope.names->∃c,X.env.cells.lookup x=some c:=λx hx=>I.ok.has x (S.free x hx)
 obtain⟨cl0,hcl,cl01,cl02⟩:=lS (env:=X.env) (scope:=scope) hcell;refine vc (use:=use) rfl hs hcl S.kind S.loc (bF (hi pins s σ H _ I h) λv s1 h1=>bF h1 λitv s2 h2=> ?_)
 obtain⟨it,fp,tn,J,H2,e,I2,T,st2,f2,hq⟩:=h2;subst e
 -- the new list
 refine JM ?_
 have hD:H2 s2.heap.objs.size=none:=I2.hok.fresh (Ia _)
 have hDK:X.K.lookup s2.heap.objs.size=none:=by
  cases q:X.K.lookup s2.heap.objs.size with
  | none=>rfl
  | some o=>exact absurd (Ib (I2.kIn _ o q)) (Iz _)
 obtain⟨W,⟨m0,w0⟩,turn⟩:=hq s2.heap.objs.size hD hDK
 have I3:=I2.GW (its:=[]) (ys:=[]) (t':=s2.toks) .nil (IZ _)
 generalize hs3:({ s2 with heap:=s2.heap.push { cls:=.type "list",data:=.seq ([]:List HL).toArray },toks:=s2.toks }:HJ)=s3 at I3
 generalize hH3:cz H2 s2.heap.objs.size (.lst [])=H3 at I3 w0
 have hDsz:s2.heap.objs.size<s3.heap.objs.size:=by rw[<-hs3];simp[Jz]
 have fr3:∀b∈fp,H3 b=none:=λb hb=>by
  obtain⟨o,eo,_⟩:=T.obj _ _ st2 b hb;rw[<-hH3,aO (Jx (Ib eo))];exact(f2 b hb).1
 have st3:tn 0 s3.heap:=T.keep _ _ _ st2 λb hb o e=>by rw[<-hs3];exact HN _ e
 have f3:∀b∈fp,hG X pins H3 b:=λb hb=>⟨fr3 b hb,(f2 b hb).2⟩
 have D3:H3 s2.heap.objs.size=some (.lst []):=by rw[<-hH3];exact aU
 generalize s2.heap.objs.size=D at*
 clear hs3 hH3 hD hDK
 -- the block's frame
 refine m3 ?_
 have old:∀b o,s3.heap.get? b=some o->(LX (s3.heap.push { cls:=.type "dict",data:=.dict #[] }) scope.names).get? b=some o:=λb o e=>LB _ _ b o (HN _ e)
 have hns₁:(LX (s3.heap.push { cls:=.type "dict",data:=.dict #[] }) scope.names).Ns s3.heap.objs.size (λ_=>none):=(Heap.Ns.new s3.heap (.type "dict")).keeps (LB _ _)
 have hz3:(s3.heap.push { cls:=.type "dict",data:=.dict #[] }).objs.size=s3.heap.objs.size+1:=Jz ..
 have lt0:∀x c,cl0.lookup x=some c->c<s3.heap.objs.size:=λx c e=>let ⟨_,ic⟩:=I3.cell x c (cl01 x c e);ic.lt
 obtain⟨c1,c2,c3,c4,c5⟩:=iy scope.names (s3.heap.push { cls:=.type "dict",data:=.dict #[] }) cl0 (λx y c e1 e2=>I3.ok.inj x y c (cl01 x c e1) (cl01 y c e2)) λx c e=>by rw[hz3];exact MS (lt0 x c e)
 rw[hz3]at c1 c2 c3 c4 c5
 generalize hcl':J4 (s3.heap.objs.size+1) scope.names cl0=cl at*
 generalize hh₁:LX (s3.heap.push { cls:=.type "dict",data:=.dict #[] }) scope.names=h₁ at*
 have below:∀b o,s3.heap.get? b=some o->b≠s3.heap.objs.size:=λb o e=>Jx (Ib e)
 -- a cell of the block's: one from around,or a new one
 have cl1:∀x c,cl.lookup x=some c->X.env.cells.lookup x=some c\/(s3.heap.objs.size<c/\h₁.IsCell c none):=λx c e=>(c1 x c e).imp (cl01 x c) id
 generalize hC:s3.heap.objs.size=C at*
 have stk:∀b,b≠X.env.locals->b∉X.fs->b∉iX X.stack:=λb h1 h2 z=>(HZ.mp (I3.GK b z)).elim h1 h2
 have apart:∀b∈fp,∀x c,cl.lookup x=some c->c≠b:=λb hb x c e=>by
  rcases cl1 x c e with z | z
  ·exact(f3 b hb).2.2.2.2.1 x c z
  ·obtain⟨o,eo,_⟩:=T.obj _ _ st3 b hb
   have h1:=Ib eo;rw[hC]at h1;exact LP (Pk h1 z.1)
 have I4:Inv (aZ X scope cl N' C s3 H3 fp) pins (c9 src σ) H3 { s3 with heap:=h₁ }:=by
  refine⟨⟨I3.ok.mod,S.kind,I3.ok.glob,I3.ok.blt,KL hC,c2,λx hx=> ?_,λx c hx e=>Li (hC▸c5 x c (dw (beq_iff_eq.mp hx)) e),I3.ok.hd,I3.ok.frames,.inl rfl,
    λb hb=>⟨?_,λx c e=>apart b hb x c e⟩,I3.bs,IA I3.ok.bsz I3.sz,λb o e z=> ?_,λb hb=>stk b (f3 b hb).2.1 (f3 b hb).2.2.1,I3.stack,I3.Gy⟩,
   rfl,I3.bare,Un.kept old,⟨_,hns₁,λj x v e1 e2 e3=> ?_⟩,λx c e=> ?_,I3.hok.fresh (KL hC),λx c e=>(cl1 x c e).elim (I3.freeC x c) λz=>I3.hok.fresh (by rw[hC];exact Li z.1),λp hp=> ?_,I3.hok.kept old,?_⟩
  ·have key:∀k,(relabel scope X.env).names.lookup x=some k->(k= .cell\/k= .free)->∃c,cl.lookup x=some c:=λk e hk=>by
    obtain⟨k',e',z⟩:=fh e
    have hk':k'= .cell\/k'= .free:=z.elim (λz=>z▸hk) .inr
    rcases hk' with q | q
    ·exact c4 x (.inl (q▸dw e'))
    ·exact c4 x (.inr (cl02 x (q▸dw e')))
   rcases hx with hx | hx
   ·exact key _ hx (.inl rfl)
   ·exact key _ hx (.inr rfl)
  ·obtain⟨o,eo,_⟩:=T.obj _ _ st3 b hb
   show b≠C
   exact below b o eo
  ·have z':b∈fp:=z
   obtain⟨_,_,_,z1,_⟩:=f3 b z';rcases z1 with z1 | z1
   ·exact I3.ok.noex b o e z1
   ·exact absurd (Ig (Ib (I3.ok.bs b o e).1) z1) (Iz _)
  ·unfold c9 at e2
   rw[IQ]at e2
   cases q:src[j]? with
   | none=>rw[q]at e2;simp at e2
   | some o=>
    rw[q]at e2
    cases o with
    | none=>simp at e2
    | some i=>
     have e2':(σ[i]?).join=some v:=by simpa using e2
     have e2'':σ[i]? =some (some v):=by
      cases q2:σ[i]? with
      | none=>rw[q2]at e2';simp at e2'
      | some z=>rw[q2]at e2';simp at e2';rw[e2']
     obtain⟨hN,hfree⟩:=S.from_ j i x q e1
     have hm:=dw hfree
     have hk:=S.free x hm;obtain⟨m,hn,hl⟩:=I3.loc
     have hv:rO X.env.scope x:=by
      rcases hk with z | z
      ·exact .inr (.inl z)
      ·exact .inr (.inr z)
     obtain⟨u,r,l⟩:=hl i x v hN e2'' hv;refine⟨u,r,.inr ⟨?_,?_⟩⟩
     ·exact eK hfree
     ·rcases l with⟨z,_⟩ | ⟨_,c,ec,ic⟩
      ·rcases hk with z' | z' <;> rw[z']at z <;> cases z
      ·obtain⟨c',ec0⟩:=cl02 x hm
       have ec':cl.lookup x=some c':=(c3 x λz=>by have:=S.cel _ z rfl;rw[hfree]at this;cases this).trans ec0
       have:=cl01 x c' ec0;rw[ec]at this;cases this;obtain⟨o,ho,hd⟩:=ic;exact⟨c,ec',o,old _ _ ho,hd⟩
  ·rcases cl1 x c e with z | z
   ·obtain⟨v,o,ho,hd⟩:=I3.cell x c z
    exact⟨v,o,old _ _ ho,hd⟩
   ·exact⟨none,z.2⟩
  ·obtain⟨e,n,ne,nf,d⟩:=I3.pin p hp
   exact⟨old _ _ e,n,below _ _ e,stk _ ne nf,d⟩
  ·show(c9 src σ).length=N'.length
   unfold c9;rw[HP];exact S.len
 obtain⟨bG,bI,bE⟩:=block cl C s3 H3 fp
 have stat:∀{H':Hp},(∀b∈fp,H' b=none)->∀b∈fp,hG (aZ X scope cl N' C s3 H3 fp) pins H' b:=λhn b hb=>by
  obtain⟨o,eo,_⟩:=T.obj _ _ st3 b hb;exact⟨hn b hb,below b o eo,stk b (f3 b hb).2.1 (f3 b hb).2.2.1,.inl hb,apart b hb,(f3 b hb).2.2.2.2.2⟩
 have st4:tn 0 h₁:=T.keep _ _ _ st3 λb hb o e=>old b o e
 -- behind the block
 have after:∀(H':Hp) (s':HJ) (σ':St),Inv (aZ X scope cl N' C s3 H3 fp) pins σ' H' s'->Q (.ref D) H' →
   NQ (model X.prog X.w) X.A X.xe use Qf (.ref D) C (.ok .next) s':=λH' s' σ' I' q=>by
  obtain⟨m,hn,_⟩:=id I'.loc
  have fC:X.s₀.heap.objs.size<=C:=by rw[<-hC];exact I3.sz
  have ltC:∀b o,s3.heap.get? b=some o->b<C:=λb o e=>by rw[<-hC];exact Ib e
  refine hend D C H' s' ⟨m,hn⟩ (λh' hsb=> ?_) ⟨I'.free,?_,fC,λx c e z=> ?_,λp hp z=> ?_⟩ q
  rotate_left
  ·have:=I3.lt;rw[hC]at this;exact LP this
  ·obtain⟨v,ic⟩:=I3.cell x c e
   have:=ic.lt;rw[hC,z]at this;exact Iz _ this
  ·have:=ltC _ _ (I3.pin p hp).1;rw[z]at this;exact Iz _ this
  have u:Un (iX X.stack) fp H3 H' s3.heap s'.heap:=I'.base
  have lift:∀b o,s3.heap.get? b=some o->∀o',s'.heap.get? b=some o'->h'.get? b=some o':=λb o e o' e'=>hsb.extBut b o' (below b o e) e'
  have u':Un (iX X.stack) fp H3 H' s3.heap h':=
   ⟨λb o e n hb hx=>lift b o e o (u.keep b o e n hb hx),λb o e n hb hx=>by
     obtain⟨sl,z⟩:=u.slot b o e n hb hx;exact⟨sl,lift b o e _ z⟩,u.free,λb o e hx=>by
     obtain⟨o',z⟩:=u.there b o e hx;exact⟨o',lift b o e _ z⟩,u.tups,u.frzs,u.tbls⟩
  have hCn:H' C=none:=I'.free
  have hok':HOk X.prog X.w H' h':=λb ob e=>by
   refine(I'.hok b ob e).GD (λc w' hc' q'=>(hsb.2 c ?_).trans q') (λ_ q=>q) λ_ _ q=>q
   rintro rfl
   rcases hc' with rfl | hc'
   ·rw[hCn]at e;cases e
   ·rw[hCn]at hc';cases hc'
  have I5:Inv X pins σ H' { s' with heap:=h' }:=I3.GT (s':={ s' with heap:=h' }) (ch:=fp) I'.os u' hok' I'.bare λb hb=>⟨(f3 b hb).2.2.2.1,(f3 b hb).2.1,(f3 b hb).2.2.2.2.1,(f3 b hb).2.2.2.2.2⟩
  exact I5
 have loop:cC (model X.prog X.w) X.A (.compLoop (.ListComp elt [⟨tg,iter,ifs,0⟩] scope pos) 0 (.ref it) (.ref D) (compEnvC scope cl C X.env))
   (NQ (model X.prog X.w) X.A X.xe use Qf (.ref D) C) { s3 with heap:=h₁ }:=by
  refine uH (λn s'=> ∃i σ' ys H',Inv (aZ X scope cl N' C s3 H3 fp) pins σ' H' s'/\tn i s'.heap/\(∀b∈fp,H' b=none)/\W i n σ' ys H') ?_ m0 ⟨0,_,[],H3,I4,st4,fr3,w0⟩
  rintro n s5 ⟨i,σ5,ys,H5,I5,st5,fr5,w5⟩
  obtain⟨hDl,alt⟩:=turn i n σ5 ys H5 w5;rcases alt with⟨stop,qn⟩ | ⟨go,hlen,step⟩
  ·refine bF (T.done (aZ X scope cl N' C s3 H3 fp) rfl rfl rfl hc i pins s5 σ5 H5 _ I5 (stat fr5) st5 stop) λr s6 ⟨hr,I6⟩=> ?_
   subst hr;exact after H5 s6 σ5 I6 qn
  ·refine bF (T.item (aZ X scope cl N' C s3 H3 fp) rfl rfl rfl hc i pins s5 σ5 H5 _ I5 (stat fr5) st5 go) λr s6 ⟨u,hr,h6⟩=> ?_
   subst hr;refine bF h6 λ_ s7 hh_=> ?_
   obtain⟨x,H7,I7,r7,y7,st7,fr7⟩:=hh_
   have I7':=I7.pinned (stat fr7) (T.obj _ _ st7);refine bF (bG _ s7 σ5 H7 x u _ I7' r7 (step x H7 y7)) λ_ s8 hh_=> ?_
   obtain⟨σ8,H8,I8,q8⟩:=hh_;refine bF (bI _ s8 σ8 H8 _ I8 q8) λok s9 hh_=> ?_
   obtain⟨H9,I9,q9⟩:=hh_
   have again:∀{σx:St} {Hx:Hp} {sx:HJ} {ys':List V},Inv (aZ X scope cl N' C s3 H3 fp) (pins++gM fp s7.heap) σx Hx sx->(∃m',m'<n/\W (i+1) m' σx ys' Hx) →
     ∃m,m<n/\∃i σ' ys H',Inv (aZ X scope cl N' C s3 H3 fp) pins σ' H' sx/\tn i sx.heap/\(∀b∈fp,H' b=none)/\W i m σ' ys H':=λ{σx Hx sx ys'} Ix nx=>by
    obtain⟨m',hm,wx⟩:=nx;refine⟨m',hm,i+1,σx,ys',Hx,Ix.Gv,T.keep _ _ _ st7 λb hb o e=>(Ix.pin (b,o) (H0 _ (H0 _ (bY hb e)))).1,λb hb=> ?_,wx⟩
    obtain⟨o,e,d⟩:=T.obj _ _ st7 b hb;exact(Ix.pin (b,o) (H0 _ (H0 _ (bY hb e)))).2.1
   cases ok with
   | false=>
    rw[if_neg Io]at q9 ⊢
    exact again I9 q9
   | true=>
    rw[if_pos rfl]at q9 ⊢;refine fL (bE _ s9 σ8 H9 _ I9 q9) λv s10 hh_=> ?_
    obtain⟨y,H10,I10,r10,hD10,q10⟩:=hh_;refine bF (m7 _ s10 σ8 H10 (.ref D) [y] (.ref D) [v] (λ_ H'=>H'=cz H10 D (.lst (ys++ [y]))) I10 rfl (.cons r10 .nil) ⟨D,ys,y,rfl,rfl,hD10,hlen,rfl⟩) λ_ s11 hh_=> ?_
    obtain⟨_,H11,I11,_,e11⟩:=hh_;subst e11;exact again I11 q10
 exact oR loop (T.self _ 0 _ _ _ st4 loop)
theorem F0 {elt tg iter:Expr}{ifs:List Expr}{scope:K2}{pos:Pos}{N':List Str}{src:List (Option Nat)}{wi:TI}{g:TG}{tc:TT}{te:TE}
  (hc:X.calm=true) (S:LcScope X scope N' src) (hi:PI X tg iter wi)
  (block:∀cl C s₀ H₀ fp,PG (aZ X scope cl N' C s₀ H₀ fp) tg g/\qF (aZ X scope cl N' C s₀ H₀ fp) ifs tc/\DE (aZ X scope cl N' C s₀ H₀ fp) elt te)
  (hs:autoParam (∀x,Im iter X.env x=pure x) t_) :
  DE X (.ListComp elt [⟨tg,iter,ifs,0⟩] scope pos) (BC X.K wi src g tc te):=by
 intro pins s σ H Q I h;rw[eval_ListComp];exact wZ (use:=none) hc S hi block hs I h λD C H' s' ⟨m,hn⟩ inv _ q=>⟨m,hn,λh' hsb=>⟨.ref D,H',inv h' hsb,rfl,q⟩⟩
end
def DT (X:Cx)(e:Expr)(t:TT):Prop:=
 ∀(pins:List (Addr×Obj)) (s:HJ) (σ:St) (H:Hp) (Q:Bool->Hp->Prop),Inv X pins σ H s->t σ H Q->wC (model X.prog X.w) X.A (isTrue e X.env (eval e X.env)) (TP X pins σ Q) X.xe s
def DW (X:Cx)(e:Expr)(t:TT):Prop:=
 ∀(whole:Sem HL) (pins:List (Addr×Obj)) (s:HJ) (σ:St) (H:Hp) (Q:Bool->Hp->Prop),Inv X pins σ H s->t σ H Q->wC (model X.prog X.w) X.A (isTrue e X.env whole) (TP X pins σ Q) X.xe s
def DA (X:Cx)(es:List Expr)(t:TA):Prop:=
 ∀(pos:Pos) (pins:List (Addr×Obj)) (s:HJ) (σ:St) (H:Hp) (Q:List V->Hp->Prop),Inv X pins σ H s->t σ H Q->wC (model X.prog X.w) X.A (spliced (backTo pos (Ik es X.env))) (AP X pins σ Q) X.xe s
def DSs (X:Cx)(st:List Stmt)(t:TS):Prop:=
 ∀(pins:List (Addr×Obj)) (s:HJ) (σ:St) (H:Hp) (D:Ends),Inv X pins σ H s->t D σ H->wC (model X.prog X.w) X.A (execs st X.env) (SP X pins D) X.xe s
section
variable {X:Cx}{e:Expr}{es:List Expr}{st:Stmt}{sts:List Stmt}{te ue:TE}{tt ut:TT}{ta:TA}{ts us:TS}{pos:Pos}
theorem PE.d (h:PE X e te):DE X e te:=λpins s σ H Q I q=> .of (h pins s σ H Q I q)
theorem PT.d (h:PT X e tt):DT X e tt:=λpins s σ H Q I q=> .of (h pins s σ H Q I q)
theorem PA.d (h:PA X es ta):DA X es ta:=λp pins s σ H Q I q=> .of (h p pins s σ H Q I q)
theorem PS.d (h:PS X st ts):DS X st ts:=λpins s σ H D I q=> .of (h pins s σ H D I q)
theorem PSs.d (h:PSs X sts ts):DSs X sts ts:=λpins s σ H D I q=> .of (h pins s σ H D I q)
theorem DE.imp (h:DE X e te)(w:∀σ H Q,ue σ H Q->te σ H Q):DE X e ue:=λpins s σ H Q I q=>h pins s σ H Q I (w σ H Q q)
theorem DS.imp (h:DS X st ts)(w:∀D σ H,us D σ H->ts D σ H):DS X st us:=λpins s σ H D I q=>h pins s σ H D I (w D σ H q)
theorem DSs.imp (h:DSs X sts ts)(w:∀D σ H,us D σ H->ts D σ H):DSs X sts us:=λpins s σ H D I q=>h pins s σ H D I (w D σ H q)
theorem DSs.nox (h:DSs X.nox sts ts):DSs X sts ts:=λpins s σ H D I hw=>bL (h pins s σ H D (I.FM _) hw) (λ_ _ q=>q.Gx) λ_ _ z=>JY z
theorem xM (h1:DS X st ts)(h2:DSs X sts us):DSs X (st::sts) (D2 ts us):=by
 intro pins s σ H D I h;refine fA (fL (h1 pins s σ H { D with nx:=us D } I h) λf s1 q=> ?_)
 cases f with
 | next=>
  obtain⟨σ',H',I',q⟩:=q
  exact h2 pins s1 σ' H' D I' q
 | _=>exact q
theorem z9 (h1:DS X st ts):DSs X [st] ts:=by
 intro pins s σ H D I h;refine fA (fL (h1 pins s σ H D I h) λf s1 q=> ?_)
 cases f with
 | next=>exact .of (KD q)
 | _=>exact q
theorem Dg (he:DE X e te):DS X (.Return (some e) pos) (D5 te):=λpins s σ H D I h=>
 mM (fL (he pins s σ H _ I h) λv s1 ⟨x,H1,I1,r1,q1⟩=>⟨x,σ,H1,I1,r1,q1⟩)
theorem FR {a b:List Stmt}(hc:DT X e tt)(ha:DSs X a ts)(hb:DSs X b us):DS X (.If e a b pos) (Ea tt ts us):=by
 intro pins s σ H D I h;refine DQ (fL (hc pins s σ H _ I h) λd s1 hh_=> ?_)
 obtain⟨H1,I1,q1⟩:=hh_
 cases d with
 | true=>exact ha pins s1 σ H1 D I1 q1
 | false=>exact hb pins s1 σ H1 D I1 q1
theorem De (ha:DT X e tt):DW X (.BoolOp .Or [e] pos) tt:=by
 intro wh pins s σ H Q I h;refine u7 (fL (ha pins s σ H Q I h) λc s1 e=> ?_)
 cases c with
 | false=>exact .of (isTrue_or_nil e)
 | true=>exact e
theorem FP {b:Expr}{aY:List Expr}(ha:DT X e tt)(hb:DW X (.BoolOp .Or (b::aY) pos) ut):DW X (.BoolOp .Or (e::b::aY) pos) (tOr tt ut):=by
 intro wh pins s σ H Q I h;refine u7 (fL (ha pins s σ H _ I h) λc s1 hh_=> ?_)
 obtain⟨H1,I1,q1⟩:=hh_
 cases c with
 | true=>exact⟨H1,I1,q1⟩
 | false=>exact hb wh pins s1 σ H1 Q I1 q1
theorem Ak (ha:DE X e te)(hr:DA X es ta)(hs:Ik (e::es) X.env=(false,eval e X.env)::Ik es X.env):DA X (e::es) (jn te ta):=by
 intro pos pins s σ H Q I h;rw[hs]
 show wC _ _ (spliced ((false,eval e X.env)::backTo pos (Ik es X.env))) _ _ s
 refine kP (fL (ha pins s σ H _ I h) λu s1 hh_=> ?_)
 obtain⟨x,H1,I1,r1,q1⟩:=hh_;exact fL (hr pos pins s1 σ H1 _ I1 q1) λus s2 ⟨xs,H2,I2,r2,q2⟩=>⟨x::xs,H2,I2,.cons r1 r2,q2⟩
theorem Dq {x1:Nat}(h:DA X es ta):DE X (.Tuple es x1 pos) (DZ ta):=by
 intro pins s σ H Q I hq;refine vd (fL (h pos pins s σ H _ I hq) λus s1 ⟨xs,H1,I1,r,z,q⟩=>⟨by rw[<-r.length];exact z,?_⟩)
 have hf:H1 s1.heap.objs.size=none:=I1.hok.fresh (Ia _);refine⟨.ref s1.heap.objs.size,cz H1 s1.heap.objs.size (.tup xs),I1.laid (t':=s1.toks) (λb u e=>HN _ e) (Ia _) ?_,rfl,q _ hf⟩
 exact⟨z,us,r,⟨_,Ie _ rfl,rfl,_,rfl⟩⟩
end
structure l8 (P:Ip)(w:IV)(K:HI)(mg:Str->Option HL)(base:Heap)(CX:uO)(k:Nat)(f:Addr)(fd:Je)(ps:List Str)(sp:Sp):Prop where
 len:∀vs H Q E,sp vs H Q E->vs.length=ps.length
 run:∀(A:IE) (outer:List Env) (s:HJ) (H:Hp) (args:Args) (us:List HL) (vs:List V) (Q:VK) (E:XK),Room k A->mK P w K mg base A outer s H->Na s fd args (ps.zip us)->Vals vs us->sp vs H Q E →
  cC (model P w) A (.call (.ref f) args) (CR CX outer P w H s Q E) s
theorem C4 {CX:uO}{P:Ip}{w:IV}{K:HI}{mg:Str->Option HL}{base:Heap}{k:Nat}{f:Addr}{name qual:Str}{params:MY}{body:List Stmt}{scope:K2}{dV kV doc pm cdv ct oc:HL}{an od:Option Addr}
  {osl:Array (Option HL)} {N ps:List Str} {sp:Sp} (lk:K.lookup f=some ⟨oc,od,.func (KI name qual params body scope dV kV doc pm an cdv ct),osl⟩) (hcd:MB K cdv qual=true) (S:bN N ps scope)
  (len:∀vs H Q E,sp vs H Q E->vs.length=ps.length)
  (hbody:∀(A:IE) (outer:List Env) (s:HJ) (H:Hp) (vs:List V) (Q:VK) (E:XK),Room k (A.deeper (envOfC qual scope s.heap.objs.size f cdv))->sp vs H Q E →
   ∃t,DSs (eY CX P w K mg base N qual scope f cdv A outer s H E) body t/\t { nx:=λ_ H'=>Q .non H',rt:=Q } (start N vs) H) :
  l8 P w K mg base CX (k+1) f (KI name qual params body scope dV kV doc pm an cdv ct) ps sp:=by
 refine⟨len,λA outer s H args us vs Q E hr e0 hb r hsp=> ?_⟩
 have hl:=len _ _ _ _ hsp
 have KX:K.In s.heap:=e0.mod.kin.keeps λb o e=>(e0.bs b o e).1
 have lim:s.heap.NoLimit:=e0.mod.nolimit.keeps λb o e=>(e0.bs b o e).1
 have hkind:∀y∈ps.zip us,scope.names.lookup y.1=some .local\/(scope.names.lookup y.1=some .cell/\((J4 (s.heap.objs.size+1) scope.names []).lookup y.1).isSome=true):=λ⟨n,v⟩ hy=>by
  rcases S.par n (KB hy).1 with q | q
  ·exact .inl q
  ·exact .inr ⟨q,JV _ _ _ (.inl q)⟩
 refine Bh hr.depth (KX _ _ lk) rfl S.co S.gen rfl (K0 KX hcd) (hb _ _ _ _ ?_)
 refine JU S.kind hkind λenv he s1 x=> ?_
 subst he;refine⟨lim.keeps x.toInCall.keep,tG ?_⟩
 obtain⟨t,ht,hq⟩:=hbody A outer s H vs Q E (hr.deeper _) hsp
 have I:Inv (eY CX P w K mg base N qual scope f cdv A outer s H E) [] (start N vs) H s1:=fV S hr.hd e0 hl r x;refine bL (ht [] s1 (start N vs) H _ I hq) (λfl s' hs=> ?_) λe s' hs=>hs
 have fin:∀{σ':St} {H':Hp} {v:V} {u:HL},Inv (eY CX P w K mg base N qual scope f cdv A outer s H E) [] σ' H' s'->RelV v u->Q v H'->CE outer P w H s Q u s':=
  λ{σ' H' v u} J rv q=>⟨v,H',J.os,J.bare,J.base,J.hok,rv,q⟩
 cases fl with
 | ret u=>
  obtain⟨v,σ',H',J,rv,q⟩:=hs
  exact fin J rv q
 | next=>
  obtain⟨σ',H',J,q⟩:=hs
  exact fin (v:=V.non) (u:=IG) J rfl q
 | brk=>
  obtain⟨_,_,_,q⟩:=hs
  exact JY q
 | cont=>
  obtain⟨_,_,_,q⟩:=hs;exact JY q
section
variable {X:Cx}{CX:uO}{k:Nat}{f C:Addr}{fd:Je}{ps:List Str}{sp:Sp}{dvs:List V}{ds:List HL}{E:XK}{x m:Str}{p pos apos:Pos}{e o:Expr}{es:List Expr}{ta:TE}{t:TA}
theorem yH {pins:List (Addr×Obj)}{σ:St}{H:Hp}{s:HJ}{Q:VK}{us:List HL}{vs:List V}(F:l8 X.prog X.w X.K X.mg X.base CX k f fd ps sp)(hr:Room k X.A)(hb:Binds X.K fd ps ds)(hd:Vals dvs ds)(hx:oZ CX X E)
  (I:Inv X pins σ H s) (r:Vals vs us) (h:sp (vs++dvs) H Q E):wC (model X.prog X.w) X.A (call (.ref f) us) (EP X pins σ Q) X.xe s:=by
 have r2:Vals (vs++dvs) (us++ds):=r.append hd
 have hl:(us++ds).length=ps.length:=by rw[<-r2.length];exact F.len _ _ _ _ h
 refine jf (iz (F.run X.A X.stack s H ⟨us,[]⟩ (us++ds) (vs++dvs) Q E hr I.G1 (hb s us I.kIn hl) r2 h) λr s' hq=> ?_)
 cases r with
 | error e=>exact hx pins σ H s e s' I hq
 | ok fl=>
  cases fl with
  | ret u=>exact I.after hq
  | next=>exact JY hq
  | brk=>exact JY hq
  | cont=>exact JY hq
end
end L2
namespace Tr
open PySem PySem.Spec PyProof.Rows L2
def F7 (P:Ip)(w:IV)(K:HI)(mg:Str->Option HL)(base:Heap)(k:Nat)(f:Addr)(fd:Je)(ps:List Str)(n:Nat)(g:List T->Rs T):Prop:=
 ∀(A:IE) (outer:List Env) (s:HJ) (H:Hp) (args:Args) (us:List HL) (vs:List V) (O:Ow) (ts:List T) (c:Str) (R:LH->HJ->Prop),Room k A->mK P w K mg base A outer s H->Na s fd args (ps.zip us)->Vals vs us →
  Reps K O H ts vs->(∀a,O a->Mtb H a)->ts.length=n->g ts= .err c->(∀ev s',RzC P w mg outer H s c ev s'->R (.error ev) s')->cC (model P w) A (.call (.ref f) args) R s
structure ye (P:Ip)(w:IV)(K:HI)(mg:Str->Option HL)(base:Heap)(k:Nat)(f:Addr)(fd:Je)(ps:List Str)(n:Nat)(g:List T->Rs T):Prop where
 h:l8 P w K mg base CX0 k f fd ps (spP K n g)
 x:F7 P w K mg base k f fd ps n g
abbrev l9 (X:Cx)(s:List Stmt)(F:En->Rs Fl):Prop:=DSs X s (Gd X F)
section
variable {P:Ip}{w:IV}{K:HI}{mg:Str->Option HL}{base:Heap}
theorem C5 {x qual:Str}{st:Stmt}{f:Addr}{fd:Je}{N ps:List Str}{k n:Nat}{g:List T->Rs T}(Fn:L2.Fun K x qual st f fd)(S:bN N ps (ao st))(hn:ps.length=n)
  (hbody:∀(cdv:HL) (A:IE) (outer:List Env) (s:HJ) (H:Hp) (E:XK),Room k (A.deeper (envOfC qual (ao st) s.heap.objs.size f cdv)) →
   ∃F,l9 (eY CX0 P w K mg base N qual (ao st) f cdv A outer s H E).nox (br st) F/\∀ts,ts.length=n->∀t,g ts= .ok t->bh F (aG N.length ts)= .ok t):l8 P w K mg base CX0 (k+1) f fd ps (spP K n g):=by
 have hpl:ps.length<=N.length:=by have:=congrArg JZ S.pre;rw[JI]at this;omega
 obtain⟨oc,od,kV,doc,pm,an,cdv,ct,osl,rfl,lk,hcd⟩:=Fn.ex;refine C4 lk hcd S (λvs H Q E h=> ?_) λA outer s H vs Q E hr h=> ?_
 ·obtain⟨ts,O,r,_,hl,_⟩:=h
  rw[<-r.length,hl,hn]
 ·obtain⟨ts,O,r,trk,hl,h⟩:=h
  obtain⟨F,hF,hv⟩:=hbody cdv A outer s H E hr;refine⟨_,hF.nox,aG N.length ts,O,noM,ig r (by omega) trk,?_⟩
  have no:∀a,¬noM.u a:=λa ⟨_,z⟩=>z
  cases q:g ts with
  | bad=>rw[q]at h;exact h.elim
  | err c=>rw[q]at h;exact h.elim
  | ok t=>
   rw[q]at h
   have hb:=hv ts hl t q;unfold bh at hb
   cases q2:F (aG N.length ts)with
   | bad=>rw[q2]at hb;cases hb
   | err c=>rw[q2]at hb;cases hb
   | ok fl=>
    rw[q2,aC]at hb
    have sameOf:∀H',SameO noM.u H H'->Same H H':=λH' s b o e=>s b o e (no b)
    cases fl with
    | nx ρ'=>cases hb;exact λσ' H' M' s' E' o'=>h .non H' (sameOf H' s') Rep.G2
    | rt t'=>cases hb;exact λv H' s' r'=>h v H' (sameOf H' s') r'
    | bk ρ'=>cases hb
    | ct ρ'=>cases hb
theorem zT {x qual:Str}{st:Stmt}{f:Addr}{fd:Je}{N ps:List Str}{k n:Nat}{g:List T->Rs T}(Fn:L2.Fun K x qual st f fd)(S:bN N ps (ao st))(hn:ps.length=n)
  (hbody:∀(cdv:HL) (A:IE) (outer:List Env) (s:HJ) (H:Hp) (E:XK),Room k (A.deeper (envOfC qual (ao st) s.heap.objs.size f cdv)) →
   ∃F,(∀xe,l9 ((eY CX0 P w K mg base N qual (ao st) f cdv A outer s H E).FM xe) (br st) F)/\∀ts,ts.length=n->∀c,g ts= .err c->F (aG N.length ts)= .err c):F7 P w K mg base (k+1) f fd ps n g:=by
 intro A outer s H args us vs O ts c R hr e0 hb r rs trk hl hg hR
 have hpl:ps.length<=N.length:=by have:=congrArg JZ S.pre;rw[JI]at this;omega
 obtain⟨oc,od,kV,doc,pm,an,cdv,ct,osl,rfl,lk,hcd⟩:=Fn.ex
 have hlen:vs.length=ps.length:=by rw[<-rs.length,hl,hn]
 have KX:K.In s.heap:=e0.mod.kin.keeps λb o e=>(e0.bs b o e).1
 have lim:s.heap.NoLimit:=e0.mod.nolimit.keeps λb o e=>(e0.bs b o e).1
 have hkind:∀y∈ps.zip us,(ao st).names.lookup y.1=some .local\/((ao st).names.lookup y.1=some .cell/\((J4 (s.heap.objs.size+1) (ao st).names []).lookup y.1).isSome=true):=λ⟨n,v⟩ hy=>by
  rcases S.par n (KB hy).1 with q | q
  ·exact .inl q
  ·exact .inr ⟨q,JV _ _ _ (.inl q)⟩
 refine Bh hr.depth (KX _ _ lk) rfl S.co S.gen rfl (K0 KX hcd) (hb _ _ _ _ ?_)
 refine JU S.kind hkind λenv he s1 x=> ?_
 subst he;refine⟨lim.keeps x.toInCall.keep,tG ?_⟩
 obtain⟨F,hF,hv⟩:=hbody cdv A outer s H E0 (hr.deeper _)
 let xe:HL->HJ->Prop:=λev s'=>wpAny (model P w) (A.deeper (envOfC qual (ao st) s.heap.objs.size f cdv)) (leaving (envOfC qual (ao st) s.heap.objs.size f cdv) ev) (λ_ s''=>R (.error ev) s'') (λe' s''=>R (.error e') s'') s'
 have I:Inv ((eY CX0 P w K mg base N qual (ao st) f cdv A outer s H E0).FM xe) [] (start N vs) H s1:=(fV S hr.hd e0 hlen r x).FM _
 have no:∀a,¬noM.u a:=λa ⟨_,z⟩=>z
 refine bL (hF xe [] s1 (start N vs) H { nx:=λ_ _=>False,rt:=λ_ _=>False,bk:=λ_ _=>False,ct:=λ_ _=>False } I ⟨aG N.length ts,O,noM,ig rs (by omega) trk,?_⟩) (λfl s' z=> ?_) λe s' hs=>hs
 rotate_left
 ·cases fl with
  | next=>obtain⟨_,_,_,z⟩:=z;exact z.elim
  | cont=>obtain⟨_,_,_,z⟩:=z;exact z.elim
  | brk=>obtain⟨_,_,_,z⟩:=z;exact z.elim
  | ret v=>obtain⟨_,_,_,_,_,z⟩:=z;exact z.elim
 rw[hv ts hl c hg];intro pins ev s' w'
 show wpAny _ _ _ _ _ _
 obtain⟨e,T,C,σ',H',rfl,hm,I',sm,he,heo,fl,hT,_⟩:=w'
 have heo:=heo rfl
 have hT:∀t,T=some t->H' t=none/\s.heap.get? t=none:=λt z=>⟨(hT t z).1,(hT t z).2 rfl⟩
 refine wX (base:=base) (outer:=outer) (L:=s.heap.objs.size) I'.ok.frames I'.stack rfl fl λh' T' g=>hR _ _ ?_
 have hex:((eY CX0 P w K mg base N qual (ao st) f cdv A outer s H E0).FM xe).ex= []:=rfl
 have Tn:H' T'=none/\s.heap.get? T'=none:=by
  rcases g.new with z | z
  ·exact hT T' z
  ·exact⟨fS I' z,fE I' hex z⟩
 have out:∀b o,s.heap.get? b=some o->b≠s.heap.objs.size:=λb o q z=>by
  have:=Ib q;rw[z]at this;exact absurd this (Iz _)
 have mem:∀b,b∈iX ((envOfC qual (ao st) s.heap.objs.size f cdv)::outer)->b=s.heap.objs.size\/b∈iX outer:=λb z=>by
  have z':b∈s.heap.objs.size::iX outer:=z;exact HZ.mp z'
 have ne:∀b o,s.heap.get? b=some o->b≠e/\T≠some b:=λb o q=>⟨λz=>(by subst z;rw[show s.heap.get? b=none from heo]at q;cases q),λz=>(by rw[show s.heap.get? b=none from(hT b z).2]at q;cases q)⟩
 have keepH:∀b u,H' b≠none->s'.heap.get? b=some u->h'.get? b=some u:=λb u hb q=>by
  refine g.keep b u (λz=>hb (I'.Gy b z)) (λz=>hb (by rw[z];exact he)) (λz=>hb (hT b z).1) q
 refine⟨e,T',C,H',rfl,hm,I'.os,I'.bare,⟨λb o q n hb hx=> ?_,λb o q n hb hx=> ?_,λb o q n hx=>I'.base.free b o q n hx,λb o q hx=> ?_,I'.base.tups,I'.base.frzs,I'.base.tbls⟩,λa o q=> ?_,λb o q=>sm b o q (no b),he,heo,g.flt,Tn.1,Tn.2⟩
 ·exact g.keep b o (λz=>(mem b z).elim (out b o q) hb) (ne b o q).1 (ne b o q).2 (I'.base.keep b o q n hb hx)
 ·obtain⟨sl,q1⟩:=I'.base.slot b o q n hb hx
  obtain⟨sl',q2⟩:=g.slot b _ (HQ _ hb) q1;exact⟨sl',q2⟩
 ·obtain⟨o',q1⟩:=I'.base.there b o q hx
  by_cases z:b∈iX ((envOfC qual (ao st) s.heap.objs.size f cdv)::outer)
  ·obtain⟨sl,q2⟩:=g.slot b o' z q1
   exact⟨_,q2⟩
  ·exact⟨o',g.keep b o' z (ne b o q).1 (ne b o q).2 q1⟩
 ·refine(I'.hok a o q).GD (λb u hb z=>keepH b u ?_ z) (λ_ z=>z) λ_ _ z=>z
  rcases hb with rfl | hb
  ·rw[q];simp
  ·rw[hb];simp
theorem sV {x qual:Str}{st:Stmt}{f:Addr}{fd:Je}{N ps:List Str}{k n:Nat}{F:En->Rs Fl}(Fn:L2.Fun K x qual st f fd)(S:bN N ps (ao st))(hn:ps.length=n)
  (hbody:∀(cdv:HL) (A:IE) (outer:List Env) (s:HJ) (H:Hp) (E:XK),Room k (A.deeper (envOfC qual (ao st) s.heap.objs.size f cdv)) →
   ∀xe,l9 ((eY CX0 P w K mg base N qual (ao st) f cdv A outer s H E).FM xe) (br st) F):ye P w K mg base (k+1) f fd ps n (val n N.length F):=
 ⟨C5 Fn S hn λcdv A outer s H E hr=>⟨F,hbody cdv A outer s H E hr _,λts _ _ h=>vh h⟩,zT Fn S hn λcdv A outer s H E hr=>⟨F,hbody cdv A outer s H E hr,λts _ c h=>rX h⟩⟩
end
section
variable {X:Cx}{k n:Nat}{f:Addr}{fd:Je}{ps:List Str}{g:List T->Rs T}{pins:List (Addr×Obj)}{σ:L2.St}{H:Hp}{s:HJ}{us:List HL}{vs:List V}{ts:List T}{O:Ow}{Q:VK}
theorem BQ (F:ye X.prog X.w X.K X.mg X.base k f fd ps n g)(hr:Room k X.A)(hb:Binds X.K fd ps [])(hps:ps.length=n)(I:Inv X pins σ H s)(r:Vals vs us)(rs:Reps X.K O H ts vs)(mt:∀a,O a->Mtb H a)(hl:ts.length=n)
  (hq:Post X H (g ts) λt H'=> ∀v,Rep X.K O H' t v->Q v H'):wC (model X.prog X.w) X.A (call (.ref f) us) (EP X pins σ Q) X.xe s:=by
 cases q2:g ts with
 | bad=>rw[q2]at hq;exact hq.elim
 | ok t=>
  rw[q2]at hq;refine yH (E:=E0) (dvs:=[]) (ds:=[]) F.h hr hb .nil wz I r ⟨ts,O,by simpa using rs,mt,hl,?_⟩
  rw[q2]
  exact λv H' s2 rr=>hq H' s2 v rr
 | err c=>
  rw[q2]at hq
  have hlen:us.length=ps.length:=by rw[<-r.length,<-rs.length,hl,hps]
  have hb':=hb s us I.kIn (by rw[Jc];exact hlen)
  rw[Jc]at hb';refine jf (iz (F.x X.A X.stack s H ⟨us,[]⟩ us vs O ts c (λr s'=>match r with | .error ev=>X.xe ev s' | _=>False) hr I.G1 hb' r rs mt hl q2 λev s' w=> ?_) λr s' hq=> ?_)
  ·obtain⟨ea,T,C,H',rfl,hmc,ho,hbare,hun,hok,sm2,hea,heo,fl,hT,hTo⟩:=w
   have I2:Inv X pins σ H' s':=I.GT ho hun hok hbare (λb z=>absurd z (by simp))
   exact hq pins _ _ ⟨ea,some T,C,σ,H',rfl,hmc,I2,λb o q _=>sm2 b o q,hea,λhex=>fE I hex heo,fl,(λt zt=>by cases zt;exact⟨hT,λhex=>fE I hex hTo⟩),λpp hpp=>⟨λzz=>(by have:=(I.pin pp hpp).1;rw[zz,heo]at this;cases this),λzz=>(by cases zz;have:=(I.pin pp hpp).1;rw[hTo]at this;cases this)⟩⟩
  ·cases r with
   | error ev=>exact hq
   | ok fl=>exact hq.elim
end
end Tr
namespace L2
open PySem PySem.Spec PyProof.Rows
theorem Di {X:Cx}{pos:Pos}{tg e:Expr}{te:TE}{g:TG}(he:DE X e te)(hg:PG X tg g)(hs:Lz [tg] e pos.line X.env=pure false)(hw:LA [tg] e X.env=pure none)
  (h1:(JA [tg] X.env).map (·.2)= [assign tg X.env]):DS X (.Assign [tg] e pos) (vI te g):=by
 intro pins s σ H D I h;rw[exec_Assign_arm];refine dG ?_
 rw[hs];refine ay (HX ?_)
 rw[if_neg (by decide)]
 refine aQ (fL (he pins s σ H _ I h) λv s1 hh_=> ?_)
 obtain⟨x,H1,I1,r1,q1⟩:=hh_;rw[hw];refine ay (HX ?_)
 show wC _ _ (do assignAll v ((JA [tg] X.env).map (·.2));pure Flow.next) _ _ s1
 rw[h1];exact .of (HM (bF (hg pins s1 σ H1 x v _ I1 r1 q1) λ_ s2 q=>HX q))
end L2
namespace Tr
open PySem PySem.Spec PyProof.Rows L2
abbrev md (X:Cx)(e:Expr)(f:En->Rs T):Prop:=DE X e (tP X f)
abbrev DL (X:Cx)(e:List Expr)(f:En->Rs (List T)):Prop:=DA X e (tPA X f)
abbrev DK (X:Cx)(e:Expr)(f:En->Rs Bool):Prop:=DT X e (uR X f)
abbrev Gu (X:Cx)(e:Expr)(f:En->Rs Bool):Prop:=DW X e (uR X f)
abbrev AG (X:Cx)(s:Stmt)(F:En->Rs Fl):Prop:=DS X s (Gd X F)
section
variable {X:Cx}{a b c e:Expr}{es aY:List Expr}{fa fb fc:En->Rs T}{f g:En->Rs Bool}{fs:En->Rs (List T)}{pos p:Pos}{x:Str}
theorem FU {es:List Expr}{x1:Nat}{pos:Pos}{f:En->Rs (List T)}(h:DL X es f):md X (.Tuple es x1 pos) (bt f):=by
 intro pins s σ H Q I ⟨ρ,O,E,hq⟩;refine Dq h pins s σ H Q I ?_
 obtain⟨ρ1,O1,E1,h1⟩:=dH E hq;refine⟨ρ1,O1,E1,Post.mono h1 λts H1 s1 q vs r=> ?_⟩
 obtain⟨t',r',s',E',q'⟩:=q vs r;unfold fg at q'
 split at q'
 ·rename_i hz
  refine⟨by rw[<-r'.length];exact hz,λp hp=> ?_⟩
  exact q' _ (aV hp _) _ (dI hp (E'.fresh hp) r')
 ·exact q'.elim
theorem da_c {e:Expr}{es:List Expr}{f:En->Rs T}{g:En->Rs (List T)}(he:md X e f)(hr:DL X es g)(hs:autoParam (Ik (e::es) X.env=(false,eval e X.env)::Ik es X.env) u_):DL X (e::es) (ae f g):=by
 intro pos pins s σ H Q I h;obtain⟨ρ,O,E,h⟩:=h;refine Ak he hr hs pos pins s σ H Q I ?_
 obtain⟨ρ1,O1,E1,h1⟩:=aI E h;refine⟨ρ1,O1,E1,Post.mono h1 λt H' s q v r=> ?_⟩
 obtain⟨t',r',s',E',q'⟩:=q v r;refine⟨ρ,O,E',Post.mono q'.bind λts H2 s2 q2 vs rs=> ?_⟩
 exact q2 H2 (Same.refl H2) _ (Reps.Gw (r'.same s2) rs)
theorem Df {op:Oz}{g:T->T->Rs T}(ho:OpT X (Jl op) g)(ha:md X a fa)(hb:md X b fb)(hm:autoParam (JJ op b=false) u_):DK X (.Compare a [op] [b] pos) (tb (o2 g fa fb)):=by
 intro pins s σ H Q I ⟨ρ,O,E,hq⟩
 have hq':Post X H (o2 g fa fb ρ) λt H'=> ∀v,Rep X.K O H' t v->∃k,v= .bl k/\Q k H':=Post.mono hq.bind λt H' s' q v r=>by
  split at q
  ·exact⟨_,Rep.Gc.mp r,q H' (Same.refl H')⟩
  ·exact q.elim
 have h1:=aI E hq';refine yw (fL (ha pins s σ H _ I h1) λv s1 ⟨x,H1,I1,r1,t,rt,s',E',q1⟩=> ?_) hm
 have h2:=aI (f:=fb) E' q1;refine fL (hb pins s1 σ H1 _ I1 h2) λu s2 hh_=> ?_
 obtain⟨y,H2,I2,r2,t2,rt2,s'',E'',q2⟩:=hh_;refine fL (.of (ho pins s2 σ H2 O t t2 x y v u _ I2 (λp=>E''.fresh) (rt.same s'') rt2 r1 r2 q2)) λd s3 hh_=> ?_
 obtain⟨z,H3,I3,r3,k,e,q3⟩:=hh_;subst e;cases r3;exact .of (Jk ⟨H3,I3,q3⟩)
theorem z7 (ha:DK X a f):Gu X (.BoolOp .Or [a] pos) f:=De ha
theorem Dd (ha:DK X a f)(hb:Gu X (.BoolOp .Or (b::aY) pos) g):Gu X (.BoolOp .Or (a::b::aY) pos) (ku f g):=by
 intro wh pins s σ H Q I ⟨ρ,O,E,hq⟩;refine FP ha hb wh pins s σ H Q I ?_
 obtain⟨ρ1,O1,E1,h1⟩:=gH E hq;refine⟨ρ1,O1,E1,Post.mono h1 λk H1 s1 q=> ?_⟩
 obtain⟨s',E',q'⟩:=q
 cases k with
 | true=>rw[if_pos rfl];exact q' H1 (Same.refl H1)
 | false=>rw[if_neg Io];exact⟨ρ,O,E',by simpa using q'⟩
theorem Ad {st:Stmt}{aY:List Stmt}{F G:En->Rs Fl}(h1:AG X st F)(h2:l9 X aY G):l9 X (st::aY) (aJ F G):=DSs.imp (xM h1 h2) λD σ H hh_=>by
 obtain⟨ρ,B,M,E,h⟩:=hh_;refine⟨ρ,B,M,E,?_⟩
 unfold aJ at h
 cases q:F ρ with
 | bad=>rw[q]at h;exact h.elim
 | err c=>rw[q]at h;exact h
 | ok f=>
  rw[q,aC]at h
  cases f with
  | nx ρ'=>exact λσ' H' M' s' E' o'=>⟨ρ',B,M',E',h.later s' o'⟩
  | rt t=>exact h
  | bk ρ'=>exact h
  | ct ρ'=>exact h
theorem Aa (ha:md X a fa):AG X (.Return (some a) pos) (aM fa):=DS.imp (Dg ha) λD σ H hh_=>by
 obtain⟨ρ,B,M,E,h⟩:=hh_;refine⟨ρ,OO B M,E.o,?_⟩
 unfold aM at h
 cases q:fa ρ with
 | bad=>rw[q]at h;exact h.elim
 | err c=>rw[q]at h;exact PostF.xa h
 | ok t=>
  rw[q,aC]at h;exact λH' s v r=>h v H' (SameO.of s) (r.less λ_ z=> .inl z)
theorem Dh {f:En->Rs Bool}{A B:List Stmt}{F G:En->Rs Fl}(hc:DK X c f)(ha:l9 X A F)(hb:l9 X B G):AG X (.If c A B pos) (eE f F G):=DS.imp (FR hc ha hb) λD σ H hh_=>by
 obtain⟨ρ,B,M,E,h⟩:=hh_;refine⟨ρ,OO B M,E.o,?_⟩
 unfold eE at h
 cases q:f ρ with
 | bad=>rw[q]at h;exact h.elim
 | err c=>rw[q]at h;exact PostF.xa h
 | ok k=>
  rw[q,aC]at h;intro H' s
  have E':Ev X.K B M H' ρ σ:=E.same s
  cases k with
  | true=>refine L2.iteT ?_;exact⟨ρ,B,M,E',PostF.later (by simpa using h) (SameO.of s) λa z=> .inl z⟩
  | false=>refine L2.iteF ?_;exact⟨ρ,B,M,E',PostF.later (by simpa using h) (SameO.of s) λa z=> .inl z⟩
theorem d_lc {elt tg iter:Expr}{ifs:List Expr}{scope:K2}{N':List Str}{src:List (Option Nat)}{fi:En->Rs (List T)}{tgt:T->En->Rs En}{fc:En->Rs Bool}{fe:En->Rs T}
  (hc:X.calm=true) (S:LcScope X scope N' src) (hi:yc X tg iter fi)
  (block:∀cl C s₀ H₀ fp,uT (aZ X scope cl N' C s₀ H₀ fp) tg tgt/\qF (aZ X scope cl N' C s₀ H₀ fp) ifs (uR (aZ X scope cl N' C s₀ H₀ fp) fc)/\md (aZ X scope cl N' C s₀ H₀ fp) elt fe)
  (hs:autoParam (∀x,Im iter X.env x=pure x) t_) :
  md X (.ListComp elt [⟨tg,iter,ifs,0⟩] scope pos) (fF fi src tgt fc fe):=by
 have hPG:∀cl C s₀ H₀ fp,PG (aZ X scope cl N' C s₀ H₀ fp) tg (yg X tgt):=λcl C s₀ H₀ fp=>(block cl C s₀ H₀ fp).1
 have hPI:∀cl C s₀ H₀ fp,qF (aZ X scope cl N' C s₀ H₀ fp) ifs (tPT0 X.K fc):=λcl C s₀ H₀ fp pins s σ H Q I h=>(block cl C s₀ H₀ fp).2.1 pins s σ H Q I (tPT0.up (X:=aZ X scope cl N' C s₀ H₀ fp) h)
 have hPE:∀cl C s₀ H₀ fp,DE (aZ X scope cl N' C s₀ H₀ fp) elt (tP0 X.K fe):=λcl C s₀ H₀ fp pins s σ H Q I h=>(block cl C s₀ H₀ fp).2.2 pins s σ H Q I (tP0.up (X:=aZ X scope cl N' C s₀ H₀ fp) h)
 exact DE.imp (F0 (g:=yg X tgt) (tc:=tPT0 X.K fc) (te:=tP0 X.K fe) hc S hi (λcl C s₀ H₀ fp=>⟨hPG cl C s₀ H₀ fp,hPI cl C s₀ H₀ fp,hPE cl C s₀ H₀ fp⟩) hs) λσ H Q h=>oC h
theorem Ae {tg:Expr}{g:T->En->Rs En}(ha:md X a fa)(hg:uT X tg g)(hs:autoParam (Lz [tg] a pos.line X.env=pure false) u_)(hw:autoParam (LA [tg] a X.env=pure none) u_)
  (h1:autoParam ((JA [tg] X.env).map (·.2)= [assign tg X.env]) u_):AG X (.Assign [tg] a pos) (c6 fa g):=DS.imp (Di ha hg hs hw h1) λD σ H ⟨ρ,B,M,E,h⟩=>qQ E h
theorem Dt {n k:Nat}{f:Addr}{fd:Je}{ps:List Str}{g:List T->Rs T}(F:ye X.prog X.w X.K X.mg X.base k f fd ps n g)(hr:Room k X.A)(hm:X.mg x=some (.ref f))(hk:KR X.K (.ref f)=true)(hb:Binds X.K fd ps [])(hps:ps.length=n)
  (hl:∀ρ ts,fs ρ= .ok ts->ts.length=n) (ha:DL X (e::es) fs) (hg:Gl X x) (hdb:(x == ("__debug__" : Str))=false) (hn:a7 (e::es)=true):md X (.Call (.Name x p) (e::es) [] pos) (cl g fs):=by
 intro pins s σ H Q I ⟨ρ,O,E,hq⟩
 have hq':Post X H (fs ρ >>= g) λt H'=> ∀v,Rep X.K O H' t v->Q v H':=hq
 refine nL (gf I hg hm ?_ hdb)
 have hs:=ha pos pins s σ H (λvs H'=> ∃ts,fs ρ= .ok ts/\Same H H'/\Reps X.K O H' ts vs) I ⟨ρ,O,E,by
  cases q:fs ρ with
  | bad=>rw[q]at hq';exact hq'.elim
  | err c=>rw[q]at hq';exact hq'
  | ok ts=>exact λH' s v r=>⟨ts,rfl,s,r⟩⟩
 have he:Ik (e::es) X.env=(false,eval e X.env)::Ik es X.env:=bu (by unfold a7 at hn;exact(Ja.mp hn).1)
 have hpl:=eC (pos:=pos) (env:=X.env) hn;rw[he]at hs hpl ⊢;refine pe (P:=λh=>X.K.In h) hpl (PySem.W.keeps_K hk) (nK (fL hs λus s1 ⟨vs,H1,I1,r,ts,q,sm,rs⟩=>⟨I1.kIn,?_⟩))
 rw[q]at hq'
 have hq2:Post X H (g ts) λt H'=> ∀v,Rep X.K O H' t v->Q v H':=hq'
 exact BQ F hr hb hps I1 r rs (E.same sm).mtb (hl ρ ts q) (hq2.later sm)
end
structure UE (X:Cx)(e:Expr)(f:En->Rs T):Prop where
 h:md X e f
structure UA (X:Cx)(e:List Expr)(f:En->Rs (List T)):Prop where
 h:DL X e f
structure UT (X:Cx)(e:Expr)(f:En->Rs Bool):Prop where
 h:DK X e f
structure UW (X:Cx)(e:Expr)(f:En->Rs Bool):Prop where
 h:Gu X e f
structure US (X:Cx)(e:Stmt)(f:En->Rs Fl):Prop where
 h:AG X e f
structure x8 (X:Cx)(e:List Stmt)(f:En->Rs Fl):Prop where
 h:l9 X e f
section
variable {X:Cx}{a b e:Expr}{es aY:List Expr}{fa fb:En->Rs T}{f g:En->Rs Bool}{fs:En->Rs (List T)}{pos p:Pos}{st:Stmt}{sts A B:List Stmt}{F G:En->Rs Fl}
theorem ez (h:QE X e fa):UE X e fa:=⟨h.h.d⟩
theorem qJ (h:QA X es fs):UA X es fs:=⟨h.h.d⟩
theorem u_t (h:QT X e f):UT X e f:=⟨h.h.d⟩
theorem vm (h:QS X st F):US X st F:=⟨h.h.d⟩
theorem jk (h:ya X sts F):x8 X sts F:=⟨h.h.d⟩
theorem DR {x1:Nat}(h:UA X es fs):UE X (.Tuple es x1 pos) (bt fs):=⟨FU h.h⟩
theorem fq (he:UE X e fa)(hr:UA X es fs)(hn:autoParam (cR e=true) u_):UA X (e::es) (ae fa fs):=⟨da_c he.h hr.h (bu hn)⟩
theorem j9 {op:Oz}{g:T->T->Rs T}(ho:OpT X (Jl op) g)(ha:UE X a fa)(hb:UE X b fb)(hm:autoParam (JJ op b=false) u_):UT X (.Compare a [op] [b] pos) (tb (o2 g fa fb)):=⟨Df ho ha.h hb.h hm⟩
theorem DV (ha:UT X a f):UW X (.BoolOp .Or [a] pos) f:=⟨z7 ha.h⟩
theorem u_or (ha:UT X a f)(hb:UW X (.BoolOp .Or (b::aY) pos) g):UW X (.BoolOp .Or (a::b::aY) pos) (ku f g):=⟨Dd ha.h hb.h⟩
theorem u_w (h:UW X e f):UT X e f:=⟨h.h _⟩
theorem cg (h1:US X st F)(h2:x8 X sts G):x8 X (st::sts) (aJ F G):=⟨Ad h1.h h2.h⟩
theorem jl (h1:US X st F):x8 X [st] F:=⟨z9 h1.h⟩
theorem AN (ha:UE X a fa):US X (.Return (some a) pos) (aM fa):=⟨Aa ha.h⟩
theorem qI (hc:UT X e f)(ha:x8 X A F)(hb:x8 X B G):US X (.If e A B pos) (eE f F G):=⟨Dh hc.h ha.h hb.h⟩
theorem vp {tg:Expr}{g:T->En->Rs En}(ha:UE X a fa)(hg:QG X tg g)(hs:autoParam (Lz [tg] a pos.line X.env=pure false) u_)(hw:autoParam (LA [tg] a X.env=pure none) u_)
  (h1:autoParam ((JA [tg] X.env).map (·.2)= [assign tg X.env]) u_):US X (.Assign [tg] a pos) (c6 fa g):=⟨Ae ha.h hg.h hs hw h1⟩
theorem u_lc {elt tg iter:Expr}{ifs:List Expr}{scope:K2}{src:List (Option Nat)}{fi:En->Rs (List T)}{tgt:T->En->Rs En}{fc:En->Rs Bool}{fe:En->Rs T}(N' N:List Str)(st:Stmt)(hi:QI X tg iter fi)
  (block:N'.Nodup->∀(cl:List (Str×Addr)) (C:Addr) (s₀:HJ) (H₀:Hp) (fp:List Addr),QG (aZ X scope cl N' C s₀ H₀ fp) tg tgt/\DH (aZ X scope cl N' C s₀ H₀ fp) ifs fc/\UE (aZ X scope cl N' C s₀ H₀ fp) elt fe)
  (hc:autoParam (Cx.calm X=true) u_) (hN:autoParam (X.N=N) u_) (hm:autoParam (X.env.scope.names=(ao st).names) u_) (hk:autoParam (scope.kind= .function) u_) (h:autoParam (zE (ao st).names N scope.names N' src=true) z_) (nd:autoParam (N'.Nodup) z_) (hs:autoParam (∀(x:HL),Im iter (Cx.env X) x=pure x) t_) :
  UE X (L6 elt [{ target:=tg,iter:=iter,ifs:=ifs,is_async:=0 }] scope pos) (fF fi src tgt fc fe):=
 ⟨d_lc hc (LcScope.by hN hm hk h) hi.h (λcl C s₀ H₀ fp=>⟨(block nd cl C s₀ H₀ fp).1.h,(block nd cl C s₀ H₀ fp).2.1.h,(block nd cl C s₀ H₀ fp).2.2.h⟩) hs⟩
end
structure Bp (P:Ip)(w:IV)(K:HI)(mg:Str->Option HL)(base:Heap)(k:Nat)(x:Str)(n:Nat)(m:List T->Rs T):Prop where
 ex:∃f fd ps,mg x=some (.ref f)/\KR K (.ref f)=true/\Binds K fd ps []/\ps.length=n/\ye P w K mg base k f fd ps n m
section
variable {P:Ip}{w:IV}{K:HI}{mg:Str->Option HL}{base:Heap}{x:Str}{st:Stmt}{ps:List Str}{k n:Nat}{F:En->Rs Fl}
theorem oO (N:List Str)(H:gF K mg x st ps)
  (hbody:N.Nodup->∀(f:Addr) (cdv:HL) (A:IE) (outer:List Env) (s:HJ) (H:Hp) (E:XK),Room k (A.deeper (envOfC x (ao st) s.heap.objs.size f cdv)) →
   ∀xe,x8 ((eY CX0 P w K mg base N x (ao st) f cdv A outer s H E).FM xe) (br st) F) (S:autoParam (bN N ps (ao st)) a_) (hn:autoParam (ps.length=n) u_):Bp P w K mg base (k+1) x n (val n N.length F):=by
 obtain⟨f,fd,h⟩:=H;exact⟨f,fd,ps,h.mg,h.fn.kp,h.bd,hn,sV h.fn S hn λcdv A outer s H E hr xe=>(hbody S.nd f cdv A outer s H E hr xe).h⟩
end
theorem tS {X:Cx}{e:Expr}{es:List Expr}{fs:En->Rs (List T)}{pos p:Pos}{x:Str}{n k k':Nat}{g:List T->Rs T}(c:Bp X.prog X.w X.K X.mg X.base k x n g)(hr:Room k' X.A)(ha:UA X (e::es) fs)(hk:autoParam (k<=k') s_)
  (hl:∀(ρ:En) (ts:List T),fs ρ= .ok ts->ts.length=n:=by repeat first | exact Bk | refine Bj ?_) (hn:autoParam (a7 (e::es)=true) u_) (hg:autoParam (Gl X x) u_) (h2:autoParam ((x == Ij "__debug__")=false) s_):UE X (.Call (.Name x p) (e::es) [] pos) (cl g fs):=by
 obtain⟨f,fd,ps,h1,h3,h4,h5,h6⟩:=c.ex;exact⟨Dt h6 (hr.mono hk) h1 h3 h4 h5 hl ha.h hg h2 hn⟩
end Tr
namespace L2
open PySem PySem.Spec PyProof.Rows
theorem uo {P:Ip}{w:IV}{K:HI}{mg mb:Str->Option HL}{CX:uO}{k:Nat}{fa a:Addr}{fd:Je}{x:Str}{sp:Sp}{s₁:HJ}{vs:List HL}{ns:List Int}
  (KX:K.In s₁.heap) (hns:s₁.heap.Ns IM mg) (hb:s₁.heap.Ns Mc mb) (hbb:∀x:Str,x≠ "__name__"->mb x=IC x) (hlim:s₁.heap.NoLimit) (hg:s₁.gens= #[])
  (ha:s₁.heap.get? a=some { cls:=.type "list",data:=.seq vs.toArray }) (hi:MJ vs ns) (hl:ns.length<=sizeLine) (hr:Room k callerA)
  (F:∀base:Heap,K.In base->base.Ns IM mg->l8 P w K mg base CX k fa fd [x] sp) (hbind:∀(s:HJ) (u:HL),Na s fd ⟨[u],[]⟩ [(x,u)])
  (hsp:∀H:Hp,DB H->SqL K H a (ns.map V.int)->sp [.ref a] H (λv _=>v= .bl true) λ_ _ _=>False)
  (hCX:∀H e s',CX [] H s₁ (λ_ _ _=>False) e s'->False) :
  cC (model P w) callerA (.call (.ref fa) ⟨[.ref a],[]⟩) (λr s'=>r= .ok (.ret (.bool true))/\OldK s₁.heap s'.heap/\s'.os=s₁.os/\NK s'.gens) s₁:=by
 have rv:=mP hi
 have lenV:=hi.length
 -- from an abstract heap in which nothing but the script may be tracked
 have core:∀H:Hp,DB H->SqL K H a (ns.map V.int)->HOk P w H s₁.heap->(∀b,H b≠none->b=a)->(H a≠none->K.lookup a=none) →
   cC (model P w) callerA (.call (.ref fa) ⟨[.ref a],[]⟩) (λr s'=>r= .ok (.ret (.bool true))/\OldK s₁.heap s'.heap/\s'.os=s₁.os/\NK s'.gens) s₁:=by
  intro H hO hS hok hA hK
  have base_of:∀{b:Addr} {o:Obj},s₁.heap.get? b=some o->H b=none->(oH s₁.heap H).get? b=some o:=λe n=>xt e n
  have noA:∀{b:Addr} {o:Obj} {es:Array DictEntry} {ep:Nat},s₁.heap.get? b=some o->o.data= .dict es ep->H b=none:=λ{b o es ep} e d=>by
   cases q:H b with
   | none=>rfl
   | some u=>
    have e':b=a:=hA b (by rw[q];simp)
    subst e';rw[ha]at e;cases e
    have d':Data.seq vs.toArray _=Data.dict es ep:=d;cases d'
  have nsK:∀{b:Addr} {m:Str->Option HL},s₁.heap.Ns b m->(oH s₁.heap H).Ns b m:=λ{b m} ⟨o,es,ep,e,d,r⟩=>⟨o,es,ep,base_of e (noA e d),d,r⟩
  have hKb:K.In (oH s₁.heap H):=λb o e=>base_of (KX b o e) (by
   cases q:H b with
   | none=>rfl
   | some u=>
    have e':b=a:=hA b (by rw[q];simp)
    subst e';rw[hK (by rw[q];simp)]at e;cases e)
  have hM:Mod K mg (oH s₁.heap H):=⟨hKb,nsK hns,⟨mb,nsK hb,hbb⟩,let ⟨mc,h1,h2⟩:=hlim;⟨mc,nsK h1,h2⟩⟩
  have e0:mK P w K mg (oH s₁.heap H) callerA [] s₁ H:=⟨rfl,hM,λb o e=>zq e,KL (uA _ _),trivial,λb hb=>absurd (show b∈([]:List Addr)from hb) (by simp),hok,.of_eq hg⟩
  refine iz ((F _ hKb (nsK hns)).run callerA [] s₁ H ⟨[.ref a],[]⟩ [.ref a] [.ref a] _ _ hr e0 (hbind s₁ (.ref a)) (.cons rfl .nil) (hsp H hO hS)) λr s' h=> ?_
  cases r with
  | error e=>exact(hCX H e s' h).elim
  | ok fl=>
   cases fl with
   | next=>exact JY h
   | brk=>exact JY h
   | cont=>exact JY h
   | ret u=>
    obtain⟨v,H',os,bare,un,hok',r',q⟩:=h
    have q':v= .bl true:=q;subst q';obtain rfl:u=Jd true:=r';refine⟨rfl,OldK.of_keep λb o e=> ?_,os,bare⟩
    cases q:H b with
    | none=>exact un.keep b o e q (by intro z;exact absurd (show b∈([]:List Addr)from z) (by simp)) (by simp)
    | some u=>
     rcases hO b with z | ⟨ob,xs,z⟩
     ·rw[q]at z;cases z
     ·have z2:=un.frzs b ob _ z
      obtain⟨e1,_⟩:=hok b _ z;obtain⟨e2,_⟩:=hok' b _ z2;rw[e]at e1;cases e1;exact e2
 cases hk:K.lookup a with
 | some o=>
  -- the script is one of the module's own objects
  have e:=KX a o hk;rw[ha]at e;cases e
  refine core (λ_=>none) (λ_=> .inl rfl) (.inr ⟨_,vs.toArray,_,hk,rfl,rfl,rfl,by rw[Il,lenV];exact hl,by simpa using rv⟩) (λb u z=>by have z':(none:Option HO)=some u:=z;cases z') (λb z=>absurd rfl z) λz=>absurd rfl z
 | none=>
  refine core (λb=>if b=a then some (.frz { cls:=.type "list",data:=.seq vs.toArray } (.lst (ns.map V.int)))else none) (λb=> ?_) (.inl (.inr ⟨{ cls:=.type "list",data:=.seq vs.toArray },if_pos rfl⟩)) (λb u z=> ?_) (λb z=> ?_) λ_=>hk
  ·by_cases hb:b=a
   ·exact .inr ⟨_,_,if_pos hb⟩
   ·exact .inl (if_neg hb)
  ·by_cases hb:b=a
   ·have z':=(if_pos hb).symm.trans z
    cases z';subst hb;exact⟨ha,by rw[HP];exact hl,vs,_,rv,ha⟩
   ·have z':=(if_neg hb).symm.trans z
    cases z'
  ·by_cases hb:b=a
   ·exact hb
   ·exact absurd (if_neg hb) z
end L2
namespace Tr
open PySem PySem.Spec PyProof.Rows L2 PySem.W PySem.Calls
abbrev Bm (q:Ip)(loose:List Str)(XP:(Str->Option HL)->Heap->Prop)(YP:IV->Heap->Prop)(r:RowW)(d:DefRec):Prop:=
 ∀(w:IV) (s₀ s₁:HJ) (mg mb:Str->Option HL),Ground q loose r.records XP w s₀ mg mb s₁.heap->YP w s₁.heap->∀(fa:Addr) (o:Obj) (pm cd doc dV kV:HL),s₁.heap.get? fa=some o →
  o.data= .func { docDef d.name d.params d.body d.scope pm cd doc with defaults:=dV,kwdefaults:=kV }->s₁.heap.CodeRec cd d.name->Dflts mg s₁.heap d.params [] dV kV->mg d.name=some (.ref fa)->s₁.gens= #[] →
  ∀(args:List WData) (vals:List HL) (as:List Addr),r.claim.pre args=true->WData.layableAll args=true->ReadsAllW r.records (classAt s₀.heap) s₁.heap vals args as->WellAll w.params s₁.heap vals args->(∀a∈as,(a == LK)=false) →
   wC (model r.prog w) callerA (PySem.call (.ref fa) vals) (λv s'=>GoodWG r.claim (classAt s₀.heap) (Ou s₀.heap) args s₁ (.ok (.ret v)) s') (λe s'=>GoodWG r.claim (classAt s₀.heap) (Ou s₀.heap) args s₁ (.error e) s') s₁
theorem walk_C {l:OpenLaw}{n k:Nat}{q:Ip}{loose:List Str}{XP:(Str->Option HL)->Heap->Prop}{d:DefRec}{S:qE}{top:Nat->Stmt}{CX:uO}{sp:Frag->Sp}{x:Str}
  (hn:l.most=some n) (hn2:n<=sizeLine) (hdf:d.params.defaults= []) (hr:Room k callerA)
  (F:∀(w:IV) (K:Frag) (mg:Str->Option HL) (fa:Addr) (h:Heap),K.In h->wL S K=vj S top->h.Ns IM mg->mg d.name=some (.ref fa) →
   ∃fd:Je,(∀(s:HJ) (u:HL),Na s fd ⟨[u],[]⟩ [(x,u)])/\∀base:Heap,K.In base->base.Ns IM mg->l8 l.prog w K mg base CX k fa fd [x] (sp K))
  (hsp:∀(K:Frag) (H:Hp) (a:Addr) (ns:List Int),ns.length<=n->DB H->SqL K H a (ns.map V.int)->sp K [.ref a] H (λv _=>v= .bl true) λ_ _ _=>False)
  (hCX:∀(H:Hp) (s:HJ) (e:HL) (s':HJ),CX [] H s (λ_ _ _=>False) e s'->False) :
  Bm q loose XP (hookC S top).says l.row.toRowW d:=by
 intro w s₀ s₁ mg mb G Y fa o pm cd doc dV kV ho hd hcd hD hmg hg args vals as hpre hlay hrd hwl hlo;obtain rfl:dV= .none:=Dflts.none hD hdf;obtain rfl:kV= .none:=Dflts.noKw hD;obtain⟨a,vs,ns,rfl,rfl,hobj,hints,hlen⟩:=Att.script_of hn hpre hwl;obtain⟨K,KX,e⟩:=Y;obtain⟨fd,hb,hF⟩:=F w K mg fa _ KX e G.T.g hmg;refine jf (iz (uo KX G.T.g G.T.b G.T.builtins G.T.nolimit hg hobj hints (IA hlen hn2) hr hF hb (λH hO hS=>hsp K H a ns hlen hO hS) λH e s'=>hCX H s₁ e s') λr s' hq=> ?_)
 obtain⟨rfl,h2,h3,h4⟩:=hq;exact⟨.inl ⟨.bool true,.bool true,[],rfl,λ_=>rfl,.bool true,Att.post_true l _,λ_=>⟨List.Pairwise.nil,λ_ hm=>(nomatch hm)⟩⟩,h2,h3,h4⟩
theorem cal0:Cal ⟨.builtin "claim.caller" {},none,none,[],none⟩:=rfl
theorem vE {prog:Ip}{w:IV}{t:Sem Fin}{s:HJ}{R:LH->HJ->Prop}(hk:vD<=s.toks)(hreg:s.asleep)
  (h:wC (model prog w) callerA t (λfin s'=> ∃f,fin= .done f/\(R (.ok f) s'/\K6 s'.gens=false)) (λe s'=>R (.error e) s'/\K6 s'.gens=false) s) :
  ∃n r s' s'',runN (denote table) prog w n s ⟨t,.builtin "claim.caller" {},default,[]⟩= .halted (outcomeOf r) s' ∧
   schedN (denote table) prog w n (.single s ⟨t,.builtin "claim.caller" {},default,[]⟩)= .halted (outcomeOf r) s'/\s'.forget=s''.forget/\R r s'':=by
 have z:=h hk ⟨.builtin "claim.caller" {},none,none,[],none⟩ default caller_in cal0
 obtain⟨n,r,s₁,s₂,hs,hn,hfo,hR⟩:=wp_halts_full (M:=model prog w) (R:=R) hreg (Mi (model prog w) _ t (λfin p' s' q=>by
  obtain⟨f,rfl,q⟩:=q;exact(show Sem.finPost (model prog w) _ (λr s'=>R r s'/\K6 s'.gens=false) (.done f) p' s' from q)) (λ_ _ _ q=>q) default s z)
 exact⟨n,r,s₂,s₁,hn,hs,hfo,hR⟩
theorem holds_C {r:OpenRow}{q:Ip}{loose:List Str}{Xt:HJ->Bool}{XP:(Str->Option HL)->Heap->Prop}{α:Type}{Yf:HJ->α}{Ya:IV->α}{YP:IV->Heap->Prop}{d:DefRec}{N:Nat}
  (left:LeftO r.prog q loose Xt Yf Ya N) (hY:∀w s,Yf s=Ya w->YP w s.heap) (hYk:∀w h h',YP w h->(∀b o,h.get? b=some o->h'.get? b=some o)->YP w h')
  (hX:∀s,Xt s=true->XP (s.heap.nsMap IM) s.heap) (hXk:∀mg h h',XP mg h->(∀b o,h.get? b=some o->h'.get? b=some o)->XP mg h')
  (hdef:defOf q r.name=some (d,[])) (hp:r.prog.theDef r.name=some (d.params,d.body,d.scope)) (hk:kwWritten? d.params.kwonlyargs d.params.kw_defaults=some []) (hRf:∀s,Xt s=true->RecFacts r.records s.heap) (hwr:(!r.writes||r.records.isEmpty)=true)
  (k1:r.wellSaid=true) (ok:(chainsOk q&&opensWell r.prog&&(frees r.toRowW&&r.within.isEmpty))=true) (hb:r.prog.bare) (hw:r.toRowW.promised)
  (hT0:∀w s,Yf s=Ya w->vD<=s.toks) (call:Bm q loose XP YP r.toRowW d):r.Holds:=by
 obtain⟨ok1,k5⟩:=Ja.mp ok;obtain⟨hch,o1⟩:=Ja.mp ok1;obtain⟨k5,k6⟩:=Ja.mp k5;obtain⟨hsame,hu,ha,hap,hm⟩:=frees_parts k5;refine⟨k1,hw,⟨hb,o1,by show r.makers.map _= [];rw[hm];rfl⟩,hw.witness,λw=>⟨(left.behind hX hch w).1,λs' hs'=> ?_⟩⟩
 obtain⟨s₀,hf,hg0,s,hT,hz,hgens,hg,G00,y⟩:=(left.behind (XP:=λmg h=>XP mg h/\RecFacts r.records h) (λs hs=>⟨hX s hs,hRf s hs⟩) hch w).2 s' hs'
 have G0:Ground q loose [] XP w s (s.heap.nsMap IM) (s.heap.nsMap Mc) s.heap:={ G00 with X:=G00.X.1 }
 have RF:=G00.X.2;refine⟨s₀,hf,hg0,s,hT,λn hn=> ?_,RF.1,RF.2.1,?_⟩
 ·obtain rfl:n=r.name:=by split at hn <;> simp_all
  exact pinned_of_view hg G0 hdef hp hk
 have hgens:s.gens= #[]:=Array.eq_empty_of_size_eq_zero (beq_iff_eq.mp hgens)
 have G:Ground q loose r.records XP w s _ _ s.heap:=RF.ground G0;intro args hpre hlay ord hord;obtain⟨⟨vs,s₁⟩,hlaid⟩:=Lj.mp (layAllW_isSome (P:=w.params) (ord:=ord) G.has args r.args s (pre_splitW hpre).1)
 have keeps:=layAllW_keeps _ _ _ hlaid
 have htk:s.toks<=s₁.toks:=(layAllW_grows _ _ _ hlaid).toks
 have hal:=layAllW_rest _ _ _ hlaid;obtain⟨as,hrd,hin,hold⟩:=reads_layAllW hord _ _ _ hlaid hlay s₁.heap (λ_ _ e=>e)
 have L:Laid r.records w s s₁ args vs as:=⟨⟨ord,hord,hlaid⟩,hrd,hin,hold,keeps,hal.1.trans hgens,hal.2.2.1⟩
 have G₁:=G.keeps hXk keeps
 have hi:=ident_freeW hu ha hap
 have hwi:r.claim.within= []:=List.isEmpty_iff.mp k6;obtain⟨fa,o,pm,cd,doc,dV,kV,h1,h2,h3,h4,h5⟩:=G₁.fn hdef
 have body:=call w s s₁ _ _ G₁ (hYk _ _ _ (hY w s y) keeps) fa o pm cd doc dV kV h2 h3 h4 h5 (defOf_name hdef▸h1) L.gens args vs as hpre hlay L.reads L.well (L.low G.low)
 have fin:∀{res:LH} {t:HJ},GoodWG r.toRowW.claim (classAt s.heap) (Ou s.heap) args s₁ res t->(r.toRowW.claim.Ends s args vs s₁ res t/\t.os=s.os/\(r.writes=true->namesKept r.prog r.keeps s.heap t.heap/\∀x∈r.records,∀a,classAt s.heap x.1=some a->recordClass t.heap a x.1 (x.2.map (·.1))=true))/\K6 t.gens=false:=λg=>by
  have z:=g.laid (c:=r.toRowW.claim) hsame hwi hi L;exact⟨⟨z.1,z.2.1,λq=>⟨namesKept_of hT hg r.keeps keeps g.2.1.old,noTable hwr q⟩⟩,leftWithCleanup_false_of_bare z.2.2⟩
 have tree:wC (model r.prog w) callerA (do match <-nsGet mainNs r.name with | some f=>do ret (<-PySem.call f vs) | none=>unsupported "claim.caller:no-such-global")
   (λfin t=> ∃f,fin= .done f/\((r.toRowW.claim.Ends s args vs s₁ (.ok f) t/\t.os=s.os/\(r.writes=true->namesKept r.prog r.keeps s.heap t.heap/\∀x∈r.records,∀a,classAt s.heap x.1=some a->recordClass t.heap a x.1 (x.2.map (·.1))=true))/\K6 t.gens=false))
   (λe t=>(r.toRowW.claim.Ends s args vs s₁ (.error e) t/\t.os=s.os/\(r.writes=true->namesKept r.prog r.keeps s.heap t.heap/\∀x∈r.records,∀a,classAt s.heap x.1=some a->recordClass t.heap a x.1 (x.2.map (·.1))=true))/\K6 t.gens=false) s₁:=by
  refine ay (wpAny_nsGet G₁.T.g ?_)
  rw[h1];exact aQ (bL body (λv t g=>a0 ⟨_,rfl,fin g⟩) λe t g=>fin g)
 obtain⟨k,res,t,t',hrun,hsched,hfo,hcase,hos,hkp⟩:=vE (R:=λres t=>r.toRowW.claim.Ends s args vs s₁ res t/\t.os=s.os/\(r.writes=true->namesKept r.prog r.keeps s.heap t.heap/\∀x∈r.records,∀a,classAt s.heap x.1=some a->recordClass t.heap a x.1 (x.2.map (·.1))=true)) (IA (hT0 w s y) htk) (Shared.asleep_of_life hal.2.2.2 hz) tree
 obtain⟨eh,_,_,eo,_⟩:=Shared.forget_eq hfo
 have hcase:=hcase.congr eh;rw[<-eh]at hkp;rw[<-eo]at hos
 have hlife:t.heap.life=s.heap.life:=(runN_life _ _ _ hrun).trans hal.2.2.2;refine⟨vs,s₁,hlaid,k,_,t,hsched,?_,(λ_ i x hx=>by rw[hgens]at hx;simp at hx),hkp,by rw[hlife],Shared.rest_eq hos⟩
 rcases hcase with⟨v,rfl,d1,d2,d3,d4,d5⟩ | ⟨e,ob,cls,rfl,d1,d2,d3,d4,d5⟩
 ·exact .inl ⟨v,rfl,d1,d2,d3,λb o y _=>d4 b o y,d5⟩
 ·exact .inr ⟨e,ob,cls,rfl,d1,d2,d3,d4,λb o y _=>d5 b o y⟩
end Tr
namespace Tr
open PySem PySem.Spec PyProof.Rows L2 PySem.NumText
theorem zM (x:Ko)(u:Tok):(int_private% "intFromObject") (.str x u)=(int_private% "intFromText") (.str x u) (OR x) 10:=by
 have f6:typeOf (.str x u)=pure (.type "str"):=rfl
 have g1:Pv (.str x u) (Ju "__int__")=pure none:=by unfold Pv MZ;rw[f6,pure_bind,W.KIN.str_int];rfl
 have g2:MZ (.str x u) (Ju "__index__")=pure none:=by unfold MZ;rw[f6,pure_bind,W.KIN.str_idx]
 have g3:MZ (.str x u) (Ju "__trunc__")=pure none:=by unfold MZ;rw[f6,pure_bind,W.KIN.str_trunc]
 refine M5 (show _=(Pv (.str x u) (Ju "__int__") >>= _)from rfl) ?_
 rw[g1,pure_bind];refine M5 (show _=(MZ (.str x u) (Ju "__index__") >>= _)from rfl) ?_
 rw[g2,pure_bind];refine M5 (show _=(MZ (.str x u) (Ju "__trunc__") >>= _)from rfl) ?_
 rw[g3,pure_bind]
 rfl
theorem xp (x:Ko)(u:Tok):Builtin.«int.__new__» ⟨[.type "int",.str x u],[]⟩=(do let v <-(int_private% "intFromText") (.str x u) (OR x) 10;ret v):=by
 have f7:isType (.type "int")=pure true:=rfl;rw[<-zM x u];unfold Builtin.«int.__new__»;simp only[f7,F.conv_sub_int,F.madeHere_int,pure_bind,Bool.not_true,Jv,if_false]
 rfl
theorem rW {M:L7}{A:IE}{E:HL->HJ->Prop}{s:HJ}{own:List String}{e:HL}{Q:Unit->HJ->Prop}(h:Q () s):wC M A (markTheRefusal own e) Q E s:=λk Γ p hΓ z=>by
 have hc:NN own (((Γ.code,p)::Γ.below).map (·.1))=false:=by
  have tr:∀(A B C:Bool),A=true->((!A&&B)&&C)=false:=by intro A B C h;rw[h];rfl
  exact tr _ _ _ z
 unfold markTheRefusal;rw[Sem.wp_bind']
 show Nx M Γ (if NN own (((Γ.code,p)::Γ.below).map (·.1))=true then _ else _) _ _ p s
 rw[hc];exact h
section
variable {prog:Ip}{w:IV}{A:IE}{E:HL->HJ->Prop}{s:HJ}{x:Ko}{u:Tok}
theorem u9 {Q:HL->HJ->Prop}(hl:(P9 x).length<=640)(hn:PU x=none)(hr:(reprText x).length<=sizeLine)(hh:A.handled=none)
  (h:∀h' tk e,Heap.NewExc s.heap h' e "ValueError"->E (.ref e) { s with heap:=h',toks:=tk }):wC (model prog w) A ((int_private% "intFromText") (.str x u) (OR x) 10) Q E s:=by
 have hb:(int_private% "bytesOf?") (.str x u)=pure none:=rfl
 show wC _ _ (if (P9 x).length<=640 then _ else _) _ _ s
 rw[if_pos hl,pure_bind]
 dsimp only
 have hz:∀(y z:Ko),y.length<=100->(y++⟨z.cps.extract 0 200⟩:Ko).length<=sizeLine:=λy z hy=>by
  have h1:(⟨z.cps.extract 0 200⟩:Ko).length<=200:=by show(z.cps.extract 0 200).size<=200;simp;omega
  rw[PySem.Str.length_append,JL];omega
 have h100:(Ju (toString "invalid literal for int() with base " ++toString 10++toString ": ")).length<=100:=by decide+kernel
 rcases read0 x hl with⟨m,h1,_⟩ | ⟨_,h2⟩
 ·rw[hn]at h1;cases h1
 ·rcases h2 with h2 | ⟨i,h2,h3⟩
  ·have h2':(int_private% "readNumeral") 0 10 (List.takeWhile (λx=>x != 0) (OR x))=_:=h2
   rw[h2']
   dsimp only
   refine ay (Lf hb ?_)
   simp only[Option.isSome_none,MD,Jv,if_false];refine ay (Ll ?_)
   refine ay (Lf hb ?_)
   dsimp only
   refine ay (PM ?_ hr)
   refine ay (wpAny_mkStr ?_ (hz _ _ h100))
   refine ay (OS Oa (λh' e me=> ?_) (by rw[JL];exact(by decide:1<=16777216)))
   refine aQ (rW ?_)
   exact .of (Ob hh (h h' _ e me.newExc))
  ·have h2':(int_private% "readNumeral") 0 10 (List.takeWhile (λx=>x != 0) (OR x))=_:=h2
   rw[h2']
   dsimp only
   rw[if_neg h3];refine ay (Ll ?_)
   refine ay (Lf hb ?_)
   dsimp only
   refine ay (PM ?_ hr)
   refine ay (wpAny_mkStr ?_ (hz _ _ h100))
   refine ay (OS Oa (λh' e me=> ?_) (by rw[JL];exact(by decide:1<=16777216)))
   refine aQ (rW ?_)
   exact .of (Ob hh (h h' _ e me.newExc))
end
theorem tT (x:Ko)(u:Tok):∃K:HL->Sem Fin,Builtin.«type.__call__» ⟨[.type "int",.str x u],[]⟩=(holding [.builtin "int.__new__"] (call (.builtin "int.__new__") [.type "int",.str x u] []) >>= K):=by
 obtain⟨c,tl,hm⟩:=Mw.mro
 have h1:=Mw.notType
 have h2:=Mw.canCreate;unfold Builtin.«type.__call__»
 dsimp only
 simp only[h1,h2,F.typeCall_int_1,hm,Mw.made,pure_bind,Jv,if_false,O9];exact⟨_,rfl⟩
section
variable {prog:Ip}{w:IV}{A:IE}{E:HL->HJ->Prop}{s:HJ}{x:Ko}{u:Tok}
theorem lU {id:String}{args:Args}{b:Builtin}{R:LH->HJ->Prop}(hb:PQ table id=some b)
  (h:wC (model prog w) (A.under (.builtin id args)) (b args) (λfin s'=>match fin with | .done f=>R (.ok f) s' | .again c'=>c'.quiet=true/\cC (model prog w) A c' R s') (λe s'=>R (.error e) s') s) :
  cC (model prog w) A (.builtin id args) R s:=by
 refine cY ?_
 show wC _ _ (match PQ table id with | some b=>b args | none=>unsupported ((withoutEnding? id "#data").getD id)) _ _ s
 rw[hb];exact h
theorem xV {id:String}{args:Args}{b:Builtin}{R:LH->HJ->Prop}(hq:plainId id=true)(hb:PQ table id=some b)(hc:L1 id args=pure ())
  (h:wC (model prog w) (A.under (.builtin id args)) (b args) (λfin s'=>match fin with | .done f=>R (.ok f) s' | .again c'=>c'.quiet=true/\cC (model prog w) A c' R s') (λe s'=>R (.error e) s') s) :
  cC (model prog w) A (.call (.builtin id) args) R s:=by
 refine cY ?_
 show wC _ A.in1 (do L1 id args;again (.builtin id args)) _ _ s
 exact ay (Lf hc (a0 (Lv (OP hq args) (lU hb h))))
theorem tR {Q:HL->HJ->Prop}(hl:(P9 x).length<=640)(hn:PU x=none)(hr:(reprText x).length<=sizeLine)(hh:A.handled=none)
  (h:∀h' tk e,Heap.NewExc s.heap h' e "ValueError"->E (.ref e) { s with heap:=h',toks:=tk }):wC (model prog w) A (call (.type "int") [.str x u]) Q E s:=by
 refine jf (cY ?_)
 show wC _ _ (callAny (.type "int") _) _ _ _
 refine a0 (Lv (Oo _ (by decide+kernel)) (lU F.entry_type_call ?_))
 obtain⟨K,hK⟩:=tT x u;rw[hK];refine aQ (bX (jf (xV Mw.plain F.entry_int_new (F.newCall_int_1 _) ?_)))
 rw[xp];exact aQ (u9 hl hn hr (by exact hh) λh' tk e me=>h h' tk e me)
end
def DC (h:Heap)(C:HL)(e:Addr):Option Addr->Prop
 | none=> ∃oe vs,h.get? e=some oe/\oe.cls=C/\oe.data= .fields vs/\vs[1]? =some .none
 | some T=>T≠e/\∃oe vs,h.get? e=some oe/\oe.cls=C/\oe.data= .fields vs/\vs[1]? =some (.ref T)/\∃oT ts,h.get? T=some oT/\oT.data= .fields ts/\ts[3]? =some .none
structure tN (fs:List Addr)(C:HL)(e:Addr)(T:Option Addr)(h h':Heap)(T':Addr):Prop where
 flt:DC h' C e (some T')
 new:T=some T'\/h.get? T'=none
 keep:∀b o,b∉fs->b≠e->T≠some b->h.get? b=some o->h'.get? b=some o
 slot:∀b o,b∈fs->h.get? b=some o->∃sl,h'.get? b=some { o with slots:=sl }
section
variable {M:L7}{A:IE}{E:HL->HJ->Prop}{s:HJ}
theorem CD {base:Heap}{env:Env}{outer:List Env}{L e:Addr}{C:HL}{T:Option Addr}{Q:Unit->HJ->Prop}(hfr:A.frames=some (env::outer))(hl:s.heap.FunFrames base (env::outer))(hf:env.frame=some L)
  (F:DC s.heap C e T) (h:∀h' T',tN ((env::outer).filterMap (·.frame)) C e T s.heap h' T'->Q () { s with heap:=h' }) :
  wpAny M A (K5 (.ref e) env) (λ_ s'=>wpAny M A (setFlight (.ref e) none) Q E s') E s:=by
 generalize hB:Md s.heap (e::(T.toList++(env::outer).filterMap (·.frame)))=B
 have bm:∀b,b∈e::(T.toList++(env::outer).filterMap (·.frame))->B.get? b=none:=λb m=>by rw[<-hB];exact K9 _ m
 have hl':s.heap.FunFrames B (env::outer):=ee hl λa ha=>bm a (HQ _ (H0 _ ha))
 have hst:B.StaysIn s.heap:=λb o q=>by rw[<-hB]at q;exact Ln _ q
 have hen:B.get? e=none:=bm e HU
 have main:∀h',Heap.Left B (env::outer) e C s.heap h'->Q () { s with heap:=h' }:=λh' ⟨x1,x2,⟨oe,vs,T',oT,ts,he,hc,hd,h1,hnT,hTe,hT,hdT,h3⟩,x4⟩=>by
  refine h h' T' ⟨⟨hTe,oe,vs,he,hc,hd,h1,oT,ts,hT,hdT,h3⟩,?_,λb o n1 n2 n3 q=> ?_,λb o m q=> ?_⟩
  ·cases q:s.heap.get? T' with
   | none=>exact .inr rfl
   | some o=>
    left
    by_cases z:T'∈e::(T.toList++(env::outer).filterMap (·.frame))
    ·rcases HZ.mp z with z | z
     ·exact absurd z hTe
     ·rcases HV.mp z with z | z
      ·cases T with
       | none=>simp at z
       | some t=>simp at z;rw[z]
      ·obtain⟨_,o',ho',hnf⟩:=x2.mem z
       rw[hT]at ho';cases ho';exact absurd hdT (hnf ts)
    ·rw[<-hB,JX _ q z]at hnT;cases hnT
  ·refine x1 b o ?_
   rw[<-hB];refine JX _ q λz=> ?_
   rcases HZ.mp z with z | z
   ·exact n2 z
   ·rcases HV.mp z with z | z
    ·cases T with
     | none=>simp at z
     | some t=>simp at z;exact n3 (by rw[z])
    ·exact n1 z
  ·obtain⟨_,o',ho',hnf⟩:=hl.mem m
   rw[q]at ho';cases ho';exact x4 b o q hnf
 cases T with
 | none=>
  obtain⟨oe,vs,he,hc,hd,h1⟩:=F;unfold K5;simp only[hf];refine HM (IW he hd h1 ?_)
  rw[if_neg (by decide)]
  refine MO hfr hl' hf he hst hen hd (II.mp h1).1 λh' x=>main h' ?_
  rw[hc]at x;exact x
 | some t=>
  obtain⟨hte,oe,vs,he,hc,hd,h1,oT,ts,hT,hdT,h3⟩:=F
  have hnT:B.get? t=none:=bm t (HQ _ (Iw _ (by simp)))
  unfold K5;simp only[hf];refine HM (IW he hd h1 ?_)
  rw[if_pos (show(IB t != IG)=true from by simp)]
  refine HM (IW hT hdT h3 ?_)
  rw[if_neg (show ¬((IG == rawInt L)=true)from by simp[rawInt])]
  refine HM (MM hT hdT (II.mp h3).1 ?_)
  have other:∀b,b≠t->(s.heap.update t (K8 (·.setIfInBounds 3 IG))).get? b=s.heap.get? b:=λb hb=>Kk _ _ (Kv hb)
  have noRec:∀b o,s.heap.get? b=some o->(∀vs,o.data≠ .fields vs)->b≠t:=λb o hb hnf q=>by
   rw[q,hT]at hb;injection hb with hb;subst hb;exact hnf ts hdT
  refine MO hfr (hl'.of_keeps λb o hb hnf=>⟨o,(other b (noRec b o hb hnf)).trans hb,rfl⟩) hf ((other e (Kv hte)).trans he)
   (λb o hbo=>(other b λq=>by rw[q,hnT]at hbo;cases hbo).trans (hst b o hbo)) hen hd (II.mp h1).1
   λh' x=>main h' ?_
  obtain⟨x1,x2,x3,x4⟩:=x;rw[hc]at x3;exact⟨x1,x2,x3,λb o hb hnf=>x4 b o ((other b (noRec b o hb hnf)).trans hb) hnf⟩
end
section
variable {X:Cx}{pins:List (Addr×Obj)}{σ:L2.St}{H:Hp}{s:HJ}{h':Heap}
theorem Inv.G6 {C:HL}{e T':Addr}{T:Option Addr}(I:Inv X pins σ H s)(hst:X.stack=X.env::X.outer)(hfe:X.env.frame=some X.env.locals)(hcl:∀x c,X.env.cells.lookup x≠some c)(hex:X.ex= [])
  (g:tN ((X.env::X.outer).filterMap (·.frame)) C e T s.heap h' T') (he:H e=none) (heo:X.s₀.heap.get? e=none) (hT:∀t,T=some t->H t=none/\X.s₀.heap.get? t=none) (hp:∀p∈X.pn++pins,p.1≠e/\T≠some p.1) :
  Inv X pins σ H { s with heap:=h' }:=by
 have mem:∀b,b∈(X.env::X.outer).filterMap (·.frame)↔b=X.env.locals\/b∈X.fs:=λb=>by
  rw[Jo,hfe];exact HZ
 have out:∀b o,X.s₀.heap.get? b=some o->b≠X.env.locals:=λb o q z=>by
  have h1:=Ib q
  have h2:=I.ok.above;rw[z]at h1;exact absurd (Ig h1 h2) (Iz _)
 have ne:∀b o,X.s₀.heap.get? b=some o->b≠e/\T≠some b:=λb o q=>⟨λz=>(by subst z;rw[heo]at q;cases q),λz=>(by rw[(hT b z).2]at q;cases q)⟩
 have fr:∀b,b∈(X.env::X.outer).filterMap (·.frame)->H b=none:=λb z=>I.Gy b (by rw[hst];exact z)
 have keepH:∀b u,H b≠none->s.heap.get? b=some u->h'.get? b=some u:=λb u hb q=>by
  refine g.keep b u (λz=>hb (fr b z)) (λz=>hb (by rw[z];exact he)) (λz=>hb (hT b z).1) q
 refine⟨I.ok,I.os,I.bare,⟨λb o q n hb hx=> ?_,λb o q n hb hx=> ?_,I.base.free,λb o q hx=> ?_,I.base.tups,I.base.frzs,I.base.tbls⟩,?_,λx c z=>absurd z (hcl x c),I.free,I.freeC,λp hp'=> ?_,λa o q=> ?_,I.len⟩
 ·exact g.keep b o (λz=>((mem b).mp z).elim (out b o q) hb) (ne b o q).1 (ne b o q).2 (I.base.keep b o q n hb hx)
 ·obtain⟨sl,q1⟩:=I.base.slot b o q n hb hx
  obtain⟨sl',q2⟩:=g.slot b _ ((mem b).mpr (.inr hb)) q1;exact⟨sl',q2⟩
 ·obtain⟨o',q1⟩:=I.base.there b o q hx
  by_cases z:b∈(X.env::X.outer).filterMap (·.frame)
  ·obtain⟨sl,q2⟩:=g.slot b o' z q1
   exact⟨_,q2⟩
  ·exact⟨o',g.keep b o' z (ne b o q).1 (ne b o q).2 q1⟩
 ·obtain⟨m,⟨o,es,ep,ho,hd,r⟩,hl⟩:=I.loc
  obtain⟨sl,q2⟩:=g.slot X.env.locals o ((mem _).mpr (.inl rfl)) ho;refine⟨m,⟨_,es,ep,q2,hd,r⟩,λi x v a1 a2 a3=> ?_⟩
  obtain⟨u,ru,lk⟩:=hl i x v a1 a2 a3;refine⟨u,ru,?_⟩
  rcases lk with z | ⟨_,c,z,_⟩
  ·exact .inl z
  ·exact absurd z (hcl x c)
 ·obtain⟨b1,b2,b3,b4,b5⟩:=I.pin p hp'
  exact⟨g.keep p.1 p.2 (λz=>((mem _).mp z).elim b3 b4) (hp p hp').1 (hp p hp').2 b1,b2,b3,b4,b5⟩
 ·refine(I.hok a o q).GD (λb u hb z=>keepH b u ?_ z) (λ_ z=>z) λ_ _ z=>z
  rcases hb with rfl | hb
  ·rw[q];simp
  ·rw[hb];simp
end
theorem zU {X:Cx}{pins:List (Addr×Obj)}{σ1:L2.St}{H1:Hp}{s1:HJ}{C:HL}{e T':Addr}{T:Option Addr}{h':Heap}(hst:X.stack=X.env::X.outer)(hfe:X.env.frame=some X.env.locals)(hcl:∀x c,X.env.cells.lookup x≠some c)(hex:X.ex= [])(I1:Inv X pins σ1 H1 s1)(g:tN ((X.env::X.outer).filterMap (·.frame)) C e T s1.heap h' T')
  (he:H1 e=none) (heo:X.s₀.heap.get? e=none) (hT:∀t,T=some t->H1 t=none/\X.s₀.heap.get? t=none) (hpp:∀p∈X.pn++pins,p.1≠e/\T≠some p.1)
  {Pp:Prop} (kk:∀oe ev oT ts,h'.get? e=some oe->oe.cls=C->oe.data= .fields ev->ev[1]? =some (.ref T')->h'.get? T'=some oT->oT.data= .fields ts->3<ts.size->Inv (oK X e oe) pins σ1 H1 { s1 with heap:=h' }->e∉iX X.stack->Inv (oK X e oe) pins σ1 H1 { s1 with heap:=h'.update T' (K8 (·.setIfInBounds 3 IG)) }->Pp):Pp:=by
 have I2:=Inv.G6 I1 hst hfe hcl hex g he heo hT hpp
 have Tn:H1 T'=none/\X.s₀.heap.get? T'=none/\∀p∈X.pn++pins,p.1≠T':=by
  rcases g.new with z | z
  ·exact⟨(hT T' z).1,(hT T' z).2,λp hp y=>(hpp p hp).2 (by rw[z,y])⟩
  ·exact⟨fS I1 z,fE I1 hex z,λp hp y=>by have:=(I1.pin p hp).1;rw[y,z]at this;cases this⟩
 obtain⟨hTe,oe,ev,hoe,hoc,hod,h1,oT,ts,hoT,hdT,h3⟩:=g.flt
 have nfr:∀b o vs,h'.get? b=some o->o.data= .fields vs->b∉(X.env::X.outer).filterMap (·.frame):=λb o vs hb hd z=>by
  have:=I2.stack;rw[hst]at this;obtain⟨_,o',ho',hnf⟩:=this.mem z;rw[show h'.get? b=some o' from ho']at hb
  cases hb;exact hnf vs hd
 have hel:e≠X.env.locals:=λz=>nfr e oe ev hoe hod (by rw[Jo,hfe];exact z▸HU)
 have hef:e∉X.fs:=λz=>nfr e oe ev hoe hod (by rw[Jo,hfe];exact HQ _ z)
 have hcell:∀v,oe.data≠ .cell v:=λv z=>by rw[hod]at z;cases z
 have I3:Inv (oK X e oe) pins σ1 H1 { s1 with heap:=h' }:=kI I2 hoe he hel hef hcell
 refine kk oe ev oT ts hoe hoc hod h1 hoT hdT (II.mp h3).1 I3 (by rw[hst];exact nfr e oe ev hoe hod) ?_
 generalize hU:h'.update T' (K8 (·.setIfInBounds 3 IG))=h2
 have kp:∀b,b≠T'->h2.get? b=h'.get? b:=λb hb=>by rw[<-hU];exact Kk _ _ (Kv hb)
 have hT2:h2.get? T'=some (K8 (·.setIfInBounds 3 IG) oT):=by rw[<-hU];exact LQ _ hoT (LR (Kq hdT _))
 have hoe2:h2.get? e=some oe:=(kp e (Kv hTe)).trans hoe
 have g2:tN ((X.env::X.outer).filterMap (·.frame)) C e (some T') h' h2 T':=⟨⟨hTe,oe,ev,hoe2,hoc,hod,h1,_,_,hT2,Kq hdT _,by simp[(II.mp h3).1]⟩,.inl rfl,λb o _ _ n3 q=>(kp b λz=>n3 (by rw[z])).trans q,λb o m q=>⟨o.slots,(kp b λz=>nfr T' oT ts hoT hdT (z▸m)).trans q⟩⟩
 have I4:Inv X pins σ1 H1 { s1 with heap:=h2 }:=Inv.G6 (s:={ s1 with heap:=h' }) I2 hst hfe hcl hex g2 he heo (λt z=>by cases z;exact⟨Tn.1,Tn.2.1⟩) λp hp=>⟨(hpp p hp).1,λz=>Tn.2.2 p hp (IT z).symm⟩
 exact kI I4 hoe2 he hel hef hcell
theorem ve {prog:Ip}{w:IV}{A:IE}{E:HL->HJ->Prop}{s:HJ}{env:Env}{body:List Stmt}{h₀:ExceptHandler}{hs:List ExceptHandler}{pos:Pos}{Q:Flow->HJ->Prop}
  (h:wC (model prog w) A (execs body env) (λf s₁=>match f with | .next=>Q .next s₁ | f=>Q f s₁)
   (λe s₁=>wpAny (model prog w) A (K5 e env) (λ_ s₂=>wpAny (model prog w) A (setFlight e none) (λ_ s₃=>wpAny (model prog w) A (handleBy e env (h₀::hs)) Q E s₃) E s₂) E s₁) s) :
  wC (model prog w) A (exec (.Try body (h₀::hs) [] [] pos) env) Q E s:=by
 rw[arm_exec_Try];refine dG ?_
 unfold tryStmt;simp only[List.isEmpty_nil,if_true,O9,MD,Jv,if_false];refine aQ (kR (bL h (λf s₁ h₁=> ?_) λe s₁ h₁=> ?_))
 ·cases f <;> first | exact .of (KD h₁) | exact a0 h₁
 ·exact ay (IR h₁ (λ_ _ h₂=>ay (IR h₂ (λ_ _ h₃=> .of h₃) λ_ _ x=>x)) λ_ _ x=>x)
theorem ph {M:L7}{A:IE}{E:HL->HJ->Prop}{s:HJ}{pos:Pos}{T:String}{args:List (Bool×Sem HL)}{Q:HL->HJ->Prop}(hplain:args.any (·.1)=false)
  (h:wC M A (PP (.type T) true args []) (λa s₁=>wC M A (call (.type T) a.pos a.kw) Q E s₁) E s):wC M A (PR pos (.type T) [] args []) Q E s:=by
 unfold PR;refine aQ (bX (fL h λa s₁ h₁=>dG ?_))
 simp only[hplain,List.any_nil,M4];refine ay (HX ?_)
 exact aQ (fL h₁ λr s₂ hr=>ay (Jp (P8 (a0 hr))))
def iV (x:Ko):T:=match PU x with
 | some n=> .int n
 | none=> .non
def ub:T->Rs T
 | .str x=>if x.length<=640/\x.cps.all (· <1114112)=true then .ok (iV x)else .bad
 | _=> .bad
def tW (f:En->Rs T)(ρ:En):Rs Fl:=f ρ >>= λt=>ub t >>= λv=> .ok (.rt v)
theorem qT {x:Ko}(h1:x.length<=640)(h2:x.cps.all (· <1114112)=true):(reprText x).length<=sizeLine:=by
 have h3:=StrLaws.reprText_len x λc hc=>by
  have:=Kw.mp h2 c (by simpa using hc)
  have:c<1114112:=by simpa using this
  exact Ig this (by decide)
 rw[JL];omega
theorem BF:isSubtype (.type "ValueError") (.type "ValueError")=pure true:=by rw[MN];kernel_rfl
theorem BG:isSubtype (.type "ValueError") (.type "BaseException")=pure true:=by rw[MN];kernel_rfl
theorem BE:isSubtype (.type ((Manifest.find? "ValueError").elim "type" λx=>x.metatype)) (.type "tuple")=pure false:=by rw[MN];kernel_rfl
theorem BM {X:Cx}(i:Nat){j:Nat}{y:Ko}{p1 p2 p3 p4 p5 p6 np hpos pos:Pos}(hst:X.stack=X.env::X.outer)(hfe:X.env.frame=some X.env.locals)(hcl:∀x c,X.env.cells.lookup x≠some c)(hex:X.ex= [])(hc:X.calm=true)
  (hmi:X.mg "int" =none) (hmv:X.mg "ValueError" =none) (hbi:IC "int" =some (.type "int")) (hbv:IC "ValueError" =some (.type "ValueError")) (hgi:Gl X "int") (hgv:Gl X "ValueError")
  (hN:X.N[i]? =some y) (hv:rO X.env.scope y) (hd:(y == ("__debug__" : Ko))=false) (hcd:(y == ("__classdict__" : Ko))=false) :
  AG X (.Try [.Return (some (.Call (.Name "int" p1) [.Name y p2] [] p3)) p4] [.ExceptHandler (some (.Name "ValueError" np)) none [.Return (some (.Constant .none j p5)) p6] hpos] [] [] pos) (tW (vr i)):=by
 intro pins s σ H D I ⟨ρ,B,M,E,hq⟩;unfold tW vr at hq
 have hh:X.A.handled=none:=I.ok.hd hc
 have hw:∃x,ρ[i]? =some (.va (.str x))/\(x.length<=640/\x.cps.all (· <1114112)=true)/\∀v H',SameO M.u H H'->Rep X.K B H' (iV x) v->D.rt v H':=by
  split at hq
  ·rename_i t ht
   rw[aC]at hq;unfold ub at hq
   split at hq
   ·rename_i x
    split at hq
    ·rename_i hx;rw[aC]at hq;exact⟨x,ht,hx,hq⟩
    ·exact hq.elim
   ·exact hq.elim
  ·exact hq.elim
 obtain⟨x,hx,⟨h640,hall⟩,hD⟩:=hw;obtain⟨v,hs,rv⟩:=E.env.val i _ hx;cases Rep.FS.mp rv
 have rd:wpAny (model X.prog X.w) X.A (eval (.Name y p2) X.env) (λu s1=>s1=s/\∃t,u= .str x t) (λ_ _=>False) s:=by
  obtain⟨m,hn,hl⟩:=I.loc;obtain⟨u,r,l⟩:=hl i y _ hN hs hv
  have fin:(λu s1=>s1=s/\∃t,u=JD x t) u s:=⟨rfl,r⟩
  rcases l with⟨hk,hm⟩ | ⟨hk,c,hc',hcell⟩
  ·exact Pb (NU I.ok.kind hk hn hm fin) hd
  ·exact absurd hc' (hcl y c)
 refine ve (fA (mM (nL (dX I hgi hmi hbi (ph rfl (nK (kP (.of (IR rd (λu s1 h1=> ?_) λ_ _ z=>z.elim)))))))))
 obtain⟨rfl,t,rfl⟩:=h1;refine .of (Kd ?_)
 show wC _ _ (call (.type "int") [.str x t] []) _ _ s1
 cases hi:PU x with
 | some n=>
  have e:iV x= .int n:=by unfold iV;rw[hi]
  rw[e]at hD
  exact .of (W.KIN.call_text hi h640 ⟨.int n,σ,H,I.tok _,⟨_,rfl⟩,hD _ H (λ_ _ e _=>e) (Rep.GA n)⟩)
 | none=>
  have e:iV x= .non:=by unfold iV;rw[hi]
  rw[e]at hD
  have hse:(P9 x).length<=640:=IA (seen_length x) h640;refine tR hse hi (qT h640 hall) hh λh1 tk e me=> ?_
  obtain⟨ob,ta,hob,hcls,hdat⟩:=me.there
  have I1:Inv X pins σ H { s1 with heap:=h1,toks:=tk }:=I.kept me.keeps
  have he:H e=none:=fS I me.new
  have heo:X.s₀.heap.get? e=none:=fE I hex me.new
  have hfr:X.A.frames=some (X.env::X.outer):=by rw[<-hst];exact I.ok.frames
  have hstk:h1.FunFrames X.base (X.env::X.outer):=by have:=I1.stack;rw[hst]at this;exact this
  have fl:DC h1 (.type "ValueError") e none:=⟨ob,_,hob,hcls,hdat,rfl⟩;refine CD (s:={ s1 with heap:=h1,toks:=tk }) hfr hstk hfe fl λh2 T' g=> ?_
  refine zU hst hfe hcl hex I1 g he heo (λt z=>by cases z) (λp hp=>⟨λz=>(by have:=(I.pin p hp).1;rw[z,me.new]at this;cases this),λz=>by cases z⟩) λoe ev oT ts hoe hoc hod hv1 hoT hdT h3 I3 hnf I5=> ?_
  refine Oc (NO (dX (X:=oK X e oe) I3 hgv hmv hbv ?_)) (by intro z;cases z)
  refine wpAny_excMatches_type (T:="ValueError") (X:="ValueError") ⟨oe,hoe,hoc⟩ BG BE BF ?_
  refine codeAny_handlers_suite ?_
  refine NW hoe hod hv1 hoT hdT h3 ?_
  refine Nj (Pc (Constant_none ?_))
  exact⟨.non,σ,H,sT I.ok I5,rfl,hD _ H (λ_ _ e _=>e) Rep.G2⟩
theorem Bv {X:Cx}(i:Nat){j:Nat}{y:Ko}{p1 p2 p3 p4 p5 p6 np hpos pos:Pos}(hcl:∀x c,X.env.cells.lookup x≠some c)(hmi:X.mg "int" =none)(hmv:X.mg "ValueError" =none)(hst:autoParam (X.stack=X.env::X.outer) u_)(hfe:autoParam (X.env.frame=some X.env.locals) u_)(hex:autoParam (X.ex= []) u_)(hc:autoParam (X.calm=true) u_)
  (hbi:autoParam (IC "int" =some (.type "int")) z_) (hbv:autoParam (IC "ValueError" =some (.type "ValueError")) z_) (hgi:autoParam (Gl X "int") u_) (hgv:autoParam (Gl X "ValueError") u_)
  (hN:autoParam (X.N[i]? =some y) u_) (hv:autoParam (rO X.env.scope y) v_) (hd:autoParam ((y == Ju "__debug__")=false) s_) (hcd:autoParam ((y == Ju "__classdict__")=false) s_) :
  US X (.Try [.Return (some (.Call (.Name "int" p1) [.Name y p2] [] p3)) p4] [.ExceptHandler (some (.Name "ValueError" np)) none [.Return (some (.Constant .none j p5)) p6] hpos] [] [] pos) (tW (vr i)):=
 ⟨BM i hst hfe hcl hex hc hmi hmv hbi hbv hgi hgv hN hv hd hcd⟩
end Tr
namespace Tr
open PySem PySem.Spec PyProof.Rows L2
section
variable {X:Cx}{a b:Expr}{fa fb:En->Rs T}{apos cpos:Pos}
theorem nG (ha:QE X a fa)(hb:QE X b fb)(hn:autoParam (cR b=true) u_)(hbase:autoParam (J1 a "partition" X.env (eval a X.env)=eval a X.env) u_)(hline:autoParam ((apos.endLine == cpos.line)=true) u_) :
  QE X (.Call (.Attribute a "partition" apos) [b] [] cpos) (oS fQ fa (ae fb ai)):=⟨AW NT F.type_str_partition Ao ha.h hb.h hn hbase hline⟩
theorem nH (ha:QE X a fa)(hb:QE X b fb)(hn:autoParam (cR b=true) u_)(hbase:autoParam (J1 a "join" X.env (eval a X.env)=eval a X.env) u_)(hline:autoParam ((apos.endLine == cpos.line)=true) u_) :
  QE X (.Call (.Attribute a "join" apos) [b] [] cpos) (oS gW fa (ae fb ai)):=⟨AW F.slot_str_join F.type_str_join Aq ha.h hb.h hn hbase hline⟩
end
end Tr
namespace L2
open PySem PySem.Spec PyProof.Rows
def PE1 (X:Cx)(e:Expr)(t:TE):Prop:=
 ∀(pins:List (Addr×Obj)) (s:HJ) (σ:St) (H:Hp) (Q:VK),Inv X pins σ H s->vD<=s.toks->t σ H Q->wpAny (model X.prog X.w) X.A (eval e X.env) (EP X pins σ Q) X.xe s
theorem u4 {α:Type}{M:L7}{A:IE}{t:Sem α}{Q:α->HJ->Prop}{E:HL->HJ->Prop}{s:HJ}(hk:vD<=s.toks)(h:wpAny M A t Q E s):wpAny M A t (λa s'=>Q a s'/\vD<=s'.toks) E s:=
 λΓ p hΓ=>Mi M Γ t (λ_ _ _ z=>z) (λ_ _ _ z=>z.1) p s (rV hk (h Γ p hΓ))
section
variable {X:Cx}{e:Expr}{te:TE}{lo hi:Option Expr}{tl th:TO}{pos p2:Pos}
theorem tY {r:V->Option Int->Option Int->Hp->VK->Prop}(hr:SlR X r)(he:PE1 X e te)(hl:PO X lo tl)(hu:PO X hi th):PE1 X (.Subscript e (.Slice lo hi none p2) pos) (tSl r te tl th):=by
 intro pins s σ H Q I hk h;refine Pf (bF (he pins s σ H _ I hk h) λv s1 hh_=> ?_)
 obtain⟨x,H1,I1,r1,q1⟩:=hh_;refine wpAny_Slice (bF (hl pins s1 σ H1 _ I1 q1) λvl s2 ⟨l,H2,I2,pl,q2⟩=>bF (hu pins s2 σ H2 _ I2 q2) λvu s3 hh_=> ?_)
 obtain⟨u,H3,I3,pu,q3⟩:=hh_;rw[OK];refine HX ?_
 have I4:Inv X pins σ H3 { s3 with heap:=s3.heap.push { cls:=.type "slice",data:=.fields #[vl,vu,.none] } }:=I3.kept (t':=s3.toks) λb ob q=>HN _ q
 obtain⟨T,id,hT,ht,hg⟩:=hr pins { s3 with heap:=s3.heap.push { cls:=.type "slice",data:=.fields #[vl,vu,.none] } } σ H3 x v vl vu l u s3.heap.objs.size Q I4 r1 (Od ..) pl pu q3
 show wpAny (model X.prog X.w) X.A (Nb e (.Slice lo hi none p2) v (.ref s3.heap.objs.size)) (EP X pins σ Q) X.xe { s3 with heap:=s3.heap.push { cls:=.type "slice",data:=.fields #[vl,vu,.none] } }
 exact tail_any (ops:=[.ref s3.heap.objs.size,v]) ht hT hg (by with_unfolding_all rfl)
end
end L2
namespace Tr
open PySem PySem.Spec PyProof.Rows L2
abbrev uL (X:Cx)(e:Expr)(f:En->Rs T):Prop:=PE1 X e (tP X f)
section
variable {X:Cx}{a b c:Expr}{fa fb fc:En->Rs T}{pos:Pos}
theorem v7 {lo hi:Option Expr}{p2:Pos}{fl fu:En->Rs (Option Int)}(ha:uL X a fa)(hl:AD X lo fl)(hu:AD X hi fu):uL X (.Subscript a (.Slice lo hi none p2) pos) (sl fa fl fu):=by
 intro pins s σ H Q I hk ⟨ρ,O,E,hq⟩;refine tY (sl_tup.or (sl_tup_whole.or sd)) ha hl hu pins s σ H Q I hk ?_
 obtain⟨ρ1,O1,E1,h1⟩:=aI E hq;refine⟨ρ1,O1,E1,Post.mono h1 λts H1 s1 q vs r=> ?_⟩
 obtain⟨t',r',s',E',q'⟩:=q vs r;obtain⟨ρ2,O2,E2,h2⟩:=fO E' q';refine⟨ρ2,O2,E2,Post.mono h2 λo1 H2 s2 q=> ?_⟩
 obtain⟨s2',E2',q2⟩:=q;obtain⟨ρ3,O3,E3,h3⟩:=fO E2' q2;refine⟨ρ3,O3,E3,Post.mono h3 λo2 H3 s3 q=> ?_⟩
 obtain⟨s3',E3',q3⟩:=q
 have rt:=(r'.same s2').same s3';unfold slT at q3
 split at q3
 ·rename_i l
  obtain⟨p,ws,e,n,q,rr⟩:=Rep.Fk.mp rt
  have hlen:=rr.length
  by_cases hw:HT.sIx ws.length 0 o1=0/\HT.sIx ws.length ws.length o2=ws.length
  ·refine .inr (.inl ⟨p,ws,e,SqT.of q,hw,?_⟩)
   rw[<-hlen]at hw;refine q3 H3 (Same.refl H3) _ ?_
   rw[nv hw];exact Rep.Fk.mpr ⟨p,ws,rfl,n,q,rr⟩
  ·exact .inl ⟨p,ws,e,SqT.of q,hw,λp' hp=>q3 _ (aV hp _) _ (dI hp (E3'.fresh hp) (rr.cut o1 o2))⟩
 ·rename_i l
  obtain⟨p,ws,e,n,q,rr⟩:=Rep.FB.mp rt;exact .inr (.inr ⟨p,ws,e,SqL.of q,λp' hp=>q3 _ (aV hp _) _ (eF hp (E3'.fresh hp) (rr.cut o1 o2))⟩)
 ·exact q3.elim
end
section
variable {X:Cx}{a b:Expr}{fa:En->Rs T}{fs:En->Rs (List T)}{pos p apos cpos:Pos}
theorem Ce {nm:Str}{id:String}{g:List T->Rs T}(hsl:Slot "str" nm id)(hty:typeOf (.builtin id)=pure (.type "method_descriptor"))(hc:CallT X (.builtin id) g)(ha:uL X a fa){fb:En->Rs T}(hb:cL X b fb)(hn:cR b=true)
  (hbase:J1 a nm X.env (eval a X.env)=eval a X.env) (hline:(apos.endLine == cpos.line)=true):uL X (.Call (.Attribute a nm apos) [b] [] cpos) (oS g fa (ae fb ai)):=by
 have hs:Ik [b] X.env=(false,eval b X.env)::Ik [] X.env:=bu hn;intro pins s σ H Q I hk ⟨ρ,O,E,hq⟩;refine KZ hbase (by rw[hs];rfl) hline rfl (bF (ha pins s σ H _ I hk (aI E hq)) λv s1 hh_=> ?_)
 obtain⟨x,H1,I1,r1,t,rt,s',E',q1⟩:=hh_
 cases t with
 | str y=>
  rw[Rep.FS.mp rt]at r1;obtain⟨tk,rfl⟩:=r1;refine⟨_,_,LG,hsl,hty,(show typeOf _=_ from rfl),(λa z=>nomatch z),?_⟩
  rw[hs]
  have q1':Post X H1 (fb ρ >>= λu=>g [.str y,u]) λt H'=> ∀v,Rep X.K O H' t v->Q v H':=by
   have:(ae fb ai ρ >>= λts=>g (.str y::ts))=(fb ρ >>= λu=>g [.str y,u]):=by
    unfold ae;cases fb ρ <;> rfl
   rw[<-this];exact q1
  refine KW rfl (Kx (J6 (bF (hb pins s1 σ H1 _ I1 (aI (f:=fb) E' q1')) λu s2 ⟨w,H2,I2,r2,t2,rt2,s'',E'',q2⟩=>Kd ?_)))
  exact hc pins s2 σ H2 O [.str y,t2] [.str y,w] [.str y tk,u] Q I2 (λp=>E''.fresh) (Reps.Gw (Rep.GG _) (Reps.Gw rt2 Reps.Gz)) (.cons ⟨tk,rfl⟩ (.cons r2 .nil)) q2
 | _=>exact q1.elim
def eQ (y z:Str):T->Rs T
 | .str x=>if x.length<=1048576 then .ok (.str (M9 x y z))else .bad
 | _=> .bad
theorem Cf {y z:Str}{j1 j2:Nat}{p1 p2:Pos}(ht:vD=1)(ha:cL X a fa)(hyz:(y == z)=false)(hz:z.length<=14)(hbase:J1 a "replace" X.env (eval a X.env)=eval a X.env)(hline:(apos.endLine == cpos.line)=true) :
  uL X (.Call (.Attribute a "replace" apos) [.Constant (.str y) j1 p1,.Constant (.str z) j2 p2] [] cpos) (o1 (eQ y z) fa):=by
 intro pins s σ H Q I hk ⟨ρ,O,E,hq⟩;refine KZ hbase (by rfl) hline rfl (bF (u4 hk (ha pins s σ H _ I (aI E hq))) λv s1 ⟨⟨x,H1,I1,r1,t,rt,s',E',q1⟩,hk1⟩=> ?_)
 cases t with
 | str x0=>
  rw[Rep.FS.mp rt]at r1;obtain⟨tk,rfl⟩:=r1
  have q1':Post X H1 (eQ y z (.str x0)) λt H'=> ∀v,Rep X.K O H' t v->Q v H':=q1
  unfold eQ at q1'
  dsimp only at q1'
  split at q1'
  ·rename_i hl
   refine⟨_,_,LG,F.slot_str_replace,F.type_str_replace,(show typeOf _=_ from rfl),(λa z=>nomatch z),?_⟩
   refine KW rfl (Kx (J6 (OU (k:=j1) (pos:=p1) (J6 (OU (k:=j2) (pos:=p2) (Kd ?_))))))
   have h1:1<=s1.toks:=ht▸hk1;exact SC.replaceW (by show s1.toks≠0;omega) (by show s1.toks+1≠0;omega) (by show s1.toks≠s1.toks+1;omega) hyz hl hz λt' k=>⟨.str _,H1,I1.tok _,⟨_,rfl⟩,q1' H1 (Same.refl H1) _ (Rep.GG _)⟩
  ·exact q1'.elim
 | _=>exact q1.elim
structure V1 (X:Cx)(e:Expr)(f:En->Rs T):Prop where
 h:uL X e f
theorem u_1 (h:V1 X a fa):UE X a fa:=⟨λpins s σ H Q I t k Γ p hΓ _=>h.h pins s σ H Q I k t Γ p hΓ⟩
theorem AL {y z:Str}{j1 j2:Nat}{p1 p2:Pos}(ha:QE X a fa)(hyz:autoParam ((y == z)=false) s_)(hz:autoParam (z.length<=14) s_)(hbase:autoParam (J1 a "replace" X.env (eval a X.env)=eval a X.env) u_)(hline:autoParam ((apos.endLine == cpos.line)=true) u_) :
  V1 X (.Call (.Attribute a "replace" apos) [.Constant (.str y) j1 p1,.Constant (.str z) j2 p2] [] cpos) (o1 (eQ y z) fa):=⟨Cf rfl ha.h hyz hz hbase hline⟩
theorem yz {fb:En->Rs T}(ha:V1 X a fa)(hb:QE X b fb)(hn:autoParam (cR b=true) u_)(hbase:autoParam (J1 a "split" X.env (eval a X.env)=eval a X.env) u_)(hline:autoParam ((apos.endLine == cpos.line)=true) u_) :
  V1 X (.Call (.Attribute a "split" apos) [b] [] cpos) (oS gL fa (ae fb ai)):=⟨Ce LZ F.type_str_split xP ha.h hb.h hn hbase hline⟩
theorem yA {lo hi:Option Expr}{p2:Pos}{fl fu:En->Rs (Option Int)}(ha:V1 X a fa)(hl:QO X lo fl)(hu:QO X hi fu):V1 X (.Subscript a (.Slice lo hi none p2) pos) (sl fa fl fu):=⟨v7 ha.h hl.h hu.h⟩
end
end Tr
namespace L2
open PySem PySem.Spec PyProof.Rows
section
variable {M:L7}{A:IE}{E:HL->HJ->Prop}{s:HJ}{env:Env}
theorem mL {c:Code}{h:Option HL}{Q:Flow->HJ->Prop}(hc:cC M (A.mark h) c (λr s'=>match r with | .ok f=>Q f s' | .error e=>cameBackBy M A env E e s') s)(hnb:autoParam (h≠some byPass) b_) :
  wC M A (runOwn c env h) Q E s:=by
 unfold runOwn;exact fX (u6 (iz hc λr s' hr=>by cases r with | ok f=>exact hr | error e=>exact .of hr) hnb)
theorem Bs {target iter body orelse pos}{Q:Flow->HJ->Prop}
  (h:wpAny M A (eval iter env) (λx s₁=>wpAny M A (pyIter x) (λit s₂=>cC M A (.forLoop target it body orelse env) (λr s'=>match r with | .ok f=>Q f s' | .error e=>cameBackBy M A env E e s') s₂) E s₁) E s)
  (hs:autoParam (∀x,Im iter env x=pure x) t_):wC M A (exec (.For target iter body orelse pos) env) Q E s:=by
 rw[exec_For];refine dG (ay (IR h (λx s₁ h₁=>ay (Lf (hs x) (dG ?_))) λ_ _ z=>z))
 exact ay (Jp (IR h₁ (λit s₂ h₂=>mL h₂) λ_ _ z=>z))
theorem xU {c:Code}{R:LH->HJ->Prop}(hq:c.quiet=true)(I:Nat->HJ->Prop)
  (turn:∀n s,I n s->wC M (A.under c) (M.den c) (λfin s'=>match fin with
    | .done f=>R (.ok f) s'
    | .again c'=>(c'=c/\∃m,m<n/\I m s')\/(c'.quiet=true/\cC M A c' R s')) (λe s'=>R (.error e) s') s) (n:Nat) (h:I n s):cC M A c R s:=by
 induction n using P5 generalizing s with
 | ind n ih=>
  refine cY (bL (turn n s h) (λfin s' hf=> ?_) λ_ _ h'=>h')
  cases fin with
  | done f=>exact hf
  | again c'=>
   rcases hf with⟨rfl,m,hm,hI⟩ | hf
   ·exact⟨hq,ih m hm hI⟩
   ·exact hf
end
theorem lT {prog:Ip}{w:IV}{A:IE}{s:HJ}{R:LH->HJ->Prop}{target it body orelse env}(I:Nat->HJ->Prop)
  (turn:∀n s,I n s->wpAny (model prog w) A (pyNext it) (λr s₁=>match r with
   | none=>wpAny (model prog w) A (execs orelse env) (λf s₃=>R (.ok f) s₃) (notedBy (model prog w) A env λe s'=>R (.error e) s') s₁
   | some v=>wpAny (model prog w) A (KF target it v) (λ_ s₁'=>
     wpAny (model prog w) A (assign target env v) (λ_ s₂=>wC (model prog w) A (execs body env) (λf s₃=>match f with
      | .next | .cont=> ∃m,m<n/\I m s₃
      | .brk=>R (.ok .next) s₃
      | .ret v=>R (.ok (.ret v)) s₃) (notedBy (model prog w) A env λe s'=>R (.error e) s') s₂) (notedBy (model prog w) A env λe s'=>R (.error e) s') s₁') (notedBy (model prog w) A env λe s'=>R (.error e) s') s₁) (notedBy (model prog w) A env λe s'=>R (.error e) s') s)
  (n:Nat) (h:I n s):cC (model prog w) A (.forLoop target it body orelse env) R s:=by
 refine xU rfl I (λn s hI=> ?_) n h
 show wC _ A ((forTurn target it body orelse env).onRaise (λx=>do K5 x env;Mk x)) _ _ s
 refine o9 ?_
 simp only[forTurn];refine dG (aQ (.of (ON (IR (turn n s hI) (λr s₁ h₁=> ?_) λ_ _ h'=>L8 h'))))
 cases r with
 | none=>exact .of (HX (.inr ⟨rfl,cC.of (codeAny_block h₁)⟩))
 | some v=>
  refine ay (IR h₁ (λ_ s₁' h₁'=> ?_) λ_ _ h'=>h')
  refine ay (IR h₁' (λ_ s₂ h₂=>aQ (bL h₂ (λf s₃ h₃=> ?_) λ_ _ h'=>h')) λ_ _ h'=>h')
  cases f with
  | next=>exact a0 (.inl ⟨rfl,h₃⟩)
  | cont=>exact a0 (.inl ⟨rfl,h₃⟩)
  | brk=>exact a0 h₃
  | ret v=>exact a0 h₃
end L2
namespace Tr
open PySem PySem.Spec PyProof.Rows L2
theorem sE {α:Type}{t:Sem α}{Q:α->HJ->Prop}{s:HJ}{E:HL->HJ->Prop}{P:Ip}{w:IV}{A:IE}(h:wC (model P w) A t Q (λ_ _=>False) s):wC (model P w) A t Q E s:=bL h (λ_ _ q=>q) λ_ _ z=>z.elim
section
variable {X:Cx}{a b c e:Expr}{es:List Expr}{fa fb fc:En->Rs T}{fs:En->Rs (List T)}{pos p p2:Pos}{x:Str}
theorem Ab {tg iter:Expr}{body:List Stmt}{wi:TI}{g:TG}{tb:TS}{pos:Pos}(hc:X.calm=true)(hi:PI X tg iter wi)(hg:PG X.nox tg g)(hb:DSs X.nox body tb)
  (hs:autoParam (∀x,Im iter X.env x=pure x) t_):DS X (.For tg iter body [] pos) (BD wi g tb):=by
 intro pins s σ H D I h;refine Bs (bF (hi pins s σ H _ I h) λv s1 h1=>bF h1 λitv s2 h2=> ?_) hs
 obtain⟨it,fp,tn,J,H2,e,I2,T,st2,f2,W,⟨m0,w0⟩,turn⟩:=h2;subst e
 have stat:∀{H':Hp},(∀b∈fp,H' b=none)->∀b∈fp,hG X pins H' b:=λhn b hb=>⟨hn b hb,(f2 b hb).2⟩
 refine lT (λn s'=> ∃i σ' H',Inv X pins σ' H' s'/\tn i s'.heap/\(∀b∈fp,H' b=none)/\W i n σ' H') ?_ m0 ⟨0,σ,H2,I2,st2,λb hb=>(f2 b hb).1,w0⟩
 rintro n s3 ⟨i,σ3,H3,I3,st3,fr3,w3⟩
 rcases turn i n σ3 H3 w3 with⟨stop,qn⟩ | ⟨go,N,hN,step⟩
 ·refine dU (bF (T.done X.nox rfl rfl rfl hc i pins s3 σ3 H3 _ (I3.FM _) (stat fr3) st3 stop) λr s4 ⟨hr,I4⟩=> ?_)
  subst hr;exact KD ⟨σ3,H3,I4.FM _,qn⟩
 ·refine dU (bF (T.item X.nox rfl rfl rfl hc i pins s3 σ3 H3 _ (I3.FM _) (stat fr3) st3 go) λr s4 ⟨u,hr,h4⟩=> ?_)
  subst hr;refine dU (bF h4 λ_ s5 hh_=> ?_)
  obtain⟨x,H5,I5,r5,y5,st5,fr5⟩:=hh_
  have I5':=Inv.pinned (X:=X.nox) I5 (stat fr5) (T.obj _ _ st5);refine dU (bF (hg _ s5 σ3 H5 x u _ I5' r5 (step x H5 y5)) λ_ s6 hh_=> ?_)
  obtain⟨σ6,H6,I6,q6⟩:=hh_;refine sE (fL (hb _ s6 σ6 H6 _ I6 q6) λf s7 q7=> ?_)
  have again:∀{σ7:L2.St} {H7:Hp},Inv X.nox (pins++gM fp s5.heap) σ7 H7 s7->N σ7 H7->∃m,m<n/\∃i σ' H',Inv X pins σ' H' s7/\tn i s7.heap/\(∀b∈fp,H' b=none)/\W i m σ' H':=λ{σ7 H7} I7 n7=>by
   obtain⟨m',hm,w7⟩:=hN σ7 H7 n7;refine⟨m',hm,i+1,σ7,H7,(Inv.Gv (X:=X.nox) I7).FM _,T.keep _ _ _ st5 λb hb o e=>(I7.pin (b,o) (H0 _ (H0 _ (bY hb e)))).1,λb hb=> ?_,w7⟩
   obtain⟨o,e,d⟩:=T.obj _ _ st5 b hb;exact(I7.pin (b,o) (H0 _ (H0 _ (bY hb e)))).2.1
  cases f with
  | next=>obtain⟨σ7,H7,I7,n7⟩:=q7;exact again I7 n7
  | cont=>obtain⟨σ7,H7,I7,n7⟩:=q7;exact again I7 n7
  | brk=>obtain⟨σ7,H7,I7,q7⟩:=q7;exact⟨σ7,H7,(Inv.Gv (X:=X.nox) I7).FM _,q7⟩
  | ret v=>obtain⟨x7,σ7,H7,I7,r7,q7⟩:=q7;exact⟨x7,σ7,H7,(Inv.Gv (X:=X.nox) I7).FM _,r7,q7⟩
theorem FW {tg iter:Expr}{body:List Stmt}{fi:En->Rs (List T)}{g:T->En->Rs En}{F:En->Rs Fl}(hc:X.calm=true)(hi:yc X tg iter fi)(hg:uT X.nox tg g)(hb:l9 X.nox body F)
  (hs:autoParam (∀x,Im iter X.env x=pure x) t_):AG X (.For tg iter body [] pos) (fB fi g F):=DS.imp (Ab hc hi hg hb hs) λD σ H hh_=>by
 obtain⟨ρ,B,M,E,h⟩:=hh_;refine⟨ρ,OO B M,E.o,?_⟩
 unfold fB at h
 cases q:fi ρ with
 | bad=>rw[q]at h;exact h.elim
 | err c=>rw[q]at h;exact PostF.xa h
 | ok ts=>
  rw[q,aC]at h
  cases qq:bo g F ts ρ with
  | bad=>rw[qq]at h;exact h.elim
  | err c=>rw[qq]at h;exact h.elim
  | ok fin=>
  rw[qq]at h;intro H1 s1 J hJ
  have E1:Ev X.K B M H1 ρ σ:=E.same s1
  have h1:PostF X B M.u H1 (.ok fin) D:=PostF.later h (SameO.of s1) λa z=> .inl z
  refine⟨λi m σ' H'=>m=ts.length - i/\i<=ts.length/\SameO M.u H1 H'/\∃ρ' M',Ev X.K B M' H' ρ' σ'/\(∀a,M'.u a->M.u a\/Nw X.K H1 a)/\bo g F (ts.drop i) ρ'= .ok fin,
   ⟨ts.length,by omega,IZ _,λ_ _ e _=>e,ρ,M,E1,λa z=> .inl z,by simpa using qq⟩,?_⟩
  rintro i m σ' H' ⟨rfl,hi',sm,ρ',M',E',ow,hl⟩
  have it:=hJ M.u (OO B M') (λa z=> .inl (.inr z)) (λa z=>z.elim (λw=> .inl (.inl w)) λw=>(ow a w).elim (λy=> .inl (.inr y)) .inr) i H' sm (λa z=>(E'.env.trk a z).some)
  by_cases hlt:i<ts.length
  ·have hti:ts[i]? =some ts[i]:=by simp
   obtain⟨go,yl⟩:=it.2 ts[i] hti;rw[JG hlt]at hl;unfold bo at hl;refine .inr ⟨go,λσ2 H2=> ∃m',m'<ts.length - i/\(m'=ts.length - (i+1)/\i+1<=ts.length/\SameO M.u H1 H2/\∃ρ2 M2,Ev X.K B M2 H2 ρ2 σ2/\(∀a,M2.u a->M.u a\/Nw X.K H1 a)/\bo g F (ts.drop (i+1)) ρ2= .ok fin),λσ2 H2 z=>z,λx Hc y=> ?_⟩
   obtain⟨sc,rx⟩:=yl x Hc y;refine⟨ρ',OO B M',M',ts[i],E'.env.same sc,rx,?_⟩
   cases e1:g ts[i] ρ' with
   | bad=>rw[e1]at hl;cases hl
   | err cc=>rw[e1]at hl;cases hl
   | ok ρ1=>
    rw[e1,aC]at hl;intro σ1 Eg
    have E2:Ev X.K B M' Hc ρ1 σ1:=⟨Eg,E'.mine⟩;refine⟨ρ1,B,M',E2,?_⟩
    have smc:SameO M.u H1 Hc:=λb o e n=>sc _ _ (sm b o e n)
    have onward:∀{σ3:L2.St} {H3:Hp} {ρ3:En} {M3:Mn},SameO M'.u Hc H3->Ev X.K B M3 H3 ρ3 σ3->(∀a,M3.u a->M'.u a\/Nw X.K Hc a)->bo g F (ts.drop (i+1)) ρ3= .ok fin →
      ∃m',m'<ts.length - i/\(m'=ts.length - (i+1)/\i+1<=ts.length/\SameO M.u H1 H3/\∃ρ2 M2,Ev X.K B M2 H3 ρ2 σ3/\(∀a,M2.u a->M.u a\/Nw X.K H1 a)/\bo g F (ts.drop (i+1)) ρ2= .ok fin):=
     λ{σ3 H3 ρ3 M3} s3 E3 o3 p3=>⟨_,by omega,rfl,hlt,smc.trans s3 ow,ρ3,M3,E3,λa z=>(o3 a z).elim (ow a) (fv smc),p3⟩
    cases e2:F ρ1 with
    | bad=>rw[e2]at hl;cases hl
    | err cc=>rw[e2]at hl;cases hl
    | ok f=>
     rw[e2,aC]at hl
     cases f with
     | nx ρ2=>exact λσ3 H3 M3 s3 E3 o3=>onward s3 E3 o3 hl
     | ct ρ2=>exact λσ3 H3 M3 s3 E3 o3=>onward s3 E3 o3 hl
     | bk ρ2=>
      cases hl
      exact λσ3 H3 M3 s3 E3 o3=>h1 σ3 H3 M3 (smc.trans s3 ow) E3 λa z=>(o3 a z).elim (ow a) (fv smc)
     | rt t=>
      cases hl;exact λv H3 s3 r=>h1 v H3 (smc.trans s3 ow) r
  ·refine .inl ⟨it.1 (by omega),?_⟩
   have hi2:i=ts.length:=by omega
   subst hi2;rw[LY]at hl;cases hl;exact h1 σ' H' M' sm E' ow
theorem vn {tg iter:Expr}{body:List Stmt}{pos:Pos}{fi:En->Rs (List T)}{g:T->En->Rs En}{F:En->Rs Fl}(hc:X.calm=true)(hi:QI X tg iter fi)(hg:QG X.nox tg g)(hb:x8 X.nox body F)(hs:autoParam (∀x,Im iter X.env x=pure x) t_):US X (.For tg iter body [] pos) (fB fi g F):=⟨FW hc hi.h hg.h hb.h hs⟩
end
section
variable {X:Cx}
theorem d_cT {e:Expr}{es:List Expr}{fs:En->Rs (List T)}{x:Str}{p pos:Pos}{Ty:String}{g:List T->Rs T}(hc:CallT X (.type Ty) g)(hm:X.mg x=none)(hv:IC x=some (.type Ty))(ha:DL X (e::es) fs)(hn:a7 (e::es)=true)(hg:Gl X x)(h1:x≠ "__name__")(h2:(x == ("__debug__" : Str))=false) :
  md X (.Call (.Name x p) (e::es) [] pos) (cl g fs):=by
 intro pins s σ H Q I ⟨ρ,O,E,hq⟩;refine nL (dX I hg hm hv ?_ h1 h2)
 have hs:=ha pos pins s σ H _ I (dH E hq)
 have he:Ik (e::es) X.env=(false,eval e X.env)::Ik es X.env:=bu (by unfold a7 at hn;exact(Ja.mp hn).1)
 have hpl:=eC (pos:=pos) (env:=X.env) hn;rw[he]at hs hpl ⊢;exact ph hpl (nK (fL hs λus s1 ⟨vs,H1,I1,r1,ts,rs,s',E',q1⟩=> .of (hc pins s1 σ H1 O ts vs us Q I1 (λp=>E'.fresh) rs r1 q1)))
theorem u_cT {e:Expr}{es:List Expr}{fs:En->Rs (List T)}{x:Str}{p pos:Pos}{Ty:String}{g:List T->Rs T}(hc:CallT X (.type Ty) g)(hm:X.mg x=none)(hv:IC x=some (.type Ty))(ha:UA X (e::es) fs)(hn:autoParam (a7 (e::es)=true) u_)(hg:autoParam (Gl X x) u_)(h1:autoParam (x≠ "__name__") s_)(h2:autoParam ((x == ("__debug__" : Str))=false) s_) :
  UE X (.Call (.Name x p) (e::es) [] pos) (cl g fs):=⟨d_cT hc hm hv ha.h hn hg h1 h2⟩
end
section
variable {X:Cx}
theorem Ei {body suite:List Stmt}{b0:Stmt}{F:En->Rs Fl}{h:Str->Rs T}{ce n:Str}{CE:Addr}{bmE:List HL}{i:Nat}{np hpos pos:Pos}(hst:X.stack=X.env::X.outer)(hfe:X.env.frame=some X.env.locals)(hcl:∀x c,X.env.cells.lookup x≠some c)(hex:X.ex= [])
  (hN:X.N.Nodup) (hi:X.N[i]? =some n) (hloc:X.env.scope.names.lookup n=some .local) (hm:X.mg ce=some (.ref CE)) (OE:OX X.K CE bmE)
  (hb:∀pn xe,l9 { X with pn:=pn,xe:=xe } body F) (hs:oY X i (b0::suite) CE h) (hg:autoParam (Gl X ce) u_) (hd:autoParam ((ce == ("__debug__" : Str))=false) s_) :
  AG X (.Try body [.ExceptHandler (some (.Name ce np)) (some n) (b0::suite) hpos] [] [] pos) (pI F h):=by
 intro pins s σ H D I ⟨ρ,B,M,E,hq⟩;refine ve ?_
 unfold pI at hq
 cases q:F ρ with
 | bad=>rw[q]at hq;exact hq.elim
 | ok fl=>
  rw[q]at hq;refine bL (hb X.pn (λ_ _=>False) pins s σ H D (I.FM _) ⟨ρ,B,M,E,by rw[q];cases fl <;> exact hq⟩) (λf s1 r=> ?_) (λe s1 z=>z.elim)
  cases f with
  | next=>obtain⟨σ7,H7,I7,q7⟩:=r;exact⟨σ7,H7,I7.FM _,q7⟩
  | ret u=>obtain⟨x7,σ7,H7,I7,r7,q7⟩:=r;exact⟨x7,σ7,H7,I7.FM _,r7,q7⟩
  | brk=>obtain⟨σ7,H7,I7,q7⟩:=r;exact⟨σ7,H7,I7.FM _,q7⟩
  | cont=>obtain⟨σ7,H7,I7,q7⟩:=r;exact⟨σ7,H7,I7.FM _,q7⟩
 | err c=>
  rw[q]at hq
  cases q2:h c with
  | bad=>simp only[q2]at hq;exact hq.elim
  | err c'=>simp only[q2]at hq;exact hq.elim
  | ok t=>
   simp only[q2]at hq
   have hq':∀v H',SameO M.u H H'->Rep X.K B H' t v->D.rt v H':=hq;refine bL (hb (X.pn++pins) _ [] s σ H { nx:=λ_ _=>False,rt:=λ_ _=>False,bk:=λ_ _=>False,ct:=λ_ _=>False } ((Tr.Inv.Hu pins I).FM _) ⟨ρ,B,M,E,?_⟩) (λfl s' z=> ?_) λ_ _ z=>z
   rotate_left
   ·cases fl with
    | next=>obtain⟨_,_,_,z⟩:=z;exact z.elim
    | cont=>obtain⟨_,_,_,z⟩:=z;exact z.elim
    | brk=>obtain⟨_,_,_,z⟩:=z;exact z.elim
    | ret v=>obtain⟨_,_,_,_,_,z⟩:=z;exact z.elim
   rw[q];intro pins1 ev s1 w;obtain⟨e,T,C,σ1,H1,rfl,hmc,I1,sm,he,heo,fl,hT,hpp⟩:=w
   have I1:Inv X pins σ1 H1 s1:=Tr.Inv.Hn (X:=X) I1
   have hpp:∀p∈X.pn++pins,p.1≠e/\T≠some p.1:=λp hp=>hpp p (Iw _ hp)
   have heo:=heo hex
   have hT:∀t,T=some t->H1 t=none/\X.s₀.heap.get? t=none:=λt z=>⟨(hT t z).1,(hT t z).2 hex⟩
   show wpAny _ _ _ _ _ _
   have hfr:X.A.frames=some (X.env::X.outer):=by rw[<-hst];exact I1.ok.frames
   have hstk:s1.heap.FunFrames X.base (X.env::X.outer):=by rw[<-hst];exact I1.stack
   refine Fc hfr hstk hfe fl λh' T' g=> ?_
   have I2:=Inv.gone I1 hst hfe hcl hex g he heo hT hpp
   have Tn:H1 T'=none/\X.s₀.heap.get? T'=none/\∀p∈X.pn++pins,p.1≠T':=by
    rcases g.new with z | z
    ·exact⟨(hT T' z).1,(hT T' z).2,λp hp y=>(hpp p hp).2 (by rw[z,y])⟩
    ·exact⟨fS I1 z,fE I1 hex z,λp hp y=>by have:=(I1.pin p hp).1;rw[y,z]at this;cases this⟩
   obtain⟨bm,OC,hin,run⟩:=hs c C t hmc q2;obtain⟨hTe,oe,ev,hoe,hoc,hod,h1,oT,ts,hoT,hdT,h3⟩:=g.flt
   have nfr:∀b o vs,h'.get? b=some o->o.data= .fields vs->b∉(X.env::X.outer).filterMap (·.frame):=λb o vs hb hd z=>by
    have:=I2.stack;rw[hst]at this;obtain⟨_,o',ho',hnf⟩:=this.mem z;rw[show h'.get? b=some o' from ho']at hb
    cases hb;exact hnf vs hd
   have hel:e≠X.env.locals:=λz=>nfr e oe ev hoe hod (by rw[Jo,hfe];exact z▸HU)
   have hef:e∉X.fs:=λz=>nfr e oe ev hoe hod (by rw[Jo,hfe];exact HQ _ z)
   have hcell:∀v,oe.data≠ .cell v:=λv z=>by rw[hod]at z;cases z
   have I3:Inv (oK X e oe) pins σ1 H1 { s1 with heap:=h' }:=kI I2 hoe he hel hef hcell
   refine Oc (NO (gf (X:=oK X e oe) I3 hg hm ?_ hd)) (by intro z;cases z)
   obtain⟨nm,qq,N,bs,hdct,sn,sub,ab,col,dd,k0,k1,k2,k3,k5,mN,hC,_⟩:=OC.at_ h' I3.kIn;obtain⟨nm',qq',N',bs',hdct',sn',sub',ab',col',dd',k0',k1',k2',k3',k5',mN',hD,_,_,TD⟩:=OE.at_ h' I3.kIn;refine uj hC hD hoe hoc (TD.tail.hasType (by decide)) hin (codeAny_handlers_suite_as ?_)
   refine NW hoe hod h1 hoT hdT (II.mp h3).1 ?_
   generalize hU:h'.update T' (K8 (·.setIfInBounds 3 IG))=h2
   have kp:∀b,b≠T'->h2.get? b=h'.get? b:=λb hb=>by rw[<-hU];exact Kk _ _ (Kv hb)
   have hT2:h2.get? T'=some (K8 (·.setIfInBounds 3 IG) oT):=by rw[<-hU];exact LQ _ hoT (LR (Kq hdT _))
   have hoe2:h2.get? e=some oe:=(kp e (Kv hTe)).trans hoe
   have g2:AF ((X.env::X.outer).filterMap (·.frame)) C e (some T') h' h2 T':=⟨⟨hTe,oe,ev,hoe2,hoc,hod,h1,_,_,hT2,Kq hdT _,by simp[(II.mp h3).1]⟩,.inl rfl,λb o _ _ n3 q=>(kp b λz=>n3 (by rw[z])).trans q,λb o m q=>⟨o.slots,(kp b λz=>nfr T' oT ts hoT hdT (z▸m)).trans q⟩⟩
   have I4:Inv X pins σ1 H1 { s1 with heap:=h2 }:=Inv.gone (s:={ s1 with heap:=h' }) I2 hst hfe hcl hex g2 he heo (λt z=>by cases z;exact⟨Tn.1,Tn.2.1⟩) λp hp=>⟨(hpp p hp).1,λz=>Tn.2.2 p hp (IT z).symm⟩
   have I5:Inv (oK X e oe) pins σ1 H1 { s1 with heap:=h2 }:=kI I4 hoe2 he hel hef hcell
   refine kZ (X:=oK X e oe) (v:=.ref e) I5 hN hi (.inl hloc) rfl (λs3 I6=> ?_) (.inr hloc)
   have hil:i<σ1.length:=by
    rw[I1.len];exact(Ii.mp hi).1
   refine IR (run e oe ev hoc hod pins s3 _ H1 B (λv H'=>Same H1 H'/\Rep X.K B H' t v) I6 he (λz=> ?_) (by simp[hil]) (λp hp z=> ?_) λv H' s' r=>⟨s',r⟩) (λf s4 r=> ?_) λ_ _ z=>z.elim
   ·rw[hst]at z
    exact nfr e oe ev hoe hod z
   ·obtain⟨o,ho⟩:=(E.env.trk p (.inl z)).some
    have:=sm p o ho (λw=>E.mine p w z)
    rw[hp]at this;cases this
   ·cases f with
    | next=>obtain⟨_,_,_,z⟩:=r;exact z.elim
    | brk=>obtain⟨_,_,_,z⟩:=r;exact z.elim
    | cont=>obtain⟨_,_,_,z⟩:=r;exact z.elim
    | ret u=>
     obtain⟨v,σ',H',I7,rv,s',rt⟩:=r;obtain⟨m,hn,_⟩:=I7.loc;refine wpAny_nameGoes (show X.env.kindOf n=some .local from hloc) hn (by rw[I.ok.kind];rfl) λh8 m8 hn8 hs8=> ?_
     exact⟨v,_,H',Inv.forget (sT I.ok I7) hcl hn8 hs8,rv,hq' v H' (λb o y nn=>s' b o (sm b o y nn)) rt⟩
end
theorem DU {X:Cx}{body suite:List Stmt}{b0:Stmt}{F:En->Rs Fl}{h:Str->Rs T}{ce n:Str}{CE:Addr}{bmE:List HL}(i:Nat){np hpos pos:Pos}(hN:X.N.Nodup)(hm:X.mg ce=some (.ref CE))(OE:OX X.K CE bmE)
  (hb:∀pn xe,x8 { X with pn:=pn,xe:=xe } body F) (hs:oY X i (b0::suite) CE h) (hst:autoParam (X.stack=X.env::X.outer) u_) (hfe:autoParam (X.env.frame=some X.env.locals) u_) (hcl:∀x c,X.env.cells.lookup x≠some c) (hex:autoParam (X.ex= []) u_)
  (hi:autoParam (X.N[i]? =some n) u_) (hloc:autoParam (X.env.scope.names.lookup n=some .local) u_) (hg:autoParam (Gl X ce) u_) (hd:autoParam ((ce == ("__debug__" : Str))=false) s_) :
  US X (.Try body [.ExceptHandler (some (.Name ce np)) (some n) (b0::suite) hpos] [] [] pos) (pI F h):=⟨Ei hst hfe hcl hex hN hi hloc hm OE (λpn xe=>(hb pn xe).h) hs hg hd⟩
end Tr
namespace L2
open PySem PySem.Spec PyProof.Rows
section
variable {M:L7}{A:IE}{E:HL->HJ->Prop}{s:HJ}{env:Env}{pos:Pos}
theorem vf {test body orelse:Expr}{Q:HL->HJ->Prop}(h:wC M A (isTrue test env (eval test env)) (λb s₁=>if b then wC M A (eval body env) Q E s₁ else wC M A (eval orelse env) Q E s₁) E s):wC M A (eval (.IfExp test body orelse pos) env) Q E s:=by
 rw[arm_eval_IfExp];refine aQ (bL h (λb s₁ h₁=> ?_) λ_ _ x=>x)
 cases b <;> exact h₁
theorem pj {l r:Expr}{op:Oz}{Q:HL->HJ->Prop}(h:wC M A (eval l env) (λa s₁=>wC M A (eval r env) (λb s₂=>wC M A (Jl op a b) Q E s₂) E s₁) E s)(hm:JJ op r=false):wC M A (eval (.Compare l [op] [r] pos) env) Q E s:=by
 rw[eval_Compare1,Nd hm];exact aQ (fL h λa s₁ h₁=>aQ (bX (fL h₁ λb s₂ h₂=>dG (kQ h₂))))
theorem yx {target iter body orelse}{Q:Flow->HJ->Prop}
  (h:wC M A (eval iter env) (λx s₁=>wpAny M A (pyIter x) (λit s₂=>cC M A (.forLoop target it body orelse env) (λr s'=>match r with | .ok f=>Q f s' | .error e=>cameBackBy M A env E e s') s₂) E s₁) E s)
  (hs:autoParam (∀x,Im iter env x=pure x) t_):wC M A (exec (.For target iter body orelse pos) env) Q E s:=by
 rw[exec_For];refine dG (aQ (bL h (λx s₁ h₁=>ay (Lf (hs x) (dG ?_))) λ_ _ z=>z))
 exact ay (Jp (IR h₁ (λit s₂ h₂=>mL h₂) λ_ _ z=>z))
end
def DI (X:Cx)(tg iter:Expr)(wi:TI):Prop:=
 ∀(pins:List (Addr×Obj)) (s:HJ) (σ:St) (H:Hp) (R:It->Hp->Prop),Inv X pins σ H s->wi σ H R →
  wC (model X.prog X.w) X.A (eval iter X.env) (λv s1=>wpAny (model X.prog X.w) X.A (pyIter v) (Gq X pins σ tg R) X.xe s1) X.xe s
section
variable {X:Cx}{tg:Expr}
theorem DI.imp {tg iter:Expr}{t t':TI}(h:DI X tg iter t)(w:∀σ H R,t' σ H R->t σ H R):DI X tg iter t':=λpins s σ H R I q=>h pins s σ H R I (w σ H R q)
theorem Af {l:Expr}{tl:TE}(hl:DE X l tl):DI X tg l (Bc X.K tl):=by
 intro pins s σ H R I h;refine fL (hl pins s σ H _ I h) λv s1 hh_=> ?_
 obtain⟨x,H1,I1,r1,q1⟩:=hh_;obtain⟨a,e,⟨xs,hq⟩,q⟩:=q1;subst e;cases r1;obtain⟨its,rv,p,hz⟩:=I1.list hq;refine LL p.isList ?_
 refine⟨s1.heap.objs.size,[s1.heap.objs.size],_,_,H1,rfl,I1.kept (t':=s1.toks) λb o e=>HN _ e,mQ a _,⟨_,Ie _ rfl,rfl,rfl⟩,λb hb=> ?_,q⟩
 have e:b=s1.heap.objs.size:=by simpa using hb
 subst e;exact I1.GO (Ia _) (I1.hok.fresh (Ia _))
theorem Dm {l:Expr}{tl:TE}(hl:DE X l tl):DI X tg l (FA X.K tl):=by
 intro pins s σ H R I h;refine fL (hl pins s σ H _ I h) λv s1 hh_=> ?_
 obtain⟨x,H1,I1,r1,q1⟩:=hh_;obtain⟨a,e,⟨xs,hq⟩,q⟩:=q1;subst e;cases r1;obtain⟨its,rv,p,hz⟩:=I1.tuple hq;refine Kr (show s1.heap.IsTuple a its.toArray from p) ?_
 refine⟨s1.heap.objs.size,[s1.heap.objs.size],_,_,H1,rfl,I1.kept (t':=s1.toks) λb o e=>HN _ e,kX a _,⟨_,Ie _ rfl,rfl,rfl⟩,λb hb=> ?_,q⟩
 have e:b=s1.heap.objs.size:=by simpa using hb
 subst e;exact I1.GO (Ia _) (I1.hok.fresh (Ia _))
end
end L2
namespace Tr
open PySem PySem.Spec PyProof.Rows L2
abbrev F8 (X:Cx)(tg iter:Expr)(f:En->Rs (List T)):Prop:=DI X tg iter (Ge X f)
section
variable {X:Cx}{a b c:Expr}{fa fb:En->Rs T}{f:En->Rs Bool}{pos:Pos}
theorem tj {tg:Expr}(ha:md X a fa):F8 X tg a (iL fa):=DI.imp (Af ha) λσ H R hh_=>by
 obtain⟨ρ,O,E,h⟩:=hh_;obtain⟨ρ1,O1,E1,h1⟩:=aI E h;refine⟨ρ1,O1,E1,Post.mono h1 λts H1 s1 q vs r=> ?_⟩
 obtain⟨t',r',s',E',q'⟩:=q vs r
 split at q'
 ·rename_i l
  obtain⟨a,ws,rfl,n,q,z⟩:=Rep.FB.mp r';refine⟨a,rfl,⟨ws,SqL.of q⟩,q' H1 (Same.refl H1) _ λP O' hP hO i Hc hs ht=> ?_⟩
  have hnP:¬ P a:=λz=>(hP a z).elim n λw=>by rw[w.1]at q;cases q
  refine⟨λhi=>⟨ws,SqL.of (hs _ _ q hnP),by rw[<-z.length];exact hi⟩,λt ht'=> ?_⟩
  obtain⟨v,e1,e2⟩:=z.get ht';refine⟨⟨ws,v,SqL.of (hs _ _ q hnP),e1⟩,λx Hc' y=> ?_⟩
  obtain⟨e,y⟩:=y;subst e
  have:=y ws (SqL.of (hs _ _ q hnP));rw[e1]at this;cases this;exact⟨Same.refl _,e2.move hP hO hs⟩
 ·exact q'.elim
theorem Dj {tg:Expr}(ha:md X a fa):F8 X tg a (iT fa):=DI.imp (Dm ha) λσ H R hh_=>by
 obtain⟨ρ,O,E,h⟩:=hh_;obtain⟨ρ1,O1,E1,h1⟩:=aI E h;refine⟨ρ1,O1,E1,Post.mono h1 λts H1 s1 q vs r=> ?_⟩
 obtain⟨t',r',s',E',q'⟩:=q vs r
 split at q'
 ·rename_i l
  obtain⟨a,ws,rfl,n,q,z⟩:=Rep.Fk.mp r';refine⟨a,rfl,⟨ws,SqT.of q⟩,q' H1 (Same.refl H1) _ λP O' hP hO i Hc hs ht=> ?_⟩
  have hnP:¬ P a:=λz=>(hP a z).elim n λw=>by rw[w.1]at q;cases q
  refine⟨λhi=>⟨ws,SqT.of (hs _ _ q hnP),by rw[<-z.length];exact hi⟩,λt ht'=> ?_⟩
  obtain⟨v,e1,e2⟩:=z.get ht';refine⟨⟨ws,v,SqT.of (hs _ _ q hnP),e1⟩,λx Hc' y=> ?_⟩
  obtain⟨e,y⟩:=y;subst e
  have:=y ws (SqT.of (hs _ _ q hnP));rw[e1]at this;cases this;exact⟨Same.refl _,e2.move hP hO hs⟩
 ·exact q'.elim
theorem Dk {tg:Expr}(ha:md X a fa):F8 X tg a (iS fa):=by
 intro pins s σ H R I ⟨ρ,O,E,h⟩;unfold iS at h
 cases q:fa ρ with
 | bad=>rw[q]at h;exact h.elim
 | err c=>exact tj ha pins s σ H R I ⟨ρ,O,E,by unfold iL;rw[q]at h ⊢;exact h⟩
 | ok x=>
  rw[q,aC]at h
  cases x with
  | lst l=>exact tj ha pins s σ H R I ⟨ρ,O,E,by unfold iL;rw[q];exact h⟩
  | tup l=>exact Dj ha pins s σ H R I ⟨ρ,O,E,by unfold iT;rw[q];exact h⟩
  | _=>exact h.elim
theorem Ac {tg iter:Expr}{body:List Stmt}{wi:TI}{g:TG}{tb:TS}{pos:Pos}(hc:X.calm=true)(hi:DI X tg iter wi)(hg:PG X.nox tg g)(hb:DSs X.nox body tb)
  (hs:autoParam (∀x,Im iter X.env x=pure x) t_):DS X (.For tg iter body [] pos) (BD wi g tb):=by
 intro pins s σ H D I h;refine yx (fL (hi pins s σ H _ I h) λv s1 h1=>bF h1 λitv s2 h2=> ?_) hs
 obtain⟨it,fp,tn,J,H2,e,I2,T,st2,f2,W,⟨m0,w0⟩,turn⟩:=h2;subst e
 have stat:∀{H':Hp},(∀b∈fp,H' b=none)->∀b∈fp,hG X pins H' b:=λhn b hb=>⟨hn b hb,(f2 b hb).2⟩
 refine lT (λn s'=> ∃i σ' H',Inv X pins σ' H' s'/\tn i s'.heap/\(∀b∈fp,H' b=none)/\W i n σ' H') ?_ m0 ⟨0,σ,H2,I2,st2,λb hb=>(f2 b hb).1,w0⟩
 rintro n s3 ⟨i,σ3,H3,I3,st3,fr3,w3⟩
 rcases turn i n σ3 H3 w3 with⟨stop,qn⟩ | ⟨go,N,hN,step⟩
 ·refine dU (bF (T.done X.nox rfl rfl rfl hc i pins s3 σ3 H3 _ (I3.FM _) (stat fr3) st3 stop) λr s4 ⟨hr,I4⟩=> ?_)
  subst hr;exact KD ⟨σ3,H3,I4.FM _,qn⟩
 ·refine dU (bF (T.item X.nox rfl rfl rfl hc i pins s3 σ3 H3 _ (I3.FM _) (stat fr3) st3 go) λr s4 ⟨u,hr,h4⟩=> ?_)
  subst hr;refine dU (bF h4 λ_ s5 hh_=> ?_)
  obtain⟨x,H5,I5,r5,y5,st5,fr5⟩:=hh_
  have I5':=Inv.pinned (X:=X.nox) I5 (stat fr5) (T.obj _ _ st5);refine dU (bF (hg _ s5 σ3 H5 x u _ I5' r5 (step x H5 y5)) λ_ s6 hh_=> ?_)
  obtain⟨σ6,H6,I6,q6⟩:=hh_;refine sE (fL (hb _ s6 σ6 H6 _ I6 q6) λf s7 q7=> ?_)
  have again:∀{σ7:L2.St} {H7:Hp},Inv X.nox (pins++gM fp s5.heap) σ7 H7 s7->N σ7 H7->∃m,m<n/\∃i σ' H',Inv X pins σ' H' s7/\tn i s7.heap/\(∀b∈fp,H' b=none)/\W i m σ' H':=λ{σ7 H7} I7 n7=>by
   obtain⟨m',hm,w7⟩:=hN σ7 H7 n7;refine⟨m',hm,i+1,σ7,H7,(Inv.Gv (X:=X.nox) I7).FM _,T.keep _ _ _ st5 λb hb o e=>(I7.pin (b,o) (H0 _ (H0 _ (bY hb e)))).1,λb hb=> ?_,w7⟩
   obtain⟨o,e,d⟩:=T.obj _ _ st5 b hb;exact(I7.pin (b,o) (H0 _ (H0 _ (bY hb e)))).2.1
  cases f with
  | next=>obtain⟨σ7,H7,I7,n7⟩:=q7;exact again I7 n7
  | cont=>obtain⟨σ7,H7,I7,n7⟩:=q7;exact again I7 n7
  | brk=>obtain⟨σ7,H7,I7,q7⟩:=q7;exact⟨σ7,H7,(Inv.Gv (X:=X.nox) I7).FM _,q7⟩
  | ret v=>obtain⟨x7,σ7,H7,I7,r7,q7⟩:=q7;exact⟨x7,σ7,H7,(Inv.Gv (X:=X.nox) I7).FM _,r7,q7⟩
theorem Dr {tg iter:Expr}{body:List Stmt}{fi:En->Rs (List T)}{g:T->En->Rs En}{F:En->Rs Fl}(hc:X.calm=true)(hi:F8 X tg iter fi)(hg:uT X.nox tg g)(hb:l9 X.nox body F)
  (hs:autoParam (∀x,Im iter X.env x=pure x) t_):AG X (.For tg iter body [] pos) (fB fi g F):=DS.imp (Ac hc hi hg hb hs) λD σ H hh_=>by
 obtain⟨ρ,B,M,E,h⟩:=hh_;refine⟨ρ,OO B M,E.o,?_⟩
 unfold fB at h
 cases q:fi ρ with
 | bad=>rw[q]at h;exact h.elim
 | err c=>rw[q]at h;exact PostF.xa h
 | ok ts=>
  rw[q,aC]at h
  cases qq:bo g F ts ρ with
  | bad=>rw[qq]at h;exact h.elim
  | err c=>rw[qq]at h;exact h.elim
  | ok fin=>
  rw[qq]at h;intro H1 s1 J hJ
  have E1:Ev X.K B M H1 ρ σ:=E.same s1
  have h1:PostF X B M.u H1 (.ok fin) D:=PostF.later h (SameO.of s1) λa z=> .inl z
  refine⟨λi m σ' H'=>m=ts.length - i/\i<=ts.length/\SameO M.u H1 H'/\∃ρ' M',Ev X.K B M' H' ρ' σ'/\(∀a,M'.u a->M.u a\/Nw X.K H1 a)/\bo g F (ts.drop i) ρ'= .ok fin,
   ⟨ts.length,by omega,IZ _,λ_ _ e _=>e,ρ,M,E1,λa z=> .inl z,by simpa using qq⟩,?_⟩
  rintro i m σ' H' ⟨rfl,hi',sm,ρ',M',E',ow,hl⟩
  have it:=hJ M.u (OO B M') (λa z=> .inl (.inr z)) (λa z=>z.elim (λw=> .inl (.inl w)) λw=>(ow a w).elim (λy=> .inl (.inr y)) .inr) i H' sm (λa z=>(E'.env.trk a z).some)
  by_cases hlt:i<ts.length
  ·have hti:ts[i]? =some ts[i]:=by simp
   obtain⟨go,yl⟩:=it.2 ts[i] hti;rw[JG hlt]at hl;unfold bo at hl;refine .inr ⟨go,λσ2 H2=> ∃m',m'<ts.length - i/\(m'=ts.length - (i+1)/\i+1<=ts.length/\SameO M.u H1 H2/\∃ρ2 M2,Ev X.K B M2 H2 ρ2 σ2/\(∀a,M2.u a->M.u a\/Nw X.K H1 a)/\bo g F (ts.drop (i+1)) ρ2= .ok fin),λσ2 H2 z=>z,λx Hc y=> ?_⟩
   obtain⟨sc,rx⟩:=yl x Hc y;refine⟨ρ',OO B M',M',ts[i],E'.env.same sc,rx,?_⟩
   cases e1:g ts[i] ρ' with
   | bad=>rw[e1]at hl;cases hl
   | err cc=>rw[e1]at hl;cases hl
   | ok ρ1=>
    rw[e1,aC]at hl;intro σ1 Eg
    have E2:Ev X.K B M' Hc ρ1 σ1:=⟨Eg,E'.mine⟩;refine⟨ρ1,B,M',E2,?_⟩
    have smc:SameO M.u H1 Hc:=λb o e n=>sc _ _ (sm b o e n)
    have onward:∀{σ3:L2.St} {H3:Hp} {ρ3:En} {M3:Mn},SameO M'.u Hc H3->Ev X.K B M3 H3 ρ3 σ3->(∀a,M3.u a->M'.u a\/Nw X.K Hc a)->bo g F (ts.drop (i+1)) ρ3= .ok fin →
      ∃m',m'<ts.length - i/\(m'=ts.length - (i+1)/\i+1<=ts.length/\SameO M.u H1 H3/\∃ρ2 M2,Ev X.K B M2 H3 ρ2 σ3/\(∀a,M2.u a->M.u a\/Nw X.K H1 a)/\bo g F (ts.drop (i+1)) ρ2= .ok fin):=
     λ{σ3 H3 ρ3 M3} s3 E3 o3 p3=>⟨_,by omega,rfl,hlt,smc.trans s3 ow,ρ3,M3,E3,λa z=>(o3 a z).elim (ow a) (fv smc),p3⟩
    cases e2:F ρ1 with
    | bad=>rw[e2]at hl;cases hl
    | err cc=>rw[e2]at hl;cases hl
    | ok f=>
     rw[e2,aC]at hl
     cases f with
     | nx ρ2=>exact λσ3 H3 M3 s3 E3 o3=>onward s3 E3 o3 hl
     | ct ρ2=>exact λσ3 H3 M3 s3 E3 o3=>onward s3 E3 o3 hl
     | bk ρ2=>
      cases hl
      exact λσ3 H3 M3 s3 E3 o3=>h1 σ3 H3 M3 (smc.trans s3 ow) E3 λa z=>(o3 a z).elim (ow a) (fv smc)
     | rt t=>
      cases hl;exact λv H3 s3 r=>h1 v H3 (smc.trans s3 ow) r
  ·refine .inl ⟨it.1 (by omega),?_⟩
   have hi2:i=ts.length:=by omega
   subst hi2;rw[LY]at hl;cases hl;exact h1 σ' H' M' sm E' ow
theorem FV (hc:DK X c f)(ha:md X a fa)(hb:md X b fb):md X (.IfExp c a b pos) (zQ f fa fb):=by
 intro pins s σ H Q I ⟨ρ,O,E,hq⟩;refine vf (fL (hc pins s σ H _ I (gH E hq)) λk s1 hh_=> ?_)
 obtain⟨H1,I1,q⟩:=hh_;obtain⟨s',E',q'⟩:=q
 cases k with
 | true=>exact ha pins s1 σ H1 Q I1 ⟨ρ,O,E',by simpa using q'⟩
 | false=>exact hb pins s1 σ H1 Q I1 ⟨ρ,O,E',by simpa using q'⟩
theorem Ds {op:Oz}{g:T->T->Rs T}(ho:OpT X (Jl op) g)(ha:md X a fa)(hb:md X b fb)(hm:JJ op b=false):md X (.Compare a [op] [b] pos) (o2 g fa fb):=by
 intro pins s σ H Q I ⟨ρ,O,E,hq⟩
 have h1:=aI E hq;refine pj (fL (ha pins s σ H _ I h1) λv s1 ⟨x,H1,I1,r1,t,rt,s',E',q1⟩=> ?_) hm
 have h2:=aI (f:=fb) E' q1;refine fL (hb pins s1 σ H1 _ I1 h2) λu s2 hh_=> ?_
 obtain⟨y,H2,I2,r2,t2,rt2,s'',E'',q2⟩:=hh_;exact .of (ho pins s2 σ H2 O t t2 x y v u Q I2 (λp=>E''.fresh) (rt.same s'') rt2 r1 r2 q2)
theorem DX (hc:UT X c f)(ha:UE X a fa)(hb:UE X b fb):UE X (.IfExp c a b pos) (zQ f fa fb):=⟨FV hc.h ha.h hb.h⟩
theorem vo {op:Oz}{g:T->T->Rs T}(ho:OpT X (Jl op) g)(ha:UE X a fa)(hb:UE X b fb)(hm:autoParam (JJ op b=false) u_):UE X (.Compare a [op] [b] pos) (o2 g fa fb):=⟨Ds ho ha.h hb.h hm⟩
structure UI (X:Cx)(tg iter:Expr)(f:En->Rs (List T)):Prop where
 h:F8 X tg iter f
theorem Bw {tg:Expr}(ha:UE X a fa):UI X tg a (iS fa):=⟨Dk ha.h⟩
theorem Bx {tg iter:Expr}{body:List Stmt}{fi:En->Rs (List T)}{g:T->En->Rs En}{F:En->Rs Fl}(hc:X.calm=true)(hi:UI X tg iter fi)(hg:QG X.nox tg g)(hb:x8 X.nox body F)(hs:autoParam (∀x,Im iter X.env x=pure x) t_):US X (.For tg iter body [] pos) (fB fi g F):=⟨Dr hc hi.h hg.h hb.h hs⟩
end
end Tr
namespace L2
open PySem PySem.Spec PyProof.Rows
section
variable {M:L7}{A:IE}{E:HL->HJ->Prop}{s:HJ}{env:Env}{pos:Pos}
theorem Bt {e₁ e₂:Expr}{aY:List Expr}{Q:HL->HJ->Prop}
  (h:wC M A (eval e₁ env) (λv s₁=>wpAny M A (truthy v) (λc s₂=>if c then wC M A (eval (.BoolOp .And (e₂::aY) pos) env) Q E s₂ else Q v s₂) E s₁) E s):wC M A (eval (.BoolOp .And (e₁::e₂::aY) pos) env) Q E s:=by
 show wC M A (do
  let v <-eval e₁ env
  standAt pos
  let c <-holding [v] (truthy v)
  match BoolOp.And,c with
  | .And,false | .Or,true=>pure v
  | _,_=>boolOp pos .And (eval e₂ env::evalEach aY env)) Q E s
 refine aQ (bL h (λv s₁ h₁=>dG (ay (Jp (IR h₁ (λc s₂ h₂=> ?_) λ_ _ x=>x)))) λ_ _ x=>x)
 cases c with
 | false=>exact a0 h₂
 | true=>exact h₂
theorem yy {e:Expr}{Q:HL->HJ->Prop}(h:wC M A (eval e env) Q E s):wC M A (eval (.BoolOp .And [e] pos) env) Q E s:=h
end
end L2
namespace Tr
open PySem PySem.Spec PyProof.Rows L2
section
variable {X:Cx}{a b:Expr}{aY:List Expr}{fa fb:En->Rs T}{pos:Pos}
theorem Du (ha:md X a fa)(hb:md X (.BoolOp .And (b::aY) pos) fb):md X (.BoolOp .And (a::b::aY) pos) (bJ fa fb):=by
 intro pins s σ H Q I ⟨ρ,O,E,hq⟩;refine Bt (fL (ha pins s σ H _ I (aI E hq)) λv s1 hh_=> ?_)
 obtain⟨x,H1,I1,r1,t,rt,s',E',q'⟩:=hh_
 split at q'
 ·obtain rfl:=Rep.Gc.mp rt
  cases r1;exact Jk (hb pins s1 σ H1 Q I1 ⟨ρ,O,E',q'⟩)
 ·obtain rfl:=Rep.Gc.mp rt
  cases r1;exact Jk ⟨.bl false,H1,I1,rfl,q' H1 (Same.refl H1) _ (Rep.bl_ false)⟩
 ·exact q'.elim
theorem By (ha:UE X a fa)(hb:UE X (.BoolOp .And (b::aY) pos) fb):UE X (.BoolOp .And (a::b::aY) pos) (bJ fa fb):=⟨Du ha.h hb.h⟩
theorem yB (ha:UE X a fa):UE X (.BoolOp .And [a] pos) fa:=⟨λpins s σ H Q I h=>yy (ha.h pins s σ H Q I h)⟩
end
def jJ (x:Str)(lo hi:Option Int):Str:=if ((Ic lo hi 1 x.length).length == x.length)=true then x else⟨((Ic lo hi 1 x.length).filterMap (x.cps[·]?)).toArray⟩
def rSlS:V->Option Int->Option Int->Hp->VK->Prop:=λx lo hi H Q=> ∃s:Str,x= .str s/\(jJ s lo hi).length<=1000000/\Q (.str (jJ s lo hi)) H
section
variable {X:Cx}{a:Expr}{fa:En->Rs T}{pos:Pos}
theorem BK:SlR X rSlS:=by
 intro pins s σ H x v vl vu lo hi sl Q I rx hs pl pu h;obtain⟨y,rfl,hy,q⟩:=h;obtain⟨t,rfl⟩:=rx;refine⟨"str",_,PySem.F.slot_str_getitem.lookup,typeIs_str _ _ _,?_⟩
 have key:∀(l u:Option (Int×Tok)),l.map (·.1)=lo->u.map (·.1)=hi->s.heap.IsSlice sl l u none->wpAny (model X.prog X.w) X.A (getItem (.str y t) (.ref sl)) (EP X pins σ Q) X.xe s:=λl u el eu hsl=>by
  refine wpAny_getItem_str_slice hsl rfl ?_
  unfold sliceMade slicePicked;unfold jJ at q hy;rw[el,eu]
  show Made.post (if (true&&((Ic lo hi 1 y.length).length == y.length))=true then .val (.str y t)else .str ⟨((Ic lo hi 1 y.length).filterMap (y.cps[·]?)).toArray⟩) _ _
  rw[Lw]
  by_cases hc:((Ic lo hi 1 y.length).length == y.length)=true
  ·rw[if_pos hc]at q ⊢
   exact⟨.str y,H,I,⟨_,rfl⟩,q⟩
  ·rw[if_neg hc]at q hy ⊢
   exact⟨by rw[JL];exact IA hy (by decide),⟨.str _,H,I.tok _,⟨_,rfl⟩,q⟩⟩
 cases pl with
 | none=>
  cases pu with
  | none=>exact key none none rfl rfl hs
  | int j k=>exact key none (some (j,k)) rfl rfl hs
 | int i k=>
  cases pu with
  | none=>exact key (some (i,k)) none rfl rfl hs
  | int j k'=>exact key (some (i,k)) (some (j,k')) rfl rfl hs
def Eh (x:T)(lo hi:Option Int):Rs T:=match x with
 | .str y=>if (jJ y lo hi).length<=1000000 then .ok (.str (jJ y lo hi))else .bad
 | _=> .bad
def AV (fe:En->Rs T)(fl fu:En->Rs (Option Int))(ρ:En):Rs T:=do
 let x <-fe ρ
 let l <-fl ρ
 let u <-fu ρ
 Eh x l u
theorem vZ {lo hi:Option Expr}{p2:Pos}{fl fu:En->Rs (Option Int)}(ha:cL X a fa)(hl:AD X lo fl)(hu:AD X hi fu):cL X (.Subscript a (.Slice lo hi none p2) pos) (AV fa fl fu):=by
 intro pins s σ H Q I ⟨ρ,O,E,hq⟩;refine pO BK ha hl hu pins s σ H Q I ?_
 obtain⟨ρ1,O1,E1,h1⟩:=aI E hq;refine⟨ρ1,O1,E1,Post.mono h1 λts H1 s1 q vs r=> ?_⟩
 obtain⟨t',r',s',E',q'⟩:=q vs r;obtain⟨ρ2,O2,E2,h2⟩:=fO E' q';refine⟨ρ2,O2,E2,Post.mono h2 λo1 H2 s2 q=> ?_⟩
 obtain⟨s2',E2',q2⟩:=q;obtain⟨ρ3,O3,E3,h3⟩:=fO E2' q2;refine⟨ρ3,O3,E3,Post.mono h3 λo2 H3 s3 q=> ?_⟩
 obtain⟨s3',E3',q3⟩:=q
 have rt:=(r'.same s2').same s3';unfold Eh at q3
 split at q3
 ·rename_i y
  split at q3
  ·rename_i hl
   exact⟨y,Rep.FS.mp rt,hl,q3 H3 (Same.refl H3) _ (Rep.GG _)⟩
  ·exact q3.elim
 ·exact q3.elim
theorem jL {lo hi:Option Expr}{p2:Pos}{fl fu:En->Rs (Option Int)}(ha:QE X a fa)(hl:QO X lo fl)(hu:QO X hi fu):QE X (.Subscript a (.Slice lo hi none p2) pos) (AV fa fl fu):=⟨vZ ha.h hl.h hu.h⟩
end
def Gf (c:Nat):Str:=⟨#[c]⟩
def rk:List T->Rs T
 | [.str x] =>if x.cps.size<=1000000 then .ok (.lst ((x.cps.toList.map Gf).map .str))else .bad
 | _=> .bad
theorem kS:∀(l:List Nat) (us:List HL),us.length=l.length->(∀(j:Nat) (v:HL),us[j]? =some v->∃c u,l[j]? =some c/\v= .str ⟨#[c]⟩ u)->Vals ((l.map Gf).map V.str) us
 | [],[],_,_=> .nil
 | c::l,u::us,hl,h=>by
  refine .cons ?_ (kS l us (by simpa using hl) λj v e=> ?_)
  ·obtain⟨d,t,e1,e2⟩:=h 0 u rfl
   cases e1;exact⟨t,e2⟩
  ·obtain⟨d,t,e1,e2⟩:=h (j+1) v (by simpa using e)
   exact⟨d,t,by simpa using e1,e2⟩
 | [],_::_,hl,_=>by cases hl
 | _::_,[],hl,_=>by cases hl
section
variable {X:Cx}
theorem xQ (hc:X.calm=true):CallT X (.type "list") rk:=by
 intro pins s σ H O ts vs us Q I hf rs rv hp;unfold rk at hp
 split at hp
 ·rename_i x
  split at hp
  ·rename_i hx
   obtain⟨v,rfl,r⟩:=rs.one;obtain⟨u,rfl,z⟩:=Vals.one rv;rw[Rep.FS.mp r]at z;obtain⟨t,rfl⟩:=z
   have hz:x.cps.size<=sizeLine:=by rw[JL];omega
   refine call_list_str (I.ok.hd hc) x t (λh' tk acc c' hk hS ha=> ?_) hz
   obtain⟨h1,h2⟩:=ha
   have hv:Vals ((x.cps.toList.map Gf).map V.str) acc.toList:=kS _ _ (by simp[h1]) λj v e=>by
    obtain⟨c,w,e1,e2⟩:=h2 j v (by simpa using e)
    exact⟨c,w,by simpa using e1,e2⟩
   have np:=I.hok.fresh (Ia s.heap.objs.size)
   have I2:Inv X pins σ (cz H s.heap.objs.size (.lst ((x.cps.toList.map Gf).map V.str))) { s with heap:=h',toks:=tk }:=
    I.laid hk (Ia _) ⟨by simp;exact hz,acc.toList,c',hv,by simpa using hS⟩
   exact⟨.ref _,_,I2,rfl,hp _ (aV np _) _ (eF np (hf _ np) (ik _))⟩
  ·exact hp.elim
 ·exact hp.elim
end
end Tr
namespace G
open PySem PySem.Spec PyProof.Rows L2 Tr
structure Bl (mg:Str->Option HL):Prop where
 b_ValueError:mg "ValueError" =none
 b_all:mg "all" =none
 b_bool:mg "bool" =none
 b_dict:mg "dict" =none
 b_enumerate:mg "enumerate" =none
 b_int:mg "int" =none
 b_isinstance:mg "isinstance" =none
 b_len:mg "len" =none
 b_list:mg "list" =none
 b_range:mg "range" =none
 b_str:mg "str" =none
 b_tuple:mg "tuple" =none
 b_zip:mg "zip" =none
structure Cs (mg:Str->Option HL):Prop where
 MOST_CLOCKS:∃t,mg "MOST_CLOCKS" =some (.int 4 t)
 MOST_LETTERS:∃t,mg "MOST_LETTERS" =some (.int 8 t)
 MOST_READINGS:∃t,mg "MOST_READINGS" =some (.int 4 t)
 LAST_READING:∃t,mg "LAST_READING" =some (.int 99 t)
 SLOWEST:∃t,mg "SLOWEST" =some (.int 9 t)
 LONGEST:∃t,mg "LONGEST" =some (.int 999 t)
 FARTHEST:∃t,mg "FARTHEST" =some (.int 999999999 t)
theorem oU:IC "bool" =some (.type "bool"):=by decide+kernel
theorem g9:IC "int" =some (.type "int"):=by decide+kernel
theorem jK:IC "list" =some (.type "list"):=by decide+kernel
theorem cZ:IC "str" =some (.type "str"):=by decide+kernel
theorem ef:IC "tuple" =some (.type "tuple"):=by decide+kernel
structure Xs (K:HI)(mg:Str->Option HL)(C_NoRecord C_NoEvent C_NoNumber C_NoText C_ClockError:Addr):Prop where
 m_NoRecord:mg "NoRecord" =some (.ref C_NoRecord)
 m_NoEvent:mg "NoEvent" =some (.ref C_NoEvent)
 m_NoNumber:mg "NoNumber" =some (.ref C_NoNumber)
 m_NoText:mg "NoText" =some (.ref C_NoText)
 m_ClockError:mg "ClockError" =some (.ref C_ClockError)
 o_NoRecord:OX K C_NoRecord (.ref C_ClockError::lY)
 o_NoEvent:OX K C_NoEvent (.ref C_ClockError::lY)
 o_NoNumber:OX K C_NoNumber (.ref C_ClockError::lY)
 o_NoText:OX K C_NoText (.ref C_ClockError::lY)
 o_ClockError:OX K C_ClockError lY
 d:[C_NoRecord,C_NoEvent,C_NoNumber,C_NoText,C_ClockError].Nodup
abbrev bH:Stmt:=top 48
theorem aap:bN ["_law_e","_law_flags"] ["_law_e"] (ao bH):=⟨rfl,rfl,rfl,by decide+kernel,rfl,by decide+kernel,by decide+kernel⟩
def ff (j:Nat):T:=.tup [.str "refused",.int (j:Nat)]
def mG (c:Str):Rs T:=if c= "NoRecord" then .ok (ff 0)else if c= "NoNumber" then .ok (ff 1)else if c= "NoText" then .ok (ff 2)else .bad
section
variable {P:Ip}{w:IV}{K:HI}{mg:Str->Option HL}{base:Heap}{C_NoRecord C_NoEvent C_NoNumber C_NoText C_ClockError:Addr}
theorem Xs.ne {C D:Addr}(h:C≠D):(IB C::lY).contains (.ref D)=false:=by
 rw[JR]
 have:(IB D == IB C)=false:=by rw[beq_eq_false_iff_ne];exact λz=>h (Oe z).symm
 rw[this];rfl
theorem vV {C e f:Addr}{oe:Obj}{ev:Array HL}{A:IE}{outer:List Env}{s:HJ}{H:Hp}{Q:VK}{j:Nat}(S:Xs K mg C_NoRecord C_NoEvent C_NoNumber C_NoText C_ClockError)(OC:OX K C (.ref C_ClockError::lY))
  (hc:oe.cls= .ref C) (hd:oe.data= .fields ev) (hi:mg "isinstance" =none) (hv:mg "ValueError" =none) (n_NoRecord:C_ClockError≠C_NoRecord) (n_NoNumber:C_ClockError≠C_NoNumber) (n_NoText:C_ClockError≠C_NoText)
  {b0 b1 b2:Bool} (h0:decide (C=C_NoRecord)=b0) (h1:decide (C=C_NoNumber)=b1) (h2:decide (C=C_NoText)=b2)
  (cnt:[b0,b1,b2].countP id=1) (hj:[b0,b1,b2][j]? =some true) (hno:∀m,m<j->[b0,b1,b2][m]? =some false)
  (q:∀p H',Same H H'->H p=none->H' p=some (.tup [.str "refused",.int (j:Nat)])->Q (.ref p) H') (cdv:HL) :
  ∃t,PSs (Gm P w K mg base ["_law_e","_law_flags"] "_law_refused" (ao bH) f cdv A outer s H e oe) (br bH) t/\t { nx:=λ_ _=>False,rt:=Q } (start ["_law_e","_law_flags"] [.ref e]) H:=by
 have nd:=aap.nd
 have hp:(e,oe)∈(Gm P w K mg base ["_law_e","_law_flags"] "_law_refused" (ao bH) f cdv A outer s H e oe).pn:=HU
 refine⟨_,lg (wb (i:=1) nd rfl (Ph rfl) (wm (b9 (qX rfl (Ph rfl) hp hc hd OC S.o_NoRecord b0 h0 (λ_=>Xs.ne n_NoRecord) hi S.m_NoRecord) (b9 (qX rfl (Ph rfl) hp hc hd OC S.o_NoNumber b1 h1 (λ_=>Xs.ne n_NoNumber) hi S.m_NoNumber) (b9 (qX rfl (Ph rfl) hp hc hd OC S.o_NoText b2 h2 (λ_=>Xs.ne n_NoText) hi S.m_NoText) fD)))))
  (lg (AY (PW.pt (AX (y6 EZ (wu Lp PySem.F.slot_list_count PySem.F.type_list_count uh (pv 1) (b9 wy fD)) wq (CF _)) (v8 (wa (v9 (Co rfl (Ph rfl) hp hc OC hi hv)))))) (il wc) si)
  (il (lh (wj (b9 wk (b9 (wu Lp PySem.F.slot_list_index PySem.F.type_list_index uf (pv 1) (b9 wy fD)) fD)))))),?_⟩
 refine⟨rfl,rfl,rfl,(by show 3<=sizeLine;decide),λl1 n1=> ?_⟩
 refine⟨.ref l1,rfl,.inl ⟨rfl,_,SqL.of aU⟩,⟨l1,[b0,b1,b2],rfl,rfl,aU,?_⟩⟩
 have hz:(!decide (V.int (([b0,b1,b2].countP id:Nat):Int)=V.int 1))=false:=by rw[cnt];simp
 refine⟨rfl,false,congrArg V.bl hz,iteF ⟨rfl,true,rfl,iteF ?_⟩⟩
 have hj6:j<3:=by have:=(Ii.mp hj).1;simpa using this
 refine⟨.ref l1,rfl,.inl ⟨rfl,_,SqL.of aU⟩,⟨l1,[b0,b1,b2],j,rfl,rfl,aU,hj,hno,by omega,(by show 2<=sizeLine;decide),λp np=>q p _ ?_ ?_ aU⟩⟩
 rotate_left
 ·have m1:p≠l1:=λz=>by subst z;rw[aU]at np;cases np
  rw[aO m1]at np;exact np
 intro b o hb
 have m1:b≠l1:=λz=>by subst z;rw[n1]at hb;cases hb
 have m4:b≠p:=λz=>by subst z;rw[aO m1,hb]at np;cases np
 rw[aO m4,aO m1];exact hb
end
section
variable {X:Cx}{C_NoRecord C_NoEvent C_NoNumber C_NoText C_ClockError:Addr}
def tRC (X:Cx)(i:Nat)(e:Addr)(j:Nat):TE:=λσ H Q=>σ[i]? =some (some (.ref e))/\H e=none/\e∉iX X.stack/\∀p H',Same H H'->H p=none->H' p=some (.tup [.str "refused",.int (j:Nat)])->Q (.ref p) H'
theorem iQ {en:Str}{p p1 pos:Pos}{i j:Nat}{C e f:Addr}{fd:Je}{oe:Obj}{ev:Array HL}(hN:X.N[i]? =some en)(hv:rO X.env.scope en)
  (Fn_:Fn X.K X.mg "_law_refused" bH ["_law_e"] f fd) (S:Xs X.K X.mg C_NoRecord C_NoEvent C_NoNumber C_NoText C_ClockError) (OC:OX X.K C (.ref C_ClockError::lY))
  (hc:oe.cls= .ref C) (hd:oe.data= .fields ev) (hi:X.mg "isinstance" =none) (hvv:X.mg "ValueError" =none) (n_NoRecord:C_ClockError≠C_NoRecord) (n_NoNumber:C_ClockError≠C_NoNumber) (n_NoText:C_ClockError≠C_NoText)
  {b0 b1 b2:Bool} (h0:decide (C=C_NoRecord)=b0) (h1:decide (C=C_NoNumber)=b1) (h2:decide (C=C_NoText)=b2)
  (cnt:[b0,b1,b2].countP id=1) (hj:[b0,b1,b2][j]? =some true) (hno:∀m,m<j->[b0,b1,b2][m]? =some false) (hr:X.A.depth+3<KU)
  (hg:autoParam (Gl (oK X e oe) "_law_refused") u_) (hde:autoParam ((en == ("__debug__" : Str))=false) s_) (hce:autoParam ((en == ("__classdict__" : Str))=false) s_)
  (he:autoParam (Ik [.Name en p1] X.env=(false,eval (.Name en p1) X.env)::Ik [] X.env) u_) (hpl:autoParam ((backTo pos (Ik [] X.env)).any (·.1)=false) u_) :
  PE (oK X e oe) (.Call (.Name "_law_refused" p) [.Name en p1] [] pos) (tRC X i e j):=by
 intro pins s σ H Q I ⟨hσ,hH,hf,q⟩;refine Jw (gf (X:=oK X e oe) I hg Fn_.mg ?_ (by decide))
 have hA:PA (oK X e oe) [.Name en p1] (jn (vG i) vH):=b9 (jP (X:=oK X e oe) hN hv hde hce) fD he;refine Mt (h₀:=X.base) I.ok.mod.kin Fn_.fn.kp (bF (hA pos pins s σ H (λvs H'=>vs= [.ref e]/\H'=H) I ⟨.ref e,hσ,rfl,rfl⟩) λus s1 ⟨vs,H1,I1,r,e1,e2⟩=>⟨I1.kIn,?_⟩) he hpl
 subst e1;subst e2;obtain⟨u,rfl,ru⟩:=jg r;cases ru
 have hoe:s1.heap.get? e=some oe:=(I1.pin (e,oe) (Iw _ HU)).1
 have hb:=Fn_.bd s1 [.ref e] I1.kIn rfl;refine wpAny_call (Pr (C2 (Q:=Q) Fn_.fn aap (vs:=[.ref e]) rfl hr I1.G1 hb r hoe hH hf (λv z=>by rw[hd]at z;cases z) λcdv=>vV S OC hc hd hi hvv n_NoRecord n_NoNumber n_NoText h0 h1 h2 cnt hj hno q cdv) λr s' hq=> ?_)
 cases r with
 | error ev=>exact hq.elim
 | ok fl=>
  cases fl with
  | ret u=>exact I1.after hq
  | next=>exact hq.elim
  | brk=>exact hq.elim
  | cont=>exact hq.elim
theorem n0 {K:HI}{O:Ow}{H H':Hp}{p:Addr}{j:Nat}(hO:∀p,H p=none->¬ O p)(hp:H p=none)(h:H' p=some (.tup [.str "refused",.int (j:Nat)])):Rep K O H' (ff j) (.ref p):=
 Rep.Fk.mpr ⟨p,_,rfl,hO p hp,h,Reps.Gw (Rep.GG _) (Reps.Gw (Rep.GA _) Reps.Gz)⟩
theorem vJ {en:Str}{p p1 pos rp:Pos}{i:Nat}{f:Addr}{fd:Je}(hN:X.N[i]? =some en)(hv:rO X.env.scope en)
  (Fn_:Fn X.K X.mg "_law_refused" bH ["_law_e"] f fd) (S:Xs X.K X.mg C_NoRecord C_NoEvent C_NoNumber C_NoText C_ClockError) (hi:X.mg "isinstance" =none) (hvv:X.mg "ValueError" =none) (hr:X.A.depth+3<KU)
  (hg:autoParam (∀e oe,Gl (oK X e oe) "_law_refused") x_) (hde:autoParam ((en == ("__debug__" : Str))=false) s_) (hce:autoParam ((en == ("__classdict__" : Str))=false) s_)
  (he:autoParam (Ik [.Name en p1] X.env=(false,eval (.Name en p1) X.env)::Ik [] X.env) u_) (hpl:autoParam ((backTo pos (Ik [] X.env)).any (·.1)=false) u_) :
  oY X i [.Return (some (.Call (.Name "_law_refused" p) [.Name en p1] [] pos)) rp] C_ClockError mG:=by
 have dd:=S.d
 have ap:∀{a b:Addr} (i j:Nat),i<j->[C_NoRecord,C_NoEvent,C_NoNumber,C_NoText,C_ClockError][i]? =some a->[C_NoRecord,C_NoEvent,C_NoNumber,C_NoText,C_ClockError][j]? =some b->a≠b:=λ{a b} i j hij ha hb z=>by
  have:=(List.getElem?_inj (Ii.mp ha).1 dd).mp (ha.trans (z▸hb.symm))
  omega
 have hin:∀C:Addr,(IB C:: .ref C_ClockError::lY).contains (.ref C_ClockError)=true:=λC=>by rw[JR,JR,beq_self_eq_true,Pn,Pm]
 have n_NoRecord:C_ClockError≠C_NoRecord:=(Kv (ap 0 4 (by decide) rfl rfl))
 have n_NoNumber:C_ClockError≠C_NoNumber:=(Kv (ap 2 4 (by decide) rfl rfl))
 have n_NoText:C_ClockError≠C_NoText:=(Kv (ap 3 4 (by decide) rfl rfl))
 intro c C t hm ht;unfold mG at ht
 by_cases z0:c= "NoRecord"
 ·rw[if_pos z0]at ht
  cases ht;rw[z0,S.m_NoRecord]at hm;cases hm;refine⟨_,S.o_NoRecord,hin _,λe oe ev hc hd pins s σ H O Q I hH hf hσ hO q=> ?_⟩
  exact il (lh (iQ hN hv Fn_ S S.o_NoRecord hc hd hi hvv n_NoRecord n_NoNumber n_NoText (b0:=true) (b1:=false) (b2:=false) (by simp) (by rw[decide_eq_false (ap 0 2 (by decide) rfl rfl)]) (by rw[decide_eq_false (ap 0 3 (by decide) rfl rfl)]) (by decide) (j:=0) rfl (λm hm=>by omega) hr (hg e oe) hde hce he hpl)) pins s σ H _ I ⟨hσ,hH,hf,λp H' sm hp h=>q _ _ sm (n0 hO hp h)⟩
 rw[if_neg z0]at ht
 by_cases z1:c= "NoNumber"
 ·rw[if_pos z1]at ht
  cases ht;rw[z1,S.m_NoNumber]at hm;cases hm;refine⟨_,S.o_NoNumber,hin _,λe oe ev hc hd pins s σ H O Q I hH hf hσ hO q=> ?_⟩
  exact il (lh (iQ hN hv Fn_ S S.o_NoNumber hc hd hi hvv n_NoRecord n_NoNumber n_NoText (b0:=false) (b1:=true) (b2:=false) (by rw[decide_eq_false (Kv (ap 0 2 (by decide) rfl rfl))]) (by simp) (by rw[decide_eq_false (ap 2 3 (by decide) rfl rfl)]) (by decide) (j:=1) rfl (λm hm=>by match m,hm with | 0,_=>rfl) hr (hg e oe) hde hce he hpl)) pins s σ H _ I ⟨hσ,hH,hf,λp H' sm hp h=>q _ _ sm (n0 hO hp h)⟩
 rw[if_neg z1]at ht
 by_cases z2:c= "NoText"
 ·rw[if_pos z2]at ht
  cases ht;rw[z2,S.m_NoText]at hm;cases hm;refine⟨_,S.o_NoText,hin _,λe oe ev hc hd pins s σ H O Q I hH hf hσ hO q=> ?_⟩
  exact il (lh (iQ hN hv Fn_ S S.o_NoText hc hd hi hvv n_NoRecord n_NoNumber n_NoText (b0:=false) (b1:=false) (b2:=true) (by rw[decide_eq_false (Kv (ap 0 3 (by decide) rfl rfl))]) (by rw[decide_eq_false (Kv (ap 2 3 (by decide) rfl rfl))]) (by simp) (by decide) (j:=2) rfl (λm hm=>by match m,hm with | 0,_=>rfl | 1,_=>rfl) hr (hg e oe) hde hce he hpl)) pins s σ H _ I ⟨hσ,hH,hf,λp H' sm hp h=>q _ _ sm (n0 hO hp h)⟩
 rw[if_neg z2]at ht;cases ht
end
end G
namespace G
open PySem Tr
def ib:En->Rs Fl:=
 (aJ (eE (tb (o2 eqT (vr 0) (g7 ai))) (aM (o2 cj (cn (.int 7)) (vr 1))) sN) (aM (o2 aB (o2 b7 (vr 0) (o2 jB (vr 1) (cl cH (ae (vr 0) ai)))) (o2 cj (cn (.int 6553)) (o2 jG (vr 1) (cl cH (ae (vr 0) ai)))))))
def eH:List T->Rs T:=val 2 2 ib
def gx:En->Rs Fl:=
 (aJ (c6 (o2 jB (o2 aB (o2 cj (o2 jB (cl eH (ae (vr 0) (ae (vr 1) ai))) (cn (.int 2147483563))) (cn (.int 69069))) (o2 cj (cn (.int 104723)) (o2 aB (vr 1) (cn (.int 1))))) (cn (.int 2147483563))) (gN 3)) (aJ (c6 (o2 jB (o2 aB (o2 cj (vr 3) (vr 3)) (o2 jG (vr 3) (cn (.int 3)))) (cn (.int 2147483399))) (gN 3)) (aM (o2 jB (o2 jG (o2 jB (o2 aB (o2 cj (vr 3) (vr 3)) (o2 jG (vr 3) (cn (.int 7)))) (cn (.int 2147483647))) (cn (.int 11))) (vr 2)))))
def aw:List T->Rs T:=val 3 4 gx
def iM:En->Rs Fl:=
 (aJ (c6 (g7 ai) (gN 1)) (aJ (fB (iE (ae (vr 0) ai)) (gT 2 (kB (gN 2) (kB (gN 3) uB))) (c6 (o2 aB (vr 1) (fF (iR (ae (cl cH (ae (o2 b7 (vr 3) (cn (.int 2))) ai)) ai)) [none,some 2] (gN 0) bT (bt (ae (vr 1) (ae (vr 0) ai))))) (gN 1))) (aM (vr 1))))
def bx:List T->Rs T:=val 1 4 iM
def dt:En->Rs Fl:=
 (aJ (c6 (cl bx (ae (vr 2) ai)) (gN 3)) (aJ (eE (tb (o2 A2 (cl cH (ae (vr 3) ai)) (cn (.int 2)))) (aM (cn .non)) sN) (aJ (c6 (cl aw (ae (vr 0) (ae (vr 1) (ae (cl cH (ae (vr 3) ai)) ai)))) (gN 4)) (aJ (c6 (o2 jB (o2 aB (o2 aB (vr 4) (cn (.int 1))) (cl aw (ae (vr 0) (ae (o2 aB (vr 1) (cn (.int 1))) (ae (o2 kr (cl cH (ae (vr 3) ai)) (cn (.int 1))) ai))))) (cl cH (ae (vr 3) ai))) (gN 5)) (aJ (c6 (cl aw (ae (vr 0) (ae (o2 aB (vr 1) (cn (.int 2))) (ae (cn (.int 8)) ai)))) (gN 6)) (aJ (c6 (zQ (tb (o2 eqT (cl aw (ae (vr 0) (ae (o2 aB (vr 1) (cn (.int 3))) (ae (cn (.int 3)) ai)))) (cn (.int 0)))) (cn .non) (o2 aB (vr 6) (cl aw (ae (vr 0) (ae (o2 aB (vr 1) (cn (.int 4))) (ae (cn (.int 9)) ai)))))) (gN 7)) (aM (bt (ae (o2 b7 (vr 3) (vr 4)) (ae (o2 b7 (vr 3) (vr 5)) (ae (vr 6) (ae (vr 7) ai))))))))))))
def cK:List T->Rs T:=val 3 8 dt
def gy:En->Rs Fl:=
 (aJ (c6 (o2 aB (cn (.int 1)) (cl aw (ae (vr 0) (ae (vr 1) (ae (cn (.int 3)) ai))))) (gN 2)) (aJ (c6 (bt (ae (cl aw (ae (vr 0) (ae (o2 aB (vr 1) (cn (.int 2))) (ae (cn (.int 6)) ai)))) ai)) (gN 3)) (aJ (fB (iR (ae (cl aw (ae (vr 0) (ae (o2 aB (vr 1) (cn (.int 1))) (ae (cn (.int 3)) ai)))) ai)) (gN 4) (c6 (o2 aB (vr 3) (bt (ae (o2 aB (o2 aB (o2 b7 (vr 3) (o1 gE (cn (.int 1)))) (cn (.int 1))) (cl aw (ae (vr 0) (ae (o2 aB (o2 aB (vr 1) (cn (.int 3))) (vr 4)) (ae (cn (.int 5)) ai))))) ai))) (gN 3))) (aM (bt (ae (vr 2) (ae (o2 aB (vr 2) (cl aw (ae (vr 0) (ae (o2 aB (vr 1) (cn (.int 6))) (ae (cn (.int 3)) ai))))) (ae (vr 3) ai))))))))
def bR:List T->Rs T:=val 2 5 gy
def fK:En->Rs Fl:=
 (aJ (c6 (cl jN (ae (fF (iR (ae (o2 aB (cn (.int 1)) (cl aw (ae (vr 0) (ae (vr 1) (ae (cn (.int 3)) ai))))) ai)) [none,some 0,some 1] (gN 0) bT (cl bR (ae (vr 1) (ae (o2 aB (o2 aB (vr 2) (cn (.int 1))) (o2 cj (cn (.int 8)) (vr 0))) ai)))) ai)) (gN 3)) (aJ (c6 (g7 ai) (gN 4)) (aJ (fB (iR (ae (cl aw (ae (vr 0) (ae (o2 aB (vr 1) (cn (.int 30))) (ae (o2 aB (vr 2) (cn (.int 1))) ai)))) ai)) (gN 5) (aJ (c6 (cl cK (ae (vr 0) (ae (o2 aB (o2 aB (vr 1) (cn (.int 31))) (o2 cj (cn (.int 6)) (vr 5))) (ae (vr 3) ai)))) (gN 6)) (c6 (o2 aB (vr 4) (o2 cj (g7 (ae (vr 6) ai)) (cl qf (ae (o2 pV (vr 6) (cn .non)) ai)))) (gN 4)))) (aM (bt (ae (vr 3) (ae (cl jN (ae (vr 4) ai)) ai)))))))
def dk:List T->Rs T:=val 3 7 fK
def gw:En->Rs Fl:=
 (aJ (c6 (cl bx (ae (o2 b7 (vr 2) (cn (.int 0))) ai)) (gN 3)) (aJ (c6 (bt ai) (gN 4)) (aJ (fB (iR (ae (cl cH (ae (vr 3) ai)) ai)) (gN 5) (aJ (c6 (o2 b7 (g7 (ae (cn (.int 1)) (ae (cn (.int 1)) (ae (cn (.int 1)) (ae (cn (.int 24999)) ai))))) (cl aw (ae (vr 0) (ae (o2 aB (o2 aB (vr 1) (vr 5)) (cn (.int 20))) (ae (cn (.int 4)) ai))))) (gN 6)) (c6 (o2 aB (vr 4) (bt (ae (o2 kr (o2 cj (cl aw (ae (vr 0) (ae (o2 aB (vr 1) (vr 5)) (ae (cn (.int 41)) ai)))) (vr 6)) (cn (.int 20))) ai))) (gN 4)))) (aM (vr 4)))))
def dM:List T->Rs T:=val 3 7 gw
def ia:En->Rs Fl:=
 (aJ (c6 (cl DG (ae (cl bx (ae (o2 b7 (vr 0) (cn (.int 0))) ai)) (ae (vr 1) ai))) (gN 2)) (aJ (c6 (cn (.str "")) (gN 3)) (aJ (fB (iE (ae (o2 b7 (vr 0) (cn (.int 0))) ai)) (gT 2 (kB (gN 4) (kB (gT 3 (kB (gN 5) (kB (gN 6) (kB (gN 7) uB)))) uB))) (aJ (c6 (fF (iE (ae (vr 7) ai)) [none,none,some 2,some 4] (gT 2 (kB (gN 0) (kB (gN 1) uB))) bT (o2 aB (o2 aB (cl fZ (ae (vr 1) ai)) (cn (.str " at "))) (cl fZ (ae (o2 mH (vr 2) (bt (ae (vr 3) (ae (vr 0) ai)))) ai)))) (gN 8)) (c6 (o2 aB (o2 aB (o2 aB (o2 aB (vr 3) (cl fZ (ae (vr 4) ai))) (cn (.str ": "))) (oS gW (cn (.str ", ")) (ae (vr 8) ai))) (cn (.str "\n"))) (gN 3)))) (aM (vr 3)))))
def bp:List T->Rs T:=val 2 9 ia
def fJ:En->Rs Fl:=
 (aJ (c6 (cl aw (ae (vr 0) (ae (vr 1) (ae (o2 aB (cl cH (ae (vr 2) ai)) (cn (.int 1))) ai)))) (gN 3)) (aJ (c6 (o2 aB (cl rk (ae (cn (.str "019- ,:a\n")) ai)) (g7 (ae (cn (.str "")) (ae (cn (.str "00")) (ae (cn (.str " at ")) ai))))) (gN 4)) (aJ (c6 (o2 aB (vr 3) (cl aw (ae (vr 0) (ae (o2 aB (vr 1) (cn (.int 1))) (ae (cn (.int 2)) ai))))) (gN 5)) (aM (o2 aB (o2 aB (AV (vr 2) pN (pS (vr 3))) (o2 b7 (vr 4) (cl aw (ae (vr 0) (ae (o2 aB (vr 1) (cn (.int 2))) (ae (cn (.int 12)) ai)))))) (AV (vr 2) (pS (vr 5)) pN))))))
def cJ:List T->Rs T:=val 3 6 fJ
def nF:En->Rs Fl:=
 (aM (bJ (o1 (yh "tuple") (vr 0)) (ch Fh Fh (vr 1) (cl cH (ae (vr 0) ai)) (vr 2))))
def aH:List T->Rs T:=val 3 3 nF
def rQ:En->Rs Fl:=
 (aM (bJ (o1 (yh "int") (vr 0)) (o1 zy (o1 (yh "bool") (vr 0)))))
def dW:List T->Rs T:=val 1 1 rQ
def hW:En->Rs Fl:=
 (aM (bJ (cl dW (ae (vr 0) ai)) (ch Fh Fh (vr 1) (vr 0) (vr 2))))
def aS:List T->Rs T:=val 3 3 hW
def j7:En->Rs Fl:=
 (aM (bJ (cl aS (ae (vr 0) (ae (cn (.int 1)) (ae (cn (.int 9)) ai)))) (cl aS (ae (vr 1) (ae (vr 0) (ae (cn (.int 9)) ai))))))
def eZ:List T->Rs T:=val 2 2 j7
def tO:En->Rs Fl:=
 (aM (cl kD (ae (fF (iR (ae (o2 kr (cl cH (ae (vr 0) ai)) (cn (.int 1))) ai)) [none,some 0] (gN 0) bT (o2 A2 (o2 b7 (vr 1) (vr 0)) (o2 b7 (vr 1) (o2 aB (vr 0) (cn (.int 1)))))) ai)))
def iq:List T->Rs T:=val 1 1 tO
def dO:En->Rs Fl:=
 (aJ (eE (dj (tb (cl aH (ae (vr 0) (ae (cn (.int 1)) (ae (cn (.int 4)) ai)))))) (aM (cn (.bl false))) sN) (aM (bJ (cl kD (ae (fF (iS (vr 0)) [none] (gN 0) bT (cl aS (ae (vr 0) (ae (cn (.int 0)) (ae (cn (.int 99)) ai))))) ai)) (cl iq (ae (vr 0) ai)))))
def bD:List T->Rs T:=val 1 1 dO
def gu:En->Rs Fl:=
 (aM (bJ (cl aH (ae (vr 0) (ae (cn (.int 3)) (ae (cn (.int 3)) ai)))) (bJ (cl eZ (ae (o2 b7 (vr 0) (cn (.int 0))) (ae (o2 b7 (vr 0) (cn (.int 1))) ai))) (cl bD (ae (o2 b7 (vr 0) (cn (.int 2))) ai)))))
def cV:List T->Rs T:=val 1 1 gu
def gv:En->Rs Fl:=
 (aM (bJ (cl aH (ae (vr 0) (ae (cn (.int 1)) (ae (cn (.int 4)) ai)))) (cl kD (ae (fF (iS (vr 0)) [none] (gN 0) bT (cl cV (ae (vr 0) ai))) ai))))
def c7:List T->Rs T:=val 1 1 gv
def gp:En->Rs Fl:=
 (aJ (eE (ku (dj (tb (cl aH (ae (vr 1) (ae (cn (.int 2)) (ae (cn (.int 2)) ai)))))) (dj (tb (cl aS (ae (o2 b7 (vr 1) (cn (.int 0))) (ae (cn (.int 0)) (ae (o2 kr (cl cH (ae (vr 0) ai)) (cn (.int 1))) ai))))))) (aM (cn (.bl false))) sN) (aM (cl aS (ae (o2 b7 (vr 1) (cn (.int 1))) (ae (cn (.int 0)) (ae (o2 kr (cl cH (ae (o2 b7 (o2 b7 (vr 0) (o2 b7 (vr 1) (cn (.int 0)))) (cn (.int 2))) ai)) (cn (.int 1))) ai))))))
def bZ:List T->Rs T:=val 2 2 gp
def gq:En->Rs Fl:=
 (aM (bJ (cl aS (ae (vr 0) (ae (cn (.int 0)) (ae (cn (.int 999)) ai)))) (EY (o2 xo (vr 1) (cn .non)) (cl aS (ae (vr 1) (ae (vr 0) (ae (cn (.int 999)) ai)))))))
def dv:List T->Rs T:=val 2 2 gq
def dD:En->Rs Fl:=
 (aJ (eE (ku (dj (tb (cl aH (ae (vr 1) (ae (cn (.int 4)) (ae (cn (.int 4)) ai)))))) (dj (tb (cl dv (ae (o2 b7 (vr 1) (cn (.int 2))) (ae (o2 b7 (vr 1) (cn (.int 3))) ai)))))) (aM (cn (.bl false))) sN) (aM (bJ (cl bZ (ae (vr 0) (ae (o2 b7 (vr 1) (cn (.int 0))) ai))) (bJ (cl bZ (ae (vr 0) (ae (o2 b7 (vr 1) (cn (.int 1))) ai))) (o2 neT (o2 b7 (vr 1) (cn (.int 0))) (o2 b7 (vr 1) (cn (.int 1))))))))
def bO:List T->Rs T:=val 2 2 dD
def fI:En->Rs Fl:=
 (aM (bJ (cl aH (ae (vr 1) (ae (cn (.int 0)) (ae (cn (.int 8)) ai)))) (cl kD (ae (fF (iS (vr 1)) [none,some 0] (gN 0) bT (cl bO (ae (vr 1) (ae (vr 0) ai)))) ai))))
def cI:List T->Rs T:=val 2 2 fI
def fy:En->Rs Fl:=
 (aM (bJ (cl aH (ae (vr 0) (ae (cn (.int 2)) (ae (cn (.int 2)) ai)))) (bJ (cl c7 (ae (o2 b7 (vr 0) (cn (.int 0))) ai)) (cl cI (ae (o2 b7 (vr 0) (cn (.int 0))) (ae (o2 b7 (vr 0) (cn (.int 1))) ai))))))
def cU:List T->Rs T:=val 1 1 fy
def dq:En->Rs Fl:=
 (eE (dj (tb (cl cU (ae (vr 0) ai)))) (pJ "NoRecord") sN)
def bw:List T->Rs T:=val 1 1 dq
def hZ:En->Rs Fl:=
 (aJ (vQ (cl bw (ae (vr 0) ai))) (aJ (la 1 ai) (aJ (fB (iE (ae (o2 b7 (vr 0) (cn (.int 0))) ai)) (gT 2 (kB (gN 2) (kB (gN 3) uB))) (qP 1 (fF (iR (ae (cl cH (ae (o2 b7 (vr 3) (cn (.int 2))) ai)) ai)) [none,some 2] (gN 0) bT (bt (ae (vr 1) (ae (vr 0) ai)))))) (BO 1 (aM (vr 1))))))
def cF:List T->Rs T:=val 1 4 hZ
def eJ:En->Rs Fl:=
 (aJ (c6 (cl cH (ae (cl cF (ae (vr 0) ai)) ai)) (gN 2)) (aM (bJ (cl aH (ae (vr 1) (ae (vr 2) (ae (vr 2) ai)))) (cl kD (ae (fF (iS (vr 1)) [none] (gN 0) bT (cl dW (ae (vr 0) ai))) ai)))))
def eG:List T->Rs T:=val 2 3 eJ
def j8:En->Rs Fl:=
 (aM (bJ (cl eG (ae (vr 0) (ae (vr 1) ai))) (cl kD (ae (fF (iS (vr 1)) [none] (gN 0) bT (cl aS (ae (vr 0) (ae (o1 gE (cn (.int 999999999))) (ae (cn (.int 999999999)) ai))))) ai))))
def aL:List T->Rs T:=val 2 2 j8
def gn:En->Rs Fl:=
 (eE (dj (tb (cl bZ (ae (o2 b7 (vr 0) (cn (.int 0))) (ae (vr 1) ai))))) (pJ "NoEvent") sN)
def eU:List T->Rs T:=val 2 2 gn
def gm:En->Rs Fl:=
 (aJ (vQ (cl bw (ae (vr 0) ai))) (aJ (vQ (cl eU (ae (vr 0) (ae (vr 1) ai)))) (aM (o2 b7 (o2 b7 (o2 b7 (o2 b7 (vr 0) (cn (.int 0))) (o2 b7 (vr 1) (cn (.int 0)))) (cn (.int 2))) (o2 b7 (vr 1) (cn (.int 1)))))))
def cw:List T->Rs T:=val 2 2 gm
def hV:En->Rs Fl:=
 (aJ (c6 (fF (iS (cl cF (ae (vr 0) ai))) [none,some 1] (gN 0) (tb (o2 eqT (o2 b7 (vr 0) (cn (.int 0))) (vr 1))) (vr 0)) (gN 3)) (aJ (c6 (fF (iS (vr 3)) [none,some 0,some 2] (gN 0) bT (o2 aB (o2 aB (cl fZ (ae (cl cw (ae (vr 1) (ae (vr 0) ai))) ai)) (cn (.str " at "))) (cl fZ (ae (o2 mH (vr 2) (vr 0)) ai)))) (gN 4)) (aM (o2 aB (o2 aB (o2 aB (cl fZ (ae (vr 1) ai)) (cn (.str ": "))) (oS gW (cn (.str ", ")) (ae (vr 4) ai))) (cn (.str "\n"))))))
def dy:List T->Rs T:=val 3 5 hV
def gk:En->Rs Fl:=
 (aJ (eE (dj (tb (cl aL (ae (vr 0) (ae (vr 1) ai))))) (pJ "NoNumber") sN) (aJ (c6 (cl DG (ae (cl cF (ae (vr 0) ai)) (ae (vr 1) ai))) (gN 2)) (aM (oS gW (cn (.str "")) (ae (fF (iR (ae (cl cH (ae (o2 b7 (vr 0) (cn (.int 0))) ai)) ai)) [none,some 0,some 2] (gN 0) bT (cl dy (ae (vr 1) (ae (vr 0) (ae (vr 2) ai))))) ai)))))
def ba:List T->Rs T:=val 2 3 gk
def qC:En->Rs Fl:=
 (tW (vr 0))
def bB:List T->Rs T:=val 1 1 qC
def da:En->Rs Fl:=
 (aJ (vQ (cl bw (ae (vr 0) ai))) (aJ (eE (dj (tb (o1 (yh "str") (vr 1)))) (pJ "NoText") sN) (aJ (c6 (sl (oS gL (o1 (eQ "\n" ", ") (vr 1)) (ae (cn (.str ", ")) ai)) pN (pS (o1 gE (cn (.int 1))))) (gN 2)) (aJ (c6 (cl jN (ae (fF (iS (vr 2)) [none] (gN 0) bT (cl bB (ae (o2 b7 (oS fQ (vr 0) (ae (cn (.str " at ")) ai)) (cn (.int 2))) ai))) ai)) (gN 3)) (aJ (eE (ku (dj (tb (cl aL (ae (vr 0) (ae (vr 3) ai))))) (tb (o2 neT (cl ba (ae (vr 0) (ae (vr 3) ai))) (vr 1)))) (pJ "NoText") sN) (aM (vr 3)))))))
def aX:List T->Rs T:=val 2 4 da
def qD:En->Rs Fl:=
 (pI (aM (zQ (tb (o2 eqT (vr 0) (cn (.int 0)))) (cl ba (ae (vr 1) (ae (vr 2) ai))) (cl aX (ae (vr 1) (ae (vr 2) ai))))) mG)
def aE:List T->Rs T:=val 3 4 qD
def yf:En->Rs Fl:=
 (aJ (c6 (cl dk (ae (vr 0) (ae (cn (.int 0)) (ae (cn (.int 0)) ai)))) (gN 1)) (aJ (c6 (cl dM (ae (vr 0) (ae (cn (.int 80)) (ae (vr 1) ai)))) (gN 2)) (aJ (c6 (cl bp (ae (vr 1) (ae (vr 2) ai))) (gN 3)) (aJ (eE (ku (tb (o2 neT (cl aE (ae (cn (.int 0)) (ae (vr 1) (ae (vr 2) ai)))) (vr 3))) (tb (o2 neT (cl aE (ae (cn (.int 1)) (ae (vr 1) (ae (vr 3) ai)))) (vr 2)))) (aM (cn (.bl false))) sN) (aJ (fB (iR (ae (cn (.int 6)) ai)) (gN 4) (aJ (c6 (cl cJ (ae (vr 0) (ae (o2 aB (cn (.int 130)) (o2 cj (cn (.int 3)) (vr 4))) (ae (vr 3) ai)))) (gN 5)) (aJ (c6 (cl aE (ae (cn (.int 1)) (ae (vr 1) (ae (vr 5) ai)))) (gN 6)) (eE (tb (o2 eqT (sl (vr 6) pN (pS (cn (.int 1)))) (bt (ae (cn (.str "refused")) ai)))) (eE (ku (tb (o2 neT (vr 6) (bt (ae (cn (.str "refused")) (ae (cn (.int 2)) ai))))) (tb (o2 eqT (vr 5) (vr 3)))) (aM (cn (.bl false))) sN) (eE (ku (tb (o2 neT (cl bp (ae (vr 1) (ae (vr 6) ai))) (vr 5))) (tb (o2 neT (cl cH (ae (vr 6) ai)) (cl cH (ae (vr 2) ai))))) (aM (cn (.bl false))) sN))))) (aJ (fB (iS (bt (ae (cn (.int 999999999)) (ae (o1 gE (cn (.int 999999999))) ai)))) (gN 7) (aJ (c6 (o2 aB (bt (ae (vr 7) ai)) (sl (vr 2) (pS (cn (.int 1))) pN)) (gN 8)) (aJ (eE (tb (o2 neT (cl aE (ae (cn (.int 0)) (ae (vr 1) (ae (vr 8) ai)))) (cl bp (ae (vr 1) (ae (vr 8) ai))))) (aM (cn (.bl false))) sN) (aJ (eE (tb (o2 neT (cl aE (ae (cn (.int 1)) (ae (vr 1) (ae (cl bp (ae (vr 1) (ae (vr 8) ai))) ai)))) (vr 8))) (aM (cn (.bl false))) sN) (aJ (c6 (o2 aB (bt (ae (o2 aB (vr 7) (o2 b7 (g7 (ae (cn (.int 1)) (ae (o1 gE (cn (.int 1))) ai))) (cl qf (ae (o2 A2 (vr 7) (cn (.int 0))) ai)))) ai)) (sl (vr 2) (pS (cn (.int 1))) pN)) (gN 9)) (aJ (eE (tb (o2 neT (cl aE (ae (cn (.int 0)) (ae (vr 1) (ae (vr 9) ai)))) (bt (ae (cn (.str "refused")) (ae (cn (.int 1)) ai))))) (aM (cn (.bl false))) sN) (eE (tb (o2 neT (cl aE (ae (cn (.int 1)) (ae (vr 1) (ae (cl bp (ae (vr 1) (ae (vr 9) ai))) ai)))) (bt (ae (cn (.str "refused")) (ae (cn (.int 2)) ai))))) (aM (cn (.bl false))) sN))))))) (aJ (fB (iS (bt (ae (cn .non) (ae (bt ai) (ae (sl (vr 2) pN (pS (o1 gE (cn (.int 1))))) (ae (o2 aB (vr 2) (bt (ae (cn (.int 0)) ai))) (ae (cl sI (ae (vr 2) ai)) (ae (o2 aB (bt (ae (cn (.bl true)) ai)) (sl (vr 2) (pS (cn (.int 1))) pN)) (ae (o2 aB (bt (ae (cn (.str "0")) ai)) (sl (vr 2) (pS (cn (.int 1))) pN)) ai))))))))) (gN 10) (eE (tb (o2 neT (cl aE (ae (cn (.int 0)) (ae (vr 1) (ae (vr 10) ai)))) (bt (ae (cn (.str "refused")) (ae (cn (.int 1)) ai))))) (aM (cn (.bl false))) sN)) (aJ (fB (iS (bt (ae (cn (.str "")) (ae (AV (vr 3) pN (pS (o1 gE (cn (.int 1))))) (ae (o2 aB (vr 3) (cn (.str "\n"))) (ae (o2 aB (cn (.str "\n")) (vr 3)) (ae (o2 aB (vr 3) (vr 3)) (ae (o1 (eQ "at" "At") (vr 3)) (ae (o2 aB (cn (.str "0")) (vr 3)) ai))))))))) (gN 10) (eE (tb (o2 neT (cl aE (ae (cn (.int 1)) (ae (vr 1) (ae (vr 10) ai)))) (bt (ae (cn (.str "refused")) (ae (cn (.int 2)) ai))))) (aM (cn (.bl false))) sN)) (aM (bJ (o2 eqT (cl aE (ae (cn (.int 0)) (ae (sl (vr 1) pN (pS (cn (.int 1)))) (ae (vr 2) ai)))) (bt (ae (cn (.str "refused")) (ae (cn (.int 0)) ai)))) (o2 eqT (cl aE (ae (cn (.int 1)) (ae (sl (vr 1) pN (pS (cn (.int 1)))) (ae (vr 3) ai)))) (bt (ae (cn (.str "refused")) (ae (cn (.int 0)) ai))))))))))))))
def m_law:List T->Rs T:=val 1 11 yf
end G
namespace G
open PySem PySem.Spec PyProof.Rows L2 Tr
section
variable (P:Ip)(w:IV){K:HI}{mg:Str->Option HL}(base:Heap)
abbrev nX:Stmt:=top 41
theorem om (F:gF K mg "_law_cell" nX ["_law_script","_law_k"])(B:Bl mg):Cl P w K mg base 1 "_law_cell" 2 eH:=
 bf ["_law_script","_law_k"] F λd f c A o s H E hr x=>(aA (dR (dE (kd (fH hr)) (af 0) (iO ag)) (ax (aF (ar dJ ak (af 1)))) bK) (ax (aF (ar az (bc (af 0) (ar iU (af 1) (cQ cO B.b_len Kt (ah (af 0) ag)))) (ar dJ ak (ar kG (af 1) (cQ cO B.b_len Kt (ah (af 0) ag))))))))
abbrev mm:Stmt:=top 42
theorem mE (F:gF K mg "_law_drawn" mm ["_law_script","_law_k","_law_many"])(aaq:Cl P w K mg base 1 "_law_cell" 2 eH):Cl P w K mg base 2 "_law_drawn" 3 aw:=
 bf ["_law_script","_law_k","_law_many","_law_cell_here"] F λd f c A o s H E hr x=>(by(apply aA;exact(aP (ar iU (ar az (ar dJ (ar iU (aW aaq hr (ah (af 0) (ah (af 1) ag))) ak) ak) (ar dJ ak (ar az (af 1) ak))) ak) (aq 3 d));apply aA;exact(aP (ar iU (ar az (ar dJ (af 3) (af 3)) (ar kG (af 3) ak)) ak) (aq 3 d));exact ax (aF (ar iU (ar kG (ar iU (ar az (ar dJ (af 3) (af 3)) (ar kG (af 3) ak)) ak) ak) (af 2)))))
abbrev gK:Stmt:=top 45
abbrev gS:List Str:=["_law_clocks","_law_found","_law_number","_law_clock_here"]
theorem ly (F:gF K mg "_law_events" gK ["_law_clocks"])(B:Bl mg):Cl P w K mg base 1 "_law_events" 1 bx:=
 bf gS F λd f c A o s H E hr x=>(by(apply aA;exact(aP (iO ag) (aq 1 d));apply aA;exact(ie rfl (jd B.b_enumerate (ah (af 0) ag)) (je rfl (cf (aq 2 d) (cf (aq 3 d) gG))) (ax (aP (ar az (af 1) (fz ["_law_place","_law_number"] gS gK (cv B.b_range (ah (cQ cO B.b_len Kt (ah (bc (af 3) ak) ag)) ag)) (λd _ _ _ _ _=>⟨(aq 0 d),cb,(bA (ah (af 1) (ah (af 0) ag)))⟩))) (aq 1 d))));exact ax (aF (af 1))))
abbrev k8:Stmt:=top 44
theorem lx (F:gF K mg "_law_letter" k8 ["_law_script","_law_at","_law_clocks"])(aa4:Cl P w K mg base 1 "_law_events" 1 bx)(aa0:Cl P w K mg base 2 "_law_drawn" 3 aw)(B:Bl mg):Cl P w K mg base 3 "_law_letter" 3 cK:=
 bf ["_law_script","_law_at","_law_clocks","_law_row","_law_place","_law_other","_law_least","_law_most"] F λd f c A o s H E hr x=>(by(apply aA;exact(aP (aW aa4 hr (ah (af 2) ag)) (aq 3 d));apply aA;exact(dR (dE wG (cQ cO B.b_len Kt (ah (af 3) ag)) ak) (ax (aF kN)) bK);apply aA;exact(aP (aW aa0 hr (ah (af 0) (ah (af 1) (ah (cQ cO B.b_len Kt (ah (af 3) ag)) ag)))) (aq 4 d));apply aA;exact(aP (ar iU (ar az (ar az (af 4) ak) (aW aa0 hr (ah (af 0) (ah (ar az (af 1) ak) (ah (ar lj (cQ cO B.b_len Kt (ah (af 3) ag)) ak) ag))))) (cQ cO B.b_len Kt (ah (af 3) ag))) (aq 5 d));apply aA;exact(aP (aW aa0 hr (ah (af 0) (ah (ar az (af 1) ak) (ah ak ag)))) (aq 6 d));apply aA;exact(aP (DO (dE (kd (fH hr)) (aW aa0 hr (ah (af 0) (ah (ar az (af 1) ak) (ah ak ag)))) ak) kN (ar az (af 6) (aW aa0 hr (ah (af 0) (ah (ar az (af 1) ak) (ah ak ag)))))) (aq 7 d));exact ax (aF (bA (ah (bc (af 3) (af 4)) (ah (bc (af 3) (af 5)) (ah (af 6) (ah (af 7) ag))))))))
abbrev mn:Stmt:=top 43
theorem mF (F:gF K mg "_law_clock" mn ["_law_script","_law_at"])(aa0:Cl P w K mg base 2 "_law_drawn" 3 aw)(B:Bl mg):Cl P w K mg base 3 "_law_clock" 2 bR:=
 bf ["_law_script","_law_at","_law_slow","_law_readings","_law_k"] F λd f c A o s H E hr x=>(by(apply aA;exact(aP (ar az ak (aW aa0 hr (ah (af 0) (ah (af 1) (ah ak ag))))) (aq 2 d));apply aA;exact(aP (bA (ah (aW aa0 hr (ah (af 0) (ah (ar az (af 1) ak) (ah ak ag)))) ag)) (aq 3 d));apply aA;exact(ie rfl (cv B.b_range (ah (aW aa0 hr (ah (af 0) (ah (ar az (af 1) ak) (ah ak ag)))) ag)) (aq 4 d) (ax (aP (ar az (af 3) (bA (ah (ar az (ar az (bc (af 3) (iN ak)) ak) (aW aa0 hr (ah (af 0) (ah (ar az (ar az (af 1) ak) (af 4)) (ah ak ag))))) ag))) (aq 3 d))));exact ax (aF (bA (ah (af 2) (ah (ar az (af 2) (aW aa0 hr (ah (af 0) (ah (ar az (af 1) ak) (ah ak ag))))) (ah (af 3) ag)))))))
abbrev gJ:Stmt:=top 46
abbrev gR:List Str:=["_law_script","_law_at","_law_most","_law_clocks","_law_letters","_law_k","_law_letter_here"]
theorem lu (F:gF K mg "_law_record" gJ ["_law_script","_law_at","_law_most"])(aa0:Cl P w K mg base 2 "_law_drawn" 3 aw)(aaf:Cl P w K mg base 3 "_law_letter" 3 cK)(aaj:Cl P w K mg base 3 "_law_clock" 2 bR)(B:Bl mg):Cl P w K mg base 4 "_law_record" 3 dk:=
 bf gR F λd f c A o s H E hr x=>(by(apply aA;exact(aP (gz lR B.b_tuple ef (ah (fz ["_law_k","_law_script","_law_at"] gR gJ (cv B.b_range (ah (ar az ak (aW aa0 hr (ah (af 0) (ah (af 1) (ah ak ag))))) ag)) (λd _ _ _ _ _=>⟨(aq 0 d),cb,(aW aaj hr (ah (af 1) (ah (ar az (ar az (af 2) ak) (ar dJ ak (af 0))) ag)))⟩)) ag)) (aq 3 d));apply aA;exact(aP (iO ag) (aq 4 d));apply aA;exact(ie rfl (cv B.b_range (ah (aW aa0 hr (ah (af 0) (ah (ar az (af 1) ak) (ah (ar az (af 2) ak) ag)))) ag)) (aq 5 d) (aA (aP (aW aaf hr (ah (af 0) (ah (ar az (ar az (af 1) ak) (ar dJ ak (af 5))) (ah (af 3) ag)))) (aq 6 d)) (ax (aP (ar az (af 4) (ar dJ (iO (ah (af 6) ag)) (gz xR B.b_int g9 (ah (kO wH (af 6) kN) ag)))) (aq 4 d)))));exact ax (aF (bA (ah (af 3) (ah (gz lR B.b_tuple ef (ah (af 4) ag)) ag))))))
theorem kC {X:Cx}{j1 j2 j3 j4:Nat}{p1 p2 p3 p4 p5:Pos}:QE X (.List [(.Constant (.int 1) j1 p1),(.Constant (.int 1) j2 p2),(.Constant (.int 1) j3 p3),(.Constant (.int 24999) j4 p4)] p5) (g7 (ae (cn (.int 1)) (ae (cn (.int 1)) (ae (cn (.int 1)) (ae (cn (.int 24999)) ai))))):=by
 refine @iO X _ _ _ ?_
 refine @ah X _ _ _ _ ?_ ?_ rfl
 ·exact ak
 refine @ah X _ _ _ _ ?_ ?_ rfl
 ·exact ak
 refine @ah X _ _ _ _ ?_ ?_ rfl
 ·exact ak
 refine @ah X _ _ _ _ ?_ ?_ rfl
 ·exact ak
 exact ag
abbrev ml:Stmt:=top 47
theorem mC (F:gF K mg "_law_times" ml ["_law_script","_law_at","_law_record_here"])(aa4:Cl P w K mg base 1 "_law_events" 1 bx)(aa0:Cl P w K mg base 2 "_law_drawn" 3 aw)(B:Bl mg):Cl P w K mg base 3 "_law_times" 3 dM:=
 bf ["_law_script","_law_at","_law_record_here","_law_row","_law_found","_law_k","_law_by"] F λd f c A o s H E hr x=>(by(apply aA;exact(aP (aW aa4 hr (ah (bc (af 2) ak) ag)) (aq 3 d));apply aA;exact(aP (bA ag) (aq 4 d));apply aA;exact(ie rfl (cv B.b_range (ah (cQ cO B.b_len Kt (ah (af 3) ag)) ag)) (aq 5 d) (aA (aP (bc kC (aW aa0 hr (ah (af 0) (ah (ar az (ar az (af 1) (af 5)) ak) (ah ak ag))))) (aq 6 d)) (ax (aP (ar az (af 4) (bA (ah (ar lj (ar dJ (aW aa0 hr (ah (af 0) (ah (ar az (af 1) (af 5)) (ah ak ag)))) (af 6)) ak) ag))) (aq 4 d)))));exact ax (aF (af 4))))
abbrev jr:Stmt:=top 50
abbrev jz:List Str:=["_law_record_here","_law_times_here","_law_told_here","_law_text_here","_law_clock_here","_law_slow","_law_fast","_law_readings","_law_words"]
theorem oj (F:gF K mg "_law_text" jr ["_law_record_here","_law_times_here"])(aa4:Cl P w K mg base 1 "_law_events" 1 bx)(B:Bl mg):Cl P w K mg base 2 "_law_text" 2 bp:=
 bf jz F λd f c A o s H E hr x=>(by(apply aA;exact(aP (rS (hu8 hr) rfl B.b_dict B.b_zip (ah (aW aa4 hr (ah (bc (af 0) ak) ag)) (ah (af 1) ag))) (aq 2 d));apply aA;exact(aP bj (aq 3 d));apply aA;exact(ie rfl (jd B.b_enumerate (ah (bc (af 0) ak) ag)) (je rfl (cf (aq 4 d) (cf (je rfl (cf (aq 5 d) (cf (aq 6 d) (cf (aq 7 d) gG)))) gG))) (aA (qG 8 (N':=["_law_place","_law_reading","_law_told_here","_law_clock_here"]) (src:=[none,none,some 2,some 4]) rfl (LcScope.by (N:=jz) (names:=(ao jr).names) rfl rfl rfl (by decide+kernel)) (jd B.b_enumerate (ah (af 7) ag)) (λ_ _ _ _ _=>⟨(je rfl (cf (aq 0 (show Ma (["_law_place","_law_reading","_law_told_here","_law_clock_here"]:List Str)by decide+kernel)) (cf (aq 1 (show Ma (["_law_place","_law_reading","_law_told_here","_law_clock_here"]:List Str)by decide+kernel)) gG))),cb,(ar az (ar az (gz jY B.b_str cZ (ah (af 1) ag)) bj) (gz jY B.b_str cZ (ah (uW (hu1 hr) (af 2) (bA (ah (af 3) (ah (af 0) ag)))) ag)))⟩) d) (ax (aP (ar az (ar az (ar az (ar az (af 3) (gz jY B.b_str cZ (ah (af 4) ag))) bj) (nH bj (af 8))) bj) (aq 3 d)))));exact ax (aF (af 3))))
abbrev k7:Stmt:=top 51
theorem lr (F:gF K mg "_law_spoilt" k7 ["_law_script","_law_at","_law_text_here"])(aa0:Cl P w K mg base 2 "_law_drawn" 3 aw)(B:Bl mg):Cl P w K mg base 3 "_law_spoilt" 3 cJ:=
 bf ["_law_script","_law_at","_law_text_here","_law_place","_law_sign","_law_end"] F λd f c A o s H E hr x=>(by(apply aA;exact(aP (aW aa0 hr (ah (af 0) (ah (af 1) (ah (ar az (cQ cO B.b_len Kt (ah (af 2) ag)) ak) ag)))) (aq 3 d));apply aA;exact(aP (ar az (gz (xQ rfl) B.b_list jK (ah bj ag)) (iO (ah bj (ah bj (ah bj ag))))) (aq 4 d));apply aA;exact(aP (ar az (af 3) (aW aa0 hr (ah (af 0) (ah (ar az (af 1) ak) (ah ak ag))))) (aq 5 d));exact ax (aF (ar az (ar az (jL (af 2) cE (cA (af 3))) (bc (af 4) (aW aa0 hr (ah (af 0) (ah (ar az (af 1) ak) (ah ak ag)))))) (jL (af 2) (cA (af 5)) cE)))))
abbrev qN:Stmt:=top 15
theorem rf (F:gF K mg "is_long" qN ["thing","least","most"])(B:Bl mg):Cl P w K mg base 1 "is_long" 3 aH:=
 bf ["thing","least","most"] F λd f c A o s H E hr x=>(ax (aF (df (rR B.b_isinstance B.b_tuple ef (af 0)) (dF (o6 sA sA (af 1) (cQ cO B.b_len Kt (ah (af 0) ag)) (af 2))))))
abbrev pB:Stmt:=top 13
theorem pQ (F:gF K mg "is_whole" pB ["thing"])(B:Bl mg):Cl P w K mg base 1 "is_whole" 1 dW:=
 bf ["thing"] F λd f c A o s H E hr x=>(ax (aF (df (rR B.b_isinstance B.b_int g9 (af 0)) (dF (Bq (rR B.b_isinstance B.b_bool oU (af 0)))))))
abbrev nT:Stmt:=top 14
theorem n9 (F:gF K mg "is_within" nT ["thing","least","most"])(aac:Cl P w K mg base 1 "is_whole" 1 dW):Cl P w K mg base 2 "is_within" 3 aS:=
 bf ["thing","least","most"] F λd f c A o s H E hr x=>(ax (aF (df (aW aac hr (ah (af 0) ag)) (dF (o6 sA sA (af 1) (af 0) (af 2))))))
abbrev qM:Stmt:=top 18
theorem qZ (F:gF K mg "is_pace" qM ["slow","fast"])(aa2:Cl P w K mg base 2 "is_within" 3 aS)(C:Cs mg):Cl P w K mg base 3 "is_pace" 2 eZ:=
 bf ["slow","fast"] F λd f c A o s H E hr x=>(ax (aF (df (aW aa2 hr (ah (af 0) (ah ak (ah (mh C.SLOWEST) ag)))) (dF (aW aa2 hr (ah (af 1) (ah (af 0) (ah (mh C.SLOWEST) ag))))))))
abbrev pA:Stmt:=top 16
abbrev pY:List Str:=["numbers"]
theorem wK (F:gF K mg "rises" pA ["numbers"])(B:Bl mg):Cl P w K mg base 1 "rises" 1 iq:=
 bf pY F λd f c A o s H E hr x=>(ax (aF (cQ (jZ rfl) B.b_all OV (ah (fz ["k","numbers"] pY pA (cv B.b_range (ah (ar lj (cQ cO B.b_len Kt (ah (af 0) ag)) ak) ag)) (λd _ _ _ _ _=>⟨(aq 0 d),cb,(kO wG (bc (af 1) (af 0)) (bc (af 1) (ar az (af 0) ak)))⟩)) ag))))
abbrev gA:Stmt:=top 17
abbrev gB:List Str:=["thing"]
theorem kx (F:gF K mg "are_readings" gA ["thing"])(aa1:Cl P w K mg base 1 "is_long" 3 aH)(aaz:Cl P w K mg base 1 "rises" 1 iq)(aa2:Cl P w K mg base 2 "is_within" 3 aS)(B:Bl mg)(C:Cs mg):Cl P w K mg base 3 "are_readings" 1 bD:=
 bf gB F λd f c A o s H E hr x=>(aA (dR (d8 (d7 (aW aa1 hr (ah (af 0) (ah ak (ah (mh C.MOST_READINGS) ag)))))) (ax (aF fN)) bK) (ax (aF (df (cQ (jZ rfl) B.b_all OV (ah (fz ["part"] gB gA (d9 (af 0)) (λd _ _ _ _ _=>⟨(aq 0 d),cb,(aW aa2 hr (ah (af 0) (ah ak (ah (mh C.LAST_READING) ag))))⟩)) ag)) (dF (aW aaz hr (ah (af 0) ag)))))))
abbrev pE:Stmt:=top 19
theorem pU (F:gF K mg "is_clock" pE ["thing"])(aa1:Cl P w K mg base 1 "is_long" 3 aH)(aay:Cl P w K mg base 3 "is_pace" 2 eZ)(aae:Cl P w K mg base 3 "are_readings" 1 bD):Cl P w K mg base 4 "is_clock" 1 cV:=
 bf ["thing"] F λd f c A o s H E hr x=>(ax (aF (df (aW aa1 hr (ah (af 0) (ah ak (ah ak ag)))) (df (aW aay hr (ah (bc (af 0) ak) (ah (bc (af 0) ak) ag))) (dF (aW aae hr (ah (bc (af 0) ak) ag)))))))
abbrev iF:Stmt:=top 20
abbrev iI:List Str:=["thing"]
theorem mB (F:gF K mg "are_clocks" iF ["thing"])(aa1:Cl P w K mg base 1 "is_long" 3 aH)(aaw:Cl P w K mg base 4 "is_clock" 1 cV)(B:Bl mg)(C:Cs mg):Cl P w K mg base 5 "are_clocks" 1 c7:=
 bf iI F λd f c A o s H E hr x=>(ax (aF (df (aW aa1 hr (ah (af 0) (ah ak (ah (mh C.MOST_CLOCKS) ag)))) (dF (cQ (jZ rfl) B.b_all OV (ah (fz ["part"] iI iF (d9 (af 0)) (λd _ _ _ _ _=>⟨(aq 0 d),cb,(aW aaw hr (ah (af 0) ag))⟩)) ag))))))
abbrev pC:Stmt:=top 21
theorem pR (F:gF K mg "is_event" pC ["clocks","thing"])(aa2:Cl P w K mg base 2 "is_within" 3 aS)(aa1:Cl P w K mg base 1 "is_long" 3 aH)(B:Bl mg):Cl P w K mg base 3 "is_event" 2 bZ:=
 bf ["clocks","thing"] F λd f c A o s H E hr x=>(aA (dR (o5 (kM (d8 (d7 (aW aa1 hr (ah (af 1) (ah ak (ah ak ag)))))) (jb (d8 (d7 (aW aa2 hr (ah (bc (af 1) ak) (ah ak (ah (ar lj (cQ cO B.b_len Kt (ah (af 0) ag)) ak) ag))))))))) (ax (aF fN)) bK) (ax (aF (aW aa2 hr (ah (bc (af 1) ak) (ah ak (ah (ar lj (cQ cO B.b_len Kt (ah (bc (bc (af 0) (bc (af 1) ak)) ak) ag)) ak) ag)))))))
abbrev pD:Stmt:=top 22
theorem pT (F:gF K mg "is_delay" pD ["least","most"])(aa2:Cl P w K mg base 2 "is_within" 3 aS)(C:Cs mg):Cl P w K mg base 3 "is_delay" 2 dv:=
 bf ["least","most"] F λd f c A o s H E hr x=>(ax (aF (df (aW aa2 hr (ah (af 0) (ah ak (ah (mh C.LONGEST) ag)))) (dF (DM (kO EX (af 1) kN) (dF (aW aa2 hr (ah (af 1) (ah (af 0) (ah (mh C.LONGEST) ag))))))))))
abbrev nV:Stmt:=top 23
theorem og (F:gF K mg "is_letter" nV ["clocks","thing"])(aa9:Cl P w K mg base 3 "is_event" 2 bZ)(aa1:Cl P w K mg base 1 "is_long" 3 aH)(aax:Cl P w K mg base 3 "is_delay" 2 dv):Cl P w K mg base 4 "is_letter" 2 bO:=
 bf ["clocks","thing"] F λd f c A o s H E hr x=>(aA (dR (o5 (kM (d8 (d7 (aW aa1 hr (ah (af 1) (ah ak (ah ak ag)))))) (jb (d8 (d7 (aW aax hr (ah (bc (af 1) ak) (ah (bc (af 1) ak) ag)))))))) (ax (aF fN)) bK) (ax (aF (df (aW aa9 hr (ah (af 0) (ah (bc (af 1) ak) ag))) (df (aW aa9 hr (ah (af 0) (ah (bc (af 1) ak) ag))) (dF (kO (fR (fH hr)) (bc (af 1) ak) (bc (af 1) ak))))))))
abbrev gI:Stmt:=top 24
abbrev gQ:List Str:=["clocks","thing"]
theorem lq (F:gF K mg "are_letters" gI ["clocks","thing"])(aa1:Cl P w K mg base 1 "is_long" 3 aH)(aar:Cl P w K mg base 4 "is_letter" 2 bO)(B:Bl mg)(C:Cs mg):Cl P w K mg base 5 "are_letters" 2 cI:=
 bf gQ F λd f c A o s H E hr x=>(ax (aF (df (aW aa1 hr (ah (af 1) (ah ak (ah (mh C.MOST_LETTERS) ag)))) (dF (cQ (jZ rfl) B.b_all OV (ah (fz ["part","clocks"] gQ gI (d9 (af 1)) (λd _ _ _ _ _=>⟨(aq 0 d),cb,(aW aar hr (ah (af 1) (ah (af 0) ag)))⟩)) ag))))))
abbrev nU:Stmt:=top 25
theorem oa (F:gF K mg "is_record" nU ["thing"])(aa1:Cl P w K mg base 1 "is_long" 3 aH)(aak:Cl P w K mg base 5 "are_clocks" 1 c7)(aag:Cl P w K mg base 5 "are_letters" 2 cI):Cl P w K mg base 6 "is_record" 1 cU:=
 bf ["thing"] F λd f c A o s H E hr x=>(ax (aF (df (aW aa1 hr (ah (af 0) (ah ak (ah ak ag)))) (df (aW aak hr (ah (bc (af 0) ak) ag)) (dF (aW aag hr (ah (bc (af 0) ak) (ah (bc (af 0) ak) ag))))))))
abbrev k4:Stmt:=top 26
theorem lp (F:gF K mg "need_record" k4 ["thing"])(aas:Cl P w K mg base 6 "is_record" 1 cU){C_NoRecord C_NoEvent C_NoNumber C_NoText C_ClockError:Addr}(S:Xs K mg C_NoRecord C_NoEvent C_NoNumber C_NoText C_ClockError):Cl P w K mg base 7 "need_record" 1 bw:=
 bf ["thing"] F λd f c A o s H E hr x=>(ax (dR (d8 (d7 (aW aas hr (ah (af 0) ag)))) (ax (fM S.o_NoRecord S.m_NoRecord)) bK))
abbrev mT:Stmt:=top 28
abbrev mZ:List Str:=["record","told","number","clock"]
theorem t9 (F:gF K mg "events" mT ["record"])(aa5:Cl P w K mg base 7 "need_record" 1 bw)(B:Bl mg):Cl P w K mg base 8 "events" 1 cF:=
 bf mZ F λd f c A o s H E hr x=>(by(apply aA;exact(jc (aW aa5 hr (ah (af 0) ag)));apply aA;exact(uU 1 d ag);apply aA;exact(ie rfl (jd B.b_enumerate (ah (bc (af 0) ak) ag)) (je rfl (cf (aq 2 d) (cf (aq 3 d) gG))) (ax (yj 1 (fz ["k","number"] mZ mT (cv B.b_range (ah (cQ cO B.b_len Kt (ah (bc (af 3) ak) ag)) ag)) (λd _ _ _ _ _=>⟨(aq 0 d),cb,(bA (ah (af 1) (ah (af 0) ag)))⟩)))));exact ax (yk 1 (aF (af 1)))))
abbrev jq:Stmt:=top 31
abbrev jy:List Str:=["record","thing","many"]
theorem oh (F:gF K mg "are_times" jq ["record","thing"])(aaa:Cl P w K mg base 8 "events" 1 cF)(aa1:Cl P w K mg base 1 "is_long" 3 aH)(aac:Cl P w K mg base 1 "is_whole" 1 dW)(B:Bl mg):Cl P w K mg base 9 "are_times" 2 eG:=
 bf jy F λd f c A o s H E hr x=>(aA (aP (cQ cO B.b_len Kt (ah (aW aaa hr (ah (af 0) ag)) ag)) (aq 2 d)) (ax (aF (df (aW aa1 hr (ah (af 1) (ah (af 2) (ah (af 2) ag)))) (dF (cQ (jZ rfl) B.b_all OV (ah (fz ["part"] jy jq (d9 (af 1)) (λd _ _ _ _ _=>⟨(aq 0 d),cb,(aW aac hr (ah (af 0) ag))⟩)) ag)))))))
abbrev ft:Stmt:=top 36
abbrev fw:List Str:=["record","thing"]
theorem jw (F:gF K mg "can_be_written" ft ["record","thing"])(aat:Cl P w K mg base 9 "are_times" 2 eG)(aa2:Cl P w K mg base 2 "is_within" 3 aS)(B:Bl mg)(C:Cs mg):Cl P w K mg base 10 "can_be_written" 2 aL:=
 bf fw F λd f c A o s H E hr x=>(ax (aF (df (aW aat hr (ah (af 0) (ah (af 1) ag))) (dF (cQ (jZ rfl) B.b_all OV (ah (fz ["time"] fw ft (d9 (af 1)) (λd _ _ _ _ _=>⟨(aq 0 d),cb,(aW aa2 hr (ah (af 0) (ah (iN (mh C.FARTHEST)) (ah (mh C.FARTHEST) ag))))⟩)) ag))))))
abbrev mj:Stmt:=top 27
theorem mz (F:gF K mg "need_event" mj ["record","thing"])(aa9:Cl P w K mg base 3 "is_event" 2 bZ){C_NoRecord C_NoEvent C_NoNumber C_NoText C_ClockError:Addr}(S:Xs K mg C_NoRecord C_NoEvent C_NoNumber C_NoText C_ClockError):Cl P w K mg base 4 "need_event" 2 eU:=
 bf ["record","thing"] F λd f c A o s H E hr x=>(ax (dR (d8 (d7 (aW aa9 hr (ah (bc (af 0) ak) (ah (af 1) ag))))) (ax (fM S.o_NoEvent S.m_NoEvent)) bK))
abbrev mi:Stmt:=top 29
theorem mx (F:gF K mg "reading_of" mi ["record","event"])(aa5:Cl P w K mg base 7 "need_record" 1 bw)(aal:Cl P w K mg base 4 "need_event" 2 eU):Cl P w K mg base 8 "reading_of" 2 cw:=
 bf ["record","event"] F λd f c A o s H E hr x=>(by(apply aA;exact(jc (aW aa5 hr (ah (af 0) ag)));apply aA;exact(jc (aW aal hr (ah (af 0) (ah (af 1) ag))));exact ax (aF (bc (bc (bc (bc (af 0) ak) (bc (af 1) ak)) ak) (bc (af 1) ak)))))
abbrev f9:Stmt:=top 37
abbrev gd:List Str:=["record","number","time_of","places","parts"]
theorem n8 (F:gF K mg "line_text" f9 ["record","number","time_of"])(aaa:Cl P w K mg base 8 "events" 1 cF)(aam:Cl P w K mg base 8 "reading_of" 2 cw)(B:Bl mg):Cl P w K mg base 9 "line_text" 3 dy:=
 bf gd F λd f c A o s H E hr x=>(by(apply aA;exact(qG 3 (N':=["event","number"]) (src:=[none,some 1]) rfl (LcScope.by (N:=gd) (names:=(ao f9).names) rfl rfl rfl (by decide+kernel)) (d9 (aW aaa hr (ah (af 0) ag))) (λ_ _ _ _ _=>⟨(aq 0 (show Ma (["event","number"]:List Str)by decide+kernel)),(uV (dE (kd (fH hr)) (bc (af 0) ak) (af 1))),(af 0)⟩) d);apply aA;exact(qG 4 (N':=["event","record","time_of"]) (src:=[none,some 0,some 2]) rfl (LcScope.by (N:=gd) (names:=(ao f9).names) rfl rfl rfl (by decide+kernel)) (d9 (af 3)) (λ_ _ _ _ _=>⟨(aq 0 (show Ma (["event","record","time_of"]:List Str)by decide+kernel)),cb,(ar az (ar az (gz jY B.b_str cZ (ah (aW aam hr (ah (af 1) (ah (af 0) ag))) ag)) bj) (gz jY B.b_str cZ (ah (uW (hu1 hr) (af 2) (af 0)) ag)))⟩) d);exact ax (aF (ar az (ar az (ar az (gz jY B.b_str cZ (ah (af 1) ag)) bj) (nH bj (af 4))) bj))))
abbrev iC:Stmt:=top 38
abbrev iG:List Str:=["record","times","time_of"]
theorem mw (F:gF K mg "times_text" iC ["record","times"])(aa6:Cl P w K mg base 10 "can_be_written" 2 aL)(aaa:Cl P w K mg base 8 "events" 1 cF)(aau:Cl P w K mg base 9 "line_text" 3 dy)(B:Bl mg){C_NoRecord C_NoEvent C_NoNumber C_NoText C_ClockError:Addr}(S:Xs K mg C_NoRecord C_NoEvent C_NoNumber C_NoText C_ClockError):Cl P w K mg base 11 "times_text" 2 ba:=
 bf iG F λd f c A o s H E hr x=>(by(apply aA;exact(dR (d8 (d7 (aW aa6 hr (ah (af 0) (ah (af 1) ag))))) (ax (fM S.o_NoNumber S.m_NoNumber)) bK);apply aA;exact(aP (rS (hu8 hr) rfl B.b_dict B.b_zip (ah (aW aaa hr (ah (af 0) ag)) (ah (af 1) ag))) (aq 2 d));exact ax (aF (nH bj (fz ["number","record","time_of"] iG iC (cv B.b_range (ah (cQ cO B.b_len Kt (ah (bc (af 0) ak) ag)) ag)) (λd _ _ _ _ _=>⟨(aq 0 d),cb,(aW aau hr (ah (af 1) (ah (af 0) (ah (af 2) ag))))⟩))))))
abbrev nS:Stmt:=top 33
theorem n6 (F:gF K mg "number_of" nS ["word"])(B:Bl mg):Bp P w K mg base 1 "number_of" 1 bB:=
 oO ["word"] F λd f c A o s H E hr x=>(jl (Bv 0 (λ_ _ z=>by cases z) B.b_int B.b_ValueError))
abbrev iD:Stmt:=top 39
abbrev iH:List Str:=["record","text","parts","times"]
theorem my (F:gF K mg "read_times" iD ["record","text"])(aa5:Cl P w K mg base 7 "need_record" 1 bw)(aav:Bp P w K mg base 1 "number_of" 1 bB)(aa6:Cl P w K mg base 10 "can_be_written" 2 aL)(aa8:Cl P w K mg base 11 "times_text" 2 ba)(B:Bl mg){C_NoRecord C_NoEvent C_NoNumber C_NoText C_ClockError:Addr}(S:Xs K mg C_NoRecord C_NoEvent C_NoNumber C_NoText C_ClockError):Bp P w K mg base 12 "read_times" 2 aX:=
 oO iH F λd f c A o s H E hr x=>(by(apply cg;exact(vm (jc (aW aa5 hr (ah (af 0) ag))));apply cg;exact(vm (dR (d8 (d7 (rR B.b_isinstance B.b_str cZ (af 1)))) (ax (fM S.o_NoText S.m_NoText)) bK));apply cg;exact(vp (u_1 (yA (yz (AL (af 1)) bj) cE (cA (iN ak)))) (aq 2 d));apply cg;exact(vp (u_cT lR B.b_tuple ef (fq (u_lc ["part"] iH iD (d9 (af 2)) (λd _ _ _ _ _=>⟨(aq 0 d),cb,(tS aav hr (fq (ez (bc (nG (af 0) bj) ak)) (qJ ag)))⟩)) (qJ ag))) (aq 3 d));apply cg;exact(vm (dR (o5 (kM (d8 (d7 (aW aa6 hr (ah (af 0) (ah (af 3) ag))))) (jb (dE (fR (fH hr)) (aW aa8 hr (ah (af 0) (ah (af 3) ag))) (af 1))))) (ax (fM S.o_NoText S.m_NoText)) bK));exact(jl (vm (aF (af 3))))))
abbrev nW:Stmt:=top 49
theorem oi (F:gF K mg "_law_told" nW ["_law_ask","_law_record_here","_law_thing"])(aa8:Cl P w K mg base 11 "times_text" 2 ba)(aan:Bp P w K mg base 12 "read_times" 2 aX)(B:Bl mg){C_NoRecord C_NoEvent C_NoNumber C_NoText C_ClockError:Addr}(S:Xs K mg C_NoRecord C_NoEvent C_NoNumber C_NoText C_ClockError){f_r:Addr}{fd_r:Je}(aad:Fn K mg "_law_refused" bH ["_law_e"] f_r fd_r):Bp P w K mg base 13 "_law_told" 3 aE:=
 oO ["_law_ask","_law_record_here","_law_thing","_law_e"] F λd f c A o s H E hr x=>(jl (DU 3 d S.m_ClockError S.o_ClockError (λ_ _=>(jl (AN (DX (u_t (dE (kd (fH hr)) (af 0) ak)) (ez (aW aa8 hr (ah (af 1) (ah (af 2) ag)))) (tS aan hr (fq (ez (af 1)) (fq (ez (af 2)) (qJ ag)))))))) (vJ rfl (Ph rfl) aad S B.b_isinstance B.b_ValueError (Ek hr)) (hcl:=λ_ _ z=>by cases z)))
abbrev vM:Stmt:=top 52
abbrev CG:List Str:=["_law_script","_law_record_here","_law_times_here","_law_text_here","_law_k","_law_spoilt_here","_law_told_here","_law_great","_law_some","_law_more","_law_bad"]
theorem aab:bN CG ["_law_script"] (ao vM):=fsc
theorem CA {f:Addr}{fd:Je}(aaA:Fn K mg "law" vM ["_law_script"] f fd)(aah:Cl P w K mg base 4 "_law_record" 3 dk)(aao:Cl P w K mg base 3 "_law_times" 3 dM)(aa7:Cl P w K mg base 2 "_law_text" 2 bp)(aai:Cl P w K mg base 3 "_law_spoilt" 3 cJ)(aa3:Bp P w K mg base 13 "_law_told" 3 aE)(B:Bl mg):ye P w K mg base 14 f fd ["_law_script"] 1 m_law:=
 sV aaA.fn aab rfl λc A o s H E hr x=>(show x8 _ _ _ from(by(apply cg;exact(vm (aP (aW aah hr (ah (af 0) (ah ak (ah ak ag)))) (aq 1 aab.nd)));apply cg;exact(vm (aP (aW aao hr (ah (af 0) (ah ak (ah (af 1) ag)))) (aq 2 aab.nd)));apply cg;exact(vm (aP (aW aa7 hr (ah (af 1) (ah (af 2) ag))) (aq 3 aab.nd)));apply cg;exact(qI (u_w (u_or (j9 (fR (fH hr)) (tS aa3 hr (fq (ez ak) (fq (ez (af 1)) (fq (ez (af 2)) (qJ ag))))) (ez (af 3))) (DV (j9 (fR (fH hr)) (tS aa3 hr (fq (ez ak) (fq (ez (af 1)) (fq (ez (af 3)) (qJ ag))))) (ez (af 2)))))) (jk (ax (aF fN))) (jk bK));apply cg;exact(vn rfl (cv B.b_range (ah ak ag)) (aq 4 aab.nd) (by(apply cg;exact(vm (aP (aW aai hr (ah (af 0) (ah (ar az ak (ar dJ ak (af 4))) (ah (af 3) ag)))) (aq 5 aab.nd)));apply cg;exact(vp (tS aa3 hr (fq (ez ak) (fq (ez (af 1)) (fq (ez (af 5)) (qJ ag))))) (aq 6 aab.nd));exact(jl (vm (dR (dE (kd (fH hr)) (ei (af 6) cE (cA ak)) (bA (ah bj ag))) (ax (dR (o5 (kM (dE (fR (fH hr)) (af 6) (bA (ah bj (ah ak ag)))) (jb (dE (kd (fH hr)) (af 5) (af 3))))) (ax (aF fN)) bK)) (ax (dR (o5 (kM (dE (fR (fH hr)) (aW aa7 hr (ah (af 1) (ah (af 6) ag))) (af 5)) (jb (dE (fR (fH hr)) (cQ cO B.b_len Kt (ah (af 6) ag)) (cQ cO B.b_len Kt (ah (af 2) ag)))))) (ax (aF fN)) bK))))))));apply cg;exact(vn rfl (d9 (bA (ah ak (ah (iN ak) ag)))) (aq 7 aab.nd) (by(apply cg;exact(vm (aP (ar az (bA (ah (af 7) ag)) (ei (af 2) (cA ak) cE)) (aq 8 aab.nd)));apply cg;exact(qI (j9 (fR (fH hr)) (tS aa3 hr (fq (ez ak) (fq (ez (af 1)) (fq (ez (af 8)) (qJ ag))))) (ez (aW aa7 hr (ah (af 1) (ah (af 8) ag))))) (jk (ax (aF fN))) (jk bK));apply cg;exact(qI (j9 (fR (fH hr)) (tS aa3 hr (fq (ez ak) (fq (ez (af 1)) (fq (ez (aW aa7 hr (ah (af 1) (ah (af 8) ag)))) (qJ ag))))) (ez (af 8))) (jk (ax (aF fN))) (jk bK));apply cg;exact(vm (aP (ar az (bA (ah (ar az (af 7) (bc (iO (ah ak (ah (iN ak) ag))) (gz xR B.b_int g9 (ah (kO wG (af 7) ak) ag)))) ag)) (ei (af 2) (cA ak) cE)) (aq 9 aab.nd)));apply cg;exact(qI (j9 (fR (fH hr)) (tS aa3 hr (fq (ez ak) (fq (ez (af 1)) (fq (ez (af 9)) (qJ ag))))) (ez (bA (ah bj (ah ak ag))))) (jk (ax (aF fN))) (jk bK));exact(jl (qI (j9 (fR (fH hr)) (tS aa3 hr (fq (ez ak) (fq (ez (af 1)) (fq (ez (aW aa7 hr (ah (af 1) (ah (af 9) ag)))) (qJ ag))))) (ez (bA (ah bj (ah ak ag))))) (jk (ax (aF fN))) (jk bK))))));apply cg;exact(vn rfl (d9 (bA (ah kN (ah (bA ag) (ah (ei (af 2) cE (cA (iN ak))) (ah (ar az (af 2) (bA (ah ak ag))) (ah (gz Ap B.b_list jK (ah (af 2) ag)) (ah (ar az (bA (ah fN ag)) (ei (af 2) (cA ak) cE)) (ah (ar az (bA (ah bj ag)) (ei (af 2) (cA ak) cE)) ag))))))))) (aq 10 aab.nd) (jl (qI (j9 (fR (fH hr)) (tS aa3 hr (fq (ez ak) (fq (ez (af 1)) (fq (ez (af 10)) (qJ ag))))) (ez (bA (ah bj (ah ak ag))))) (jk (ax (aF fN))) (jk bK))));apply cg;exact(Bx rfl (Bw (DR (fq (ez bj) (fq (ez (jL (af 3) cE (cA (iN ak)))) (fq (ez (ar az (af 3) bj)) (fq (ez (ar az bj (af 3))) (fq (ez (ar az (af 3) (af 3))) (fq (u_1 (AL (af 3))) (fq (ez (ar az bj (af 3))) (qJ ag)))))))))) (aq 10 aab.nd) (jl (qI (j9 (fR (fH hr)) (tS aa3 hr (fq (ez ak) (fq (ez (af 1)) (fq (ez (af 10)) (qJ ag))))) (ez (bA (ah bj (ah ak ag))))) (jk (ax (aF fN))) (jk bK))));exact(jl (AN (By (vo (kd (fH hr)) (tS aa3 hr (fq (ez ak) (fq (ez (ei (af 1) cE (cA ak))) (fq (ez (af 2)) (qJ ag))))) (ez (bA (ah bj (ah ak ag))))) (yB (vo (kd (fH hr)) (tS aa3 hr (fq (ez ak) (fq (ez (ei (af 1) cE (cA ak))) (fq (ez (af 3)) (qJ ag))))) (ez (bA (ah bj (ah ak ag)))))))))))).h
end
theorem all_ok {l:PySem.W.OpenLaw}{w:IV}{K:HI}{h:Heap}{mg:Str->Option HL}{fa:Addr}(X:K.In h)(e0:wL asks K=vj asks top)(G:h.Ns IM mg)(hfa:mg "law" =some (.ref fa)) :
  ∃fd:Je,(∀(s:HJ) (v:HL),Na s fd ⟨[v],[]⟩ [("_law_script",v)])/\∀base:Heap,K.In base->base.Ns IM mg->l8 l.prog w K mg base CX0 14 fa fd ["_law_script"] (spP K 1 m_law):=by
 have e:oo x5 K=nN x5 top:=congrArg (·.1) e0
 have B:Bl mg:=⟨dY 0 X G e rfl,dY 1 X G e rfl,dY 2 X G e rfl,dY 3 X G e rfl,dY 4 X G e rfl,dY 5 X G e rfl,dY 6 X G e rfl,dY 7 X G e rfl,dY 8 X G e rfl,dY 9 X G e rfl,dY 10 X G e rfl,dY 11 X G e rfl,dY 12 X G e rfl⟩
 have C:Cs mg:=⟨lJ 0 X G e rfl,lJ 1 X G e rfl,lJ 2 X G e rfl,lJ 3 X G e rfl,lJ 4 X G e rfl,lJ 5 X G e rfl,lJ 6 X G e rfl⟩;obtain⟨C_ClockError,ls,xD,xl,nd⟩:=CB (Fv e);obtain⟨C_NoRecord,ls0,x_NoRecord,rfl,xl0⟩:=iA xl;obtain⟨C_NoEvent,ls1,x_NoEvent,rfl,xl1⟩:=iA xl0;obtain⟨C_NoNumber,ls2,x_NoNumber,rfl,xl2⟩:=iA xl1;obtain⟨C_NoText,ls3,x_NoText,rfl,xl3⟩:=iA xl2;cases x6 xl3
 have S:Xs K mg C_NoRecord C_NoEvent C_NoNumber C_NoText C_ClockError:=⟨L4 X G (gP x_NoRecord).1,L4 X G (gP x_NoEvent).1,L4 X G (gP x_NoNumber).1,L4 X G (gP x_NoText).1,L4 X G (gP xD).1,Gh x_NoRecord xD,Gh x_NoEvent xD,Gh x_NoNumber xD,Gh x_NoText xD,ox0 xD,nd⟩;obtain⟨fd33,aaA,bnd⟩:=Fo (n:="law") (i:=52) (x:="_law_script") 33 X G e rfl hfa λ_ _ _ _ _ _ _=>rfl
 obtain⟨f34,fd34,aad⟩:=Ft (n:="_law_refused") (i:=48) (ps:=["_law_e"]) 34 X G e rfl λ_ _ _ _ _ _ us hl=>A3 (λ_=>rfl) us hl
 refine⟨fd33,bnd,λbase _ _=> ?_⟩
 have aaq:=om l.prog w base (dh 0 X G e) B
 have aa0:=mE l.prog w base (dh 1 X G e) aaq
 have aa4:=ly l.prog w base (dh 2 X G e) B
 have aaf:=lx l.prog w base (dh 3 X G e) aa4 aa0 B
 have aaj:=mF l.prog w base (dh 4 X G e) aa0 B
 have aah:=lu l.prog w base (dh 5 X G e) aa0 aaf aaj B
 have aao:=mC l.prog w base (dh 6 X G e) aa4 aa0 B
 have aa7:=oj l.prog w base (dh 7 X G e) aa4 B
 have aai:=lr l.prog w base (dh 8 X G e) aa0 B
 have aa1:=rf l.prog w base (dh 9 X G e) B
 have aac:=pQ l.prog w base (dh 10 X G e) B
 have aa2:=n9 l.prog w base (dh 11 X G e) aac
 have aay:=qZ l.prog w base (dh 12 X G e) aa2 C
 have aaz:=wK l.prog w base (dh 13 X G e) B
 have aae:=kx l.prog w base (dh 14 X G e) aa1 aaz aa2 B C
 have aaw:=pU l.prog w base (dh 15 X G e) aa1 aay aae
 have aak:=mB l.prog w base (dh 16 X G e) aa1 aaw B C
 have aa9:=pR l.prog w base (dh 17 X G e) aa2 aa1 B
 have aax:=pT l.prog w base (dh 18 X G e) aa2 C
 have aar:=og l.prog w base (dh 19 X G e) aa9 aa1 aax
 have aag:=lq l.prog w base (dh 20 X G e) aa1 aar B C
 have aas:=oa l.prog w base (dh 21 X G e) aa1 aak aag
 have aa5:=lp l.prog w base (dh 22 X G e) aas S
 have aaa:=t9 l.prog w base (dh 23 X G e) aa5 B
 have aat:=oh l.prog w base (dh 24 X G e) aaa aa1 aac B
 have aa6:=jw l.prog w base (dh 25 X G e) aat aa2 B C
 have aal:=mz l.prog w base (dh 26 X G e) aa9 S
 have aam:=mx l.prog w base (dh 27 X G e) aa5 aal
 have aau:=n8 l.prog w base (dh 28 X G e) aaa aam B
 have aa8:=mw l.prog w base (dh 29 X G e) aa6 aaa aau B S
 have aav:=n6 l.prog w base (dh 30 X G e) B
 have aan:=my l.prog w base (dh 31 X G e) aa5 aav aa6 aa8 B S
 have aa3:=oi l.prog w base (dh 32 X G e) aa8 aan B S aad;exact(CA l.prog w base aaA aah aao aa7 aai aa3 B).h
end G
namespace Tr
open PySem
abbrev RR (cs ls:List T):T:=.tup [.tup cs,.tup ls]
mutual
def T.pl:T->Bool
 | .scr _=>false
 | .dct _ _=>false
 | .ob _ _ _=>false
 | .tup l=>plS l
 | .lst l=>plS l
 | _=>true
def plS:List T->Bool
 | [] =>true
 | t::l=>t.pl&&plS l
end
theorem ju:∀{l:List T} {t:T},plS l=true->t∈l->t.pl=true
 | [],_,_,h=>by cases h
 | u::l,t,h,m=>by
  unfold plS at h;rw[HS]at h;rcases HZ.mp m with rfl | m
  ·exact h.1
  ·exact ju h.2 m
mutual
theorem T.GI:∀(t:T),t.pl=true->t.nd=true
 | .non,_=>rfl
 | .bl _,_=>rfl
 | .int _,_=>rfl
 | .str _,_=>rfl
 | .scr _,h=>by cases h
 | .dct _ _,h=>by cases h
 | .ob _ _ _,h=>by cases h
 | .tup l,h=>by unfold T.pl at h;unfold T.nd;exact plS_nds l h
 | .lst l,h=>by unfold T.pl at h;unfold T.nd;exact plS_nds l h
theorem plS_nds:∀(l:List T),plS l=true->nds l=true
 | [],_=>rfl
 | t::l,h=>by
  unfold plS at h;rw[HS]at h;unfold nds;rw[T.GI t h.1,plS_nds l h.2];rfl
end
theorem rl {fe:En->Rs T}{h:T->T}:∀(ts:List T) (ρ:En),0<ρ.length->(∀t∈ts,fe (ρ.set 0 (.va t))= .ok (h t))->cx (gN 0) bT fe ts ρ= .ok (ts.map h)
 | [],_,_,_=>rfl
 | t::r,ρ,hl,hf=>by
  unfold cx
  have e1:gN 0 t ρ= .ok (ρ.set 0 (.va t)):=by unfold gN;rw[if_pos hl]
  have ih:=rl r (ρ.set 0 (.va t)) (by rw[JQ];exact hl) (λu hu=>by rw[List.set_set];exact hf u (HQ _ hu))
  simp only[e1,aC,bT,if_true,hf t HU,ih,HW]
theorem m9 {fc:En->Rs Bool}{fe:En->Rs T}{p:T->Bool}{h:T->T}:∀(ts:List T) (ρ:En),0<ρ.length->(∀t∈ts,fc (ρ.set 0 (.va t))= .ok (p t)/\(p t=true->fe (ρ.set 0 (.va t))= .ok (h t)))->cx (gN 0) fc fe ts ρ= .ok ((ts.filter p).map h)
 | [],_,_,_=>rfl
 | t::r,ρ,hl,hf=>by
  unfold cx
  have e1:gN 0 t ρ= .ok (ρ.set 0 (.va t)):=by unfold gN;rw[if_pos hl]
  have ih:=m9 r (ρ.set 0 (.va t)) (by rw[JQ];exact hl) (λu hu=>by rw[List.set_set];exact hf u (HQ _ hu))
  obtain⟨h1,h2⟩:=hf t HU;simp only[e1,aC,h1]
  cases q:p t with
  | true=>simp only[if_true,h2 q,aC,ih,PD,q,HW]
  | false=>simp only[Jv,if_false,ih,PD,q]
theorem ny (p:T->Bool):∀l:List T,lX (l.map λt=>T.bl (p t))=some (l.map p)
 | [] =>rfl
 | t::l=>by rw[HW,lX,ny p l];rfl
theorem all_map (p:T->Bool)(l:List T):kD [.lst (l.map λt=>T.bl (p t))] = .ok (.bl (l.all p)):=by
 simp only[kD,ny,List.all_map]
 rfl
theorem i6 {α:Type}{l:List α}{k:Nat}{t:α}(h:l[k]? =some t):L2.atI l (k:Int)=some t:=by
 have hk:k<l.length:=(Ii.mp h).1
 unfold L2.atI L2.ixN;rw[if_pos (by omega),if_pos (by omega),IY]
 exact h
theorem bM {n k:Nat}(h:n<=k)(hk:autoParam (k<=1000) s_):n<=sizeLine:=by unfold sizeLine;omega
section
variable {f fa fb fc:En->Rs T}{fs:En->Rs (List T)}{b c:En->Rs Bool}{F G:En->Rs Fl}{ρ ρ' ρ1 ρ2:En}{t u r:T}{ts l m:List T}
theorem aN {g:T->T->Rs T}{x:Rs T}(ha:fa ρ= .ok t)(hb:fb ρ= .ok u)(hg:g t u=x):o2 g fa fb ρ=x:=by unfold o2;rw[ha,hb];exact hg
theorem xf {g:T->Rs T}{x:Rs T}(ha:fa ρ= .ok t)(hg:g t=x):o1 g fa ρ=x:=by unfold o1;rw[ha];exact hg
theorem aD:ai ρ= .ok []:=rfl
theorem aj (h:f ρ= .ok t)(hs:fs ρ= .ok ts):ae f fs ρ= .ok (t::ts):=by unfold ae;rw[h,hs];rfl
theorem zH {c:Str}(h:f ρ= .err c):ae f fs ρ= .err c:=by unfold ae;rw[h];rfl
theorem aR {g:List T->Rs T}{x:Rs T}(h:fs ρ= .ok ts)(hg:g ts=x):cl g fs ρ=x:=by unfold cl;rw[h];exact hg
theorem Fw {g:List T->Rs T}{c:Str}(h:fs ρ= .err c):cl g fs ρ= .err c:=by unfold cl;rw[h];rfl
theorem cN {k:Bool}(h:f ρ= .ok (.bl k)):tb f ρ= .ok k:=by unfold tb;rw[h];rfl
theorem Fj {c:Str}(h:f ρ= .err c):tb f ρ= .err c:=by unfold tb;rw[h];rfl
theorem gV {k:Bool}(h:b ρ= .ok k):dj b ρ= .ok (!k):=by unfold dj;rw[h];rfl
theorem CO {c:Str}(h:b ρ= .err c):dj b ρ= .err c:=by unfold dj;rw[h];rfl
theorem A7 (h:b ρ= .ok true):ku b c ρ= .ok true:=by unfold ku;rw[h];rfl
theorem qd {x:Rs Bool}(h:b ρ= .ok false)(h2:c ρ=x):ku b c ρ=x:=by unfold ku;rw[h];exact h2
theorem xi (h:fa ρ= .ok (.bl true)):bJ fa fb ρ=fb ρ:=by unfold bJ;rw[h];rfl
theorem sP (h:fa ρ= .ok (.bl false)):bJ fa fb ρ= .ok (.bl false):=by unfold bJ;rw[h];rfl
theorem zI {c:Str}(h:fa ρ= .err c):bJ fa fb ρ= .err c:=by unfold bJ;rw[h];rfl
theorem oE {p q:Bool}(h:fa ρ= .ok (.bl p))(h2:p=true->fb ρ= .ok (.bl q)):bJ fa fb ρ= .ok (.bl (p&&q)):=by
 cases p with
 | true=>rw[xi h,h2 rfl];rfl
 | false=>rw[sP h];rfl
theorem qe {p:Bool}(h:b ρ= .ok p):zQ b fa fb ρ=if p then fa ρ else fb ρ:=by unfold zQ;rw[h];rfl
theorem b6 {g:T->En->Rs En}(h:f ρ= .ok t)(hg:g t ρ= .ok ρ'):c6 f g ρ= .ok (.nx ρ'):=by unfold c6;rw[h];show(match g t ρ with | .ok ρ'=>Rs.ok (Fl.nx ρ') | _=> .bad)=_;rw[hg]
theorem Fy {g:T->En->Rs En}{c:Str}(h:f ρ= .err c):c6 f g ρ= .err c:=by unfold c6;rw[h];rfl
theorem aK (h:F ρ= .ok (.nx ρ')):aJ F G ρ=G ρ':=by unfold aJ;rw[h];rfl
theorem xc (h:F ρ= .ok (.rt t)):aJ F G ρ= .ok (.rt t):=by unfold aJ;rw[h];rfl
theorem gU {c:Str}(h:F ρ= .err c):aJ F G ρ= .err c:=by unfold aJ;rw[h];rfl
theorem kj (h:b ρ= .ok true):eE b F G ρ=F ρ:=by unfold eE;rw[h];rfl
theorem dQ (h:b ρ= .ok false):eE b F G ρ=G ρ:=by unfold eE;rw[h];rfl
theorem CT {c:Str}(h:b ρ= .err c):eE b F G ρ= .err c:=by unfold eE;rw[h];rfl
theorem dA (h:f ρ= .ok t):aM f ρ= .ok (.rt t):=by unfold aM;rw[h];rfl
theorem rq {c:Str}(h:f ρ= .err c):aM f ρ= .err c:=by unfold aM;rw[h];rfl
theorem xh (h:f ρ= .ok t):vQ f ρ= .ok (.nx ρ):=by unfold vQ;rw[h];rfl
theorem A8 {c:Str}(h:f ρ= .err c):vQ f ρ= .err c:=by unfold vQ;rw[h];rfl
theorem iJ {fi:En->Rs (List T)}{g:T->En->Rs En}{x:Fl}(h:fi ρ= .ok ts)(h2:bo g F ts ρ= .ok x):fB fi g F ρ= .ok x:=by unfold fB;rw[h];show(match bo g F ts ρ with | .ok f=>Rs.ok f | _=> .bad)=_;rw[h2]
theorem fk {g:T->En->Rs En}(h:g t ρ= .ok ρ1)(h2:F ρ1= .ok (.nx ρ2)):bo g F (t::ts) ρ=bo g F ts ρ2:=by rw[bo,h];show(F ρ1 >>= _)=_;rw[h2];rfl
theorem cu {n m:Nat}(hl:ts.length=n)(h:F (aG m ts)= .ok (.rt t)):val n m F ts= .ok t:=by unfold val;rw[if_pos hl];unfold bh;rw[h];rfl
theorem fG {n m:Nat}{c:Str}(hl:ts.length=n)(h:F (aG m ts)= .err c):val n m F ts= .err c:=by unfold val;rw[if_pos hl];unfold bh;rw[h];rfl
theorem w8 {n m:Nat}(hl:ts.length=n)(h:F (aG m ts)= .ok (.nx ρ)):val n m F ts= .ok .non:=by unfold val;rw[if_pos hl];unfold bh;rw[h];rfl
theorem A5 {h:Str->Rs T}{k:Fl}(e:F ρ= .ok k):pI F h ρ= .ok k:=by unfold pI;rw[e]
theorem w9 {h:Str->Rs T}{c:Str}(e:F ρ= .err c)(e2:h c= .ok t):pI F h ρ= .ok (.rt t):=by unfold pI;rw[e];simp only[e2]
theorem rA {fi:En->Rs (List T)}{src:List (Option Nat)}{fe:En->Rs T}{h:T->T}(hi:fi ρ= .ok ts)(hs:ts.length<=sizeLine)(hn:0<src.length)(hf:∀t∈ts,fe ((cq src ρ).set 0 (.va t))= .ok (h t)) :
  fF fi src (gN 0) bT fe ρ= .ok (.lst (ts.map h)):=by
 have e:=rl (fe:=fe) (h:=h) ts (cq src ρ) (by unfold cq;rw[HP];exact hn) hf
 unfold fF;rw[hi,aC,if_pos hs,e]
theorem Fm {fi:En->Rs (List T)}{src:List (Option Nat)}{fc:En->Rs Bool}{fe:En->Rs T}{p:T->Bool}{h:T->T}(hi:fi ρ= .ok ts)(hs:ts.length<=sizeLine)(hn:0<src.length)
  (hf:∀t∈ts,fc ((cq src ρ).set 0 (.va t))= .ok (p t)/\(p t=true->fe ((cq src ρ).set 0 (.va t))= .ok (h t))):fF fi src (gN 0) fc fe ρ= .ok (.lst ((ts.filter p).map h)):=by
 have e:=m9 (fc:=fc) (fe:=fe) (p:=p) (h:=h) ts (cq src ρ) (by unfold cq;rw[HP];exact hn) hf
 unfold fF;rw[hi,aC,if_pos hs,e]
theorem ck (h:fs ρ= .ok ts)(hl:ts.length<=sizeLine):bt fs ρ= .ok (.tup ts):=by unfold bt;rw[h];show fg ts=_;unfold fg;rw[if_pos hl]
theorem lI (h:fs ρ= .ok ts)(hl:ts.length<=sizeLine):g7 fs ρ= .ok (.lst ts):=by unfold g7;rw[h];show kg ts=_;unfold kg;rw[if_pos hl]
theorem CP {f:En->Rs (List T)}{i:Nat}(h:f ρ= .ok l)(hi:i<ρ.length)(hl:l.length<=1000):la i f ρ= .ok (.nx (ρ.set i (.ow (.lst l)))):=by
 unfold la;rw[h,aC,if_pos ⟨hi,bM hl (by omega)⟩]
theorem CQ {i:Nat}(hi:i<ρ.length):la i ai ρ= .ok (.nx (ρ.set i (.ow (.lst [])))):=CP rfl hi (IZ _)
theorem Fu {i:Nat}(h:f ρ= .ok (.lst m))(hi:ρ[i]? =some (.ow (.lst l)))(hl:l.length+m.length<=1000):qP i f ρ= .ok (.nx (ρ.set i (.ow (.lst (l++m))))):=by
 unfold qP;rw[hi];simp only[h,aC,C6];rw[if_pos (by unfold sizeLine;omega)]
theorem uv (h:f ρ= .ok (.tup l)):iS f ρ= .ok l:=by unfold iS;rw[h];rfl
theorem Fq (h:f ρ= .ok (.lst l)):iS f ρ= .ok l:=by unfold iS;rw[h];rfl
theorem Fs (h:fs ρ= .ok [.tup l]):iE fs ρ= .ok (de 0 l):=by unfold iE;rw[h];rfl
theorem Fp {n:Nat}(e:l[n]? =some t):b7 (.tup l) (.int (n:Int))= .ok t:=by show(match L2.atI l _ with | some t=>Rs.ok t | none=> .bad)=_;rw[i6 e]
theorem CS {n:Nat}(e:l[n]? =some t):b7 (.lst l) (.int (n:Int))= .ok t:=by show(match L2.atI l _ with | some t=>Rs.ok t | none=> .bad)=_;rw[i6 e]
theorem zG {n:Nat}(h:fa ρ= .ok (.tup l))(h2:fb ρ= .ok (.int (n:Int)))(e:l[n]? =some t):o2 b7 fa fb ρ= .ok t:=aN h h2 (Fp e)
theorem xg {n:Nat}(h:fa ρ= .ok (.lst l))(h2:fb ρ= .ok (.int (n:Int)))(e:l[n]? =some t):o2 b7 fa fb ρ= .ok t:=aN h h2 (CS e)
theorem uu {fe:En->Rs T}{fl fu:En->Rs (Option Int)}{lo hi:Option Int}(h:fe ρ= .ok (.tup l))(h1:fl ρ= .ok lo)(h2:fu ρ= .ok hi):sl fe fl fu ρ= .ok (.tup (gh l lo hi)):=by
 unfold sl;rw[h,h1,h2];rfl
theorem A6 {fe:En->Rs T}{fl fu:En->Rs (Option Int)}{lo hi:Option Int}(h:fe ρ= .ok (.lst l))(h1:fl ρ= .ok lo)(h2:fu ρ= .ok hi):sl fe fl fu ρ= .ok (.lst (gh l lo hi)):=by
 unfold sl;rw[h,h1,h2];rfl
theorem lQ (l:List T)(n:Nat):gh l none (some (n:Int))=l.take n:=by
 unfold gh;rw[HT.sIx_none,HT.sIx_nat,MI,K4,List.take_eq_take_iff];omega
theorem qw (l:List T)(n:Nat):gh l (some (n:Int)) none=l.drop n:=by
 unfold gh;rw[HT.sIx_none,HT.sIx_nat]
 by_cases h:n<=l.length
 ·rw[Nat.min_eq_left h]
  exact Km (by rw[Jh];omega)
 ·rw[Nat.min_eq_right (by omega),Kl (Ia _),Kl (by omega),List.take_nil]
end
theorem mk2 (a b:T):fg [a,b] = .ok (.tup [a,b]):=by unfold fg;rw[if_pos (bM (k:=1000) (by simp only[HR,IK];omega))]
theorem ij (n:Nat):(rng 0 n).length=n:=by unfold rng;rw[HP,Ke];omega
end Tr
namespace Gr
variable {ν:Type}[DecidableEq ν]
abbrev ja (ν:Type):=List (ν×ν×Int)
def Holds (L:ja ν)(t:ν->Int):Prop:=∀a b m,(a,b,m)∈L->t b - t a<=m
def most (L:ja ν)(k:Nat):Int:=match L[k]? with
 | some x=>x.2.2
 | none=>0
def src (L:ja ν)(k:Nat):Option ν:=(L[k]?).map (·.1)
abbrev uP (ν:Type):=ν->Option (Int×List Nat)
def put (b:uP ν)(v:ν)(x:Int×List Nat):uP ν:=λu=>if u=v then some x else b u
def size (L:ja ν):Nat:=(L.map λx=>x.2.2.natAbs).sum
def val (M:Nat)(b:uP ν)(v:ν):Nat:=match b v with
 | none=>2*M+1
 | some x=>(x.1+M).toNat
def left (M:Nat)(b:uP ν)(L:ja ν):Nat:=(L.map λx=>val M b x.2.1).sum
def start (S:List ν):uP ν:=λv=>if v∈S then some (0,[])else none
abbrev rP (ν:Type):=ν->ν->Option Int
def FE (f:rP ν)(a b:ν)(x:Int):rP ν:=λu v=>if u=a/\v=b then some x else f u v
def FI (f:rP ν)(a b:ν)(x:Int):rP ν:=match f a b with
 | none=>FE f a b x
 | some y=>if x<y then FE f a b x else f
def FD (mid one other:ν)(f:rP ν):rP ν:=match f one mid,f mid other with
 | some x,some y=>FI f one other (x+y)
 | _,_=>f
def tab0 (P:List ν):rP ν:=λu v=>if u∈P/\u=v then some 0 else none
def tab1 (P:List ν)(L:ja ν):rP ν:=L.foldl (λf x=>FI f x.1 x.2.1 x.2.2) (tab0 P)
def zS (mid one:ν)(P:List ν)(f:rP ν):rP ν:=P.foldl (λf other=>FD mid one other f) f
def FF (mid:ν)(Q P:List ν)(f:rP ν):rP ν:=Q.foldl (λf one=>zS mid one P f) f
def FH (M P:List ν)(f:rP ν):rP ν:=M.foldl (λf mid=>FF mid P P f) f
def table (P:List ν)(L:ja ν):rP ν:=FH P P (tab1 P L)
end Gr
namespace G
open PySem Tr
def Bb:T->Bool
 | .int _=>true
 | _=>false
theorem sZ (t:T)(h:t.pl=true):dW [t] = .ok (.bl (Bb t)):=by
 cases t <;> first | rfl | (simp[T.pl]at h;done)
def within (t:T)(a b:Int):Bool:=match t with
 | .int i=>decide (a<=i)&&decide (i<=b)
 | _=>false
theorem dm (t:T)(a b:Int)(h:t.pl=true):aS [t,.int a,.int b] = .ok (.bl (within t a b)):=by
 have w:=sZ t h
 cases t with
 | int i=>
  simp[aS,val,bh,hW,aG,aM,bJ,vr,ch,cl,ae,ai,rJ,within,w,Bb]
  cases decide (a<=i) <;> rfl
 | scr _=>simp[T.pl]at h
 | dct _ _=>simp[T.pl]at h
 | ob _ _ _=>simp[T.pl]at h
 | _=>simp[aS,val,bh,hW,aG,aM,bJ,vr,ch,cl,ae,ai,within,w,Bb]
def c8 (t:T)(a b:Nat):Bool:=match t with
 | .tup l=>decide (a<=l.length)&&decide (l.length<=b)
 | _=>false
theorem gZ (t:T)(a b:Nat)(h:t.pl=true):aH [t,.int a,.int b] = .ok (.bl (c8 t a b)):=by
 cases t with
 | tup l=>
  simp[aH,val,bh,nF,aG,aM,bJ,o1,vr,yh,T.ty,sS,ch,cl,ae,ai,cH,T.items,rJ,c8]
  cases decide (a<=l.length) <;> rfl
 | scr _=>simp[T.pl]at h
 | dct _ _=>simp[T.pl]at h
 | ob _ _ _=>simp[T.pl]at h
 | _=>rfl
def mr (x y:T):Bool:=within x 1 9&&(match x with
 | .int i=>within y i 9
 | _=>false)
theorem C7 (x y:T)(hx:x.pl=true)(hy:y.pl=true):eZ [x,y] = .ok (.bl (mr x y)):=by
 have w:=dm x 1 9 hx;unfold mr
 cases q:within x 1 9 with
 | false=>rw[q]at w;simp[eZ,val,bh,j7,aG,aM,bJ,vr,cn,cl,ae,ai,w]
 | true=>
  rw[q]at w
  cases x with
  | int i=>simp[eZ,val,bh,j7,aG,aM,bJ,vr,cn,cl,ae,ai,w,dm y i 9 hy]
  | _=>cases q
def mf:List Int->Bool
 | a::b::r=>decide (a<b)&&mf (b::r)
 | _=>true
theorem El (a b:Int)(r:List Int):mf (a::b::r)=(decide (a<b)&&mf (b::r)):=rfl
theorem i7 {fe:En->Rs T}{p:T->Bool}{l:List T}{fi:En->Rs (List T)}{src:List (Option Nat)}{ρ:En}(hi:fi ρ= .ok l)(hs:l.length<=sizeLine)(hn:0<src.length)(hf:∀t∈l,fe ((cq src ρ).set 0 (.va t))= .ok (.bl (p t))) :
  cl kD (ae (fF fi src (gN 0) bT fe) ai) ρ= .ok (.bl (l.all p)):=by
 have e:=rl (fe:=fe) (h:=λt=>T.bl (p t)) l (cq src ρ) (by unfold cq;rw[HP];exact hn) hf
 simp only[cl,ae,ai,fF,hi,aC,if_pos hs,e,all_map]
def jS (l:List T):T->Bool
 | .int k=>match L2.atI l k,L2.atI l (k+1)with
  | some (.int a),some (.int b)=>decide (a<b)
  | _,_=>false
 | _=>false
theorem kF {t:T}{j:Int}(h:t∈rng 0 j):∃k:Nat,t= .int k/\(k:Int)<j:=by
 unfold rng at h;obtain⟨k,hk,e⟩:=HY.mp h;rw[JN]at hk;exact⟨k,by rw[<-e];simp,by omega⟩
theorem BR:(l:List Int)->l.length<=4->(rng 0 ((l.length:Int) - 1)).all (jS (l.map .int))=mf l
 | [],_=>rfl
 | [a],_=>rfl
 | [a,b],_=>by simp[rng,NA,jS,L2.atI,L2.ixN,mf]
 | [a,b,c],_=>by simp[rng,NA,jS,L2.atI,L2.ixN,mf]
 | [a,b,c,d],_=>by simp[rng,NA,jS,L2.atI,L2.ixN,mf,Bool.and_assoc]
 | a::b::c::d::e::r,h=>absurd h (by simp only[HR];omega)
theorem zY (l:List Int)(h:l.length<=4):iq [.tup (l.map .int)] = .ok (.bl (mf l)):=by
 have hr:iR (ae (o2 kr (cl cH (ae (vr 0) ai)) (cn (.int 1))) ai) [.va (.tup (l.map .int))] = .ok (rng 0 ((l.length:Int) - 1)):=by
  have:yi ((l.length:Int) - 1)=true:=by unfold yi;rw[HS];exact⟨decide_eq_true (by omega),decide_eq_true (by omega)⟩
  simp[iR,ae,ai,o2,cl,vr,cn,cH,T.items,kr,this]
 have hs:(rng 0 ((l.length:Int) - 1)).length<=sizeLine:=by
  unfold rng sizeLine;rw[HP,Ke];omega
 have e:=i7 (fe:=o2 A2 (o2 b7 (vr 1) (vr 0)) (o2 b7 (vr 1) (o2 aB (vr 0) (cn (.int 1))))) (p:=jS (l.map .int)) (src:=[none,some 0]) hr hs (by decide) (λt ht=>by
  obtain⟨k,rfl,hk⟩:=kF ht
  have h1:(l.map T.int)[k]? =some (.int (l[k]'(by omega))):=by simp
  have h2:(l.map T.int)[k+1]? =some (.int (l[k+1]'(by omega))):=by rw[IQ,Iv (by omega)];rfl
  have g1:=i6 h1
  have g2:L2.atI (l.map T.int) ((k:Int)+1)=some (.int (l[k+1]'(by omega))):=i6 h2
  simp[o2,vr,cq,cn,aB,b7,T.items,g1,g2,rJ,jS])
 rw[BR l h]at e;simp only[iq,val,Jm,if_true,tO,bh,aM,aG]
 show(do let f <-(do let t <-cl kD _ [.va (.tup (l.map .int))];Rs.ok (Fl.rt t));_)=_
 rw[e]
 rfl
def jx:List T->Option (List Int)
 | [] =>some []
 | .int i::l=>match jx l with
  | some m=>some (i::m)
  | none=>none
 | _::_=>none
def cS (t:T):Bool:=c8 t 1 4&&(match t with
 | .tup l=>l.all (λu=>within u 0 99)&&(match jx l with | some m=>mf m | none=>false)
 | _=>false)
theorem lA:∀{l:List T} {m:List Int},jx l=some m->l=m.map .int
 | [],m,h=>by cases h;rfl
 | t::l,m,h=>by
  cases t with
  | int i=>
   unfold jx at h
   cases q:jx l with
   | none=>rw[q]at h;cases h
   | some m'=>rw[q]at h;cases h;rw[HW,<-lA q]
  | _=>cases h
theorem oq:∀{l:List T} {a b:Int},(l.all λu=>within u a b)=true->∃m,jx l=some m
 | [],_,_,_=>⟨[],rfl⟩
 | t::l,a,b,h=>by
  rw[List.all_cons,HS]at h
  cases t with
  | int i=>
   obtain⟨m,e⟩:=oq h.2
   exact⟨i::m,by unfold jx;rw[e]⟩
  | _=>exact absurd h.1 (by simp[within])
theorem cG {t:T}{a b:Nat}(h:c8 t a b=true):∃l,t= .tup l/\a<=l.length/\l.length<=b:=by
 cases t with
 | tup l=>unfold c8 at h;rw[HS]at h;exact⟨l,rfl,of_decide_eq_true h.1,of_decide_eq_true h.2⟩
 | _=>cases h
theorem vP {n k:Nat}(h:n<=k)(hk:autoParam (k<=1000) s_):n<=sizeLine:=by unfold sizeLine;omega
theorem rF (t:T)(h:t.pl=true):bD [t] = .ok (.bl (cS t)):=by
 have w:aH [t,.int 1,.int 4] = .ok (.bl (c8 t 1 4)):=gZ t 1 4 h;unfold cS
 cases q:c8 t 1 4 with
 | false=>rw[q]at w;simp[bD,val,bh,dO,aG,aJ,eE,dj,tb,sN,aM,cl,vr,cn,ae,ai,w]
 | true=>
  rw[q]at w;obtain⟨l,rfl,h1,h2⟩:=cG q
  have hp:∀u∈l,u.pl=true:=λu hu=>ju (by unfold T.pl at h;exact h) hu
  have e:=i7 (fe:=cl aS (ae (vr 0) (ae (cn (.int 0)) (ae (cn (.int 99)) ai)))) (p:=λu=>within u 0 99) (src:=[none]) (fi:=iS (vr 0)) (ρ:=[.va (.tup l)]) rfl (vP h2) (by decide) (λu hu=>by
   simp[cl,ae,ai,vr,cn,cq,dm u 0 99 (hp u hu)])
  have w':cl aH (ae (vr 0) (ae (cn (.int 1)) (ae (cn (.int 4)) ai))) [.va (.tup l)] = .ok (.bl true):=w
  show bD _= .ok (.bl (true&&(l.all (λu=>within u 0 99)&&(match jx l with | some m=>mf m | none=>false))))
  cases qa:l.all λu=>within u 0 99 with
  | false=>
   rw[qa]at e
   simp[bD,val,bh,dO,aG,aJ,eE,dj,tb,sN,aM,bJ,e,w']
  | true=>
   rw[qa]at e;obtain⟨m,em⟩:=oq qa
   have el:=lA em
   have er:=zY m (by rw[el,HP]at h2;exact h2)
   rw[<-el]at er
   have er':cl iq (ae (vr 0) ai) [.va (.tup l)] = .ok (.bl (mf m)):=er;simp[bD,val,bh,dO,aG,aJ,eE,dj,tb,sN,aM,bJ,e,w',er',em]
def at_ (t:T)(k:Nat):T:=match t.items with
 | some l=>l.getD k .non
 | none=> .non
def bz (t:T):Bool:=c8 t 3 3&&(match t with
 | .tup [x,y,r] =>mr x y&&cS r
 | _=>false)
theorem z6 (t:T)(h:t.pl=true):cV [t] = .ok (.bl (bz t)):=by
 have w:aH [t,.int 3,.int 3] = .ok (.bl (c8 t 3 3)):=gZ t 3 3 h;unfold bz
 cases q:c8 t 3 3 with
 | false=>rw[q]at w;simp[cV,val,bh,gu,aG,aM,bJ,cl,vr,cn,ae,ai,w]
 | true=>
  rw[q]at w;obtain⟨l,rfl,h1,h2⟩:=cG q
  match l,h1,h2 with
  | [x,y,r],_,_=>
   simp[T.pl,plS]at h;obtain⟨px,py,pr⟩:=h
   have g0:b7 (.tup [x,y,r]) (.int 0)= .ok x:=rfl
   have g1:b7 (.tup [x,y,r]) (.int 1)= .ok y:=rfl
   have g2:b7 (.tup [x,y,r]) (.int 2)= .ok r:=rfl
   have ep:=C7 x y px py
   have er:=rF r pr
   cases qp:mr x y with
   | false=>rw[qp]at ep;simp[cV,val,bh,gu,aG,aM,bJ,cl,vr,cn,ae,ai,o2,w,g0,g1,ep,qp]
   | true=>rw[qp]at ep;simp[cV,val,bh,gu,aG,aM,bJ,cl,vr,cn,ae,ai,o2,w,g0,g1,g2,ep,er,qp]
def a8 (t:T):Bool:=c8 t 1 4&&(match t with
 | .tup l=>l.all bz
 | _=>false)
theorem xI (t:T)(h:t.pl=true):c7 [t] = .ok (.bl (a8 t)):=by
 have w:aH [t,.int 1,.int 4] = .ok (.bl (c8 t 1 4)):=gZ t 1 4 h;unfold a8
 cases q:c8 t 1 4 with
 | false=>rw[q]at w;simp[c7,val,bh,gv,aG,aM,bJ,cl,vr,cn,ae,ai,w]
 | true=>
  rw[q]at w;obtain⟨l,rfl,h1,h2⟩:=cG q
  have hp:∀u∈l,u.pl=true:=λu hu=>ju (by unfold T.pl at h;exact h) hu
  have e:=i7 (fe:=cl cV (ae (vr 0) ai)) (p:=bz) (src:=[none]) (fi:=iS (vr 0)) (ρ:=[.va (.tup l)]) rfl (vP h2) (by decide) (λu hu=>by
   simp[cl,ae,ai,vr,cn,cq,z6 u (hp u hu)])
  have w':cl aH (ae (vr 0) (ae (cn (.int 1)) (ae (cn (.int 4)) ai))) [.va (.tup l)] = .ok (.bl true):=w;simp[c7,val,bh,gv,aG,aM,bJ,e,w']
def eV (x y:T):Bool:=within x 0 999&&(match x,y with
 | _,.non=>true
 | .int i,_=>within y i 999
 | _,_=>false)
theorem zZ (x y:T)(hx:x.pl=true)(hy:y.pl=true):dv [x,y] = .ok (.bl (eV x y)):=by
 have w:=dm x 0 999 hx;unfold eV
 cases q:within x 0 999 with
 | false=>rw[q]at w;simp[dv,val,bh,gq,aG,aM,bJ,vr,cn,cl,ae,ai,w]
 | true=>
  rw[q]at w
  cases x with
  | int i=>
   have e:=dm y i 999 hy
   cases y with
   | non=>simp[dv,val,bh,gq,aG,aM,bJ,EY,vr,cn,cl,ae,ai,o2,xo,T.isN,w]
   | _=>simp[dv,val,bh,gq,aG,aM,bJ,EY,vr,cn,cl,ae,ai,o2,xo,T.isN,w,e]
  | _=>cases q
def reads (cs:List T)(c:Int):Nat:=if 0<=c then(match cs[c.toNat]? with
 | some (.tup [_,_,.tup r])=>r.length
 | _=>0)else 0
def a9 (cs:List T)(t:T):Bool:=match t with
 | .tup [.int c,.int k] =>decide (0<=c)&&decide (c<cs.length)&&(decide (0<=k)&&decide (k<reads cs c))
 | _=>false
theorem kn {t:T}(h:bz t=true):∃x y r,t= .tup [x,y,.tup r]:=by
 unfold bz at h;rw[HS]at h;obtain⟨h1,h2⟩:=h;obtain⟨l,rfl,h3,h4⟩:=cG h1
 match l,h3,h4,h2 with
 | [x,y,r],_,_,h2=>
  simp only[HS]at h2;obtain⟨_,h5⟩:=h2;unfold cS at h5;rw[HS]at h5;obtain⟨m,rfl,_⟩:=cG h5.1;exact⟨x,y,m,rfl⟩
theorem cT {t:T}{a b:Int}(h:within t a b=true):∃i,t= .int i/\a<=i/\i<=b:=by
 cases t with
 | int i=>unfold within at h;rw[HS]at h;exact⟨i,rfl,of_decide_eq_true h.1,of_decide_eq_true h.2⟩
 | _=>cases h
theorem oJ (cs:List T)(t:T)(hc:a8 (.tup cs)=true)(h:t.pl=true):bZ [.tup cs,t] = .ok (.bl (a9 cs t)):=by
 have w:aH [t,.int 2,.int 2] = .ok (.bl (c8 t 2 2)):=gZ t 2 2 h
 cases q:c8 t 2 2 with
 | false=>
  rw[q]at w
  have:a9 cs t=false:=by
   unfold a9;split
   ·cases q
   ·rfl
  simp[bZ,val,bh,gp,aG,aJ,eE,ku,dj,tb,sN,aM,cl,vr,cn,ae,ai,w,this]
 | true=>
  rw[q]at w;obtain⟨l,rfl,h1,h2⟩:=cG q
  match l,h1,h2 with
  | [x,y],_,_=>
   simp[T.pl,plS]at h;obtain⟨px,py⟩:=h
   have g0:b7 (.tup [x,y]) (.int 0)= .ok x:=rfl
   have g1:b7 (.tup [x,y]) (.int 1)= .ok y:=rfl
   have gl:cH [.tup cs] = .ok (.int cs.length):=rfl
   have e1:=dm x 0 ((cs.length:Int) - 1) px
   cases q1:within x 0 ((cs.length:Int) - 1)with
   | false=>
    rw[q1]at e1
    have:a9 cs (.tup [x,y])=false:=by
     cases x with
     | int c=>
      cases y with
      | int k=>
       simp only[within,NB,decide_eq_false_iff_not]at q1;simp only[a9,NB,decide_eq_false_iff_not]
       omega
      | _=>rfl
     | _=>rfl
    simp[bZ,val,bh,gp,aG,aJ,eE,ku,dj,tb,sN,aM,cl,vr,cn,ae,ai,o2,kr,w,g0,gl,e1,this]
   | true=>
    rw[q1]at e1;obtain⟨c,rfl,c1,c2⟩:=cT q1;obtain⟨n,rfl⟩:=IP c1
    have hn:n<cs.length:=by omega
    have hcl:bz cs[n] =true:=by
     unfold a8 at hc;rw[HS]at hc;exact ID.mp hc.2 _ (J9 hn)
    obtain⟨a,b,r,er⟩:=kn hcl
    have g2:b7 (.tup cs) (.int (n:Int))= .ok (.tup [a,b,.tup r]):=by
     simp only[b7,T.items];rw[i6 (Iv hn),er]
    have g3:b7 (.tup [a,b,.tup r]) (.int 2)= .ok (.tup r):=rfl
    have gr:cH [.tup r] = .ok (.int r.length):=rfl
    have e2:=dm y 0 ((r.length:Int) - 1) py
    have:a9 cs (.tup [.int n,y])=within y 0 ((r.length:Int) - 1):=by
     have er2:reads cs (n:Int)=r.length:=by
      unfold reads;rw[if_pos c1,IY,Iv hn,er]
     cases y with
     | int k=>
      simp only[a9,within,er2];rw[decide_eq_true c1,decide_eq_true (show(n:Int)<cs.length by omega)]
      simp only[Lw]
      congr 1
      exact decide_eq_decide.mpr (by omega)
     | _=>rfl
    simp[bZ,val,bh,gp,aG,aJ,eE,ku,dj,tb,sN,aM,cl,vr,cn,ae,ai,o2,kr,w,g0,g1,g2,g3,gl,gr,e1,e2,this]
def cp (cs:List T)(t:T):Bool:=match t with
 | .tup [a,b,x,y] =>eV x y&&(a9 cs a&&(a9 cs b&& !bQ a b))
 | _=>false
theorem eI {cs:List T}{t:T}(h:a9 cs t=true):∃c k:Int,t= .tup [.int c,.int k]:=by
 unfold a9 at h
 split at h
 ·exact⟨_,_,rfl⟩
 ·cases h
theorem xG (cs:List T)(t:T)(hc:a8 (.tup cs)=true)(h:t.pl=true):bO [.tup cs,t] = .ok (.bl (cp cs t)):=by
 have w:aH [t,.int 4,.int 4] = .ok (.bl (c8 t 4 4)):=gZ t 4 4 h
 cases q:c8 t 4 4 with
 | false=>
  rw[q]at w
  have:cp cs t=false:=by
   unfold cp;split
   ·cases q
   ·rfl
  simp[bO,val,bh,dD,aG,aJ,eE,ku,dj,tb,sN,aM,cl,vr,cn,ae,ai,w,this]
 | true=>
  rw[q]at w;obtain⟨l,rfl,h1,h2⟩:=cG q
  match l,h1,h2 with
  | [a,b,x,y],_,_=>
   simp[T.pl,plS]at h;obtain⟨pa,pb,px,py⟩:=h
   have g0:b7 (.tup [a,b,x,y]) (.int 0)= .ok a:=rfl
   have g1:b7 (.tup [a,b,x,y]) (.int 1)= .ok b:=rfl
   have g2:b7 (.tup [a,b,x,y]) (.int 2)= .ok x:=rfl
   have g3:b7 (.tup [a,b,x,y]) (.int 3)= .ok y:=rfl
   have e1:=zZ x y px py
   have e2:=oJ cs a hc pa
   have e3:=oJ cs b hc pb
   show _=Rs.ok (T.bl (eV x y&&(a9 cs a&&(a9 cs b&& !bQ a b))))
   cases q1:eV x y with
   | false=>
    rw[q1]at e1
    simp[bO,val,bh,dD,aG,aJ,eE,ku,dj,tb,sN,aM,cl,vr,cn,ae,ai,o2,w,g2,g3,e1]
   | true=>
    rw[q1]at e1
    cases q2:a9 cs a with
    | false=>
     rw[q2]at e2
     simp[bO,val,bh,dD,aG,aJ,eE,ku,dj,tb,sN,aM,bJ,cl,vr,cn,ae,ai,o2,w,g0,g2,g3,e1,e2]
    | true=>
     rw[q2]at e2
     cases q3:a9 cs b with
     | false=>
      rw[q3]at e3
      simp[bO,val,bh,dD,aG,aJ,eE,ku,dj,tb,sN,aM,bJ,cl,vr,cn,ae,ai,o2,w,g0,g1,g2,g3,e1,e2,e3]
     | true=>
      rw[q3]at e3;obtain⟨c,k,rfl⟩:=eI q2
      have f:gg (.tup [.int c,.int k]) b=true:=dN (by simp[T.dep,deps]) rfl (T.GI _ pb)
      have g4:neT (.tup [.int c,.int k]) b= .ok (.bl (!bQ (.tup [.int c,.int k]) b)):=by unfold neT;rw[if_pos f]
      simp[bO,val,bh,dD,aG,aJ,eE,ku,dj,tb,sN,aM,bJ,cl,vr,cn,ae,ai,o2,w,g0,g1,g2,g3,g4,e1,e2,e3]
def ir (cs:List T)(t:T):Bool:=c8 t 0 8&&(match t with
 | .tup l=>l.all (cp cs)
 | _=>false)
theorem uC (cs:List T)(t:T)(hc:a8 (.tup cs)=true)(h:t.pl=true):cI [.tup cs,t] = .ok (.bl (ir cs t)):=by
 have w:aH [t,.int 0,.int 8] = .ok (.bl (c8 t 0 8)):=gZ t 0 8 h;unfold ir
 cases q:c8 t 0 8 with
 | false=>rw[q]at w;simp[cI,val,bh,fI,aG,aM,bJ,cl,vr,cn,ae,ai,w]
 | true=>
  rw[q]at w;obtain⟨l,rfl,h1,h2⟩:=cG q
  have hp:∀u∈l,u.pl=true:=λu hu=>ju (by unfold T.pl at h;exact h) hu
  have e:=i7 (fe:=cl bO (ae (vr 1) (ae (vr 0) ai))) (p:=cp cs) (src:=[none,some 0]) (fi:=iS (vr 1)) (ρ:=[.va (.tup cs),.va (.tup l)]) rfl (vP h2) (by decide) (λu hu=>by
   simp[cl,ae,ai,vr,cn,cq,xG cs u hc (hp u hu)])
  have w':cl aH (ae (vr 1) (ae (cn (.int 0)) (ae (cn (.int 8)) ai))) [.va (.tup cs),.va (.tup l)] = .ok (.bl true):=w;simp[cI,val,bh,fI,aG,aM,bJ,e,w']
def gC (t:T):Bool:=match t with
 | .tup [.tup cs,ls] =>a8 (.tup cs)&&ir cs ls
 | _=>false
theorem qm (t:T)(h:t.pl=true):cU [t] = .ok (.bl (gC t)):=by
 have w:aH [t,.int 2,.int 2] = .ok (.bl (c8 t 2 2)):=gZ t 2 2 h
 cases q:c8 t 2 2 with
 | false=>
  rw[q]at w
  have:gC t=false:=by
   unfold gC;split
   ·cases q
   ·rfl
  simp[cU,val,bh,fy,aG,aM,bJ,cl,vr,cn,ae,ai,w,this]
 | true=>
  rw[q]at w;obtain⟨l,rfl,h1,h2⟩:=cG q
  match l,h1,h2 with
  | [x,y],_,_=>
   simp[T.pl,plS]at h;obtain⟨px,py⟩:=h
   have g0:b7 (.tup [x,y]) (.int 0)= .ok x:=rfl
   have g1:b7 (.tup [x,y]) (.int 1)= .ok y:=rfl
   have e1:=xI x px
   cases q1:a8 x with
   | false=>
    rw[q1]at e1
    have:gC (.tup [x,y])=false:=by
     cases x with
     | tup cs=>show(a8 (.tup cs)&&_)=false;rw[q1];rfl
     | _=>rfl
    simp[cU,val,bh,fy,aG,aM,bJ,cl,vr,cn,ae,ai,o2,w,g0,e1,this]
   | true=>
    rw[q1]at e1
    cases x with
    | tup cs=>
     have e2:=uC cs y q1 py
     have:gC (.tup [.tup cs,y])=ir cs y:=by show(a8 (.tup cs)&&_)=_;rw[q1];rfl
     simp[cU,val,bh,fy,aG,aM,bJ,cl,vr,cn,ae,ai,o2,w,g0,g1,e1,e2,this]
    | _=>cases q1
theorem ne_int (a b:Int):neT (.int a) (.int b)= .ok (.bl (!(a == b))):=by
 unfold neT;rw[if_pos (dN (by simp[T.dep]) rfl rfl)]
 rfl
theorem e9:∀m:List Int,deps (m.map .int)=0
 | [] =>rfl
 | a::m=>by rw[HW,deps,e9 m];rfl
def fW (i n:Nat):List T:=(rng 0 n).map λt=>T.tup [.int i,t]
def qU:T->Nat
 | .tup [_,_,.tup r] =>r.length
 | _=>0
def di:Nat->List T->List T
 | _,[] => []
 | i,c::r=>fW i (qU c)++di (i+1) r
theorem dC {t:T}(h:bz t=true):∃x y r,t= .tup [x,y,.tup r]/\1<=r.length/\r.length<=4:=by
 obtain⟨x,y,r,rfl⟩:=kn h
 have:cS (.tup r)=true:=by
  have h':(mr x y&&cS (.tup r))=true:=h;rw[HS]at h';exact h'.2
 unfold cS at this;rw[HS]at this;obtain⟨l,e,h1,h2⟩:=cG this.1;cases e;exact⟨x,y,r,rfl,h1,h2⟩
theorem fo (i n:Nat):(fW i n).length=n:=by unfold fW;rw[HP,ij]
abbrev evF:En->Rs Fl:=c6 (o2 aB (vr 1) (fF (iR (ae (cl cH (ae (o2 b7 (vr 3) (cn (.int 2))) ai)) ai)) [none,some 2] (gN 0) bT (bt (ae (vr 1) (ae (vr 0) ai))))) (gN 1)
abbrev evG:T->En->Rs En:=gT 2 (kB (gN 2) (kB (gN 3) uB))
theorem CZ {f:En->Rs (List T)}{ρ:En}{j:Int}(h:f ρ= .ok [.int j])(h0:0<=j)(h1:j<=100000):iR f ρ= .ok (rng 0 j):=by
 have e:yi j=true:=by unfold yi;rw[HS];exact⟨decide_eq_true (by omega),decide_eq_true (by omega)⟩
 unfold iR;rw[h]
 show(if yi j=true then _ else _)=_
 rw[e];rfl
theorem tK (l m:List T)(h:(l++m).length<=1000):aB (.lst l) (.lst m)= .ok (.lst (l++m)):=by
 show kg (l++m)=_
 unfold kg;rw[if_pos (bM h)]
theorem gj (l m:List T)(h:(l++m).length<=1000):aB (.tup l) (.tup m)= .ok (.tup (l++m)):=by
 show fg (l++m)=_
 unfold fg;rw[if_pos (bM h)]
theorem FK (c0 acc x y:T)(r:List T)(i:Nat)(h:r.length<=4) :
  fF (iR (ae (cl cH (ae (o2 b7 (vr 3) (cn (.int 2))) ai)) ai)) [none,some 2] (gN 0) bT (bt (ae (vr 1) (ae (vr 0) ai))) [.va c0,.va acc,.va (.int i),.va (.tup [x,y,.tup r])] = .ok (.lst (fW i r.length)):=
 rA (CZ (j:=(r.length:Int)) rfl (by omega) (by omega)) (bM (k:=4) (by rw[ij];exact h)) (by simp) λt _=>mk2 _ _
theorem zV (c0 x y:T)(acc r:List T)(i:Nat)(h:r.length<=4)(ha:acc.length<=100):evF [.va c0,.va (.lst acc),.va (.int i),.va (.tup [x,y,.tup r])] = .ok (.nx [.va c0,.va (.lst (acc++fW i r.length)),.va (.int i),.va (.tup [x,y,.tup r])]):=
 b6 (aN (t:=.lst acc) rfl (FK c0 (.lst acc) x y r i h) (tK _ _ (by rw[HK,fo];omega))) rfl
theorem sX:∀(cs:List T) (c0:T) (acc:List T) (i:Nat) (s2 s3:Sl),(∀c∈cs,bz c=true)->acc.length+4*cs.length<=100 →
  ∃y2 y3,bo evG evF (de i cs) [.va c0,.va (.lst acc),s2,s3] = .ok (.nx [.va c0,.va (.lst (acc++di i cs)),y2,y3])
 | [],c0,acc,i,s2,s3,_,_=>⟨s2,s3,by simp[de,bo,di]⟩
 | c::cs,c0,acc,i,s2,s3,hc,hl=>by
  obtain⟨x,y,r,rfl,r1,r2⟩:=dC (hc c HU);rw[HR]at hl;obtain⟨z2,z3,ih⟩:=sX cs c0 (acc++fW i r.length) (i+1) (.va (.int i)) (.va (.tup [x,y,.tup r])) (λc h=>hc c (HQ _ h)) (by rw[HK,fo];omega)
  refine⟨z2,z3,?_⟩
  rw[de,fk (ρ1:=[.va c0,.va (.lst acc),.va (.int i),.va (.tup [x,y,.tup r])]) rfl (zV c0 x y acc r i r2 (by omega)),ih,di,Iq]
  rfl
theorem aT {cs:List T}(hc:a8 (.tup cs)=true):(∀c∈cs,bz c=true)/\1<=cs.length/\cs.length<=4:=by
 unfold a8 at hc;rw[HS]at hc;obtain⟨l,e,h1,h2⟩:=cG hc.1;cases e;exact⟨λc h=>ID.mp hc.2 c h,h1,h2⟩
theorem lN (cs:List T)(hc:a8 (.tup cs)=true):bx [.tup cs] = .ok (.lst (di 0 cs)):=by
 obtain⟨ha,h1,h2⟩:=aT hc;obtain⟨y2,y3,e⟩:=sX cs (.tup cs) [] 0 .em .em ha (by simp;omega)
 rw[Kh]at e;refine cu rfl ?_
 unfold iM;rw[aK (ρ':=[.va (.tup cs),.va (.lst []),.em,.em]) rfl,aK ((iJ (ts:=de 0 cs) rfl e))]
 rfl
theorem zB {n k:Nat}(h:k<n):T.int (k:Int)∈rng 0 (n:Int):=by
 unfold rng;exact HY.mpr ⟨k,JN.mpr (by omega),by simp⟩
theorem mW (cs:List T)(c:Nat):reads cs (c:Int)=qU (cs.getD c .non):=by
 unfold reads;rw[if_pos (by omega),IY,IF]
 cases cs[c]? with
 | none=>rfl
 | some t=>
  cases t with
  | tup l=>
   match l with
   | [] =>rfl
   | [_] =>rfl
   | [_,_] =>rfl
   | [_,_,z] =>cases z <;> rfl
   | _::_::z::_::_=>cases z <;> rfl
  | _=>rfl
mutual
def sm (n:Nat):T->Bool
 | .dct _ _=>false
 | .ob _ _ _=>false
 | .scr _=>false
 | .tup l=>decide (l.length<=n)&&sms n l
 | .lst l=>decide (l.length<=n)&&sms n l
 | _=>true
def sms (n:Nat):List T->Bool
 | [] =>true
 | t::l=>sm n t&&sms n l
end
mutual
theorem AU {n:Nat}:∀(t:T),sm n t=true->t.pl=true
 | .scr _,h=>by simp[sm]at h
 | .dct _ _,h=>by simp[sm]at h
 | .ob _ _ _,h=>by simp[sm]at h
 | .tup l,h=>by rw[sm,HS]at h;rw[T.pl];exact sms_pl l h.2
 | .lst l,h=>by rw[sm,HS]at h;rw[T.pl];exact sms_pl l h.2
 | .non,_=>by simp[T.pl]
 | .bl _,_=>by simp[T.pl]
 | .int _,_=>by simp[T.pl]
 | .str _,_=>by simp[T.pl]
theorem sms_pl {n:Nat}:∀(l:List T),sms n l=true->plS l=true
 | [],_=>by simp[plS]
 | t::l,h=>by rw[sms,HS]at h;rw[plS,AU t h.1,sms_pl l h.2];rfl
end
theorem r9 {n:Nat}:∀{l:List T},sms n l=true↔ ∀t∈l,sm n t=true
 | [] =>by simp[sms]
 | t::l=>by rw[sms,HS,r9 (l:=l)];simp
theorem sm_tup {n:Nat}{l:List T}:sm n (.tup l)=true↔l.length<=n/\∀t∈l,sm n t=true:=by rw[sm,HS,r9,decide_eq_true_iff]
theorem iW {i j:Int}(h:0<j):jB (.int i) (.int j)= .ok (.int (i % j)):=by show(if _ then _ else _)=_;rw[if_pos h]
theorem kJ {i j:Int}(h:0<j)(h2:j<1073741824):jG (.int i) (.int j)= .ok (.int (i / j)):=by show(if _ then _ else _)=_;rw[if_pos ⟨h,h2⟩]
theorem kf {i j:Int}(h : -18446744073709551616<i)(h2:i<18446744073709551616):cj (.int i) (.int j)= .ok (.int (i*j)):=by
 show rh (.int i) (.int j)=_
 show(if _ then _ else _)=_
 rw[if_pos (.inl ⟨by omega,by omega⟩)]
theorem Fd {i j:Int}(h : -18446744073709551616<j)(h2:j<18446744073709551616):cj (.int i) (.int j)= .ok (.int (i*j)):=by
 show rh (.int i) (.int j)=_
 show(if _ then _ else _)=_
 rw[if_pos (.inr ⟨by omega,by omega⟩)]
theorem C9 (ns:List Int)(k:Nat)(hn:ns.length<=63):∃c,eH [.scr ns,.int k] = .ok (.int c):=by
 have e0:o2 eqT (vr 0) (g7 ai) [.va (.scr ns),.va (.int k)] = .ok (.bl (iK ns [])):=by
  refine aN (t:=.scr ns) (u:=.lst []) rfl (lI (ts:=[]) rfl (bM (k:=0) (Ia _))) ?_
  unfold eqT;rw[if_pos (dN (by simp[T.dep]) rfl rfl)]
  rfl
 cases ns with
 | nil=>
  refine⟨7*k,cu rfl ?_⟩
  unfold ib
  refine xc ((kj (cN e0)).trans (dA (aN (t:=.int 7) (u:=.int k) rfl rfl (kf (by omega) (by omega)))))
 | cons a r=>
  have hl:(0:Int)<((a::r).length:Nat):=by simp only[HR];omega
  have hl2:(((a::r).length:Nat):Int)<1073741824:=by simp only[HR]at hn ⊢;omega
  have hi:k % (a::r).length<(a::r).length:=Nat.mod_lt _ (by simp)
  have g0:o2 jB (vr 1) (cl cH (ae (vr 0) ai)) [.va (.scr (a::r)),.va (.int k)] = .ok (.int ((k % (a::r).length:Nat):Int)):=by
   refine aN (t:=.int k) (u:=.int ((a::r).length:Nat)) rfl ?_ (by rw[iW hl];rfl)
   refine aR (ts:=[.scr (a::r)]) rfl ?_
   show Rs.ok (T.int (((a::r).map T.int).length:Nat))=_
   rw[HP]
  have g1:b7 (.scr (a::r)) (.int ((k % (a::r).length:Nat):Int))= .ok (.int (a::r)[k % (a::r).length]):=by
   have e:((a::r).map T.int)[k % (a::r).length]? =some (.int (a::r)[k % (a::r).length]):=by rw[IQ,Iv hi];rfl
   show(match L2.atI ((a::r).map T.int) ((k % (a::r).length:Nat):Int)with | some t=>Rs.ok t | none=> .bad)=_
   rw[i6 e]
  have g2:o2 jG (vr 1) (cl cH (ae (vr 0) ai)) [.va (.scr (a::r)),.va (.int k)] = .ok (.int ((k:Int) / ((a::r).length:Nat))):=by
   refine aN (t:=.int k) (u:=.int ((a::r).length:Nat)) rfl ?_ (kJ hl hl2)
   refine aR (ts:=[.scr (a::r)]) rfl ?_
   show Rs.ok (T.int (((a::r).map T.int).length:Nat))=_
   rw[HP]
  refine⟨(a::r)[k % (a::r).length] +6553*((k:Int) / ((a::r).length:Nat)),cu rfl ?_⟩
  unfold ib
  show aJ _ _ [.va (.scr (a::r)),.va (.int k)] =_
  refine(aK (ρ':=[.va (.scr (a::r)),.va (.int k)]) ((dQ (cN e0)).trans rfl)).trans ?_
  exact dA (aN (aN (t:=.scr (a::r)) rfl g0 g1) (aN (t:=.int 6553) rfl g2 (kf (by omega) (by omega))) rfl)
theorem bW (ns:List Int)(k:Nat)(m:Int)(hn:ns.length<=63)(hm:0<m):∃r,aw [.scr ns,.int k,.int m] = .ok (.int r)/\0<=r/\r<m:=by
 obtain⟨c,hc⟩:=C9 ns k hn
 have b1:∀x:Int,0<=x % 2147483563/\x % 2147483563<2147483563:=λx=>⟨NC _ (by omega),Mx _ (by omega)⟩
 have b2:∀x:Int,0<=x % 2147483399/\x % 2147483399<2147483399:=λx=>⟨NC _ (by omega),Mx _ (by omega)⟩
 generalize hx:(c % 2147483563*69069+104723*((k:Int)+1)) % 2147483563=x
 have hx':=b1 (c % 2147483563*69069+104723*((k:Int)+1));rw[hx]at hx'
 generalize hy:(x*x+x / 3) % 2147483399=y
 have hy':=b2 (x*x+x / 3);rw[hy]at hy';refine⟨(y*y+y / 7) % 2147483647 / 11 % m,cu rfl ?_,NC _ (by omega),Mx _ hm⟩
 show gx [.va (.scr ns),.va (.int k),.va (.int m),.em] =_
 unfold gx
 have s1:c6 (o2 jB (o2 aB (o2 cj (o2 jB (cl eH (ae (vr 0) (ae (vr 1) ai))) (cn (.int 2147483563))) (cn (.int 69069))) (o2 cj (cn (.int 104723)) (o2 aB (vr 1) (cn (.int 1))))) (cn (.int 2147483563))) (gN 3) [.va (.scr ns),.va (.int k),.va (.int m),.em] = .ok (.nx [.va (.scr ns),.va (.int k),.va (.int m),.va (.int x)]):=by
  refine b6 (t:=.int x) (aN (u:=.int 2147483563) (aN (aN (u:=.int 69069) (aN (u:=.int 2147483563) (aR (ts:=[.scr ns,.int k]) rfl hc) rfl (iW (by omega))) rfl (Fd (by omega) (by omega))) (aN (t:=.int 104723) (u:=.int ((k:Int)+1)) rfl rfl (kf (by omega) (by omega))) rfl) rfl ?_) rfl
  rw[iW (by omega),hx]
 have s2:c6 (o2 jB (o2 aB (o2 cj (vr 3) (vr 3)) (o2 jG (vr 3) (cn (.int 3)))) (cn (.int 2147483399))) (gN 3) [.va (.scr ns),.va (.int k),.va (.int m),.va (.int x)] = .ok (.nx [.va (.scr ns),.va (.int k),.va (.int m),.va (.int y)]):=by
  refine b6 (t:=.int y) (aN (u:=.int 2147483399) (aN (aN (t:=.int x) (u:=.int x) rfl rfl (kf (by omega) (by omega))) (aN (t:=.int x) (u:=.int 3) rfl rfl (kJ (by omega) (by omega))) rfl) rfl ?_) rfl
  rw[iW (by omega),hy]
 rw[aK s1,aK s2];exact dA (aN (u:=.int m) (aN (u:=.int 11) (aN (u:=.int 2147483647) (aN (aN (t:=.int y) (u:=.int y) rfl rfl (kf (by omega) (by omega))) (aN (t:=.int y) (u:=.int 7) rfl rfl (kJ (by omega) (by omega))) rfl) rfl (iW (by omega))) rfl (kJ (by omega) (by omega))) rfl (iW hm))
theorem bU {ns:List Int}{k:Nat}{m r:Int}{f g h:En->Rs T}{ρ:En}(e:aw [.scr ns,.int k,.int m] = .ok (.int r))(h1:f ρ= .ok (.scr ns))(h2:g ρ= .ok (.int k))(h3:h ρ= .ok (.int m)) :
  cl aw (ae f (ae g (ae h ai))) ρ= .ok (.int r):=aR (aj h1 (aj h2 (aj h3 rfl))) e
theorem pL:∀(l:List Int) (z y:Int),mf (l++ [z])=true->z<y->mf (l++ [z] ++ [y])=true
 | [],z,y,_,h=>by simp[mf,h]
 | [a],z,y,h,hy=>by
  simp[mf]at h ⊢
  omega
 | a::b::l,z,y,h,hy=>by
  have h':mf (a::b::(l++ [z]))=true:=h;rw[El,HS]at h'
  have ih:=pL (b::l) z y h'.2 hy
  show mf (a::b::(l++ [z] ++ [y]))=true
  rw[El,h'.1];exact ih
theorem lC:∀l:List Int,jx (l.map .int)=some l
 | [] =>rfl
 | a::l=>by rw[HW,jx,lC l]
def RdOk (l:List Int):Prop:=∃(l':List Int) (z:Int),l=l'++ [z]/\mf l=true/\(∀x∈l,0<=x/\x<=5*l.length)/\z<=5*l.length
abbrev clF:En->Rs Fl:=c6 (o2 aB (vr 3) (bt (ae (o2 aB (o2 aB (o2 b7 (vr 3) (o1 gE (cn (.int 1)))) (cn (.int 1))) (cl aw (ae (vr 0) (ae (o2 aB (o2 aB (vr 1) (cn (.int 3))) (vr 4)) (ae (cn (.int 5)) ai))))) ai))) (gN 3)
theorem zJ (l:List T)(z:T):b7 (.tup (l++ [z])) (.int (-1))= .ok z:=by
 have e:L2.atI (l++ [z]) (-1)=some z:=by
  unfold L2.atI L2.ixN;simp;rw[if_pos (by omega)]
  have q:(-1+((l.length:Int)+1)).toNat=l.length:=by omega
  show(l++ [z])[(-1+((l.length:Int)+1)).toNat]? =some z
  rw[q];simp
 show(match L2.atI (l++ [z]) (-1)with | some t=>Rs.ok t | none=> .bad)=_
 rw[e]
theorem Au (ns:List Int)(hn:ns.length<=63)(a j:Nat)(s:T)(l:List Int)(h:RdOk l)(hl:l.length<=3):∃l2,clF [.va (.scr ns),.va (.int a),.va s,.va (.tup (l.map .int)),.va (.int j)] = .ok (.nx [.va (.scr ns),.va (.int a),.va s,.va (.tup (l2.map .int)),.va (.int j)])/\RdOk l2/\l2.length=l.length+1:=by
 obtain⟨l',z,rfl,h1,h2,h3⟩:=h;obtain⟨d,ed,d0,d1⟩:=bW ns (a+3+j) 5 hn (by omega)
 refine⟨l'++ [z] ++ [z+1+d],?_,⟨l'++ [z],z+1+d,rfl,pL l' z _ h1 (by omega),?_,?_⟩,by simp⟩
 ·refine b6 (t:=.tup ((l'++ [z] ++ [z+1+d]).map .int)) (aN (t:=.tup ((l'++ [z]).map .int)) (u:=.tup [.int (z+1+d)]) rfl (ck (ts:=[.int (z+1+d)]) (aj (aN (t:=.int (z+1)) (u:=.int d) (aN (t:=.int z) (u:=.int 1) (aN (t:=.tup ((l'++ [z]).map .int)) (u:=.int (-1)) rfl rfl ?_) rfl rfl) (bU (k:=a+3+j) ed rfl ?_ rfl) rfl) rfl) (bM (k:=1) (by simp))) ?_) rfl
  ·rw[JH];exact zJ _ _
  ·refine aN (t:=.int ((a:Int)+3)) (u:=.int j) (aN (t:=.int a) (u:=.int 3) rfl rfl rfl) rfl ?_
   show Rs.ok (T.int ((a:Int)+3+j))=_
   congr 2
  ·rw[JH (l₁:=l'++ [z])]
   exact gj _ _ (by rw[HK,HP];simp at hl ⊢;omega)
 ·intro x hx
  rcases HV.mp hx with hx | hx
  ·have:=h2 x hx
   simp only[HK,Jm]at this ⊢;omega
  ·rw[Ir]at hx
   subst hx
   have hz:=h2 z (by simp)
   simp only[HK,Jm]at h3 ⊢;omega
 ·simp only[HK,Jm]at h3 ⊢
  omega
theorem tF (ns:List Int)(hn:ns.length<=63)(a:Nat)(s:T):∀(js:List Nat) (l:List Int) (s4:Sl),RdOk l->l.length+js.length<=4->∃l2 s5,bo (gN 4) clF (js.map λ(j:Nat)=>T.int j) [.va (.scr ns),.va (.int a),.va s,.va (.tup (l.map .int)),s4] = .ok (.nx [.va (.scr ns),.va (.int a),.va s,.va (.tup (l2.map .int)),s5])/\RdOk l2/\l2.length=l.length+js.length
 | [],l,s4,h,_=>⟨l,s4,rfl,h,rfl⟩
 | j::js,l,s4,h,hl=>by
  rw[HR]at hl;obtain⟨l2,e2,h2,n2⟩:=Au ns hn a j s l h (by omega)
  obtain⟨l3,s5,e3,h3,n3⟩:=tF ns hn a s js l2 (.va (.int j)) h2 (by omega)
  refine⟨l3,s5,?_,h3,by rw[n3,n2,HR];omega⟩
  rw[HW,fk (ρ1:=[.va (.scr ns),.va (.int a),.va s,.va (.tup (l.map .int)),.va (.int j)]) rfl e2];exact e3
theorem jt (n:Nat):rng 0 (n:Int)=(Js n).map λ(j:Nat)=>T.int j:=by
 unfold rng;simp
theorem RdOk.reads {l:List Int}(h:RdOk l)(hl:l.length<=4):cS (.tup (l.map .int))=true:=by
 obtain⟨l',z,rfl,h1,h2,h3⟩:=h;unfold cS;rw[HS];refine⟨?_,?_⟩
 ·simp[c8];simp at hl;omega
 ·show(((l'++ [z]).map T.int).all (λu=>within u 0 99)&&(match jx ((l'++ [z]).map T.int)with | some m=>mf m | none=>false))=true
  rw[lC]
  show(_&&mf (l'++ [z]))=true
  rw[h1,Ov,ID];intro t ht;obtain⟨x,hx,rfl⟩:=HY.mp ht
  have:=h2 x hx;simp only[within,HS,decide_eq_true_eq];omega
theorem yF (n:Nat)(l:List Int)(h:l.length<=n):sm n (.tup (l.map .int))=true:=sm_tup.mpr ⟨by rw[HP];exact h,λt ht=>by obtain⟨x,_,rfl⟩:=HY.mp ht;simp[sm]⟩
def Dc (c:T):Prop:=∃(x y:Int) (l:List Int),c= .tup [.int x,.int y,.tup (l.map .int)]/\RdOk l/\l.length<=3
theorem xH (ns:List Int)(hn:ns.length<=63)(a:Nat):∃c,bR [.scr ns,.int a] = .ok c/\bz c=true/\sm 8 c=true/\Dc c:=by
 obtain⟨d1,e1,p1,q1⟩:=bW ns a 3 hn (by omega)
 obtain⟨d2,e2,p2,q2⟩:=bW ns (a+2) 6 hn (by omega)
 obtain⟨d3,e3,p3,q3⟩:=bW ns (a+1) 3 hn (by omega)
 obtain⟨d4,e4,p4,q4⟩:=bW ns (a+6) 3 hn (by omega)
 obtain⟨n3,rfl⟩:=IP p3;obtain⟨l,s5,el,hl,nl⟩:=tF ns hn a (.int (1+d1)) (Js n3) [d2] .em ⟨[],d2,rfl,rfl,λx hx=>by rw[Ir]at hx;subst hx;simp;omega,by simp;omega⟩ (by simp;omega)
 have nl':l.length<=4:=by rw[nl];simp;omega
 have hr:=hl.reads nl';refine⟨.tup [.int (1+d1),.int (1+d1+d4),.tup (l.map .int)],cu rfl ?_,?_,?_,⟨_,_,l,rfl,hl,by rw[nl];simp;omega⟩⟩
 ·show gy [.va (.scr ns),.va (.int a),.em,.em,.em] =_
  unfold gy;rw[aK (ρ':=[.va (.scr ns),.va (.int a),.va (.int (1+d1)),.em,.em]) (b6 (t:=.int (1+d1)) (aN (t:=.int 1) rfl (bU e1 rfl rfl rfl) rfl) rfl)];rw[aK (ρ':=[.va (.scr ns),.va (.int a),.va (.int (1+d1)),.va (.tup ([d2].map .int)),.em]) (b6 (t:=.tup [.int d2]) (ck (ts:=[.int d2]) (aj (bU (k:=a+2) e2 rfl rfl rfl) rfl) (bM (k:=1) (by simp))) rfl)]
  rw[aK ((iJ (CZ (aj (bU (k:=a+1) e3 rfl rfl rfl) rfl) (by omega) (by omega)) (by rw[jt];exact el)))]
  exact dA (ck (aj (t:=.int (1+d1)) rfl (aj (aN (t:=.int (1+d1)) rfl (bU (k:=a+6) e4 rfl rfl rfl) rfl) (aj (t:=.tup (l.map .int)) rfl rfl))) (bM (k:=3) (by simp)))
 ·show(true&&(mr (.int (1+d1)) (.int (1+d1+d4))&&cS _))=true
  rw[hr];simp only[mr,within,Lw,Ov,HS,decide_eq_true_eq];omega
 ·refine sm_tup.mpr ⟨by simp,λt ht=> ?_⟩
  rcases HZ.mp ht with rfl | ht
  ·simp[sm]
  ·rcases HZ.mp ht with rfl | ht
   ·simp[sm]
   ·rw[Ir]at ht;subst ht;exact yF 8 l (by omega)
theorem fx {y:T}:∀(cs:List T) (i:Nat),y∈di i cs->∃c k:Nat,y= .tup [.int c,.int k]/\i<=c/\c<i+cs.length/\k<qU (cs.getD (c - i) .non)
 | [],i,h=>by cases h
 | x::cs,i,h=>by
  rw[di]at h;rcases HV.mp h with h | h
  ·unfold fW at h
   obtain⟨t,ht,rfl⟩:=HY.mp h;obtain⟨j,rfl,hj⟩:=kF ht;refine⟨i,j,rfl,Ia _,by rw[HR];omega,?_⟩
   rw[My]
   show j<qU x
   omega
  ·obtain⟨c,k,e,h1,h2,h3⟩:=fx cs (i+1) h
   refine⟨c,k,e,by omega,by rw[HR];omega,?_⟩
   have:c - i=(c - (i+1))+1:=by omega
   rw[this];exact h3
theorem xC {cs:List T}{y:T}(h:y∈di 0 cs):a9 cs y=true:=by
 obtain⟨c,k,rfl,_,h2,h3⟩:=fx cs 0 h
 show(decide ((0:Int)<=(c:Int))&&decide ((c:Int)<(cs.length:Int))&&(decide ((0:Int)<=(k:Int))&&decide ((k:Int)<(reads cs (c:Int):Int))))=true
 rw[K4]at h3;rw[mW];simp only[HS,decide_eq_true_eq];omega
theorem jQ:∀(cs:List T) (i:Nat),(di i cs).Nodup
 | [],i=>MH
 | x::cs,i=>by
  rw[di,MU];refine⟨?_,jQ cs (i+1),?_⟩
  ·unfold fW rng
   rw[Iu];rw[Ms,List.pairwise_map];refine List.nodup_range.imp ?_
   intro a b hab e
   simp at e
   exact hab (by omega)
  ·intro a ha b hb e
   subst e;unfold fW at ha;obtain⟨t,ht,rfl⟩:=HY.mp ha;obtain⟨c,k,e,h1,_,_⟩:=fx cs (i+1) hb
   simp at e
   omega
theorem wO {l:List T}(h:l.Nodup){i j:Nat}(hi:i<l.length)(hj:j<l.length)(hij:i≠j):l[i] ≠l[j]:=by
 rw[Ms,List.pairwise_iff_getElem]at h;rcases Nat.lt_or_ge i j with q | q
 ·exact h i j hi hj q
 ·exact λe=>h j i hj hi (by omega) e.symm
theorem oI:∀(cs:List T) (i:Nat),(∀c∈cs,bz c=true)->(di i cs).length<=4*cs.length
 | [],i,_=>Ia _
 | x::cs,i,h=>by
  obtain⟨a,b,r,rfl,_,h2⟩:=dC (h x HU)
  have:=oI cs (i+1) λc hc=>h c (HQ _ hc)
  rw[di,HK,fo,HR]
  show r.length+_<=_
  omega
theorem xA {cs:List T}{a b:T}(ha:a9 cs a=true)(hb:a9 cs b=true)(h:a≠b):bQ a b=false:=by
 obtain⟨c,k,rfl⟩:=eI ha;obtain⟨c',k',rfl⟩:=eI hb;rw[Bool.eq_false_iff];intro e;simp[bQ,beqTs]at e;exact h (by rw[e.1,e.2])
theorem pG {cs:List T}{a:T}(ha:a9 cs a=true):sm 8 a=true:=by
 obtain⟨c,k,rfl⟩:=eI ha;simp[sm,sms]
theorem xk {l:List T}{i:Nat}(h:i<l.length):b7 (.lst l) (.int (i:Int))= .ok l[i]:=by
 show(match L2.atI l (i:Int)with | some t=>Rs.ok t | none=> .bad)=_
 rw[i6 (Iv h)]
theorem jW (a b:Int):eqT (.int a) (.int b)= .ok (.bl (a == b)):=by
 unfold eqT;rw[if_pos (dN (by simp[T.dep]) rfl rfl)]
 rfl
theorem uD (ns:List Int)(hn:ns.length<=63)(a:Nat)(cs:List T)(hc:a8 (.tup cs)=true):∃r,cK [.scr ns,.int a,.tup cs] = .ok r/\(r= .non\/(cp cs r=true/\sm 8 r=true)):=by
 obtain⟨ha,h1,h4⟩:=aT hc
 have hlen:=oI cs 0 ha
 have er:=lN cs hc
 have gl:∀s4 s5 s6 s7:Sl,cl cH (ae (vr 3) ai) [.va (.scr ns),.va (.int a),.va (.tup cs),.va (.lst (di 0 cs)),s4,s5,s6,s7] = .ok (.int ((di 0 cs).length:Nat)):=λ_ _ _ _=>rfl
 have s1:c6 (cl bx (ae (vr 2) ai)) (gN 3) [.va (.scr ns),.va (.int a),.va (.tup cs),.em,.em,.em,.em,.em] = .ok (.nx [.va (.scr ns),.va (.int a),.va (.tup cs),.va (.lst (di 0 cs)),.em,.em,.em,.em]):=b6 (aR (ts:=[.tup cs]) rfl er) rfl
 have lt:o2 A2 (cl cH (ae (vr 3) ai)) (cn (.int 2)) [.va (.scr ns),.va (.int a),.va (.tup cs),.va (.lst (di 0 cs)),.em,.em,.em,.em] = .ok (.bl (decide (((di 0 cs).length:Int)<2))):=aN (t:=.int ((di 0 cs).length:Nat)) (u:=.int 2) (gl _ _ _ _) rfl rfl
 by_cases hs:(di 0 cs).length<2
 ·refine⟨.non,cu rfl ?_,.inl rfl⟩
  show dt [.va (.scr ns),.va (.int a),.va (.tup cs),.em,.em,.em,.em,.em] =_
  unfold dt;rw[aK s1];rw[decide_eq_true (by omega)]at lt
  exact xc ((kj (cN lt)).trans rfl)
 ·rw[decide_eq_false (by omega)]at lt
  generalize hN:(di 0 cs).length=n at*
  obtain⟨d1,e1,p1,q1⟩:=bW ns a (n:Int) hn (by omega)
  obtain⟨d2,e2,p2,q2⟩:=bW ns (a+1) ((n:Int) - 1) hn (by omega)
  obtain⟨d3,e3,p3,q3⟩:=bW ns (a+2) 8 hn (by omega)
  obtain⟨d4,e4,p4,q4⟩:=bW ns (a+3) 3 hn (by omega)
  obtain⟨d5,e5,p5,q5⟩:=bW ns (a+4) 9 hn (by omega)
  obtain⟨i,rfl⟩:=IP p1;obtain⟨d2,rfl⟩:=IP p2
  have hi:i<(di 0 cs).length:=by omega
  have hj:(i+1+d2) % n<(di 0 cs).length:=by rw[hN];exact Nat.mod_lt _ (by omega)
  have hij:i≠(i+1+d2) % n:=by
   rcases Nat.lt_or_ge (i+1+d2) n with q | q
   ·rw[PF q];omega
   ·have:(i+1+d2) % n=i+1+d2 - n:=by
     rw[Nat.mod_eq_sub_mod q,PF (by omega)]
    rw[this];omega
  have eA:=xC (J9 hi)
  have eB:=xC (J9 hj)
  have eN:(di 0 cs)[i] ≠(di 0 cs)[(i+1+d2) % n]:=wO (jQ cs 0) hi hj hij
  generalize hA:(di 0 cs)[i] =A at*
  generalize hB:(di 0 cs)[(i+1+d2) % n] =B at*
  let y:T:=if d4 == 0 then .non else .int (d3+d5)
  refine⟨.tup [A,B,.int d3,y],cu rfl ?_,.inr ⟨?_,?_⟩⟩
  ·show dt [.va (.scr ns),.va (.int a),.va (.tup cs),.em,.em,.em,.em,.em] =_
   unfold dt;rw[aK s1];rw[aK (ρ':=[.va (.scr ns),.va (.int a),.va (.tup cs),.va (.lst (di 0 cs)),.em,.em,.em,.em]) ((dQ (cN lt)).trans rfl)];rw[aK (ρ':=[.va (.scr ns),.va (.int a),.va (.tup cs),.va (.lst (di 0 cs)),.va (.int (i:Nat)),.em,.em,.em]) (b6 (bU e1 rfl rfl (gl _ _ _ _)) rfl)];rw[aK (ρ':=[.va (.scr ns),.va (.int a),.va (.tup cs),.va (.lst (di 0 cs)),.va (.int (i:Nat)),.va (.int ((i+1+d2) % n:Nat)),.em,.em]) (b6 (t:=.int ((i+1+d2) % n:Nat)) (aN (t:=.int ((i:Int)+1+d2)) (u:=.int n) (aN (t:=.int ((i:Int)+1)) (u:=.int d2) rfl (bU (k:=a+1) e2 rfl rfl (aN (t:=.int n) (u:=.int 1) (gl _ _ _ _) rfl rfl)) rfl) (gl _ _ _ _) (iW (by omega))) rfl)]
   rw[aK (ρ':=[.va (.scr ns),.va (.int a),.va (.tup cs),.va (.lst (di 0 cs)),.va (.int (i:Nat)),.va (.int ((i+1+d2) % n:Nat)),.va (.int d3),.em]) (b6 (bU (k:=a+2) e3 rfl rfl rfl) rfl)]
   have ey:zQ (tb (o2 eqT (cl aw (ae (vr 0) (ae (o2 aB (vr 1) (cn (.int 3))) (ae (cn (.int 3)) ai)))) (cn (.int 0)))) (cn .non) (o2 aB (vr 6) (cl aw (ae (vr 0) (ae (o2 aB (vr 1) (cn (.int 4))) (ae (cn (.int 9)) ai))))) [.va (.scr ns),.va (.int a),.va (.tup cs),.va (.lst (di 0 cs)),.va (.int (i:Nat)),.va (.int ((i+1+d2) % n:Nat)),.va (.int d3),.em] = .ok y:=by
    rw[qe (cN (aN (u:=.int 0) (bU (k:=a+3) e4 rfl rfl rfl) rfl (jW _ _)))]
    show _=Rs.ok (if d4 == 0 then T.non else .int (d3+d5))
    cases d4 == 0 with
    | true=>rfl
    | false=>exact aN (t:=.int d3) rfl (bU (k:=a+4) e5 rfl rfl rfl) rfl
   rw[aK (ρ':=[.va (.scr ns),.va (.int a),.va (.tup cs),.va (.lst (di 0 cs)),.va (.int (i:Nat)),.va (.int ((i+1+d2) % n:Nat)),.va (.int d3),.va y]) (b6 ey rfl)];refine dA (ck (aj (t:=A) (aN (t:=.lst (di 0 cs)) (u:=.int (i:Nat)) rfl rfl ?_) (aj (t:=B) (aN (t:=.lst (di 0 cs)) (u:=.int ((i+1+d2) % n:Nat)) rfl rfl ?_) (aj (t:=.int d3) rfl (aj (t:=y) rfl rfl)))) (bM (k:=4) (by simp)))
   ·rw[<-hA];exact xk hi
   ·rw[<-hB];exact xk hj
  ·show(eV (.int d3) y&&(a9 cs A&&(a9 cs B&& !bQ A B)))=true
   rw[eA,eB,xA eA eB eN]
   have:eV (.int d3) y=true:=by
    show(within (.int d3) 0 999&&(match(T.int d3),(if d4 == 0 then T.non else .int (d3+d5))with | _,.non=>true | .int i,_=>within (if d4 == 0 then T.non else .int (d3+d5)) i 999 | _,_=>false))=true
    cases d4 == 0 with
    | true=>simp[within];omega
    | false=>simp[within];omega
   rw[this];rfl
  ·refine sm_tup.mpr ⟨by simp,λt ht=> ?_⟩
   have hy:sm 8 y=true:=by show sm 8 (if d4 == 0 then T.non else .int (d3+d5))=true;cases d4 == 0 <;> simp[sm]
   simp only[HZ,Jr,or_false]at ht;rcases ht with rfl | rfl | rfl | rfl
   ·exact pG eA
   ·exact pG eB
   ·simp[sm]
   ·exact hy
def okv:Rs T->T
 | .ok t=>t
 | _=> .non
theorem sH (l:List T)(k:Int)(h : -(2 ^ 63)<=k/\k<2 ^ 63/\l.length*k.toNat<=sizeLine):cj (.lst l) (.int k)= .ok (.lst (Iy k.toNat l).flatten):=by
 show rh (.lst l) (.int k)=_
 unfold rh;exact if_pos h
theorem mul_one (x:T)(b:Bool):cj (.lst [x]) (.int (if b then 1 else 0))= .ok (.lst (if b then [x]else [])):=by
 cases b with
 | true=>exact sH [x] 1 ⟨by decide,by decide,bM (k:=1) (by simp)⟩
 | false=>exact sH [x] 0 ⟨by decide,by decide,bM (k:=1) (by simp)⟩
abbrev leF:En->Rs Fl:=aJ (c6 (cl cK (ae (vr 0) (ae (o2 aB (o2 aB (vr 1) (cn (.int 31))) (o2 cj (cn (.int 6)) (vr 5))) (ae (vr 3) ai)))) (gN 6)) (c6 (o2 aB (vr 4) (o2 cj (g7 (ae (vr 6) ai)) (cl qf (ae (o2 pV (vr 6) (cn .non)) ai)))) (gN 4))
def uM (cs ls:List T):Prop:=∀t∈ls,cp cs t=true/\sm 8 t=true
theorem zD (ns:List Int)(hn:ns.length<=63)(a j:Nat)(m:T)(cs ls:List T)(hc:a8 (.tup cs)=true)(h:uM cs ls)(hl:ls.length<=100)(s6:Sl) :
  ∃ls2 s7,leF [.va (.scr ns),.va (.int a),.va m,.va (.tup cs),.va (.lst ls),.va (.int j),s6] = .ok (.nx [.va (.scr ns),.va (.int a),.va m,.va (.tup cs),.va (.lst ls2),.va (.int j),s7])/\uM cs ls2/\ls2.length<=ls.length+1:=by
 obtain⟨r,er,hr⟩:=uD ns hn (a+31+6*j) cs hc
 have e1:∀G,aJ (c6 (cl cK (ae (vr 0) (ae (o2 aB (o2 aB (vr 1) (cn (.int 31))) (o2 cj (cn (.int 6)) (vr 5))) (ae (vr 3) ai)))) (gN 6)) G [.va (.scr ns),.va (.int a),.va m,.va (.tup cs),.va (.lst ls),.va (.int j),s6] =G [.va (.scr ns),.va (.int a),.va m,.va (.tup cs),.va (.lst ls),.va (.int j),.va r]:=λG=>by
  refine aK (b6 (t:=r) (aR (ts:=[.scr ns,.int (a+31+6*j:Nat),.tup cs]) (aj (t:=.scr ns) rfl (aj (t:=.int (a+31+6*j:Nat)) (aN (t:=.int ((a:Int)+31)) (u:=.int (6*(j:Int))) rfl (aN (t:=.int 6) (u:=.int j) rfl rfl (kf (by omega) (by omega))) rfl) (aj (t:=.tup cs) rfl rfl))) er) rfl)
 have e2:cl qf (ae (o2 pV (vr 6) (cn .non)) ai) [.va (.scr ns),.va (.int a),.va m,.va (.tup cs),.va (.lst ls),.va (.int j),.va r] = .ok (.int (if !r.isN then 1 else 0)):=aR (ts:=[.bl (!r.isN)]) rfl rfl
 refine⟨ls++(if !r.isN then [r]else []),.va r,?_,?_,?_⟩
 ·refine(e1 _).trans (b6 (aN (t:=.lst ls) (u:=.lst (if !r.isN then [r]else [])) rfl (aN (t:=.lst [r]) (lI (ts:=[r]) rfl (bM (k:=1) (by simp))) e2 (mul_one _ _)) (tK _ _ ?_)) rfl)
  rw[HK];cases r.isN <;> simp <;> omega
 ·intro t ht
  rcases HV.mp ht with ht | ht
  ·exact h t ht
  ·rcases hr with rfl | hr
   ·cases ht
   ·cases q:r.isN with
    | true=>rw[q]at ht;cases ht
    | false=>
     rw[q]at ht;rw[show t=r by simpa using ht]
     exact hr
 ·rw[HK]
  cases r.isN <;> simp
theorem sJ (ns:List Int)(hn:ns.length<=63)(a:Nat)(m:T)(cs:List T)(hc:a8 (.tup cs)=true):∀(js:List Nat) (ls:List T) (s5 s6:Sl),uM cs ls->ls.length+js.length<=100 →
  ∃ls2 t5 t6,bo (gN 5) leF (js.map λ(j:Nat)=>T.int j) [.va (.scr ns),.va (.int a),.va m,.va (.tup cs),.va (.lst ls),s5,s6] = .ok (.nx [.va (.scr ns),.va (.int a),.va m,.va (.tup cs),.va (.lst ls2),t5,t6])/\uM cs ls2/\ls2.length<=ls.length+js.length
 | [],ls,s5,s6,h,_=>⟨ls,s5,s6,rfl,h,Ia _⟩
 | j::js,ls,s5,s6,h,hl=>by
  rw[HR]at hl;obtain⟨l2,s7,e2,h2,n2⟩:=zD ns hn a j m cs ls hc h (by omega) s6
  obtain⟨l3,t5,t6,e3,h3,n3⟩:=sJ ns hn a m cs hc js l2 (.va (.int j)) s7 h2 (by omega)
  refine⟨l3,t5,t6,?_,h3,by rw[HR];omega⟩
  rw[HW,fk (ρ1:=[.va (.scr ns),.va (.int a),.va m,.va (.tup cs),.va (.lst ls),.va (.int j),s6]) rfl e2];exact e3
theorem C8 (ns:List Int)(hn:ns.length<=63)(a m:Nat)(hm:m<=8):∃cs ls,dk [.scr ns,.int a,.int m] = .ok (RR cs ls)/\a8 (.tup cs)=true/\cs.length<=3/\(∀c∈cs,sm 8 c=true)/\uM cs ls/\ls.length<=m/\∀c∈cs,Dc c:=by
 obtain⟨d1,e1,p1,q1⟩:=bW ns a 3 hn (by omega)
 obtain⟨d2,e2,p2,q2⟩:=bW ns (a+30) ((m:Int)+1) hn (by omega)
 obtain⟨d1,rfl⟩:=IP p1;obtain⟨d2,rfl⟩:=IP p2
 let hcl:T->T:=λt=>match t with
  | .int k=>okv (bR [.scr ns,.int ((a:Int)+1+8*k)])
  | _=> .non
 have hh:∀t∈rng 0 ((1+d1:Nat):Int),∃k:Nat,t= .int k/\bR [.scr ns,.int ((a+1+8*k:Nat):Int)] = .ok (hcl t)/\bz (hcl t)=true/\sm 8 (hcl t)=true/\Dc (hcl t):=λt ht=>by
  obtain⟨k,rfl,_⟩:=kF ht;obtain⟨c,ec,h1,h2,h3⟩:=xH ns hn (a+1+8*k)
  have e:hcl (.int k)=c:=by
   show okv (bR [.scr ns,.int ((a+1+8*k:Nat):Int)])=c
   rw[ec];rfl
  exact⟨k,rfl,by rw[e];exact ec,by rw[e];exact h1,by rw[e];exact h2,by rw[e];exact h3⟩
 generalize hcs:(rng 0 ((1+d1:Nat):Int)).map hcl=cs
 have lc:cs.length=1+d1:=by rw[<-hcs,HP,ij]
 have hc:a8 (.tup cs)=true:=by
  show(c8 (.tup cs) 1 4&&cs.all bz)=true
  rw[HS,ID];refine⟨by simp[c8];omega,λc h=> ?_⟩
  rw[<-hcs]at h;obtain⟨t,ht,rfl⟩:=HY.mp h;obtain⟨_,_,_,h1,_⟩:=hh t ht;exact h1
 have hsm:∀c∈cs,sm 8 c=true:=λc h=>by
  rw[<-hcs]at h;obtain⟨t,ht,rfl⟩:=HY.mp h;obtain⟨_,_,_,_,h1,_⟩:=hh t ht;exact h1
 obtain⟨ls,t5,t6,el,hl,nl⟩:=sJ ns hn a (.int m) cs hc (Js d2) [] .em .em (λt h=>by cases h) (by simp;omega)
 refine⟨cs,ls,cu rfl ?_,hc,by omega,hsm,hl,by simp at nl;omega,λc h=>by
  rw[<-hcs]at h;obtain⟨t,ht,rfl⟩:=HY.mp h;obtain⟨_,_,_,_,_,h1⟩:=hh t ht;exact h1⟩
 show fK [.va (.scr ns),.va (.int a),.va (.int m),.em,.em,.em,.em] =_
 unfold fK
 have s1:c6 (cl jN (ae (fF (iR (ae (o2 aB (cn (.int 1)) (cl aw (ae (vr 0) (ae (vr 1) (ae (cn (.int 3)) ai))))) ai)) [none,some 0,some 1] (gN 0) bT (cl bR (ae (vr 1) (ae (o2 aB (o2 aB (vr 2) (cn (.int 1))) (o2 cj (cn (.int 8)) (vr 0))) ai)))) ai)) (gN 3) [.va (.scr ns),.va (.int a),.va (.int m),.em,.em,.em,.em] = .ok (.nx [.va (.scr ns),.va (.int a),.va (.int m),.va (.tup cs),.em,.em,.em]):=by
  refine b6 (t:=.tup cs) (aR (ts:=[.lst cs]) (aj (t:=.lst cs) ?_ rfl) rfl) rfl
  rw[<-hcs];refine rA (ts:=rng 0 ((1+d1:Nat):Int)) (h:=hcl) (CZ (aj (t:=.int ((1+d1:Nat):Int)) (aN (t:=.int 1) (u:=.int d1) rfl (bU e1 rfl rfl rfl) rfl) rfl) (by omega) (by omega)) (bM (k:=3) (by rw[ij];omega)) (by simp) λt ht=> ?_
  obtain⟨k,rfl,ek,_,_⟩:=hh t ht;refine aR (ts:=[.scr ns,.int ((a+1+8*k:Nat):Int)]) (aj (t:=.scr ns) rfl (aj (aN (t:=.int ((a:Int)+1)) (u:=.int (8*(k:Int))) rfl (aN (t:=.int 8) (u:=.int k) rfl rfl (kf (by omega) (by omega))) rfl) rfl)) ek
 rw[aK s1];rw[aK (ρ':=[.va (.scr ns),.va (.int a),.va (.int m),.va (.tup cs),.va (.lst []),.em,.em]) (b6 (lI (ts:=[]) rfl (bM (k:=0) (by simp))) rfl)]
 rw[aK ((iJ (CZ (aj (bU (k:=a+30) e2 rfl rfl (aN (t:=.int m) (u:=.int 1) rfl rfl rfl)) rfl) (by omega) (by omega)) (by rw[jt];exact el)))]
 exact dA (ck (aj (t:=.tup cs) rfl (aj (t:=.tup ls) rfl rfl)) (bM (k:=2) (by simp)))
theorem oB {cs:List T}{t:T}(h:cp cs t=true):∃a b x y,t= .tup [a,b,x,y]/\eV x y=true/\a9 cs a=true/\a9 cs b=true/\bQ a b=false:=by
 unfold cp at h
 split at h
 ·simp only[HS,O8]at h
  exact⟨_,_,_,_,rfl,h.1,h.2.1,h.2.2.1,h.2.2.2⟩
 ·cases h
theorem BU {cs ls:List T}(hc:a8 (.tup cs)=true)(hs:∀c∈cs,sm 8 c=true)(hl:uM cs ls)(hn:ls.length<=8):gC (RR cs ls)=true/\sm 8 (RR cs ls)=true:=by
 refine⟨?_,?_⟩
 ·show(a8 (.tup cs)&&(c8 (.tup ls) 0 8&&ls.all (cp cs)))=true
  rw[hc,Lw,HS,ID];exact⟨by simp[c8];exact hn,λt ht=>(hl t ht).1⟩
 ·refine sm_tup.mpr ⟨by simp,λt ht=> ?_⟩
  simp only[HZ,Jr,or_false]at ht;rcases ht with rfl | rfl
  ·exact sm_tup.mpr ⟨by have:=(aT hc).2.2;omega,hs⟩
  ·exact sm_tup.mpr ⟨hn,λt ht=>(hl t ht).2⟩
end G
namespace Tr
open PySem
section
variable {f fa fb:En->Rs T}{fs:En->Rs (List T)}{b c:En->Rs Bool}{F G:En->Rs Fl}{ρ ρ' ρ1 ρ2:En}{t u r:T}{ts l m:List T}
mutual
theorem j5:∀(t:T),t.pl=true->bQ t t=true
 | .non,_=>rfl
 | .bl a,_=>by simp[bQ]
 | .int a,_=>by simp[bQ]
 | .str a,_=>by simp[bQ]
 | .tup l,h=>by rw[bQ];exact beqTs_refl l (by unfold T.pl at h;exact h)
 | .lst l,h=>by rw[bQ];exact beqTs_refl l (by unfold T.pl at h;exact h)
 | .scr _,h=>by simp[T.pl]at h
theorem beqTs_refl:∀(l:List T),plS l=true->beqTs l l=true
 | [],_=>rfl
 | t::l,h=>by
  unfold plS at h;rw[HS]at h;rw[beqTs,j5 t h.1,beqTs_refl l h.2];rfl
end
theorem sG (hp:t.pl=true)(hd:t.dep<=60):neT t t= .ok (.bl false):=by
 unfold neT;rw[if_pos (dN hd (T.GI _ hp) (T.GI _ hp)),j5 t hp];rfl
theorem sY (hp:t.pl=true)(hd:t.dep<=60):eqT t t= .ok (.bl true):=by
 unfold eqT;rw[if_pos (dN hd (T.GI _ hp) (T.GI _ hp)),j5 t hp]
theorem tD {n:Nat}:∀{l:List T},(∀t∈l,t.dep<=n)->deps l<=n
 | [],_=>by unfold deps;omega
 | t::l,h=>by
  unfold deps
  have:=tD (l:=l) λu hu=>h u (HQ _ hu)
  have:=h t HU;omega
theorem gb:∀{l:List T},(∀t∈l,t.pl=true)->plS l=true
 | [],_=>rfl
 | t::l,h=>by unfold plS;rw[h t HU,gb λu hu=>h u (HQ _ hu)];rfl
end
end Tr
namespace G
open PySem Tr
def dr (r:List Int)(k:Nat):Int:=r.getD (k+1) 0 - r.getD k 0
def pr (n:Nat)(x y:Int)(r:List Int)(k:Nat):List T:=
 [.tup [.tup [.int n,.int k],.tup [.int n,.int ((k+1:Nat):Int)],.int (dr r k*y)],.tup [.tup [.int n,.int ((k+1:Nat):Int)],.tup [.int n,.int k],.int (-dr r k*x)]]
def cB (n:Nat)(x y:Int)(r:List Int):List T:=(Js (r.length - 1)).flatMap (pr n x y r)
theorem iu {r:List Int}{k:Nat}(h:k<r.length):(r.map T.int)[k]? =some (.int (r.getD k 0)):=by
 rw[IQ,Iv h]
 simp[h]
theorem i5 {t:T}(h:bz t=true):∃(x y:Int) (r:List Int),t= .tup [.int x,.int y,.tup (r.map .int)]/\(0<=x/\x<=9)/\(0<=y/\y<=9)/\1<=r.length/\r.length<=4:=by
 obtain⟨x,y,r,rfl,h1,h4⟩:=dC h
 have h':(mr x y&&cS (.tup r))=true:=h;rw[HS]at h';obtain⟨hp,hr⟩:=h';unfold mr at hp;rw[HS]at hp;obtain⟨i,rfl,i1,i2⟩:=cT hp.1;obtain⟨j,rfl,j1,j2⟩:=cT (t:=y) (a:=i) (b:=9) hp.2;unfold cS at hr;rw[HS]at hr
 have hr2:((r.all λu=>within u 0 99)&&(match jx r with | some m=>mf m | none=>false))=true:=hr.2
 rw[HS]at hr2;obtain⟨m,em⟩:=oq hr2.1
 have e:=lA em;subst e;rw[HP]at h1 h4;exact⟨i,j,m,rfl,⟨by omega,by omega⟩,⟨by omega,by omega⟩,h1,h4⟩
def xB (n:Nat)(t:T):List T:=match t with
 | .tup [.int x,.int y,.tup r] =>match jx r with
  | some m=>cB n x y m
  | none=> []
 | _=> []
def bC:Nat->List T->List T
 | _,[] => []
 | i,c::r=>xB i c++bC (i+1) r
def lB (t:T):List T:=match t with
 | .tup [a,b,.int le,mo] => .tup [b,a,.int (-le)] ::(if mo.isN then []else [.tup [a,b,mo]])
 | _=> []
def F1 (cs ls:List T):List T:=bC 0 cs++ls.flatMap lB
theorem AJ (n:Nat)(x y:Int)(r:List Int):xB n (.tup [.int x,.int y,.tup (r.map .int)])=cB n x y r:=by
 unfold xB;simp only[lC]
theorem Dx (n:Nat)(x y:Int)(r:List Int):(cB n x y r).length=2*(r.length - 1):=by
 unfold cB;rw[List.length_flatMap]
 have:∀l:List Nat,(l.map λk=>(pr n x y r k).length).sum=2*l.length:=by
  intro l
  induction l with
  | nil=>rfl
  | cons a l ih=>rw[HW,KP,ih,HR];simp[pr];omega
 rw[this,Ke]
theorem Br {n:Nat}{t:T}(h:bz t=true):(xB n t).length<=6:=by
 obtain⟨x,y,r,rfl,_,_,h1,h4⟩:=i5 h;rw[AJ,Dx];omega
theorem xX:∀{cs:List T} {i:Nat},(∀c∈cs,bz c=true)->(bC i cs).length<=6*cs.length
 | [],i,_=>by simp[bC]
 | c::cs,i,h=>by
  rw[bC,HK,HR]
  have:=Br (n:=i) (h c HU)
  have:=xX (cs:=cs) (i:=i+1) λc hc=>h c (HQ _ hc)
  omega
theorem CJ (t:T):(lB t).length<=2:=by
 unfold lB;split
 ·rename_i a b le mo
  cases mo.isN <;> simp
 ·simp
theorem sM:∀(ls:List T),(ls.flatMap lB).length<=2*ls.length
 | [] =>by simp
 | t::ls=>by
  rw[List.flatMap_cons,HK,HR]
  have:=CJ t
  have:=sM ls;omega
theorem jA {R:T}(hp:R.pl=true)(h:gC R=true):bw [R] = .ok .non:=by
 refine w8 (ρ:=[.va R]) rfl ?_
 show dq [.va R] =_
 unfold dq;exact(dQ ((gV (k:=true) (cN (aR (ts:=[R]) rfl (by rw[qm R hp,h])))))).trans rfl
theorem m5 {R:T}(hp:R.pl=true)(h:gC R=false):bw [R] = .err "NoRecord":=by
 refine fG rfl ?_
 show dq [.va R] =_
 unfold dq;exact(kj ((gV (k:=false) (cN (aR (ts:=[R]) rfl (by rw[qm R hp,h])))))).trans rfl
structure Good (cs ls:List T):Prop where
 c:a8 (.tup cs)=true
 l:∀t∈ls,cp cs t=true
 n:ls.length<=8
 p:(RR cs ls).pl=true
theorem Good.ok {cs ls:List T}(g:Good cs ls):gC (RR cs ls)=true:=by
 show(a8 (.tup cs)&&(c8 (.tup ls) 0 8&&ls.all (cp cs)))=true
 rw[g.c,Lw,HS,ID];exact⟨by simp[c8];exact g.n,g.l⟩
theorem pl_tup {l:List T}:(T.tup l).pl=plS l:=by unfold T.pl;rfl
theorem BJ {t:T}(h:sm 8 t=true):t.pl=true:=AU t h
abbrev peF:En->Rs Fl:=qP 1 (fF (iR (ae (cl cH (ae (o2 b7 (vr 3) (cn (.int 2))) ai)) ai)) [none,some 2] (gN 0) bT (bt (ae (vr 1) (ae (vr 0) ai))))
theorem wo (c0 s1:Sl)(x y:T)(r:List T)(i:Nat)(h:r.length<=4) :
  fF (iR (ae (cl cH (ae (o2 b7 (vr 3) (cn (.int 2))) ai)) ai)) [none,some 2] (gN 0) bT (bt (ae (vr 1) (ae (vr 0) ai))) [c0,s1,.va (.int i),.va (.tup [x,y,.tup r])] = .ok (.lst (fW i r.length)):=
 rA (CZ (j:=(r.length:Int)) rfl (by omega) (by omega)) (bM (k:=4) (by rw[ij];exact h)) (by simp) λt _=>mk2 _ _
theorem sk:∀(cs:List T) (c0:T) (acc:List T) (i:Nat) (s2 s3:Sl),(∀c∈cs,bz c=true)->acc.length+4*cs.length<=100 →
  ∃y2 y3,bo evG peF (de i cs) [.va c0,.ow (.lst acc),s2,s3] = .ok (.nx [.va c0,.ow (.lst (acc++di i cs)),y2,y3])
 | [],c0,acc,i,s2,s3,_,_=>⟨s2,s3,by simp[de,bo,di]⟩
 | c::cs,c0,acc,i,s2,s3,hc,hl=>by
  obtain⟨x,y,r,rfl,r1,r2⟩:=dC (hc c HU);rw[HR]at hl
  have st:peF [.va c0,.ow (.lst acc),.va (.int i),.va (.tup [x,y,.tup r])] = .ok (.nx [.va c0,.ow (.lst (acc++fW i r.length)),.va (.int i),.va (.tup [x,y,.tup r])]):=Fu (l:=acc) (wo _ _ x y r i r2) rfl (by rw[fo];omega)
  obtain⟨z2,z3,ih⟩:=sk cs c0 (acc++fW i r.length) (i+1) (.va (.int i)) (.va (.tup [x,y,.tup r])) (λc h=>hc c (HQ _ h)) (by rw[HK,fo];omega)
  refine⟨z2,z3,?_⟩
  rw[de,fk (ρ1:=[.va c0,.ow (.lst acc),.va (.int i),.va (.tup [x,y,.tup r])]) rfl st,ih,di,Iq]
  rfl
theorem wB {cs ls:List T}(g:Good cs ls):cF [RR cs ls] = .ok (.lst (di 0 cs)):=by
 obtain⟨hc,c1,c4⟩:=aT g.c;refine cu rfl ?_
 show hZ [.va (RR cs ls),.em,.em,.em] =_
 unfold hZ;rw[aK (xh (t:=.non) (aR (ts:=[RR cs ls]) rfl (jA g.p g.ok)))];rw[aK (ρ':=[.va (RR cs ls),.ow (.lst []),.em,.em]) (CQ (by simp))]
 obtain⟨y2,y3,e⟩:=sk cs (RR cs ls) [] 0 .em .em hc (by simp;omega)
 rw[aK ((iJ (ts:=de 0 cs) rfl e))]
 rfl
theorem rK {R:T}(hp:R.pl=true)(h:gC R=false):cF [R] = .err "NoRecord":=by
 refine fG rfl ?_
 show hZ [.va R,.em,.em,.em] =_
 unfold hZ;exact gU (A8 (aR (ts:=[R]) rfl (m5 hp h)))
theorem zA {cs ls:List T}{t:T}(g:Good cs ls)(ht:t.pl=true)(h:a9 cs t=true):eU [RR cs ls,t] = .ok .non:=by
 refine w8 (ρ:=[.va (RR cs ls),.va t]) rfl ?_
 show gn [.va (RR cs ls),.va t] =_
 unfold gn;exact(dQ ((gV (k:=true) (cN (aR (ts:=[.tup cs,t]) rfl (by rw[oJ cs t g.c ht,h])))))).trans rfl
theorem p2 {a b:En->Rs T}{t u:T}{ρ:En}(ha:a ρ= .ok t)(hb:b ρ= .ok u):bt (ae a (ae b ai)) ρ= .ok (.tup [t,u]):=ck (aj ha (aj hb rfl)) (bM (k:=2) (by simp))
theorem Ax {cs ls:List T}(g:Good cs ls):(F1 cs ls).length<=60:=by
 unfold F1;rw[HK];obtain⟨hc,c1,c4⟩:=aT g.c
 have:=xX (i:=0) hc
 have:=sM ls
 have:=g.n;omega
end G
namespace G
open PySem Tr Gr
structure N2 where
 c:Int
 k:Int
deriving DecidableEq
theorem N2.ext':∀{u v:N2},u.c=v.c->u.k=v.k->u=v
 | ⟨_,_⟩,⟨_,_⟩,rfl,rfl=>rfl
def en (v:N2):T:=.tup [.int v.c,.int v.k]
def eB (x:N2×N2×Int):T:=.tup [en x.1,en x.2.1,.int x.2.2]
def eN (ks:List Nat):List T:=ks.map λk=> .int (k:Nat)
def eW (x:Int×List Nat):T:=.tup [.int x.1,.lst (eN x.2)]
def ky (v:N2):List L2.Key:=[.inl v.c,.inl v.k]
theorem fT (v:N2):keyOf (en v)=some (ky v):=rfl
theorem rn {u v:N2}(h:some (ky u)=some (ky v)):u=v:=by
 injection h with h
 injection h with h1 h2
 injection h2 with h2 _
 injection h1 with h1
 injection h2 with h2
 exact N2.ext' h1 h2
theorem xF {u v:N2}(h:en u=en v):u=v:=rn (by rw[<-fT u,<-fT v,h])
theorem tw (g:N2->T)(v:N2):∀(ns:List N2),qv (ns.map en) (ns.map g) (ky v)=if v∈ns then some (g v)else none
 | [] =>rfl
 | u::ns=>by
  rw[HW,HW,qv,fT]
  by_cases h:u=v
  ·subst h;rw[if_pos rfl,if_pos HU]
  ·rw[if_neg (λz=>h (rn z)),tw g v ns]
   have:(v∈u::ns)↔v∈ns:=by rw[HZ];exact⟨λz=>z.elim (λy=>absurd y.symm h) id,.inr⟩
   simp only[this]
theorem qr (x:T)(v:N2)(g:N2->T):∀(ns:List N2),v∉ns->lO (en v) x (ns.map en) (ns.map g)=(ns.map en++ [en v],ns.map g++ [x])
 | [],_=>rfl
 | u::ns,h=>by
  rw[HZ,not_or]at h;rw[HW,HW,lO,fT,fT,if_neg (λz=>h.1 (rn z).symm),qr x v g ns h.2]
  rfl
def oW (o:Option (Int×List Nat)):T:=match o with
 | some x=>eW x
 | none=> .non
def dV (ns:List N2)(b:uP N2):List T:=ns.map λv=>oW (b v)
def eL (L:ja N2):T:=.lst (L.map eB)
def eS (S:List N2):T:=.lst (S.map en)
structure Fine (L:ja N2)(P:List N2):Prop where
 len:L.length<=500
 size:size L<=100000000
 ends:∀x∈L,x.1∈P/\x.2.1∈P
 pl:P.length<1000
theorem jC {α:Type}{f:α->T}{p:α->Prop}:∀{l:List T},(∀t∈l,∃x,t=f x/\p x)->∃L:List α,l=L.map f/\∀x∈L,p x
 | [],_=>⟨[],rfl,λ_ h=>nomatch h⟩
 | t::l,h=>by
  obtain⟨x,e,hx⟩:=h t HU;obtain⟨L,e2,h2⟩:=jC (l:=l) λu hu=>h u (HQ _ hu)
  exact⟨x::L,by rw[e,e2];rfl,λy hy=>(HZ.mp hy).elim (λz=>z▸hx) (h2 y)⟩
theorem i0 {t:T}(h:bz t=true):∃(x y:Int) (r:List Int),t= .tup [.int x,.int y,.tup (r.map .int)]/\(0<=x/\x<=9)/\(0<=y/\y<=9)/\∀k,0<=r.getD k 0/\r.getD k 0<=99:=by
 obtain⟨x,y,r,rfl,h1,h2,h3,h4⟩:=i5 h;refine⟨x,y,r,rfl,h1,h2,λk=> ?_⟩
 have h':(mr (.int x) (.int y)&&cS (.tup (r.map .int)))=true:=h;rw[HS]at h'
 have hr:=h'.2;unfold cS at hr;rw[HS]at hr
 have hr2:(((r.map T.int).all λu=>within u 0 99)&&(match jx (r.map .int)with | some m=>mf m | none=>false))=true:=hr.2
 rw[HS]at hr2
 by_cases hk:k<r.length
 ·have:=ID.mp hr2.1 (.int r[k]) (HY.mpr ⟨_,J9 hk,rfl⟩)
  obtain⟨i,e,a,b⟩:=cT this;cases e;simp[hk];exact⟨a,b⟩
 ·simp[hk]
theorem ox {cs:List T}{i:Nat}:∀{cs0:List T} {c k:Nat},i<=c->c<i+cs0.length->k<qU (cs0.getD (c - i) .non)->T.tup [.int c,.int k] ∈di i cs0:=by
 intro cs0
 induction cs0 generalizing i with
 | nil=>intro c k h1 h2;simp at h2;omega
 | cons a r ih=>
  intro c k h1 h2 h3;rw[di,HV]
  by_cases e:c=i
  ·subst e
   rw[My]at h3
   have h3':k<qU a:=h3;exact .inl (HY.mpr ⟨.int k,zB h3',rfl⟩)
  ·refine .inr (ih (by omega) (by rw[HR]at h2;omega) ?_)
   rw[show c - i=(c - (i+1))+1 by omega]at h3
   exact h3
theorem nq {cs:List T}{t:T}(h:a9 cs t=true):t∈di 0 cs:=by
 obtain⟨c,k,rfl⟩:=eI h;unfold a9 at h;simp only[HS,decide_eq_true_eq]at h;obtain⟨⟨h1,h2⟩,h3,h4⟩:=h;obtain⟨c,rfl⟩:=IP h1;obtain⟨k,rfl⟩:=IP h3;rw[mW]at h4;exact ox (cs:=cs) (IZ _) (by omega) (by rw[K4];omega)
theorem xE {cs:List T}{t:T}(h:t∈di 0 cs):∃v:N2,t=en v/\True:=by
 obtain⟨c,k,rfl,_⟩:=fx cs 0 h;exact⟨⟨c,k⟩,rfl,trivial⟩
def big (x:N2×N2×Int):Prop:=x.2.2.natAbs<=999
theorem m6 {a b:Int}(ha : -99<=a/\a<=99)(hb:0<=b/\b<=9):(a*b).natAbs<=999:=by
 rw[Int.natAbs_mul]
 have h1:a.natAbs<=99:=by omega
 have h2:b.natAbs<=9:=by omega
 exact IA (Nat.mul_le_mul h1 h2) (by decide)
theorem Bi {cs0:List T}:∀{cs:List T} {i:Nat},(∀c∈cs,bz c=true)->(∀c k:Nat,i<=c->c<i+cs.length->k<qU (cs.getD (c - i) .non)->T.tup [.int c,.int k] ∈di 0 cs0) →
  ∀t∈bC i cs,∃x,t=eB x/\(en x.1∈di 0 cs0/\en x.2.1∈di 0 cs0/\big x)
 | [],_,_,_,t,h=>by simp[bC]at h
 | c::cs,i,hc,hm,t,h=>by
  rw[bC,HV]at h;rcases h with h | h
  ·obtain⟨x,y,r,rfl,hx,hy,hr⟩:=i0 (hc c HU)
   have hm0:∀k,k<r.length->T.tup [.int i,.int k] ∈di 0 cs0:=λk hk=>hm i k (Ia _) (by simp) (by rw[My];show k<(r.map T.int).length;rw[HP];exact hk)
   rw[AJ]at h;unfold cB at h;obtain⟨k,hk,hp⟩:=PH.mp h
   have hk:=JN.mp hk
   have d : -99<=dr r k/\dr r k<=99:=by have:=hr k;have:=hr (k+1);unfold dr;omega
   unfold pr at hp;simp only[HZ,Jr,or_false]at hp;rcases hp with rfl | rfl
   ·exact⟨(⟨i,k⟩,⟨i,((k+1:Nat):Int)⟩,dr r k*y),rfl,hm0 k (by omega),hm0 (k+1) (by omega),m6 d hy⟩
   ·exact⟨(⟨i,((k+1:Nat):Int)⟩,⟨i,k⟩,-dr r k*x),rfl,hm0 (k+1) (by omega),hm0 k (by omega),m6 (by omega) hx⟩
  ·exact Bi (cs:=cs) (i:=i+1) (λc h=>hc c (HQ _ h)) (λc k h1 h2 h3=>hm c k (by omega) (by rw[HR];omega) (by rw[show c - i=(c - (i+1))+1 by omega];exact h3)) t h
theorem Fi {cs:List T}{u:T}(hu:cp cs u=true):∀t∈lB u,∃x,t=eB x/\(en x.1∈di 0 cs/\en x.2.1∈di 0 cs/\big x):=by
 intro t ht;obtain⟨a,b,x,y,rfl,hd,ha,hb,_⟩:=oB hu
 have ma:=nq ha
 have mb:=nq hb;obtain⟨va,rfl,_⟩:=xE ma;obtain⟨vb,rfl,_⟩:=xE mb;unfold eV at hd;rw[HS]at hd;obtain⟨i,rfl,i1,i2⟩:=cT hd.1
 have e2:lB (.tup [en va,en vb,.int i,y])= .tup [en vb,en va,.int (-i)] ::(if y.isN then []else [.tup [en va,en vb,y]]):=rfl
 rw[e2]at ht;rcases HZ.mp ht with rfl | ht
 ·exact⟨(vb,va,-i),rfl,mb,ma,by unfold big;simp only;omega⟩
 ·cases q:y.isN with
  | true=>rw[q]at ht;simp at ht
  | false=>
   rw[q]at ht
   have ht:t= .tup [en va,en vb,y]:=by simpa using ht
   have hw:within y i 999=true:=by
    cases y with
    | non=>cases q
    | _=>exact hd.2
   obtain⟨j,rfl,j1,j2⟩:=cT hw;exact⟨(va,vb,j),ht,ma,mb,by unfold big;simp only;omega⟩
structure Rd (cs ls:List T)(L:ja N2)(P:List N2):Prop where
 g:Good cs ls
 b:F1 cs ls=L.map eB
 e:di 0 cs=P.map en
 f:Fine L P
 nd:P.Nodup
 pl:P.length<=16
 ll:L.length<=60
 bg:∀x∈L,big x
theorem yG {L:ja N2}(h:∀x∈L,big x):size L<=999*L.length:=by
 unfold size
 induction L with
 | nil=>simp
 | cons x L ih=>
  rw[HW,KP,HR]
  have:=ih λy hy=>h y (HQ _ hy)
  have:=h x HU;unfold big at this;omega
theorem wN {P:List N2}(h:(P.map en).Nodup):P.Nodup:=by
 induction P with
 | nil=>exact MH
 | cons a r ih=>
  rw[HW,JE]at h;exact JE.mpr ⟨λz=>h.1 (HY.mpr ⟨a,z,rfl⟩),ih h.2⟩
theorem sg {cs ls:List T}(g:Good cs ls):∃L P,Rd cs ls L P:=by
 obtain⟨hc,c1,c4⟩:=aT g.c;obtain⟨P,eP,_⟩:=jC (f:=en) (p:=λ_=>True) (l:=di 0 cs) λt ht=>xE ht
 have key:∀t∈F1 cs ls,∃x,t=eB x/\(en x.1∈di 0 cs/\en x.2.1∈di 0 cs/\big x):=λt ht=>by
  unfold F1 at ht;rw[HV]at ht;rcases ht with h | h
  ·exact Bi hc (λc k h1 h2 h3=>ox (cs:=cs) h1 h2 h3) t h
  ·obtain⟨u,hu,h⟩:=PH.mp h
   exact Fi (g.l u hu) t h
 obtain⟨L,eL,hL⟩:=jC key
 have mem:∀v:N2,en v∈di 0 cs->v∈P:=λv hv=>by
  rw[eP]at hv;obtain⟨u,hu,e⟩:=HY.mp hv;rw[<-xF e];exact hu
 have hl:=Ax g;rw[eL,HP]at hl
 have hp:=oI cs 0 hc;rw[eP,HP]at hp
 have hs:=yG λx hx=>(hL x hx).2.2
 exact⟨L,P,g,eL,eP,⟨by omega,by omega,λx hx=>⟨mem _ (hL x hx).1,mem _ (hL x hx).2.1⟩,by omega⟩,wN (eP▸jQ cs 0),by omega,hl,λx hx=>(hL x hx).2.2⟩
theorem pl_lst {l:List T}:(T.lst l).pl=plS l:=by unfold T.pl;rfl
def run (L:ja N2):N2->List Nat->Option N2
 | a,[] =>some a
 | a,k::r=>match L[k]? with
  | some x=>if x.1=a then run L x.2.1 r else none
  | none=>none
section
variable {cs ls:List T}{L:ja N2}{P:List N2}
theorem Rd.events (R:Rd cs ls L P):cF [RR cs ls] = .ok (eS P):=by rw[wB R.g,R.e];rfl
def bq (P:List N2)(t:N2->Int):T:=.tup (P.map λv=> .int (t v))
end
theorem qc:∀(P:List N2),ki (P.map en)=true
 | [] =>rfl
 | u::P=>by
  have:=qc P;simp[ki,fT,this]
theorem lF {g:T->En->Rs En}{fc:En->Rs Bool}{fe:En->Rs T}{p:T->Bool}{h:T->T}(I:En->Prop):∀(ts:List T) (ρ:En),I ρ->(∀t∈ts,∀ρ,I ρ->∃ρ1,g t ρ= .ok ρ1/\I ρ1/\fc ρ1= .ok (p t)/\fe ρ1= .ok (h t))->cx g fc fe ts ρ= .ok ((ts.filter p).map h)
 | [],_,_,_=>rfl
 | t::r,ρ,hI,hf=>by
  obtain⟨ρ1,e1,i1,e2,e3⟩:=hf t HU ρ hI
  have ih:=lF I r ρ1 i1 λu hu=>hf u (HQ _ hu)
  unfold cx
  cases q:p t with
  | true=>simp only[e1,aC,e2,q,if_true,e3,ih,List.filter_cons_of_pos q,HW]
  | false=>simp only[e1,aC,e2,q,Jv,if_false,ih,List.filter_cons_of_neg (show ¬p t=true by rw[q];decide)]
theorem nt (g:N2->T):∀(S ns:List N2),(ns++S).Nodup->jH ((S.map en).zip (S.map g)) (ns.map en,ns.map g)=((ns++S).map en,(ns++S).map g)
 | [],ns,_=>by rw[Jc];rfl
 | v::S,ns,hn=>by
  have hv:v∉ns:=λz=>by
   rw[MU]at hn;exact hn.2.2 v z v HU rfl
  rw[HW,HW,List.zip_cons_cons,jH,qr _ _ _ _ hv]
  have e1:ns.map en++ [en v] =(ns++ [v]).map en:=by rw[JH];rfl
  have e2:ns.map g++ [g v] =(ns++ [v]).map g:=by rw[JH];rfl
  rw[e1,e2,nt g S (ns++ [v]) (by rw[Iq];exact hn),Iq]
  rfl
def i8 (P:List N2)(t:N2->Int):T:=.dct (P.map en) (P.map λv=> .int (t v))
def hB (t:N2->Int)(x:N2×N2×Int):Bool:=decide (t x.2.1 - t x.1<=x.2.2)
theorem ql:∀(l:List T) (i:Nat),(de i l).length=l.length
 | [],_=>rfl
 | t::l,i=>by rw[de,HR,HR,ql l (i+1)]
theorem qh:∀{P:List N2} {τ:List Int},P.Nodup->τ.length=P.length->∃t:N2->Int,P.map t=τ
 | [],[],_,_=>⟨λ_=>0,rfl⟩
 | [],_::_,_,h=>by simp at h
 | _::_,[],_,h=>by simp at h
 | v::P,x::τ,hn,h=>by
  obtain⟨t,e⟩:=qh (JE.mp hn).2 (by simpa using h:τ.length=P.length)
  refine⟨λu=>if u=v then x else t u,?_⟩
  rw[HW,if_pos rfl,<-e]
  congr 1
  refine JK λu hu=>if_neg λz=> ?_
  rw[z]at hu;exact(JE.mp hn).1 hu
def jE (n:Nat)(u:T):Bool:=c8 u n n&&(match u with
 | .tup l=>l.all Bb
 | _=>false)
theorem DY (P:List N2)(t:N2->Int):(bq P t).pl=true:=by
 unfold bq;rw[pl_tup];exact gb λu hu=>by obtain⟨v,_,rfl⟩:=HY.mp hu;rfl
theorem BA (P:List N2)(t:N2->Int):(bq P t).dep<=60:=by
 have:deps (P.map λv=>T.int (t v))<=5:=tD λu hu=>by obtain⟨v,_,rfl⟩:=HY.mp hu;simp[T.dep]
 unfold bq T.dep;omega
theorem A0 (P:List N2)(t:N2->Int):neT (bq P t) (bq P t)= .ok (.bl false):=sG (DY P t) (BA P t)
section
variable {cs ls:List T}{L:ja N2}{P:List N2}
theorem Rd.pos (R:Rd cs ls L P):0<P.length:=by
 obtain⟨hcl,c1,_⟩:=aT R.g.c
 have e:=congrArg JZ R.e;rw[HP]at e;rw[<-e]
 cases cs with
 | nil=>simp at c1
 | cons c cs=>
  obtain⟨x,y,r,rfl,r1,_⟩:=dC (hcl c HU);rw[di,HK,fo]
  show 0<r.length+_
  omega
theorem Rd.dz (R:Rd cs ls L P)(t:N2->Int):DG [eS P,bq P t] = .ok (i8 P t):=by
 have h0:=R.pos
 have h1:=R.pl
 show(if ki (P.map en)=true/\(P.map en).length=(P.map λv=>T.int (t v)).length/\1<=(P.map en).length/\(P.map en).length<=1000 then _ else _)=_
 rw[if_pos ⟨qc P,by rw[HP,HP],by rw[HP];omega,by rw[HP];omega⟩]
 have:=nt (λv=> .int (t v)) P [] (by simpa using R.nd)
 rw[Kh]at this;rw[show(([]:List T),([]:List T))=(([]:List N2).map en,([]:List N2).map λv=>T.int (t v))from rfl,this]
 rfl
theorem Bg {t:N2->Int}{v:N2}{a b:En->Rs T}{ρ:En}(ha:a ρ= .ok (i8 P t))(hb:b ρ= .ok (en v))(hv:v∈P):o2 mH a b ρ= .ok (.int (t v)):=by
 refine aN (t:=i8 P t) (u:=en v) ha hb ?_
 show(match qv (P.map en) (P.map λv=>T.int (t v)) (ky v)with | some t=>Rs.ok t | none=> .bad)=_
 rw[tw (λv=>T.int (t v)),if_pos hv]
theorem Rd.Ha (R:Rd cs ls L P){u:T}(hu:u.pl=true):eG [(RR cs ls),u] = .ok (.bl (jE P.length u)):=by
 refine cu rfl ?_
 show eJ [.va (RR cs ls),.va u,.em] =_
 unfold eJ;rw[aK (ρ':=[.va (RR cs ls),.va u,.va (.int (P.length:Nat))]) (b6 (aR (ts:=[eS P]) (aj (aR (ts:=[(RR cs ls)]) rfl R.events) rfl) (by show Rs.ok (T.int ((P.map en).length:Nat))=_;rw[HP])) rfl)]
 refine dA (oE (aR (ts:=[u,.int (P.length:Nat),.int (P.length:Nat)]) rfl (gZ u P.length P.length hu)) λh=> ?_)
 obtain⟨l,rfl,_,hl⟩:=cG h;exact i7 (uv rfl) (bM (k:=16) (by have:=R.pl;omega)) (by simp) λv hv=>aR (ts:=[v]) rfl (sZ v (by rw[pl_tup]at hu;exact ju hu hv))
theorem Dz {R u:T}(hp:R.pl=true)(h:gC R=false):eG [R,u] = .err "NoRecord":=by
 refine fG rfl ?_
 show eJ [.va R,.va u,.em] =_
 unfold eJ;exact gU (Fy (Fw (zH (aR (ts:=[R]) rfl (rK hp h)))))
end
end G
namespace G
open PySem Tr PySem.StrLaws
def tx (l:List Nat):Str:=⟨l.toArray⟩
theorem cM (l:List Nat):(tx l).cps.toList=l:=by simp[tx]
theorem a6 (l:List Nat):(tx l).length=l.length:=by show l.toArray.size=_;simp
theorem iP (a b:List Nat):tx a++tx b=tx (a++b):=Str.ext' (by simp[Str.cps_append,tx])
theorem kU (x:Str):tx x.cps.toList=x:=Str.ext' (by simp[tx])
theorem jM {a b:List Nat}(h:tx a=tx b):a=b:=by
 have:=congrArg (λx:Str=>x.cps.toList) h
 rwa [cM,cM]at this
theorem kW (l:List Str):(l.map λx=>x.cps.toList).map tx=l:=by
 rw[Iu];exact(JK λx _=>kU x).trans (List.map_id l)
def bV (c:Nat):List (List Nat)->List Nat
 | [] => []
 | [p] =>p
 | p::q::r=>p++c::bV c (q::r)
theorem oF (c:Nat):∀ps:List (List Nat),Ox (tx [c]) (ps.map tx)=tx (bV c ps)
 | [] =>rfl
 | [p] =>rfl
 | p::q::r=>by
  show tx p++tx [c] ++Ox (tx [c]) ((q::r).map tx)=_
  rw[oF c (q::r),iP,iP]
  show tx ((p++ [c])++bV c (q::r))=tx (p++c::bV c (q::r))
  rw[Iq];rfl
theorem FX {c:Nat}:∀{p q r r':List Nat},c∉p->c∉q->(r= []\/∃t,r=c::t)->(r'= []\/∃t,r'=c::t)->p++r=q++r'->p=q/\r=r'
 | [],[],r,r',_,_,_,_,h=>⟨rfl,h⟩
 | [],b::q,r,r',_,hq,hr,_,h=>by
  rcases hr with rfl | ⟨t,rfl⟩
  ·cases h
  ·injection h with h1 _;exact absurd (h1▸HU) hq
 | a::p,[],r,r',hp,_,_,hr,h=>by
  rcases hr with rfl | ⟨t,rfl⟩
  ·cases h
  ·injection h with h1 _;exact absurd (h1▸HU) hp
 | a::p,b::q,r,r',hp,hq,hr,hr',h=>by
  injection h with h1 h2
  obtain⟨e1,e2⟩:=FX (λz=>hp (HQ _ z)) (λz=>hq (HQ _ z)) hr hr' h2
  exact⟨by rw[h1,e1],e2⟩
def vF (c:Nat):List (List Nat)->List Nat
 | [] => []
 | q::r=>c::bV c (q::r)
theorem lL (c:Nat)(p:List Nat):∀r,bV c (p::r)=p++vF c r
 | [] =>(Jc p).symm
 | _::_=>rfl
theorem pz (c:Nat):∀r,vF c r= []\/∃t,vF c r=c::t
 | [] => .inl rfl
 | _::_=> .inr ⟨_,rfl⟩
theorem ni {c:Nat}:∀{ps qs:List (List Nat)},ps≠ []->qs≠ []->(∀p∈ps,c∉p)->(∀q∈qs,c∉q)->bV c ps=bV c qs->ps=qs
 | [],_,h,_,_,_,_=>absurd rfl h
 | _::_,[],_,h,_,_,_=>absurd rfl h
 | p::ps,q::qs,_,_,hp,hq,h=>by
  rw[lL,lL]at h;obtain⟨e1,e2⟩:=FX (hp p HU) (hq q HU) (pz c ps) (pz c qs) h
  cases ps with
  | nil=>
   cases qs with
   | nil=>rw[e1]
   | cons=>cases e2
  | cons a ps=>
   cases qs with
   | nil=>cases e2
   | cons b qs=>
    have e3:bV c (a::ps)=bV c (b::qs):=by injection e2
    rw[e1,ni (by simp) (by simp) (λx hx=>hp x (HQ _ hx)) (λx hx=>hq x (HQ _ hx)) e3]
theorem pF (x y:Str):Jf x y≠ []:=by
 unfold Jf;split
 ·simp
 ·split
  ·simp
  ·rw[partsBetween_eq]
   obtain⟨p,r,e⟩:=partsFrom_ne x y.length 0 (KM x y 0 x.length (x.length+1));rw[e];simp
theorem vN (c:Nat){ps:List (List Nat)}(hne:ps≠ [])(hf:∀p∈ps,c∉p):Jf (tx (bV c ps)) (tx [c])=ps.map tx:=by
 have e:=join_split (tx (bV c ps)) (tx [c])
 have f:=split_free (tx (bV c ps)) c
 have n:=pF (tx (bV c ps)) (tx [c])
 have f':∀p∈Jf (tx (bV c ps)) (tx [c]),c∉p.cps.toList:=f
 generalize Jf (tx (bV c ps)) (tx [c])=S at e n f'
 rw[<-kW S,oF]at e
 have:=ni (by intro z;exact n (KQ.mp z)) hne (λp hp=>by obtain⟨s,hs,rfl⟩:=HY.mp hp;exact f' s hs) hf (jM e)
 rw[<-this,kW]
theorem nR (l:List Nat)(i j:Nat):Lq (tx l) i j=tx ((l.drop i).take (j - i)):=by
 rw[<-kU (Lq (tx l) i j),strSub_toList,cM]
end G
namespace G
open PySem Tr PySem.StrLaws PySem.NumText PyProof.Rows
theorem cP {n:Nat}(h:n<=100000):n<=sizeLine:=by rw[JL];omega
theorem addS {a b:List Nat}(h:a.length+b.length<=100000):aB (.str (tx a)) (.str (tx b))= .ok (.str (tx (a++b))):=by
 show(if (tx a).length+(tx b).length<=sizeLine then Rs.ok (T.str (tx a++tx b))else .bad)=_
 rw[a6,a6,if_pos (cP h),iP]
theorem vK:∀ps:List (List Nat),jo (ps.map λp=>T.str (tx p))=some (ps.map tx)
 | [] =>rfl
 | p::ps=>by
  show(jo (ps.map λp=>T.str (tx p))).map (tx p:: ·)=_
  rw[vK ps];rfl
theorem zC (ps:List (List Nat)):((ps.map tx).map (·.length)).sum=(ps.map (·.length)).sum:=by
 rw[Iu];exact congrArg List.sum (JK λp _=>a6 p)
theorem ng {sep:List Nat}{ps:List (List Nat)}(h:(ps.map (·.length)).sum+ps.length*sep.length<=100000):JoinOk (tx sep) (ps.map tx)=true:=by
 unfold JoinOk Builtin.Str.tooLong;rw[joinTotal,zC,HP,a6,decide_eq_false (by rw[JL];omega)]
 rfl
theorem xj:∀ps:List (List Nat),Ox (tx []) (ps.map tx)=tx ps.flatten
 | [] =>rfl
 | [p] =>by show tx p=tx (p++ []);rw[Jc]
 | p::q::r=>by
  show tx p++tx [] ++Ox (tx []) ((q::r).map tx)=_
  rw[xj (q::r),iP,iP,Jc];rfl
theorem Fz {ps:List (List Nat)}(h:(ps.map (·.length)).sum<=100000):gW [.str (tx []),.lst (ps.map λp=>T.str (tx p))] = .ok (.str (tx ps.flatten)):=by
 show(match jo (ps.map λp=>T.str (tx p))with | some ss=>if JoinOk (tx []) ss=true then Rs.ok (T.str (Txt.join (tx []) ss))else .bad | none=> .bad)=_
 rw[vK]
 dsimp only
 rw[if_pos (ng (by simpa using h))]
 show Rs.ok (T.str (O0 (tx []) (ps.map tx)))=_
 rw[glued_eq_join,xj]
theorem rz {g:List T->Rs T}{fa:En->Rs T}{fs:En->Rs (List T)}{ρ:En}{s:Str}{ts:List T}{x:Rs T}(h1:fa ρ= .ok (.str s))(h2:fs ρ= .ok ts)(h3:g (.str s::ts)=x):oS g fa fs ρ=x:=by
 unfold oS;rw[h1]
 show(fs ρ >>= λts=>g (.str s::ts))=x
 rw[h2];exact h3
def dg (i:Int):List Nat:=(Ij (toString i)).cps.toList
theorem FT (i:Int):tx (dg i)=Ij (toString i):=kU _
theorem Be {t:T}{s:Str}(h:ub (.str s)= .ok t):bB [.str s] = .ok t:=by
 refine cu rfl ?_
 show tW (vr 0) [.va (.str s)] =_
 unfold tW
 show(ub (.str s) >>= λv=>Rs.ok (Fl.rt v))=_
 rw[h];rfl
def au (y:List Nat):List (List Nat)->List Nat
 | [] => []
 | [p] =>p
 | p::q::r=>p++(y++au y (q::r))
theorem dB (y p:List Nat){r:List (List Nat)}(h:r≠ []):au y (p::r)=p++(y++au y r):=by
 cases r with
 | nil=>exact absurd rfl h
 | cons=>rfl
theorem fU (y:List Nat):∀ps:List (List Nat),Ox (tx y) (ps.map tx)=tx (au y ps)
 | [] =>rfl
 | [p] =>rfl
 | p::q::r=>by
  show tx p++tx y++Ox (tx y) ((q::r).map tx)=_
  rw[fU y (q::r),iP,iP]
  show tx ((p++y)++au y (q::r))=tx (p++(y++au y (q::r)))
  rw[Iq]
theorem at_seq {l y:List Nat}{i:Nat}:At (tx l) (tx y) (tx l).length i↔i+y.length<=l.length/\(l.drop i).take y.length=y:=by
 unfold At;rw[subAt_eq,cM,a6,a6,cM];simp
section
variable {u v:List Nat}{c:Nat}
theorem tJ {l:List Nat}{i:Nat}(h:At (tx l) (tx (u++c::v)) (tx l).length i):l[i+u.length]? =some c:=by
 obtain⟨h1,h2⟩:=at_seq.mp h
 have:((l.drop i).take (u++c::v).length)[u.length]? =some c:=by rw[h2,JT (Ia _),My];rfl
 rw[List.getElem?_take]at this
 split at this
 ·rw[Mz]at this;exact this
 ·cases this
theorem kL {l p r:List Nat}{a:Nat}(h:l.drop a=p++((u++c::v)++r))(ha:a<=l.length):At (tx l) (tx (u++c::v)) (tx l).length (a+p.length):=by
 have hl:=congrArg JZ h;rw[Jh,HK,HK]at hl;refine at_seq.mpr ⟨by omega,?_⟩
 rw[<-List.drop_drop,h,N0,N1]
theorem xZ {l p r:List Nat}{a i:Nat}(h:l.drop a=p++((u++c::v)++r))(hu:c∉u)(hp:c∉p)(hi:a<=i)(hlt:i<a+p.length):¬ At (tx l) (tx (u++c::v)) (tx l).length i:=λz=>by
 have m:=tJ z
 have e:l[i+u.length]? =(l.drop a)[i+u.length - a]?:=by rw[Mz];congr 1;omega
 rw[e,h]at m
 by_cases q:i+u.length - a<p.length
 ·rw[JF q]at m;exact hp (Kb m)
 ·rw[JT (by omega),Iq,JF (by omega)]at m
  exact hu (Kb m)
theorem tI {l:List Nat}{a i:Nat}(hp:c∉l.drop a)(hi:a<=i):¬ At (tx l) (tx (u++c::v)) (tx l).length i:=λz=>by
 have m:=tJ z
 have e:l[i+u.length]? =(l.drop a)[i+u.length - a]?:=by rw[Mz];congr 1;omega
 rw[e]at m;exact hp (Kb m)
theorem mX (hu:c∉u){l:List Nat}:∀(cuts:List Nat) (a f:Nat) (ps:List (List Nat)),ps≠ []->(∀p∈ps,c∉p)->a<=l.length->l.drop a=au (u++c::v) ps →
  ChainG (tx l) (tx (u++c::v)) (tx l).length a cuts f->(∀k,f<=k->¬ At (tx l) (tx (u++c::v)) (tx l).length k)->partsFrom (tx l) (tx (u++c::v)).length a cuts=ps.map tx
 | [],a,f,ps,hne,hf,ha,h,hc,hn=>by
  have e:f=a:=hc;subst e
  cases ps with
  | nil=>exact absurd rfl hne
  | cons p r=>
   cases r with
   | nil=>
    show [Lq (tx l) f (tx l).length] = [tx p]
    rw[nR,a6,Km (by rw[Jh];omega),h];rfl
   | cons q r=>exact absurd (kL (u:=u) (c:=c) (v:=v) (r:=au (u++c::v) (q::r)) h ha) (hn _ (by omega))
 | i::cuts,a,f,ps,hne,hf,ha,h,hc,hn=>by
  obtain⟨h1,h2,h3,h4⟩:=hc
  cases ps with
  | nil=>exact absurd rfl hne
  | cons p r=>
   cases r with
   | nil=>exact absurd h2 (tI (by rw[h];exact hf p HU) h1)
   | cons q r=>
    have h':l.drop a=p++((u++c::v)++au (u++c::v) (q::r)):=h
    have hi:i=a+p.length:=by
     rcases Pa i (a+p.length)with z | z | z
     ·exact absurd h2 (xZ h' hu (hf p HU) h1 z)
     ·exact z
     ·exact absurd (kL h' ha) (h3 _ (by omega) z)
    subst hi
    have hl:=congrArg JZ h';rw[Jh,HK,HK]at hl
    have hy:(tx (u++c::v)).length=(u++c::v).length:=a6 _
    show Lq (tx l) a (a+p.length)::partsFrom (tx l) (tx (u++c::v)).length (a+p.length+(tx (u++c::v)).length) cuts=tx p::(q::r).map tx
    rw[mX hu cuts (a+p.length+(tx (u++c::v)).length) f (q::r) (by simp) (λx hx=>hf x (HQ _ hx)) (by rw[hy];omega) (by
     rw[hy,Nat.add_assoc,<-List.drop_drop,h',<-Iq];rw[<-HK,N0]) h4 hn]
    congr 1
    rw[nR,h']
    congr 1
    rw[Nat.add_sub_cancel_left];simp
end
theorem qO {x y:Str}(hw:1<=y.length)(h:∀i,¬At x y x.length i):Jf x y= [x]:=by
 unfold Jf;split
 ·rfl
 ·split
  ·rfl
  ·rename_i z
   exfalso
   apply z
   rcases occ_head x y (x.length+1) (by omega)with⟨e,_⟩ | ⟨i,r,_,hi,_⟩
   ·rw[e];rfl
   ·exact absurd hi (h i)
theorem rG (k:Nat):dg (Int.negSucc k)=45::(LV 10 (k+1)).map Mb:=by
 unfold dg;rw[signs_ofString]
 show("-" ++Nat.repr (k+1)).toList.map Mb=_
 rw[String.toList_append,Nat.toList_repr]
 rfl
theorem iY (m:Nat):dg (m:Int)=(LV 10 m).map Mb:=W.KIN.signs_num m
theorem kK (m:Nat):AllDigits ((LV 10 m).map Mb):=by
 intro c hc;obtain⟨ch,hch,e⟩:=HY.mp hc
 have r:=digit_range (Nat.isDigit_of_mem_toDigits (by decide) (by decide) hch)
 rw[<-e];exact r
theorem xN (m:Nat):(LV 10 m).map Mb≠ []:=by
 intro e
 have h:=toDigits_len_ge 10 m;rw[KQ.mp e]at h;exact absurd h (by decide)
theorem tu {m:Nat}(h:m<10 ^ 10):((LV 10 m).map Mb).length<=10:=by
 have:=W.KT.len_num (n:=(m:Int)) (by omega) (by omega)
 have e:(Ij (toString (m:Int))).length=(dg (m:Int)).length:=by unfold dg;rw[Kf];rfl
 rw[e,iY]at this;exact this
theorem jI (i:Int):∀c∈dg i,c=45\/(48<=c/\c<=57):=by
 intro c hc
 cases i with
 | ofNat m=>exact .inr (kK m c (by have:=iY m;rw[<-this];exact hc))
 | negSucc k=>
  rw[rG]at hc;rcases HZ.mp hc with rfl | hc
  ·exact .inl rfl
  ·exact .inr (kK _ c hc)
theorem gD {i:Int}(h : -(10 ^ 10)<i/\i<10 ^ 10):(dg i).length<=11:=by
 cases i with
 | ofNat m=>rw[show dg (Int.ofNat m)=_ from iY m];exact IA (tu (by have:=h.2;simp at this;omega)) (by decide)
 | negSucc k=>rw[rG,HR];exact Nat.succ_le_succ (tu (by have:=h.1;omega))
theorem Ag {i:Int}(h : -(10 ^ 10)<i/\i<10 ^ 10):PU (tx (dg i))=some i:=by
 have hl:=gD h
 cases i with
 | ofNat m=>
  have e:=intText_digits (x:=tx (dg (m:Int))) (by rw[cM,iY];exact kK m) (by rw[cM,iY];exact xN m) (by rw[a6];exact IA hl (by decide))
  rw[cM,iY,W.KIN.val_back]at e;rw[show dg (Int.ofNat m)=_ from iY m]
  exact e
 | negSucc k=>
  have e:=intText_neg (x:=tx (dg (Int.negSucc k))) (cs:=(LV 10 (k+1)).map Mb) (by rw[cM,rG]) (kK _) (xN _) (by rw[a6];exact IA hl (by decide))
  rw[W.KIN.val_back]at e;rw[e]
  rfl
theorem strZ {i:Int}(h : -(10 ^ 10)<i/\i<10 ^ 10):fZ [.int i] = .ok (.str (tx (dg i))):=by
 show(if i.natAbs.log2<1920 then Rs.ok (T.str (Ij (toString i)))else .bad)=_
 rw[FT,if_pos]
 by_cases z:i.natAbs=0
 ·rw[z];decide
 ·have h2:i.natAbs<2 ^ 34:=by omega
  exact Ig ((Nat.log2_lt z).mpr h2) (by decide)
theorem numZ {i:Int}(h : -(10 ^ 10)<i/\i<10 ^ 10):ub (.str (tx (dg i)))= .ok (.int i):=by
 show(if (tx (dg i)).length<=640/\(tx (dg i)).cps.all (· <1114112)=true then Rs.ok (iV (tx (dg i)))else .bad)=_
 have ha:(tx (dg i)).cps.all (· <1114112)=true:=by
  rw[Kw];intro c hc
  have hm:c∈dg i:=by simpa [tx]using hc
  have:=jI i c hm
  simp;omega
 rw[if_pos ⟨by rw[a6];have:=gD h;omega,ha⟩]
 unfold iV;rw[Ag h]
theorem zF {x y:Str}(h:IS y=IS ⟨#[]⟩):decide (IS x<IS y)=false:=by
 rw[h,decide_eq_false_iff_not];unfold IS;rw[if_pos (by simp:(#[]:Array Nat).all (· <256)=true)]
 split
 ·omega
 ·split <;> omega
theorem mU {u v:List Nat}{c:Nat}(hu:c∉u)(hk:IS (tx (u++c::v))=IS ⟨#[]⟩){ps:List (List Nat)}(hne:ps≠ [])(hf:∀p∈ps,c∉p):Jf (tx (au (u++c::v) ps)) (tx (u++c::v))=ps.map tx:=by
 have hw:1<=(tx (u++c::v)).length:=by rw[a6,HK,HR];omega
 cases ps with
 | nil=>exact absurd rfl hne
 | cons p r=>
  cases r with
  | nil=>exact qO hw λi=>tI (a:=0) (hf p HU) (IZ _)
  | cons q r=>
   obtain⟨f,hc,hn⟩:=occ_tight (tx (au (u++c::v) (p::q::r))) (tx (u++c::v)) hw
   have P:=mX hu _ 0 f (p::q::r) (by simp) hf (IZ _) rfl hc hn
   have H:=kL (u:=u) (c:=c) (v:=v) (l:=au (u++c::v) (p::q::r)) (p:=p) (r:=au (u++c::v) (q::r)) (a:=0) rfl (IZ _);unfold Jf;rw[zF hk,M4]
   have h1:=(at_seq.mp H).1;rw[if_neg (by rw[decide_eq_true_iff,a6,a6];omega)]
   rw[if_neg (λz=>by
    rcases occ_head (tx (au (u++c::v) (p::q::r))) (tx (u++c::v)) ((tx (au (u++c::v) (p::q::r))).length+1) (by omega)with⟨_,e⟩ | ⟨i,s,e,_⟩
    ·exact e _ H
    ·rw[e]at z;cases z),partsBetween_eq]
   exact P
theorem wA {u v a b:List Nat}{c:Nat}(hu:c∉u)(ha:c∉a):Jg (tx (a++((u++c::v)++b))) (tx (u++c::v))=(tx a,tx (u++c::v),tx b):=by
 have H:=kL (u:=u) (c:=c) (v:=v) (l:=a++((u++c::v)++b)) (p:=a) (r:=b) (a:=0) rfl (IZ _);rw[Lk]at H;unfold Jg;rcases occ_head (tx (a++((u++c::v)++b))) (tx (u++c::v)) 1 (Ia _)with⟨_,hn⟩ | ⟨i,r,e,hi,hmin⟩
 ·exact absurd H (hn _)
 ·rw[e]
  have:i=a.length:=by
   rcases Pa i a.length with z | z | z
   ·exact absurd hi (xZ (p:=a) (r:=b) (a:=0) rfl hu ha (IZ _) (by omega))
   ·exact z
   ·exact absurd H (hmin _ z)
  subst this
  dsimp only
  rw[nR,nR,a6,a6]
  have e1:((a++((u++c::v)++b)).drop 0).take (a.length - 0)=a:=by rw[MI,K4,N1]
  have e2:(a++((u++c::v)++b)).drop (a.length+(u++c::v).length)=b:=by rw[<-Iq,<-HK,N0]
  rw[e1,e2,Km (by rw[HK,HK];omega)]
theorem BI {u v:List Nat}{c:Nat}(hu:c∉u)(hk:IS (tx (u++c::v))=IS ⟨#[]⟩){ps:List (List Nat)}(hne:ps≠ [])(hf:∀p∈ps,c∉p)(h1:(au (u++c::v) ps).length<=100000)(h2:ps.length<=100000) :
  gL [.str (tx (au (u++c::v) ps)),.str (tx (u++c::v))] = .ok (.lst (ps.map λp=>T.str (tx p))):=by
 show(if _/\_/\_ then _ else _)=_
 rw[mU hu hk hne hf,if_pos ⟨by rw[a6,HK,HR];omega,by rw[a6];omega,by rw[HP];omega⟩,Iu]
 rfl
theorem EW {u v a b:List Nat}{c:Nat}(hu:c∉u)(ha:c∉a)(h:(a++((u++c::v)++b)).length<=100000):fQ [.str (tx (a++((u++c::v)++b))),.str (tx (u++c::v))] = .ok (.tup [.str (tx a),.str (tx (u++c::v)),.str (tx b)]):=by
 show(if _/\_ then _ else _)=_
 rw[wA hu ha,if_pos ⟨by rw[a6,HK,HR];omega,by rw[a6];omega⟩]
theorem Ba {y:List Nat}{ps:List (List Nat)}(h:(ps.map (·.length)).sum+ps.length*y.length<=100000):gW [.str (tx y),.lst (ps.map λp=>T.str (tx p))] = .ok (.str (tx (au y ps))):=by
 show(match jo (ps.map λp=>T.str (tx p))with | some ss=>if JoinOk (tx y) ss=true then Rs.ok (T.str (Txt.join (tx y) ss))else .bad | none=> .bad)=_
 rw[vK]
 dsimp only
 rw[if_pos (ng h)]
 show Rs.ok (T.str (O0 (tx y) (ps.map tx)))=_
 rw[glued_eq_join,fU]
theorem Em {z:List Nat}{ps:List (List Nat)}(hne:ps≠ [])(hf:∀p∈ps,10∉p)(h:(bV 10 ps).length<=100000):eQ (tx [10]) (tx z) (.str (tx (bV 10 ps)))= .ok (.str (tx (au z ps))):=by
 show(if _ then _ else _)=_
 rw[if_pos (by rw[a6];omega)]
 have:=replace_one (tx (bV 10 ps)) (tx z) 10;rw[show(⟨#[10]⟩:Str)=tx [10]from rfl,vN 10 hne hf,fU]at this
 rw[this]
end G
namespace G
open PySem Tr Gr
def Es (cs:List T)(y:T):T:=match y with
 | .tup [.int c,.int k] =>match cs.getD c.toNat .non with
  | .tup [_,_,.tup r] =>r.getD k.toNat .non
  | _=> .non
 | _=> .non
theorem vW {cs:List T}{y:T}(hc:∀c∈cs,bz c=true)(h:y∈di 0 cs):∃(c k:Nat) (x z:T) (r:List T) (v:Int),y= .tup [.int c,.int k]/\cs[c]? =some (.tup [x,z,.tup r])/\r[k]? =some (.int v)/\Es cs y= .int v:=by
 obtain⟨c,k,rfl,h1,h2,h3⟩:=fx cs 0 h
 have hcl:c<cs.length:=by omega
 have e0:cs.getD (c - 0) .non=cs[c]:=by simp[hcl]
 rw[e0]at h3;obtain⟨x,z,r,e,_,_,a3,a4⟩:=i5 (hc cs[c] (J9 hcl));rw[e]at h3
 have h3':k<r.length:=by
  have:k<(r.map T.int).length:=h3
  rwa [HP]at this
 refine⟨c,k,.int x,.int z,r.map .int,r.getD k 0,rfl,by rw[Iv hcl,e],iu h3',?_⟩
 show(match cs.getD ((c:Int).toNat) .non with
  | .tup [_,_,.tup r] =>r.getD ((k:Int).toNat) .non
  | _=> .non)=_
 rw[IY,IY,show cs.getD c .non= .tup [.int x,.int z,.tup (r.map .int)]from by simp[hcl,e]]
 show(r.map T.int).getD k .non=_
 rw[IF,iu h3'];rfl
theorem tZ {cs ls:List T}{y:T}(g:Good cs ls)(h:y∈di 0 cs):cw [RR cs ls,y] = .ok (Es cs y):=by
 obtain⟨hc,c1,c4⟩:=aT g.c
 have hev:=xC h;obtain⟨c,k,x,z,r,v,rfl,e1,e2,e3⟩:=vW hc h;rw[e3];refine cu rfl ?_
 show gm [.va (RR cs ls),.va (.tup [.int c,.int k])] =_
 unfold gm;rw[aK (xh (t:=.non) (aR (ts:=[RR cs ls]) rfl (jA g.p g.ok)))];rw[aK (xh (t:=.non) (aR (ts:=[RR cs ls,.tup [.int c,.int k]]) rfl (zA g rfl hev)))];exact(dA (zG (n:=k) (l:=r) (aN (t:=.tup [x,z,.tup r]) (u:=.int 2) (zG (n:=c) (l:=cs) rfl rfl e1) rfl rfl) rfl e2))
end G
namespace G
open PySem Tr PySem.StrLaws PySem.NumText PyProof.Rows
abbrev l5:List Nat:=[32] ++97:: [116,32]
abbrev cm:List Nat:=[] ++44:: [32]
abbrev i9:=List (Int×Int)
def wd (x:Int×Int):List Nat:=dg x.1++(l5++dg x.2)
def bd (c:Nat)(row:i9):List Nat:=dg (c:Int)++([58,32] ++au cm (row.map wd))
def tt:Nat->List i9->List Nat
 | _,[] => []
 | c,r::rs=>bd c r++(10::tt (c+1) rs)
def gi:Nat->List i9->List (List Nat)
 | _,[] => []
 | c,r::rs=>bd c r::gi (c+1) rs
def pw (q:List Nat×Int):List Nat:=q.1++(l5++dg q.2)
def qV (c:Nat):i9->List (List Nat×Int)
 | [] => []
 | x::r=>(dg (c:Int)++([58,32] ++dg x.1),x.2)::r.map λx=>(dg x.1,x.2)
def gO:Nat->List i9->List (List Nat×Int)
 | _,[] => []
 | c,r::rs=>qV c r++gO (c+1) rs
theorem jm:∀(rs:List i9) (c:Nat),tt c rs=bV 10 (gi c rs++ [[]])
 | [],_=>rfl
 | r::rs,c=>by
  show bd c r++(10::tt (c+1) rs)=bV 10 (bd c r::(gi (c+1) rs++ [[]]))
  rw[jm rs]
  cases h:gi (c+1) rs++ [[]]with
  | nil=>simp at h
  | cons=>rfl
theorem rY:∀(rs:List i9) (c:Nat),tt c rs=((gi c rs).map (· ++ [10])).flatten
 | [],_=>rfl
 | r::rs,c=>by
  show bd c r++(10::tt (c+1) rs)=(bd c r++ [10])++((gi (c+1) rs).map (· ++ [10])).flatten
  rw[rY rs,Iq];rfl
theorem oV:∀(rs:List i9) (c:Nat),(gi c rs).length=rs.length
 | [],_=>rfl
 | r::rs,c=>by show(gi (c+1) rs).length+1=_;rw[oV rs];rfl
theorem dZ (y a p:List Nat):∀ps,a++au y (p::ps)=au y ((a++p)::ps)
 | [] =>rfl
 | q::r=>by show a++(p++(y++au y (q::r)))=(a++p)++(y++au y (q::r));rw[Iq]
theorem kl (y:List Nat):∀(ps qs:List (List Nat)),ps≠ []->au y (au y ps::qs)=au y (ps++qs)
 | [],_,h=>absurd rfl h
 | [p],qs,_=>rfl
 | p::q::r,qs,_=>by
  have:=kl y (q::r) qs (by simp)
  show au y ((p++(y++au y (q::r)))::qs)=p++(y++au y (q::r++qs))
  rw[<-dZ,<-dZ,this]
theorem F2 (c:Nat){r:i9}(h:r≠ []):bd c r=au cm ((qV c r).map pw):=by
 cases r with
 | nil=>exact absurd rfl h
 | cons x r=>
  show dg (c:Int)++([58,32] ++au cm (wd x::r.map wd))=au cm (pw (dg (c:Int)++([58,32] ++dg x.1),x.2)::(r.map λx=>(dg x.1,x.2)).map pw)
  rw[dZ,dZ,Iu]
  have e1:dg (c:Int)++([58,32] ++wd x)=pw (dg (c:Int)++([58,32] ++dg x.1),x.2):=by
   unfold wd pw;simp only[Iq]
  rw[e1]
  rfl
theorem y9 {c:Nat}{r:i9}(h:r≠ []):(qV c r).map pw≠ []:=by
 cases r with
 | nil=>exact absurd rfl h
 | cons=>simp[qV]
theorem rL:∀(rs:List i9) (c:Nat),(∀r∈rs,r≠ [])->au cm (gi c rs++ [[]])=au cm ((gO c rs).map pw++ [[]])
 | [],_,_=>rfl
 | r::rs,c,h=>by
  have hr:=h r HU
  have ih:=rL rs (c+1) λx hx=>h x (HQ _ hx)
  show au cm (bd c r::(gi (c+1) rs++ [[]]))=au cm ((qV c r++gO (c+1) rs).map pw++ [[]])
  rw[F2 c hr,JH,Iq];rw[<-kl cm _ ((gO (c+1) rs).map pw++ [[]]) (y9 hr)];rw[dB cm _ (by simp),dB cm _ (by simp),ih]
theorem jv:∀(rs:List i9) (c:Nat),(gO c rs).map (·.2)=rs.flatten.map (·.2)
 | [],_=>rfl
 | r::rs,c=>by
  show(qV c r++gO (c+1) rs).map (·.2)=_
  rw[JH,jv rs,Jt,JH]
  congr 1
  cases r with
  | nil=>rfl
  | cons x r=>show x.2::(r.map λx=>(dg x.1,x.2)).map (·.2)=_;rw[Iu];rfl
theorem pP:∀(rs:List i9) (c:Nat),∀q∈gO c rs,∀n∈q.1,n≠97/\n≠44/\n≠10
 | [],_,q,h=>by cases h
 | r::rs,c,q,h=>by
  rcases HV.mp (show q∈qV c r++gO (c+1) rs from h)with h | h
  ·have dn:∀(i:Int) (n:Nat),n∈dg i->n≠97/\n≠44/\n≠10:=λi n z=>by rcases jI i n z with z | z <;> omega
   cases r with
   | nil=>cases h
   | cons x r=>
    rcases HZ.mp h with rfl | h
    ·intro n hn
     rcases HV.mp hn with hn | hn
     ·exact dn _ n hn
     ·rcases HV.mp hn with hn | hn
      ·simp at hn;omega
      ·exact dn _ n hn
    ·obtain⟨x,_,rfl⟩:=HY.mp h
     exact λn hn=>dn _ n hn
  ·exact pP rs (c+1) q h
theorem y4 {q:List Nat×Int}(h:∀n∈q.1,n≠97/\n≠44/\n≠10):44∉pw q/\10∉pw q:=by
 have key:∀n∈pw q,n≠44/\n≠10:=λn hn=>by
  rcases HV.mp hn with hn | hn
  ·exact(h n hn).2
  ·rcases HV.mp hn with hn | hn
   ·simp at hn;omega
   ·rcases jI q.2 n hn with z | z <;> omega
 exact⟨λz=>(key _ z).1 rfl,λz=>(key _ z).2 rfl⟩
theorem fm {y:List Nat}{x:Nat}:∀{ps:List (List Nat)},x∈au y ps->x∈y\/∃p∈ps,x∈p
 | [],h=>by cases h
 | [p],h=> .inr ⟨p,HU,h⟩
 | p::q::r,h=>by
  rcases HV.mp (show x∈p++(y++au y (q::r))from h)with h | h
  ·exact .inr ⟨p,HU,h⟩
  ·rcases HV.mp h with h | h
   ·exact .inl h
   ·rcases fm h with h | ⟨p',hp,h⟩
    ·exact .inl h
    ·exact .inr ⟨p',HQ _ hp,h⟩
theorem Ay (c:Nat)(r:i9):10∉bd c r:=λz=>by
 unfold bd at z;rcases HV.mp z with z | z
 ·rcases jI _ _ z with z | z <;> omega
 ·rcases HV.mp z with z | z
  ·simp at z
  ·rcases fm z with z | ⟨p,hp,z⟩
   ·simp at z
   ·obtain⟨x,_,rfl⟩:=HY.mp hp
    rcases HV.mp z with z | z
    ·rcases jI _ _ z with z | z <;> omega
    ·rcases HV.mp z with z | z
     ·simp at z
     ·rcases jI _ _ z with z | z <;> omega
theorem l0:∀(rs:List i9) (c:Nat),∀p∈gi c rs++ [[]],10∉p
 | [],_,p,h=>by simp[gi]at h;subst h;simp
 | r::rs,c,p,h=>by
  rcases HZ.mp (show p∈bd c r::(gi (c+1) rs++ [[]])from h)with rfl | h
  ·exact Ay c r
  ·exact l0 rs (c+1) p h
def AtN (l:List Nat)(n:Nat):Prop:=∃qs:List (List Nat),l=au l5 qs/\(∀q∈qs,97∉q)/\qs.length=n+1
theorem qB {l:List Nat}(h:97∉l):AtN l 0:=⟨[l],rfl,λq hq=>by rw[Ir]at hq;exact hq▸h,rfl⟩
theorem atn1:AtN l5 1:=⟨[[],[]],rfl,λq hq=>by simp at hq;subst hq;simp,rfl⟩
theorem lM (y:List Nat):∀(ps:List (List Nat)) (p q:List Nat) (qs:List (List Nat)),au y (ps++ [p])++au y (q::qs)=au y (ps++(p++q)::qs)
 | [],p,q,qs=>dZ y p q qs
 | [a],p,q,qs=>by
  show(a++(y++p))++au y (q::qs)=a++(y++au y ((p++q)::qs))
  rw[<-dZ];simp only[Iq]
 | a::b::ps,p,q,qs=>by
  have:=lM y (b::ps) p q qs
  show(a++(y++au y (b::ps++ [p])))++au y (q::qs)=a++(y++au y (b::ps++(p++q)::qs))
  rw[<-this];simp only[Iq]
theorem AtN.app {l m:List Nat}{a b:Nat}(h:AtN l a)(h2:AtN m b):AtN (l++m) (a+b):=by
 obtain⟨ps,rfl,f1,n1⟩:=h;obtain⟨qs,rfl,f2,n2⟩:=h2
 cases qs with
 | nil=>simp at n2
 | cons q qs=>
  rcases ND ps with rfl | ⟨ps',p,rfl⟩
  ·simp at n1
  ·refine⟨ps'++(p++q)::qs,by rw[NF,lM],λz hz=> ?_,?_⟩
   ·rcases HV.mp hz with hz | hz
    ·exact f1 z (by simp[hz])
    ·rcases HZ.mp hz with rfl | hz
     ·intro w
      rcases HV.mp w with w | w
      ·exact f1 p (by simp) w
      ·exact f2 q HU w
     ·exact f2 z (HQ _ hz)
   ·simp at n1 n2 ⊢;omega
theorem Dn (i:Int):97∉dg i:=λz=>by rcases jI i _ z with z | z <;> omega
theorem AK (x:Int×Int):AtN (wd x) 1:=(qB (Dn x.1)).app (atn1.app (qB (Dn x.2)))
theorem vR:∀r:i9,AtN (au cm (r.map wd)) r.length
 | [] =>qB (by simp[au])
 | [x] =>AK x
 | x::y::r=>by
  have:=(AK x).app ((qB (l:=cm) (by simp)).app (vR (y::r)))
  rw[Lk,Nat.add_comm]at this;exact this
theorem F3 (c:Nat)(r:i9):AtN (bd c r) r.length:=by
 have:=(qB (Dn (c:Int))).app ((qB (l:=[58,32]) (by simp)).app (vR r))
 rwa [Lk,Lk]at this
theorem AQ:∀(rs:List i9) (c:Nat),AtN (tt c rs) rs.flatten.length
 | [],_=>qB (by simp[tt])
 | r::rs,c=>by
  have:=(F3 c r).app ((qB (l:=[10]) (by simp)).app (AQ rs (c+1)))
  rw[Lk]at this;rw[Jt,HK];exact this
end G
namespace G
open PySem Tr Gr PySem.StrLaws PySem.NumText PyProof.Rows
def uS (cs:List T)(v:N2):Int:=match Es cs (en v)with
 | .int i=>i
 | _=>0
def Sm (i:Int):Prop:=-(10 ^ 10)<i/\i<10 ^ 10
section
variable {cs ls:List T}{L:ja N2}{P:List N2}{t:N2->Int}
theorem Rd.mem (R:Rd cs ls L P){v:N2}(hv:v∈P):en v∈di 0 cs:=by rw[R.e];exact HY.mpr ⟨v,hv,rfl⟩
theorem Rd.rdi (R:Rd cs ls L P){v:N2}(hv:v∈P):cw [(RR cs ls),en v] = .ok (.int (uS cs v))/\Sm (uS cs v):=by
 have hm:=R.mem hv
 have pr:=tZ R.g hm;obtain⟨c,k,e0,h1,h2,h3⟩:=fx cs 0 hm
 have hcl:c<cs.length:=by omega
 obtain⟨x,y,r,e,hx,hy,hb⟩:=i0 ((aT R.g.c).1 cs[c] (J9 hcl))
 have e1:cs[c]? =some (.tup [.int x,.int y,.tup (r.map .int)]):=by rw[Iv hcl,e]
 have hk:k<r.length:=by
  rw[K4,IF,e1]at h3
  have:k<(r.map T.int).length:=h3
  rwa [HP]at this
 have e3:Es cs (en v)= .int (r.getD k 0):=by
  rw[e0]
  show(match cs.getD ((c:Int).toNat) .non with
   | .tup [_,_,.tup r] =>r.getD ((k:Int).toNat) .non
   | _=> .non)=_
  rw[IY,IY,IF,e1]
  show(r.map T.int).getD k .non=_
  rw[IF,iu hk]
  rfl
 have e4:uS cs v=r.getD k 0:=by unfold uS;rw[e3]
 rw[pr,e3,e4]
 have:=hb k;exact⟨rfl,by unfold Sm;omega⟩
def jF (c:Nat)(v:N2):Bool:=v.c == (c:Int)
def row (cs:List T)(P:List N2)(t:N2->Int)(c:Nat):i9:=(P.filter (jF c)).map λv=>(uS cs v,t v)
def rows (cs:List T)(P:List N2)(t:N2->Int):List i9:=(Ka 0 cs.length).map (row cs P t)
theorem d6 (y:List Nat):∀ps:List (List Nat),(au y ps).length<=(ps.map (·.length)).sum+ps.length*y.length
 | [] =>IZ _
 | [p] =>by show p.length<=p.length+0+_;omega
 | p::q::r=>by
  have:=d6 y (q::r)
  show(p++(y++au y (q::r))).length<=_
  rw[HK,HK,HW,KP,HR,Nu];omega
theorem nQ {n:Nat}:∀{ps:List (List Nat)},(∀p∈ps,p.length<=n)->(ps.map (·.length)).sum<=ps.length*n
 | [],_=>IZ _
 | p::ps,h=>by
  have h2:=nQ λx hx=>h x (HQ _ hx)
  have h3:=h p HU;rw[HW,KP,HR,Nu];omega
theorem u5 {x:Int×Int}(h1:Sm x.1)(h2:Sm x.2):(wd x).length<=26:=by
 have a:=gD h1
 have b:=gD h2;unfold wd;simp only[HK,HR,IK];omega
theorem sf (R:Rd cs ls L P)(c:Nat):(row cs P t c).length<=16:=by
 unfold row;rw[HP]
 have:=NG (jF c) P
 have:=R.pl;omega
theorem qR (R:Rd cs ls L P)(ht:∀v∈P,Sm (t v))(c:Nat):∀x∈row cs P t c,Sm x.1/\Sm x.2:=λx hx=>by
 obtain⟨v,hv,rfl⟩:=HY.mp hx
 have hv:=(KA.mp hv).1;exact⟨(R.rdi hv).2,ht v hv⟩
theorem rE (R:Rd cs ls L P)(ht:∀v∈P,Sm (t v))(c:Nat):(((row cs P t c).map wd).map (·.length)).sum+((row cs P t c).map wd).length*2<=1000:=by
 have h1:=nQ (n:=26) (ps:=(row cs P t c).map wd) λp hp=>by
  obtain⟨x,hx,rfl⟩:=HY.mp hp
  have:=qR R ht c x hx;exact u5 this.1 this.2
 have h2:=sf (t:=t) R c;rw[HP]at h1 ⊢;omega
theorem l4 (R:Rd cs ls L P)(ht:∀v∈P,Sm (t v)){c:Nat}(hc:c<1000):(bd c (row cs P t c)).length<=1100:=by
 have h:=d6 cm ((row cs P t c).map wd)
 have h2:=rE R ht c
 have h3:=gD (i:=(c:Int)) (by omega)
 unfold bd;simp only[HK,HR,IK]at h ⊢;omega
theorem cW {fa fb:En->Rs T}{ρ:En}{a b:List Nat}(ha:fa ρ= .ok (.str (tx a)))(hb:fb ρ= .ok (.str (tx b)))(h:a.length+b.length<=100000):o2 aB fa fb ρ= .ok (.str (tx (a++b))):=aN ha hb (addS h)
theorem jT {f:En->Rs T}{ρ:En}{i:Int}(h:f ρ= .ok (.int i))(h0:Sm i):cl fZ (ae f ai) ρ= .ok (.str (tx (dg i))):=aR (aj h aD) (strZ h0)
theorem Ej:Ij ", " =tx cm:=rfl
theorem Rd.line (R:Rd cs ls L P)(ht:∀v∈P,Sm (t v)){c:Nat}(hc:c<1000):dy [(RR cs ls),.int c,i8 P t] = .ok (.str (tx (bd c (row cs P t c)++ [10]))):=by
 have hp:=R.pl;refine cu rfl ?_
 show hV [.va (RR cs ls),.va (.int c),.va (i8 P t),.em,.em] =_
 unfold hV
 have e1:fF (iS (cl cF (ae (vr 0) ai))) [none,some 1] (gN 0) (tb (o2 eqT (o2 b7 (vr 0) (cn (.int 0))) (vr 1))) (vr 0) [.va (RR cs ls),.va (.int c),.va (i8 P t),.em,.em] = .ok (.lst ((P.filter (jF c)).map en)):=by
  have:=Fm (fc:=tb (o2 eqT (o2 b7 (vr 0) (cn (.int 0))) (vr 1))) (fe:=vr 0) (p:=λu=>match u with | .tup [.int a,_] =>a == (c:Int) | _=>false) (h:=λu=>u) (src:=[none,some 1]) (ρ:=[.va (RR cs ls),.va (.int c),.va (i8 P t),.em,.em]) (fi:=iS (cl cF (ae (vr 0) ai))) (ts:=P.map en) (Fq (aR (aj (t:=RR cs ls) rfl aD) R.events)) (by rw[HP];exact cP (by omega)) (by decide) (λu hu=>by
   obtain⟨v,hv,rfl⟩:=HY.mp hu;exact⟨cN (aN (t:=.int v.c) (u:=.int c) rfl rfl (jW _ _)),λ_=>rfl⟩)
  rw[this,List.filter_map,Iu]
  rfl
 rw[aK (b6 e1 (show gN 3 _ _= .ok [.va (RR cs ls),.va (.int c),.va (i8 P t),.va (.lst ((P.filter (jF c)).map en)),.em]from rfl))]
 have e2:fF (iS (vr 3)) [none,some 0,some 2] (gN 0) bT (o2 aB (o2 aB (cl fZ (ae (cl cw (ae (vr 1) (ae (vr 0) ai))) ai)) (cn (.str " at "))) (cl fZ (ae (o2 mH (vr 2) (vr 0)) ai))) [.va (RR cs ls),.va (.int c),.va (i8 P t),.va (.lst ((P.filter (jF c)).map en)),.em] = .ok (.lst (((row cs P t c).map wd).map λp=>T.str (tx p))):=by
  have:=rA (fe:=o2 aB (o2 aB (cl fZ (ae (cl cw (ae (vr 1) (ae (vr 0) ai))) ai)) (cn (.str " at "))) (cl fZ (ae (o2 mH (vr 2) (vr 0)) ai))) (h:=λu=>match u with | .tup [.int a,.int k] =>T.str (tx (wd (uS cs ⟨a,k⟩,t ⟨a,k⟩))) | _=> .non) (src:=[none,some 0,some 2]) (ρ:=[.va (RR cs ls),.va (.int c),.va (i8 P t),.va (.lst ((P.filter (jF c)).map en)),.em]) (fi:=iS (vr 3)) (ts:=(P.filter (jF c)).map en) rfl (by rw[HP];have:=NG (jF c) P;exact cP (by omega)) (by decide) (λu hu=>by
   obtain⟨v,hv,rfl⟩:=HY.mp hu
   have hv:=(KA.mp hv).1;obtain⟨r1,r2⟩:=R.rdi hv
   have t2:=ht v hv
   have l1:=gD r2
   have l2:=gD t2;refine(cW (cW (jT (aR (aj rfl (aj rfl aD)) r1) r2) (b:=l5) rfl ?_) (jT (Bg rfl rfl hv) t2) ?_).trans ?_
   any_goals (simp only[HK,HR,IK];omega)
   show _=Rs.ok (T.str (tx (wd (uS cs v,t v))))
   unfold wd;rw[Iq])
  rw[this,Iu,Iu];unfold row;rw[Iu]
  rfl
 rw[aK (b6 e2 (show gN 4 _ _= .ok [.va (RR cs ls),.va (.int c),.va (i8 P t),.va (.lst ((P.filter (jF c)).map en)),.va (.lst (((row cs P t c).map wd).map λp=>T.str (tx p)))]from rfl))]
 have hl:=rE R ht c
 have hb:=l4 R ht hc
 have h3:=gD (i:=(c:Int)) (by omega)
 have hi:=d6 cm ((row cs P t c).map wd)
 have ej:oS gW (cn (.str ", ")) (ae (vr 4) ai) [.va (RR cs ls),.va (.int c),.va (i8 P t),.va (.lst ((P.filter (jF c)).map en)),.va (.lst (((row cs P t c).map wd).map λp=>T.str (tx p)))] = .ok (.str (tx (au cm ((row cs P t c).map wd)))):=
  rz rfl (aj (t:=.lst (((row cs P t c).map wd).map λp=>T.str (tx p))) rfl aD) (by rw[Ej];exact Ba (by simp only[HK,HR,IK];omega))
 simp only[HK,HR,IK]at hi;refine dA ((cW (cW (cW (jT (i:=(c:Int)) rfl (by unfold Sm;omega)) (b:=[58,32]) rfl ?_) ej ?_) (b:=[10]) rfl ?_).trans ?_)
 any_goals (simp only[HK,HR,IK];omega)
 unfold bd;simp only[Iq]
end
theorem grp:∀(cs:List T) (i:Nat) (Q:List N2),Q.map en=di i cs->((Ka i cs.length).map λc=>Q.filter (jF c)).flatten=Q
 | [],i,Q,h=>by
  rw[KQ.mp h];rfl
 | c::r,i,Q,h=>by
  obtain⟨Q1,Q2,rfl,h1,h2⟩:=Nn.mp (show Q.map en=fW i (qU c)++di (i+1) r from h)
  have ih:=grp r (i+1) Q2 h2
  have a1:∀v∈Q1,v.c=(i:Int):=λv hv=>by
   have:en v∈fW i (qU c):=by rw[<-h1];exact HY.mpr ⟨v,hv,rfl⟩
   obtain⟨u,hu,e⟩:=HY.mp this;unfold en at e
   have:=T.tup.inj e;simp only[Lr,T.int.injEq]at this;exact this.1.symm
  have a2:∀v∈Q2,(i:Int)+1<=v.c:=λv hv=>by
   have:en v∈di (i+1) r:=by rw[<-h2];exact HY.mpr ⟨v,hv,rfl⟩
   obtain⟨a,k,e,h3,_⟩:=fx r (i+1) this;unfold en at e
   have:=T.tup.inj e;simp only[Lr,T.int.injEq]at this;omega
  rw[HR,Ni,HW,Jt]
  have e1:(Q1++Q2).filter (jF i)=Q1:=by
   rw[Lx,Mj.mpr λv hv=>by unfold jF;rw[a1 v hv];simp,KY.mpr λv hv z=> ?_,Jc]
   have:=a2 v hv;unfold jF at z
   have:=eq_of_beq z;omega
  have e2:((Ka (i+1) r.length).map λc=>(Q1++Q2).filter (jF c))=(Ka (i+1) r.length).map λc=>Q2.filter (jF c):=by
   refine JK λk hk=> ?_
   rw[Lx,KY.mpr λv hv z=> ?_,Kh]
   have:=a1 v hv;unfold jF at z
   have:=eq_of_beq z;rw[LJ]at hk;omega
  rw[e1,e2,ih]
theorem qA (f:Nat->i9):∀(n i:Nat),gi i ((Ka i n).map f)=(Ka i n).map λc=>bd c (f c)
 | 0,_=>rfl
 | n+1,i=>by
  rw[Ni,HW,HW]
  show bd i (f i)::gi (i+1) _=_
  rw[qA f n (i+1)]
theorem xO (a:List T)(x:T):gh (a++ [x]) none (some (-1))=a:=by
 have e:HT.sIx (a++ [x]).length (a++ [x]).length (some (-1))=a.length:=by
  show(if (-1:Int)<0 then((-1:Int)+((a++ [x]).length:Int)).toNat else min (-1:Int).toNat (a++ [x]).length)=_
  rw[if_pos (by decide),HK,Jm]
  omega
 unfold gh;rw[e,HT.sIx_none,MI,K4,N1]
section
variable {cs ls:List T}{L:ja N2}{P:List N2}{t:N2->Int}
theorem Rd.flat (R:Rd cs ls L P):(rows cs P t).flatten=P.map λv=>(uS cs v,t v):=by
 have:=grp cs 0 P R.e.symm;unfold rows
 have e:((Ka 0 cs.length).map (row cs P t))=((Ka 0 cs.length).map λc=>P.filter (jF c)).map (List.map λv=>(uS cs v,t v)):=by
  rw[Iu];rfl
 rw[e,<-List.map_flatten,this]
theorem Rd.rne (R:Rd cs ls L P):∀r∈rows cs P t,r≠ []:=λr hr z=>by
 obtain⟨c,hc,rfl⟩:=HY.mp hr;rw[LJ]at hc
 have hcl:c<cs.length:=by omega
 obtain⟨x,y,q,e,q1,_⟩:=dC ((aT R.g.c).1 cs[c] (J9 hcl))
 have hm:T.tup [.int (c:Int),.int ((0:Nat):Int)] ∈di 0 cs:=ox (cs:=cs) (IZ _) (by omega) (by
  rw[K4,IF,Iv hcl,e]
  show 0<q.length
  omega)
 rw[R.e]at hm;obtain⟨v,hv,ev⟩:=HY.mp hm;unfold en at ev
 have:=T.tup.inj ev;simp only[Lr,T.int.injEq]at this
 have hin:v∈P.filter (jF c):=KA.mpr ⟨hv,by unfold jF;rw[this.1];simp⟩
 unfold row at z;rw[KQ.mp z]at hin;cases hin
abbrev b8 (cs:List T)(P:List N2)(t:N2->Int):List Nat:=tt 0 (rows cs P t)
theorem Rd.Hk (R:Rd cs ls L P):b8 cs P t=((Ka 0 cs.length).map λc=>bd c (row cs P t c)++ [10]).flatten:=by
 show tt 0 (rows cs P t)=_
 rw[rY];unfold rows;rw[qA,Iu]
 rfl
theorem sW {n:Nat}:∀{ps:List (List Nat)},(∀p∈ps,p.length<=n)->ps.flatten.length<=ps.length*n
 | [],_=>IZ _
 | p::ps,h=>by
  have h1:=sW λx hx=>h x (HQ _ hx)
  have h3:=h p HU;rw[Jt,HK,HR,Nu];omega
theorem Rd.Hd (R:Rd cs ls L P)(ht:∀v∈P,Sm (t v)):(b8 cs P t).length<=5000:=by
 obtain⟨_,c1,c4⟩:=aT R.g.c;rw[R.Hk]
 have:=sW (n:=1101) (ps:=(Ka 0 cs.length).map λc=>bd c (row cs P t c)++ [10]) λp hp=>by
  obtain⟨c,hc,rfl⟩:=HY.mp hp;rw[LJ]at hc
  have:=l4 R ht (c:=c) (by omega)
  rw[HK];show _+1<=_;omega
 rw[HP,J7]at this;omega
def Ok9 (i:Int):Prop:=-999999999<=i/\i<=999999999
theorem Ok9.sm {i:Int}(h:Ok9 i):Sm i:=by unfold Ok9 at h;unfold Sm;omega
theorem zL (τ:List Int):(T.tup (τ.map .int)).pl=true:=by
 rw[pl_tup];exact gb λu hu=>by obtain⟨v,_,rfl⟩:=HY.mp hu;rfl
theorem Rd.cbw (R:Rd cs ls L P)(τ:List Int):aL [(RR cs ls),.tup (τ.map .int)] = .ok (.bl (decide (τ.length=P.length)&&(τ.map T.int).all λu=>within u (-999999999) 999999999)):=by
 have ha:=R.Ha (zL τ)
 have e:jE P.length (.tup (τ.map .int))=decide (τ.length=P.length):=by
  unfold jE
  have:((τ.map T.int).all Bb)=true:=ID.mpr λu hu=>by obtain⟨v,_,rfl⟩:=HY.mp hu;rfl
  show(c8 (.tup (τ.map .int)) P.length P.length&&(τ.map T.int).all Bb)=_
  rw[this,Ov];simp only[c8,HP]
  by_cases h:τ.length=P.length
  ·simp[h]
  ·rw[decide_eq_false h]
   by_cases h2:P.length<=τ.length
   ·rw[decide_eq_true h2,decide_eq_false (by omega)];rfl
   ·rw[decide_eq_false h2];rfl
 rw[e]at ha;refine cu rfl (dA (oE (aR (aj (t:=RR cs ls) rfl (aj (t:=.tup (τ.map .int)) rfl aD)) ha) λh=> ?_))
 have hl:=of_decide_eq_true h
 have:=R.pl;refine i7 (l:=τ.map T.int) (uv rfl) (cP (by rw[HP];omega)) (by simp) λu hu=> ?_
 obtain⟨v,_,rfl⟩:=HY.mp hu;exact aR (ts:=[.int v,.int (-999999999),.int 999999999]) rfl (dm (.int v) _ _ rfl)
theorem Rd.Hh (R:Rd cs ls L P)(ht:∀v∈P,Ok9 (t v)):aL [(RR cs ls),bq P t] = .ok (.bl true):=by
 have:=R.cbw (P.map t);rw[Iu]at this
 show aL [(RR cs ls),.tup (P.map (T.int∘t))] =_
 rw[this,HP,decide_eq_true rfl,Lw]
 congr 2
 rw[ID];intro u hu;obtain⟨v,hv,rfl⟩:=HY.mp hu
 have:=ht v hv;unfold Ok9 at this;simp only[Function.comp,within,HS,decide_eq_true_eq];omega
theorem Rd.GS (R:Rd cs ls L P)(ht:∀v∈P,Ok9 (t v)):ba [(RR cs ls),bq P t] = .ok (.str (tx (b8 cs P t))):=by
 have hs:∀v∈P,Sm (t v):=λv hv=>(ht v hv).sm
 obtain⟨_,c1,c4⟩:=aT R.g.c;refine cu rfl ?_
 show gk [.va (RR cs ls),.va (bq P t),.em] =_
 unfold gk;rw[aK ((dQ (gV (k:=true) (cN (aR (aj (t:=RR cs ls) rfl (aj (t:=bq P t) rfl aD)) (R.Hh ht))))).trans rfl)];rw[aK (ρ':=[.va (RR cs ls),.va (bq P t),.va (i8 P t)]) (b6 (aR (aj (aR (aj (t:=RR cs ls) rfl aD) R.events) (aj (t:=bq P t) rfl aD)) (R.dz t)) rfl)]
 have e1:fF (iR (ae (cl cH (ae (o2 b7 (vr 0) (cn (.int 0))) ai)) ai)) [none,some 0,some 2] (gN 0) bT (cl dy (ae (vr 1) (ae (vr 0) (ae (vr 2) ai)))) [.va (RR cs ls),.va (bq P t),.va (i8 P t)] = .ok (.lst (((Ka 0 cs.length).map λc=>bd c (row cs P t c)++ [10]).map λp=>T.str (tx p))):=by
  have:=rA (fe:=cl dy (ae (vr 1) (ae (vr 0) (ae (vr 2) ai)))) (h:=λu=>match u with | .int c=>T.str (tx (bd c.toNat (row cs P t c.toNat)++ [10])) | _=> .non) (src:=[none,some 0,some 2]) (ρ:=[.va (RR cs ls),.va (bq P t),.va (i8 P t)]) (fi:=iR (ae (cl cH (ae (o2 b7 (vr 0) (cn (.int 0))) ai)) ai)) (ts:=rng 0 (cs.length:Nat)) (CZ (j:=(cs.length:Nat)) (aj (aR (aj (t:=.tup cs) rfl aD) rfl) aD) (by omega) (by omega)) (by rw[ij];exact cP (by omega)) (by decide) (λu hu=>by
   obtain⟨k,rfl,hk⟩:=kF hu
   show _=Rs.ok (T.str (tx (bd ((k:Int).toNat) (row cs P t ((k:Int).toNat))++ [10])))
   rw[IY];exact aR (aj (t:=RR cs ls) rfl (aj (t:=.int (k:Nat)) rfl (aj (t:=i8 P t) rfl aD))) (R.line hs (by omega)))
  rw[this,jt,Iu,Iu,List.range_eq_range']
  rfl
 have hl:=R.Hd hs;rw[R.Hk]at hl ⊢;refine dA (rz rfl (aj e1 aD) ?_)
 rw[show Ij "" =tx []from rfl]
 refine Fz ?_
 have:=nQ (n:=1101) (ps:=(Ka 0 cs.length).map λc=>bd c (row cs P t c)++ [10]) λp hp=>by
  obtain⟨c,hc,rfl⟩:=HY.mp hp;rw[LJ]at hc
  have:=l4 R hs (c:=c) (by omega)
  rw[HK];show _+1<=_;omega
 rw[HP,J7]at this;omega
end
theorem jV {y p:List Nat}:∀{ps:List (List Nat)},p∈ps->p.length<=(au y ps).length
 | [],h=>by cases h
 | [q],h=>by rw[Ir.mp h];exact Ia _
 | a::b::r,h=>by
  show _<=(a++(y++au y (b::r))).length
  rw[HK,HK];rcases HZ.mp h with rfl | h
  ·omega
  ·have:=jV (y:=y) h;omega
theorem tH:∀(rs:List i9) (c:Nat),((gi c rs).map (·.length)).sum<=(tt c rs).length
 | [],_=>Ia _
 | r::rs,c=>by
  have:=tH rs (c+1)
  show((bd c r::gi (c+1) rs).map (·.length)).sum<=(bd c r++(10::tt (c+1) rs)).length
  rw[HW,KP,HK,HR];omega
theorem ne_str (a b:List Nat):Tr.neT (.str (tx a)) (.str (tx b))= .ok (.bl (!decide (a=b))):=by
 unfold Tr.neT;rw[if_pos (dN (by simp[T.dep]) rfl rfl)]
 congr 3
 by_cases h:a=b
 ·subst h;rw[decide_eq_true rfl,bQ];simp
 ·rw[decide_eq_false h,bQ]
  simp only[beq_eq_false_iff_ne,decide_eq_false_iff_not,ne_eq]
  first | exact λz=>h (jM z) | (intro z;exact h (jM z))
abbrev Et:En->Rs Fl:=aJ (eE (ku (dj (tb (cl aL (ae (vr 0) (ae (vr 3) ai))))) (tb (o2 neT (cl ba (ae (vr 0) (ae (vr 3) ai))) (vr 1)))) (pJ "NoText") sN) (aM (vr 3))
section
variable {cs ls:List T}{L:ja N2}{P:List N2}
theorem Rd.parse (R:Rd cs ls L P){rs:List i9}(hne:∀r∈rs,r≠ [])(hs:∀x∈rs.flatten,Sm x.2)(hl:(tt 0 rs).length<=5000)(hr:rs.length<=16)(hf:rs.flatten.length<=64) :
  ∃p2,da [.va (RR cs ls),.va (.str (tx (tt 0 rs))),.em,.em] =Et [.va (RR cs ls),.va (.str (tx (tt 0 rs))),p2,.va (.tup ((rs.flatten.map (·.2)).map .int))]:=by
 have hpl:(gO 0 rs).length=rs.flatten.length:=by
  have:=congrArg JZ (jv rs 0)
  rwa [HP,HP]at this
 have hfree:=pP rs 0
 have hI:(au cm ((gO 0 rs).map pw++ [[]])).length<=6000:=by
  rw[<-rL rs 0 hne]
  have h1:=d6 cm (gi 0 rs++ [[]])
  have h2:=tH rs 0;rw[JH,List.sum_append,HK,oV]at h1;simp only[HW,Mu,KP,List.sum_nil,IK,HR,HK]at h1;omega
 have e0:o1 (eQ "\n" ", ") (vr 1) [.va (RR cs ls),.va (.str (tx (tt 0 rs))),.em,.em] = .ok (.str (tx (au cm ((gO 0 rs).map pw++ [[]])))):=by
  refine xf (t:=.str (tx (tt 0 rs))) rfl ?_
  rw[<-rL rs 0 hne,jm];rw[jm]at hl;exact Em (z:=cm) (by simp) (l0 rs 0) (by omega)
 have e1:oS gL (o1 (eQ "\n" ", ") (vr 1)) (ae (cn (.str ", ")) ai) [.va (RR cs ls),.va (.str (tx (tt 0 rs))),.em,.em] = .ok (.lst ((((gO 0 rs).map pw).map λp=>T.str (tx p))++ [.str (tx [])])):=by
  refine(rz e0 (aj (t:=.str (tx cm)) rfl aD) (BI (u:=[]) (c:=44) (v:=[32]) (by simp) (by decide+kernel) (by simp) (λp hp=> ?_) (show(au cm ((gO 0 rs).map pw++ [[]])).length<=100000 by omega) (by rw[HK,HP,hpl,Jm];omega))).trans ?_
  ·rcases HV.mp hp with hp | hp
   ·obtain⟨q,hq,rfl⟩:=HY.mp hp
    exact(y4 (hfree q hq)).1
   ·rw[Ir.mp hp];simp
  ·rw[JH];rfl
 have e2:sl (oS gL (o1 (eQ "\n" ", ") (vr 1)) (ae (cn (.str ", ")) ai)) pN (pS (o1 gE (cn (.int 1)))) [.va (RR cs ls),.va (.str (tx (tt 0 rs))),.em,.em] = .ok (.lst (((gO 0 rs).map pw).map λp=>T.str (tx p))):=by
  rw[A6 (lo:=none) (hi:=some (-1)) e1 rfl rfl,xO]
 generalize hL:((gO 0 rs).map pw).map (λp=>T.str (tx p))=L2 at e2
 refine⟨.va (.lst L2),?_⟩
 unfold da;rw[aK (xh (t:=.non) (aR (aj (t:=RR cs ls) rfl aD) (jA R.g.p R.g.ok)))];rw[aK ((dQ (gV (k:=true) (cN (xf (t:=.str (tx (tt 0 rs))) rfl rfl)))).trans rfl)];rw[aK (ρ':=[.va (RR cs ls),.va (.str (tx (tt 0 rs))),.va (.lst L2),.em]) (b6 e2 rfl)]
 have e3:fF (iS (vr 2)) [none] (gN 0) bT (cl bB (ae (o2 b7 (oS fQ (vr 0) (ae (cn (.str " at ")) ai)) (cn (.int 2))) ai)) [.va (RR cs ls),.va (.str (tx (tt 0 rs))),.va (.lst L2),.em] = .ok (.lst ((rs.flatten.map (·.2)).map .int)):=by
  have key:∀q∈gO 0 rs,fQ [.str (tx (pw q)),.str (tx l5)] = .ok (.tup [.str (tx q.1),.str (tx l5),.str (tx (dg q.2))])/\bB [.str (tx (dg q.2))] = .ok (.int q.2):=λq hq=>by
   have hlen:=jV (y:=cm) (ps:=(gO 0 rs).map pw++ [[]]) (p:=pw q) (Iw _ (HY.mpr ⟨q,hq,rfl⟩));refine⟨EW (u:=[32]) (c:=97) (v:=[116,32]) (a:=q.1) (b:=dg q.2) (by simp) (λz=>(hfree q hq 97 z).1 rfl) (show(pw q).length<=100000 by omega),Be (numZ ?_)⟩
   have:q.2∈rs.flatten.map (·.2):=by rw[<-jv rs 0];exact HY.mpr ⟨q,hq,rfl⟩
   obtain⟨x,hx,e⟩:=HY.mp this;rw[<-e];exact hs x hx
  have:=rA (fe:=cl bB (ae (o2 b7 (oS fQ (vr 0) (ae (cn (.str " at ")) ai)) (cn (.int 2))) ai)) (h:=λu=>match fQ [u,.str (tx l5)]with | .ok (.tup [_,_,w])=>(match bB [w]with | .ok x=>x | _=> .non) | _=> .non) (src:=[none]) (ρ:=[.va (RR cs ls),.va (.str (tx (tt 0 rs))),.va (.lst L2),.em]) (fi:=iS (vr 2)) (ts:=L2) rfl (by rw[<-hL,HP,HP,hpl];exact cP (by omega)) (by decide) (λu hu=>by
   rw[<-hL,Iu]at hu;obtain⟨q,hq,rfl⟩:=HY.mp hu;obtain⟨k1,k2⟩:=key q hq
   show _=Rs.ok (match fQ [.str (tx (pw q)),.str (tx l5)]with | .ok (.tup [_,_,w])=>(match bB [w]with | .ok x=>x | _=> .non) | _=> .non)
   rw[k1]
   dsimp only
   rw[k2];exact aR (aj (zG (n:=2) (rz (s:=tx (pw q)) rfl (aj (t:=.str (tx l5)) rfl aD) k1) rfl rfl) aD) k2)
  rw[this,<-jv rs 0,<-hL,Iu,Iu,Iu]
  congr 2
  refine JK λq hq=> ?_
  obtain⟨k1,k2⟩:=key q hq
  show(match fQ [.str (tx (pw q)),.str (tx l5)]with | .ok (.tup [_,_,w])=>(match bB [w]with | .ok x=>x | _=> .non) | _=> .non)=T.int q.2
  rw[k1]
  dsimp only
  rw[k2]
 rw[aK (ρ':=[.va (RR cs ls),.va (.str (tx (tt 0 rs))),.va (.lst L2),.va (.tup ((rs.flatten.map (·.2)).map .int))]) (b6 (aR (x:=.ok (.tup ((rs.flatten.map (·.2)).map .int))) (aj e3 aD) (by first | rfl | (show fg _=_;unfold fg;rw[if_pos (cP (by rw[HP,HP];omega))]))) rfl)]
variable {cs0 ls0:List T}{L0:ja N2}{P0:List N2}{t:N2->Int}
theorem Rd.Hy (R:Rd cs ls L P)(R0:Rd cs0 ls0 L0 P0)(ht:∀v∈P,Ok9 (t v)) :
  ∃p2,da [.va (.tup [.tup cs0,.tup ls0]),.va (.str (tx (b8 cs P t))),.em,.em] =Et [.va (.tup [.tup cs0,.tup ls0]),.va (.str (tx (b8 cs P t))),p2,.va (bq P t)]:=by
 obtain⟨_,c1,c4⟩:=aT R.g.c
 have hp:=R.pl
 have hs:∀v∈P,Sm (t v):=λv hv=>(ht v hv).sm
 obtain⟨p2,e⟩:=R0.parse (rs:=rows cs P t) R.rne (λx hx=>by rw[R.flat]at hx;obtain⟨v,hv,rfl⟩:=HY.mp hx;exact hs v hv) (R.Hd hs) (by unfold rows;rw[HP,J7];omega) (by rw[R.flat,HP];omega)
 refine⟨p2,?_⟩
 rw[R.flat,Iu,Iu]at e;exact e
theorem Rd.back (R:Rd cs ls L P)(R0:Rd cs ls0 L0 P)(ht:∀v∈P,Ok9 (t v)):aX [.tup [.tup cs,.tup ls0],.str (tx (b8 cs P t))] = .ok (bq P t):=by
 obtain⟨p2,e⟩:=R.Hy R0 ht;refine cu rfl (M5 e ?_)
 unfold Et;rw[aK ((dQ (qd (gV (k:=true) (cN (aR (aj (t:=.tup [.tup cs,.tup ls0]) rfl (aj (t:=bq P t) rfl aD)) (R0.Hh ht)))) (cN (aN (aR (aj (t:=.tup [.tup cs,.tup ls0]) rfl (aj (t:=bq P t) rfl aD)) (R0.GS ht)) rfl ((ne_str _ _).trans (by rw[decide_eq_true rfl];rfl)))))).trans rfl)]
 exact dA rfl
end
abbrev dtF:En->Rs Fl:=(aJ (c6 (o2 b7 (g7 (ae (cn (.int 1)) (ae (cn (.int 1)) (ae (cn (.int 1)) (ae (cn (.int 24999)) ai))))) (cl aw (ae (vr 0) (ae (o2 aB (o2 aB (vr 1) (vr 5)) (cn (.int 20))) (ae (cn (.int 4)) ai))))) (gN 6)) (c6 (o2 aB (vr 4) (bt (ae (o2 kr (o2 cj (cl aw (ae (vr 0) (ae (o2 aB (vr 1) (vr 5)) (ae (cn (.int 41)) ai)))) (vr 6)) (cn (.int 20))) ai))) (gN 4)))
theorem z8 (ns:List Int)(hn:ns.length<=63)(a:Nat)(r e:T)(k:Nat)(fs:List T)(hf:fs.length<=100)(s6:Sl):∃(x:Int) (u:Sl),dtF [.va (.scr ns),.va (.int (a:Nat)),.va r,.va e,.va (.tup (fs)),.va (.int (k:Nat)),s6] = .ok (.nx [.va (.scr ns),.va (.int (a:Nat)),.va r,.va e,.va (.tup (fs++ [.int x])),.va (.int (k:Nat)),u])/\Ok9 x:=by
 obtain⟨d1,e1,p1,q1⟩:=bW ns (a+k+20) 4 hn (by omega)
 obtain⟨d2,e2,p2,q2⟩:=bW ns (a+k) 41 hn (by omega)
 obtain⟨y,ey,hy⟩:∃y:Int,b7 (.lst [.int 1,.int 1,.int 1,.int 24999]) (.int d1)= .ok (.int y)/\(y=1\/y=24999):=by
  have:d1=0\/d1=1\/d1=2\/d1=3:=by omega
  rcases this with rfl | rfl | rfl | rfl
  ·exact⟨_,rfl,.inl rfl⟩
  ·exact⟨_,rfl,.inl rfl⟩
  ·exact⟨_,rfl,.inl rfl⟩
  ·exact⟨_,rfl,.inr rfl⟩
 refine⟨d2*y - 20,.va (.int y),?_,?_⟩
 ·unfold dtF
  rw[aK (ρ':=[.va (.scr ns),.va (.int (a:Nat)),.va r,.va e,.va (.tup (fs)),.va (.int (k:Nat)),.va (.int y)]) (b6 (aN (lI (aj (t:=.int 1) rfl (aj (t:=.int 1) rfl (aj (t:=.int 1) rfl (aj (t:=.int 24999) rfl aD)))) (cP (by simp))) (bU (k:=a+k+20) e1 rfl rfl rfl) ey) rfl)]
  exact b6 (aN (t:=.tup fs) (u:=.tup [.int (d2*y - 20)]) rfl (ck (aj (aN (t:=.int (d2*y)) (u:=.int 20) (aN (t:=.int d2) (u:=.int y) (bU (k:=a+k) e2 rfl rfl rfl) rfl (kf (by omega) (by omega))) rfl rfl) aD) (cP (by simp))) (gj _ _ (by simp;omega))) rfl
 ·unfold Ok9
  rcases hy with rfl | rfl <;> omega
theorem tf (ns:List Int)(hn:ns.length<=63)(a:Nat)(r e:T):∀(js:List Nat) (xs:List Int) (s5 s6:Sl),xs.length+js.length<=100->(∀x∈xs,Ok9 x)->∃(ys:List Int) (t5 t6:Sl),bo (gN 5) dtF (js.map λ(j:Nat)=>T.int j) [.va (.scr ns),.va (.int (a:Nat)),.va r,.va e,.va (.tup (xs.map .int)),s5,s6] = .ok (.nx [.va (.scr ns),.va (.int (a:Nat)),.va r,.va e,.va (.tup (ys.map .int)),t5,t6])/\(∀x∈ys,Ok9 x)/\ys.length=xs.length+js.length
 | [],xs,s5,s6,_,h=>⟨xs,s5,s6,rfl,h,rfl⟩
 | j::js,xs,s5,s6,hl,h=>by
  rw[HR]at hl;obtain⟨x,u,e1,hx⟩:=z8 ns hn a r e j (xs.map .int) (by rw[HP];omega) s6
  obtain⟨ys,t5,t6,e2,h2,n2⟩:=tf ns hn a r e js (xs++ [x]) (.va (.int (j:Nat))) u (by rw[HK];show _+1+_<=_;omega) (λy hy=>(HV.mp hy).elim (h y) λz=>by rw[Ir]at z;exact z▸hx)
  refine⟨ys,t5,t6,?_,h2,by simp only[n2,HK,HR,IK];omega⟩
  rw[HW,fk (ρ1:=[.va (.scr ns),.va (.int (a:Nat)),.va r,.va e,.va (.tup (xs.map .int)),.va (.int (j:Nat)),s6]) rfl e1];rw[JH]at e2;exact e2
theorem Rd.He {cs ls:List T}{L:ja N2}{P:List N2}(R:Rd cs ls L P)(ns:List Int)(hn:ns.length<=63)(a:Nat):∃t:N2->Int,dM [.scr ns,.int (a:Nat),RR cs ls] = .ok (bq P t)/\∀v∈P,Ok9 (t v):=by
 have hp:=R.pl;obtain⟨ys,t5,t6,e,h,n⟩:=tf ns hn a (RR cs ls) (eS P) (Js P.length) [] .em .em (by simp;omega) (λx h=>by cases h)
 rw[Ke,IK,Lk]at n;obtain⟨t,ht⟩:=qh R.nd n;refine⟨t,?_,λv hv=>h _ (by rw[<-ht];exact HY.mpr ⟨v,hv,rfl⟩)⟩
 refine cu rfl ?_
 show gw [.va (.scr ns),.va (.int (a:Nat)),.va (RR cs ls),.em,.em,.em,.em] =_
 unfold gw;rw[aK (ρ':=[.va (.scr ns),.va (.int (a:Nat)),.va (RR cs ls),.va (eS P),.em,.em,.em]) (b6 (aR (aj (t:=.tup cs) rfl aD) ((lN cs R.g.c).trans (by rw[R.e];rfl))) rfl)]
 rw[aK (ρ':=[.va (.scr ns),.va (.int (a:Nat)),.va (RR cs ls),.va (eS P),.va (.tup []),.em,.em]) (b6 (ck (ts:=[]) rfl (cP (by simp))) rfl)]
 rw[aK (iJ (CZ (j:=(P.length:Nat)) (aj (aR (aj (t:=eS P) rfl aD) (by show Rs.ok (T.int ((P.map en).length:Nat))=_;rw[HP])) aD) (by omega) (by omega)) (by rw[jt];exact e))]
 refine(dA rfl).trans ?_
 rw[<-ht,Iu]
 rfl
def Tm (s:Str)(n:Nat):Prop:=s.length<=n/\∀c∈s.cps.toList,c<1114112
theorem nj {y p:List Nat}{n:Nat}:∀{ps:List (List Nat)},p∈ps->n∈p->n∈au y ps
 | [],h,_=>by cases h
 | [q],h,hn=>by rw[Ir.mp h]at hn;exact hn
 | a::b::r,h,hn=>by
  show n∈a++(y++au y (b::r))
  rcases HZ.mp h with rfl | h
  ·exact Iw _ hn
  ·exact H0 _ (H0 _ (nj h hn))
theorem kH (x:Str):x.cps.toList.length=x.length:=Kf
theorem vO {x y:Str}{n:Nat}(h:Tm x n){p:Str}(hp:p∈Jf x y):Tm p n:=by
 have e:=join_split x y;rw[<-kW (Jf x y),<-kU y,fU]at e
 have hm:p.cps.toList∈(Jf x (tx y.cps.toList)).map λz=>z.cps.toList:=by rw[kU];exact HY.mpr ⟨p,hp,rfl⟩
 have ex:au y.cps.toList ((Jf x (tx y.cps.toList)).map λz=>z.cps.toList)=x.cps.toList:=by rw[<-e,cM,e]
 refine⟨?_,λc hc=>h.2 c ?_⟩
 ·have:=jV (y:=y.cps.toList) hm
  rw[ex,kH,kH]at this;exact IA this h.1
 ·rw[<-ex];exact nj hm hc
theorem mV (x y:Str)(hw:1<=y.length):(Jf x y).length<=x.length+2:=by
 unfold Jf;split
 ·simp
 ·split
  ·simp
  ·rw[partsBetween_eq]
   have pf:∀(cuts:List Nat) (a:Nat),(partsFrom x y.length a cuts).length=cuts.length+1:=by
    intro cuts
    induction cuts with
    | nil=>intro a;rfl
    | cons c r ih=>intro a;show(partsFrom x y.length (c+y.length) r).length+1=_;rw[ih];rfl
   rw[pf]
   have:=occ_length_le x y 0 x.length (x.length+1);omega
theorem zk {x y:Str}{n:Nat}(h:Tm x n):Tm (Jg x y).2.2 n:=by
 unfold Jg;split
 ·refine⟨?_,λc hc=>h.2 c ?_⟩
  ·dsimp only
   rw[<-kH,strSub_toList,JI,Jh,kH]
   have:=h.1;omega
  ·dsimp only at hc
   rw[strSub_toList]at hc;exact Ky (La hc)
 ·exact⟨IZ _,λc hc=>by cases hc⟩
theorem zx {x:Str}(h:Tm x 640):ub (.str x)= .ok (iV x):=by
 show(if x.length<=640/\x.cps.all (· <1114112)=true then Rs.ok (iV x)else .bad)=_
 rw[if_pos ⟨h.1,by rw[Kw];intro c hc;simpa using h.2 c (by simpa using hc)⟩]
theorem zw (x:Str):iV x= .non\/∃i:Int,iV x= .int i:=by
 unfold iV;split
 ·exact .inr ⟨_,rfl⟩
 ·exact .inl rfl
theorem jU:∀ps:List (List Nat),ps≠ []->(∀p∈ps,10∉p)->(bV 10 ps).count 10+1=ps.length/\(bV 10 ps).length+1=(ps.map (·.length)).sum+ps.length
 | [],h,_=>absurd rfl h
 | [p],_,hf=>by
  refine⟨?_,by simp[bV]⟩
  show p.count 10+1=1
  rw[Oy.mpr (hf p HU)]
 | p::q::r,_,hf=>by
  obtain⟨h1,h2⟩:=jU (q::r) (by simp) λx hx=>hf x (HQ _ hx)
  have hp:=Oy.mpr (hf p HU);refine⟨?_,?_⟩
  ·show(p++10::bV 10 (q::r)).count 10+1=_
   rw[Jj,hp,List.count_cons_self,HR];omega
  ·show(p++10::bV 10 (q::r)).length+1=_
   rw[HK,HR,HW,KP,HR];omega
theorem yI {s:Str}(h:Tm s 600)(hn:s.cps.toList.count 10<=30):∃r,eQ (tx [10]) (tx cm) (.str s)= .ok (.str r)/\Tm r 640:=by
 have e:=join_split s (tx [10])
 have f:=split_free s 10
 have n:=pF s (tx [10])
 have hps:s=tx (bV 10 ((Jf s (tx [10])).map λz=>z.cps.toList)):=by
  rw[<-oF,kW];exact e.symm
 have hr:=replace_one s (tx cm) 10;rw[show(⟨#[10]⟩:Str)=tx [10]from rfl]at hr f
 generalize hP:(Jf s (tx [10])).map (λz=>z.cps.toList)=ps at hps
 have hr2:M9 s (tx [10]) (tx cm)=tx (au cm ps):=by rw[hr,<-fU,<-hP,kW]
 have hne:ps≠ []:=by rw[<-hP];intro z;exact n (KQ.mp z)
 have hf:∀p∈ps,10∉p:=λp hp=>by
  rw[<-hP]at hp;obtain⟨z,hz,rfl⟩:=HY.mp hp;exact f z hz
 obtain⟨c1,c2⟩:=jU ps hne hf
 have hl:=h.1;rw[hps,cM]at hn;rw[hps,a6]at hl;refine⟨tx (au cm ps),?_,?_,λc hc=> ?_⟩
 ·show(if s.length<=1048576 then Rs.ok (T.str (M9 s (tx [10]) (tx cm)))else .bad)=_
  rw[if_pos (IA h.1 (by decide)),hr2]
 ·rw[a6]
  have key:∀qs:List (List Nat),qs≠ []->(au cm qs).length+2=(qs.map (·.length)).sum+2*qs.length:=by
   intro qs
   induction qs with
   | nil=>intro z;exact absurd rfl z
   | cons a qs ih=>
    intro _
    cases qs with
    | nil=>show a.length+2=a.length+0+2*1;omega
    | cons b qs=>
     have:=ih (by simp)
     show(a++(cm++au cm (b::qs))).length+2=_
     rw[HK,HK,HW,KP,HR]
     show a.length+(2+_)+2=_
     omega
  have:=key ps hne;omega
 ·rw[cM]at hc
  rcases fm hc with hc | ⟨p,hp,hc⟩
  ·simp at hc;omega
  ·refine h.2 c ?_
   rw[hps,cM]
   have:∀qs:List (List Nat),p∈qs->c∈bV 10 qs:=by
    intro qs
    induction qs with
    | nil=>intro z;cases z
    | cons a qs ih=>
     intro hq
     cases qs with
     | nil=>rw[Ir.mp hq]at hc;exact hc
     | cons b qs=>
      show c∈a++10::bV 10 (b::qs)
      rcases HZ.mp hq with rfl | hq
      ·exact Iw _ hc
      ·exact H0 _ (HQ _ (ih hq))
   exact this ps hp
def wM (u:T):Prop:=u= .non\/∃i:Int,u= .int i
section
variable {cs ls:List T}{L:ja N2}{P:List N2}
theorem zv {us:List T}(h:∀u∈us,wM u):(T.tup us).pl=true:=by
 rw[pl_tup];exact gb λu hu=>by rcases h u hu with rfl | ⟨i,rfl⟩ <;> rfl
theorem Rd.HD (R:Rd cs ls L P){us:List T}(h:∀u∈us,wM u):aL [(.tup [.tup cs,.tup ls]),.tup us] = .ok (.bl (jE P.length (.tup us)&&us.all λu=>within u (-999999999) 999999999)):=by
 have ha:=R.Ha (zv h);refine cu rfl (dA (oE (aR (aj (t:=.tup [.tup cs,.tup ls]) rfl (aj (t:=.tup us) rfl aD)) ha) λhb=> ?_))
 have hp:=R.pl
 have hl:us.length<=16:=by
  unfold jE at hb;rw[HS]at hb
  have:=hb.1;simp only[c8,HS,decide_eq_true_eq]at this;omega
 refine i7 (l:=us) (uv rfl) (cP (by omega)) (by simp) λu hu=> ?_
 rcases h u hu with rfl | ⟨v,rfl⟩
 ·exact aR (ts:=[.non,.int (-999999999),.int 999999999]) rfl (dm .non _ _ rfl)
 ·exact aR (ts:=[.int v,.int (-999999999),.int 999999999]) rfl (dm (.int v) _ _ rfl)
theorem Rd.readAny (R:Rd cs ls L P){s:Str}(h:Tm s 600)(hn:s.cps.toList.count 10<=30) :
  aX [.tup [.tup cs,.tup ls],.str s] = .err "NoText"\/∃t:N2->Int,(∀v∈P,Ok9 (t v))/\s=tx (b8 cs P t)/\aX [.tup [.tup cs,.tup ls],.str s] = .ok (bq P t):=by
 obtain⟨r,er,tr⟩:=yI h hn
 have e1:oS gL (o1 (eQ "\n" ", ") (vr 1)) (ae (cn (.str ", ")) ai) [.va (.tup [.tup cs,.tup ls]),.va (.str s),.em,.em] = .ok (.lst ((Jf r (tx cm)).map .str)):=by
  refine rz (s:=r) (xf (t:=.str s) rfl er) (aj (t:=.str (tx cm)) rfl aD) ?_
  show(if (tx cm).length≠0/\r.length<=1000000/\(Jf r (tx cm)).length<=1000000 then Rs.ok (T.lst ((Jf r (tx cm)).map .str))else .bad)=_
  have h1:=mV r (tx cm) (by rw[a6];decide)
  have h2:=tr.1;rw[if_pos ⟨by rw[a6];decide,by omega,by omega⟩]
 have e2:=A6 (lo:=none) (hi:=some (-1)) (fl:=pN) (fu:=pS (o1 gE (cn (.int 1)))) e1 rfl rfl
 have hmem:∀u∈gh ((Jf r (tx cm)).map T.str) none (some (-1)),∃q:Str,u= .str q/\Tm q 640:=λu hu=>by
  unfold gh at hu;obtain⟨q,hq,rfl⟩:=HY.mp (Ky (La hu));exact⟨q,rfl,vO tr hq⟩
 have hlen:(gh ((Jf r (tx cm)).map T.str) none (some (-1))).length<=1000:=by
  unfold gh
  have h1:=mV r (tx cm) (by rw[a6];decide)
  have h2:=tr.1;rw[JI,Jh,HP];omega
 generalize hL:gh ((Jf r (tx cm)).map T.str) none (some (-1))=L2 at e2 hmem hlen
 have e3:=rA (fe:=Tr.cl bB (ae (o2 b7 (oS fQ (vr 0) (ae (cn (.str " at ")) ai)) (cn (.int 2))) ai)) (h:=λu=>match u with | .str q=>iV (Jg q (tx l5)).2.2 | _=> .non) (src:=[none]) (ρ:=[.va (.tup [.tup cs,.tup ls]),.va (.str s),.va (.lst L2),.em]) (fi:=iS (vr 2)) (ts:=L2) rfl (cP (by omega)) (by decide) (λu hu=>by
  obtain⟨q,rfl,tq⟩:=hmem u hu
  have ep:fQ [.str q,.str (tx l5)] = .ok (.tup [.str (Jg q (tx l5)).1,.str (Jg q (tx l5)).2.1,.str (Jg q (tx l5)).2.2]):=by
   show(if (tx l5).length≠0/\q.length<=1000000 then _ else _)=_
   have:=tq.1;rw[if_pos ⟨by rw[a6];decide,by omega⟩]
  exact aR (aj (zG (n:=2) (rz (s:=q) rfl (aj (t:=.str (tx l5)) rfl aD) ep) rfl rfl) aD) (Be (zx (zk tq))))
 generalize hU:L2.map (λu=>match u with | .str q=>iV (Jg q (tx l5)).2.2 | _=> .non)=us at e3
 have hus:∀u∈us,wM u:=λu hu=>by
  rw[<-hU]at hu;obtain⟨w,hw,rfl⟩:=HY.mp hu;obtain⟨q,rfl,_⟩:=hmem w hw;exact zw _
 have hul:us.length<=1000:=by rw[<-hU,HP];exact hlen
 have step:da [.va (.tup [.tup cs,.tup ls]),.va (.str s),.em,.em] =Et [.va (.tup [.tup cs,.tup ls]),.va (.str s),.va (.lst L2),.va (.tup us)]:=by
  unfold da;rw[aK (xh (t:=.non) (aR (aj (t:=.tup [.tup cs,.tup ls]) rfl aD) (jA R.g.p R.g.ok)))];rw[aK ((dQ (gV (k:=true) (cN (xf (t:=.str s) rfl rfl)))).trans rfl)];rw[aK (ρ':=[.va (.tup [.tup cs,.tup ls]),.va (.str s),.va (.lst L2),.em]) (b6 e2 rfl)];rw[aK (ρ':=[.va (.tup [.tup cs,.tup ls]),.va (.str s),.va (.lst L2),.va (.tup us)]) (b6 (aR (x:=.ok (.tup us)) (aj e3 aD) (by first | rfl | (show fg us=_;unfold fg;rw[if_pos (cP (by omega))]))) rfl)]
 have hc:=R.HD hus
 cases hb:(jE P.length (.tup us)&&us.all λu=>within u (-999999999) 999999999)with
 | false=>
  rw[hb]at hc;refine .inl (fG rfl (M5 step ?_))
  exact gU ((kj (A7 (gV (k:=false) (cN (aR (aj (t:=.tup [.tup cs,.tup ls]) rfl (aj (t:=.tup us) rfl aD)) hc))))).trans rfl)
 | true=>
  rw[hb]at hc;rw[HS]at hb
  have hlen:us.length=P.length:=by
   have:=hb.1;unfold jE at this;rw[HS]at this
   have:=this.1;simp only[c8,HS,decide_eq_true_eq]at this;omega
  obtain⟨τ,hτ,hk⟩:=jC (f:=T.int) (p:=Ok9) (l:=us) λu hu=>by
   have hw:=ID.mp hb.2 u hu;obtain⟨i,rfl,h1,h2⟩:=cT hw;exact⟨i,rfl,h1,h2⟩
  obtain⟨t,ht⟩:=qh R.nd (τ:=τ) (by rw[<-hlen,hτ,HP])
  have hok:∀v∈P,Ok9 (t v):=λv hv=>hk _ (by rw[<-ht];exact HY.mpr ⟨v,hv,rfl⟩)
  have eu:T.tup us=bq P t:=by rw[hτ,<-ht,Iu];rfl
  rw[eu]at step hc
  have et:=R.GS hok
  by_cases q:s=tx (b8 cs P t)
  ·refine .inr ⟨t,hok,q,?_⟩
   rw[q];exact R.back R hok
  ·refine .inl (fG rfl (M5 step ?_))
   refine gU ((kj (qd (gV (k:=true) (cN (aR (aj (t:=.tup [.tup cs,.tup ls]) rfl (aj (t:=bq P t) rfl aD)) hc))) (cN (aN (aR (aj (t:=.tup [.tup cs,.tup ls]) rfl (aj (t:=bq P t) rfl aD)) et) (u:=.str s) rfl ?_)))).trans rfl)
   have es:s=tx s.cps.toList:=(kU s).symm;rw[es,ne_str,decide_eq_false (λz=>q (by rw[z,kU]))]
   rfl
end
theorem fil:∀(cs:List T) (i:Nat) (Q:List N2),Q.map en=di i cs->∀c:Nat,i<=c->c<i+cs.length->(Q.filter (jF c)).map en=fW c (qU (cs.getD (c - i) .non))
 | [],i,Q,_,c,h1,h2=>by simp at h2;omega
 | a::r,i,Q,h,c,h1,h2=>by
  obtain⟨Q1,Q2,rfl,e1,e2⟩:=Nn.mp (show Q.map en=fW i (qU a)++di (i+1) r from h)
  have a1:∀v∈Q1,v.c=(i:Int):=λv hv=>by
   have:en v∈fW i (qU a):=by rw[<-e1];exact HY.mpr ⟨v,hv,rfl⟩
   obtain⟨u,hu,e⟩:=HY.mp this;unfold en at e
   have:=T.tup.inj e;simp only[Lr,T.int.injEq]at this;exact this.1.symm
  have a2:∀v∈Q2,(i:Int)+1<=v.c:=λv hv=>by
   have:en v∈di (i+1) r:=by rw[<-e2];exact HY.mpr ⟨v,hv,rfl⟩
   obtain⟨b,k,e,h3,_⟩:=fx r (i+1) this;unfold en at e
   have:=T.tup.inj e;simp only[Lr,T.int.injEq]at this;omega
  by_cases hc:c=i
  ·subst hc
   have f1:(Q1++Q2).filter (jF c)=Q1:=by
    rw[Lx,Mj.mpr λv hv=>by unfold jF;rw[a1 v hv];simp,KY.mpr λv hv z=> ?_,Jc]
    have:=a2 v hv;unfold jF at z
    have:=eq_of_beq z;omega
   rw[f1,e1,My]
   rfl
  ·have f2:(Q1++Q2).filter (jF c)=Q2.filter (jF c):=by
    rw[Lx,KY.mpr λv hv z=> ?_,Kh]
    have:=a1 v hv;unfold jF at z
    have:=eq_of_beq z;omega
   rw[HR]at h2;rw[f2,fil r (i+1) Q2 e2 c (by omega) (by omega)]
   congr 2
   rw[show c - i=(c - (i+1))+1 by omega]
   rfl
theorem zW (c n:Nat):fW c n=((Js n).map λ(k:Nat)=>(⟨(c:Int),(k:Int)⟩:N2)).map en:=by
 unfold fW;rw[jt,Iu,Iu]
 rfl
section
variable {cs ls:List T}{L:ja N2}{P:List N2}{t:N2->Int}
theorem Rd.fil (R:Rd cs ls L P){c:Nat}(hc:c<cs.length):P.filter (jF c)=(Js (qU (cs.getD c .non))).map λ(k:Nat)=>(⟨(c:Int),(k:Int)⟩:N2):=by
 have:=G.fil cs 0 P R.e.symm c (IZ _) (by omega)
 rw[K4,zW]at this;exact(List.map_inj_right λa b h=>xF h).mp this
theorem Rd.GX (R:Rd cs ls L P){c:Nat}{x y:Int}{r:List Int}(hc:cs[c]? =some (.tup [.int x,.int y,.tup (r.map .int)])):row cs P t c=(Js r.length).map λ(k:Nat)=>(r.getD k 0,t ⟨(c:Int),(k:Int)⟩):=by
 have hlt:=(Ii.mp hc).1
 unfold row;rw[R.fil hlt,IF,hc,Iu]
 show(Js (r.map T.int).length).map _=_
 rw[HP];refine JK λk hk=> ?_
 have hk:=JN.mp hk
 show(uS cs ⟨(c:Int),(k:Int)⟩,t ⟨(c:Int),(k:Int)⟩)=_
 have:uS cs ⟨(c:Int),(k:Int)⟩=r.getD k 0:=by
  unfold uS
  have e3:Es cs (en ⟨(c:Int),(k:Int)⟩)= .int (r.getD k 0):=by
   show(match cs.getD ((c:Int).toNat) .non with
    | .tup [_,_,.tup r] =>r.getD ((k:Int).toNat) .non
    | _=> .non)=_
   rw[IY,IY,IF,hc]
   show(r.map T.int).getD k .non=_
   rw[IF,iu hk]
   rfl
  rw[e3]
 rw[this]
end
theorem qk (r:List Int):de 0 (r.map .int)=(Js r.length).map λ(k:Nat)=>T.tup [.int (k:Nat),.int (r.getD k 0)]:=by
 apply List.ext_getElem?
 intro i;rw[jX]
 by_cases h:i<r.length
 ·rw[iu h,IQ,N7 h]
  simp
 ·rw[Kp (by simp;omega),Kp (by simp;omega)];rfl
section
variable {cs ls:List T}{L:ja N2}{P:List N2}{t:N2->Int}
theorem Rd.words (R:Rd cs ls L P)(ht:∀v∈P,Sm (t v)){c:Nat}{x y:Int}{r:List Int}(hc:cs[c]? =some (.tup [.int x,.int y,.tup (r.map .int)]))(s3 s5 s6 s8:Sl) :
  fF (iE (ae (vr 7) ai)) [none,none,some 2,some 4] (gT 2 (kB (gN 0) (kB (gN 1) uB))) bT (o2 aB (o2 aB (cl fZ (ae (vr 1) ai)) (cn (.str " at "))) (cl fZ (ae (o2 mH (vr 2) (bt (ae (vr 3) (ae (vr 0) ai)))) ai))) [.va (.tup [.tup cs,.tup ls]),.va (bq P t),.va (i8 P t),s3,.va (.int (c:Nat)),s5,s6,.va (.tup (r.map .int)),s8] = .ok (.lst (((row cs P t c).map wd).map λp=>T.str (tx p))):=by
 have hlt:=(Ii.mp hc).1
 have hlen:r.length<=16:=by
  have:=sf (t:=t) R c;rw[R.GX hc,HP,Ke]at this;exact this
 unfold fF;rw[Fs (l:=r.map .int) (aj (t:=.tup (r.map .int)) rfl aD),aC,if_pos (cP (by rw[ql,HP];omega))]
 rw[show cq [none,none,some 2,some 4] [.va (.tup [.tup cs,.tup ls]),.va (bq P t),.va (i8 P t),s3,.va (.int (c:Nat)),s5,s6,.va (.tup (r.map .int)),s8] = [.em,.em,.va (i8 P t),.va (.int (c:Nat))]from rfl]
 rw[lF (p:=λ_=>true) (h:=λu=>match u with | .tup [.int k,.int q] =>T.str (tx (wd (q,t ⟨(c:Int),k⟩))) | _=> .non) (λρ=> ∃a b,ρ= [a,b,.va (i8 P t),.va (.int (c:Nat))]) _ _ ⟨_,_,rfl⟩ λu hu ρ hh_=>by
  obtain⟨a,b,e⟩:=hh_;subst e;rw[qk]at hu;obtain⟨k,hk,rfl⟩:=HY.mp hu
  have hk:=JN.mp hk
  have hv:(⟨(c:Int),(k:Int)⟩:N2)∈P:=by
   have:(⟨(c:Int),(k:Int)⟩:N2)∈P.filter (jF c):=by
    rw[R.fil hlt,IF,hc]
    exact HY.mpr ⟨k,JN.mpr (by show k<(r.map T.int).length;rw[HP];exact hk),rfl⟩
   exact(KA.mp this).1
  have hsm:Sm (r.getD k 0):=by
   have:=qR (t:=t) R ht c (r.getD k 0,t ⟨(c:Int),(k:Int)⟩) (by rw[R.GX hc];exact HY.mpr ⟨k,JN.mpr hk,rfl⟩)
   exact this.1
  have l1:=gD hsm
  have l2:=gD (ht _ hv);refine⟨[.va (.int (k:Nat)),.va (.int (r.getD k 0)),.va (i8 P t),.va (.int (c:Nat))],rfl,⟨_,_,rfl⟩,rfl,?_⟩
  refine(cW (cW (jT (i:=r.getD k 0) rfl hsm) (b:=l5) rfl ?_) (jT (Bg (t:=t) (v:=⟨(c:Int),(k:Int)⟩) rfl (ck (aj (t:=.int (c:Nat)) rfl (aj (t:=.int (k:Nat)) rfl aD)) (cP (by simp))) hv) (ht _ hv)) ?_).trans ?_
  any_goals (simp only[HK,HR,IK];omega)
  show _=Rs.ok (T.str (tx (wd (r.getD k 0,t ⟨(c:Int),(k:Int)⟩))))
  unfold wd;rw[Iq]]
 rw[Mj.mpr λ_ _=>rfl,qk,R.GX hc,Iu,Iu,Iu]
 rfl
end
abbrev Gk:En->Rs Fl:=(aJ (c6 (fF (iE (ae (vr 7) ai)) [none,none,some 2,some 4] (gT 2 (kB (gN 0) (kB (gN 1) uB))) bT (o2 aB (o2 aB (cl fZ (ae (vr 1) ai)) (cn (.str " at "))) (cl fZ (ae (o2 mH (vr 2) (bt (ae (vr 3) (ae (vr 0) ai)))) ai)))) (gN 8)) (c6 (o2 aB (o2 aB (o2 aB (o2 aB (vr 3) (cl fZ (ae (vr 4) ai))) (cn (.str ": "))) (oS gW (cn (.str ", ")) (ae (vr 8) ai))) (cn (.str "\n"))) (gN 3)))
abbrev ltG:T->En->Rs En:=(gT 2 (kB (gN 4) (kB (gT 3 (kB (gN 5) (kB (gN 6) (kB (gN 7) uB)))) uB)))
section
variable {cs ls:List T}{L:ja N2}{P:List N2}{t:N2->Int}
theorem Rd.Hb (R:Rd cs ls L P)(ht:∀v∈P,Sm (t v)){c:Nat}{x y:Int}{r:List Int}(hc:cs[c]? =some (.tup [.int x,.int y,.tup (r.map .int)])){w:List Nat}(hw:w.length<=50000)(s8:Sl) :
  Gk [.va (.tup [.tup cs,.tup ls]),.va (bq P t),.va (i8 P t),.va (.str (tx (w))),.va (.int (c:Nat)),.va (.int x),.va (.int y),.va (.tup (r.map .int)),s8] = .ok (.nx [.va (.tup [.tup cs,.tup ls]),.va (bq P t),.va (i8 P t),.va (.str (tx (w++(bd c (row cs P t c)++ [10])))),.va (.int (c:Nat)),.va (.int x),.va (.int y),.va (.tup (r.map .int)),.va (.lst (((row cs P t c).map wd).map λp=>T.str (tx p)))]):=by
 obtain⟨_,c1,c4⟩:=aT R.g.c
 have hlt:=(Ii.mp hc).1
 have hl:=rE R ht c
 have hb:=l4 R ht (c:=c) (by omega)
 have h3:=gD (i:=(c:Int)) (by omega)
 have hi:=d6 cm ((row cs P t c).map wd);unfold Gk;rw[aK (ρ':=[.va (.tup [.tup cs,.tup ls]),.va (bq P t),.va (i8 P t),.va (.str (tx (w))),.va (.int (c:Nat)),.va (.int x),.va (.int y),.va (.tup (r.map .int)),.va (.lst (((row cs P t c).map wd).map λp=>T.str (tx p)))]) (b6 (R.words ht hc _ _ _ _) rfl)]
 have ej:oS gW (cn (.str ", ")) (ae (vr 8) ai) [.va (.tup [.tup cs,.tup ls]),.va (bq P t),.va (i8 P t),.va (.str (tx (w))),.va (.int (c:Nat)),.va (.int x),.va (.int y),.va (.tup (r.map .int)),.va (.lst (((row cs P t c).map wd).map λp=>T.str (tx p)))] = .ok (.str (tx (au cm ((row cs P t c).map wd)))):=
  rz rfl (aj (t:=.lst (((row cs P t c).map wd).map λp=>T.str (tx p))) rfl aD) (by rw[Ej];exact Ba (by simp only[HK,HR,IK];omega))
 simp only[HK,HR,IK]at hi;refine b6 ((cW (cW (cW (cW (a:=w) rfl (jT (i:=(c:Int)) rfl (by unfold Sm;omega)) ?_) (b:=[58,32]) rfl ?_) ej ?_) (b:=[10]) rfl ?_)) ?_
 any_goals (first | omega | (simp only[HK,HR,IK];omega))
 show Rs.ok _=Rs.ok _
 unfold bd;simp only[Iq,List.set]
theorem Rd.GZ (R:Rd cs ls L P)(ht:∀v∈P,Sm (t v)):∀(cs':List T) (i:Nat) (w:List Nat) (s4 s5 s6 s7 s8:Sl),(∀j,j<cs'.length->cs[i+j]? =cs'[j]?)->w.length+1101*cs'.length<=50000 →
  ∃t4 t5 t6 t7 t8:Sl,bo ltG Gk (de i cs') [.va (.tup [.tup cs,.tup ls]),.va (bq P t),.va (i8 P t),.va (.str (tx (w))),s4,s5,s6,s7,s8] = .ok (.nx [.va (.tup [.tup cs,.tup ls]),.va (bq P t),.va (i8 P t),.va (.str (tx (w++tt i ((Ka i cs'.length).map (row cs P t))))),t4,t5,t6,t7,t8])
 | [],i,w,s4,s5,s6,s7,s8,_,_=>⟨s4,s5,s6,s7,s8,by show Rs.ok _=Rs.ok _;simp[tt]⟩
 | a::cs',i,w,s4,s5,s6,s7,s8,h,hw=>by
  rw[HR]at hw
  have h0:cs[i]? =some a:=h 0 (by simp)
  have hlt:=(Ii.mp h0).1
  obtain⟨_,c1,c4⟩:=aT R.g.c;obtain⟨x,y,r,rfl,_⟩:=i0 ((aT R.g.c).1 a (Kb h0))
  have hb:=l4 R ht (c:=i) (by omega)
  obtain⟨t4,t5,t6,t7,t8,e⟩:=R.GZ ht cs' (i+1) (w++(bd i (row cs P t i)++ [10])) (.va (.int (i:Nat))) (.va (.int x)) (.va (.int y)) (.va (.tup (r.map .int))) (.va (.lst (((row cs P t i).map wd).map λp=>T.str (tx p)))) (λj hj=>by
   have:=h (j+1) (by rw[HR];omega)
   rw[show i+1+j=i+(j+1)by omega,this];rfl) (by rw[HK,HK];show _+(_+1)+_<=_;omega)
  refine⟨t4,t5,t6,t7,t8,?_⟩
  show bo ltG Gk (T.tup [.int (i:Nat),_] ::de (i+1) cs') _=_
  rw[fk (ρ1:=[.va (.tup [.tup cs,.tup ls]),.va (bq P t),.va (i8 P t),.va (.str (tx (w))),.va (.int (i:Nat)),.va (.int x),.va (.int y),.va (.tup (r.map .int)),s8]) rfl (R.Hb ht h0 (by omega) s8),e]
  congr 3
  rw[HR,Ni,HW];simp only[tt,Iq,PJ,Kh]
theorem Rd.GP (R:Rd cs ls L P)(ht:∀v∈P,Sm (t v)):bp [.tup [.tup cs,.tup ls],bq P t] = .ok (.str (tx (b8 cs P t))):=by
 obtain⟨_,c1,c4⟩:=aT R.g.c;obtain⟨t4,t5,t6,t7,t8,e⟩:=R.GZ ht cs 0 [] .em .em .em .em .em (λj _=>by rw[Lk]) (by simp;omega)
 refine cu rfl ?_
 show ia [.va (.tup [.tup cs,.tup ls]),.va (bq P t),.em,.em,.em,.em,.em,.em,.em] =_
 unfold ia;rw[aK (ρ':=[.va (.tup [.tup cs,.tup ls]),.va (bq P t),.va (i8 P t),.em,.em,.em,.em,.em,.em]) (b6 (aR (ts:=[eS P,bq P t]) (aj (aR (aj (t:=.tup cs) rfl aD) ((lN cs R.g.c).trans (by rw[R.e];rfl))) (aj rfl aD)) (R.dz t)) rfl)]
 rw[aK (ρ':=[.va (.tup [.tup cs,.tup ls]),.va (bq P t),.va (i8 P t),.va (.str (tx [])),.em,.em,.em,.em,.em]) (b6 (t:=.str (tx [])) rfl rfl)];rw[aK (iJ (Fs (l:=cs) (aj (t:=.tup cs) rfl aD)) e)];exact dA rfl
end
theorem vq:∀(rs:List i9) (c:Nat),(∀r∈rs,∀x∈r,Sm x.1/\Sm x.2)->c+rs.length<1000->(tt c rs).length<=14*rs.length+28*rs.flatten.length
 | [],_,_,_=>IZ _
 | r::rs,c,h,hc=>by
  rw[HR]at hc
  have ih:=vq rs (c+1) (λq hq=>h q (HQ _ hq)) (by omega)
  have h1:=gD (i:=(c:Int)) (by omega)
  have h2:=d6 cm (r.map wd)
  have h3:=nQ (n:=26) (ps:=r.map wd) λp hp=>by
   obtain⟨x,hx,rfl⟩:=HY.mp hp
   have:=h r HU x hx;exact u5 this.1 this.2
  rw[HP]at h2 h3
  show(bd c r++(10::tt (c+1) rs)).length<=_
  unfold bd;rw[Jt];simp only[HK,HR,IK]at h2 ⊢;omega
theorem vz (rs:List i9)(c:Nat):(tt c rs).count 10=rs.length:=by
 rw[jm]
 have:=(jU (gi c rs++ [[]]) (by simp) (l0 rs c)).1
 rw[HK,oV,Jm]at this;omega
theorem AO:∀(rs:List i9) (c:Nat),∀n∈tt c rs,n<128
 | [],_,n,h=>by cases h
 | r::rs,c,n,h=>by
  have dn:∀(i:Int) (n:Nat),n∈dg i->n<128:=λi n z=>by rcases jI i n z with z | z <;> omega
  rcases HV.mp (show n∈bd c r++(10::tt (c+1) rs)from h)with h | h
  ·unfold bd at h
   rcases HV.mp h with h | h
   ·exact dn _ n h
   ·rcases HV.mp h with h | h
    ·simp at h;omega
    ·rcases fm h with h | ⟨p,hp,h⟩
     ·simp at h;omega
     ·obtain⟨x,_,rfl⟩:=HY.mp hp
      rcases HV.mp h with h | h
      ·exact dn _ n h
      ·rcases HV.mp h with h | h
       ·simp at h;omega
       ·exact dn _ n h
  ·rcases HZ.mp h with rfl | h
   ·decide
   ·exact AO rs (c+1) n h
section
variable {cs ls:List T}{L:ja N2}{P:List N2}{t:N2->Int}
theorem Rd.GQ (R:Rd cs ls L P)(ht:∀v∈P,Sm (t v))(h9:P.length<=9)(h3:cs.length<=3):(b8 cs P t).length<=294/\(b8 cs P t).count 10=cs.length/\∀n∈b8 cs P t,n<128:=by
 have hr:(rows cs P t).length=cs.length:=by unfold rows;rw[HP,J7]
 have h:=vq (rows cs P t) 0 (λr hr x hx=>by
  obtain⟨c,_,rfl⟩:=HY.mp hr;exact qR R ht c x hx) (by omega)
 rw[R.flat,HP,hr]at h;exact⟨by show(tt 0 (rows cs P t)).length<=_;omega,(vz _ 0).trans hr,AO _ 0⟩
end
theorem oM {l:List Nat}{a b:Nat}{lo hi:Option Int}(hab:a<=b)(hb:b<=l.length)(e:Ic lo hi 1 l.length=Ic (some (a:Int)) (some (b:Int)) 1 l.length):jJ (tx l) lo hi=tx ((l.drop a).take (b - a)):=by
 have hl:(tx l).length=l.length:=a6 l
 have hp:=sliced_plain (tx l) hab (by rw[hl];exact hb)
 rw[hl,cM]at hp
 have hi':=strSliceIndices_plain hab hb;unfold jJ;rw[hl,e];split
 ·rename_i z
  rw[hi',HP,Ke]at z
  have:=eq_of_beq z
  have ha:a=0:=by omega
  subst ha;rw[MI,Km (by omega)]
 ·rw[hp];rfl
theorem xq (n len:Nat):Ic none (some (n:Int)) 1 len=Ic (some ((0:Nat):Int)) (some (n:Int)) 1 len:=by
 simp[Ic]
 congr 1
theorem xr (n len:Nat):Ic (some (n:Int)) none 1 len=Ic (some (n:Int)) (some (len:Int)) 1 len:=by
 simp[Ic]
 congr 1
 rw[if_neg (by omega)]
 omega
theorem CY {len:Nat}(h:1<=len):Ic none (some (-1)) 1 len=Ic (some ((0:Nat):Int)) (some ((len - 1:Nat):Int)) 1 len:=by
 simp[Ic]
 congr 1 <;> first | omega | (rw[if_neg (by omega)];omega)
theorem uF {l:List Nat}{n:Nat}(h:n<=l.length):jJ (tx l) none (some (n:Int))=tx (l.take n):=by
 rw[oM (IZ n) h (xq n _)];rfl
theorem uG {l:List Nat}{n:Nat}(h:n<=l.length):jJ (tx l) (some (n:Int)) none=tx (l.drop n):=by
 rw[oM h (Ia _) (xr n _),Km (by rw[Jh];omega)]
theorem An {l:List Nat}(h:1<=l.length):jJ (tx l) none (some (-1))=tx (l.take (l.length - 1)):=by
 rw[oM (IZ _) (by omega) (CY h)];rfl
theorem zR {n len:Nat}(h:len<=n):Ic (some (n:Int)) none 1 len=Ic (some (len:Int)) (some (len:Int)) 1 len:=by
 simp[Ic]
 congr 1 <;> first | omega | (simp;omega) | (rw[if_neg (by omega)];omega)
theorem rH (l:List Nat)(n:Nat):jJ (tx l) (some (n:Int)) none=tx (l.drop n):=by
 by_cases h:n<=l.length
 ·exact uG h
 ·rw[oM (Ia l.length) (Ia _) (zR (by omega)),Kl (Ia _),Kl (by omega:l.length<=n)]
  simp
theorem xb {fe:En->Rs T}{fl fu:En->Rs (Option Int)}{ρ:En}{s:Str}{lo hi:Option Int}{l:List Nat}(h:fe ρ= .ok (.str s))(h1:fl ρ= .ok lo)(h2:fu ρ= .ok hi)(e:jJ s lo hi=tx l)(hl:l.length<=1000000):AV fe fl fu ρ= .ok (.str (tx l)):=by
 unfold AV;rw[h,h1,h2]
 show(if (jJ s lo hi).length<=1000000 then Rs.ok (T.str (jJ s lo hi))else .bad)=_
 rw[e,if_pos (by rw[a6];exact hl)]
def sgs:List (List Nat):=[[48],[49],[57],[45],[32],[44],[58],[97],[10],[],[48,48],[32,97,116,32]]
theorem BL (n:Nat)(h:n<12):∃g,sgs[n]? =some g/\g.length<=4/\(∀c∈g,c<128)/\g.count 10<=1:=by
 have:∀n,n<12->((sgs.getD n []).length<=4/\(∀c∈sgs.getD n [],c<128)/\(sgs.getD n []).count 10<=1):=by decide
 refine⟨sgs.getD n [],?_,this n h⟩
 rw[IF,Iv (show n<sgs.length from h)]
 rfl
theorem BH (ns:List Int)(hn:ns.length<=63)(a:Nat){l:List Nat}(hl:l.length<=294)(h8:∀n∈l,n<128):∃u,cJ [.scr ns,.int (a:Nat),.str (tx l)] = .ok (.str (tx u))/\u.length<=600/\(∀n∈u,n<128)/\u.count 10<=2*l.count 10+1:=by
 obtain⟨p,ep,p0,p1⟩:=bW ns a ((l.length+1:Nat):Int) hn (by omega)
 obtain⟨q,eq,q0,q1⟩:=bW ns (a+1) 2 hn (by omega)
 obtain⟨r,er,r0,r1⟩:=bW ns (a+2) 12 hn (by omega)
 obtain⟨p,rfl⟩:=IP p0;obtain⟨q,rfl⟩:=IP q0;obtain⟨r,rfl⟩:=IP r0;obtain⟨g,eg,g4,g8,gc⟩:=BL r (by omega)
 have ht:=List.length_take_le p l
 have hd:(l.drop (p+q)).length<=l.length:=by rw[Jh];omega
 refine⟨l.take p++g++l.drop (p+q),?_,?_,λn h=> ?_,?_⟩
 ·refine cu rfl ?_
  show fJ [.va (.scr ns),.va (.int (a:Nat)),.va (.str (tx l)),.em,.em,.em] =_
  unfold fJ;rw[aK (ρ':=[.va (.scr ns),.va (.int (a:Nat)),.va (.str (tx l)),.va (.int (p:Nat)),.em,.em]) (b6 (bU (k:=a) ep rfl rfl (aN (t:=.int (l.length:Nat)) (u:=.int 1) (aR (aj (t:=.str (tx l)) rfl aD) (by show(if (tx l).length<=sizeLine then Rs.ok (T.int ((tx l).length:Nat))else .bad)=_;rw[a6,if_pos (cP (by omega))])) rfl rfl)) rfl)]
  rw[aK (ρ':=[.va (.scr ns),.va (.int (a:Nat)),.va (.str (tx l)),.va (.int (p:Nat)),.va (.lst (sgs.map λx=>T.str (tx x))),.em]) (b6 (aN (t:=.lst ((sgs.take 9).map λx=>T.str (tx x))) (u:=.lst ((sgs.drop 9).map λx=>T.str (tx x))) (aR (aj (t:=.str "019- ,:a\n") rfl aD) rfl) (lI rfl (cP (by simp[sgs]))) rfl) rfl)]
  rw[aK (ρ':=[.va (.scr ns),.va (.int (a:Nat)),.va (.str (tx l)),.va (.int (p:Nat)),.va (.lst (sgs.map λx=>T.str (tx x))),.va (.int ((p+q:Nat)))]) (b6 (aN (t:=.int (p:Nat)) (u:=.int (q:Nat)) rfl (bU (k:=a+1) eq rfl (aN (t:=.int (a:Nat)) (u:=.int 1) rfl rfl rfl) rfl) rfl) rfl)]
  refine dA (cW (cW (xb (s:=tx l) (lo:=none) (hi:=some (p:Int)) rfl rfl rfl (uF (by omega)) (by omega)) (xg (n:=r) (l:=sgs.map λx=>T.str (tx x)) rfl (bU (k:=a+2) er rfl (aN (t:=.int (a:Nat)) (u:=.int 2) rfl rfl rfl) rfl) (by rw[IQ,eg];rfl)) ?_) (xb (s:=tx l) (lo:=some ((p+q:Nat):Int)) (hi:=none) rfl rfl rfl (rH l (p+q)) (by omega)) ?_)
  ·omega
  ·rw[HK];omega
 ·rw[HK,HK];omega
 ·rcases HV.mp h with h | h
  ·rcases HV.mp h with h | h
   ·exact h8 n (La h)
   ·exact g8 n h
  ·exact h8 n (Ky h)
 ·rw[Jj,Jj]
  have h1:=(O4 p l).count_le 10
  have h2:=(List.drop_sublist (p+q) l).count_le 10;omega
theorem vB {R t u:T}(h:aX [R,t] = .ok u):aE [.int 1,R,t] = .ok u:=
 cu rfl (A5 (dA ((qe (p:=false) (cN (aN (t:=.int 1) (u:=.int 0) rfl rfl (jW 1 0)))).trans (aR (aj (t:=R) rfl (aj (t:=t) rfl aD)) h))))
theorem nP {R t u:T}{c:Str}(h:aX [R,t] = .err c)(hc:mG c= .ok u):aE [.int 1,R,t] = .ok u:=
 cu rfl (w9 (c:=c) (rq ((qe (p:=false) (cN (aN (t:=.int 1) (u:=.int 0) rfl rfl (jW 1 0)))).trans (aR (aj (t:=R) rfl (aj (t:=t) rfl aD)) h))) hc)
theorem AS {R t u:T}(h:ba [R,t] = .ok u):aE [.int 0,R,t] = .ok u:=
 cu rfl (A5 (dA ((qe (p:=true) (cN (aN (t:=.int 0) (u:=.int 0) rfl rfl (jW 0 0)))).trans (aR (aj (t:=R) rfl (aj (t:=t) rfl aD)) h))))
theorem qL {R t u:T}{c:Str}(h:ba [R,t] = .err c)(hc:mG c= .ok u):aE [.int 0,R,t] = .ok u:=
 cu rfl (w9 (c:=c) (rq ((qe (p:=true) (cN (aN (t:=.int 0) (u:=.int 0) rfl rfl (jW 0 0)))).trans (aR (aj (t:=R) rfl (aj (t:=t) rfl aD)) h))) hc)
theorem Ep:mG "NoRecord" = .ok (ff 0):=rfl
theorem Eo:mG "NoNumber" = .ok (ff 1):=by unfold mG;rw[if_neg (by decide+kernel),if_pos rfl]
theorem BS:mG "NoText" = .ok (ff 2):=by unfold mG;rw[if_neg (by decide+kernel),if_neg (by decide+kernel),if_pos rfl]
theorem lb (n:Nat):Tr.neT (ff n) (ff n)= .ok (.bl false):=sG rfl (by simp[ff,T.dep,deps])
theorem vU (n:Nat):Tr.eqT (ff n) (ff n)= .ok (.bl true):=sY rfl (by simp[ff,T.dep,deps])
theorem AZ {R u:T}(h:aL [R,u] = .ok (.bl false)):ba [R,u] = .err "NoNumber":=by
 refine fG rfl ?_
 exact gU ((kj (gV (k:=false) (cN (aR (aj (t:=R) rfl (aj (t:=u) rfl aD)) h)))).trans rfl)
theorem Er (cs:List T):gC (.tup [.tup cs])=false:=rfl
section
variable {cs ls:List T}{L:ja N2}{P:List N2}{t:N2->Int}
theorem Rd.HG (R:Rd cs ls L P){u:T}(hu:u.pl=true)(h:jE P.length u=false):ba [.tup [.tup cs,.tup ls],u] = .err "NoNumber" :=
 AZ (cu rfl (dA (sP (aR (ts:=[.tup [.tup cs,.tup ls],u]) rfl ((R.Ha hu).trans (by rw[h]))))))
theorem Rd.tt1 (R:Rd cs ls L P):ba [.tup [.tup cs],bq P t] = .err "NoRecord":=by
 have hp:(T.tup [.tup cs]).pl=true:=by
  have:=R.g.p;rw[pl_tup,plS,HS]at this;rw[pl_tup,plS,this.1];rfl
 have h:aL [.tup [.tup cs],bq P t] = .err "NoRecord":=fG rfl (rq (zI (aR (ts:=[.tup [.tup cs],bq P t]) rfl (Dz hp (Er cs)))));refine fG rfl ?_
 exact gU (CT (CO (Fj (aR (aj (t:=.tup [.tup cs]) rfl (aj (t:=bq P t) rfl aD)) h))))
theorem Rd.rt1 (R:Rd cs ls L P)(s:T):aX [.tup [.tup cs],s] = .err "NoRecord":=by
 have hp:(T.tup [.tup cs]).pl=true:=by
  have:=R.g.p;rw[pl_tup,plS,HS]at this;rw[pl_tup,plS,this.1];rfl
 refine fG rfl ?_
 exact gU (A8 (aR (aj (t:=.tup [.tup cs]) rfl aD) (m5 hp (Er cs))))
theorem Rd.noT (R:Rd cs ls L P){u:List Nat}(hl:u.length<=600)(h8:∀n∈u,n<128)(hc:u.count 10<=30)(hne:∀t:N2->Int,u≠b8 cs P t):aX [.tup [.tup cs,.tup ls],.str (tx u)] = .err "NoText":=by
 rcases R.readAny (s:=tx u) ⟨by rw[a6];exact hl,λc hc=>by rw[cM]at hc;have:=h8 c hc;omega⟩ (by rw[cM];exact hc)with h | ⟨t,_,e,_⟩
 ·exact h
 ·exact absurd (jM e) (hne t)
theorem Rd.far (R:Rd cs ls L P)(hs:∀v∈P,Sm (t v)){v:N2}(hv:v∈P)(h:¬ Ok9 (t v)):aL [(.tup [.tup cs,.tup ls]),bq P t] = .ok (.bl false):=by
 have e:=R.cbw (P.map t);rw[Iu]at e;refine e.trans ?_
 have:((P.map (T.int∘t)).all λu=>within u (-999999999) 999999999)=false:=by
  rw[List.all_eq_false];refine⟨.int (t v),HY.mpr ⟨v,hv,rfl⟩,λz=>h ?_⟩
  obtain⟨i,hi,h1,h2⟩:=cT z;injection hi with hi
  rw[hi];exact⟨h1,h2⟩
 rw[this,ME]
theorem Rd.HA (R:Rd cs ls L P)(hs:∀v∈P,Sm (t v)){v:N2}(hv:v∈P)(h:¬ Ok9 (t v)):aX [.tup [.tup cs,.tup ls],.str (tx (b8 cs P t))] = .err "NoText":=by
 obtain⟨_,c1,c4⟩:=aT R.g.c
 have hp:=R.pl;obtain⟨p2,e⟩:=R.parse (rs:=rows cs P t) R.rne (λx hx=>by rw[R.flat]at hx;obtain⟨v,hv,rfl⟩:=HY.mp hx;exact hs v hv) (R.Hd hs) (by unfold rows;rw[HP,J7];omega) (by rw[R.flat,HP];omega)
 rw[R.flat,Iu,Iu]at e;refine fG rfl (M5 e ?_)
 unfold Et;exact gU ((kj (A7 (gV (k:=false) (cN (aR (aj (t:=.tup [.tup cs,.tup ls]) rfl (aj (t:=bq P t) rfl aD)) (R.far hs hv h)))))).trans rfl)
end
theorem vS {u v z:List Nat}{c:Nat}(hu:c∉u)(hk:IS (tx (u++c::v))=IS ⟨#[]⟩){p q:List Nat}{r:List (List Nat)}(hf:∀x∈p::q::r,c∉x):M9 (tx (au (u++c::v) (p::q::r))) (tx (u++c::v)) (tx z)=tx (au z (p::q::r)):=by
 have S:=mU hu hk (by simp) hf
 have n1:∀x:Str,[x] ≠(p::q::r).map tx:=λx z=>by simp at z
 unfold Jf at S
 split at S
 ·exact absurd S (n1 _)
 ·split at S
  ·exact absurd S (n1 _)
  ·rename_i h2
   unfold M9;rw[if_neg,glued_eq_join,S,fU];rw[PY]
   rintro (h | h)
   ·exact h2 h
   ·rw[HS]at h
    have:=h.1;rw[a6]at this
    simp at this
theorem s_a2:Ij "at" =tx ([] ++97:: [116]):=rfl
theorem s_A2:Ij "At" =tx [65,116]:=rfl
theorem yJ {p q:List Nat}{r:List (List Nat)}(hf:∀x∈p::q::r,97∉x)(hl:(au ([] ++97:: [116]) (p::q::r)).length<=294):eQ "at" "At" (.str (tx (au ([] ++97:: [116]) (p::q::r))))= .ok (.str (tx (au [65,116] (p::q::r)))):=by
 rw[s_a2,s_A2];unfold eQ
 dsimp only
 rw[if_pos (by rw[a6];omega),vS (u:=[]) (c:=97) (v:=[116]) (by simp) (by decide+kernel) hf]
theorem xY:∀(qs:List (List Nat)),qs≠ []->(∀q∈qs,97∉q)->∀pre:List Nat,97∉pre->∃ps:List (List Nat),ps.length=qs.length/\(∀q∈ps,97∉q)/\pre++au l5 qs=au ([] ++97:: [116]) ps
 | [],h,_,_,_=>absurd rfl h
 | [q],_,hf,pre,hp=>⟨[pre++q],rfl,λx hx=>by
   rw[Ir.mp hx]
   exact λz=>(HV.mp z).elim hp (hf q HU),rfl⟩
 | q::q2::r,_,hf,pre,hp=>by
  obtain⟨ps,hl,h97,e⟩:=xY (q2::r) (by simp) (λx hx=>hf x (HQ _ hx)) [32] (by simp)
  refine⟨(pre++(q++ [32]))::ps,by rw[HR,hl];rfl,λx hx=> ?_,?_⟩
  ·rcases HZ.mp hx with rfl | hx
   ·intro z
    rcases HV.mp z with z | z
    ·exact hp z
    ·rcases HV.mp z with z | z
     ·exact hf q HU z
     ·simp at z
   ·exact h97 x hx
  ·rw[dB ([] ++97:: [116]) (pre++(q++ [32])) (r:=ps) (by intro z;rw[z]at hl;simp at hl),<-e]
   show pre++(q++(l5++au l5 (q2::r)))=_
   simp only[Iq,PJ,Kh]
theorem xW:∀(ps:List (List Nat)),(au [65,116] ps).length=(au ([] ++97:: [116]) ps).length/\(au [65,116] ps).count 10=(au ([] ++97:: [116]) ps).count 10/\∀n∈au [65,116] ps,n=65\/n∈au ([] ++97:: [116]) ps
 | [] =>⟨rfl,rfl,λn h=>by cases h⟩
 | [p] =>⟨rfl,rfl,λn h=> .inr h⟩
 | p::q::r=>by
  obtain⟨h1,h2,h3⟩:=xW (q::r);rw[dB [65,116] p (r:=q::r) (by simp),dB ([] ++97:: [116]) p (r:=q::r) (by simp)]
  refine⟨?_,?_,λn h=> ?_⟩
  ·simp only[HK,h1,HR,IK]
  ·simp only[Jj,h2];rfl
  ·rcases HV.mp h with h | h
   ·exact .inr (Iw _ h)
   ·rcases HV.mp h with h | h
    ·rcases HZ.mp h with h | h
     ·exact .inl h
     ·exact .inr (H0 _ (Iw _ (HQ _ h)))
    ·rcases h3 n h with h | h
     ·exact .inl h
     ·exact .inr (H0 _ (H0 _ h))
theorem AR:∀(rs:List i9) (c:Nat),65∉tt c rs
 | [],_=>by intro h;cases h
 | r::rs,c=>by
  intro h
  have dn:∀(i:Int),65∉dg i:=λi z=>by rcases jI i _ z with z | z <;> omega
  rcases HV.mp (show 65∈bd c r++(10::tt (c+1) rs)from h)with h | h
  ·unfold bd at h
   rcases HV.mp h with h | h
   ·exact dn _ h
   ·rcases HV.mp h with h | h
    ·simp at h
    ·rcases fm h with h | ⟨p,hp,h⟩
     ·simp at h
     ·obtain⟨x,_,rfl⟩:=HY.mp hp
      rcases HV.mp h with h | h
      ·exact dn _ h
      ·rcases HV.mp h with h | h
       ·simp at h
       ·exact dn _ h
  ·rcases HZ.mp h with h | h
   ·cases h
   ·exact AR rs (c+1) h
theorem vA (r:i9)(rs:List i9):∃w,tt 0 (r::rs)=48::58::w:=⟨_,by
 show bd 0 r++(10::tt 1 rs)=_
 unfold bd;rw[show dg ((0:Nat):Int)= [48]from by decide+kernel]
 rfl⟩
theorem vt:∀(rs:List i9) (c:Nat),rs≠ []->∃w,tt c rs=w++ [10]
 | [],_,h=>absurd rfl h
 | [r],c,_=>⟨bd c r,rfl⟩
 | r::q::rs,c,_=>by
  obtain⟨w,e⟩:=vt (q::rs) (c+1) (by simp)
  exact⟨bd c r++(10::w),by show bd c r++(10::tt (c+1) (q::rs))=_;rw[e];simp⟩
section
variable {cs ls:List T}{L:ja N2}{P:List N2}{t:N2->Int}
theorem Rd.GL (R:Rd cs ls L P):rows cs P t≠ []:=λz=>by
 obtain⟨_,c1,_⟩:=aT R.g.c
 have:=congrArg JZ z;unfold rows at this;rw[HP,J7,IK]at this;omega
theorem Rd.cnt (R:Rd cs ls L P)(t:N2->Int):(b8 cs P t).count 10=cs.length:=by
 show(tt 0 (rows cs P t)).count 10=_
 rw[vz];unfold rows;rw[HP,J7]
theorem Rd.GF (R:Rd cs ls L P){u:List Nat}(h:u.count 10≠cs.length):∀t:N2->Int,u≠b8 cs P t:=λt z=>h (by rw[z,R.cnt])
theorem Rd.HF (R:Rd cs ls L P)(t:N2->Int):∀t':N2->Int,48::b8 cs P t≠b8 cs P t':=λt' z=>by
 have h1:=R.GL (t:=t)
 have h2:=R.GL (t:=t')
 show False
 obtain⟨a,x,e1⟩:∃a x,rows cs P t=a::x:=by cases h:rows cs P t with | nil=>exact absurd h h1 | cons a x=>exact⟨a,x,rfl⟩
 obtain⟨b,y,e2⟩:∃a x,rows cs P t'=a::x:=by cases h:rows cs P t' with | nil=>exact absurd h h2 | cons a x=>exact⟨a,x,rfl⟩
 obtain⟨w,f1⟩:=vA a x;obtain⟨w',f2⟩:=vA b y
 have z':48::tt 0 (rows cs P t)=tt 0 (rows cs P t'):=z;rw[e1,e2,f1,f2]at z';injection z' with _ z'
 injection z' with z' _
 exact absurd z' (by decide)
theorem Rd.HE (R:Rd cs ls L P)(ht:∀v∈P,Sm (t v))(h9:P.length<=9)(h3:cs.length<=3) :
  ∃b,eQ "at" "At" (.str (tx (b8 cs P t)))= .ok (.str (tx b))/\1<=(b8 cs P t).length/\∀u∈ [[],(b8 cs P t).take ((b8 cs P t).length - 1),b8 cs P t++ [10],[10] ++b8 cs P t,b8 cs P t++b8 cs P t,b,[48] ++b8 cs P t],aX [.tup [.tup cs,.tup ls],.str (tx u)] = .err "NoText":=by
 obtain⟨h1,h2,h8⟩:=R.GQ ht h9 h3;obtain⟨_,c1,_⟩:=aT R.g.c;obtain⟨w,ew⟩:=vt (rows cs P t) 0 R.GL
 have ew:b8 cs P t=w++ [10]:=ew;obtain⟨qs,q1,q2,q3⟩:=AQ (rows cs P t) 0
 have hpos:=R.pos;rw[R.flat,HP]at q3;obtain⟨ps,hl,hf,e⟩:=xY qs (by intro z;rw[z]at q3;cases q3) q2 [] (by simp)
 rw[Kh]at e
 have q1:b8 cs P t=au ([] ++97:: [116]) ps:=q1.trans e
 obtain⟨p,q,r,rfl⟩:∃p q r,ps=p::q::r:=by
  match ps,hl with
  | [],hl=>rw[q3]at hl;cases hl
  | [p],hl=>rw[q3]at hl;simp only[HR,IK]at hl;omega
  | p::q::r,_=>exact⟨p,q,r,rfl⟩
 obtain⟨b1,b2,b3⟩:=xW (p::q::r);rw[<-q1]at b1 b2 b3;refine⟨au [65,116] (p::q::r),?_,by rw[ew];simp,λu hu=> ?_⟩
 ·rw[q1]at h1 ⊢
  exact yJ hf h1
 have hc:(w++ [10]).count 10=cs.length:=by rw[<-ew];exact h2
 rw[Jj]at hc
 have hc:w.count 10+1=cs.length:=hc;simp only[HZ,Jr,or_false]at hu;rcases hu with rfl | rfl | rfl | rfl | rfl | rfl | rfl
 ·exact R.noT (by simp) (by simp) (by simp) (R.GF (by rw[List.count_nil];omega))
 ·have e:(b8 cs P t).take ((b8 cs P t).length - 1)=w:=by rw[ew];simp
  rw[e]
  have hw:w.length+1=(b8 cs P t).length:=by rw[ew];simp
  exact R.noT (by omega) (λn hn=>h8 n (by rw[ew];exact Iw _ hn)) (by omega) (R.GF (by omega))
 ·refine R.noT (by simp;omega) (λn hn=> ?_) ?_ (R.GF ?_)
  ·rcases HV.mp hn with hn | hn
   ·exact h8 n hn
   ·rw[Ir.mp hn];decide
  ·rw[Jj,h2];show _+1<=_;omega
  ·rw[Jj,h2];show _+1≠_;omega
 ·refine R.noT (by simp;omega) (λn hn=> ?_) ?_ (R.GF ?_)
  ·rcases HV.mp hn with hn | hn
   ·rw[Ir.mp hn];decide
   ·exact h8 n hn
  ·rw[Jj,h2];show 1+_<=_;omega
  ·rw[Jj,h2];show 1+_≠_;omega
 ·refine R.noT (by simp;omega) (λn hn=> ?_) ?_ (R.GF ?_)
  ·rcases HV.mp hn with hn | hn <;> exact h8 n hn
  ·rw[Jj,h2];omega
  ·rw[Jj,h2];omega
 ·refine R.noT (by omega) (λn hn=> ?_) (by omega) λt' z=> ?_
  ·rcases b3 n hn with rfl | hn
   ·decide
   ·exact h8 n hn
  ·refine AR (rows cs P t') 0 ?_
   show 65∈b8 cs P t'
   rw[<-z,dB [65,116] p (r:=q::r) (by simp)]
   simp
 ·refine R.noT (by simp;omega) (λn hn=> ?_) ?_ (R.HF t)
  ·rcases HV.mp hn with hn | hn
   ·rw[Ir.mp hn];decide
   ·exact h8 n hn
  ·rw[Jj,h2];show 0+_<=_;omega
end
abbrev spF:En->Rs Fl:=(aJ (c6 (Tr.cl cJ (ae (vr 0) (ae (o2 aB (cn (.int 130)) (o2 cj (cn (.int 3)) (vr 4))) (ae (vr 3) ai)))) (gN 5)) (aJ (c6 (Tr.cl aE (ae (cn (.int 1)) (ae (vr 1) (ae (vr 5) ai)))) (gN 6)) (eE (tb (o2 Tr.eqT (sl (vr 6) pN (pS (cn (.int 1)))) (bt (ae (cn (.str "refused")) ai)))) (eE (ku (tb (o2 Tr.neT (vr 6) (bt (ae (cn (.str "refused")) (ae (cn (.int 2)) ai))))) (tb (o2 Tr.eqT (vr 5) (vr 3)))) (aM (cn (.bl false))) sN) (eE (ku (tb (o2 Tr.neT (Tr.cl bp (ae (vr 1) (ae (vr 6) ai))) (vr 5))) (tb (o2 Tr.neT (Tr.cl cH (ae (vr 6) ai)) (Tr.cl cH (ae (vr 2) ai))))) (aM (cn (.bl false))) sN))))
theorem zX (a b:List Nat):Tr.eqT (.str (tx a)) (.str (tx b))= .ok (.bl (decide (a=b))):=by
 unfold Tr.eqT;rw[if_pos (dN (by simp[T.dep]) rfl rfl)]
 congr 2
 by_cases h:a=b
 ·subst h;rw[decide_eq_true rfl,bQ];simp
 ·rw[decide_eq_false h,bQ]
  simp only[beq_eq_false_iff_ne,decide_eq_false_iff_not,ne_eq];exact λz=>h (jM z)
theorem FN (i:Int):Tr.eqT (.tup [.int i]) (.tup [.str "refused"])= .ok (.bl false):=by
 unfold Tr.eqT;rw[if_pos (dN (by simp[T.dep,deps]) rfl rfl)]
 rfl
section
variable {cs ls:List T}{L:ja N2}{P:List N2}{t:N2->Int}{ns:List Int}
theorem vC (P:List N2)(t:N2->Int):cH [bq P t] = .ok (.int (P.length:Nat)):=by
 show Rs.ok (T.int ((P.map λv=>T.int (t v)).length:Nat))=_
 rw[HP]
theorem Rd.Hj (R:Rd cs ls L P)(h9:∀v∈P,Ok9 (t v))(hp9:P.length<=9)(h3:cs.length<=3)(hn:ns.length<=63)(k:Nat)(s5 s6 s7 s8 s9 s10:Sl):∃t5 t6:Sl,spF [.va (.scr ns),.va (.tup [.tup cs,.tup ls]),.va (bq P t),.va (.str (tx (b8 cs P t))),.va (.int (k:Nat)),s5,s6,s7,s8,s9,s10] = .ok (.nx [.va (.scr ns),.va (.tup [.tup cs,.tup ls]),.va (bq P t),.va (.str (tx (b8 cs P t))),.va (.int (k:Nat)),t5,t6,s7,s8,s9,s10]):=by
 have hs:∀v∈P,Sm (t v):=λv hv=>(h9 v hv).sm
 obtain⟨h1,h2,h8⟩:=R.GQ hs hp9 h3;obtain⟨u,eu,u1,u8,uc⟩:=BH ns hn (130+3*k) h1 h8
 have a1:Tr.cl cJ (ae (vr 0) (ae (o2 aB (cn (.int 130)) (o2 cj (cn (.int 3)) (vr 4))) (ae (vr 3) ai))) [.va (.scr ns),.va (.tup [.tup cs,.tup ls]),.va (bq P t),.va (.str (tx (b8 cs P t))),.va (.int (k:Nat)),s5,s6,s7,s8,s9,s10] = .ok (.str (tx u)):=
  aR (aj (t:=.scr ns) rfl (aj (t:=.int ((130+3*k:Nat):Int)) (aN (t:=.int 130) (u:=.int (3*(k:Nat))) rfl (aN (t:=.int 3) (u:=.int (k:Nat)) rfl rfl rfl) rfl) (aj (t:=.str (tx (b8 cs P t))) rfl aD))) eu
 unfold spF;rw[aK (ρ':=[.va (.scr ns),.va (.tup [.tup cs,.tup ls]),.va (bq P t),.va (.str (tx (b8 cs P t))),.va (.int (k:Nat)),.va (.str (tx u)),s6,s7,s8,s9,s10]) (b6 a1 rfl)];rcases R.readAny (s:=tx u) ⟨by rw[a6];exact u1,λc hc=>by rw[cM]at hc;have:=u8 c hc;omega⟩ (by rw[cM];omega)with he | ⟨t',h9',es,ho⟩
 ·refine⟨.va (.str (tx u)),.va (ff 2),?_⟩
  have hne:u≠b8 cs P t:=λz=>by
   rw[z,R.back R h9]at he;cases he
  rw[aK (ρ':=[.va (.scr ns),.va (.tup [.tup cs,.tup ls]),.va (bq P t),.va (.str (tx (b8 cs P t))),.va (.int (k:Nat)),.va (.str (tx u)),.va (ff 2),s7,s8,s9,s10]) (b6 (aR (aj (t:=.int 1) rfl (aj (t:=.tup [.tup cs,.tup ls]) rfl (aj (t:=.str (tx u)) rfl aD))) (nP he BS)) rfl)];rw[kj (cN (aN (t:=.tup [.str "refused"]) (u:=.tup [.str "refused"]) ((uu (l:=[.str "refused",.int 2]) (lo:=none) (hi:=some ((1:Nat):Int)) rfl rfl rfl).trans (by rw[lQ];rfl)) (ck rfl (cP (by simp))) (sY rfl (by simp[T.dep,deps]))))]
  exact(dQ (qd (cN (aN (t:=ff 2) (u:=ff 2) rfl (ck rfl (cP (by simp))) (lb 2))) (cN (aN (t:=.str (tx u)) (u:=.str (tx (b8 cs P t))) rfl rfl ((zX _ _).trans (by rw[decide_eq_false hne])))))).trans rfl
 ·have eu':=jM es
  subst eu';refine⟨.va (.str (tx (b8 cs P t'))),.va (bq P t'),?_⟩
  rw[aK (ρ':=[.va (.scr ns),.va (.tup [.tup cs,.tup ls]),.va (bq P t),.va (.str (tx (b8 cs P t))),.va (.int (k:Nat)),.va (.str (tx (b8 cs P t'))),.va (bq P t'),s7,s8,s9,s10]) (b6 (aR (aj (t:=.int 1) rfl (aj (t:=.tup [.tup cs,.tup ls]) rfl (aj (t:=.str (tx (b8 cs P t'))) rfl aD))) (vB ho)) rfl)]
  obtain⟨i,hi⟩:∃i,(P.map λv=>T.int (t' v)).take 1= [.int i]:=by
   have:=R.pos
   cases P with
   | nil=>simp at this
   | cons v P=>exact⟨t' v,rfl⟩
  rw[dQ (cN (aN (t:=.tup [.int i]) (u:=.tup [.str "refused"]) ((uu (l:=P.map λv=>T.int (t' v)) (lo:=none) (hi:=some ((1:Nat):Int)) rfl rfl rfl).trans (by rw[lQ,hi])) (ck rfl (cP (by simp))) (FN i)))]
  exact(dQ (qd (cN (aN (t:=.str (tx (b8 cs P t'))) (u:=.str (tx (b8 cs P t'))) (aR (aj (t:=.tup [.tup cs,.tup ls]) rfl (aj (t:=bq P t') rfl aD)) (R.GP λv hv=>(h9' v hv).sm)) rfl ((ne_str _ _).trans (by rw[decide_eq_true rfl];rfl)))) (cN (aN (aR (aj (t:=bq P t') rfl aD) (vC P t')) (aR (aj (t:=bq P t) rfl aD) (vC P t)) ((ne_int _ _).trans (by simp)))))).trans rfl
theorem Rd.G4 (R:Rd cs ls L P)(h9:∀v∈P,Ok9 (t v))(hp9:P.length<=9)(h3:cs.length<=3)(hn:ns.length<=63)(s7 s8 s9 s10:Sl):∀(js:List Nat) (s4 s5 s6:Sl),∃t4 t5 t6:Sl,bo (gN 4) spF (js.map λ(j:Nat)=>T.int (j:Nat)) [.va (.scr ns),.va (.tup [.tup cs,.tup ls]),.va (bq P t),.va (.str (tx (b8 cs P t))),s4,s5,s6,s7,s8,s9,s10] = .ok (.nx [.va (.scr ns),.va (.tup [.tup cs,.tup ls]),.va (bq P t),.va (.str (tx (b8 cs P t))),t4,t5,t6,s7,s8,s9,s10])
 | [],s4,s5,s6=>⟨s4,s5,s6,rfl⟩
 | k::js,s4,s5,s6=>by
  obtain⟨t5,t6,e⟩:=R.Hj h9 hp9 h3 hn k s5 s6 s7 s8 s9 s10;obtain⟨r4,r5,r6,e2⟩:=R.G4 h9 hp9 h3 hn s7 s8 s9 s10 js (.va (.int (k:Nat))) t5 t6;refine⟨r4,r5,r6,?_⟩
  rw[HW,fk (ρ1:=[.va (.scr ns),.va (.tup [.tup cs,.tup ls]),.va (bq P t),.va (.str (tx (b8 cs P t))),.va (.int (k:Nat)),s5,s6,s7,s8,s9,s10]) rfl e];exact e2
end
abbrev grF:En->Rs Fl:=(aJ (c6 (o2 aB (bt (ae (vr 7) ai)) (sl (vr 2) (pS (cn (.int 1))) pN)) (gN 8)) (aJ (eE (tb (o2 Tr.neT (Tr.cl aE (ae (cn (.int 0)) (ae (vr 1) (ae (vr 8) ai)))) (Tr.cl bp (ae (vr 1) (ae (vr 8) ai))))) (aM (cn (.bl false))) sN) (aJ (eE (tb (o2 Tr.neT (Tr.cl aE (ae (cn (.int 1)) (ae (vr 1) (ae (Tr.cl bp (ae (vr 1) (ae (vr 8) ai))) ai)))) (vr 8))) (aM (cn (.bl false))) sN) (aJ (c6 (o2 aB (bt (ae (o2 aB (vr 7) (o2 b7 (g7 (ae (cn (.int 1)) (ae (o1 gE (cn (.int 1))) ai))) (Tr.cl qf (ae (o2 A2 (vr 7) (cn (.int 0))) ai)))) ai)) (sl (vr 2) (pS (cn (.int 1))) pN)) (gN 9)) (aJ (eE (tb (o2 Tr.neT (Tr.cl aE (ae (cn (.int 0)) (ae (vr 1) (ae (vr 9) ai)))) (bt (ae (cn (.str "refused")) (ae (cn (.int 1)) ai))))) (aM (cn (.bl false))) sN) (eE (tb (o2 Tr.neT (Tr.cl aE (ae (cn (.int 1)) (ae (vr 1) (ae (Tr.cl bp (ae (vr 1) (ae (vr 9) ai))) ai)))) (bt (ae (cn (.str "refused")) (ae (cn (.int 2)) ai))))) (aM (cn (.bl false))) sN))))))
def up (t:N2->Int)(v0:N2)(g:Int):N2->Int:=λv=>if v=v0 then g else t v
theorem AM {t:N2->Int}{v0:N2}{Q:List N2}{g:Int}(h:v0∉Q):bq (v0::Q) (up t v0 g)= .tup ([.int g] ++Q.map λv=> .int (t v)):=by
 show T.tup (T.int (up t v0 g v0)::Q.map λv=>T.int (up t v0 g v))= .tup (T.int g::Q.map λv=>T.int (t v))
 have e:up t v0 g v0=g:=if_pos rfl;rw[e]
 congr 2
 refine JK λv hv=> ?_
 unfold up
 have hz:¬ v=v0:=λz=>h (z▸hv)
 rw[if_neg hz]
theorem vk {t:N2->Int}{v0:N2}{Q:List N2}{g:Int}{p:Int->Prop}(h:∀v∈v0::Q,p (t v))(hg:p g):∀v∈v0::Q,p (up t v0 g v):=λv hv=>by
 unfold up;split
 ·exact hg
 ·exact h v hv
section
variable {cs ls:List T}{L:ja N2}{Q:List N2}{v0:N2}{t:N2->Int}{ns:List Int}
theorem Rd.G8 (R:Rd cs ls L (v0::Q))(h9:∀v∈(v0::Q),Ok9 (t v)){g d:Int}(hg:g=999999999/\d=1\/g= -999999999/\d= -1)(s4 s5 s6 s8 s9 s10:Sl):grF [.va (.scr ns),.va (.tup [.tup cs,.tup ls]),.va (bq (v0::Q) t),.va (.str (tx (b8 cs (v0::Q) t))),s4,s5,s6,.va (.int g),s8,s9,s10] = .ok (.nx [.va (.scr ns),.va (.tup [.tup cs,.tup ls]),.va (bq (v0::Q) t),.va (.str (tx (b8 cs (v0::Q) t))),s4,s5,s6,.va (.int g),.va (bq (v0::Q) (up t v0 g)),.va (bq (v0::Q) (up t v0 (g+d))),s10]):=by
 have hv:v0∉Q:=(JE.mp R.nd).1
 have hp:=R.pl;rw[HR]at hp
 have hs:∀v∈(v0::Q),Sm (t v):=λv hv=>(h9 v hv).sm
 have o1_:∀v∈(v0::Q),Ok9 (up t v0 g v):=vk h9 (by rcases hg with⟨rfl,_⟩ | ⟨rfl,_⟩ <;> (unfold Ok9;omega))
 have m1:∀v∈(v0::Q),Sm (up t v0 g v):=λv hv=>(o1_ v hv).sm
 have m2:∀v∈(v0::Q),Sm (up t v0 (g+d) v):=vk hs (by rcases hg with⟨rfl,rfl⟩ | ⟨rfl,rfl⟩ <;> (unfold Sm;omega))
 have hno:¬ Ok9 (up t v0 (g+d) v0):=by
  have e:up t v0 (g+d) v0=g+d:=if_pos rfl;rw[e];rcases hg with⟨rfl,rfl⟩ | ⟨rfl,rfl⟩ <;> (unfold Ok9;omega)
 have sl1:∀(s7 s8 s9:Sl),sl (vr 2) (pS (cn (.int 1))) pN [.va (.scr ns),.va (.tup [.tup cs,.tup ls]),.va (bq (v0::Q) t),.va (.str (tx (b8 cs (v0::Q) t))),s4,s5,s6,s7,s8,s9,s10] = .ok (.tup (Q.map λv=> .int (t v))):=λs7 s8 s9=>
  (uu (l:=((v0::Q)).map λv=>T.int (t v)) (lo:=some ((1:Nat):Int)) (hi:=none) rfl rfl rfl).trans (by rw[qw];rfl)
 unfold grF;rw[aK (ρ':=[.va (.scr ns),.va (.tup [.tup cs,.tup ls]),.va (bq (v0::Q) t),.va (.str (tx (b8 cs (v0::Q) t))),s4,s5,s6,.va (.int g),.va (bq (v0::Q) (up t v0 g)),s9,s10]) (b6 ((aN (t:=.tup [.int g]) (u:=.tup (Q.map λv=> .int (t v))) (ck rfl (cP (by simp))) (sl1 _ _ _) (gj _ _ (by simp;omega))).trans (by rw[AM hv])) rfl)]
 rw[aK ((dQ (cN (aN (aR (aj (t:=.int 0) rfl (aj (t:=.tup [.tup cs,.tup ls]) rfl (aj (t:=bq (v0::Q) (up t v0 g)) rfl aD))) (AS (R.GS o1_))) (aR (aj (t:=.tup [.tup cs,.tup ls]) rfl (aj (t:=bq (v0::Q) (up t v0 g)) rfl aD)) (R.GP m1)) ((ne_str _ _).trans (by rw[decide_eq_true rfl];rfl))))).trans rfl)]
 rw[aK ((dQ (cN (aN (aR (aj (t:=.int 1) rfl (aj (t:=.tup [.tup cs,.tup ls]) rfl (aj (aR (aj (t:=.tup [.tup cs,.tup ls]) rfl (aj (t:=bq (v0::Q) (up t v0 g)) rfl aD)) (R.GP m1)) aD))) (vB (R.back R o1_))) (u:=bq (v0::Q) (up t v0 g)) rfl (A0 _ _)))).trans rfl)]
 have ix:o2 b7 (g7 (ae (cn (.int 1)) (ae (o1 gE (cn (.int 1))) ai))) (Tr.cl qf (ae (o2 A2 (vr 7) (cn (.int 0))) ai)) [.va (.scr ns),.va (.tup [.tup cs,.tup ls]),.va (bq (v0::Q) t),.va (.str (tx (b8 cs (v0::Q) t))),s4,s5,s6,.va (.int g),.va (bq (v0::Q) (up t v0 g)),s9,s10] = .ok (.int d):=by
  rcases hg with⟨rfl,rfl⟩ | ⟨rfl,rfl⟩
  ·exact xg (n:=0) (l:=[.int 1,.int (-1)]) (lI rfl (cP (by simp))) (aR (aj (t:=.bl false) (aN (t:=.int 999999999) (u:=.int 0) rfl rfl rfl) aD) rfl) rfl
  ·exact xg (n:=1) (l:=[.int 1,.int (-1)]) (lI rfl (cP (by simp))) (aR (aj (t:=.bl true) (aN (t:=.int (-999999999)) (u:=.int 0) rfl rfl rfl) aD) rfl) rfl
 rw[aK (ρ':=[.va (.scr ns),.va (.tup [.tup cs,.tup ls]),.va (bq (v0::Q) t),.va (.str (tx (b8 cs (v0::Q) t))),s4,s5,s6,.va (.int g),.va (bq (v0::Q) (up t v0 g)),.va (bq (v0::Q) (up t v0 (g+d))),s10]) (b6 ((aN (t:=.tup [.int (g+d)]) (u:=.tup (Q.map λv=> .int (t v))) (ck (aj (aN (t:=.int g) (u:=.int d) rfl ix rfl) aD) (cP (by simp))) (sl1 _ _ _) (gj _ _ (by simp;omega))).trans (by rw[AM hv])) rfl)]
 rw[aK ((dQ (cN (aN (aR (aj (t:=.int 0) rfl (aj (t:=.tup [.tup cs,.tup ls]) rfl (aj (t:=bq (v0::Q) (up t v0 (g+d))) rfl aD))) (qL (AZ (R.far m2 HU hno)) Eo)) (u:=ff 1) (ck rfl (cP (by simp))) (lb 1)))).trans rfl)]
 exact(dQ (cN (aN (aR (aj (t:=.int 1) rfl (aj (t:=.tup [.tup cs,.tup ls]) rfl (aj (aR (aj (t:=.tup [.tup cs,.tup ls]) rfl (aj (t:=bq (v0::Q) (up t v0 (g+d))) rfl aD)) (R.GP m2)) aD))) (nP (R.HA m2 HU hno) BS)) (u:=ff 2) (ck rfl (cP (by simp))) (lb 2)))).trans rfl
end
abbrev bmF:En->Rs Fl:=(eE (tb (o2 Tr.neT (Tr.cl aE (ae (cn (.int 0)) (ae (vr 1) (ae (vr 10) ai)))) (bt (ae (cn (.str "refused")) (ae (cn (.int 1)) ai))))) (aM (cn (.bl false))) sN)
abbrev btF:En->Rs Fl:=(eE (tb (o2 Tr.neT (Tr.cl aE (ae (cn (.int 1)) (ae (vr 1) (ae (vr 10) ai)))) (bt (ae (cn (.str "refused")) (ae (cn (.int 2)) ai))))) (aM (cn (.bl false))) sN)
theorem lK {n:Nat}{l:List T}(h:l.length≠n):jE n (.tup l)=false:=by
 unfold jE
 show((decide (n<=l.length)&&decide (l.length<=n))&&_)=false
 rcases Nat.lt_or_gt_of_ne h with h | h
 ·rw[decide_eq_false (by omega:¬ n<=l.length)];rfl
 ·rw[decide_eq_false (by omega:¬ l.length<=n),ME];rfl
theorem sR {n:Nat}{x:T}{l:List T}(h:Bb x=false):jE n (.tup (x::l))=false:=by
 unfold jE
 show(_&&(Bb x&&_))=false
 rw[h,MD,ME]
theorem FJ:∀(cs:List T) (i:Nat),(∀c∈cs,qU c<=3)->(di i cs).length<=3*cs.length
 | [],_,_=>IZ _
 | c::cs,i,h=>by
  have a:=FJ cs (i+1) λx hx=>h x (HQ _ hx)
  have b:=h c HU
  show(fW i (qU c)++di (i+1) cs).length<=_
  rw[HK,fo,HR];omega
section
variable {cs ls:List T}{L:ja N2}{P:List N2}{t:N2->Int}{ns:List Int}
theorem Rd.G7 (R:Rd cs ls L P)(s4 s5 s6 s7 s8 s9:Sl):∀(bs:List T),(∀b∈bs,b.pl=true/\jE P.length b=false)->∀s10:Sl,∃t10:Sl,bo (gN 10) bmF bs [.va (.scr ns),.va (.tup [.tup cs,.tup ls]),.va (bq P t),.va (.str (tx (b8 cs P t))),s4,s5,s6,s7,s8,s9,s10] = .ok (.nx [.va (.scr ns),.va (.tup [.tup cs,.tup ls]),.va (bq P t),.va (.str (tx (b8 cs P t))),s4,s5,s6,s7,s8,s9,t10])
 | [],_,s10=>⟨s10,rfl⟩
 | b::bs,h,s10=>by
  obtain⟨t10,e⟩:=R.G7 s4 s5 s6 s7 s8 s9 bs (λx hx=>h x (HQ _ hx)) (.va b)
  obtain⟨h1,h2⟩:=h b HU;refine⟨t10,?_⟩
  rw[fk (ρ1:=[.va (.scr ns),.va (.tup [.tup cs,.tup ls]),.va (bq P t),.va (.str (tx (b8 cs P t))),s4,s5,s6,s7,s8,s9,.va b]) (ρ2:=[.va (.scr ns),.va (.tup [.tup cs,.tup ls]),.va (bq P t),.va (.str (tx (b8 cs P t))),s4,s5,s6,s7,s8,s9,.va b]) rfl ((dQ (cN (aN (aR (aj (t:=.int 0) rfl (aj (t:=.tup [.tup cs,.tup ls]) rfl (aj (t:=b) rfl aD))) (qL (R.HG h1 h2) Eo)) (u:=ff 1) (ck rfl (cP (by simp))) (lb 1)))).trans rfl)]
  exact e
theorem Rd.G5 (R:Rd cs ls L P)(s4 s5 s6 s7 s8 s9:Sl):∀(us:List (List Nat)),(∀u∈us,aX [.tup [.tup cs,.tup ls],.str (tx u)] = .err "NoText")->∀s10:Sl,∃t10:Sl,bo (gN 10) btF (us.map λu=>T.str (tx u)) [.va (.scr ns),.va (.tup [.tup cs,.tup ls]),.va (bq P t),.va (.str (tx (b8 cs P t))),s4,s5,s6,s7,s8,s9,s10] = .ok (.nx [.va (.scr ns),.va (.tup [.tup cs,.tup ls]),.va (bq P t),.va (.str (tx (b8 cs P t))),s4,s5,s6,s7,s8,s9,t10])
 | [],_,s10=>⟨s10,rfl⟩
 | u::us,h,s10=>by
  obtain⟨t10,e⟩:=R.G5 s4 s5 s6 s7 s8 s9 us (λx hx=>h x (HQ _ hx)) (.va (.str (tx u)))
  refine⟨t10,?_⟩
  rw[HW,fk (ρ1:=[.va (.scr ns),.va (.tup [.tup cs,.tup ls]),.va (bq P t),.va (.str (tx (b8 cs P t))),s4,s5,s6,s7,s8,s9,.va (.str (tx u))]) (ρ2:=[.va (.scr ns),.va (.tup [.tup cs,.tup ls]),.va (bq P t),.va (.str (tx (b8 cs P t))),s4,s5,s6,s7,s8,s9,.va (.str (tx u))]) rfl ((dQ (cN (aN (aR (aj (t:=.int 1) rfl (aj (t:=.tup [.tup cs,.tup ls]) rfl (aj (t:=.str (tx u)) rfl aD))) (nP (h u HU) BS)) (u:=ff 2) (ck rfl (cP (by simp))) (lb 2)))).trans rfl)]
  exact e
theorem Rd.Hq (R:Rd cs ls L P)(s4 s5 s6 s7 s8 s9 s10:Sl):∃bs:List T,(iS (bt (ae (cn .non) (ae (bt ai) (ae (sl (vr 2) pN (pS (o1 gE (cn (.int 1))))) (ae (o2 aB (vr 2) (bt (ae (cn (.int 0)) ai))) (ae (Tr.cl sI (ae (vr 2) ai)) (ae (o2 aB (bt (ae (cn (.bl true)) ai)) (sl (vr 2) (pS (cn (.int 1))) pN)) (ae (o2 aB (bt (ae (cn (.str "0")) ai)) (sl (vr 2) (pS (cn (.int 1))) pN)) ai))))))))) [.va (.scr ns),.va (.tup [.tup cs,.tup ls]),.va (bq P t),.va (.str (tx (b8 cs P t))),s4,s5,s6,s7,s8,s9,s10] = .ok bs/\∀b∈bs,b.pl=true/\jE P.length b=false:=by
 have hp:=R.pl
 have hpos:=R.pos
 have hi:∀u∈(P.map λv=>T.int (t v)),u.pl=true:=λu hu=>by obtain⟨v,_,rfl⟩:=HY.mp hu;rfl
 have hM:(P.map λv=>T.int (t v)).length=P.length:=HP ..
 have eM:bq P t= .tup (P.map λv=>T.int (t v)):=rfl
 rw[eM]
 generalize (P.map λv=>T.int (t v))=M at hi hM
 obtain⟨a,x,rfl⟩:∃a x,M=a++ [x]:=by
  rcases ND M with rfl | ⟨a,x,rfl⟩
  ·simp at hM;omega
  ·exact⟨a,x,by rw[NF]⟩
 have ha:a.length+1=P.length:=by rw[<-hM];simp
 have sm:sl (vr 2) pN (pS (o1 gE (cn (.int 1)))) [.va (.scr ns),.va (.tup [.tup cs,.tup ls]),.va (.tup (a++ [x])),.va (.str (tx (b8 cs P t))),s4,s5,s6,s7,s8,s9,s10] = .ok (.tup a):=(uu (l:=a++ [x]) (lo:=none) (hi:=some (-1)) rfl rfl rfl).trans (by rw[xO])
 have s1:sl (vr 2) (pS (cn (.int 1))) pN [.va (.scr ns),.va (.tup [.tup cs,.tup ls]),.va (.tup (a++ [x])),.va (.str (tx (b8 cs P t))),s4,s5,s6,s7,s8,s9,s10] = .ok (.tup ((a++ [x]).drop 1)):=(uu (l:=a++ [x]) (lo:=some ((1:Nat):Int)) (hi:=none) rfl rfl rfl).trans (by rw[qw])
 have hd1:((a++ [x]).drop 1).length<=16:=by rw[Jh,hM];omega
 have pd:∀u∈(a++ [x]).drop 1,u.pl=true:=λu hu=>hi u (Ky hu)
 refine⟨[.non,.tup [],.tup a,.tup ((a++ [x])++ [.int 0]),.lst (a++ [x]),.tup ([.bl true] ++(a++ [x]).drop 1),.tup ([.str "0"] ++(a++ [x]).drop 1)],uv (ck (aj (t:=.non) rfl (aj (t:=.tup []) (ck rfl (cP (by simp))) (aj sm (aj (aN (t:=.tup (a++ [x])) (u:=.tup [.int 0]) rfl (ck rfl (cP (by simp))) (gj _ _ (by rw[HK,hM];simp;omega))) (aj (aR (aj (t:=.tup (a++ [x])) rfl aD) rfl) (aj (aN (t:=.tup [.bl true]) (ck rfl (cP (by simp))) s1 (gj _ _ (by rw[HK];simp at hd1 ⊢;omega))) (aj (aN (t:=.tup [.str "0"]) (ck rfl (cP (by simp))) s1 (gj _ _ (by rw[HK];simp at hd1 ⊢;omega))) aD))))))) (cP (by simp))),λb hb=> ?_⟩
 simp only[HZ,Jr,or_false]at hb;rcases hb with rfl | rfl | rfl | rfl | rfl | rfl | rfl
 ·exact⟨rfl,rfl⟩
 ·exact⟨rfl,lK (by simp;omega)⟩
 ·exact⟨pl_tup.trans (gb λu hu=>hi u (Iw _ hu)),lK (by omega)⟩
 ·refine⟨pl_tup.trans (gb λu hu=> ?_),lK (by rw[HK,hM];simp)⟩
  rcases HV.mp hu with hu | hu
  ·exact hi u hu
  ·rw[Ir.mp hu];rfl
 ·exact⟨pl_lst.trans (gb hi),rfl⟩
 ·refine⟨pl_tup.trans (gb λu hu=> ?_),sR rfl⟩
  rcases HV.mp hu with hu | hu
  ·rw[Ir.mp hu];rfl
  ·exact pd u hu
 ·refine⟨pl_tup.trans (gb λu hu=> ?_),sR rfl⟩
  rcases HV.mp hu with hu | hu
  ·rw[Ir.mp hu];rfl
  ·exact pd u hu
theorem Rd.Hl (R:Rd cs ls L P)(h9:∀v∈P,Ok9 (t v))(hp9:P.length<=9)(h3:cs.length<=3)(s4 s5 s6 s7 s8 s9 s10:Sl):∃us:List (List Nat),(iS (bt (ae (cn (.str "")) (ae (AV (vr 3) pN (pS (o1 gE (cn (.int 1))))) (ae (o2 aB (vr 3) (cn (.str "\n"))) (ae (o2 aB (cn (.str "\n")) (vr 3)) (ae (o2 aB (vr 3) (vr 3)) (ae (o1 (eQ "at" "At") (vr 3)) (ae (o2 aB (cn (.str "0")) (vr 3)) ai))))))))) [.va (.scr ns),.va (.tup [.tup cs,.tup ls]),.va (bq P t),.va (.str (tx (b8 cs P t))),s4,s5,s6,s7,s8,s9,s10] = .ok (us.map λu=>T.str (tx u))/\∀u∈us,aX [.tup [.tup cs,.tup ls],.str (tx u)] = .err "NoText":=by
 have hs:∀v∈P,Sm (t v):=λv hv=>(h9 v hv).sm
 obtain⟨h1,h2,h8⟩:=R.GQ hs hp9 h3;obtain⟨b,eb,hl,hu⟩:=R.HE hs hp9 h3;refine⟨_,uv (ck (aj (t:=.str (tx [])) rfl (aj (xb (s:=tx (b8 cs P t)) (lo:=none) (hi:=some (-1)) rfl rfl rfl (An hl) (by rw[JI];omega)) (aj (cW (a:=b8 cs P t) (b:=[10]) rfl rfl (by simp;omega)) (aj (cW (a:=[10]) (b:=b8 cs P t) rfl rfl (by simp;omega)) (aj (cW (a:=b8 cs P t) (b:=b8 cs P t) rfl rfl (by omega)) (aj (xf (t:=.str (tx (b8 cs P t))) rfl eb) (aj (cW (a:=[48]) (b:=b8 cs P t) rfl rfl (by simp;omega)) aD))))))) (cP (by simp))),hu⟩
end
theorem CI {cs ls:List T}{L:ja N2}{Q:List N2}{v0:N2}{t:N2->Int}{ns:List Int}(R:Rd cs ls L (v0::Q))(er:dk [.scr ns,.int ((0:Nat):Int),.int ((0:Nat):Int)] = .ok (.tup [.tup cs,.tup ls]))(et:dM [.scr ns,.int ((80:Nat):Int),.tup [.tup cs,.tup ls]] = .ok (bq (v0::Q) t))(h9:∀v∈(v0::Q),Ok9 (t v))(hp9:((v0::Q)).length<=9)(h3:cs.length<=3)(hn:ns.length<=63):m_law [.scr ns] = .ok (.bl true):=by
 have hs:∀v∈(v0::Q),Sm (t v):=λv hv=>(h9 v hv).sm
 refine cu rfl ?_
 show yf [.va (.scr ns),.em,.em,.em,.em,.em,.em,.em,.em,.em,.em] =_
 unfold yf;rw[aK (ρ':=[.va (.scr ns),.va (.tup [.tup cs,.tup ls]),.em,.em,.em,.em,.em,.em,.em,.em,.em]) (b6 (aR (ts:=[.scr ns,.int ((0:Nat):Int),.int ((0:Nat):Int)]) rfl er) rfl)];rw[aK (ρ':=[.va (.scr ns),.va (.tup [.tup cs,.tup ls]),.va (bq (v0::Q) t),.em,.em,.em,.em,.em,.em,.em,.em]) (b6 (aR (ts:=[.scr ns,.int ((80:Nat):Int),.tup [.tup cs,.tup ls]]) rfl et) rfl)];rw[aK (ρ':=[.va (.scr ns),.va (.tup [.tup cs,.tup ls]),.va (bq (v0::Q) t),.va (.str (tx (b8 cs (v0::Q) t))),.em,.em,.em,.em,.em,.em,.em]) (b6 (aR (aj (t:=.tup [.tup cs,.tup ls]) rfl (aj (t:=bq (v0::Q) t) rfl aD)) (R.GP hs)) rfl)]
 rw[aK ((dQ (qd (cN (aN (aR (aj (t:=.int 0) rfl (aj (t:=.tup [.tup cs,.tup ls]) rfl (aj (t:=bq (v0::Q) t) rfl aD))) (AS (R.GS h9))) (u:=.str (tx (b8 cs (v0::Q) t))) rfl ((ne_str _ _).trans (by rw[decide_eq_true rfl];rfl)))) (cN (aN (aR (aj (t:=.int 1) rfl (aj (t:=.tup [.tup cs,.tup ls]) rfl (aj (t:=.str (tx (b8 cs (v0::Q) t))) rfl aD))) (vB (R.back R h9))) (u:=bq (v0::Q) t) rfl (A0 _ _))))).trans rfl)]
 obtain⟨t4,t5,t6,e1⟩:=R.G4 h9 hp9 h3 hn .em .em .em .em [0,1,2,3,4,5] .em .em .em;rw[aK (iJ (ts:=[0,1,2,3,4,5].map λ(j:Nat)=>T.int (j:Nat)) rfl e1)]
 have e2:bo (gN 7) grF [.int 999999999,.int (-999999999)] [.va (.scr ns),.va (.tup [.tup cs,.tup ls]),.va (bq (v0::Q) t),.va (.str (tx (b8 cs (v0::Q) t))),t4,t5,t6,.em,.em,.em,.em] = .ok (.nx [.va (.scr ns),.va (.tup [.tup cs,.tup ls]),.va (bq (v0::Q) t),.va (.str (tx (b8 cs (v0::Q) t))),t4,t5,t6,.va (.int (-999999999)),.va (bq (v0::Q) (up t v0 (-999999999))),.va (bq (v0::Q) (up t v0 (-999999999+ -1))),.em]):=by
  rw[fk (ρ1:=[.va (.scr ns),.va (.tup [.tup cs,.tup ls]),.va (bq (v0::Q) t),.va (.str (tx (b8 cs (v0::Q) t))),t4,t5,t6,.va (.int 999999999),.em,.em,.em]) rfl (R.G8 h9 (.inl ⟨rfl,rfl⟩) t4 t5 t6 .em .em .em)];rw[fk (ρ1:=[.va (.scr ns),.va (.tup [.tup cs,.tup ls]),.va (bq (v0::Q) t),.va (.str (tx (b8 cs (v0::Q) t))),t4,t5,t6,.va (.int (-999999999)),.va (bq (v0::Q) (up t v0 (999999999))),.va (bq (v0::Q) (up t v0 (999999999+1))),.em]) rfl (R.G8 h9 (.inr ⟨rfl,rfl⟩) t4 t5 t6 _ _ .em)]
  rfl
 rw[aK (iJ (ts:=[.int 999999999,.int (-999999999)]) (uv (ck rfl (cP (by simp)))) e2)]
 obtain⟨bs,i3,hb⟩:=R.Hq (t:=t) (ns:=ns) t4 t5 t6 (.va (.int (-999999999))) (.va (bq (v0::Q) (up t v0 (-999999999)))) (.va (bq (v0::Q) (up t v0 (-999999999+ -1)))) .em;obtain⟨t10,e3⟩:=R.G7 (t:=t) (ns:=ns) t4 t5 t6 (.va (.int (-999999999))) (.va (bq (v0::Q) (up t v0 (-999999999)))) (.va (bq (v0::Q) (up t v0 (-999999999+ -1)))) bs hb .em;rw[aK (iJ i3 e3)];obtain⟨us,i4,hu⟩:=R.Hl (ns:=ns) h9 hp9 h3 t4 t5 t6 (.va (.int (-999999999))) (.va (bq (v0::Q) (up t v0 (-999999999)))) (.va (bq (v0::Q) (up t v0 (-999999999+ -1)))) t10
 obtain⟨t11,e4⟩:=R.G5 (t:=t) (ns:=ns) t4 t5 t6 (.va (.int (-999999999))) (.va (bq (v0::Q) (up t v0 (-999999999)))) (.va (bq (v0::Q) (up t v0 (-999999999+ -1)))) us hu t10;rw[aK (iJ i4 e4)]
 have s1:∀(s10:Sl),sl (vr 1) pN (pS (cn (.int 1))) [.va (.scr ns),.va (.tup [.tup cs,.tup ls]),.va (bq (v0::Q) t),.va (.str (tx (b8 cs (v0::Q) t))),t4,t5,t6,.va (.int (-999999999)),.va (bq (v0::Q) (up t v0 (-999999999))),.va (bq (v0::Q) (up t v0 (-999999999+ -1))),s10] = .ok (.tup [.tup cs]):=λ_=>(uu (l:=[.tup cs,.tup ls]) (lo:=none) (hi:=some ((1:Nat):Int)) rfl rfl rfl).trans (by rw[lQ];rfl)
 refine dA ((xi (aN (aR (aj (t:=.int 0) rfl (aj (s1 _) (aj (t:=bq (v0::Q) t) rfl aD))) (qL R.tt1 Ep)) (u:=ff 0) (ck rfl (cP (by simp))) (vU 0))).trans ?_)
 exact aN (aR (aj (t:=.int 1) rfl (aj (s1 _) (aj (t:=.str (tx (b8 cs (v0::Q) t))) rfl aD))) (nP (R.rt1 _) Ep)) (u:=ff 0) (ck rfl (cP (by simp))) (vU 0)
theorem pure_law (ns:List Int)(hn:ns.length<=63):m_law [.scr ns] = .ok (.bl true):=by
 obtain⟨cs,ls,er,hc,c3,hs,hl,l3,hD⟩:=C8 ns hn 0 0 (by omega)
 obtain⟨hR,mR⟩:=BU hc hs hl (by omega)
 have g:Good cs ls:=⟨hc,λt ht=>(hl t ht).1,by omega,BJ mR⟩
 obtain⟨L,P,R⟩:=sg g
 have hp9:P.length<=9:=by
  have a:=congrArg JZ R.e
  have b:=FJ cs 0 λc hc=>by
   obtain⟨x,y,l,rfl,_,h⟩:=hD c hc
   show(l.map T.int).length<=3
   rw[HP];exact h
  rw[HP]at a;omega
 obtain⟨t,et,h9⟩:=R.He ns hn 80
 cases P with
 | nil=>exact absurd R.pos (by simp)
 | cons v0 Q=>exact CI R er et h9 hp9 c3 hn
end G
end
open PySem PySem.W PyProof.Rows
set_option maxRecDepth 100000 in
set_option maxHeartbeats 0 in
theorem PySem.Challenge.cw_farclocks_k92_times_as_texts_holds : PySem.Challenge.rw_farclocks_k92_times_as_texts.Holds := by
  w_on; o_law
  refine Tr.holds_C (q := G.vw) (loose := G.lse) (Xt := λ_ => true) (XP := λ_ _ => True) (Yf := λs => ((Tr.hookC G.asks G.top).obs s, Nat.ble 1 s.toks)) (Ya := λw => ((Tr.hookC G.asks G.top).val w, true)) (YP := (Tr.hookC G.asks G.top).says) (N := 9000) (Tr.left_of (by rfl) (by rfl) (λ_ => rfl) λw os => ?hl) (λw s e => (Tr.hookC G.asks G.top).of w s (M0 e).1) (Tr.hookC G.asks G.top).keeps (λ_ _ => trivial) (λ_ _ _ _ _ => trivial) (by rfl) (by rfl) (by rfl) (λs _ => recFacts_of (s := s) rfl) (by rfl) (by assumption) (by decide +kernel) ⟨rfl, rfl, rfl, rfl, rfl, by decide +kernel⟩ ?hw (λw s e => Nat.le_of_ble_eq_true (M0 e).2) ?hc
  case hl => exact G.Hr w os
  case hw => w_witness2
  case hc => exact Tr.walk_C (n := 63) (k := 14) (x := "_law_script") (CX := L2.CX0) (sp := λK => Tr.spP K 1 G.m_law) rfl (by decide) rfl ⟨rfl, by decide, by decide⟩ (λw K mg fa h X e g hf => G.all_ok X e g hf) (λK H a ns hl _ hS => Tr.sp_script hS (G.pure_law ns hl)) λ_ _ _ _ z => z
