import PyProof.Rows.All
import Wide.All
import OpenK.AllK
import Wide.FinOn
import Lean
import PyProof.EqAt
import PyProof.EqKinds
import PyProof.TupleCall
import PyProof.ExcClass3
import PyProof.StationsW
import PyProof.ExcBaseAll.ValueError
import PyProof.ExcArgsOwn
import PyProof.IsiBase
import PyProof.IsiH_tuple
import PyProof.ExcAttrAll.ValueError
import PyProof.Rows.RuleN_isinstance
import PyProof.MeetsSeq
import PyProof.RulesAs
import PyProof.IsiH_list
import PyProof.AttrMiss
import KE.KDictOf
import PyProof.Rows.SumAny
import PyProof.Rows.MinMaxN
import PyProof.Rows.SortShellK
import PyProof.Rows.SortWalk
import KE.KSortTup
import PyProof.ZipIter
import PyProof.WalksMore
import PyProof.DictWalks
import PyProof.AutoSeq1
import PyProof.Rows.Range3
import PyProof.CollectWalk
import PyProof.EnumMake
import PyProof.ListRange
import KE.KRevIter
import PyProof.SetScanFacts
import PyProof.SetKind
import PyProof.DictKinds
import PyProof.FactsAll.set_0
import PyProof.FactsAll.set_1
import PyProof.FactsAll.set_2
import PyProof.FactsAll.set_3
import PyProof.FactsLen
import PyProof.TupleIter
import PyProof.Rows.SetFrom
import PyProof.Rows.SortShell
import PyProof.CallStr
import PyProof.RulesTry
import KE.KIntText
import PyProof.Conv_int
import PyProof.ReprStr
import Flt.Str
import PyProof.SliceStr2
import PyProof.ListStr
import PyProof.StrWalks
import PyProof.StrOps2
import PySem.Challenge.RW_farclocks_k91_whole_read
noncomputable section
open PySem.Challenge renaming pw_farclocks_k91_whole_read→HS,rw_farclocks_k91_whole_read→M0
open PyProof.Rows.F renaming plain_set_update_loop→JV,entry_set_update_loop→K2
open PySem.AutoListH renaming list___mul___list_int_3→Ou
open Array renaming all_eq_true_iff_forall_mem→JE,getElem?_eq_some_iff→Ij,getElem?_eq_getElem→Kj,getElem?_eq_none→KB,getElem?_toList→JR,length_toList→IT,find?_toList→Os,toList_push→MP,toList→Nq
open PyProof.Rows renaming slot_tuple_getitem→Il,callWith_builtin1→Jp,callWith_type1→JY,subscriptTail_builtinR→Nm,IntsAre→Qw,entry_tuple_getitem→Md,args_tuple_getitem→Ms,call_isinstance_of→OY,slicePart_none→Mz,tupleItemsOf_→M7,Subscript_→Pv,IntsAre→Lu,AllBare→NH,IsTup→Qs
open List renaming eq_nil_of_length_eq_zero→Kw,getD_eq_getElem?_getD→Jl,getElem?_append_right→J8,nodup_iff_pairwise_ne→Mj,getElem?_eq_some_iff→HU,getElem?_append_left→JN,drop_eq_getElem_cons→JP,getElem?_eq_none_iff→Mv,pairwise_iff_getElem→Mw,sublist_append_right→Mx,getElem?_eq_getElem→HG,sublist_append_left→MR,getElem?_replicate→Ku,getElem?_cons_succ→M4,pairwise_mergeSort→M5,getElem?_set_self→Im,take_of_length_le→Ju,drop_eq_nil_of_le→JF,filter_eq_nil_iff→Nk,sublist_cons_self→Nl,mem_append_right→HP,getElem?_eq_none→JQ,length_singleton→KI,eq_nil_or_concat→KM,concat_eq_append→KN,take_append_drop→LH,getElem?_toArray→Nu,singleton_append→Nv,take_eq_take_iff→NC,mem_cons_of_mem→Hv,getElem?_set_ne→Ii,mem_append_left→IG,mem_of_mem_drop→IY,mem_of_getElem?→Jm,mem_of_mem_take→Jn,dropLast_concat→LQ,getLast?_concat→LR,reverse_reverse→NZ,filterMap_cons→IQ,map_congr_left→IU,replicate_succ→JJ,getElem_of_mem→Kv,length_reverse→K6,map_eq_nil_iff→K7,getElem?_range→Oc,mergeSort_perm→Of,length_append→Ht,mem_cons_self→HD,mem_singleton→HJ,contains_cons→JC,filter_append→Lr,mem_filterMap→Oq,filterMap_map→Ot,pairwise_cons→OB,size_toArray→HL,getElem?_map→Ib,append_assoc→IC,flatten_cons→JK,reverse_cons→Km,length_range→Kn,take_sublist→Pc,ext_getElem?→Pf,drop_sublist→Pk,getElem_drop→Pl,isEmpty_cons→Po,nodup_append→Pq,length_cons→HC,length_take→HV,all_eq_true→HW,length_drop→Ih,not_mem_nil→IH,lookup_cons→Jh,getElem_mem→JS,cons_append→Kx,drop_length→M8,mem_reverse→Na,isEmpty_iff→Nb,isEmpty_nil→PU,filter_cons→PV,length_map→Hw,mem_append→HA,append_nil→IA,length_nil→IK,nil_append→Jx,length_set→JB,map_append→J3,nodup_cons→Kl,of_mem_zip→KG,mem_filter→Lk,range_succ→Mc,foldl_cons→P8,forIn_cons→Qa,filter_map→Qi,replicate→Ie,mem_range→IX,drop_zero→N7,mem_cons→HB,map_cons→HN,all_cons→LU,sum_cons→OI,map_drop→OJ,mem_map→HI,map_map→Iq,toArray→LD,map_nil→Ml,length→KH,lookup→Lz,range→Iy,Nodup→KW,foldl→MJ,Perm→K3,cons→NA,getD→Ov,map→P3
open PySem.F renaming args_tuple_iterator_next_1→LV,entry_tuple_iterator_next→Ma,slot_tuple_iterator_next→J9,excBase_ValueError→Mh,args_tuple_add_2→K8,entry_tuple_add→Lj,slot_tuple_add→Ly,typeOf_object_class→LF,slot_enumerate_next→Nx,slot_str_partition→NY,args_str_split_2→Mp,entry_str_split→MQ,args_int_rmul_2→Pd,slot_tuple_rmul→Pg,plain_list_iadd→Pm,entry_type_call→Pn,slot_str_split→LN,slot_tuple_mul→M9,slot_int_index→PP,entry_int_rmul→PQ,slot_int_rmul→L8,fills_int_mul→P9,slot_set_iter→Qc,plain_set_new→Qe,slot_gs_get→Ox,called_set→KJ,called_int→Mq
open PySem.Builtin.Slice renaming slicePartIndex→P0,sliceApplied→J7,slicePlaces→IP,sliceAdjust→Jw,sliceFields→Mu
open PySem.Builtin.Frozenset renaming updateFrom→P2
open PySem.Builtin.Str renaming strSliceIndices→HF,occurrences→Jj,strKind→N9,strSub→Om,glued→Pb
open PySem.Builtin.List renaming listLengthHint→L4,listExtendWith→L5,listTooLong→K9,listSameRef→MG
open PySem renaming wpAny_newFunctionEnv_cells→Ka,wpAny_binaryOp_repeat_ref→MA,wpAny_getItem_list_slice→MW,wpAny_callSpecial?_slot→IV,wpAny_Call_method_late→Nn,builtinLookup_eq_fast→Kf,wpAny_isTrue_Compare1→NI,codeAny_call_function→NL,exec_Assign_Name_used→NM,pythonCodeMadeTheCall→NO,codeAny_handlers_test→NP,codeAny_call_builtin→LS,wpAny_loadName_local→N1,wpAny_setFlight_none→N2,mem_of_lookup→J0,wpAny_isSubtype_exc→J5,wpAny_setEntries_of→Mf,plainExc_ValueError→Og,wpAny_raiseNew_none→Oh,wpAny_handleBy_cons→Oi,wpAny_Call_Name_kw→Jr,wpAny_pyIter_tuple→Ls,wpAny_List_spliced→OP,wpAny_newExc_plain→O5,foldedSetIterable→Ic,wpAny_newObj_type→Ip,wpAny_truthy_bool→II,wpAny_loadPart_at→IJ,wpAny_setState_of→KZ,wpAny_assign_Name→MT,wpAny_pyIter_list→MU,wpAny_sequenceKey→MV,wpAny_Return_some→Pu,wpAny_pyIter_enum→Pw,wpAny_pyIter_slot→Px,wpAny_call_entry→Ji,wpAny_askSetting→Ky,checkBuiltinCall→K5,wpAny_execs_cons→Nc,noFill_tuple_add→Nd,wpAny_isInstance→Nf,wpAny_comp_letGo→Ng,seqSlot_of→PR,lookupAlong_cons→PY,wpAny_pyRepr_str→PZ,letOwnedTupleGo→Ko,codeAny_builtin→Kp,wpAny_loadPart'→Kq,wpAny_execs_nil→KO,leftWithCleanup→KR,pushCells_keeps→Lv,typeLookup_type→Lx,theTreesLotGoes→Me,importedModules→NG,wpAny_updateSeq→Qm,codeAny_of_tree→Qn,isSubtype_type→JX,wpAny_setField→KA,newFunctionEnv→MB,firstArgMember→MC,wpAny_newEntry→MD,recursionLimit→N8,wpAny_holding→Jd,behindInMarks→JU,attributeBase→Ke,comprehension→Lw,wpAny_standAt→LY,plainId_quiet→LZ,swapsWithSole→OK,swappedStores→OL,seq_tuple_add→OS,evalPart_none→OV,wpAny_attempt→OW,Comprehension→O0,bootBuiltins→Ir,wpAny_typeOf→LK,codeAny_mono→NK,concat_meets→PF,callSpecial?→PH,mainGlobals→Iz,sizeLine_eq→IZ,wpAny_field→Jg,excClassObj→Jo,wpAny_of_eq→KQ,sliceBounds→LB,lookupAlong→Ql,wpAny_point→Qp,wpAny_bind→Hq,wpAny_pure→Hy,wpAny_mono→IS,assignEach→JM,call_meets→Ld,wpAny_rule→Lf,builtinsNs→L0,typeLookup→NU,typeIs_int→NV,wpAny_Name→Pt,compareOp→IM,swapsWith→JT,cellsFrom→J4,Str→Kb,noteFrame→KP,pushCells→LL,Ctx→MH,Arguments→MS,specialOf→MX,treeTable→NF,isSubtype→NN,numTextOf→O4,slicePick→Qj,lastMarks→Qk,strValues→Qo,numSeenOf→Qq,pickOrder→Qu,starEach→HX,FuncData→IW,binaryOp→Jq,boot_len→Kg,NameKind→KC,GenState→NT,compPost→NW,intText?→NX,Operator→OM,bindArgs→OQ,entryFor→OZ,evalArgs→P4,callWith→P5,Program→HZ,OsState→LA,BindsTo→NJ,Shared→Hr,Around→Iw,Result→LJ,IsPart→OU,Paired→Qv,Value→Hs,World→ID,Scope→KY,Model→My,CmpOp→Pr,Drawn→Qt
open PySem.Builtin.Tuple renaming tupleItemsOf→K0,tupleIsExact→Mg,tupleExact→IF
open PySem.Calls renaming Name_function_global→Mi,callWith_builtin→Nh,evalArgs_plain→LP,spliced_cons→Lm,Constant_str→Oo,spliced_nil→KS
open PySem.Builtin.SmallTypes renaming nextOf→Kh
open Option renaming isSome_iff_exists→MI,map_eq_some_iff→Ni,getD_none→PN,some→IE
open Int renaming eq_ofNat_of_zero_le→HY,emod_lt_of_pos→Mr,toNat_natCast→JI,emod_eq_of_lt→Pj,emod_nonneg→ND,ediv_one→Py
open PySem.Heap renaming get?_push_of_some→Hz,get?_update_other→Jt,get?_update_self→Jf,get?_push_size→HR,size_push→JO,IsSliceOf→Qr,lt_size→HH,SameBut→Ks,ExtBut→Qb
open PySem.W renaming cellsFrom_some→J6,hideAll_none→K1,hideAll_get→JG,of_hideAll→Lh,codeRec_of→Li,callWith_K→Oj,methodObj→ME,kitx_list→O6,kitx_dict→O7,openSeen→PJ,openGood→PK,plainGet→PL,kia_one→Jv,topFrom→Lg,hideAll→L1,instObj→Np,keepIn→Kz,codeIn→Mt,lookIn→N3,mg_of→MZ,Frag→Ho,fnOf→Kr,nsIn→La
open PySem.SetTable renaming insertAt_perm→Nj,insertAt→MO,runEnd→Mb,below→HK,probe→N5,fill→OF,has→NB
open PySem.Obj renaming isFreed_of_fields→Kc,data_mapFields→Jc,cls_mapFields→MM,mapFields→Kd,mapSeq→MK
open Bool renaming and_eq_false_iff→LI,and_eq_true_iff→IR,false_ne_true→Iv,false_eq_true→Jb,not_eq_true'→Ph,and_eq_true→Hu,eq_iff_iff→J2,or_eq_true→Ln,false_and→LC,true_and→LX,or_false→M1,or_true→Nt
open PySem.Around renaming under_plainId→Kk
open Nat renaming mul_le_mul_right→N0,lt_of_lt_of_le→HM,eq_or_lt_of_le→Oz,eq_zero_or_pos→OA,lt_succ_of_lt→JL,le_of_succ_le→ML,lt_trichotomy→MN,lt_succ_self→LM,mod_eq_of_lt→PX,strongRecOn→Qg,min_eq_left→Qh,lt_irrefl→Ia,le_trans→H0,ne_of_lt→Iu,ne_of_gt→Kt,le_of_lt→KD,le_of_eq→Lb,lt_or_ge→Mo,succ_mul→Pz,mul_comm→PB,lt_trans→PC,le_refl→HE,zero_le→Je,le_succ→Qd
open PySem.Heap.SameBut renaming update→JZ,refl→MF
open PySem.Str renaming ofString→Ja,ofString→HQ,empty→On
open PySem.Heap.IsSliceOf renaming new→Mk
open PySem.Code renaming quiet_builtin→Mm,isCaller→OG
open PySem.SetTable.below renaming go→O8
open PySem.SetTable.probe renaming go→O9
open List.Pairwise renaming nil→Pa
open PySem.P renaming add_list→PM
open Option.some renaming inj→Ik
open ForInStep renaming yield→J1
open List.cons renaming injEq→L6
open PySem.W.KIN renaming call_text→P6,signs_num→P7
open PySem.Txt renaming startswith→JW,partition→IL,split→KL
open PySem.Expr renaming Subscript→N4,ListComp→Lq,Constant→LW,Compare→Ny,UnaryOp→Nz,BoolOp→Ki,Name→Jz,Call→LG
open PySem.NameKind renaming free→IB,cell→JA
open PySem.Value renaming builtin→KU,isInt→L7,none→Ig,bool→Js,type→JD,ref→Io,int→Jk,str→Jy
open PySem.Value.ref renaming inj→Ol
open PySem.ExcName renaming means→OH
open PySem.pickOrder renaming go→PD
open Prod.mk renaming inj→MY
open PySem.Sem renaming wp_mono→M6,wp→N6
open PySem.Scope renaming names→Od
open PySem.Stmt renaming Assign→Oe
open False renaming elim→JH
open True renaming intro→NQ
open PySem.BoolOp renaming And→NR,Or→Oy
open And renaming intro→K4
open PySem.Env renaming scope→Lp
open PyProof.Rows.IsTup renaming new→Nr
open PySem.Pos renaming line→NS
open Ne renaming symm→KF
open Iff renaming rfl→L9
open Sum renaming inl→Oa,inr→Ob
open Prod renaming mk→Pe
set_option Elab.async false
set_option linter.all false
set_option maxRecDepth 100000
set_option maxHeartbeats 8000000
noncomputable section
abbrev nDb (x:Kb):Prop:=(x == Ja "__debug__")=false
theorem qr_ (h:True:=by first | exact .inl rfl | exact .inr rfl | assumption):True:=trivial
def r_:=qr_._auto_1
theorem qs_ (h:True:=by decide):True:=trivial
def s_:=qs_._auto_1
theorem qt_ (h:True:=by intro _;rfl):True:=trivial
def t_:=qt_._auto_1
theorem qu_ (h:True:=by rfl):True:=trivial
def u_:=qu_._auto_1
theorem qv_ (h:True:=by first | exact Or.inl rfl | exact Or.inr (Or.inl rfl) | exact Or.inr (Or.inr rfl)):True:=trivial
def v_:=qv_._auto_1
theorem qw_ (h:True:=by with_unfolding_all rfl):True:=trivial
def w_:=qw_._auto_1
theorem qx_ (h:True:=by intro _ _;rfl):True:=trivial
def x_:=qx_._auto_1
theorem qy_ (h:True:=by first | exact Or.inl rfl | exact Or.inr rfl):True:=trivial
def y_:=qy_._auto_1
theorem qz_ (h:True:=by decide+kernel):True:=trivial
def z_:=qz_._auto_1
theorem qa_ (h:True:=by exact fsc):True:=trivial
def a_:=qa_._auto_1
theorem qb_ (h:True:=by intro x;cases x):True:=trivial
def b_:=qb_._auto_1
theorem qc_ (h:True:=by first | exact .inl rfl | exact .inr rfl):True:=trivial
def c_:=qc_._auto_1
namespace L2
open PySem PySem.Spec PyProof.Rows
inductive V where
 | non | bl (b:Bool) | int (i:Int) | str (x:Str) | byt (b:Array UInt8) | flt (b:UInt64) | ref (a:Addr) | ty (n:String)
 deriving DecidableEq
def Ah (s:Stmt)(j:Nat):Stmt:=match s with
 | .ClassDef _ _ _ body _ _ _ _ _ _ _=>body.getD j (.Pass ⟨0,0,0,0⟩)
 | _=> .Pass ⟨0,0,0,0⟩
def e9 (s:Stmt):MS:=match s with
 | .FunctionDef _ a _ _ _ _ _ _ _ _=>a
 | _=> { posonlyargs:=[],args:=[],vararg:=none,kwonlyargs:=[],kw_defaults:=[],kwarg:=none,defaults:=[] }
def bF (s:Stmt):List Stmt:=match s with
 | .FunctionDef _ _ b _ _ _ _ _ _ _=>b
 | _=> []
def au (s:Stmt):KY:=match s with
 | .FunctionDef _ _ _ _ _ _ sc _ _ _=>sc
 | _=> { kind:=.function,names:=[],isGenerator:=false,isCoroutine:=false }
end L2
namespace Tr
open PySem PySem.Spec PyProof.Rows L2
inductive T where
 | non | bl (b:Bool) | int (i:Int) | str (x:Str) | tup (l:List T) | lst (l:List T)
 /-- the law's script: a list of ints that is only read -/
 | scr (l:List Int)
 /-- a dict: its keys,its values -/
 | dct (ks vs:List T)
 /-- an instance: its class,the names of its attributes,what they are -/
 | ob (C:Str) (ns:List Str) (ts:List T)
abbrev Ow:=Addr->Prop
inductive OT where
 | lst (l:List T) | dct (ks ts:List T) | dd (ks:List T) (rows:List (List T×List T))
 /-- an instance,its attributes own lists -/
 | ob (C:Str) (ns:List Str) (ls:List (List T))
 /-- a list of own lists -/
 | ll (ls:List (List T))
def OT.view:OT->T
 | .lst l=> .lst l
 | .dct ks ts=> .dct ks ts
 | .dd ks rows=> .dct ks (rows.map λr=> .dct r.1 r.2)
 | .ob C ns ls=> .ob C ns (ls.map T.lst)
 | .ll ls=> .lst (ls.map T.lst)
abbrev Mn:=Nat->Ow
def T.ty:T->Option String
 | .non=>some "NoneType"
 | .bl _=>some "bool"
 | .int _=>some "int"
 | .str _=>some "str"
 | .tup _=>some "tuple"
 | .lst _=>some "list"
 | .scr _=>none
 | .dct _ _=>none
 | .ob _ _ _=>none
def Mn.set (M:Mn)(i:Nat)(m:Ow):Mn:=λj=>if j=i then m else M j
def calmNames:List Str:=["__init__","__getattribute__","__getattr__","__class__"]
def wH:Hs->Bool
 | .str _ _=>true
 | _=>false
end Tr
namespace Tr
def fz:List Int->List Int->Bool
 | [],[] =>false
 | [],_::_=>true
 | _::_,[] =>false
 | a::l,b::m=>if a=b then fz l m else decide (a<b)
end Tr
namespace Tr
open PySem PySem.Spec PyProof.Rows L2 PySem.W
structure RK where
 V:Heap->Hs->List Int->Prop
 inj:∀{h v a b},V h v a->V h v b->a=b
 on:∀{h h':Heap} {v a},V h v a->(∀b o,h.get? b=some o->h'.get? b=some o)->V h' v a
 b:Bool
 ty:String
 hb:(JD ty != JD "tuple")=b
 ht:(JD ty == JD ty)=true
 fst:∀{h v a},V h v a->∃ad o xs n f,v= .ref ad/\h.get? ad=some o/\o.cls= .type "tuple"/\o.data= .seq xs n/\xs[0]? =some f/\∀M,Looks M h (typeOf f) (.type ty)
 lt:∀{prog w A s E x y a c} {Q:Bool->Hr->Prop},A.units+60<cLine->V s.heap x a->V s.heap y c->Q (fz a c) s->wpAny (model prog w) A (keyLt' (tuples' b) x y) Q E s
variable (R:RK)
open Classical in
def RK.key (h:Heap)(v:Hs):Option (List Int):=if e:∃ns,R.V h v ns then some e.choose else none
variable {R:RK}
end Tr
namespace Tr
open PySem PySem.Spec PyProof.Rows L2 PySem.W
def qP (h:Heap):Frag:=(Iy h.objs.size).filterMap λa=>(h.get? a).map λo=>(a,o)
def obF (K:Frag)(n:Str):Option (Str×Str×MS×FuncBody×KY×Addr×List (Str×Addr)×Hs×Addr×Bool×Bool):=match nsIn K Iz n with
 | some (some (.ref f))=>match K.lookup f with
  | some ⟨_,_,.func d,_⟩=>some (d.name,d.qualname,d.params,d.body,d.scope,d.globals,d.closure,d.defaults,d.builtins,codeIn K d.code n,keepIn K (.ref f))
  | _=>none
 | _=>none
def exF (n:Str)(st:Stmt):Option (Str×Str×MS×FuncBody×KY×Addr×List (Str×Addr)×Hs×Addr×Bool×Bool):=
 some (n,n,e9 st,.stmts (bF st),au st,Iz,[],.none,L0,true,true)
def FF (K:Frag)(N:Addr)(n:Str):Bool:=match nsIn K N n with | some none=>true | _=>false
def GA (K:Frag)(n:Str):Option Int:=match nsIn K Iz n with | some (some (.int i _))=>some i | _=>none
def sW:List Hs->Bool
 | [.type a,.type b,.type c,.type d] =>a == "ValueError" &&b == "Exception" &&c == "BaseException" &&d == "object"
 | _=>false
def under (D:Option Addr)(m:List Hs):Bool:=match D with
 | none=>sW m
 | some D=>match m with
  | .ref E::m=>E == D&&sW m
  | _=>false
def zX (K:Frag)(D:Option Addr)(n:Str):Option Addr:=match nsIn K Iz n with
 | some (some (.ref C))=>match K.lookup C with
  | some ⟨.type t,_,.cls c,⟨[_,_,_,_,some (.builtin b),_]⟩⟩=>match c.mro,K.lookup c.ns with
   | .ref E::m,some ⟨_,_,.dict es _,_⟩=>
    if (t == "type" &&b == "ValueError.__new__" && !c.hasDel&&(es.toList.all λe=>wH e.key)&&calmNames.all (FF K c.ns)&&E == C&&under D m)=true then some C else none
   | _,_=>none
  | _=>none
 | _=>none
def sE {α:Type}:List (Option α)->Option (List α)
 | [] =>some []
 | none::_=>none
 | some a::r=>match sE r with | some l=>some (a::l) | none=>none
def oP:List Addr->Bool
 | [] =>true
 | a::r=>(r.all λb=> !(a == b))&&oP r
def Gz (K:Frag):List Str->Bool
 | [] =>true
 | m::es=>match zX K none m with
  | some D=>match sE (es.map (zX K (some D)))with | some l=>oP (l++ [D]) | none=>false
  | none=>false
structure vJ where
 tab:List (Str×Nat)
 zs:List Str
 cs:List (Str×Int)
 es:List Str
def oI (S:vJ)(K:Frag):=(S.tab.map (λp=>obF K p.1),S.zs.all (FF K Iz),S.cs.map (λc=>GA K c.1),Gz K S.es)
def nP (S:vJ)(top:Nat->Stmt):=(S.tab.map (λp=>exF p.1 (top p.2)),true,S.cs.map (λc=>some c.2),true)
def obM (K:Frag)(C:Addr)(m q:Str):Option (Str×Str×MS×FuncBody×KY×Addr×List (Str×Addr)×Hs×Addr×Bool×Bool×Bool):=match findIn K (.ref C) m with
 | some (some (.ref f))=>match K.lookup f with
  | some ⟨_,_,.func d,_⟩=>some (d.name,d.qualname,d.params,d.body,d.scope,d.globals,d.closure,d.defaults,d.builtins,codeIn K d.code q,keepIn K (.ref f),isFn K (.ref f))
  | _=>none
 | _=>none
def exM (m q:Str)(st:Stmt):Option (Str×Str×MS×FuncBody×KY×Addr×List (Str×Addr)×Hs×Addr×Bool×Bool×Bool):=
 some (m,q,e9 st,.stmts (bF st),au st,Iz,[],.none,L0,true,true,true)
def noAt (K:Frag)(C:Addr)(f:Str):Bool:=match findIn K (.ref C) f with | some none=>true | _=>false
def saOk (K:Frag)(C:Addr):Bool:=match findIn K (.ref C) "__setattr__" with | some (some (.builtin b))=>b == "object.__setattr__" | _=>false
def Gj (K:Frag)(C:Addr)(as:List Str):Bool:=plainGet K C On&&hasDictIn K C&&plainOver K C&&saOk K C&&makesIn K C&&keepIn K (.ref C)&&as.all (noAt K C)
structure Ee where
 c:Str
 i:Nat
 as:List Str
 ms:List (Str×Str×Nat)
def obK (K:Frag)(A:Ee):=match nsIn K Iz A.c with
 | some (some (.ref C))=>some (Gj K C A.as,A.ms.map λ(m:Str×Str×Nat)=>obM K C m.1 m.2.1)
 | _=>none
def exK (top:Nat->Stmt)(A:Ee):=some (true,A.ms.map λ(m:Str×Str×Nat)=>exM m.1 m.2.1 (Ah (top A.i) m.2.2))
structure rk where
 a:vJ
 ks:List Ee
def xp (S:rk)(K:Frag):=(oI S.a K,S.ks.map (obK K))
def v8 (S:rk)(top:Nat->Stmt):=(nP S.a top,S.ks.map (exK top))
end Tr
namespace G
open PySem PySem.Spec PyProof.Rows L2 Tr
def top (i:Nat):Stmt:=HS.main.body.getD i (.Pass ⟨0,0,0,0⟩)
def yH:vJ:=⟨([("_law_events",41),("_law_cell",38),("_law_drawn",39),("_law_wide",40),("is_long",14),("is_whole",12),("is_within",13),("is_pace",17),("rises",15),("are_readings",16),("is_clock",18),("are_clocks",19),("is_event",20),("is_delay",21),("is_letter",22)]:List (Str×Nat))++([("are_letters",23),("is_record",24),("need_record",25),("clock_text",27),("event_text",28),("letter_text",29),("record_text",30),("_law_number",43),("_law_two",44),("_law_due",45),("number_of",31),("numbers_between",32),("clock_of",33),("letter_of",34),("behind",35)]:List (Str×Nat))++([("read_record",36),("_law_told",42),("law",46)]:List (Str×Nat)),(["ValueError","all","bool","enumerate","int","isinstance","len","range","set","sorted","str","tuple"]:List Str),[("MOST_CLOCKS",4),("MOST_LETTERS",8),("MOST_READINGS",4),("LAST_READING",99),("SLOWEST",9),("LONGEST",999)],["ClockError","NoRecord","NoEvent","NoText"]⟩
def asks:rk:=⟨yH,[]⟩
def vw:HZ:=PySem.W.view HS [46]
def lse:List Str:=(["ClockError","NoRecord","NoEvent","NoText","MOST_CLOCKS","MOST_LETTERS","MOST_READINGS","LAST_READING","SLOWEST","LONGEST","is_whole","is_within","is_long","rises","are_readings","is_pace","is_clock","are_clocks","is_event","is_delay"]:List Str)++(["is_letter","are_letters","is_record","need_record","clock_text","event_text","letter_text","record_text","number_of","numbers_between","clock_of","letter_of","behind","read_record","_law_cell","_law_drawn","_law_wide","_law_events","_law_told","_law_number"]:List Str)++(["_law_two","_law_due"]:List Str)
def lhs (w:ID)(h:Heap)(d:Qt)(t:Nat)(os:LA):=(Lg NF HS w 9000 ⟨h,⟨[]⟩,d,t,os⟩).map (λs=>(PJ vw lse (NG HS.main.body) (λ_=>true) true s,(xp asks (qP s.heap),Nat.ble 1 s.toks)))
def rhs (w:ID):=some (PK vw lse,(v8 asks top,true))
end G
namespace G
open PySem Tr PySem.W PyProof.Rows
def lhA (w:ID)(h:Heap)(d:Qt)(t:Nat)(os:LA):=(Lg NF HS w 9000 ⟨h,⟨[]⟩,d,t,os⟩).map λs=>PJ vw lse (NG HS.main.body) (λ_=>true) true s
def rhA (_:ID):=some (PK vw lse)
theorem lhA_r:lhA=lhA:=rfl
theorem rhA_r:rhA=rhA:=rfl
def lhB (w:ID)(h:Heap)(d:Qt)(t:Nat)(os:LA):=(Lg NF HS w 9000 ⟨h,⟨[]⟩,d,t,os⟩).map λs=>oI asks.a (qP s.heap)
def rhB (_:ID):=some (nP asks.a top)
theorem lhB_r:lhB=lhB:=rfl
theorem rhB_r:rhB=rhB:=rfl
def lhC (w:ID)(h:Heap)(d:Qt)(t:Nat)(os:LA):=(Lg NF HS w 9000 ⟨h,⟨[]⟩,d,t,os⟩).map λs=>asks.ks.map (obK (qP s.heap))
def rhC (_:ID):=some (asks.ks.map (exK top))
theorem lhC_r:lhC=lhC:=rfl
theorem rhC_r:rhC=rhC:=rfl
def lhD (w:ID)(h:Heap)(d:Qt)(t:Nat)(os:LA):=(Lg NF HS w 9000 ⟨h,⟨[]⟩,d,t,os⟩).map λs=>Nat.ble 1 s.toks
def rhD (_:ID):=some (true)
theorem lhD_r:lhD=lhD:=rfl
theorem rhD_r:rhD=rhD:=rfl
theorem join3 {α β γ δ:Type}{o:Option α}{f:α->β}{g:α->γ}{k:α->δ}{a:β}{b:γ}{c:δ}(h1:o.map f=some a)(h2:o.map g=some b)(h3:o.map k=some c):o.map (λs=>(f s,g s,k s))=some (a,b,c):=by
 cases o with
 | none=>cases h1
 | some s=>cases h1;cases h2;cases h3;rfl
theorem join4 {α β γ δ ε:Type}{o:Option α}{f:α->β}{g:α->γ}{k:α->δ}{m:α->ε}{a:β}{b:γ}{c:δ}{d:ε}(h1:o.map f=some a)(h2:o.map g=some b)(h3:o.map k=some c)(h4:o.map m=some d):o.map (λs=>(f s,((g s,k s),m s)))=some (a,((b,c),d)):=by
 cases o with
 | none=>cases h1
 | some s=>cases h1;cases h2;cases h3;cases h4;rfl
end G
lay_quick G.lhA G.rhA G.lhB G.rhB G.lhC G.rhC G.lhD
name_quick lhAz for G.lhA by G.lhA_r
name_quick rhAz for G.rhA by G.rhA_r
name_quick lhBz for G.lhB by G.lhB_r
name_quick rhBz for G.rhB by G.rhB_r
name_quick lhCz for G.lhC by G.lhC_r
name_quick rhCz for G.rhC by G.rhC_r
name_quick lhDz for G.lhD by G.lhD_r
section
open PySem PySem.W PyProof.Rows
set_option maxRecDepth 100000 in
theorem G.Hi (w:ID)(os:LA):PySem.W.Fast.lhAz w (boot_heap w.params) boot_drawn boot_toks os=PySem.W.Fast.rhAz w:=by kernel_rfl
set_option maxRecDepth 100000 in
theorem G.Hf (w:ID)(os:LA):PySem.W.Fast.lhBz w (boot_heap w.params) boot_drawn boot_toks os=PySem.W.Fast.rhBz w:=by kernel_rfl
set_option maxRecDepth 100000 in
theorem G.Hd (w:ID)(os:LA):PySem.W.Fast.lhCz w (boot_heap w.params) boot_drawn boot_toks os=PySem.W.Fast.rhCz w:=by kernel_rfl
set_option maxRecDepth 100000 in
theorem G.Ha (w:ID)(os:LA):PySem.W.Fast.lhDz w (boot_heap w.params) boot_drawn boot_toks os=G.rhD w:=by kernel_rfl
theorem G.He (w:ID)(os:LA):G.lhs w (boot_heap w.params) boot_drawn boot_toks os=G.rhs w:=G.join4 (((congrFun (congrFun (congrFun (congrFun (congrFun PySem.W.Fast.lhAz_eq w) _) _) _) os).trans (G.Hi w os)).trans (congrFun PySem.W.Fast.rhAz_eq w).symm) (((congrFun (congrFun (congrFun (congrFun (congrFun PySem.W.Fast.lhBz_eq w) _) _) _) os).trans (G.Hf w os)).trans (congrFun PySem.W.Fast.rhBz_eq w).symm) (((congrFun (congrFun (congrFun (congrFun (congrFun PySem.W.Fast.lhCz_eq w) _) _) _) os).trans (G.Hd w os)).trans (congrFun PySem.W.Fast.rhCz_eq w).symm) ((congrFun (congrFun (congrFun (congrFun (congrFun PySem.W.Fast.lhDz_eq w) _) _) _) os).trans (G.Ha w os))
end
namespace L2
open PySem PySem.Spec PyProof.Rows
abbrev mh:=Sum Int Str
def Bh:mh->Hs->Bool
 | .inl k,v=>L7 k v
 | .inr x,v=>Value.isStrOf x v
def keyH (w:ID):mh->Int
 | .inl k=>hashInt k
 | .inr x=>hashStr w x
theorem b7:∀{k:mh} {v:Hs},Bh k v=true->(∃i t,k=Oa i/\v=Jk i t)\/(∃x t,k=Ob x/\v=Jy x t)
 | .inl i,v,h=>by
  obtain⟨t,e⟩:=Value.isInt_shape (k:=i) (v:=v) h
  exact .inl ⟨i,t,rfl,e⟩
 | .inr x,v,h=>by
  obtain⟨t,e⟩:=Value.isStrOf_shape (x:=x) (v:=v) h;exact .inr ⟨x,t,rfl,e⟩
theorem Dh (a b:Int):decide ((Oa a:mh)=Oa b)=(a == b):=by
 by_cases e:a=b
 ·subst e;simp
 ·have h:¬ (Oa a:mh)=Oa b:=λq=>e (Oa.inj q)
  rw[decide_eq_false h];exact(beq_eq_false_iff_ne.mpr e).symm
theorem De (a b:Str):decide ((Ob a:mh)=Ob b)=decide (a=b):=by
 by_cases e:a=b
 ·subst e;simp
 ·have h:¬ (Ob a:mh)=Ob b:=λq=>e (Ob.inj q)
  rw[decide_eq_false h,decide_eq_false e]
theorem Dg (a:Int)(b:Str):decide ((Oa a:mh)=Ob b)=false:=decide_eq_false (λq=>nomatch q)
theorem Df (a:Str)(b:Int):decide ((Ob a:mh)=Oa b)=false:=decide_eq_false (λq=>nomatch q)
def tO (prog:HZ)(w:ID):PySem.KeyKind prog w mh where
 is:=Bh
 hash:=keyH w
 inj:=λv a b ha hb=>by
  rcases b7 ha with⟨i,t,rfl,rfl⟩ | ⟨x,t,rfl,rfl⟩
  ·rcases b7 hb with⟨j,u,rfl,e⟩ | ⟨y,u,rfl,e⟩
   ·injection e with e1 _;rw[e1]
   ·exact nomatch e
  ·rcases b7 hb with⟨j,u,rfl,e⟩ | ⟨y,u,rfl,e⟩
   ·exact nomatch e
   ·injection e with e1 _;rw[e1]
 byValue:=λk v h=>by
  rcases b7 h with⟨i,t,rfl,rfl⟩ | ⟨x,t,rfl,rfl⟩ <;> rfl
 pyHash:=λhv h=>by
  rcases b7 hv with⟨i,t,rfl,rfl⟩ | ⟨x,t,rfl,rfl⟩
  ·exact wpAny_pyHash_int h
  ·exact wpAny_pyHash_str h
 eqBool:=λhu hv h=>by
  rcases b7 hu with⟨i,t,rfl,rfl⟩ | ⟨x,t,rfl,rfl⟩
  ·rcases b7 hv with⟨j,u,rfl,rfl⟩ | ⟨y,u,rfl,rfl⟩
   ·rw[Dh]at h;exact wpAny_eqBool_int h
   ·rw[Dg]at h;exact SeqAt.EqAt.int_str i t y u _ _ _ _ h
  ·rcases b7 hv with⟨j,u,rfl,rfl⟩ | ⟨y,u,rfl,rfl⟩
   ·rw[Df]at h;exact SeqAt.EqAt.str_int x t j u _ _ _ _ h
   ·rw[De]at h;exact wpAny_eqBool_str h
 «strs»:=λk x t v h=>by
  rcases b7 h with⟨i,u,rfl,e⟩ | ⟨y,u,rfl,e⟩
  ·exact nomatch e
  ·injection e with e1 _
   subst e1;cases v <;> rfl
def RelV:V->Hs->Prop
 | .non,u=>u=Ig
 | .bl b,u=>u=Js b
 | .int i,u=> ∃t,u=Jk i t
 | .str x,u=> ∃t,u=Jy x t
 | .byt b,u=> ∃t,u=Value.bytes b t
 | .flt b,u=> ∃t,u=Value.float b t
 | .ref a,u=>u=Io a
 | .ty n,u=>u=JD n
abbrev Vals:List V->List Hs->Prop:=Qv RelV
theorem Vals.length {xs:List V}{us:List Hs}(r:Vals xs us):xs.length=us.length:=Paired.length r
theorem Vals.get:∀{xs:List V} {us:List Hs} {i:Nat} {x:V},Vals xs us->xs[i]? =some x->∃u,us[i]? =some u/\RelV x u
 | _,_,_,_,.nil,e=>by simp at e
 | _,_,0,_,.cons r _,e=>by simp at e;subst e;exact⟨_,rfl,r⟩
 | _,_,i+1,x,.cons _ t,e=>by
  obtain⟨u,h1,h2⟩:=Vals.get (i:=i) (x:=x) t (by simpa using e)
  exact⟨u,by simpa using h1,h2⟩
theorem Vals.append:∀{xs ys:List V} {us ws:List Hs},Vals xs us->Vals ys ws->Vals (xs++ys) (us++ws)
 | _,_,_,_,.nil,s=>s
 | _,_,_,_,.cons r t,s=> .cons r (Vals.append t s)
theorem Vals.take:∀{xs:List V} {us:List Hs} (n:Nat),Vals xs us->Vals (xs.take n) (us.take n)
 | _,_,0,_=> .nil
 | _,_,_+1,.nil=> .nil
 | _,_,n+1,.cons r t=> .cons r (Vals.take n t)
theorem Vals.drop:∀{xs:List V} {us:List Hs} (n:Nat),Vals xs us->Vals (xs.drop n) (us.drop n)
 | _,_,0,r=>r
 | _,_,_+1,.nil=> .nil
 | _,_,n+1,.cons _ t=>Vals.drop n t
def D8:Option V->Option Hs->Prop
 | some v,some u=>RelV v u
 | none,none=>True
 | _,_=>False
def KV {κ:Type}:List (κ×V)->List (κ×Hs)->Prop:=Qv λ(p:κ×V) (q:κ×Hs)=>p.1=q.1/\RelV p.2 q.2
def kV:mh->V
 | .inl i=> .int i
 | .inr x=> .str x
inductive HO where
 /-- a list -/
 | lst (xs:List V)
 /-- a tuple (never changes) -/
 | tup (xs:List V)
 /-- a dict whose keys are ints and texts;one whose keys are tuples of ints and texts (the empty one is both) -/
 | dK (kvs:List (mh×V)) | dT (kvs:List (List mh×V))
 /-- a set of ints: its members,its size -/
 | set (S:Int->Bool) (n:Nat)
 /-- an instance of the class at C,its dict at dx,its attributes -/
 | ins (C dx:Addr) (fs:List (Str×V))
 /-- the dict of the instance at x -/
 | own (x:Addr)
 /-- the dict of an exception -/
 | xd (fs:List (Str×V))
 /-- a bound method,f of x -/
 | met (f x:Addr)
 /-- a range object lo,lo+1,.. below hi -/
 | rng (lo hi:Int)
 /-- a thing that is known to the object (the script;a dict while a loop walks it): read,never written while it is so -/
 | frz (o:Obj) (u:HO)
 /-- a code object's table -/
 | tbl (ps:Array Hs)
 /-- any other thing,by what is true of its one object (a def of one's own: SetO a S n:=HO.ext λh=> ..) -/
 | ext (φ:Heap->Prop)
abbrev Hp:=Addr->Option HO
def dB (H:Hp)(a:Addr)(o:HO):Hp:=λb=>if b=a then some o else H b
theorem bx {H:Hp}{a:Addr}{o:HO}:dB H a o a=some o:=by unfold dB;rw[if_pos rfl]
theorem a8 {H:Hp}{a b:Addr}{o:HO}(h:b≠a):dB H a o b=H b:=by unfold dB;rw[if_neg h]
theorem bP {H:Hp}{a b:Addr}{o:HO}(h:H a=some o)(h':H b=none):a≠b:=by
 intro e;subst e;rw[h]at h';cases h'
section
variable (P:HZ)(w:ID)
def ObjOk (H:Hp)(h:Heap)(a:Addr):HO->Prop
 | .lst xs=>xs.length<=sizeLine/\∃(its:List Hs) (n:Nat),Vals xs its/\h.get? a=some { cls:=.type "list",data:=.seq its.toArray n }
 | .tup xs=>xs.length<=sizeLine/\∃its:List Hs,Vals xs its/\Qs h a its.toArray
 | .dK kvs=>kvs.length<=sizeLine/\(a == sysModules)=false/\∃vs,KV kvs vs/\h.DictOf (tO P w) a vs
 | .dT kvs=>kvs.length<=sizeLine/\(a == sysModules)=false/\∃xs:List (List mh×Addr×Hs),
   Qv (λ(p:List mh×V) (q:List mh×Addr×Hs)=>p.1=q.1/\H q.2.1=some (.tup (p.1.map kV))/\RelV p.2 q.2.2) kvs xs ∧
   ∃o es ep,h.get? a=some o/\o.ExactDict/\o.data= .dict es ep/\es.toList=xs.map (entryOfKey (tupleKind (tO P w)))/\(xs.map (·.1)).Nodup
 | .set S n=>h.SetOf (intKind P w) a S n
 | .ins C dx fs=>H dx=some (.own a)/\fs.length<=1000/\dx≠a/\h.get? a=some (Np C dx) ∧
   ∃mA,h.Ns1 dx mA/\(∀f,D8 (fs.lookup f) (mA f))/\PySem.Within mA (fs.map (·.1))
 | .own _=> ∃o,h.get? a=some o
 | .xd fs=> ∃mA,h.Ns1 a mA/\∀f,D8 (fs.lookup f) (mA f)
 | .rng lo hi=> ∃t u v,h.get? a=some { cls:=.type "range",data:=.fields #[.int lo t,.int hi u,.int 1 v] }
 | .frz o u=>h.get? a=some o/\ObjOk H h a u
 | .tbl ps=>h.get? a=some { cls:=.none,data:=.fields ps }
 | .met f x=>h.get? a=some (ME (.ref f) (.ref x))
 | .ext φ=>φ h/\(∃o,h.get? a=some o)/\∀h1 h2:Heap,φ h1->(∀o,h1.get? a=some o->h2.get? a=some o)->φ h2
def HOk (H:Hp)(h:Heap):Prop:=∀a o,H a=some o->ObjOk P w H h a o
end
section
variable {P:HZ}{w:ID}{H H':Hp}{h h':Heap}{a:Addr}{o:HO}
theorem ObjOk.lt (x:ObjOk P w H h a o):a<h.objs.size:=by
 cases o with
 | lst xs=>obtain⟨_,_,_,_,e⟩:=x;exact HH e
 | tup xs=>obtain⟨_,_,_,p⟩:=x;exact p.lt
 | dK kvs=>obtain⟨_,_,_,_,o,_,_,e,_⟩:=x;exact HH e
 | dT kvs=>obtain⟨_,_,_,_,o,_,_,e,_⟩:=x;exact HH e
 | set S n=>obtain⟨o,_,_,_,e,_⟩:=x;exact HH e
 | ins C dx fs=>obtain⟨_,_,_,e,_⟩:=x;exact HH e
 | own y=>obtain⟨_,e⟩:=x;exact HH e
 | xd fs=>obtain⟨_,⟨_,_,_,e,_⟩,_⟩:=x;exact HH e
 | rng lo hi=>obtain⟨_,_,_,e⟩:=x;exact HH e
 | frz ob u=>obtain⟨e,_⟩:=x;exact HH e
 | tbl ps=>exact HH (show h.get? a=some _ from x)
 | met f y=>exact HH (show h.get? a=some _ from x)
 | ext φ=>obtain⟨_,⟨_,e⟩,_⟩:=x;exact HH e
theorem Paired.Hh {α β:Type}{F G:α->β->Prop}:∀{l₁:List α} {l₂:List β},Qv F l₁ l₂->(∀a b,F a b->G a b)->Qv G l₁ l₂
 | _,_,.nil,_=> .nil
 | _,_,.cons r t,f=> .cons (f _ _ r) (Paired.Hh t f)
theorem ObjOk.GL (x:ObjOk P w H h a o)(k:∀b u,(b=a\/H b=some (.own a))->h.get? b=some u->h'.get? b=some u)
  (ho:∀b,H b=some (.own a)->H' b=some (.own a)) (ht:∀b xs,H b=some (.tup xs)->H' b=some (.tup xs)):ObjOk P w H' h' a o:=by
 induction o with
 | lst xs=>obtain⟨z,its,n,r,e⟩:=x;exact⟨z,its,n,r,k _ _ (.inl rfl) e⟩
 | tup xs=>obtain⟨z,its,r,ob,e,c⟩:=x;exact⟨z,its,r,ob,k _ _ (.inl rfl) e,c⟩
 | dK kvs=>obtain⟨z,y,vs,r,ob,es,ep,e,c⟩:=x;exact⟨z,y,vs,r,ob,es,ep,k _ _ (.inl rfl) e,c⟩
 | dT kvs=>
  obtain⟨z,y,xs,r,ob,es,ep,e,c⟩:=x
  exact⟨z,y,xs,Paired.Hh r λp q z=>⟨z.1,ht _ _ z.2.1,z.2.2⟩,ob,es,ep,k _ _ (.inl rfl) e,c⟩
 | set S n=>obtain⟨ob,es,ep,t,e,c⟩:=x;exact⟨ob,es,ep,t,k _ _ (.inl rfl) e,c⟩
 | ins C dx fs=>
  obtain⟨d,z,ne,e,mA,⟨od,es,ep,e2,c⟩,r⟩:=x
  exact⟨ho _ d,z,ne,k _ _ (.inl rfl) e,mA,⟨od,es,ep,k _ _ (.inr d) e2,c⟩,r⟩
 | own y=>obtain⟨ob,e⟩:=x;exact⟨ob,k _ _ (.inl rfl) e⟩
 | xd fs=>obtain⟨mA,⟨od,es,ep,e,c⟩,r⟩:=x;exact⟨mA,⟨od,es,ep,k _ _ (.inl rfl) e,c⟩,r⟩
 | rng lo hi=>obtain⟨t,u,v,e⟩:=x;exact⟨t,u,v,k _ _ (.inl rfl) e⟩
 | frz ob u ih=>obtain⟨e,q⟩:=x;exact⟨k _ _ (.inl rfl) e,ih q⟩
 | tbl ps=>
  have e:h.get? a=some { cls:=.none,data:=.fields ps }:=x
  show h'.get? a=some { cls:=.none,data:=.fields ps }
  exact k a _ (.inl rfl) e
 | met f y=>
  have e:h.get? a=some (ME (.ref f) (.ref y)):=x
  show h'.get? a=some (ME (.ref f) (.ref y))
  exact k a _ (.inl rfl) e
 | ext φ=>obtain⟨p,⟨o,e⟩,st⟩:=x;exact⟨st _ _ p λo q=>k _ _ (.inl rfl) q,⟨o,k _ _ (.inl rfl) e⟩,st⟩
theorem HOk.lt (x:HOk P w H h)(e:H a=some o):a<h.objs.size:=(x a o e).lt
theorem HOk.fresh (x:HOk P w H h)(e:h.objs.size<=a):H a=none:=by
 cases q:H a with
 | none=>rfl
 | some u=>exact absurd (HM (x.lt q) e) (Ia _)
theorem HOk.kept (x:HOk P w H h)(k:∀b u,h.get? b=some u->h'.get? b=some u):HOk P w H h':=λa o e=>
 (x a o e).GL (λb u _ q=>k b u q) (λ_ q=>q) λ_ _ q=>q
theorem HOk.laid (x:HOk P w H h)(k:∀b u,h.get? b=some u->h'.get? b=some u)(hp:h.objs.size<=a)(new:ObjOk P w (dB H a o) h' a o):HOk P w (dB H a o) h':=λb u e=>by
 have hn:=x.fresh hp
 by_cases hb:b=a
 ·subst hb;rw[bx]at e;cases e;exact new
 ·rw[a8 hb]at e
  exact(x b u e).GL (λc v _ q=>k c v q) (λc q=>by rw[a8 (bP q hn)];exact q) λc xs q=>by rw[a8 (bP q hn)];exact q
end
def Rd (H:Hp)(a:Addr)(u:HO):Prop:=H a=some u\/∃o,H a=some (.frz o u)
theorem Rd.ok {P:HZ}{w:ID}{H:Hp}{h:Heap}{a:Addr}{u:HO}(r:Rd H a u)(x:HOk P w H h):ObjOk P w H h a u:=by
 rcases r with r | ⟨o,r⟩
 ·exact x a u r
 ·obtain⟨_,q⟩:=x a _ r
  exact q
def GD:Option HO->Prop
 | some (.lst _)=>True
 | some (.dK _)=>True
 | some (.dT _)=>True
 | some (.set _ _)=>True
 | some (.ins _ _ _)=>True
 | some (.ext _)=>True
 | _=>False
section
variable {P:HZ}{w:ID}{H:Hp}{h h':Heap}{x e:Addr}{o':HO}
theorem HOk.write (ok:HOk P w H h)(mu:GD (H x))(he:e=x\/H e=some (.own x))(k:∀b u,b≠e->h.get? b=some u->h'.get? b=some u)(heo:∃u,h'.get? e=some u)
  (new:ObjOk P w (dB H x o') h' x o'):HOk P w (dB H x o') h':=λb u q=>by
 have nown:∀c y,H c=some (.own y)->c≠x:=λc y r z=>by subst z;rw[r]at mu;exact mu
 have ntup:∀c xs,H c=some (.tup xs)->c≠x:=λc xs r z=>by subst z;rw[r]at mu;exact mu
 by_cases hb:b=x
 ·subst hb;rw[bx]at q;cases q;exact new
 ·rw[a8 hb]at q
  by_cases hbe:b=e
  ·have q':H b=some (.own x):=by
    rcases he with z | z
    ·exact absurd (hbe.trans z) hb
    ·rw[hbe];exact z
   rw[q]at q';cases q';obtain⟨v,hv⟩:=heo;exact⟨v,by rw[hbe];exact hv⟩
  ·refine(ok b u q).GL (λc v hc r=>k c v ?_ r) (λc r=>by rw[a8 (nown c b r)];exact r) λc xs r=>by rw[a8 (ntup c xs r)];exact r
   rcases hc with rfl | hc
   ·exact hbe
   ·rintro rfl
    rcases he with z | z
    ·exact nown c b hc z
    ·rw[hc]at z;cases z;exact hb rfl
end
structure Un (fs ex:List Addr)(H H':Hp)(h h':Heap):Prop where
 keep:∀b o,h.get? b=some o->H b=none->b∉fs->b∉ex->h'.get? b=some o
 slot:∀b o,h.get? b=some o->H b=none->b∈fs->b∉ex->∃sl,h'.get? b=some { o with slots:=sl }
 free:∀b o,h.get? b=some o->H b=none->b∉ex->H' b=none
 there:∀b o,h.get? b=some o->b∉ex->∃o',h'.get? b=some o'
 tups:∀b xs,H b=some (.tup xs)->H' b=some (.tup xs)
 frzs:∀b o u,H b=some (.frz o u)->H' b=some (.frz o u)
 tbls:∀b ps,H b=some (.tbl ps)->∃more,H' b=some (.tbl (ps++more))
section
variable {fs fs' ex ex':List Addr}{H H1 H2:Hp}{h h1 h2 h':Heap}{a x e:Addr}{o:HO}
theorem Un.any (u:Un fs ex H H1 h h1){b:Addr}{ob:Obj}(q:h.get? b=some ob)(n:H b=none)(hx:b∉ex):∃sl,h1.get? b=some { ob with slots:=sl }:=by
 by_cases hb:b∈fs
 ·exact u.slot b ob q n hb hx
 ·exact⟨ob.slots,u.keep b ob q n hb hx⟩
theorem Un.kept (k:∀b u,h.get? b=some u->h'.get? b=some u):Un fs ex H H h h':=
 ⟨λb ob q _ _ _=>k b ob q,λb ob q _ _ _=>⟨ob.slots,k b ob q⟩,λ_ _ _ n _=>n,λb ob q _=>⟨ob,k b ob q⟩,λ_ _ q=>q,λ_ _ _ q=>q,λ_ ps q=>⟨#[],by rw[q];simp⟩⟩
theorem Un.refl:Un fs ex H H h h:=Un.kept λ_ _ q=>q
theorem Un.laid (k:∀b u,h.get? b=some u->h'.get? b=some u)(hp:h.objs.size<=a)(hn:H a=none):Un fs ex H (dB H a o) h h' where
 keep:=λb u q _ _ _=>k b u q
 slot:=λb u q _ _ _=>⟨u.slots,k b u q⟩
 free:=λb u q n _=>by rw[a8 (Iu (HM (HH q) hp))];exact n
 there:=λb u q _=>⟨u,k b u q⟩
 tups:=λb xs q=>by rw[a8 (bP q hn)];exact q
 frzs:=λb u xs q=>by rw[a8 (bP q hn)];exact q
 tbls:=λb ps q=>⟨#[],by rw[a8 (bP q hn),q];simp⟩
theorem Un.write (mu:GD (H x))(he:e=x\/H e=some (.own x))(k:∀b u,b≠e->h.get? b=some u->h'.get? b=some u)(heo:∃u,h'.get? e=some u):Un fs ex H (dB H x o) h h':=by
 have hx:∀b,H b=none->b≠x:=λb n z=>by subst z;rw[n]at mu;exact mu
 have hb:∀b,H b=none->b≠e:=λb n z=>by
  subst z;rcases he with r | r
  ·exact hx b n r
  ·rw[n]at r;cases r
 have hm:∀b u,H b=some u->¬ GD (some u)->b≠x:=λb u q nm z=>by subst z;rw[q]at mu;exact nm mu
 refine⟨λb u q n _ _=>k b u (hb b n) q,λb u q n _ _=>⟨u.slots,k b u (hb b n) q⟩,λb u q n _=>by rw[a8 (hx b n)];exact n,λb u q _=> ?_,
  λb xs q=>by rw[a8 (hm b _ q λz=>z)];exact q,λb u xs q=>by rw[a8 (hm b _ q λz=>z)];exact q,λb ps q=>⟨#[],by rw[a8 (hm b _ q λz=>z),q];simp⟩⟩
 by_cases hbe:b=e
 ·subst hbe;exact heo
 ·exact⟨u,k b u hbe q⟩
end
def trk (h:Heap)(H:Hp):List Addr:=(Iy h.objs.size).filter λa=>(H a).isSome
def o7 (h:Heap)(H:Hp):Heap:=L1 h (trk h H)
theorem vj (h:Heap)(H:Hp):(o7 h H).objs.size=h.objs.size:=PySem.W.hideAll_size _ _
theorem yf {h:Heap}{H:Hp}{b:Addr}{o:Obj}(e:h.get? b=some o)(n:H b=none):(o7 h H).get? b=some o:=
 JG _ e λhm=>by
  have q:(H b).isSome=true:=(Lk.mp hm).2;rw[n]at q;simp at q
theorem zW {h:Heap}{H:Hp}{b:Addr}{o:Obj}(e:(o7 h H).get? b=some o):h.get? b=some o/\H b=none:=by
 have e':h.get? b=some o:=Lh (trk h H) e;refine⟨e',?_⟩
 cases q:H b with
 | none=>rfl
 | some x=>
  have hm:b∈trk h H:=Lk.mpr ⟨IX.mpr (HH e'),by simp[q]⟩
  have z:(o7 h H).get? b=none:=K1 (trk h H) hm;rw[z]at e;cases e
def A2 (g h:Heap)(L:Addr):List (Addr×Obj):=(Iy h.objs.size).filterMap λa=>if a=L\/(g.get? a).isSome=true then none else(h.get? a).map λo=>(a,o)
def rest (g h:Heap)(L d:Addr):List (Addr×Obj):=(A2 g h L).filter λp=>decide (p.1≠d)
structure Mod (K:Ho)(mg:Str->Option Hs)(base:Heap):Prop where
 kin:K.In base
 glob:base.Ns Iz mg
 blt:∃mb,base.Ns L0 mb/\∀x:Str,x≠ "__name__"->mb x=Ir x
 nolimit:base.NoLimit
structure Cx where
 prog:HZ
 w:ID
 K:Ho
 mg:Str->Option Hs
 base:Heap
 A:Iw
 N:List Str
 s₀:Hr
 H₀:Hp
 env:Env
 outer:List Env
 stack:List Env
 ex:List Addr
 fn:Str->Bool
 calm:Bool
 pn:List (Addr×Obj)
 xe:Hs->Hr->Prop
def jH (l:List Env):List Addr:=l.filterMap (·.frame)
abbrev Cx.fs (X:Cx):List Addr:=jH X.outer
def rl (sc:KY)(x:Str):Prop:=sc.names.lookup x=some .local\/sc.names.lookup x=some .cell\/sc.names.lookup x=some .free
def Loc (sc:KY)(x:Str):Prop:=sc.names.lookup x=some .local\/sc.names.lookup x=some .cell
def Look (env:Env)(h:Heap)(m:Str->Option Hs)(x:Str)(u:Hs):Prop:=
 (env.kindOf x=some .local/\m x=some u)\/((env.kindOf x=some .cell\/env.kindOf x=some .free)/\∃c,env.cells.lookup x=some c/\h.IsCell c (some u))
structure Cx.Ok (X:Cx):Prop where
 mod:Mod X.K X.mg X.base
 kind:X.env.scope.kind= .function
 glob:X.env.globals=Iz
 blt:X.env.builtins=L0
 above:X.s₀.heap.objs.size<=X.env.locals
 inj:∀x y c,X.env.cells.lookup x=some c->X.env.cells.lookup y=some c->x=y
 has:∀x,(X.env.kindOf x=some .cell\/X.env.kindOf x=some .free)->∃c,X.env.cells.lookup x=some c
 cab:∀x c,X.fn x=true->X.env.cells.lookup x=some c->X.s₀.heap.objs.size<=c
 hd:X.calm=true->X.A.handled=none
 frames:X.A.frames=some X.stack
 stk:X.stack=X.outer\/(X.stack=X.env::X.outer/\X.env.frame=some X.env.locals)
 exf:∀b∈X.ex,b≠X.env.locals/\∀x c,X.env.cells.lookup x=some c->c≠b
 bs:∀b o,X.base.get? b=some o->X.s₀.heap.get? b=some o/\X.H₀ b=none
 bsz:X.base.objs.size<=X.s₀.heap.objs.size
 noex:∀b o,X.base.get? b=some o->b∉X.ex
 exfs:∀b∈X.ex,b∉X.fs
 funs:X.s₀.heap.FunFrames X.base X.outer
 frf:∀b∈X.fs,X.H₀ b=none
structure Inv (X:Cx)(pins:List (Addr×Obj))(σ:List (Option V))(H:Hp)(s:Hr):Prop where
 ok:X.Ok
 os:s.os=X.s₀.os
 bare:NH s.gens
 base:Un X.fs X.ex X.H₀ H X.s₀.heap s.heap
 loc:∃m,s.heap.Ns X.env.locals m/\∀(i:Nat) (x:Str) (v:V),X.N[i]? =some x->σ[i]? =some (some v)->rl X.env.scope x->∃u,RelV v u/\Look X.env s.heap m x u
 cell:∀x c,X.env.cells.lookup x=some c->∃v,s.heap.IsCell c v
 free:H X.env.locals=none
 freeC:∀x c,X.env.cells.lookup x=some c->H c=none
 pin:∀p∈X.pn++pins,s.heap.get? p.1=some p.2/\H p.1=none/\p.1≠X.env.locals/\p.1∉X.fs/\∀v,p.2.data≠ .cell v
 hok:HOk X.prog X.w H s.heap
 len:σ.length=X.N.length
section
variable {X:Cx}{pins:List (Addr×Obj)}{σ:List (Option V)}{H H':Hp}{s:Hr}{h':Heap}
theorem Cx.Ok.Hj (ok:X.Ok){b:Addr}{o:Obj}(e:X.base.get? b=some o):b∉X.fs:=λhb=>by
 have:=(ok.funs.mem hb).1;rw[e]at this;cases this
theorem Inv.bs (I:Inv X pins σ H s):∀b o,X.base.get? b=some o->s.heap.get? b=some o/\H b=none:=λb o e=>
 ⟨I.base.keep b o (I.ok.bs b o e).1 (I.ok.bs b o e).2 (I.ok.Hj e) (I.ok.noex b o e),I.base.free b o (I.ok.bs b o e).1 (I.ok.bs b o e).2 (I.ok.noex b o e)⟩
theorem Inv.bk (I:Inv X pins σ H s):∀b o,X.base.get? b=some o->s.heap.get? b=some o:=λb o e=>(I.bs b o e).1
theorem Inv.mod (I:Inv X pins σ H s):Mod X.K X.mg X.base:=I.ok.mod
theorem Inv.kIn (I:Inv X pins σ H s):X.K.In s.heap:=I.ok.mod.kin.keeps I.bk
theorem Inv.lt (I:Inv X pins σ H s):X.env.locals<s.heap.objs.size:=let ⟨_,hn,_⟩:=I.loc;hn.lt
theorem Inv.sz (I:Inv X pins σ H s):X.s₀.heap.objs.size<=s.heap.objs.size:=H0 I.ok.above (KD I.lt)
theorem Inv.Hm (I:Inv X pins σ H s){a:Addr}(h:s.heap.objs.size<=a):a∉X.fs:=λhb=>by
 obtain⟨_,o,ho,_⟩:=I.ok.funs.mem hb;exact absurd (HM (HH ho) (H0 I.sz h)) (Ia _)
theorem Inv.cne (I:Inv X pins σ H s):∀x c,X.env.cells.lookup x=some c->c≠X.env.locals:=λx c e z=>by
 obtain⟨v,o,ho,hd⟩:=I.cell x c e;obtain⟨m,⟨o',es,ep,ho',hd',_⟩,_⟩:=I.loc;rw[z,ho']at ho;cases ho;rw[hd']at hd;cases hd
theorem Inv.funs (I:Inv X pins σ H s):s.heap.FunFrames X.base X.outer:=by
 have all:∀(l:List Env),(∀b∈jH l,b∈X.fs)->X.s₀.heap.FunFrames X.base l->s.heap.FunFrames X.base l:=by
  intro l
  induction l with
  | nil=>intro _ _;trivial
  | cons env r ih=>
   intro hs hl;obtain⟨hk,⟨L,o,hf,hn,ho,hd⟩,hr⟩:=hl
   have hL:L∈X.fs:=hs L (by unfold jH;rw[IQ,hf];exact HD)
   obtain⟨sl,e⟩:=I.base.slot L o ho (I.ok.frf L hL) hL λz=>I.ok.exfs L z hL
   exact⟨hk,⟨L,_,hf,hn,e,hd⟩,ih (λb hb=>hs b (by unfold jH;rw[IQ,hf];exact Hv _ hb)) hr⟩
 exact all X.outer (λ_ hb=>hb) I.ok.funs
theorem Inv.stack (I:Inv X pins σ H s):s.heap.FunFrames X.base X.stack:=by
 rcases I.ok.stk with e | ⟨e,hf⟩
 ·rw[e];exact I.funs
 ·rw[e]
  obtain⟨m,hn,_⟩:=I.loc;refine .cons (by rw[I.ok.kind];decide) hf hn ?_ I.funs
  exact Heap.get?_none_of_le (H0 I.ok.bsz I.ok.above)
theorem Inv.GR (I:Inv X pins σ H s):∀b∈jH X.stack,b∈X.env.locals::X.fs:=λb hb=>by
 rcases I.ok.stk with e | ⟨e,hf⟩
 ·rw[e]at hb;exact Hv _ hb
 ·rw[e]at hb
  unfold jH at hb;rw[IQ,hf]at hb;exact hb
theorem Inv.GH (I:Inv X pins σ H s):∀b∈jH X.stack,H b=none:=λb hb=>by
 rcases HB.mp (I.GR b hb)with e | hb
 ·rw[e];exact I.free
 ·obtain⟨_,o,ho,_⟩:=I.ok.funs.mem hb
  exact I.base.free b o ho (I.ok.frf b hb) λz=>I.ok.exfs b z hb
theorem Inv.step {g':Array NT}{t':Nat}{d':Qt}{ch:List Addr}(I:Inv X pins σ H s)
  (hch:∀b∈ch,(b∈X.ex\/X.s₀.heap.objs.size<=b)/\b≠X.env.locals/\(∀x c,X.env.cells.lookup x=some c->c≠b)/\∀p∈X.pn++pins,p.1≠b)
  (keep:∀b o,b≠X.env.locals->b∉X.fs->b∉ch->s.heap.get? b=some o->H b=none->h'.get? b=some o)
  (slot:∀b o,b≠X.env.locals->b∈X.fs->b∉ch->s.heap.get? b=some o->H b=none->∃sl,h'.get? b=some { o with slots:=sl }) (free:∀b o,b∉ch->s.heap.get? b=some o->H b=none->H' b=none)
  (there:∀b o,b∉ch->s.heap.get? b=some o->∃o',h'.get? b=some o')
  (tups:∀b xs,H b=some (.tup xs)->H' b=some (.tup xs)) (frzs:∀b o u,H b=some (.frz o u)->H' b=some (.frz o u)) (tbls:∀b ps,H b=some (.tbl ps)->∃more,H' b=some (.tbl (ps++more)))
  (ns:∀m,s.heap.Ns X.env.locals m->h'.Ns X.env.locals m) (hok:HOk X.prog X.w H' h') (hg:NH g') :
  Inv X pins σ H' { s with heap:=h',gens:=g',drawn:=d',toks:=t' }:=by
 have neL:∀b o,X.s₀.heap.get? b=some o->b≠X.env.locals:=λb o e=>Iu (HM (HH e) I.ok.above)
 have neC:∀b o,X.s₀.heap.get? b=some o->b∉X.ex->b∉ch:=λb o e hx hb=>by
  rcases(hch b hb).1 with z | z
  ·exact hx z
  ·exact absurd (HM (HH e) z) (Ia _)
 have cellK:∀x c,X.env.cells.lookup x=some c->∀v,s.heap.IsCell c v->h'.IsCell c v:=λx c e v hh_=>by
  obtain⟨o,ho,hd⟩:=hh_
  have nch:c∉ch:=λz=>(hch c z).2.2.1 x c e rfl
  by_cases hc:c∈X.fs
  ·obtain⟨sl,q⟩:=slot c o (I.cne x c e) hc nch ho (I.freeC x c e)
   exact⟨_,q,hd⟩
  ·exact⟨o,keep c o (I.cne x c e) hc nch ho (I.freeC x c e),hd⟩
 refine⟨I.ok,I.os,hg,⟨λb o e n hb hx=> ?_,λb o e n hb hx=> ?_,λb o e n hx=> ?_,λb o e hx=> ?_,λb xs e=>tups b xs (I.base.tups b xs e),λb o xs e=>frzs b o xs (I.base.frzs b o xs e),λb ps e=> ?_⟩,?_,λx c e=> ?_,?_,λx c e=> ?_,λp hp=> ?_,hok,I.len⟩
 ·exact keep b o (neL b o e) hb (neC b o e hx) (I.base.keep b o e n hb hx) (I.base.free b o e n hx)
 ·obtain⟨sl,e1⟩:=I.base.slot b o e n hb hx
  obtain⟨sl',e2⟩:=slot b _ (neL b o e) hb (neC b o e hx) e1 (I.base.free b o e n hx);exact⟨sl',e2⟩
 ·obtain⟨o',e1⟩:=I.base.there b o e hx
  exact free b o' (neC b o e hx) e1 (I.base.free b o e n hx)
 ·obtain⟨o',e1⟩:=I.base.there b o e hx
  exact there b o' (neC b o e hx) e1
 ·obtain⟨m1,e1⟩:=I.base.tbls b ps e
  obtain⟨m2,e2⟩:=tbls b _ e1;exact⟨m1++m2,by rw[e2,Array.append_assoc]⟩
 ·obtain⟨m,hn,hl⟩:=I.loc
  refine⟨m,ns m hn,λi x v e1 e2 e3=> ?_⟩
  obtain⟨u,r,l⟩:=hl i x v e1 e2 e3;refine⟨u,r,?_⟩
  rcases l with l | ⟨k,c,e,z⟩
  ·exact .inl l
  ·exact .inr ⟨k,c,e,cellK x c e _ z⟩
 ·obtain⟨v,z⟩:=I.cell x c e
  exact⟨v,cellK x c e v z⟩
 ·obtain⟨m,⟨o,_,_,ho,_⟩,_⟩:=I.loc
  exact free _ o (λz=>(hch _ z).2.1 rfl) ho I.free
 ·obtain⟨v,o,ho,hd⟩:=I.cell x c e
  exact free c o (λz=>(hch c z).2.2.1 x c e rfl) ho (I.freeC x c e)
 ·obtain⟨e,n,ne,nf,d⟩:=I.pin p hp
  have nch:p.1∉ch:=λz=>(hch p.1 z).2.2.2 p hp rfl
  exact⟨keep p.1 p.2 ne nf nch e n,free p.1 p.2 nch e n,ne,nf,d⟩
theorem Inv.un {t':Nat}(I:Inv X pins σ H s)(u:Un X.fs [] H H' s.heap h')(hok:HOk X.prog X.w H' h'):Inv X pins σ H' { s with heap:=h',toks:=t' }:=by
 obtain⟨m,⟨o,es,ep,ho,r⟩,_⟩:=id I.loc;obtain⟨sl,hL⟩:=u.any ho I.free (by simp)
 exact I.step (g':=s.gens) (d':=s.drawn) (ch:=[]) (λ_ z=>nomatch z) (λb o _ hb _ e n=>u.keep b o e n hb (by simp)) (λb o _ hb _ e n=>u.slot b o e n hb (by simp)) (λb o _ e n=>u.free b o e n (by simp)) (λb o _ e=>u.there b o e (by simp)) u.tups u.frzs u.tbls (λm' hm=>by
  obtain⟨o',es',ep',ho',r'⟩:=hm;rw[ho]at ho';cases ho';exact⟨_,es',ep',hL,r'⟩) hok I.bare
theorem Inv.call {g':Array NT}{t':Nat}{d':Qt}{ch:List Addr}(I:Inv X pins σ H s)(u:Un (jH X.stack) ch H H' s.heap h')(hok:HOk X.prog X.w H' h')(hg:NH g')
  (hch:∀b∈ch,(b∈X.ex\/X.s₀.heap.objs.size<=b)/\b≠X.env.locals/\(∀x c,X.env.cells.lookup x=some c->c≠b)/\∀p∈X.pn++pins,p.1≠b) :
  Inv X pins σ H' { s with heap:=h',gens:=g',drawn:=d',toks:=t' }:=by
 obtain⟨m,⟨o,es,ep,ho,r⟩,_⟩:=id I.loc;obtain⟨sl,hL⟩:=u.any ho I.free λz=>(hch _ z).2.1 rfl
 exact I.step (ch:=ch) hch (λb o hL hb hc e n=>u.keep b o e n (λz=>(HB.mp (I.GR b z)).elim hL hb) hc) (λb o _ _ hc e n=>u.any e n hc) (λb o hc e n=>u.free b o e n hc) (λb o hc e=>u.there b o e hc) u.tups u.frzs u.tbls (λm' hm=>by
  obtain⟨o',es',ep',ho',r'⟩:=hm;rw[ho]at ho';cases ho';exact⟨_,es',ep',hL,r'⟩) hok hg
theorem Inv.turned {t':Nat}{it:Addr}(I:Inv X pins σ H s)(k:∀b o,b≠it->s.heap.get? b=some o->h'.get? b=some o)(hn:H it=none)(hL:it≠X.env.locals)
  (h1:it∈X.ex\/X.s₀.heap.objs.size<=it) (h2:∀x c,X.env.cells.lookup x=some c->c≠it) (h3:∀p∈X.pn++pins,p.1≠it):Inv X pins σ H { s with heap:=h',toks:=t' }:=by
 have nit:∀b u,H b=some u->b≠it:=λb u e z=>by rw[z,hn]at e;cases e
 refine I.step (g':=s.gens) (d':=s.drawn) (ch:=[it]) (λb hb=> ?_) (λb o _ _ hc e _=>k b o (λz=>hc (by simp[z])) e) (λb o _ _ hc e _=>⟨o.slots,k b o (λz=>hc (by simp[z])) e⟩) (λ_ _ _ _ n=>n)
  (λb o hc e=>⟨o,k b o (λz=>hc (by simp[z])) e⟩) (λ_ _ e=>e) (λ_ _ _ e=>e) (λb ps e=>⟨#[],by rw[e];simp⟩) (λm hm=> ?_) (λb u e=> ?_) I.bare
 ·have e:b=it:=by simpa using hb
  subst e;exact⟨h1,hL,h2,h3⟩
 ·obtain⟨o,es,ep,ho,r⟩:=hm
  exact⟨o,es,ep,k _ o (KF hL) ho,r⟩
 ·refine(I.hok b u e).GL (λc v hc q=>k c v ?_ q) (λ_ q=>q) λ_ _ q=>q
  rcases hc with z | z
  ·rw[z];exact nit b u e
  ·exact nit c _ z
theorem Inv.tok (I:Inv X pins σ H s)(t:Nat):Inv X pins σ H { s with toks:=t }:=I.un (h':=s.heap) (t':=t) Un.refl I.hok
theorem Inv.kept {t':Nat}(I:Inv X pins σ H s)(k:∀b u,s.heap.get? b=some u->h'.get? b=some u):Inv X pins σ H { s with heap:=h',toks:=t' }:=I.un (Un.kept k) (I.hok.kept k)
theorem Inv.laid {a:Addr}{o:HO}{t':Nat}(I:Inv X pins σ H s)(k:∀b u,s.heap.get? b=some u->h'.get? b=some u)(hp:s.heap.objs.size<=a)(new:ObjOk X.prog X.w (dB H a o) h' a o) :
  Inv X pins σ (dB H a o) { s with heap:=h',toks:=t' }:=I.un (Un.laid k hp (I.hok.fresh hp)) (I.hok.laid k hp new)
theorem Inv.write {x e:Addr}{o:HO}{t':Nat}(I:Inv X pins σ H s)(mu:GD (H x))(he:e=x\/H e=some (.own x))(k:∀b u,b≠e->s.heap.get? b=some u->h'.get? b=some u)(heo:∃u,h'.get? e=some u)
  (new:ObjOk X.prog X.w (dB H x o) h' x o):Inv X pins σ (dB H x o) { s with heap:=h',toks:=t' }:=I.un (Un.write mu he k heo) (I.hok.write mu he k heo new)
theorem Inv.GW {pins':List (Addr×Obj)}(I:Inv X pins σ H s)(h:∀p∈pins',s.heap.get? p.1=some p.2/\H p.1=none/\p.1≠X.env.locals/\p.1∉X.fs/\∀v,p.2.data≠ .cell v):Inv X pins' σ H s:=
 ⟨I.ok,I.os,I.bare,I.base,I.loc,I.cell,I.free,I.freeC,λp hp=>(HA.mp hp).elim (λz=>I.pin p (IG _ z)) (h p),I.hok,I.len⟩
theorem qF {N:List Str}(hN:N.Nodup){i j:Nat}{x:Str}(a:N[i]? =some x)(b:N[j]? =some x):i=j:=by
 obtain⟨h1,e1⟩:=HU.mp a
 obtain⟨h2,e2⟩:=HU.mp b
 exact(List.getElem_inj hN).mp (e1.trans e2.symm)
theorem jL {M:My}{A:Iw}{E:Hs->Hr->Prop}{i:Nat}{x:Str}{v:V}{u:Hs}{Q:Unit->Hr->Prop}(I:Inv X pins σ H s)(hN:X.N.Nodup)(hi:X.N[i]? =some x)(hx:Loc X.env.scope x)(r:RelV v u)
  (h:∀s',Inv X pins (σ.set i (some v)) H s'->(∃a,Ks a s.heap s'.heap/\(a=X.env.locals\/X.env.cells.lookup x=some a))->Q () s') (hf:autoParam (X.fn x=true\/X.env.scope.names.lookup x=some .local) r_):wpAny M A (storeName X.env x u) Q E s:=by
 obtain⟨m,hn,hl⟩:=id I.loc
 have hcls:(X.env.scope.kind == .class||(X.env.scope.kind == .module&&X.env.locals != X.env.globals))=false:=by rw[I.ok.kind];rfl
 have hiσ:i<σ.length:=by rw[I.len];exact(HU.mp hi).1
 have cne:=I.cne
 have tracked:∀{a:Addr} {h':Heap},(∃o,s.heap.get? a=some o/\H a=none)->Ks a s.heap h'->HOk X.prog X.w H h':=λ{a h'} ha hs b ob e=>by
  obtain⟨_,_,hfree⟩:=ha;refine(I.hok b ob e).GL (λc w' hc q=>(hs.2 c ?_).trans q) (λ_ q=>q) λ_ _ q=>q
  rintro rfl
  rcases hc with rfl | hc
  ·rw[hfree]at e;cases e
  ·rw[hfree]at hc;cases hc
 rcases hx with hk | hk
 ·refine wpAny_storeName_local hk hn (λh' hn' hs=> ?_) hcls
  obtain⟨oL,_,_,hoL,_⟩:=id hn;refine h _ ⟨I.ok,I.os,I.bare,⟨λb o e n hb hx=> ?_,λb o e n hb hx=> ?_,I.base.free,λb o e hx=> ?_,I.base.tups,I.base.frzs,I.base.tbls⟩,⟨_,hn',λj y v' e1 e2 e3=> ?_⟩,λy c e=> ?_,I.free,I.freeC,λp hp=> ?_,tracked ⟨oL,hoL,I.free⟩ hs,by simpa using I.len⟩ ⟨_,hs,.inl rfl⟩
  ·exact(hs.2 b (Iu (HM (HH e) I.ok.above))).trans (I.base.keep b o e n hb hx)
  ·obtain⟨sl,e1⟩:=I.base.slot b o e n hb hx
   exact⟨sl,(hs.2 b (Iu (HM (HH e) I.ok.above))).trans e1⟩
  ·obtain⟨o',e1⟩:=I.base.there b o e hx
   exact⟨o',(hs.2 b (Iu (HM (HH e) I.ok.above))).trans e1⟩
  ·by_cases hj:j=i
   ·subst hj
    rw[hi]at e1;cases e1;rw[Im hiσ]at e2
    cases e2;exact⟨u,r,.inl ⟨hk,by simp⟩⟩
   ·rw[Ii (KF hj)]at e2
    obtain⟨u',r',q⟩:=hl j y v' e1 e2 e3;refine⟨u',r',?_⟩
    rcases q with⟨k,e⟩ | ⟨k,c,e,z⟩
    ·refine .inl ⟨k,?_⟩
     have:y≠x:=λe=>hj (qF hN e1 (e▸hi))
     simp[this,e]
    ·exact .inr ⟨k,c,e,z.sameBut hs (cne y c e)⟩
  ·obtain⟨w',z⟩:=I.cell y c e
   exact⟨w',z.sameBut hs (cne y c e)⟩
  ·obtain⟨e,n,ne,nf,d⟩:=I.pin p hp
   exact⟨(hs.2 p.1 ne).trans e,n,ne,nf,d⟩
 ·have hfn:X.fn x=true:=by
   rcases hf with z | z
   ·exact z
   ·rw[z]at hk;cases hk
  obtain⟨c,hc⟩:=I.ok.has x (.inl hk);obtain⟨w',z⟩:=I.cell x c hc;refine wpAny_storeName_cell I.ok.kind hk hc z (λh' hc' hs=> ?_)
  obtain⟨oc,hoc,hocd⟩:=id z;refine h { s with heap:=h' } ⟨I.ok,I.os,I.bare,⟨λb o e n hb hx=> ?_,λb o e n hb hx=> ?_,I.base.free,λb o e hx=> ?_,I.base.tups,I.base.frzs,I.base.tbls⟩,⟨m,hn.sameBut hs (KF (cne x c hc)),λj y v' e1 e2 e3=> ?_⟩,λy c' e=> ?_,I.free,I.freeC,λp hp=> ?_,tracked ⟨oc,hoc,I.freeC x c hc⟩ hs,by simpa using I.len⟩ ⟨c,hs,.inr hc⟩
  ·exact(hs.2 b (Iu (HM (HH e) (I.ok.cab x c hfn hc)))).trans (I.base.keep b o e n hb hx)
  ·obtain⟨sl,e1⟩:=I.base.slot b o e n hb hx
   exact⟨sl,(hs.2 b (Iu (HM (HH e) (I.ok.cab x c hfn hc)))).trans e1⟩
  ·obtain⟨o',e1⟩:=I.base.there b o e hx
   exact⟨o',(hs.2 b (Iu (HM (HH e) (I.ok.cab x c hfn hc)))).trans e1⟩
  ·by_cases hj:j=i
   ·subst hj
    rw[hi]at e1;cases e1;rw[Im hiσ]at e2
    cases e2;exact⟨u,r,.inr ⟨.inl hk,c,hc,hc'⟩⟩
   ·rw[Ii (KF hj)]at e2
    obtain⟨u',r',q⟩:=hl j y v' e1 e2 e3;refine⟨u',r',?_⟩
    rcases q with q | ⟨k,c',e,z'⟩
    ·exact .inl q
    ·refine .inr ⟨k,c',e,z'.sameBut hs ?_⟩
     rintro rfl
     exact hj (qF hN e1 (I.ok.inj _ _ _ e hc▸hi))
  ·by_cases hcc:c'=c
   ·subst hcc;exact⟨_,hc'⟩
   ·obtain⟨w2,z2⟩:=I.cell y c' e
    exact⟨w2,z2.sameBut hs hcc⟩
  ·obtain⟨e,n,ne,nf,d⟩:=I.pin p hp
   refine⟨(hs.2 p.1 ?_).trans e,n,ne,nf,d⟩
   intro q;rw[q,hoc]at e
   have q':oc=p.2:=Ik e;exact d w' (by rw[<-q'];exact hocd)
theorem kY {M:My}{A:Iw}{E:Hs->Hr->Prop}{i:Nat}{x:Str}{v:V}{u:Hs}{Q:Unit->Hr->Prop}(I:Inv X pins σ H s)(hN:X.N.Nodup)(hi:X.N[i]? =some x)(hx:Loc X.env.scope x)(r:RelV v u)
  (h:∀s',Inv X pins (σ.set i (some v)) H s'->Q () s') (hf:autoParam (X.fn x=true\/X.env.scope.names.lookup x=some .local) r_):wpAny M A (storeName X.env x u) Q E s:=
 jL I hN hi hx r (λs' I' _=>h s' I') hf
theorem Inv.GX {s':Hr}{ch:List Addr}(I:Inv X pins σ H s)(ho:s'.os=s.os)(u:Un (jH X.stack) ch H H' s.heap s'.heap)(hok:HOk X.prog X.w H' s'.heap)(hg:NH s'.gens)
  (hch:∀b∈ch,(b∈X.ex\/X.s₀.heap.objs.size<=b)/\b≠X.env.locals/\(∀x c,X.env.cells.lookup x=some c->c≠b)/\∀p∈X.pn++pins,p.1≠b):Inv X pins σ H' s':=by
 obtain⟨h',g',d',t',o'⟩:=s'
 have e:o'=s.os:=ho;subst e;exact I.call (g':=g') (t':=t') (d':=d') u hok hg hch
end
abbrev XK:=Hs->Option Addr->Hp->Prop
abbrev St:=List (Option V)
abbrev VK:=V->Hp->Prop
abbrev TE:=St->Hp->VK->Prop
abbrev TT:=St->Hp->(Bool->Hp->Prop)->Prop
abbrev TA:=St->Hp->(List V->Hp->Prop)->Prop
structure Ends where
 nx:St->Hp->Prop
 rt:VK
 bk:St->Hp->Prop:=λ_ _=>False
 ct:St->Hp->Prop:=λ_ _=>False
abbrev TS:=Ends->St->Hp->Prop
def EP (X:Cx)(pins:List (Addr×Obj))(σ:St)(Q:VK)(u:Hs)(s':Hr):Prop:=∃v H',Inv X pins σ H' s'/\RelV v u/\Q v H'
def TP (X:Cx)(pins:List (Addr×Obj))(σ:St)(Q:Bool->Hp->Prop)(b:Bool)(s':Hr):Prop:=∃H',Inv X pins σ H' s'/\Q b H'
def AP (X:Cx)(pins:List (Addr×Obj))(σ:St)(Q:List V->Hp->Prop)(us:List Hs)(s':Hr):Prop:=∃vs H',Inv X pins σ H' s'/\Vals vs us/\Q vs H'
def SP (X:Cx)(pins:List (Addr×Obj))(D:Ends)(f:Flow)(s':Hr):Prop:=
 match f with
 | .next=> ∃σ' H',Inv X pins σ' H' s'/\D.nx σ' H'
 | .brk=> ∃σ' H',Inv X pins σ' H' s'/\D.bk σ' H'
 | .cont=> ∃σ' H',Inv X pins σ' H' s'/\D.ct σ' H'
 | .ret u=> ∃v σ' H',Inv X pins σ' H' s'/\RelV v u/\D.rt v H'
def PE (X:Cx)(e:Expr)(t:TE):Prop:=
 ∀(pins:List (Addr×Obj)) (s:Hr) (σ:St) (H:Hp) (Q:VK),Inv X pins σ H s->t σ H Q->wpAny (model X.prog X.w) X.A (eval e X.env) (EP X pins σ Q) X.xe s
def PT (X:Cx)(e:Expr)(t:TT):Prop:=
 ∀(pins:List (Addr×Obj)) (s:Hr) (σ:St) (H:Hp) (Q:Bool->Hp->Prop),Inv X pins σ H s->t σ H Q->wpAny (model X.prog X.w) X.A (isTrue e X.env (eval e X.env)) (TP X pins σ Q) X.xe s
def PW (X:Cx)(e:Expr)(t:TT):Prop:=
 ∀(whole:Sem Hs) (pins:List (Addr×Obj)) (s:Hr) (σ:St) (H:Hp) (Q:Bool->Hp->Prop),Inv X pins σ H s->t σ H Q->wpAny (model X.prog X.w) X.A (isTrue e X.env whole) (TP X pins σ Q) X.xe s
theorem PW.pt {X:Cx}{e:Expr}{t:TT}(h:PW X e t):PT X e t:=h _
def PA (X:Cx)(es:List Expr)(t:TA):Prop:=
 ∀(pos:Pos) (pins:List (Addr×Obj)) (s:Hr) (σ:St) (H:Hp) (Q:List V->Hp->Prop),Inv X pins σ H s->t σ H Q->wpAny (model X.prog X.w) X.A (spliced (backTo pos (HX es X.env))) (AP X pins σ Q) X.xe s
def PS (X:Cx)(st:Stmt)(t:TS):Prop:=
 ∀(pins:List (Addr×Obj)) (s:Hr) (σ:St) (H:Hp) (D:Ends),Inv X pins σ H s->t D σ H->wpAny (model X.prog X.w) X.A (exec st X.env) (SP X pins D) X.xe s
def PSs (X:Cx)(st:List Stmt)(t:TS):Prop:=
 ∀(pins:List (Addr×Obj)) (s:Hr) (σ:St) (H:Hp) (D:Ends),Inv X pins σ H s->t D σ H->wpAny (model X.prog X.w) X.A (execs st X.env) (SP X pins D) X.xe s
theorem bK {α:Type}{t:Sem α}{Q Q':α->Hr->Prop}{M:My}{A:Iw}{E:Hs->Hr->Prop}{s:Hr}(h:wpAny M A t Q E s)(hQ:∀a s,Q a s->Q' a s):wpAny M A t Q' E s:=IS h hQ λ_ _ x=>x
section
variable {X:Cx}
def BP (i:Nat):TE:=λσ H Q=> ∃v,σ[i]? =some (some v)/\Q v H
def tC (v:V):TE:=λ_ H Q=>Q v H
theorem jR {i:Nat}{x:Str}{pos:Pos}(hN:X.N[i]? =some x)(hv:rl X.env.scope x)(hd:autoParam ((x == ("__debug__" : Str))=false) s_)(hcd:autoParam ((x == ("__classdict__" : Str))=false) s_):PE X (.Name x pos) (BP i):=by
 intro pins s σ H Q I h;obtain⟨v,e,h⟩:=h;obtain⟨m,hn,hl⟩:=I.loc;obtain⟨u,r,l⟩:=hl i x v hN e hv
 have fin:EP X pins σ Q u s:=⟨v,H,I,r,h⟩;rcases l with⟨hk,hm⟩ | ⟨hk,c,hc,hcell⟩
 ·exact Pt (N1 I.ok.kind hk hn hm fin) hd
 ·rcases hk with hk | hk
  ·exact Pt (wpAny_loadName_cell I.ok.kind hk hc hcell fin) hd
  ·exact Pt (wpAny_loadName_free I.ok.kind hk hc hcell fin hcd) hd
theorem xg {i j pos}:PE X (.Constant (.int i) j pos) (tC (.int i)):=λ_ _ _ H _ I h=>wpAny_Constant_int ⟨.int i,H,I.tok _,⟨_,rfl⟩,h⟩
theorem tJ {b j pos}:PE X (.Constant (.bool b) j pos) (tC (.bl b)):=λ_ _ _ H _ I h=>Constant_bool ⟨.bl b,H,I,rfl,h⟩
theorem xf {j pos}:PE X (.Constant .none j pos) (tC .non):=λ_ _ _ H _ I h=>Constant_none ⟨.non,H,I,rfl,h⟩
theorem CD {x j pos}:PE X (.Constant (.str x) j pos) (tC (.str x)):=λ_ _ _ H _ I h=>Oo ⟨.str x,H,I.tok _,⟨_,rfl⟩,h⟩
def Gl (X:Cx)(x:Str):Prop:=X.env.kindOf x=some .globalImplicit
theorem iz {E:Hs->Hr->Prop}{pins:List (Addr×Obj)}{s:Hr}{σ:St}{H:Hp}{x:Str}{u:Hs}{pos:Pos}{Q:Hs->Hr->Prop}(I:Inv X pins σ H s)(hg:Gl X x)(hm:X.mg x=some u)(h:Q u s)
  (hd:autoParam ((x == ("__debug__" : Str))=false) s_):wpAny (model X.prog X.w) X.A (eval (.Name x pos) X.env) Q E s:=
 Mi I.ok.kind hg (Calls.loadGlobal_global (by rw[I.ok.glob];exact I.mod.glob.keeps I.bk) hm h) hd
theorem eK {E:Hs->Hr->Prop}{pins:List (Addr×Obj)}{s:Hr}{σ:St}{H:Hp}{x:Str}{u:Hs}{pos:Pos}{Q:Hs->Hr->Prop}(I:Inv X pins σ H s)(hg:Gl X x)(hm:X.mg x=none)(hv:Ir x=some u)(h:Q u s)
  (hn:autoParam (x≠ "__name__") s_) (hd:autoParam ((x == ("__debug__" : Str))=false) s_):wpAny (model X.prog X.w) X.A (eval (.Name x pos) X.env) Q E s:=by
 obtain⟨mb,h1,h2⟩:=I.mod.blt;exact Mi I.ok.kind hg (Calls.loadGlobal_builtin (by rw[I.ok.glob];exact I.mod.glob.keeps I.bk) hm (by rw[I.ok.blt];exact h1.keeps I.bk) ((h2 x hn).trans hv) h) hd
theorem tG {x:Str}{v:V}{u:Hs}{pos:Pos}(hg:Gl X x)(hm:X.mg x=some u)(r:RelV v u)(hd:autoParam ((x == ("__debug__" : Str))=false) s_):PE X (.Name x pos) (tC v):=
 λ_ _ _ H _ I h=>iz I hg hm ⟨v,H,I,r,h⟩ hd
theorem tI {x:Str}{v:V}{u:Hs}{pos:Pos}(hg:Gl X x)(hm:X.mg x=none)(hv:Ir x=some u)(r:RelV v u)(hn:autoParam (x≠ "__name__") s_)(hd:autoParam ((x == ("__debug__" : Str))=false) s_):PE X (.Name x pos) (tC v):=
 λ_ _ _ H _ I h=>eK I hg hm hv ⟨v,H,I,r,h⟩ hn hd
variable {a b:Expr}{ta tb:TE}{pos:Pos}
def tB (t:TE):TT:=λσ H Q=>t σ H λx H1=> ∃c,x= .bl c/\Q c H1
theorem wZ {e:Expr}{t:TE}(h:PE X e t)(he:autoParam (∀whole,isTrue e X.env whole=(do let v <-whole;standAt e.pos;holding [v] (truthy v))) t_):PT X e (tB t):=by
 intro pins s σ H Q I hw;refine isTrue_plain (bK (h pins s σ H _ I hw) λv s1 ⟨x,H1,I1,r1,q1⟩=> ?_) (he _)
 obtain⟨d,rfl,q⟩:=q1;cases r1;exact II ⟨H1,I1,q⟩
variable {tA tB':TT}{rest:List Expr}
def tAnd (t u:TT):TT:=λσ H Q=>t σ H λc H1=>if c=true then u σ H1 Q else Q false H1
def tOr (t u:TT):TT:=λσ H Q=>t σ H λc H1=>if c=true then Q true H1 else u σ H1 Q
def tNot (t:TT):TT:=λσ H Q=>t σ H λc H1=>Q (!c) H1
theorem tw (ha:PT X a tA):PW X (.BoolOp .And [a] pos) tA:=by
 intro wh pins s σ H Q I h;refine isTrue_and (bK (ha pins s σ H Q I h) λc s1 e=> ?_)
 cases c with
 | true=>exact isTrue_and_nil e
 | false=>exact e
theorem Cw (ha:PT X a tA):PW X (.BoolOp .Or [a] pos) tA:=by
 intro wh pins s σ H Q I h;refine isTrue_or (bK (ha pins s σ H Q I h) λc s1 e=> ?_)
 cases c with
 | false=>exact isTrue_or_nil e
 | true=>exact e
theorem wY (ha:PT X a tA)(hb:PW X (.BoolOp .And (b::rest) pos) tB'):PW X (.BoolOp .And (a::b::rest) pos) (tAnd tA tB'):=by
 intro wh pins s σ H Q I h;refine isTrue_and (bK (ha pins s σ H _ I h) λc s1 hh_=> ?_)
 obtain⟨H1,I1,q1⟩:=hh_
 cases c with
 | true=>exact hb wh pins s1 σ H1 Q I1 q1
 | false=>exact⟨H1,I1,q1⟩
theorem Fq (ha:PT X a tA)(hb:PW X (.BoolOp .Or (b::rest) pos) tB'):PW X (.BoolOp .Or (a::b::rest) pos) (tOr tA tB'):=by
 intro wh pins s σ H Q I h;refine isTrue_or (bK (ha pins s σ H _ I h) λc s1 hh_=> ?_)
 obtain⟨H1,I1,q1⟩:=hh_
 cases c with
 | true=>exact⟨H1,I1,q1⟩
 | false=>exact hb wh pins s1 σ H1 Q I1 q1
theorem Cy (ha:PT X a tA):PT X (.UnaryOp .Not a pos) (tNot tA):=by
 intro pins s σ H Q I h;exact isTrue_not (ha pins s σ H (λc H1=>Q (!c) H1) I h)
def EO (ta tb:TE):TE:=λσ H Q=>ta σ H λx H1=> ∃c,x= .bl c/\if c=true then tb σ H1 Q else Q (.bl false) H1
def tOrV (ta tb:TE):TE:=λσ H Q=>ta σ H λx H1=> ∃c,x= .bl c/\if c=true then Q (.bl true) H1 else tb σ H1 Q
def EG (ta:TE):TE:=λσ H Q=>ta σ H λx H1=> ∃c,x= .bl c/\Q (.bl (!c)) H1
theorem CF {op}{t:TE}(h:PE X a t):PE X (.BoolOp op [a] pos) t:=λpins s σ H Q I hw=>BoolOp_one (h pins s σ H Q I hw)
theorem CH (ha:PE X a ta)(hb:PE X (.BoolOp .And (b::rest) pos) tb):PE X (.BoolOp .And (a::b::rest) pos) (EO ta tb):=by
 intro pins s σ H Q I h;refine BoolOp_and (bK (ha pins s σ H _ I h) λv s1 hh_=> ?_)
 obtain⟨x,H1,I1,r1,q1⟩:=hh_;obtain⟨c,rfl,q1⟩:=q1;cases r1;refine II ?_
 cases c with
 | true=>exact hb pins s1 σ H1 Q I1 q1
 | false=>exact⟨.bl false,H1,I1,rfl,q1⟩
theorem Ft (ha:PE X a ta)(hb:PE X (.BoolOp .Or (b::rest) pos) tb):PE X (.BoolOp .Or (a::b::rest) pos) (tOrV ta tb):=by
 intro pins s σ H Q I h;refine BoolOp_or (bK (ha pins s σ H _ I h) λv s1 hh_=> ?_)
 obtain⟨x,H1,I1,r1,q1⟩:=hh_;obtain⟨c,rfl,q1⟩:=q1;cases r1;refine II ?_
 cases c with
 | false=>exact hb pins s1 σ H1 Q I1 q1
 | true=>exact⟨.bl true,H1,I1,rfl,q1⟩
theorem CG (ha:PE X a ta):PE X (.UnaryOp .Not a pos) (EG ta):=by
 intro pins s σ H Q I h;refine UnaryOp_ (bK (ha pins s σ H _ I h) λv s1 hh_=> ?_)
 obtain⟨x,H1,I1,r1,q1⟩:=hh_;obtain⟨c,rfl,q1⟩:=q1;cases r1;exact not_of (II ⟨.bl (!c),H1,I1,rfl,q1⟩)
def tIf (t:TT)(ta tb:TE):TE:=λσ H Q=>t σ H λc H1=>if c=true then ta σ H1 Q else tb σ H1 Q
theorem xh {c:Expr}(hc:PT X c tA)(ha:PE X a ta)(hb:PE X b tb):PE X (.IfExp c a b pos) (tIf tA ta tb):=by
 intro pins s σ H Q I h;refine wpAny_IfExp (bK (hc pins s σ H _ I h) λd s1 hh_=> ?_)
 obtain⟨H1,I1,q1⟩:=hh_
 cases d with
 | true=>exact ha pins s1 σ H1 Q I1 q1
 | false=>exact hb pins s1 σ H1 Q I1 q1
end
def SqL (K:Ho)(H:Hp)(a:Addr)(xs:List V):Prop:=
 Rd H a (.lst xs) ∨
  ∃(o:Obj) (its:Array Hs) (n:Nat),K.lookup a=some o/\o.cls= .type "list"/\o.dict=none/\o.data= .seq its n/\its.size<=sizeLine/\Vals xs its.toList
def SqT (K:Ho)(H:Hp)(a:Addr)(xs:List V):Prop:=
 Rd H a (.tup xs) ∨
  ∃(o:Obj) (its:Array Hs) (n:Nat),K.lookup a=some o/\o.cls= .type "tuple"/\o.data= .seq its n/\its.size<=sizeLine/\Vals xs its.toList
def absV:Hs->Option V
 | .none=>some .non
 | .bool b=>some (.bl b)
 | .int i _=>some (.int i)
 | .str x _=>some (.str x)
 | .bytes b _=>some (.byt b)
 | .float b _=>some (.flt b)
 | .ref a=>some (.ref a)
 | .type n=>some (.ty n)
 | _=>none
theorem RelV.abs {x:V}{u:Hs}(r:RelV x u):absV u=some x:=by
 cases x with
 | non=>cases r;rfl
 | bl _=>cases r;rfl
 | int _=>obtain⟨t,rfl⟩:=r;rfl
 | str _=>obtain⟨t,rfl⟩:=r;rfl
 | byt _=>obtain⟨t,rfl⟩:=r;rfl
 | flt _=>obtain⟨t,rfl⟩:=r;rfl
 | ref _=>cases r;rfl
 | ty _=>cases r;rfl
theorem RelV.inj {x y:V}{u:Hs}(r:RelV x u)(q:RelV y u):x=y:=Ik (r.abs.symm.trans q.abs)
theorem Vals.inj:∀{xs ys:List V} {us:List Hs},Vals xs us->Vals ys us->xs=ys
 | _,_,_,.nil,.nil=>rfl
 | _,_,_,.cons r t,.cons r' t'=>by rw[r.inj r',Vals.inj t t']
section
variable {X:Cx}{pins:List (Addr×Obj)}{σ:St}{H:Hp}{s:Hr}{a:Addr}{xs ys:List V}
theorem SqL.of {K:Ho}(h:H a=some (.lst xs)):SqL K H a xs:=.inl (.inl h)
theorem SqT.of {K:Ho}(h:H a=some (.tup xs)):SqT K H a xs:=.inl (.inl h)
theorem Inv.list (I:Inv X pins σ H s)(h:SqL X.K H a xs):∃its:List Hs,Vals xs its/\PlainL s.heap a its.toArray/\xs.length<=sizeLine:=by
 rcases h with h | ⟨o,its,n,hk,hc,hd,hs,hz,r⟩
 ·obtain⟨z,its,n,r,e⟩:=h.ok I.hok
  exact⟨its,r,⟨_,n,e,rfl,rfl,rfl⟩,z⟩
 ·refine⟨its.toList,r,⟨o,n,I.kIn a o hk,hc,hd,by simpa using hs⟩,?_⟩
  have e:=r.length;simp only[IT]at e;omega
theorem Inv.tuple (I:Inv X pins σ H s)(h:SqT X.K H a xs):∃its:List Hs,Vals xs its/\Qs s.heap a its.toArray/\xs.length<=sizeLine:=by
 rcases h with h | ⟨o,its,n,hk,hc,hs,hz,r⟩
 ·obtain⟨z,its,r,p⟩:=h.ok I.hok
  exact⟨its,r,p,z⟩
 ·refine⟨its.toList,r,⟨o,I.kIn a o hk,hc,n,by simpa using hs⟩,?_⟩
  have e:=r.length;simp only[IT]at e;omega
theorem Inv.GS (I:Inv X pins σ H s)(h:SqL X.K H a xs)(h':SqL X.K H a ys):xs=ys:=by
 obtain⟨its,r,⟨o,n,e,_,_,d⟩,_⟩:=I.list h;obtain⟨its',r',⟨o',n',e',_,_,d'⟩,_⟩:=I.list h';rw[e]at e';cases e';rw[d]at d';injection d' with d1 _
 have:its=its':=by simpa using congrArg Nq d1
 subst this;exact r.inj r'
theorem Inv.GQ (I:Inv X pins σ H s)(h:SqT X.K H a xs)(h':SqT X.K H a ys):xs=ys:=by
 obtain⟨its,r,⟨o,e,_,n,d⟩,_⟩:=I.tuple h;obtain⟨its',r',⟨o',e',_,n',d'⟩,_⟩:=I.tuple h';rw[e]at e';cases e';rw[d]at d';injection d' with d1 _
 have:its=its':=by simpa using congrArg Nq d1
 subst this;exact r.inj r'
end
abbrev Cx.FS (X:Cx)(E:Hs->Hr->Prop):Cx:={ X with xe:=E }
abbrev Cx.nox (X:Cx):Cx:=X.FS λ_ _=>False
theorem Cx.Ok.FS {X:Cx}(ok:X.Ok)(E:Hs->Hr->Prop):(X.FS E).Ok:=
 ⟨ok.mod,ok.kind,ok.glob,ok.blt,ok.above,ok.inj,ok.has,ok.cab,ok.hd,ok.frames,ok.stk,ok.exf,ok.bs,ok.bsz,ok.noex,ok.exfs,ok.funs,ok.frf⟩
theorem Cx.Ok.GI {X:Cx}{E:Hs->Hr->Prop}(ok:(X.FS E).Ok):X.Ok:=
 ⟨ok.mod,ok.kind,ok.glob,ok.blt,ok.above,ok.inj,ok.has,ok.cab,ok.hd,ok.frames,ok.stk,ok.exf,ok.bs,ok.bsz,ok.noex,ok.exfs,ok.funs,ok.frf⟩
section
variable {X:Cx}{pins:List (Addr×Obj)}{σ:St}{H:Hp}{s:Hr}{E:Hs->Hr->Prop}
theorem Inv.FS (I:Inv X pins σ H s)(E:Hs->Hr->Prop):Inv (X.FS E) pins σ H s:=⟨I.ok.FS E,I.os,I.bare,I.base,I.loc,I.cell,I.free,I.freeC,I.pin,I.hok,I.len⟩
theorem Inv.GI (I:Inv (X.FS E) pins σ H s):Inv X pins σ H s:=⟨I.ok.GI,I.os,I.bare,I.base,I.loc,I.cell,I.free,I.freeC,I.pin,I.hok,I.len⟩
theorem SP.GI {D:Ends}{f:Flow}{s':Hr}(h:SP (X.FS E) pins D f s'):SP X pins D f s':=by
 cases f with
 | next=>obtain⟨σ',H',I,q⟩:=h;exact⟨σ',H',I.GI,q⟩
 | brk=>obtain⟨σ',H',I,q⟩:=h;exact⟨σ',H',I.GI,q⟩
 | cont=>obtain⟨σ',H',I,q⟩:=h;exact⟨σ',H',I.GI,q⟩
 | ret u=>obtain⟨v,σ',H',I,r,q⟩:=h;exact⟨v,σ',H',I.GI,r,q⟩
theorem PSs.nox {st:List Stmt}{t:TS}(h:PSs X.nox st t):PSs X st t:=λpins s σ H D I hw=>
 IS (h pins s σ H D (I.FS _) hw) (λ_ _ q=>q.GI) λ_ _ z=>JH z
end
section
variable {X:Cx}{st:Stmt}{rest:List Stmt}{t u:TS}{e:Expr}{te:TE}{pos:Pos}
def EH:TS:=λD σ H=>D.nx σ H
def ED (t u:TS):TS:=λD σ H=>t { D with nx:=u D } σ H
theorem tD:PSs X [] EH:=λ_ _ σ H _ I h=>KO ⟨σ,H,I,h⟩
theorem qm (h1:PS X st t)(h2:PSs X rest u):PSs X (st::rest) (ED t u):=by
 intro pins s σ H D I h;refine Nc (bK (h1 pins s σ H { D with nx:=u D } I h) λf s1 q=> ?_)
 cases f with
 | next=>
  obtain⟨σ',H',I',q⟩:=q
  exact h2 pins s1 σ' H' D I' q
 | ret v=>exact q
 | brk=>exact q
 | cont=>exact q
theorem oj (h1:PS X st t):PSs X [st] t:=by
 intro pins s σ H D I h;refine Nc (bK (h1 pins s σ H D I h) λf s1 q=> ?_)
 cases f with
 | next=>exact KO q
 | ret v=>exact q
 | brk=>exact q
 | cont=>exact q
theorem Inv.quiet {pins:List (Addr×Obj)}{σ:St}{H:Hp}{s:Hr}(I:Inv X pins σ H s):interactive X.env=false:=by simp[interactive,I.ok.kind]
def EM (te:TE):TS:=λD σ H=>te σ H λ_ H1=>D.nx σ H1
theorem tE (he:PE X e te)(hs:autoParam (JT e none pos.line X.env=pure false) u_):PS X (.Expr e pos) (EM te):=by
 intro pins s σ H D I h;exact wpAny_Expr_any (bK (he pins s σ H _ I h) λv s1 ⟨x,H1,I1,r1,q1⟩=>⟨σ,H1,I1,q1⟩) I.quiet hs
def EE (te:TE):TS:=λD σ H=>te σ H D.rt
theorem w6 (he:PE X e te):PS X (.Return (some e) pos) (EE te):=by
 intro pins s σ H D I h;exact Pu (bK (he pins s σ H _ I h) λv s1 ⟨x,H1,I1,r1,q1⟩=>⟨x,σ,H1,I1,r1,q1⟩)
def EK (c:TT)(t u:TS):TS:=λD σ H=>c σ H λb H1=>if b=true then t D σ H1 else u D σ H1
theorem Bc {c:Expr}{a b:List Stmt}{tc:TT}(hc:PT X c tc)(ha:PSs X a t)(hb:PSs X b u):PS X (.If c a b pos) (EK tc t u):=by
 intro pins s σ H D I h;refine wpAny_If (bK (hc pins s σ H _ I h) λd s1 hh_=> ?_)
 obtain⟨H1,I1,q1⟩:=hh_
 cases d with
 | true=>exact ha pins s1 σ H1 D I1 q1
 | false=>exact hb pins s1 σ H1 D I1 q1
end
abbrev TG:=V->St->Hp->(St->Hp->Prop)->Prop
abbrev A3:=List V->St->Hp->(St->Hp->Prop)->Prop
def PG (X:Cx)(target:Expr)(t:TG):Prop:=
 ∀(pins:List (Addr×Obj)) (s:Hr) (σ:St) (H:Hp) (v:V) (u:Hs) (Q:St->Hp->Prop),Inv X pins σ H s->RelV v u->t v σ H Q →
  wpAny (model X.prog X.w) X.A (assign target X.env u) (λ_ s'=> ∃σ' H',Inv X pins σ' H' s'/\Q σ' H') X.xe s
def PGs (X:Cx)(ts:List Expr)(t:A3):Prop:=
 ∀(pins:List (Addr×Obj)) (s:Hr) (σ:St) (H:Hp) (vs:List V) (us:List Hs) (Q:St->Hp->Prop),Inv X pins σ H s->Vals vs us->t vs σ H Q →
  wpAny (model X.prog X.w) X.A (assignInOrder ((JM ts X.env).map (·.2)) us) (λ_ s'=> ∃σ' H',Inv X pins σ' H' s'/\Q σ' H') X.xe s
section
variable {X:Cx}{pos:Pos}
def ub (i:Nat):TG:=λv σ H Q=>Q (σ.set i (some v)) H
theorem zM {i:Nat}{x:Str}(hN:X.N.Nodup)(hi:X.N[i]? =some x)(hx:Loc X.env.scope x)(hf:autoParam (X.fn x=true\/X.env.scope.names.lookup x=some .local) r_):PG X (.Name x pos) (ub i):=by
 intro pins s σ H v u Q I r h;exact MT (kY I hN hi hx r (λs' I'=>⟨_,H,I',h⟩) hf)
def gNil:A3:=λvs σ H Q=>vs= []/\Q σ H
def F0 (t:TG)(u:A3):A3:=λvs σ H Q=> ∃v r,vs=v::r/\t v σ H λσ' H'=>u r σ' H' Q
theorem zL:PGs X [] gNil:=by
 intro pins s σ H vs us Q I r h;obtain⟨e,h⟩:=h;subst e;cases r;exact assignInOrder_nil ⟨σ,H,I,h⟩
theorem xc {e:Expr}{es:List Expr}{t:TG}{u:A3}(h1:PG X e t)(h2:PGs X es u)
  (hs:autoParam ((JM (e::es) X.env).map (·.2)=assign e X.env::(JM es X.env).map (·.2)) u_):PGs X (e::es) (F0 t u):=by
 intro pins s σ H vs us Q I r h;obtain⟨v,vr,e1,h⟩:=h;subst e1
 cases r with
 | cons r rr=>
  rw[hs];refine assignInOrder_cons (bK (h1 pins s σ H _ _ _ I r h) λ_ s1 hh_=> ?_)
  obtain⟨σ1,H1,I1,q1⟩:=hh_;exact h2 pins s1 σ1 H1 _ _ Q I1 rr q1
def gTup (K:Ho)(n:Nat)(t:A3):TG:=λv σ H Q=> ∃a xs,v= .ref a/\SqT K H a xs/\xs.length=n/\t xs σ H Q
theorem CB {es:List Expr}{k:Nat}{t:A3}{n:Nat}(hc:X.calm=true)(h:PGs X es t)
  (hn:autoParam ((JM es X.env).length=n) u_) (hst:autoParam ((JM es X.env).findIdx? (·.1)=none) u_):PG X (.Tuple es k pos) (gTup X.K n t):=by
 intro pins s σ H v u Q I r hw;obtain⟨a,xs,e1,hq,hl,hw⟩:=hw;subst e1;cases r;obtain⟨its,rv,ht,hz⟩:=I.tuple hq;refine assign_Tuple_tuple (I.ok.hd hc) ht (by simp[hn,<-hl,rv.length]) hst λh' hx=> ?_
 have I1:Inv X pins σ H { s with heap:=h' }:=I.kept (t':=s.toks) λb o e=>hx b o (Iu (HH e)) e
 exact h pins _ σ H xs _ Q I1 (by simpa using rv) hw
def wB (te:TE)(g:TG):TS:=λD σ H=>te σ H λx H1=>g x σ H1 D.nx
theorem Cz {tg e:Expr}{te:TE}{g:TG}(he:PE X e te)(hg:PG X tg g)(hs:autoParam (OK [tg] e pos.line X.env=pure false) u_)(hw:autoParam (OL [tg] e X.env=pure none) u_)
  (h1:autoParam ((JM [tg] X.env).map (·.2)= [assign tg X.env]) u_):PS X (.Assign [tg] e pos) (wB te g):=by
 intro pins s σ H D I h;refine wpAny_Assign_stores (bK (he pins s σ H _ I h) λv s1 ⟨x,H1,I1,r1,q1⟩=> ?_) hs hw
 rw[h1];exact bK (hg pins s1 σ H1 x v _ I1 r1 q1) λ_ s2 q=>q
theorem rS {i:Nat}{x:Str}{e:Expr}{te:TE}{pos':Pos}(hN:X.N.Nodup)(hi:X.N[i]? =some x)(hx:Loc X.env.scope x)(he:PE X e te)(hs:autoParam (JT e (some (.Name x pos')) pos.line X.env=pure false) u_)(hf:autoParam (X.fn x=true\/X.env.scope.names.lookup x=some .local) r_) :
  PS X (.Assign [.Name x pos'] e pos) (wB te (ub i)):=by
 intro pins s σ H D I h;refine wpAny_Assign_Name (bK (he pins s σ H _ I h) λv s1 ⟨y,H1,I1,r1,q1⟩=> ?_) hs
 exact kY I1 hN hi hx r1 (λs2 I2=>⟨_,H1,I2,q1⟩) hf
end
structure It where
 go:Nat->Hp->Prop
 yld:Nat->Hp->V->Hp->Prop
 stop:Nat->Hp->Prop
def j9 (X:Cx)(pins:List (Addr×Obj))(H:Hp)(b:Addr):Prop:=
 H b=none/\b≠X.env.locals/\b∉X.fs/\(b∈X.ex\/X.s₀.heap.objs.size<=b)/\(∀x c,X.env.cells.lookup x=some c->c≠b)/\∀p∈X.pn++pins,p.1≠b
theorem Inv.GZ {X:Cx}{pins:List (Addr×Obj)}{σ:St}{H H':Hp}{s:Hr}{b:Addr}(I:Inv X pins σ H s)(hb:s.heap.objs.size<=b)(hn:H' b=none):j9 X pins H' b:=by
 refine⟨hn,Kt (HM I.lt hb),I.Hm hb,.inr (H0 I.sz hb),λx c e z=> ?_,λp hp z=> ?_⟩
 ·obtain⟨v,q⟩:=I.cell x c e
  exact absurd (HM q.lt (by rw[z];exact hb)) (Ia _)
 ·exact absurd (HM (HH (I.pin p hp).1) (by rw[z];exact hb)) (Ia _)
structure vE (P:HZ)(w:ID)(K:Ho)(tg:Expr)(J:It)(fp:List Addr)(it:Addr)(tn:Nat->Heap->Prop):Prop where
 mem:it∈fp
 obj:∀i h,tn i h->∀b∈fp,∃o,h.get? b=some o/\∀v,o.data≠ .cell v
 keep:∀i h h',tn i h->(∀b∈fp,∀o,h.get? b=some o->h'.get? b=some o)->tn i h'
 item:∀(X:Cx),X.prog=P->X.w=w->X.K=K->X.calm=true->∀(i:Nat) (pins:List (Addr×Obj)) (s:Hr) (σ:St) (H:Hp) (E:Hs->Hr->Prop),Inv X pins σ H s->(∀b∈fp,j9 X pins H b)->tn i s.heap->J.go i H →
  wpAny (model P w) X.A (pyNext (.ref it)) (λr s1=> ∃u,r=some u ∧
   wpAny (model P w) X.A (Ko tg (.ref it) u) (λ_ s2=> ∃x H',Inv X pins σ H' s2/\RelV x u/\J.yld i H x H'/\tn (i+1) s2.heap/\∀b∈fp,H' b=none) E s1) E s
 done:∀(X:Cx),X.prog=P->X.w=w->X.K=K->X.calm=true->∀(i:Nat) (pins:List (Addr×Obj)) (s:Hr) (σ:St) (H:Hp) (E:Hs->Hr->Prop),Inv X pins σ H s->(∀b∈fp,j9 X pins H b)->tn i s.heap->J.stop i H →
  wpAny (model P w) X.A (pyNext (.ref it)) (λr s1=>r=none/\Inv X pins σ H s1) E s
 self:∀(A:Iw) (i:Nat) (s:Hr) (Q:Hs->Hr->Prop) (E:Hs->Hr->Prop),tn i s.heap->Q (.ref it) s->wpAny (model P w) A (pyIter (.ref it)) Q E s
abbrev TI:=St->Hp->(It->Hp->Prop)->Prop
def PIE (X:Cx)(pins:List (Addr×Obj))(σ:St)(tg:Expr)(R:It->Hp->Prop)(itv:Hs)(s2:Hr):Prop:=
 ∃(it:Addr) (fp:List Addr) (tn:Nat->Heap->Prop) (J:It) (H':Hp),itv= .ref it/\Inv X pins σ H' s2/\vE X.prog X.w X.K tg J fp it tn/\tn 0 s2.heap/\(∀b∈fp,j9 X pins H' b)/\R J H'
def PI (X:Cx)(tg iter:Expr)(wi:TI):Prop:=
 ∀(pins:List (Addr×Obj)) (s:Hr) (σ:St) (H:Hp) (R:It->Hp->Prop),Inv X pins σ H s->wi σ H R →
  wpAny (model X.prog X.w) X.A (eval iter X.env) (λv s1=>wpAny (model X.prog X.w) X.A (pyIter v) (PIE X pins σ tg R) X.xe s1) X.xe s
theorem ua {M:My}{A:Iw}{E:Hs->Hr->Prop}{s:Hr}{tg:Expr}{it:Addr}{u:Hs}{o:Obj}{n:String}{vs:Array Hs}{Q:Unit->Hr->Prop}(ho:s.heap.get? it=some o)(hc:o.cls= .type n)(hd:o.data= .fields vs)
  (hn:["enumerate","zip","dict_itemiterator","dict_reverseitemiterator","odict_iterator","itertools.zip_longest","itertools.pairwise"].contains n=false) (hQ:Q () s):wpAny M A (Ko tg (.ref it) u) Q E s:=by
 unfold Ko
 cases tg <;> first
  | exact Hy hQ
  | (cases u <;> first
    | exact Hy hQ
    | (refine Hq (wpAny_load ho ?_)
       rw[hc,hd]
       show wpAny M A (if (["enumerate","zip","dict_itemiterator","dict_reverseitemiterator","odict_iterator","itertools.zip_longest","itertools.pairwise"].contains n&&vs[0]? == some (rawInt _))=true then _ else _) Q E s
       rw[if_neg (by intro h;rw[hn,LC]at h;cases h)]
       exact Hy hQ))
def Itl (K:Ho)(a:Addr):It:=
 ⟨λi H=> ∃xs x,SqL K H a xs/\xs[i]? =some x,λi H x H'=>H'=H/\∀xs,SqL K H a xs->xs[i]? =some x,λi H=> ∃xs,SqL K H a xs/\xs.length<=i⟩
def Itt (K:Ho)(a:Addr):It:=
 ⟨λi H=> ∃xs x,SqT K H a xs/\xs[i]? =some x,λi H x H'=>H'=H/\∀xs,SqT K H a xs->xs[i]? =some x,λi H=> ∃xs,SqT K H a xs/\xs.length<=i⟩
def Itr (lo:Int)(n:Nat):It:=⟨λi _=>i<n,λi H x H'=>H'=H/\x= .int (lo+i),λi _=>n<=i⟩
theorem uL {P:HZ}{w:ID}{K:Ho}{tg:Expr}(a it:Addr):vE P w K tg (Itl K a) [it] it (λi h=>h.IsListIter it a i) where
 mem:=by simp
 obj:=λi h st b hb=>by
  have e:b=it:=by simpa using hb
  subst e;obtain⟨o,e,c,d⟩:=st;exact⟨o,e,λv z=>by rw[d]at z;cases z⟩
 keep:=λi h h' st k=>st.at λo e=>k it (by simp) o e
 item:=by
  intro X hP hw hK hc i pins s σ H E I hf st hg;subst hP hw hK;obtain⟨xs,x,hq,hx⟩:=hg;obtain⟨its,rv,p,hz⟩:=I.list hq;obtain⟨u,hu,ru⟩:=rv.get hx;obtain⟨f0,f1,f2,f3,f4,f5⟩:=hf it (by simp)
  refine wpAny_pyNext_list_item st p.isList (x:=u) (by simpa using hu) λh' st' sb=> ?_
  have I1:Inv X pins σ H { s with heap:=h' }:=I.turned (t':=s.toks) (λb o hb e=>(sb.2 b hb).trans e) f0 f1 f3 f4 f5
  obtain⟨o,e,c,d⟩:=id st';exact⟨u,rfl,ua (s:={ s with heap:=h' }) e c d (by decide) ⟨x,H,I1,ru,⟨rfl,λys hy=>by rw[I.GS hy hq];exact hx⟩,st',λb hb=>(hf b hb).1⟩⟩
 done:=by
  intro X hP hw hK hc i pins s σ H E I hf st hg;subst hP hw hK;obtain⟨xs,hq,hx⟩:=hg;obtain⟨its,rv,p,hz⟩:=I.list hq;obtain⟨f0,f1,f2,f3,f4,f5⟩:=hf it (by simp)
  have hl:=rv.length;exact wpAny_pyNext_list_end (I.ok.hd hc) st p.isList (by simp;omega) λh' eb=>⟨rfl,I.turned (t':=s.toks) (λb o hb e=>eb b o hb e) f0 f1 f3 f4 f5⟩
 self:=λ_ _ _ _ _ st h=>wpAny_pyIter_listiter st h
theorem rF {P:HZ}{w:ID}{K:Ho}{tg:Expr}(a it:Addr):vE P w K tg (Itt K a) [it] it (λi h=>h.IsTupleIter it a i) where
 mem:=by simp
 obj:=λi h st b hb=>by
  have e:b=it:=by simpa using hb
  subst e;obtain⟨o,e,c,d⟩:=st;exact⟨o,e,λv z=>by rw[d]at z;cases z⟩
 keep:=λi h h' st k=>st.at λo e=>k it (by simp) o e
 item:=by
  intro X hP hw hK hc i pins s σ H E I hf st hg;subst hP hw hK;obtain⟨xs,x,hq,hx⟩:=hg;obtain⟨its,rv,p,hz⟩:=I.tuple hq;obtain⟨u,hu,ru⟩:=rv.get hx;obtain⟨f0,f1,f2,f3,f4,f5⟩:=hf it (by simp)
  refine wpAny_pyNext_tuple_item st (show s.heap.IsTuple a its.toArray from p) (x:=u) (by simpa using hu) λh' st' sb=> ?_
  have I1:Inv X pins σ H { s with heap:=h' }:=I.turned (t':=s.toks) (λb o hb e=>(sb.2 b hb).trans e) f0 f1 f3 f4 f5
  obtain⟨o,e,c,d⟩:=id st';exact⟨u,rfl,ua (s:={ s with heap:=h' }) e c d (by decide) ⟨x,H,I1,ru,⟨rfl,λys hy=>by rw[I.GQ hy hq];exact hx⟩,st',λb hb=>(hf b hb).1⟩⟩
 done:=by
  intro X hP hw hK hc i pins s σ H E I hf st hg;subst hP hw hK;obtain⟨xs,hq,hx⟩:=hg;obtain⟨its,rv,p,hz⟩:=I.tuple hq;obtain⟨f0,f1,f2,f3,f4,f5⟩:=hf it (by simp)
  have hl:=rv.length;exact wpAny_pyNext_tuple_end (I.ok.hd hc) st (show s.heap.IsTuple a its.toArray from p) (by simp;omega) λh' eb=>⟨rfl,I.turned (t':=s.toks) (λb o hb e=>eb b o hb e) f0 f1 f3 f4 f5⟩
 self:=λ_ _ _ _ _ st h=>wpAny_pyIter_tupleiter st h
theorem rG {P:HZ}{w:ID}{K:Ho}{tg:Expr}(it:Addr)(lo:Int)(n:Nat):vE P w K tg (Itr lo n) [it] it (λi h=>IsRangeIter h it (lo+(i:Nat)*1) ((n:Int) - (i:Nat)) 1) where
 mem:=by simp
 obj:=λi h st b hb=>by
  have e:b=it:=by simpa using hb
  subst e
  exact⟨_,st,λv z=>by
   have z':Data.fields _=Data.cell v:=z;cases z'⟩
 keep:=λi h h' st k=>k it (by simp) _ st
 item:=by
  intro X hP hw hK hc i pins s σ H E I hf st hg;subst hP hw hK;obtain⟨f0,f1,f2,f3,f4,f5⟩:=hf it (by simp)
  have W:=Walks.range (prog:=X.prog) (w:=X.w) (I.ok.hd hc) it lo 1 n;refine W.item i s _ _ hg st λv h' tk hv st' kk=> ?_
  obtain⟨t,rfl⟩:=hv
  have I1:Inv X pins σ H { s with heap:=h',toks:=tk }:=I.turned (λb o hb e=>kk b o (by simpa using hb) e) f0 f1 f3 f4 f5
  refine⟨_,rfl,ua (s:={ s with heap:=h',toks:=tk }) (n:="range_iterator") st' rfl rfl (by decide) ⟨.int (lo+i),H,I1,⟨t,?_⟩,⟨rfl,rfl⟩,st',λb hb=>(hf b hb).1⟩⟩
  rw[Int.mul_one]
 done:=by
  intro X hP hw hK hc i pins s σ H E I hf st hg;subst hP hw hK;obtain⟨f0,f1,f2,f3,f4,f5⟩:=hf it (by simp)
  exact wpAny_pyNext_range_end (I.ok.hd hc) st (by have:n<=i:=hg;omega) λh' eb=>⟨rfl,I.turned (t':=s.toks) (λb o hb e=>eb b o hb e) f0 f1 f3 f4 f5⟩
 self:=λ_ _ _ _ _ st h=>wpAny_pyIter_rangeiter st h
section
variable {X:Cx}{tg:Expr}
def FZ (K:Ho)(tl:TE):TI:=λσ H R=>tl σ H λx H1=> ∃a,x= .ref a/\(∃xs,SqL K H1 a xs)/\R (Itl K a) H1
def iTup (K:Ho)(tl:TE):TI:=λσ H R=>tl σ H λx H1=> ∃a,x= .ref a/\(∃xs,SqT K H1 a xs)/\R (Itt K a) H1
theorem zJ {l:Expr}{tl:TE}(hl:PE X l tl):PI X tg l (FZ X.K tl):=by
 intro pins s σ H R I h;refine bK (hl pins s σ H _ I h) λv s1 hh_=> ?_
 obtain⟨x,H1,I1,r1,q1⟩:=hh_;obtain⟨a,e,⟨xs,hq⟩,q⟩:=q1;subst e;cases r1;obtain⟨its,rv,p,hz⟩:=I1.list hq;refine MU p.isList ?_
 refine⟨s1.heap.objs.size,[s1.heap.objs.size],_,_,H1,rfl,I1.kept (t':=s1.toks) λb o e=>Hz _ e,uL a _,⟨_,HR _ rfl,rfl,rfl⟩,λb hb=> ?_,q⟩
 have e:b=s1.heap.objs.size:=by simpa using hb
 subst e;exact I1.GZ (HE _) (I1.hok.fresh (HE _))
theorem CA {l:Expr}{tl:TE}(hl:PE X l tl):PI X tg l (iTup X.K tl):=by
 intro pins s σ H R I h;refine bK (hl pins s σ H _ I h) λv s1 hh_=> ?_
 obtain⟨x,H1,I1,r1,q1⟩:=hh_;obtain⟨a,e,⟨xs,hq⟩,q⟩:=q1;subst e;cases r1;obtain⟨its,rv,p,hz⟩:=I1.tuple hq;refine Ls (show s1.heap.IsTuple a its.toArray from p) ?_
 refine⟨s1.heap.objs.size,[s1.heap.objs.size],_,_,H1,rfl,I1.kept (t':=s1.toks) λb o e=>Hz _ e,rF a _,⟨_,HR _ rfl,rfl,rfl⟩,λb hb=> ?_,q⟩
 have e:b=s1.heap.objs.size:=by simpa using hb
 subst e;exact I1.GZ (HE _) (I1.hok.fresh (HE _))
theorem ql {pins:List (Addr×Obj)}{σ:St}{H:Hp}{s:Hr}{R:It->Hp->Prop}{E:Hs->Hr->Prop}{lo hi:Int}{t u v:Tok}{tk:Nat}(I:Inv X pins σ H s)(h1 : -(2 ^ 62)<=lo)(h2:lo<2 ^ 62)(h3 : -(2 ^ 62)<=hi)(h4:hi<2 ^ 62)
  (q:R (Itr lo (hi - lo).toNat) H):wpAny (model X.prog X.w) X.A (pyIter (.ref s.heap.objs.size)) (PIE X pins σ tg R) E { s with heap:=s.heap.push { cls:=.type "range",data:=.fields #[.int lo t,.int hi u,.int 1 v] },toks:=tk }:=by
 refine wpAny_pyIter_range (IsRange.new ..) (small_one h1 h2 h3 h4) ?_
 have I1:Inv X pins σ H { s with heap:=s.heap.push { cls:=.type "range",data:=.fields #[.int lo t,.int hi u,.int 1 v] },toks:=tk }:=I.kept λb o e=>Hz _ e
 refine⟨(s.heap.push { cls:=.type "range",data:=.fields #[.int lo t,.int hi u,.int 1 v] }).objs.size,[(s.heap.push { cls:=.type "range",data:=.fields #[.int lo t,.int hi u,.int 1 v] }).objs.size],_,_,H,rfl,
  I1.kept (t':=tk) λb o e=>Hz _ e,rG _ lo (hi - lo).toNat,?_,λb hb=> ?_,q⟩
 ·have e1:lo+((0:Nat):Int)*1=lo:=by simp
  have e2:(((hi - lo).toNat:Nat):Int) - ((0:Nat):Int)=Builtin.Range.rangeSize lo hi 1:=by rw[rangeSize_one];split <;> omega
  show IsRangeIter _ _ (lo+((0:Nat):Int)*1) ((((hi - lo).toNat:Nat):Int) - ((0:Nat):Int)) 1
  rw[e1,e2];exact HR _ rfl
 ·have e:b=(s.heap.push { cls:=.type "range",data:=.fields #[.int lo t,.int hi u,.int 1 v] }).objs.size:=by simpa using hb
  subst e;exact I1.GZ (HE _) (I1.hok.fresh (HE _))
def EL (wi:TI)(g:TG)(tb:TS):TS:=λD σ H=>wi σ H λJ H1=> ∃W:Nat->Nat->St->Hp->Prop,(∃m,W 0 m σ H1)/\∀i m σ H,W i m σ H →
 (J.stop i H/\D.nx σ H)\/(J.go i H/\∃N:St->Hp->Prop,(∀σ' H',N σ' H'->∃m',m'<m/\W (i+1) m' σ' H')/\∀x H',J.yld i H x H'->g x σ H' λσ2 H2=>tb { D with nx:=N,ct:=N,bk:=D.nx } σ2 H2)
def i7 (fp:List Addr)(h:Heap):List (Addr×Obj):=fp.filterMap λb=>(h.get? b).map λo=>(b,o)
theorem cR {fp:List Addr}{h:Heap}{b:Addr}{o:Obj}(hb:b∈fp)(e:h.get? b=some o):(b,o)∈i7 fp h:=Oq.mpr ⟨b,hb,by rw[e];rfl⟩
theorem uY {fp:List Addr}{h:Heap}{p:Addr×Obj}(hp:p∈i7 fp h):p.1∈fp/\h.get? p.1=some p.2:=by
 obtain⟨b,hb,e⟩:=Oq.mp hp
 cases q:h.get? b with
 | none=>rw[q]at e;cases e
 | some o=>
  rw[q]at e
  have e':(b,o)=p:=Ik e;subst e';exact⟨hb,q⟩
theorem Inv.pinned {pins:List (Addr×Obj)}{σ:St}{H:Hp}{s:Hr}{fp:List Addr}(I:Inv X pins σ H s)(hf:∀b∈fp,j9 X pins H b)(ho:∀b∈fp,∃o,s.heap.get? b=some o/\∀v,o.data≠ .cell v):Inv X (pins++i7 fp s.heap) σ H s:=
 I.GW λp hp=>(HA.mp hp).elim (λz=>I.pin p (HP _ z)) λz=>by
  obtain⟨hb,e⟩:=uY z;obtain⟨f0,f1,f2,_⟩:=hf p.1 hb;obtain⟨o,e',d⟩:=ho p.1 hb;rw[e]at e';cases e';exact⟨e,f0,f1,f2,d⟩
theorem Inv.GG {pins pl:List (Addr×Obj)}{σ:St}{H:Hp}{s:Hr}(I:Inv X (pins++pl) σ H s):Inv X pins σ H s:=I.GW λp hp=>I.pin p (HP _ (IG _ hp))
end
abbrev R2:=V->V->Hp->VK->Prop
def mf (X:Cx)(f:Hs->Hs->Sem Hs)(r:R2):Prop:=
 ∀(pins:List (Addr×Obj)) (s:Hr) (σ:St) (H:Hp) (x y:V) (v u:Hs) (Q:VK),Inv X pins σ H s->RelV x v->RelV y u->r x y H Q →
  wpAny (model X.prog X.w) X.A (f v u) (EP X pins σ Q) X.xe s
def UnR (X:Cx)(f:Hs->Sem Hs)(r:V->Hp->VK->Prop):Prop:=
 ∀(pins:List (Addr×Obj)) (s:Hr) (σ:St) (H:Hp) (x:V) (v:Hs) (Q:VK),Inv X pins σ H s->RelV x v->r x H Q →
  wpAny (model X.prog X.w) X.A (f v) (EP X pins σ Q) X.xe s
def CallR (X:Cx)(f:Hs)(r:List V->Hp->VK->Prop):Prop:=
 ∀(pins:List (Addr×Obj)) (s:Hr) (σ:St) (H:Hp) (xs:List V) (us:List Hs) (Q:VK),Inv X pins σ H s->Vals xs us->r xs H Q →
  wpAny (model X.prog X.w) X.A (call f us) (EP X pins σ Q) X.xe s
def tOp (r:R2)(ta tb:TE):TE:=λσ H Q=>ta σ H λx H1=>tb σ H1 λy H2=>r x y H2 Q
def tUn (r:V->Hp->VK->Prop)(ta:TE):TE:=λσ H Q=>ta σ H λx H1=>r x H1 Q
def rI (C:Int->Int->Prop)(g:Int->Int->V):R2:=λx y H Q=> ∃i j,x= .int i/\y= .int j/\C i j/\Q (g i j) H
def Bb (g:Int->Int->V):R2:=λx y H Q=> ∃i j,x= .int i/\y= .int j/\Q (g i j) H
def rU (g:Int->V):V->Hp->VK->Prop:=λx H Q=> ∃i,x= .int i/\Q (g i) H
section
variable {X:Cx}{a b c:Expr}{ta tb tc:TE}{pos:Pos}
theorem binT (ha:PE X a ta)(hb:PE X b tb){pins:List (Addr×Obj)}{s:Hr}{σ:St}{H:Hp}{R:V->V->Hp->Prop}(I:Inv X pins σ H s)
  (h:ta σ H λx H1=>tb σ H1 λy H2=>R x y H2) {Q:Hs->Hr->Prop} {f:Hs->Hs->Sem Hs}
  (hf:∀v u s2 x y H2,Inv X pins σ H2 s2->RelV x v->RelV y u->R x y H2->wpAny (model X.prog X.w) X.A (f v u) Q X.xe s2) :
  wpAny (model X.prog X.w) X.A (eval a X.env) (λv s₁=>wpAny (model X.prog X.w) X.A (eval b X.env) (λu s₂=>wpAny (model X.prog X.w) X.A (f v u) Q X.xe s₂) X.xe s₁) X.xe s:=by
 refine bK (ha pins s σ H _ I h) λv s1 hh_=> ?_
 obtain⟨x,H1,I1,r1,q1⟩:=hh_;refine bK (hb pins s1 σ H1 _ I1 q1) λu s2 hh_=> ?_
 obtain⟨y,H2,I2,r2,q2⟩:=hh_;exact hf v u s2 x y H2 I2 r1 r2 q2
theorem Fu {op:OM}{r:R2}(ho:mf X (Jq op) r)(ha:PE X a ta)(hb:PE X b tb):PE X (.BinOp a op b pos) (tOp r ta tb):=by
 intro pins s σ H Q I h;exact wpAny_BinOp (binT ha hb I h λv u s2 x y H2 I2 rx ry q=>ho pins s2 σ H2 x y v u Q I2 rx ry q)
theorem Bd {op:UnaryOp}{r:V->Hp->VK->Prop}(ho:UnR X (unaryOp op) r)(ha:PE X a ta):PE X (.UnaryOp op a pos) (tUn r ta):=by
 intro pins s σ H Q I h;exact UnaryOp_ (bK (ha pins s σ H _ I h) λv s1 ⟨x,H1,I1,r1,q1⟩=>ho pins s1 σ H1 x v Q I1 r1 q1)
theorem opI {f:Hs->Hs->Sem Hs}{C:Int->Int->Prop}{g:Int->Int->Int}
  (rule:∀(i j:Int) (t u:Tok) (s:Hr) (Q:Hs->Hr->Prop) (E:Hs->Hr->Prop),C i j->Q (.int (g i j) s.toks) { s with toks:=s.toks+1 }->wpAny (model X.prog X.w) X.A (f (.int i t) (.int j u)) Q E s) :
  mf X f (rI C λi j=> .int (g i j)):=by
 intro pins s σ H x y v u Q I rx ry h;obtain⟨i,j,rfl,rfl,hc,q⟩:=h;obtain⟨t,rfl⟩:=rx;obtain⟨t',rfl⟩:=ry;exact rule i j t t' s _ _ hc ⟨.int (g i j),H,I.tok _,⟨_,rfl⟩,q⟩
theorem FE {f:Hs->Hs->Sem Hs}{g:Int->Int->Int}
  (rule:∀(i j:Int) (t u:Tok) (s:Hr) (Q:Hs->Hr->Prop) (E:Hs->Hr->Prop),Q (.int (g i j) s.toks) { s with toks:=s.toks+1 }->wpAny (model X.prog X.w) X.A (f (.int i t) (.int j u)) Q E s) :
  mf X f (Bb λi j=> .int (g i j)):=by
 intro pins s σ H x y v u Q I rx ry h;obtain⟨i,j,rfl,rfl,q⟩:=h;obtain⟨t,rfl⟩:=rx;obtain⟨t',rfl⟩:=ry;exact rule i j t t' s _ _ ⟨.int (g i j),H,I.tok _,⟨_,rfl⟩,q⟩
theorem CV {f:Hs->Hs->Sem Hs}{g:Int->Int->Bool}
  (rule:∀(i j:Int) (t u:Tok) (s:Hr) (Q:Hs->Hr->Prop) (E:Hs->Hr->Prop),Q (.bool (g i j)) s->wpAny (model X.prog X.w) X.A (f (.int i t) (.int j u)) Q E s) :
  mf X f (Bb λi j=> .bl (g i j)):=by
 intro pins s σ H x y v u Q I rx ry h;obtain⟨i,j,rfl,rfl,q⟩:=h;obtain⟨t,rfl⟩:=rx;obtain⟨t',rfl⟩:=ry;exact rule i j t t' s _ _ ⟨.bl (g i j),H,I,rfl,q⟩
def CDiv (i j:Int):Prop:=0<j/\j<1073741824
def CMul (i j:Int):Prop:=(-(2 ^ 64)<i/\i<2 ^ 64)\/(-(2 ^ 64)<j/\j<2 ^ 64)
theorem CMul.ok {i j:Int}(h:CMul i j):IntMulOk i j:=by
 rcases h with⟨h1,h2⟩ | ⟨h1,h2⟩
 ·exact .of_left (intBits_le_64 h1 h2)
 ·exact .of_right (intBits_le_64 h1 h2)
theorem CU:mf X (Jq .Add) (Bb λi j=> .int (i+j)):=FE λ_ _ _ _ _ _ _ q=>add_int q
theorem CJ:mf X (Jq .Sub) (Bb λi j=> .int (i - j)):=FE λ_ _ _ _ _ _ _ q=>sub_int q
theorem CM:mf X (Jq .Mult) (rI CMul λi j=> .int (i*j)):=opI λ_ _ _ _ _ _ _ hc q=>mul_int q hc.ok
theorem zT:mf X (Jq .FloorDiv) (rI CDiv λi j=> .int (i / j)):=opI λi j _ _ _ _ _ hc q=>by
 have h1:(0:Int)<j:=hc.1
 have h2:j<1073741824:=hc.2;exact floordiv_int (by omega) (by rw[Int.fdiv_eq_ediv_of_nonneg i (by omega)];exact q) (.inl (PyProof.noPylong_small (by omega)))
theorem CO:mf X (Jq .Mod) (rI (λ_ j=>0<j) λi j=> .int (i % j)):=opI λi j _ _ _ _ _ hc q=>by
 have h1:(0:Int)<j:=hc;exact mod_int' (by omega) (by rw[Int.fmod_eq_emod_of_nonneg i (by omega)];exact q)
theorem unI {f:Hs->Sem Hs}{g:Int->Int}
  (rule:∀(i:Int) (t:Tok) (s:Hr) (Q:Hs->Hr->Prop) (E:Hs->Hr->Prop),Q (.int (g i) s.toks) { s with toks:=s.toks+1 }->wpAny (model X.prog X.w) X.A (f (.int i t)) Q E s) :
  UnR X f (rU λi=> .int (g i)):=by
 intro pins s σ H x v Q I rx h;obtain⟨i,rfl,q⟩:=h;obtain⟨t,rfl⟩:=rx;exact rule i t s _ _ ⟨.int (g i),H,I.tok _,⟨_,rfl⟩,q⟩
theorem we:UnR X (unaryOp .USub) (rU λi=> .int (-i)):=unI λ_ _ _ _ _ q=>neg_int q
end
section
variable {X:Cx}{a b c:Expr}{ta tb tc:TE}{pos:Pos}
theorem DF {pins:List (Addr×Obj)}{σ:St}{H:Hp}{s:Hr}{Q:VK}{k k':Bool}(I:Inv X pins σ H s)(q:Q (.bl k) H)(e:k=k'):EP X pins σ Q (.bool k') s:=by
 subst e;exact⟨.bl k,H,I,rfl,q⟩
theorem FA:mf X (IM .Lt) (Bb λi j=> .bl (decide (i<j))):=CV λ_ _ _ _ _ _ _ q=>lt_int q
theorem FC:mf X (IM .LtE) (Bb λi j=> .bl (decide (i<=j))):=CV λ_ _ _ _ _ _ _ q=>le_int q
theorem FD:mf X (IM .Gt) (Bb λi j=> .bl (decide (j<i))):=CV λ_ _ _ _ _ _ _ q=>gt_int q
theorem CP:mf X (IM .Is) (λx y H Q=>y= .non/\Q (.bl (decide (x= .non))) H):=by
 intro pins s σ H x y v u Q I rx ry h;obtain⟨rfl,q⟩:=h;cases ry;refine is_none_gen (DF I q ?_)
 cases x <;> first
  | (cases rx;rfl)
  | (obtain⟨t,rfl⟩:=rx;rfl)
theorem C2 (b:Expr){op:Pr}(h:autoParam (op≠ .In) s_)(h2:autoParam (op≠ .NotIn) s_):JU op b=false:=by
 have e1:(op == CmpOp.In)=false:=by cases op <;> first | rfl | exact absurd rfl h
 have e2:(op == CmpOp.NotIn)=false:=by cases op <;> first | rfl | exact absurd rfl h2
 cases b <;> simp[JU,e1,e2]
def EC (t:TE):TT:=λσ H Q=>t σ H λx H'=> ∃k,x= .bl k/\Q k H'
theorem zC {op:Pr}{r:R2}(ho:mf X (IM op) r)(ha:PE X a ta)(hb:PE X b tb)(hm:JU op b=false):PT X (.Compare a [op] [b] pos) (EC (tOp r ta tb)):=by
 intro pins s σ H Q I h
 refine NI (bK (ha pins s σ H _ I h) λv s1 ⟨x,H1,I1,r1,q1⟩=>bK (hb pins s1 σ H1 _ I1 q1) λu s2 ⟨y,H2,I2,r2,q2⟩=>
  bK (ho pins s2 σ H2 x y v u _ I2 r1 r2 q2) λc s3 ⟨z,H3,I3,r3,k,e,q3⟩=> ?_) hm
 subst e;cases r3;exact II ⟨H3,I3,q3⟩
theorem lG:(sizeLine:Nat)<2 ^ 63:=by rw[IZ];decide
theorem rX:mf X (Jq .Add) (λx y H Q=> ∃i j,x= .str i/\y= .str j/\i.length+j.length<=sizeLine/\Q (.str (i++j)) H):=by
 intro pins s σ H x y v u Q I rx ry h;obtain⟨i,j,rfl,rfl,hz,q⟩:=h;obtain⟨t,rfl⟩:=rx;obtain⟨t',rfl⟩:=ry;exact add_str (λt' tk=>⟨.str (i++j),H,I.tok _,⟨_,rfl⟩,q⟩) hz
theorem kR {x:V}{us:List Hs}(r:Vals [x] us):∃u,us= [u]/\RelV x u:=by
 cases r with
 | cons r1 r2=>cases r2;exact⟨_,rfl,r1⟩
theorem v5 {x y:V}{us:List Hs}(r:Vals [x,y] us):∃u w',us= [u,w']/\RelV x u/\RelV y w':=by
 cases r with
 | cons r1 r2=>
  cases r2 with
  | cons r3 r4=>cases r4;exact⟨_,_,rfl,r1,r3⟩
theorem vC:CallR X (.type "int") (λxs H Q=>(∃i,xs= [.int i]/\Q (.int i) H)\/∃k,xs= [.bl k]/\Q (.int (if k then 1 else 0)) H):=by
 intro pins s σ H xs us Q I r h;rcases h with⟨i,rfl,q⟩ | ⟨k,rfl,q⟩
 ·obtain⟨u,rfl,t,rfl⟩:=kR r
  exact call_int_int ⟨.int i,H,I,⟨_,rfl⟩,q⟩
 ·obtain⟨u,rfl,r1⟩:=kR r
  cases r1;exact call_int_bool ⟨.int (if k then 1 else 0),H,I.tok _,⟨_,rfl⟩,q⟩
end
structure ObjM (h:Heap)(x dx C:Addr)(mA:Str->Option Hs):Prop where
 obj:h.get? x=some (Np C dx)
 ns:h.Ns1 dx mA
 ne:dx≠x
theorem vc {h:Heap}{dx:Addr}{mA:Str->Option Hs}(n:h.Ns1 dx mA):∃od,h.get? dx=some od/\∀name,N3 name od=some (mA name):=by
 obtain⟨o,es,ep,ho,hd,hk,_,hm⟩:=n;refine⟨o,ho,λname=> ?_⟩
 have e:=hm name;unfold nsFind findBy at e;rw[<-Os]at e
 unfold N3;rw[hd]
 dsimp only
 split
 ·rename_i y q
  rw[q]at e;exact congrArg some e
 ·rename_i q
  rw[q]at e
  have a:es.toList.any (·.refKey)=false:=by
   rw[List.any_eq_false];intro y hy;obtain⟨z,t,hkey⟩:=hk y (Array.mem_toList_iff.mp hy);simp[DictEntry.refKey,hkey]
  have a':¬ es.toList.any (·.refKey)=true:=by rw[a];exact Iv
  rw[if_neg a'];exact congrArg some e
theorem ObjM.look {h:Heap}{x dx C:Addr}{mA:Str->Option Hs}(I:ObjM h x dx C mA):∃od,PySem.W.InstAt h x (Np C dx) C (some od)/\∀name,N3 name od=some (mA name):=
 let ⟨od,ho,hl⟩:=vc I.ns
 ⟨od,⟨I.obj,rfl,rfl,ho⟩,hl⟩
section
variable {P:HZ}{w:ID}{H H':Hp}{h h':Heap}{a C dx:Addr}{fs fs':List (Str×V)}
theorem Ag (hok:HOk P w H h)(e:H a=some (.ins C dx fs)):∃mA,ObjM h a dx C mA/\(∀f,D8 (fs.lookup f) (mA f))/\PySem.Within mA (fs.map (·.1))/\fs.length<=1000/\H dx=some (.own a):=by
 obtain⟨d,z,ne,ob,mA,n,r,q⟩:=(show ObjOk P w H h a (.ins C dx fs)from hok a _ e)
 exact⟨mA,⟨ob,n,ne⟩,r,q,z,d⟩
end
structure Cls (K:Ho)(C:Addr):Prop where
 pg:PL K C On=true
 hd:PySem.W.hasDictIn K C=true
 po:PySem.W.plainOver K C=true
 sa:PySem.W.findIn K (.ref C) "__setattr__" =some (some (.builtin "object.__setattr__"))
theorem Cls.get {K:Ho}{C:Addr}(c:Cls K C)(f:Str):PL K C f=true:=c.pg
section
variable {X:Cx}{pins:List (Addr×Obj)}{σ:St}{H:Hp}{s:Hr}{A:Iw}{E:Hs->Hr->Prop}{Q:Hs->Hr->Prop}{c:Hs}{b:Bool}
inductive j8 (K:Ho) (H:Hp):V->Hs->Prop where
 | non:j8 K H .non (.type "NoneType")
 | bl (x:Bool):j8 K H (.bl x) (.type "bool")
 | int (i:Int):j8 K H (.int i) (.type "int")
 | str (x:Str):j8 K H (.str x) (.type "str")
 | flt (x:UInt64):j8 K H (.flt x) (.type "float")
 | lst {a:Addr} {xs:List V} (e:H a=some (.lst xs)):j8 K H (.ref a) (.type "list")
 | frz {a:Addr} {o:Obj} {xs:List V} (e:H a=some (.frz o (.lst xs))):j8 K H (.ref a) (.type "list")
 | tup {a:Addr} {xs:List V} (e:H a=some (.tup xs)):j8 K H (.ref a) (.type "tuple")
 | dK {a:Addr} {kvs:List (mh×V)} (e:H a=some (.dK kvs)):j8 K H (.ref a) (.type "dict")
 | dT {a:Addr} {kvs:List (List mh×V)} (e:H a=some (.dT kvs)):j8 K H (.ref a) (.type "dict")
 | ins {a C dx:Addr} {fs:List (Str×V)} (e:H a=some (.ins C dx fs)) (cl:Cls K C) (ha:PySem.W.findIn K (.ref C) "__class__" =some (some (.builtin "object.__class__")))
   (hn:PySem.W.specialIn K (.builtin "object.__class__") "__get__" =some (some (.builtin "getset_descriptor.__get__"))) (htk:PySem.W.takesIn K (.builtin "object.__class__")=some true)
   (hm:PySem.W.mroIn K C (.type "object")=some true):j8 K H (.ref a) (.ref C)
theorem vh {x:V}{u t:Hs}(I:Inv X pins σ H s)(rx:RelV x u)(ty:j8 X.K H x t)(e:PySem.W.kitOne X.K t c=some b)(h:∀tk,Q (.bool b) { s with toks:=tk }) :
  wpAny (model X.prog X.w) A (call (.builtin "isinstance") [u,c]) Q E s:=by
 cases ty with
 | non=>cases (show u=Ig from rx);exact Jv PySem.W.kitx_none I.kIn NQ e (λz=>nomatch z) h
 | bl y=>cases (show u=Js y from rx);exact Jv PySem.W.kitx_bool I.kIn NQ e (λz=>nomatch z) h
 | int i=>obtain⟨t,q⟩:=(show ∃t,u=Jk i t from rx);cases q;exact Jv PySem.W.kitx_int I.kIn NQ e (λz=>nomatch z) h
 | str y=>obtain⟨t,q⟩:=(show ∃t,u=Jy y t from rx);cases q;exact Jv PySem.W.kitx_str I.kIn NQ e (λz=>nomatch z) h
 | flt y=>obtain⟨t,q⟩:=(show ∃t,u=Value.float y t from rx);cases q;exact Jv PySem.W.kitx_float I.kIn NQ e (λz=>nomatch z) h
 | @lst a xs ea=>
  cases (show u=Io a from rx)
  obtain⟨_,_,n,_,h1⟩:=(show ObjOk X.prog X.w H s.heap a (.lst xs)from I.hok a _ ea)
  exact Jv O6 I.kIn ⟨_,h1,rfl⟩ e (λz=>nomatch z) h
 | @frz a ob xs ea=>
  cases (show u=Io a from rx)
  obtain⟨_,_,_,n,_,h1⟩:=(show ObjOk X.prog X.w H s.heap a (.frz ob (.lst xs))from I.hok a _ ea)
  exact Jv O6 I.kIn ⟨_,h1,rfl⟩ e (λz=>nomatch z) h
 | @tup a xs ea=>
  cases (show u=Io a from rx)
  obtain⟨_,_,_,p⟩:=(show ObjOk X.prog X.w H s.heap a (.tup xs)from I.hok a _ ea)
  obtain⟨o,h1,h2,_⟩:=p
  exact Jv PySem.W.kitx_tuple I.kIn ⟨o,h1,h2⟩ e (λz=>nomatch z) h
 | @dK a kvs ea=>
  cases (show u=Io a from rx)
  obtain⟨_,_,vs,_,p⟩:=(show ObjOk X.prog X.w H s.heap a (.dK kvs)from I.hok a _ ea)
  obtain⟨o,es,ep,h1,h2,_⟩:=p
  exact Jv O7 I.kIn ⟨o,h1,h2.1⟩ e (λz=>nomatch z) h
 | @dT a kvs ea=>
  cases (show u=Io a from rx)
  obtain⟨_,_,xs,_,o,es,ep,h1,h2,_⟩:=(show ObjOk X.prog X.w H s.heap a (.dT kvs)from I.hok a _ ea)
  exact Jv O7 I.kIn ⟨o,h1,h2.1⟩ e (λz=>nomatch z) h
 | @ins a C dx fs ea cl ha hn htk hm=>
  cases (show u=Io a from rx)
  obtain⟨mA,O,_⟩:=Ag I.hok ea;obtain⟨od,J,_⟩:=O.look;exact Jv (PySem.W.kitx_own (cl.get _) cl.hd ha hn htk hm) I.kIn J e (λz=>nomatch z) h
end
structure Room (k:Nat)(A:Iw):Prop where
 hd:A.handled=none
 dp:A.depth+3*k+5<N8
 un:A.units+16*k+200<cLine
theorem Room.mono {j k:Nat}{A:Iw}(r:Room k A)(h:j<=k):Room j A:=⟨r.hd,by have:=r.dp;omega,by have:=r.un;omega⟩
theorem Room.deeper {k:Nat}{A:Iw}(r:Room (k+1) A)(env:Env):Room k (A.deeper env):=
 ⟨r.hd,by have:=r.dp;show A.depth+1+3*k+5<_;omega,by have:=r.un;show A.units+3+16*k+200<_;omega⟩
theorem Room.depth {k:Nat}{A:Iw}(r:Room k A):A.depth<N8:=by have:=r.dp;omega
def y9:TA:=λ_ H Q=>Q [] H
def kc (ta:TE)(tr:TA):TA:=λσ H Q=>ta σ H λx H1=>tr σ H1 λxs H2=>Q (x::xs) H2
section
variable {X:Cx}{e:Expr}{es:List Expr}{te:TE}{t:TA}{pos:Pos}
theorem i8:PA X [] y9:=λ_ _ _ _ H Q I h=>KS ⟨[],H,I,.nil,h⟩
theorem cM (ha:PE X e te)(hr:PA X es t)(hs:autoParam (HX (e::es) X.env=(false,eval e X.env)::HX es X.env) u_):PA X (e::es) (kc te t):=by
 intro pos pins s σ H Q I h;rw[hs]
 show wpAny _ _ (spliced ((false,eval e X.env)::backTo pos (HX es X.env))) _ _ s
 refine Lm (bK (ha pins s σ H _ I h) λu s1 hh_=> ?_)
 obtain⟨x,H1,I1,r1,q1⟩:=hh_;exact bK (hr pos pins s1 σ H1 _ I1 q1) λus s2 ⟨xs,H2,I2,r2,q2⟩=>⟨x::xs,H2,I2,.cons r1 r2,q2⟩
def EA (t:TA):TE:=λσ H Q=>t σ H λxs H1=>xs.length<=sizeLine/\∀p,H1 p=none->Q (.ref p) (dB H1 p (.tup xs))
def tLst (t:TA):TE:=λσ H Q=>t σ H λxs H1=>xs.length<=sizeLine/\∀p,H1 p=none->Q (.ref p) (dB H1 p (.lst xs))
theorem CC {x1}(h:PA X es t):PE X (.Tuple es x1 pos) (EA t):=by
 intro pins s σ H Q I hq;refine wpAny_Tuple_spliced (bK (h pos pins s σ H _ I hq) λus s1 ⟨xs,H1,I1,r,z,q⟩=>⟨by rw[<-r.length];exact z,?_⟩)
 have hf:H1 s1.heap.objs.size=none:=I1.hok.fresh (HE _);refine⟨.ref s1.heap.objs.size,dB H1 s1.heap.objs.size (.tup xs),I1.laid (t':=s1.toks) (λb u e=>Hz _ e) (HE _) ?_,rfl,q _ hf⟩
 exact⟨z,us,r,⟨_,HR _ rfl,rfl,_,rfl⟩⟩
theorem rW (h:PA X es t):PE X (.List es pos) (tLst t):=by
 intro pins s σ H Q I hq;refine OP (bK (h pos pins s σ H _ I hq) λus s1 ⟨xs,H1,I1,r,z,q⟩=>⟨by rw[<-r.length];exact z,?_⟩)
 have hf:H1 s1.heap.objs.size=none:=I1.hok.fresh (HE _);refine⟨.ref s1.heap.objs.size,dB H1 s1.heap.objs.size (.lst xs),I1.laid (t':=s1.toks) (λb u e=>Hz _ e) (HE _) ?_,rfl,q _ hf⟩
 exact⟨z,us,0,r,HR _ rfl⟩
end
abbrev Sp:=List V->Hp->VK->XK->Prop
abbrev vI:=List Env->Hp->Hr->XK->Hs->Hr->Prop
structure sI (P:HZ)(w:ID)(K:Ho)(mg:Str->Option Hs)(base:Heap)(A:Iw)(outer:List Env)(s:Hr)(H:Hp):Prop where
 frames:A.frames=some outer
 mod:Mod K mg base
 bs:∀b o,base.get? b=some o->s.heap.get? b=some o/\H b=none
 bsz:base.objs.size<=s.heap.objs.size
 funs:s.heap.FunFrames base outer
 frf:∀b∈jH outer,H b=none
 hok:HOk P w H s.heap
 bare:NH s.gens
def CE (outer:List Env)(P:HZ)(w:ID)(H:Hp)(s:Hr)(Q:VK)(u:Hs)(s':Hr):Prop:=
 ∃v H',s'.os=s.os/\NH s'.gens/\Un (jH outer) [] H H' s.heap s'.heap/\HOk P w H' s'.heap/\RelV v u/\Q v H'
def CR (CX:vI)(outer:List Env)(P:HZ)(w:ID)(H:Hp)(s:Hr)(Q:VK)(E:XK)(r:LJ)(s':Hr):Prop:=
 match r with
 | .ok (.ret u)=>CE outer P w H s Q u s'
 | .ok _=>False
 | .error e=>CX outer H s E e s'
structure vG (P:HZ)(w:ID)(K:Ho)(mg:Str->Option Hs)(base:Heap)(CX:vI)(k:Nat)(f:Addr)(fd:IW)(ps:List Str)(sp:Sp):Prop where
 len:∀vs H Q E,sp vs H Q E->vs.length=ps.length
 run:∀(A:Iw) (outer:List Env) (s:Hr) (H:Hp) (args:Args) (us:List Hs) (vs:List V) (Q:VK) (E:XK),Room k A->sI P w K mg base A outer s H->NJ s fd args (ps.zip us)->Vals vs us->sp vs H Q E →
  codeAny (model P w) A (.call (.ref f) args) (CR CX outer P w H s Q E) s
section
variable {X:Cx}{pins:List (Addr×Obj)}{σ:St}{H:Hp}{s s':Hr}
theorem Inv.G5 (I:Inv X pins σ H s):sI X.prog X.w X.K X.mg X.base X.A X.stack s H:=
 ⟨I.ok.frames,I.ok.mod,I.bs,H0 I.ok.bsz I.sz,I.stack,I.GH,I.hok,I.bare⟩
theorem Inv.after {Q:VK}{u:Hs}(I:Inv X pins σ H s)(h:CE X.stack X.prog X.w H s Q u s'):EP X pins σ Q u s':=by
 obtain⟨v,H',os,bare,un,hok,r,q⟩:=h;obtain⟨hh,g,d,t,os'⟩:=s';obtain rfl:os'=s.os:=os;exact⟨v,H',I.call (h':=hh) (g':=g) (d':=d) (t':=t) (ch:=[]) un hok bare (λb z=>absurd z (by simp)),r,q⟩
end
def EN (sp:Sp)(dvs:List V)(E:XK)(t:TA):TE:=λσ H Q=>t σ H λvs H1=>sp (vs++dvs) H1 Q E
def Binds (K:Ho)(fd:IW)(ps:List Str)(ds:List Hs):Prop:=
 ∀(s:Hr) (us:List Hs),K.In s.heap->(us++ds).length=ps.length->NJ s fd ⟨us,[]⟩ (ps.zip (us++ds))
theorem Binds.all {K:Ho}{fd:IW}{ps:List Str}(h:∀us:List Hs,us.length=ps.length->OQ fd ⟨us,[]⟩=pure (ps.zip us)):Binds K fd ps []:=λs us _ hl=>by
 rw[IA]at hl ⊢;exact .of_eq (h us hl)
def pM (CX:vI)(X:Cx)(E:XK):Prop:=∀(pins:List (Addr×Obj)) (σ:St) (H:Hp) (s:Hr) (e:Hs) (s':Hr),Inv X pins σ H s->CX X.stack H s E e s'->X.xe e s'
section
variable {X:Cx}{CX:vI}{k:Nat}{f C:Addr}{fd:IW}{ps:List Str}{sp:Sp}{dvs:List V}{ds:List Hs}{E:XK}{x m:Str}{p pos apos:Pos}{e o:Expr}{es:List Expr}{ta:TE}{t:TA}
theorem B5 {pins:List (Addr×Obj)}{σ:St}{H:Hp}{s:Hr}{Q:VK}{us:List Hs}{vs:List V}(F:vG X.prog X.w X.K X.mg X.base CX k f fd ps sp)(hr:Room k X.A)(hb:Binds X.K fd ps ds)(hd:Vals dvs ds)(hx:pM CX X E)
  (I:Inv X pins σ H s) (r:Vals vs us) (h:sp (vs++dvs) H Q E):wpAny (model X.prog X.w) X.A (call (.ref f) us) (EP X pins σ Q) X.xe s:=by
 have r2:Vals (vs++dvs) (us++ds):=r.append hd
 have hl:(us++ds).length=ps.length:=by rw[<-r2.length];exact F.len _ _ _ _ h
 refine wpAny_call (NK (F.run X.A X.stack s H ⟨us,[]⟩ (us++ds) (vs++dvs) Q E hr I.G5 (hb s us I.kIn hl) r2 h) λr s' hq=> ?_)
 cases r with
 | error e=>exact hx pins σ H s e s' I hq
 | ok fl=>
  cases fl with
  | ret u=>exact I.after hq
  | next=>exact JH hq
  | brk=>exact JH hq
  | cont=>exact JH hq
theorem tH (F:vG X.prog X.w X.K X.mg X.base CX k f fd ps sp)(hr:Room k X.A)(hg:Gl X x)(hm:X.mg x=some (.ref f))(hk:Kz X.K (.ref f)=true)(hb:Binds X.K fd ps ds)(hd:Vals dvs ds)(hx:pM CX X E)
  (ha:PA X (e::es) t) (hdb:autoParam ((x == ("__debug__" : Str))=false) s_) (he:autoParam (HX (e::es) X.env=(false,eval e X.env)::HX es X.env) u_) (hpl:autoParam ((backTo pos (HX es X.env)).any (·.1)=false) u_) :
  PE X (.Call (.Name x p) (e::es) [] pos) (EN sp dvs E t):=by
 intro pins s σ H Q I h;refine Jr (iz I hg hm ?_ hdb)
 refine Oj (h₀:=X.base) I.ok.mod.kin hk (bK (ha pos pins s σ H _ I h) λus s1 ⟨vs,H1,I1,r,q⟩=>⟨I1.kIn,?_⟩) he hpl
 exact B5 F hr hb hd hx I1 r q
end
structure cu (N P:List Str)(sc:KY):Prop where
 kind:sc.kind= .function
 co:sc.isCoroutine=false
 gen:sc.isGenerator=false
 nd:N.Nodup
 pre:N.take P.length=P
 par:∀x∈P,sc.names.lookup x=some .local\/sc.names.lookup x=some .cell
 nofree:∀y∈sc.names,y.2≠ .free
theorem nG {kindOf:Str->Option KC}{x:Str}:∀{binds:List (Str×Hs)} {m:Str->Option Hs},(∀v,(x,v)∉binds)->bindL kindOf binds m x=m x
 | [],_,_=>rfl
 | (n,v)::r,m,h=>by
  unfold bindL;rw[nG λw hw=>h w (Hv _ hw)]
  split
  ·have:x≠n:=by rintro rfl;exact h v HD
   simp[this]
  ·rfl
theorem nI {kindOf:Str->Option KC}{x:Str}:∀{binds:List (Str×Hs)} {m:Str->Option Hs},(∀v,(x,v)∉binds)->bindC kindOf binds m x=m x
 | [],_,_=>rfl
 | (n,v)::r,m,h=>by
  unfold bindC;rw[nI λw hw=>h w (Hv _ hw)]
  split
  ·rfl
  ·have:x≠n:=by rintro rfl;exact h v HD
   simp[this]
theorem nH {kindOf:Str->Option KC}{x:Str}{v:Hs}:∀{P:List Str} {vs:List Hs} {i:Nat} {m:Str->Option Hs},P.Nodup->P[i]? =some x->vs[i]? =some v->kindOf x=some .local →
  bindL kindOf (P.zip vs) m x=some v
 | [],_,_,_,_,h,_,_=>by simp at h
 | _::_,[],_,_,_,_,h,_=>by simp at h
 | p::P,w::vs,0,m,nd,h1,h2,hk=>by
  simp at h1 h2;subst h1;subst h2
  show bindL kindOf ((p,w)::P.zip vs) m p=_
  unfold bindL;rw[nG λv hv=>(Kl.mp nd).1 (KG hv).1,if_pos hk]
  simp
 | p::P,w::vs,i+1,m,nd,h1,h2,hk=>by
  show bindL kindOf ((p,w)::P.zip vs) m x=_
  unfold bindL;exact nH (i:=i) (Kl.mp nd).2 (by simpa using h1) (by simpa using h2) hk
theorem nJ {kindOf:Str->Option KC}{x:Str}{v:Hs}:∀{P:List Str} {vs:List Hs} {i:Nat} {m:Str->Option Hs},P.Nodup->P[i]? =some x->vs[i]? =some v->kindOf x≠some .local →
  bindC kindOf (P.zip vs) m x=some v
 | [],_,_,_,_,h,_,_=>by simp at h
 | _::_,[],_,_,_,_,h,_=>by simp at h
 | p::P,w::vs,0,m,nd,h1,h2,hk=>by
  simp at h1 h2;subst h1;subst h2
  show bindC kindOf ((p,w)::P.zip vs) m p=_
  unfold bindC;rw[nI λv hv=>(Kl.mp nd).1 (KG hv).1,if_neg hk]
  simp
 | p::P,w::vs,i+1,m,nd,h1,h2,hk=>by
  show bindC kindOf ((p,w)::P.zip vs) m x=_
  unfold bindC;exact nJ (i:=i) (Kl.mp nd).2 (by simpa using h1) (by simpa using h2) hk
def start (N:List Str)(vs:List V):St:=vs.map some++Ie (N.length - vs.length) none
def fD (CX:vI)(P:HZ)(w:ID)(K:Ho)(mg:Str->Option Hs)(base:Heap)(N:List Str)(qual:Str)(scope:KY)(f:Addr)(cd:Hs)(A:Iw)(outer:List Env)(s:Hr)(H:Hp)(E:XK):Cx where
 prog:=P
 w:=w
 K:=K
 mg:=mg
 base:=base
 A:=A.deeper (envOfC qual scope s.heap.objs.size f cd)
 N:=N
 s₀:=s
 H₀:=H
 env:=envOfC qual scope s.heap.objs.size f cd
 outer:=outer
 stack:=envOfC qual scope s.heap.objs.size f cd::outer
 ex:=[]
 calm:=true
 fn:=λ_=>true
 pn:=[]
 xe:=λe s'=>wpAny (model P w) (A.deeper (envOfC qual scope s.heap.objs.size f cd)) (leaving (envOfC qual scope s.heap.objs.size f cd) e) (λ_ s''=>CX outer H s E e s'') (λe' s''=>CX outer H s E e' s'') s'
theorem rf {sc:KY}{n:Nat}{x:Str}(h:sc.names.lookup x=some .cell):∃c,(J4 n sc.names []).lookup x=some c:=by
 have q:=J6 sc.names n [] (.inl h);exact MI.mp q
theorem iC {CX:vI}{P:HZ}{w:ID}{K:Ho}{mg:Str->Option Hs}{base:Heap}{N ps:List Str}{qual:Str}{scope:KY}{f:Addr}{cd:Hs}{A:Iw}{outer:List Env}{s s1:Hr}{H:Hp}{E:XK}{us:List Hs}{vs:List V}
  (S:cu N ps scope) (hd:A.handled=none) (e0:sI P w K mg base A outer s H) (hl:vs.length=ps.length) (r:Vals vs us)
  (x:InCallC s s.heap.objs.size (bindL (envOfC qual scope s.heap.objs.size f cd).kindOf (ps.zip us) λ_=>none) (J4 (s.heap.objs.size+1) scope.names []) (bindC (envOfC qual scope s.heap.objs.size f cd).kindOf (ps.zip us) λ_=>none) s1) :
  Inv (fD CX P w K mg base N qual scope f cd A outer s H E) [] (start N vs) H s1:=by
 have hpl:ps.length<=N.length:=by have:=congrArg KH S.pre;rw[HV]at this;omega
 obtain⟨h1,tk,rfl,hk⟩:=x.done
 have noA:∀b:Addr,b∉(fD CX P w K mg base N qual scope f cd A outer s H E).ex:=λb z=>absurd (show b∈([]:List Addr)from z) (by simp)
 refine⟨⟨e0.mod,S.kind,rfl,rfl,HE _,λy z c h1 h2=> ?_,λy hy=> ?_,λy c _ h=> ?_,λ_=>hd,Around.frames_deeper e0.frames,.inr ⟨rfl,rfl⟩,λb z=>absurd z (noA b),e0.bs,e0.bsz,λb _ _=>noA b,λb z=>absurd z (noA b),e0.funs,e0.frf⟩,
  rfl,e0.bare,Un.kept hk,⟨_,x.toInCall.ns,λi y v h1 h2 h3=> ?_⟩,λy c h=>⟨_,x.cell y c h⟩,e0.hok.fresh (HE _),λy c h=> ?_,λp hp=>absurd (show p∈([]:List (Addr×Obj))from hp) (by simp),e0.hok.kept hk,?_⟩
 ·exact name_of_addr x.apart (J0 h1) (J0 h2)
 ·have hy:scope.names.lookup y=some .cell\/scope.names.lookup y=some .free:=hy
  rcases hy with hy | hy
  ·exact rf hy
  ·exact absurd rfl (S.nofree _ (J0 hy))
 ·exact KD (x.above y c (J0 h))
 ·have hi:i<vs.length:=by
   unfold start at h2
   by_cases hi:i<vs.length
   ·exact hi
   ·rw[J8 (by simpa using hi)]at h2
    rw[Ku]at h2
    split at h2 <;> cases h2
  have ha:vs[i]? =some v:=by
   unfold start at h2;rw[JN (by simpa using hi),Ib]at h2
   cases e:vs[i]? with
   | none=>rw[e]at h2;cases h2
   | some a=>rw[e]at h2;cases h2;rfl
  obtain⟨u,hu,rv⟩:=r.get ha
  have hp:ps[i]? =some y:=by
   rw[<-S.pre,List.getElem?_take_of_lt (by omega)];exact h1
  have ndP:ps.Nodup:=by rw[<-S.pre];exact S.nd.sublist (Pc _ _)
  refine⟨u,rv,?_⟩
  rcases S.par y (Jm hp)with k | k
  ·exact .inl ⟨k,nH ndP hp hu k⟩
  ·obtain⟨c,e⟩:=rf (n:=s.heap.objs.size+1) k
   refine .inr ⟨.inl k,c,e,?_⟩
   have q:=x.cell y c e;rw[nJ ndP hp hu (by show scope.names.lookup y≠_;rw[k];decide)]at q
   exact q
 ·exact e0.hok.fresh (KD (x.above y c (J0 h)))
 ·unfold start
  show _=N.length
  rw[Ht,Hw,List.length_replicate];omega
theorem F5 {CX:vI}{P:HZ}{w:ID}{K:Ho}{mg:Str->Option Hs}{base:Heap}{k:Nat}{f:Addr}{name qual:Str}{params:MS}{body:List Stmt}{scope:KY}{dV kV doc pm cdv ct oc:Hs}{an od:Option Addr}
  {osl:Array (Option Hs)} {N ps:List Str} {sp:Sp} (lk:K.lookup f=some ⟨oc,od,.func (Kr name qual params body scope dV kV doc pm an cdv ct),osl⟩) (hcd:Mt K cdv qual=true) (S:cu N ps scope)
  (len:∀vs H Q E,sp vs H Q E->vs.length=ps.length)
  (hbody:∀(A:Iw) (outer:List Env) (s:Hr) (H:Hp) (vs:List V) (Q:VK) (E:XK),Room k (A.deeper (envOfC qual scope s.heap.objs.size f cdv))->sp vs H Q E →
   ∃t,PSs (fD CX P w K mg base N qual scope f cdv A outer s H E) body t/\t { nx:=λ_ H'=>Q .non H',rt:=Q } (start N vs) H) :
  vG P w K mg base CX (k+1) f (Kr name qual params body scope dV kV doc pm an cdv ct) ps sp:=by
 refine⟨len,λA outer s H args us vs Q E hr e0 hb r hsp=> ?_⟩
 have hl:=len _ _ _ _ hsp
 have KX:K.In s.heap:=e0.mod.kin.keeps λb o e=>(e0.bs b o e).1
 have lim:s.heap.NoLimit:=e0.mod.nolimit.keeps λb o e=>(e0.bs b o e).1
 have hkind:∀y∈ps.zip us,scope.names.lookup y.1=some .local\/(scope.names.lookup y.1=some .cell/\((J4 (s.heap.objs.size+1) scope.names []).lookup y.1).isSome=true):=λ⟨n,v⟩ hy=>by
  rcases S.par n (KG hy).1 with q | q
  ·exact .inl q
  ·exact .inr ⟨q,J6 _ _ _ (.inl q)⟩
 refine NL hr.depth (KX _ _ lk) rfl S.co S.gen rfl (Li KX hcd) (hb _ _ _ _ ?_)
 refine Ka S.kind hkind λenv he s1 x=> ?_
 subst he;refine⟨lim.keeps x.toInCall.keep,codeAny_func ?_⟩
 obtain⟨t,ht,hq⟩:=hbody A outer s H vs Q E (hr.deeper _) hsp
 have I:Inv (fD CX P w K mg base N qual scope f cdv A outer s H E) [] (start N vs) H s1:=iC S hr.hd e0 hl r x;refine IS (ht [] s1 (start N vs) H _ I hq) (λfl s' hs=> ?_) λe s' hs=>hs
 have fin:∀{σ':St} {H':Hp} {v:V} {u:Hs},Inv (fD CX P w K mg base N qual scope f cdv A outer s H E) [] σ' H' s'->RelV v u->Q v H'->CE outer P w H s Q u s':=
  λ{σ' H' v u} J rv q=>⟨v,H',J.os,J.bare,J.base,J.hok,rv,q⟩
 cases fl with
 | ret u=>
  obtain⟨v,σ',H',J,rv,q⟩:=hs
  exact fin J rv q
 | next=>
  obtain⟨σ',H',J,q⟩:=hs
  exact fin (v:=V.non) (u:=Ig) J rfl q
 | brk=>
  obtain⟨_,_,_,q⟩:=hs
  exact JH q
 | cont=>
  obtain⟨_,_,_,q⟩:=hs;exact JH q
end L2
namespace HT
open PySem PyProof.Rows
section
variable {prog:HZ}{w:ID}{A:Iw}{E:Hs->Hr->Prop}{s:Hr}
theorem cat_tup {t b:Addr}{vs ws:List Hs}{Q:Hs->Hr->Prop}(ht:Qs s.heap t vs.toArray)(hb:Qs s.heap b ws.toArray)(hv:vs≠ [])
  (h1:ws= []->Q (.ref t) s) (h2:ws≠ []->Q (.ref s.heap.objs.size) { s with heap:=s.heap.push { cls:=.type "tuple",data:=.seq (vs++ws).toArray } })
  (hsz:vs.length+ws.length<=sizeLine):wpAny (model prog w) A (Jq .Add (.ref t) (.ref b)) Q E s:=by
 obtain⟨⟨cls,dd,data,sl⟩,ho,hc,n,hd⟩:=id ht;obtain⟨⟨cls2,dd2,data2,sl2⟩,ho2,hc2,n2,hd2⟩:=id hb;simp only at hc hd hc2 hd2;subst hc hd hc2 hd2
 have e:vs.toArray++ws.toArray=(vs++ws).toArray:=by simp
 by_cases hw:ws= []
 ·exact PF ⟨_,ho,rfl⟩ ⟨_,ho2,rfl⟩ Nd OS Ly Lj (K8 _ _)
   (tuple_addW1 t b vs.toArray ws.toArray n n2 dd dd2 sl sl2 (by simpa using hv) (by simp[hw])) ⟨ho,ho2,h1 hw⟩
 ·refine PF ⟨_,ho,rfl⟩ ⟨_,ho2,rfl⟩ Nd OS Ly Lj (K8 _ _)
   (tuple_addW2 t b vs.toArray ws.toArray n n2 dd dd2 sl sl2 (by simpa using hv) (by simpa using hw) (by rw[HL,HL];exact hsz)) ⟨ho,ho2,?_⟩
  rw[e];exact h2 hw
def sIx (n d:Nat):Option Int->Nat
 | none=>d
 | some v=>if v<0 then(v+(n:Int)).toNat else min v.toNat n
theorem sIx_none (n d:Nat):sIx n d none=d:=rfl
theorem sIx_nat (n d k:Nat):sIx n d (some (k:Int))=min k n:=by
 show(if (k:Int)<0 then((k:Int)+(n:Int)).toNat else min (k:Int).toNat n)=min k n
 rw[if_neg (by omega),JI]
theorem B3 (n d:Nat)(hd:d<=n)(o:Option Int):sIx n d o<=n:=by
 cases o with
 | none=>exact hd
 | some v=>
  show(if v<0 then(v+(n:Int)).toNat else min v.toNat n)<=n
  by_cases hv:v<0
  ·rw[if_pos hv];omega
  ·rw[if_neg hv];exact Nat.min_le_right _ _
theorem uw (v:Int)(n d:Nat):(if v<0 then max (v+(n:Int)) 0 else min v (n:Int))=((sIx n d (some v):Nat):Int):=by
 show(if v<0 then max (v+(n:Int)) 0 else min v (n:Int))=(((if v<0 then(v+(n:Int)).toNat else min v.toNat n):Nat):Int)
 by_cases hv:v<0
 ·simp only[if_pos hv];omega
 ·simp only[if_neg hv];omega
theorem sG (lo hi:Option Int)(n:Nat):Jw lo hi 1 (n:Int)=(((sIx n 0 lo:Nat):Int),((sIx n n hi:Nat):Int)):=by
 have h1:¬ ((1:Int)<0):=by omega
 unfold Jw;simp only[h1,if_false];refine Prod.ext ?_ ?_
 ·cases lo with
  | none=>rfl
  | some v=>exact uw v n 0
 ·cases hi with
  | none=>rfl
  | some v=>exact uw v n n
theorem rV (i j:Nat):IP (i:Int) (j:Int) 1=j - i:=by
 unfold IP
 have h1:(1:Int) > 0:=by omega
 simp only[h1,if_true,Py]
 split <;> omega
theorem k7 {v:Hs}{o:Option Int}{Q:Option Int->Hr->Prop}(p:OU v o)(h:Q o s):wpAny (model prog w) A (P0 v) Q E s:=by
 cases p with
 | none=>exact Mz h
 | int i t=>exact slicePart_int h
theorem fY {sl:Addr}{vl vu:Hs}{lo hi:Option Int}{n:Nat}{Q:Int×Int×Nat->Hr->Prop}(hs:s.heap.IsSliceOf sl vl vu .none)(pl:OU vl lo)(pu:OU vu hi)
  (h:Q (((sIx n 0 lo:Nat):Int),1,sIx n n hi - sIx n 0 lo) s):wpAny (model prog w) A (J7 (.ref sl) (pure (n:Int))) Q E s:=by
 obtain⟨os,hos,hcs,hds⟩:=id hs;unfold J7 Mu;refine Hq (Hq (Jg hos hds (x:=vl) rfl (Hq (Jg hos hds (x:=vu) rfl (Hq (Jg hos hds (x:=.none) rfl (Hy ?_)))))))
 refine Hq (Mz ?_)
 show wpAny _ _ (if ((1:Int) == 0)=true then _ else _) _ _ s
 rw[if_neg (by decide)]
 refine Hq (k7 pl (Hq (k7 pu (Hq (Hy ?_)))))
 show wpAny _ _ (match Jw lo hi 1 (n:Int)with | (lo,hi)=>pure (lo,(1:Int),IP lo hi 1)) _ _ s
 rw[sG lo hi n]
 show wpAny _ _ (pure (((sIx n 0 lo:Nat):Int),(1:Int),IP ((sIx n 0 lo:Nat):Int) ((sIx n n hi:Nat):Int) 1)) _ _ s
 rw[rV];exact Hy h
theorem xb (xs:Array Hs)(i k:Nat):((Iy k).filterMap λ(m:Nat)=>xs[((i:Int)+(m:Int)*1).toNat]?).toArray=((xs.toList.drop i).take k).toArray:=by
 have e:(λ(m:Nat)=>xs[((i:Int)+(m:Int)*1).toNat]?)=λm=>xs[i+m]?:=by
  funext m
  have:((i:Int)+(m:Int)*1).toNat=i+m:=by omega
  rw[this]
 rw[e]
 have:=pick_run xs i k;rw[Ot]at this
 have e2:((λx=>xs[x]?)∘λx=>i+x)=λm=>xs[i+m]?:=rfl
 rw[e2]at this;rw[this]
theorem getItem_tuple_cut {t sl:Addr}{items:Array Hs}{vl vu:Hs}{lo hi:Option Int}{Q:Hs->Hr->Prop}(ht:Qs s.heap t items)(hs:s.heap.IsSliceOf sl vl vu .none)(pl:OU vl lo)(pu:OU vu hi)
  (hw:¬ (sIx items.size 0 lo=0/\sIx items.size items.size hi=items.size))
  (h:Q (.ref s.heap.objs.size) { s with heap:=s.heap.push { cls:=.type "tuple",data:=.seq ((items.toList.drop (sIx items.size 0 lo)).take (sIx items.size items.size hi - sIx items.size 0 lo)).toArray } })
  (hsz:items.size<=sizeLine):wpAny (model prog w) A (getItem (.ref t) (.ref sl)) Q E s:=by
 have htake:sizeOk (.seq ((items.toList.drop (sIx items.size 0 lo)).take (sIx items.size items.size hi - sIx items.size 0 lo)).toArray):=by
  show((items.toList.drop (sIx items.size 0 lo)).take (sIx items.size items.size hi - sIx items.size 0 lo)).toArray.size<=sizeLine
  rw[HL,HV,Ih,IT];omega
 have hj:sIx items.size items.size hi<=items.size:=B3 _ _ (HE _) hi;obtain⟨os,hos,hcs,hds⟩:=id hs
 have hTs:s.TypeIs (.ref sl) "slice":=⟨os,hos,hcs⟩;unfold getItem
 try with_reducible refine Jd ?_
 first | refine Hq (Hy ?_) | skip
 refine Hq (MV ht.typeIs (by decide) ?_)
 refine Hq (IV (name:=HQ "__getitem__") ht.typeIs Il
  (Ji Il ht.typeIs Md ?_ (Ms _ _)))
 show wpAny _ _ (K0 (.ref t) >>= _) _ _ s
 refine Hq (M7 ht ?_)
 refine Hq (LK hTs ?_)
 rw[if_pos (by decide)]
 refine Hq (fY hs pl pu ?_)
 have hno:¬ ((((sIx items.size 0 lo:Nat):Int) == 0&&(1:Int) == 1&&(sIx items.size items.size hi - sIx items.size 0 lo) == items.size)=true):=by
  intro q;rw[Hu,Hu]at q
  have q1:((sIx items.size 0 lo:Nat):Int)=0:=eq_of_beq q.1.1
  have q2:sIx items.size items.size hi - sIx items.size 0 lo=items.size:=eq_of_beq q.2;exact hw ⟨by omega,by omega⟩
 show wpAny _ _ (if (((sIx items.size 0 lo:Nat):Int) == 0&&(1:Int) == 1&&(sIx items.size items.size hi - sIx items.size 0 lo) == items.size)=true then _ else _) _ _ s
 rw[if_neg hno,xb]
 first
  | exact Hq (m:=IF _) (Ip (Hy ⟨_,rfl,Hy h⟩) htake)
  | exact Hq (m:=IF _) (Ip (Hq (Hy (Hy ⟨_,rfl,Hy h⟩))) htake)
  | exact Hq (Hq (m:=IF _) (Ip (Hy (Hy ⟨_,rfl,Hy h⟩)) htake))
  | exact Hq (Hq (m:=IF _) (Ip (Hy ⟨_,rfl,Hy h⟩) htake))
end
end HT
namespace L2
open PySem PySem.Spec PyProof.Rows
abbrev TO:=St->Hp->(Option Int->Hp->Prop)->Prop
def PO (X:Cx)(e:Option Expr)(t:TO):Prop:=
 ∀(pins:List (Addr×Obj)) (s:Hr) (σ:St) (H:Hp) (Q:Option Int->Hp->Prop),Inv X pins σ H s->t σ H Q →
  wpAny (model X.prog X.w) X.A (evalPart e X.env) (λu s'=> ∃o H',Inv X pins σ H' s'/\OU u o/\Q o H') X.xe s
def y8:TO:=λ_ H Q=>Q none H
def EF (t:TE):TO:=λσ H Q=>t σ H λx H1=> ∃i,x= .int i/\Q (some i) H1
theorem si {ns:List Int}:∀{us:List Hs},Vals (ns.map V.int) us->Lu us ns:=by
 induction ns with
 | nil=>intro us r;rw[Ml]at r;cases r;exact .nil
 | cons n ns ih=>
  intro us r;rw[HN]at r
  cases r with
  | cons r1 r2=>
   obtain⟨t,e⟩:=r1;subst e;exact .cons n t (ih r2)
section
variable {X:Cx}{e:Expr}{te:TE}{lo hi:Option Expr}{tl th:TO}{pos p2:Pos}
theorem zF:PO X none y8:=by
 intro pins s σ H Q I h;rw[OV];exact Hy ⟨none,H,I,.none,h⟩
theorem zE (h:PE X e te):PO X (some e) (EF te):=by
 intro pins s σ H Q I hw;rw[evalPart_some];refine bK (h pins s σ H _ I hw) λu s1 hh_=> ?_
 obtain⟨x,H1,I1,r1,q1⟩:=hh_;obtain⟨i,rfl,q⟩:=q1;obtain⟨t,rfl⟩:=r1;exact⟨some i,H1,I1,.int i t,q⟩
def SlR (X:Cx)(r:V->Option Int->Option Int->Hp->VK->Prop):Prop:=
 ∀(pins:List (Addr×Obj)) (s:Hr) (σ:St) (H:Hp) (x:V) (v vl vu:Hs) (lo hi:Option Int) (sl:Addr) (Q:VK),Inv X pins σ H s->RelV x v->s.heap.IsSliceOf sl vl vu .none->OU vl lo->OU vu hi->r x lo hi H Q →
  ∃T id,NU (.type T) "__getitem__" =pure (some (.builtin id))/\s.TypeIs v T/\wpAny (model X.prog X.w) X.A (getItem v (.ref sl)) (EP X pins σ Q) X.xe s
theorem SlR.or {r r':V->Option Int->Option Int->Hp->VK->Prop}(h:SlR X r)(h':SlR X r'):SlR X (λx lo hi H Q=>r x lo hi H Q\/r' x lo hi H Q):=by
 intro pins s σ H x v vl vu lo hi sl Q I rx hs pl pu q;rcases q with q | q
 ·exact h pins s σ H x v vl vu lo hi sl Q I rx hs pl pu q
 ·exact h' pins s σ H x v vl vu lo hi sl Q I rx hs pl pu q
def tSl (r:V->Option Int->Option Int->Hp->VK->Prop)(te:TE)(tl th:TO):TE:=λσ H Q=>te σ H λx H1=>tl σ H1 λl H2=>th σ H2 λu H3=>r x l u H3 Q
theorem qt {r:V->Option Int->Option Int->Hp->VK->Prop}(hr:SlR X r)(he:PE X e te)(hl:PO X lo tl)(hu:PO X hi th):PE X (.Subscript e (.Slice lo hi none p2) pos) (tSl r te tl th):=by
 intro pins s σ H Q I h;refine Pv (bK (he pins s σ H _ I h) λv s1 hh_=> ?_)
 obtain⟨x,H1,I1,r1,q1⟩:=hh_;refine wpAny_Slice (bK (hl pins s1 σ H1 _ I1 q1) λvl s2 ⟨l,H2,I2,pl,q2⟩=>bK (hu pins s2 σ H2 _ I2 q2) λvu s3 hh_=> ?_)
 obtain⟨u,H3,I3,pu,q3⟩:=hh_;rw[OV];refine Hy ?_
 have I4:Inv X pins σ H3 { s3 with heap:=s3.heap.push { cls:=.type "slice",data:=.fields #[vl,vu,.none] } }:=I3.kept (t':=s3.toks) λb ob q=>Hz _ q
 obtain⟨T,id,hT,ht,hg⟩:=hr pins { s3 with heap:=s3.heap.push { cls:=.type "slice",data:=.fields #[vl,vu,.none] } } σ H3 x v vl vu l u s3.heap.objs.size Q I4 r1 (Mk ..) pl pu q3
 show wpAny (model X.prog X.w) X.A (subscriptTail e (.Slice lo hi none p2) v (.ref s3.heap.objs.size)) (EP X pins σ Q) X.xe { s3 with heap:=s3.heap.push { cls:=.type "slice",data:=.fields #[vl,vu,.none] } }
 exact tail_any (ops:=[.ref s3.heap.objs.size,v]) ht hT hg (by with_unfolding_all rfl)
def qV (xs:List V)(lo hi:Option Int):List V:=(xs.drop (HT.sIx xs.length 0 lo)).take (HT.sIx xs.length xs.length hi - HT.sIx xs.length 0 lo)
theorem kq (xs:List V)(lo hi:Option Int):(qV xs lo hi).length<=xs.length:=by
 unfold qV;rw[HV,Ih];omega
def rSlT (K:Ho):V->Option Int->Option Int->Hp->VK->Prop:=λx lo hi H Q=> ∃a xs,x= .ref a/\SqT K H a xs ∧
 ¬(HT.sIx xs.length 0 lo=0/\HT.sIx xs.length xs.length hi=xs.length)/\∀p,H p=none->Q (.ref p) (dB H p (.tup (qV xs lo hi)))
theorem sl_tup:SlR X (rSlT X.K):=by
 intro pins s σ H x v vl vu lo hi sl Q I rx hs pl pu h;obtain⟨a,xs,rfl,hx,hw,q⟩:=h;cases rx;obtain⟨its,r,ht,hz⟩:=I.tuple hx
 have hlen:its.toArray.size=xs.length:=by rw[HL];exact r.length.symm
 refine⟨"tuple",_,Il.lookup,ht.typeIs,?_⟩
 refine HT.getItem_tuple_cut ht hs pl pu (by rw[hlen];exact hw) ?_ (by rw[hlen];exact hz)
 rw[hlen];refine⟨.ref s.heap.objs.size,_,I.laid (t':=s.toks) (o:=.tup (qV xs lo hi)) (λb ob q=>Hz _ q) (HE _) ?_,rfl,q _ (I.hok.fresh (HE _))⟩
 exact⟨H0 (kq xs lo hi) hz,_,(r.drop (HT.sIx xs.length 0 lo)).take (HT.sIx xs.length xs.length hi - HT.sIx xs.length 0 lo),Nr _ _⟩
def EX (K:Ho):R2:=λx y H Q=> ∃a b xs ys,x= .ref a/\y= .ref b/\SqT K H a xs/\SqT K H b ys/\xs≠ []/\xs.length+ys.length<=sizeLine ∧
 (ys= []->Q (.ref a) H)/\(ys≠ []->∀p,H p=none->Q (.ref p) (dB H p (.tup (xs++ys))))
theorem Vals.Do {xs:List V}{us:List Hs}(r:Vals xs us):us= [] ↔xs= []:=by
 cases r with
 | nil=>simp
 | cons _ _=>simp
theorem zU:mf X (Jq .Add) (EX X.K):=by
 intro pins s σ H x y v u Q I rx ry h;obtain⟨a,b,xs,ys,rfl,rfl,ha,hb,hx,hz,q1,q2⟩:=h;cases rx;cases ry;obtain⟨its,r1,p1,_⟩:=I.tuple ha;obtain⟨its2,r2,p2,_⟩:=I.tuple hb;refine HT.cat_tup p1 p2 (λz=>hx (r1.Do.mp z)) (λz=>⟨.ref a,H,I,rfl,q1 (r2.Do.mp z)⟩) (λz=> ?_) (by rw[<-r1.length,<-r2.length];exact hz)
 refine⟨.ref s.heap.objs.size,_,I.laid (t':=s.toks) (o:=.tup (xs++ys)) (λb ob q=>Hz _ q) (HE _) ?_,rfl,q2 (λw=>z (r2.Do.mpr w)) _ (I.hok.fresh (HE _))⟩
 exact⟨by rw[Ht];exact hz,_,r1.append r2,Nr _ _⟩
end
def ixN (n:Nat)(i:Int):Option Nat:=if 0<=i then(if i<n then some i.toNat else none)else if -(n:Int)<=i then some (i+n).toNat else none
def atI {α:Type}(xs:List α)(i:Int):Option α:=(ixN xs.length i).bind λj=>xs[j]?
theorem Ae {n:Nat}{i:Int}{j:Nat}(h:ixN n i=some j):seqIndex? i n=some j/\j<n/\-(n:Int)<=i/\i<n:=by
 unfold ixN at h
 by_cases h0:0<=i
 ·rw[if_pos h0]at h
  by_cases h1:i<n
  ·rw[if_pos h1]at h
   have e:i.toNat=j:=Ik h;exact⟨by rw[seqIndex_of h0 h1,e],by omega,by omega,h1⟩
  ·rw[if_neg h1]at h;cases h
 ·rw[if_neg h0]at h
  by_cases h1 : -(n:Int)<=i
  ·rw[if_pos h1]at h
   have e:(i+n).toNat=j:=Ik h;exact⟨by rw[seqIndex_neg (by omega) h1,e],by omega,h1,by omega⟩
  ·rw[if_neg h1]at h;cases h
theorem pH {α:Type}{xs:List α}{i:Int}{v:α}(h:atI xs i=some v):∃j,seqIndex? i xs.length=some j/\xs[j]? =some v/\j<xs.length/\-(xs.length:Int)<=i/\i<xs.length:=by
 unfold atI at h
 cases e:ixN xs.length i with
 | none=>rw[e]at h;cases h
 | some j=>
  rw[e]at h;obtain⟨h1,h2,h3,h4⟩:=Ae e;exact⟨j,h1,h,h2,h3,h4⟩
def kK (b:Expr):Prop:=∀o i,subscripted b false o i=operate [o,i] (getItem o i)
def IxR (X:Cx)(r:R2):Prop:=
 ∀(value slice:Expr) (pins:List (Addr×Obj)) (s:Hr) (σ:St) (H:Hp) (x y:V) (v u:Hs) (Q:VK),Inv X pins σ H s->RelV x v->RelV y u->r x y H Q →
  subscripted slice false v u=operate [v,u] (getItem v u)->wpAny (model X.prog X.w) X.A (subscriptTail value slice v u) (EP X pins σ Q) X.xe s
def MtR (X:Cx)(id:String)(r:V->List V->Hp->VK->Prop):Prop:=
 ∀(pins:List (Addr×Obj)) (s:Hr) (σ:St) (H:Hp) (x:V) (xs:List V) (v:Hs) (us:List Hs) (Q:VK),Inv X pins σ H s->RelV x v->Vals xs us->r x xs H Q →
  wpAny (model X.prog X.w) X.A (call (.builtin id) (v::us)) (EP X pins σ Q) X.xe s
section
variable {X:Cx}{a b:Expr}{ta tb:TE}{pos:Pos}
theorem IxR.or {r r':R2}(h:IxR X r)(h':IxR X r'):IxR X (λx y H Q=>r x y H Q\/r' x y H Q):=by
 intro value slice pins s σ H x y v u Q I rx ry q hs;rcases q with q | q
 ·exact h value slice pins s σ H x y v u Q I rx ry q hs
 ·exact h' value slice pins s σ H x y v u Q I rx ry q hs
def EW (K:Ho):R2:=λx y H Q=> ∃p xs i v,x= .ref p/\y= .int i/\SqL K H p xs/\atI xs i=some v/\Q v H
def EU (K:Ho):R2:=λx y H Q=> ∃p xs i v,x= .ref p/\y= .int i/\SqT K H p xs/\atI xs i=some v/\Q v H
def EV:R2:=λx y H Q=> ∃z i c,x= .str z/\y= .int i/\z.length<=sizeLine/\atI z.cps.toList i=some c/\Q (.str ⟨#[c]⟩) H
theorem ix_list:IxR X (EW X.K):=by
 intro value slice pins s σ H x y v u Q I rx ry h hs;obtain⟨p,xs,i,z,rfl,rfl,hq,he,q⟩:=h;cases rx;obtain⟨t,rfl⟩:=ry;obtain⟨its,r,pl,hz⟩:=I.list hq;obtain⟨j,h1,h2,h3,h4,h5⟩:=pH he;obtain⟨w,ew,rw'⟩:=r.get h2
 have hl:=r.length
 have hn:=lG
 have fin:EP X pins σ Q w s:=⟨z,H,I,rw',q⟩
 by_cases h0:0<=i
 ·have hj:i.toNat=j:=by
   rw[seqIndex_of h0 h5]at h1;exact Ik h1
  exact item_listR pl.isList h0 (by omega) (by rw[hj];simpa using ew) fin hs
 ·have hj:(i+(its.toArray.size:Int)).toNat=j:=by
   rw[seqIndex_neg (by omega) h4]at h1
   rw[HL,<-hl];exact Ik h1
  exact Nm (x:=w) pl.isList.typeIs slot_list_getitem.lookup
   (wpAny_getItem_list_neg (Q:=λr s'=>r=w/\EP X pins σ Q r s') pl.isList (by omega) (by rw[HL] <;> omega) (by omega) (by rw[hj];simpa using ew) ⟨rfl,fin⟩) hs
theorem ix_tup:IxR X (EU X.K):=by
 intro value slice pins s σ H x y v u Q I rx ry h hs;obtain⟨p,xs,i,z,rfl,rfl,hq,he,q⟩:=h;cases rx;obtain⟨t,rfl⟩:=ry;obtain⟨its,r,pl,hz⟩:=I.tuple hq;obtain⟨j,h1,h2,h3,h4,h5⟩:=pH he;obtain⟨w,ew,rw'⟩:=r.get h2
 have hl:=r.length
 have hn:=lG
 have fin:EP X pins σ Q w s:=⟨z,H,I,rw',q⟩
 exact Nm (x:=w) pl.typeIs slot_tuple_getitem.lookup
  (getItem_tuple (j:=j) (Q:=λr s'=>r=w/\EP X pins σ Q r s') pl (by omega) (by omega) (by rw[HL,<-hl];exact h1) (by simpa using ew) ⟨rfl,fin⟩) hs
theorem xX:IxR X EV:=by
 intro value slice pins s σ H x y v u Q I rx ry h hs;obtain⟨z,i,c,rfl,rfl,hz,he,q⟩:=h;obtain⟨t,rfl⟩:=rx;obtain⟨t',rfl⟩:=ry;obtain⟨j,h1,h2,h3,h4,h5⟩:=pH he
 have hl:z.cps.toList.length=z.length:=by simp[Str.length]
 rw[hl]at h1 h4 h5
 have hn:=lG
 exact tail_any (typeIs_str s z t) slot_str_getitem.lookup (getItem_str (c:=c) (by
  have e1:decide (i< -(2 ^ 63:Int))=false:=decide_eq_false (by omega)
  have e2:decide (i ≥ 2 ^ 63)=false:=decide_eq_false (by omega)
  rw[e1,e2,M1]) (by rw[h1];simpa using h2) ⟨.str ⟨#[c]⟩,H,I.tok _,⟨_,rfl⟩,q⟩) hs
def rIx (K:Ho):R2:=λx y H Q=>EW K x y H Q\/EU K x y H Q\/EV x y H Q
theorem Ds:IxR X (rIx X.K):=ix_list.or (ix_tup.or xX)
theorem n4 (lo hi:Option Int)(n:Nat):(LB lo hi none n).1=((HT.sIx n 0 lo:Nat):Int)/\(LB lo hi none n).2.1=((HT.sIx n n hi:Nat):Int)/\(LB lo hi none n).2.2=1:=by
 refine⟨?_,?_,rfl⟩
 ·cases lo with
  | none=>simp[LB,HT.sIx]
  | some i=>
   simp only[LB,HT.sIx,PN,show(1:Int) > 0 by decide,if_true]
   by_cases h:i<0
   ·simp only[h,if_true] <;> omega
   ·simp only[h,if_false] <;> omega
 ·cases hi with
  | none=>simp[LB,HT.sIx]
  | some i=>
   simp only[LB,HT.sIx,PN,show(1:Int) > 0 by decide,if_true]
   by_cases h:i<0
   ·simp only[h,if_true] <;> omega
   ·simp only[h,if_false] <;> omega
theorem my (its:List Hs)(lo hi:Option Int):Qj its.toArray lo hi none=((its.drop (HT.sIx its.length 0 lo)).take (HT.sIx its.length its.length hi - HT.sIx its.length 0 lo)).toArray:=by
 obtain⟨h1,h2,h3⟩:=n4 lo hi its.toArray.size;unfold Qj;rw[h1,h2,h3];simp only[sliceRange_one,pick_run,HL] <;> rfl
def rSlL (K:Ho):V->Option Int->Option Int->Hp->VK->Prop:=λx lo hi H Q=> ∃a xs,x= .ref a/\SqL K H a xs/\∀p,H p=none->Q (.ref p) (dB H p (.lst (qV xs lo hi)))
theorem zc:SlR X (rSlL X.K):=by
 intro pins s σ H x v vl vu lo hi sl Q I rx hs pl pu h;obtain⟨a,xs,rfl,hx,q⟩:=h;cases rx;obtain⟨its,r,ht,hz⟩:=I.list hx
 have hlen:=r.length;refine⟨"list",_,slot_list_getitem.lookup,ht.isList.typeIs,?_⟩
 refine MW ht.isList hs pl pu .none (by simp) ?_ (by rw[HL] <;> omega)
 rw[my,<-hlen];refine⟨.ref s.heap.objs.size,_,I.laid (t':=s.toks) (o:=.lst (qV xs lo hi)) (λb ob q=>Hz _ q) (HE _) ?_,rfl,q _ (I.hok.fresh (HE _))⟩
 exact⟨H0 (kq xs lo hi) hz,_,0,(r.drop (HT.sIx xs.length 0 lo)).take (HT.sIx xs.length xs.length hi - HT.sIx xs.length 0 lo),HR _ rfl⟩
theorem call_len_seq:CallR X (.builtin "len") (λxs H Q=> ∃p ys,xs= [.ref p]/\(SqL X.K H p ys\/SqT X.K H p ys)/\Q (.int ys.length) H):=by
 intro pins s σ H xs us Q I r h;obtain⟨p,ys,rfl,hq,q⟩:=h;obtain⟨u,rfl,rx⟩:=kR r;cases rx
 have hn:=lG;rcases hq with hq | hq
 ·obtain⟨its,r',pl,hz⟩:=I.list hq
  have hlen:=r'.length;exact Calls.call_len_list pl.isList (by simp only[HL] <;> omega) ⟨.int ys.length,H,I.tok _,⟨s.toks+1,by rw[HL,hlen]⟩,q⟩
 ·obtain⟨its,r',pl,hz⟩:=I.tuple hq
  have hlen:=r'.length;exact len_tuple pl (by simp only[HL] <;> omega) ⟨.int ys.length,H,I.tok _,⟨s.toks+1,by rw[HL,hlen]⟩,q⟩
theorem pD:CallR X (.builtin "len") (λxs H Q=> ∃z,xs= [.str z]/\z.length<=sizeLine/\Q (.int z.length) H):=by
 intro pins s σ H xs us Q I r h;obtain⟨z,rfl,hz,q⟩:=h;obtain⟨u,rfl,t,rfl⟩:=kR r
 have hn:=lG;exact len_str (by omega) ⟨.int z.length,H,I.tok _,⟨_,rfl⟩,q⟩
theorem CallR.or {f:Hs}{r r':List V->Hp->VK->Prop}(h:CallR X f r)(h':CallR X f r'):CallR X f (λxs H Q=>r xs H Q\/r' xs H Q):=by
 intro pins s σ H xs us Q I rs q;rcases q with q | q
 ·exact h pins s σ H xs us Q I rs q
 ·exact h' pins s σ H xs us Q I rs q
theorem mJ:CallR X (.type "tuple") (λxs H Q=> ∃p ys,xs= [.ref p]/\((SqL X.K H p ys/\∀l,H l=none->Q (.ref l) (dB H l (.tup ys)))\/(SqT X.K H p ys/\Q (.ref p) H))):=by
 intro pins s σ H xs us Q I r h;obtain⟨p,ys,rfl,h⟩:=h;obtain⟨u,rfl,rx⟩:=kR r;cases rx;rcases h with⟨hq,q⟩ | ⟨hq,q⟩
 ·obtain⟨its,r',pl,hz⟩:=I.list hq
  have hlen:=r'.length;refine call_tuple_list pl.isList (λh' kp=> ?_) (by simp only[HL] <;> omega)
  have I1:Inv X pins σ H { s with heap:=h' }:=I.kept (t':=s.toks) kp
  have I2:Inv X pins σ (dB H h'.objs.size (.tup ys)) { s with heap:=h'.push { cls:=.type "tuple",data:=.seq its.toArray } }:=
   I1.laid (t':=s.toks) (λb o e=>Hz _ e) (HE _) (show ObjOk X.prog X.w _ _ _ (.tup ys)from⟨hz,its,r',Nr _ _⟩)
  exact⟨.ref h'.objs.size,_,I2,rfl,q _ (I1.hok.fresh (HE _))⟩
 ·obtain⟨its,r',pl,hz⟩:=I.tuple hq
  exact call_tuple_same pl ⟨.ref p,H,I,rfl,q⟩
def tyV (K:Ho)(T:String)(x:V)(H:Hp):Prop:=match x with
 | .str _=>T= "str"
 | .int _=>T= "int"
 | .ref p=>(T= "list"/\∃xs,SqL K H p xs)\/(T= "tuple"/\∃o,K.lookup p=some o/\o.cls= .type "tuple"/\o.dict=none) ∨
   (T= "dict"/\((∃kvs,H p=some (.dK kvs))\/∃kvs,H p=some (.dT kvs)))\/(T= "set"/\∃S n,H p=some (.set S n))
 | _=>False
theorem BM {pins:List (Addr×Obj)}{σ:St}{H:Hp}{s:Hr}{T:String}{x:V}{v:Hs}(I:Inv X pins σ H s)(r:RelV x v)(ty:tyV X.K T x H) :
  s.TypeIs v T/\∀a,v= .ref a->∃ob,s.heap.get? a=some ob/\ob.dict=none:=by
 cases x with
 | str z=>
  obtain⟨t,rfl⟩:=r;cases (show T= "str" from ty)
  exact⟨typeIs_str s z t,λ_ e=>nomatch e⟩
 | int i=>
  obtain⟨t,rfl⟩:=r;cases (show T= "int" from ty)
  exact⟨NV s i t,λ_ e=>nomatch e⟩
 | ref p=>
  cases r;rcases ty with⟨rfl,xs,hq⟩ | ⟨rfl,o,hk,hc,hd⟩ | ⟨rfl,hk⟩ | ⟨rfl,S,n,hk⟩
  ·obtain⟨its,_,pl,_⟩:=I.list hq
   refine⟨pl.isList.typeIs,λa e=> ?_⟩
   cases e;obtain⟨o,n,e,c,hd,_⟩:=pl;exact⟨o,e,hd⟩
  ·refine⟨⟨o,I.kIn p o hk,hc⟩,λa e=> ?_⟩
   cases e;exact⟨o,I.kIn _ o hk,hd⟩
  ·have z:∃o,s.heap.get? p=some o/\o.ExactDict:=by
    rcases hk with⟨kvs,hk⟩ | ⟨kvs,hk⟩
    ·obtain⟨_,_,_,_,o,_,_,e,ex,_⟩:=I.hok p _ hk
     exact⟨o,e,ex⟩
    ·obtain⟨_,_,_,_,o,_,_,e,ex,_⟩:=I.hok p _ hk
     exact⟨o,e,ex⟩
   obtain⟨o,e,ex⟩:=z;refine⟨⟨o,e,ex.1⟩,λa e2=> ?_⟩
   cases e2;exact⟨o,e,ex.2.1⟩
  ·obtain⟨o,_,_,_,e,ex,_⟩:=I.hok p _ hk
   refine⟨⟨o,e,ex.1⟩,λa e2=> ?_⟩
   cases e2
   exact⟨o,e,ex.2.1⟩
 | _=>exact JH ty
def tBM (K:Ho)(T:String)(r:V->List V->Hp->VK->Prop)(to:TE)(t:TA):TE:=λσ H Q=>to σ H λx H1=>tyV K T x H1/\t σ H1 λxs H2=>r x xs H2 Q
variable {o e:Expr}{es:List Expr}{to:TE}{t:TA}{name:Str}{apos cpos:Pos}{T id:String}{r:V->List V->Hp->VK->Prop}
theorem Fw (pa:PlainAttrs T)(slot:Slot T name id)(hty:typeOf (.builtin id)=pure (.type "method_descriptor"))(hm:MtR X id r)(ho:PE X o to)(ha:PA X (e::es) t)
  (hbase:autoParam (Ke o name X.env (eval o X.env)=eval o X.env) u_)
  (hfew:((backTo cpos (HX (e::es) X.env)).all (λx=> !x.1)&&(backToKw cpos (keywordEach [] X.env)).all (λx=>x.1.isSome)
   &&decide ((e::es).length+([]:List Keyword).length+(if ([]:List Keyword).isEmpty then 0 else 1)<30))=true:=by rfl)
  (hline:autoParam ((apos.endLine == cpos.line)=true) u_) (hs:autoParam (HX (e::es) X.env=(false,eval e X.env)::HX es X.env) u_) (hplain:autoParam ((backTo cpos (HX es X.env)).any (·.1)=false) u_) :
  PE X (.Call (.Attribute o name apos) (e::es) [] cpos) (tBM X.K T r to t):=by
 intro pins s σ H Q I h;refine Nn hbase hfew hline rfl (bK (ho pins s σ H _ I h) λv s1 hh_=> ?_)
 obtain⟨x,H1,I1,r1,ty,q1⟩:=hh_;obtain⟨h1,h2⟩:=BM I1 r1 ty;refine⟨T,id,pa,slot,hty,h1,h2,?_⟩
 have hA:=ha cpos pins s1 σ H1 _ I1 q1;rw[hs]at hA ⊢;refine Nh (by show(false||(backTo cpos (HX es X.env)).any (·.1))=false;rw[hplain] <;> rfl) (LP ?_)
 exact bK hA λus s2 ⟨vs,H2,I2,r2,q2⟩=>hm pins s2 σ H2 x vs v us Q I2 r1 r2 q2
end
def MtM (X:Cx)(id:String)(r:V->List V->Hp->VK->Prop):Prop:=
 ∀(pins:List (Addr×Obj)) (s:Hr) (σ:St) (H:Hp) (x:V) (xs:List V) (v:Hs) (us:List Hs) (Q:VK),Inv X pins σ H s->RelV x v->Vals xs us->r x xs H Q →
  wpAny (model X.prog X.w) X.A (call (.builtin id) (v::us)) (EP X pins σ Q) X.xe s
theorem Vals.one:∀{x:V} {us:List Hs},Vals [x] us->∃u,us= [u]/\RelV x u
 | _,_,.cons r .nil=>⟨_,rfl,r⟩
theorem Vals.reverse {xs:List V}{us:List Hs}(h:Vals xs us):Vals xs.reverse us.reverse:=by
 induction h with
 | nil=>exact .nil
 | cons r t ih=>rw[Km,Km];exact Vals.append ih (.cons r .nil)
theorem Vals.rep {xs:List V}{us:List Hs}(h:Vals xs us):∀k:Nat,Vals (Ie k xs).flatten (Ie k us).flatten
 | 0=> .nil
 | k+1=>by
  rw[JJ,JJ,JK,JK];exact Vals.append h (Vals.rep h k)
theorem foldl_rep (its:List Hs):∀(k:Nat) (acc:List Hs),
  MJ (λx1 x2=>x1++x2) acc.toArray (Ie k its.toArray)=(acc++(Ie k its).flatten).toArray
 | 0,acc=>by simp
 | k+1,acc=>by
  have e:acc.toArray++its.toArray=(acc++its).toArray:=by simp
  have e2:(acc++its)++(Ie k its).flatten=acc++(Ie (k+1) its).flatten:=by
   rw[JJ,JK,IC]
  rw[<-e2,<-foldl_rep its k (acc++its),<-e,JJ,P8]
section
variable {X:Cx}{pins:List (Addr×Obj)}{σ:St}{H:Hp}{s:Hr}{l b:Addr}{xs ys zs:List V}
theorem Inv.Hn {its its':List Hs}{n:Nat}{f:Array Hs->Array Hs}{t':Nat}(I:Inv X pins σ H s)(hH:H l=some (.lst xs))
  (e:s.heap.get? l=some { cls:=.type "list",data:=.seq its.toArray n }) (hf:f its.toArray=its'.toArray) (hv:Vals ys its') (hz:ys.length<=sizeLine) :
  Inv X pins σ (dB H l (.lst ys)) { s with heap:=s.heap.update l (MK f),toks:=t' }:=by
 have q:=PySem.IsL.update e f;rw[hf]at q;refine I.write (x:=l) (e:=l) (by rw[hH];exact trivial) (.inl rfl) (λb' u hb hu=>(Jt s.heap (MK f) (KF hb)).trans hu) ⟨_,q⟩ ?_
 exact⟨hz,its',_,hv,q⟩
theorem Inv.GY {its:List Hs}{t':Nat}(I:Inv X pins σ H s)(hv:Vals ys its)(hz:ys.length<=sizeLine) :
  Inv X pins σ (dB H s.heap.objs.size (.lst ys)) { s with heap:=s.heap.push { cls:=.type "list",data:=.seq its.toArray },toks:=t' }:=
 I.laid (λ_ _ q=>Hz _ q) (HE _) ⟨hz,its,0,hv,HR _ rfl⟩
theorem Inv.fresh (I:Inv X pins σ H s):H s.heap.objs.size=none:=I.hok.fresh (HE _)
theorem Inv.GT (I:Inv X pins σ H s)(hH:H l=some (.lst xs)):xs.length<=sizeLine/\∃(its:List Hs) (n:Nat),Vals xs its/\xs.length=its.length/\s.heap.get? l=some { cls:=.type "list",data:=.seq its.toArray n }:=by
 obtain⟨z,its,n,r,e⟩:=I.hok l _ hH;exact⟨z,its,n,r,r.length,e⟩
theorem xr {n:Nat}(h:n<=sizeLine):K9 n=false:=by
 unfold K9;exact decide_eq_false (by omega)
end
section
variable {X:Cx}
def zh:V->List V->Hp->VK->Prop:=λx vs H Q=> ∃l xs y,x= .ref l/\vs= [y]/\H l=some (.lst xs)/\xs.length<sizeLine/\Q .non (dB H l (.lst (xs++ [y])))
theorem jU:MtM X "list.append" zh:=by
 intro pins s σ H x vs v us Q I rx rv h;obtain⟨l,xs,y,rfl,rfl,hH,hz,q⟩:=h;cases rx;obtain⟨u,rfl,ru⟩:=rv.one;obtain⟨z,its,n,r,hl,e⟩:=I.GT hH;refine Ld F.slot_list_append ⟨_,e,rfl⟩ F.entry_list_append (F.args_list_append_2 _ _) (PySem.list_append l its.toArray n u (by rw[HL];omega)) ⟨e,?_⟩
 refine⟨.non,_,I.Hn (its':=its++ [u]) hH e (by simp) (r.append (.cons ru .nil)) ?_,rfl,q⟩
 rw[Ht,KI];omega
def rCat:R2:=λx y H Q=> ∃l b xs zs,x= .ref l/\y= .ref b/\H l=some (.lst xs)/\H b=some (.lst zs)/\xs.length+zs.length<=sizeLine/\∀p,H p=none->Q (.ref p) (dB H p (.lst (xs++zs)))
theorem CS:mf X (Jq .Add) rCat:=by
 intro pins s σ H x y v u Q I rx ry h;obtain⟨l,b,xs,zs,rfl,rfl,hH,hB,hz,q⟩:=h;cases rx;cases ry;obtain⟨z,its,n,r,hl,e⟩:=I.GT hH;obtain⟨z2,its2,n2,r2,hl2,e2⟩:=I.GT hB;refine PM e e2 ?_ (by rw[HL,HL];omega)
 have ea:its.toArray++its2.toArray=(its++its2).toArray:=by simp
 rw[ea];exact⟨.ref _,_,I.GY (t':=s.toks) (r.append r2) (by rw[Ht];omega),rfl,q _ I.fresh⟩
def rRep:R2:=λx y H Q=> ∃l k xs,x= .ref l/\y= .int k/\H l=some (.lst xs)/\-(2 ^ 63)<=k/\k<2 ^ 63/\xs.length*k.toNat<=sizeLine ∧
 ∀p,H p=none->Q (.ref p) (dB H p (.lst (Ie k.toNat xs).flatten))
theorem len_rep {α:Type}(xs:List α)(k:Nat):(Ie k xs).flatten.length=k*xs.length:=by
 induction k with
 | zero=>simp
 | succ k ih=>rw[JJ,JK,Ht,ih,Pz,Nat.add_comm]
theorem CL:mf X (Jq .Mult) rRep:=by
 intro pins s σ H x y v u Q I rx ry h;obtain⟨l,k,xs,rfl,rfl,hH,h1,h2,hz,q⟩:=h;cases rx;obtain⟨t,rfl⟩:=ry;obtain⟨z,its,n,r,hl,e⟩:=I.GT hH
 have hlen:its.toArray.size*k.toNat<=sizeLine:=by rw[HL,<-hl];exact hz
 have hcap:¬ its.toArray.size*k.toNat > (2 ^ 63 - 1) / 8:=by
  have:(sizeLine:Nat)<=(2 ^ 63 - 1) / 8:=by decide
  omega
 have hfit:¬ (!Builtin.List.listFitsIndex k)=true:=by
  rw[fitsIndex_both h1 h2];exact Iv
 have hlong:¬ K9 (its.toArray.size*k.toNat)=true:=by
  rw[xr hlen];exact Iv
 have hnew:MJ (λx1 x2=>x1++x2) #[] (Ie (if its.toArray.isEmpty=true then 0 else k.toNat) its.toArray)=(Ie k.toNat its).flatten.toArray:=by
  have f0:∀m:Nat,MJ (λx1 x2=>x1++x2) #[] (Ie m its.toArray)=(Ie m its).flatten.toArray:=λm=>by
   have:=foldl_rep its m [];rw[Jx]at this;exact this
  rw[f0]
  cases its with
  | nil=>simp
  | cons a r'=>rw[if_neg (by simp)]
 refine MA (T:="list") (U:="int") (by decide) ⟨_,e,rfl⟩ (λs'=>NV s' k t) noFill_list_mul P9 L8 repeat_list PP.lookup
  (Ld L8 (NV s k t) PQ (Pd _ _) (int___rmul___int_list k t l its.toArray n)
   ⟨e,rfl,⟨_,e,rfl⟩,Ld F.slot_list_mul ⟨_,e,rfl⟩ F.entry_list_mul (F.args_list_mul_2 _ _) (Ou l its.toArray n k t hfit hcap hlong) ⟨e,?_⟩⟩)
 rw[hnew];exact⟨.ref _,_,I.GY (t':=s.toks) (r.rep k.toNat) (by rw[len_rep,PB];exact hz),rfl,q _ I.fresh⟩
end
end L2
namespace Att
open PySem PySem.W PySem.Calls PyProof.Rows
theorem kx {P:Params}{h:Heap}:∀(ns:List Int) (vs:List Hs),WellAll P h vs (ns.map WData.int)->Lu vs ns:=by
 intro ns
 induction ns with
 | nil=>
  intro vs w;rw[Ml]at w;cases w
  exact .nil
 | cons n ns ih=>
  intro vs w;rw[HN]at w
  cases w with
  | cons a b=>
   cases a;exact .cons _ _ (ih _ b)
theorem script_of {l:OpenLaw}{n:Nat}(hn:l.most=some n){P:Params}{h:Heap}{args:List WData}{vals:List Hs}
  (hpre:l.row.toRowW.claim.pre args=true) (hwl:WellAll P h vals args) :
  ∃a vs ns,vals= [Io a]/\args= [WData.list (ns.map WData.int)]/\h.get? a=some { cls:=.type "list",data:=.seq vs.toArray }/\Lu vs ns/\ns.length<=n:=by
 have hsh:WShape.hasAll [] args [.list .int] =true:=(pre_splitW hpre).1
 have hc:l.pre.holds [] { args:=args }=true:=(pre_splitW hpre).2;obtain⟨d,r,rfl,h1,h2⟩:=hasAllW_cons hsh;obtain rfl:=hasAllW_nil h2;obtain⟨xs,rfl,h3⟩:=hasW_list h1;obtain⟨ns,rfl⟩:=items_int h3
 have hlen:ns.length<=n:=by
  unfold OpenLaw.pre at hc
  have h4:(WTm.not (.lt (.lit (.int (n:Int))) (.len (.arg 0)))).holds [] { args:=[.list (ns.map .int)] }=true:=by
   have h4:=(holds_andW hc).1;rw[hn]at h4;exact h4
  have h5:=condW_of h4 (w_not (w_lt w_lit (w_len_list (w_arg rfl))));rw[Hw]at h5;refine Nat.le_of_not_lt λq=> ?_
  have q':(n:Int)<((ns.length:Nat):Int):=by omega
  first
   | (rw[decide_eq_true q']at h5;exact absurd h5 (by decide))
   | (simp at h5;omega)
 cases hwl with
 | cons w1 w2=>
  cases w2
  cases w1 with
  | list ho hall=>exact⟨_,_,ns,rfl,rfl,ho,kx ns _ hall,hlen⟩
theorem post_true (l:OpenLaw)(args:List WData):l.row.toRowW.claim.post args (.bool true) args=true:=
 postW_of (r:=l.row.toRowW) (X:=(true == true))
  (show WShape.has [] (.bool true) .bool=true by first | rfl | decide | simp[WShape.has,WShape.arms,WShape.armsAll])
  (show(WTm.eq .res (.lit (.bool true))).value [] { args:=args,res:=some (.bool true),after:=args }=some (.bool (true == true))from w_eq_bool (w_res rfl) w_lit) rfl
end Att
namespace L2
open PySem PySem.Spec PyProof.Rows
theorem jK:∀{vs:List Hs} {ns:List Int},Lu vs ns->Vals (ns.map V.int) vs
 | _,_,.nil=> .nil
 | _,_,.cons n t h=> .cons ⟨t,rfl⟩ (jK h)
def Ea (H:Hp):Prop:=∀b,H b=none\/∃o xs,H b=some (.frz o (.lst xs))
abbrev CX0:vI:=λ_ _ _ _ _ _=>False
abbrev E0:XK:=λ_ _ _=>False
theorem xi {X:Cx}:pM CX0 X E0:=λ_ _ _ _ _ _ _ h=>h.elim
structure Fun (K:Ho)(x qual:Str)(st:Stmt)(f:Addr)(fd:IW):Prop where
 ex:∃(oc:Hs) (od:Option Addr) (kV doc pm:Hs) (an:Option Addr) (cdv ct:Hs) (osl:Array (Option Hs)),
  fd=Kr x qual (e9 st) (bF st) (au st) .none kV doc pm an cdv ct/\K.lookup f=some ⟨oc,od,.func fd,osl⟩/\Mt K cdv qual=true
 kp:Kz K (.ref f)=true
section
variable {P:HZ}{w:ID}{K:Ho}{mg:Str->Option Hs}{base:Heap}
theorem Fun.ok {x qual:Str}{st:Stmt}{f:Addr}{fd:IW}{N ps:List Str}{k:Nat}{sp:Sp}(F:Fun K x qual st f fd)(S:cu N ps (au st))(len:∀vs H Q E,sp vs H Q E->vs.length=ps.length)
  (hbody:∀(cdv:Hs) (A:Iw) (outer:List Env) (s:Hr) (H:Hp) (vs:List V) (Q:VK) (E:XK),Room k (A.deeper (envOfC qual (au st) s.heap.objs.size f cdv))->sp vs H Q E →
   ∃t,PSs (fD CX0 P w K mg base N qual (au st) f cdv A outer s H E).nox (bF st) t/\t { nx:=λ_ H'=>Q .non H',rt:=Q } (start N vs) H):vG P w K mg base CX0 (k+1) f fd ps sp:=by
 obtain⟨oc,od,kV,doc,pm,an,cdv,ct,osl,rfl,lk,hcd⟩:=F.ex;refine F5 lk hcd S len λA outer s H vs Q E hr hsp=> ?_
 obtain⟨t,h,q⟩:=hbody cdv A outer s H vs Q E hr hsp;exact⟨t,h.nox,q⟩
theorem Fun.binds {x qual:Str}{st:Stmt}{f:Addr}{fd:IW}{ps:List Str}(F:Fun K x qual st f fd)
  (h:∀(kV doc pm:Hs) (an:Option Addr) (cdv ct:Hs) (us:List Hs),us.length=ps.length->OQ (Kr x qual (e9 st) (bF st) (au st) .none kV doc pm an cdv ct) ⟨us,[]⟩=pure (ps.zip us)):Binds K fd ps []:=by
 obtain⟨oc,od,kV,doc,pm,an,cdv,ct,osl,rfl,lk,hcd⟩:=F.ex;exact .all (h kV doc pm an cdv ct)
theorem Dy {x qual:Str}{st:Stmt}{f:Addr}{oc:Hs}{od an:Option Addr}{osl:Array (Option Hs)}{kV doc pm cdv ct:Hs}(l:K.lookup f=some ⟨oc,od,.func (Kr x qual (e9 st) (bF st) (au st) .none kV doc pm an cdv ct),osl⟩)
  (c:Mt K cdv qual=true) (k:Kz K (.ref f)=true):Fun K x qual st f (Kr x qual (e9 st) (bF st) (au st) .none kV doc pm an cdv ct):=⟨⟨oc,od,kV,doc,pm,an,cdv,ct,osl,rfl,l,c⟩,k⟩
end
theorem iteF {A B:Prop}(h:B):if false=true then A else B:=by
 rw[if_neg Iv];exact h
theorem iteT {A B:Prop}(h:A):if true=true then A else B:=by
 rw[if_pos rfl];exact h
def Same (H H':Hp):Prop:=∀b o,H b=some o->H' b=some o
theorem Same.refl (H:Hp):Same H H:=λ_ _ h=>h
theorem Same.trans {H H1 H2:Hp}(a:Same H H1)(b:Same H1 H2):Same H H2:=λc o h=>b c o (a c o h)
theorem ji {env:Env}:∀(names:List (Str×KC)) (acc:List (Str×Addr)),
  (∀x,(x,IB)∈names->∃c,env.cells.lookup x=some c) →
  (∀x c,acc.lookup x=some c->env.cells.lookup x=some c) →
  ∃cl,(forIn (m:=Sem) names acc (λx cs=>(if (x.2 == IB)=true then do let a <-cellOf env x.1;pure (J1 ((x.1,a)::cs))else pure (J1 cs))))=pure cl ∧
   (∀x c,cl.lookup x=some c->env.cells.lookup x=some c) ∧
   (∀x,(x,IB)∈names->∃c,cl.lookup x=some c)/\(∀x c,acc.lookup x=some c->∃c',cl.lookup x=some c')
 | [],acc,_,h=>⟨acc,rfl,h,λx hx=>by simp at hx,λx c e=>⟨c,e⟩⟩
 | (n,k)::r,acc,hf,h=>by
  by_cases hk:k=IB
  ·subst hk
   obtain⟨c,hc⟩:=hf n (by simp)
   have h':∀x c',((n,c)::acc).lookup x=some c'->env.cells.lookup x=some c':=λx c' e=>by
    rw[Jh]at e
    cases q:x == n with
    | true=>
     rw[q]at e
     have e2:c=c':=Ik e
     have e3:x=n:=by simpa using q
     rw[<-e2,e3];exact hc
    | false=>rw[q]at e;exact h x c' e
   obtain⟨cl,e1,e2,e3,e4⟩:=ji r ((n,c)::acc) (λx hx=>hf x (Hv _ hx)) h'
   refine⟨cl,?_,e2,λx hx=> ?_,λx c' e=> ?_⟩
   ·rw[Qa]
    simp only[beq_self_eq_true,if_true,cellOf,hc,pure_bind];exact e1
   ·rcases HB.mp hx with z | z
    ·have z1:x=n:=by injection z
     subst z1;exact e4 x c (by simp[Jh])
    ·exact e3 x z
   ·cases q:x == n with
    | true=>exact e4 x c (by simp[Jh,q])
    | false=>exact e4 x c' (by simp[Jh,q,e])
  ·have hb:(k == IB)=false:=by simpa using hk
   obtain⟨cl,e1,e2,e3,e4⟩:=ji r acc (λx hx=>hf x (Hv _ hx)) h
   refine⟨cl,?_,e2,λx hx=> ?_,e4⟩
   ·rw[Qa]
    simp only[hb,Jb,if_false,pure_bind];exact e1
   ·rcases HB.mp hx with z | z
    ·have z1:IB=k:=by injection z
     exact absurd z1.symm hk
    ·exact e3 x z
theorem lY {env:Env}{scope:KY}(hf:∀x,(x,IB)∈scope.names->∃c,env.cells.lookup x=some c) :
  ∃cl,closureFor scope env=pure cl/\(∀x c,cl.lookup x=some c->env.cells.lookup x=some c)/\(∀x,(x,IB)∈scope.names->∃c,cl.lookup x=some c):=by
 obtain⟨cl,e1,e2,e3,_⟩:=ji scope.names [] hf (λx c e=>by simp at e)
 refine⟨cl,?_,e2,e3⟩
 unfold closureFor;refine Eq.trans ?_ (congrArg (λz=>z >>= pure) e1|>.trans (by simp))
 rfl
theorem pB {pr:HZ}{wd:ID}{Ar:Iw}{Rz:LJ->Hr->Prop}{s0:Hr}{el tg it0:Expr}{cs:List Expr}{sc:KY}{ps:Pos}{itv av:Hs}{ev:Env}(W:Nat->Hr->Prop)
  (go:∀k st,W k st->wpAny (model pr wd) Ar (pyNext itv) (λr s1=>match r with
   | none=>Rz (.ok .next) s1
   | some v=>wpAny (model pr wd) Ar (Ko tg itv v) (λ_ s2=>wpAny (model pr wd) Ar (assign tg ev v) (λ_ s3=>
     wpAny (model pr wd) Ar (forIn cs true λc b=>if b=true then do let z <-isTrue c ev (eval c ev);pure (J1 z)else pure (J1 b)) (λz s4=>
      if z=true then wpAny (model pr wd) Ar (eval el ev) (λy s5=>
       wpAny (model pr wd) Ar (call (.builtin "list.append") [av,y]) (λ_ s6=> ∃m,m<k/\W m s6) (λ_ _=>False) s5) (λ_ _=>False) s4
      else ∃m,m<k/\W m s4) (λ_ _=>False) s3) (λ_ _=>False) s2) (λ_ _=>False) s1) (λ_ _=>False) st)
  (k:Nat) (hk:W k s0):codeAny (model pr wd) Ar (.compLoop (.ListComp el [⟨tg,it0,cs,0⟩] sc ps) 0 itv av ev) Rz s0:=by
 refine codeAny_loop rfl W (λk st hw=> ?_) k hk
 show wpAny (model pr wd) Ar ((compTurn (.ListComp el [⟨tg,it0,cs,0⟩] sc ps) 0 itv av ev).onRaise (λz=>do KP z ev;Me z)) _ _ st
 refine wpAny_noted ?_
 rw[compTurn_list]
 have no:∀{α:Type} {t:Sem α} {Q Q':α->Hr->Prop} {E':Hs->Hr->Prop} {x:Hr},wpAny (model pr wd) Ar t Q (λ_ _=>False) x->(∀y z,Q y z->Q' y z)->wpAny (model pr wd) Ar t Q' E' x:=λh f=>IS h f λ_ _ z=>z.elim
 refine Hq (LY (Hq (no (go k st hw) λr s1 g1=> ?_)))
 cases r with
 | none=>exact Hy g1
 | some v=>
  refine Hq (no g1 λ_ s2 g2=>Hq (no g2 λ_ s3 g3=>Hq (no g3 λz s4 g4=> ?_)))
  cases z with
  | false=>exact Hy (K4 rfl g4)
  | true=>exact Hq (Hq (no g4 λy s5 g5=>Hq (no g5 λ_ s6 g6=>Hy (Hy (K4 rfl g6)))))
def aZ (X:Cx)(scope:KY)(cl:List (Str×Addr))(N':List Str)(C:Addr)(s₀:Hr)(H₀:Hp)(fp:List Addr):Cx:=
 { X with N:=N',s₀:=s₀,H₀:=H₀,env:=compEnvC scope cl C X.env,outer:=X.stack,stack:=X.stack,ex:=fp,fn:=λx=>scope.names.lookup x == some .cell,xe:=λ_ _=>False }
def cY (src:List (Option Nat))(σ:St):St:=src.map λo=>match o with
 | some i=>(σ[i]?).join
 | none=>none
theorem fx {env:Env}:∀{names:List (Str×KC)} {x:Str} {k:KC},
  (names.map λ(n,k)=>if (k == IB&&env.scope.kind == .function&&env.kindOf n == some .cell)then(n,JA)else(n,k)).lookup x=some k →
  ∃k',names.lookup x=some k'/\(k=k'\/k'= .free)
 | [],_,_,h=>by simp at h
 | (n,k0)::r,x,k,h=>by
  have ih:=@fx env r x k
  have h':Lz x ((if (k0 == IB&&env.scope.kind == .function&&env.kindOf n == some .cell)=true then(n,JA)else(n,k0))::(r.map λ(n,k)=>if (k == IB&&env.scope.kind == .function&&env.kindOf n == some .cell)then(n,JA)else(n,k)))=some k:=h
  by_cases hc:(k0 == IB&&env.scope.kind == .function&&env.kindOf n == some .cell)=true
  ·rw[if_pos hc]at h'
   rw[Jh]at h' ⊢
   cases hx:x == n with
   | true=>
    refine⟨k0,rfl,.inr ?_⟩
    have:=IR.mp hc|>.1
    have:=IR.mp this|>.1
    simpa using this
   | false=>rw[hx]at h';exact ih h'
  ·rw[if_neg hc]at h'
   rw[Jh]at h' ⊢
   cases hx:x == n with
   | true=>rw[hx]at h';exact⟨k0,rfl,.inl (Ik h').symm⟩
   | false=>rw[hx]at h';exact ih h'
theorem dq {names:List (Str×KC)}{x:Str}{k:KC}(h:names.lookup x=some k):(x,k)∈names:=J0 h
theorem eL {env:Env}:∀{names:List (Str×KC)} {x:Str},names.lookup x=some .free →
  (names.map λ(n,k)=>if (k == IB&&env.scope.kind == .function&&env.kindOf n == some .cell)then(n,JA)else(n,k)).lookup x=some .cell ∨
  (names.map λ(n,k)=>if (k == IB&&env.scope.kind == .function&&env.kindOf n == some .cell)then(n,JA)else(n,k)).lookup x=some .free
 | [],_,h=>by simp at h
 | (n,k0)::r,x,h=>by
  have ih:=@eL env r x
  show Lz x ((if (k0 == IB&&env.scope.kind == .function&&env.kindOf n == some .cell)=true then(n,JA)else(n,k0))::_)=_\/Lz x ((if (k0 == IB&&env.scope.kind == .function&&env.kindOf n == some .cell)=true then(n,JA)else(n,k0))::_)=_
  rw[Jh]at h
  by_cases hc:(k0 == IB&&env.scope.kind == .function&&env.kindOf n == some .cell)=true
  ·rw[if_pos hc]
   rw[Jh]
   cases hx:x == n with
   | true=>exact .inl rfl
   | false=>rw[hx]at h;exact ih h
  ·rw[if_neg hc]
   rw[Jh]
   cases hx:x == n with
   | true=>rw[hx]at h;exact .inr h
   | false=>rw[hx]at h;exact ih h
section
variable {X:Cx}
structure LcScope (X:Cx)(scope:KY)(N':List Str)(src:List (Option Nat)):Prop where
 kind:scope.kind= .function
 cel:∀y∈scope.names,y.2= .cell->scope.names.lookup y.1=some .cell
 loc:∀y∈scope.names,y.2= .local->scope.names.lookup y.1=some .local
 len:src.length=N'.length
 from_:∀(j i:Nat) (x:Str),src[j]? =some (some i)->N'[j]? =some x->X.N[i]? =some x/\scope.names.lookup x=some .free
 free:∀x,(x,IB)∈scope.names->X.env.kindOf x=some .cell\/X.env.kindOf x=some .free
def BQ (K:Ho)(wi:TI)(src:List (Option Nat))(g:TG)(tc:TT)(te:TE):TE:=λσ H Q=>wi σ H λJ H1=> ∀D,H1 D=none->K.lookup D=none →
 ∃W:Nat->Nat->St->List V->Hp->Prop,(∃m,W 0 m (cY src σ) [] (dB H1 D (.lst [])))/\∀i m σ ys H,W i m σ ys H->H D=some (.lst ys) ∧
  ((J.stop i H/\Q (.ref D) H)\/(J.go i H/\ys.length<sizeLine/\∀x H',J.yld i H x H'->g x σ H' λσ2 H2=>tc σ2 H2 λb H3=>
   if b=true then te σ2 H3 λv H4=>H4 D=some (.lst ys)/\∃m',m'<m/\W (i+1) m' σ2 (ys++ [v]) (dB H4 D (.lst (ys++ [v])))else ∃m',m'<m/\W (i+1) m' σ2 ys H3))
def ro (X:Cx)(ifs:List Expr)(t:TT):Prop:=
 ∀(pins:List (Addr×Obj)) (s:Hr) (σ:St) (H:Hp) (Q:Bool->Hp->Prop),Inv X pins σ H s->t σ H Q →
  wpAny (model X.prog X.w) X.A (forIn ifs true λc r=>if r=true then do let ok <-isTrue c X.env (eval c X.env);pure (J1 ok)else pure (J1 r)) (TP X pins σ Q) X.xe s
def EB:TT:=λ_ H Q=>Q true H
theorem zH:ro X [] EB:=λ_ _ _ H _ I h=>wpAny_tests_nil ⟨H,I,h⟩
theorem zG {c:Expr}{t:TT}(h:PT X c t):ro X [c] t:=λpins s σ H Q I q=>wpAny_tests_one (h pins s σ H Q I q)
theorem iK:∀(names:List (Str×KC)) (h:Heap) (acc:List (Str×Addr)),(∀x y c,acc.lookup x=some c->acc.lookup y=some c->x=y)->(∀x c,acc.lookup x=some c->c<h.objs.size) →
  (∀x c,(J4 h.objs.size names acc).lookup x=some c->acc.lookup x=some c\/(h.objs.size<=c/\(LL h names).IsCell c none)) ∧
  (∀x y c,(J4 h.objs.size names acc).lookup x=some c->(J4 h.objs.size names acc).lookup y=some c->x=y) ∧
  (∀x,(x,JA)∉names->(J4 h.objs.size names acc).lookup x=acc.lookup x) ∧
  (∀x,((x,JA)∈names\/∃c,acc.lookup x=some c)->∃c,(J4 h.objs.size names acc).lookup x=some c) ∧
  (∀x c,(x,JA)∈names->(J4 h.objs.size names acc).lookup x=some c->h.objs.size<=c)
 | [],h,acc,hi,_=>⟨λ_ _ e=> .inl e,hi,λ_ _=>rfl,λx e=>e.elim (λz=>absurd z IH) id,λ_ _ z=>absurd z IH⟩
 | (n,k)::r,h,acc,hi,hl=>by
  unfold J4 LL
  by_cases hk:k= .cell
  ·subst hk
   rw[if_pos (by rfl),if_pos (by rfl)]
   have hz:(h.push { cls:=.type "cell",data:=.cell none }).objs.size=h.objs.size+1:=JO ..
   have lk:∀x,((n,h.objs.size)::acc).lookup x=if x=n then some h.objs.size else acc.lookup x:=λx=>by
    rw[Jh]
    by_cases e:x=n
    ·rw[if_pos e,beq_iff_eq.mpr e]
    ·rw[if_neg e,beq_eq_false_iff_ne.mpr e]
   obtain⟨c1,c2,c3,c4,c5⟩:=iK r (h.push { cls:=.type "cell",data:=.cell none }) ((n,h.objs.size)::acc) (λx y c e1 e2=>by
     rw[lk]at e1 e2
     by_cases q1:x=n
     ·by_cases q2:y=n
      ·rw[q1,q2]
      ·rw[if_pos q1]at e1;rw[if_neg q2]at e2
       cases e1;exact absurd (hl _ _ e2) (Ia _)
     ·rw[if_neg q1]at e1
      by_cases q2:y=n
      ·rw[if_pos q2]at e2
       cases e2;exact absurd (hl _ _ e1) (Ia _)
      ·rw[if_neg q2]at e2;exact hi x y c e1 e2) (λx c e=>by
     rw[lk]at e;rw[hz]
     by_cases q:x=n
     ·rw[if_pos q]at e;cases e;exact LM _
     ·rw[if_neg q]at e;exact JL (hl x c e))
   rw[hz]at c1 c2 c3 c4 c5;refine⟨λx c e=> ?_,c2,λx hx=> ?_,λx hx=> ?_,λx c hx e=> ?_⟩
   ·rcases c1 x c e with z | z
    ·rw[lk]at z
     by_cases q:x=n
     ·rw[if_pos q]at z;cases z
      exact .inr ⟨HE _,_,Lv r _ _ _ (HR _ rfl),rfl⟩
     ·rw[if_neg q]at z;exact .inl z
    ·exact .inr ⟨ML z.1,z.2⟩
   ·rw[c3 x λz=>hx (Hv _ z),lk,if_neg λz=>hx (by rw[z];exact HD)]
   ·refine c4 x ?_
    rcases hx with hx | hx
    ·rcases HB.mp hx with z | z
     ·cases z
      exact .inr ⟨_,by rw[lk,if_pos rfl]⟩
     ·exact .inl z
    ·by_cases q:x=n
     ·exact .inr ⟨_,by rw[lk,if_pos q]⟩
     ·exact .inr (by rw[lk,if_neg q];exact hx)
   ·rcases HB.mp hx with z | z
    ·have q:x=n:=(MY z).1
     rcases c1 x c e with y | y
     ·rw[lk,if_pos q]at y;cases y;exact HE _
     ·exact ML y.1
    ·exact ML (c5 x c z e)
  ·have hb:¬ (k == JA)=true:=λz=>hk (by simpa using z)
   rw[if_neg hb,if_neg hb];obtain⟨c1,c2,c3,c4,c5⟩:=iK r h acc hi hl;exact⟨c1,c2,λx hx=>c3 x λz=>hx (Hv _ z),λx hx=>c4 x (hx.imp (λz=>(HB.mp z).resolve_left λz=>hk (MY z).2.symm) id),λx c hx=>c5 x c ((HB.mp hx).resolve_left λz=>hk (MY z).2.symm)⟩
theorem m9 {M:My}{A:Iw}{E:Hs->Hr->Prop}{s:Hr}{scope:KY}{globals:Addr}{cl:List (Str×Addr)}{qual:Str}{env:Env}{Q:Env->Hr->Prop}
  (q:Q (newEnv scope s.heap.objs.size globals (J4 (s.heap.objs.size+1) scope.names cl) qual none .none (some env) L0) { s with heap:=LL (s.heap.push { cls:=.type "dict",data:=.dict #[] }) scope.names }) :
  wpAny M A (MB scope globals cl [] qual none .none (some env)) Q E s:=by
 simp only[MB,Option.isSome_some,if_true];refine Hq (wpAny_alloc (Hq (wpAny_layCells _ (λname kind cells=>by cases hkc:kind == JA <;> simp[hkc]) _ _ _ _ ?_)))
 rw[show({ s with heap:=s.heap.push { cls:=.type "dict",data:=.dict #[] } }:Hr).heap.objs.size=s.heap.objs.size+1 from JO ..]
 rw[List.forIn_nil];exact Hq (Hy (Hy q))
theorem tR {elt tg iter:Expr}{ifs:List Expr}{scope:KY}{pos fpos:Pos}{N':List Str}{src:List (Option Nat)}{wi:TI}{g:TG}{tc:TT}{te:TE}{use:Option (Hs->Sem Unit)}{Qf:Hs->Hr->Prop}
  {pins:List (Addr×Obj)} {s:Hr} {σ:St} {H:Hp} {Q:VK}
  (hc:X.calm=true) (S:LcScope X scope N' src) (hi:PI X tg iter wi)
  (block:∀cl C s₀ H₀ fp,PG (aZ X scope cl N' C s₀ H₀ fp) tg g/\ro (aZ X scope cl N' C s₀ H₀ fp) ifs tc/\PE (aZ X scope cl N' C s₀ H₀ fp) elt te)
  (hs:∀x,Ic iter X.env x=pure x) (I:Inv X pins σ H s) (h:BQ X.K wi src g tc te σ H Q)
  (hend:∀(D C:Addr) (H':Hp) (s':Hr),(∃m,s'.heap.Ns C m)->(∀h',Ks C s'.heap h'->Inv X pins σ H' { s' with heap:=h' })->(H' C=none/\C≠X.env.locals/\X.s₀.heap.objs.size<=C/\(∀x c,X.env.cells.lookup x=some c->c≠C)/\∀p∈X.pn++pins,p.1≠C)->Q (.ref D) H' →
   NW (model X.prog X.w) X.A X.xe use Qf (.ref D) C (.ok .next) s') :
  wpAny (model X.prog X.w) X.A (Lw (.ListComp elt [⟨tg,iter,ifs,0⟩] scope pos) scope X.env fpos (newList []) false (eval iter X.env) use) Qf X.xe s:=by
 have hcell:∀x,(x,IB)∈scope.names->∃c,X.env.cells.lookup x=some c:=λx hx=>I.ok.has x (S.free x hx)
 obtain⟨cl0,hcl,cl01,cl02⟩:=lY (env:=X.env) (scope:=scope) hcell;refine wpAny_comprehension_free (use:=use) rfl hs hcl S.kind S.loc (bK (hi pins s σ H _ I h) λv s1 h1=>bK h1 λitv s2 h2=> ?_)
 obtain⟨it,fp,tn,J,H2,e,I2,T,st2,f2,hq⟩:=h2;subst e
 -- the new list
 refine Ip ?_
 have hD:H2 s2.heap.objs.size=none:=I2.hok.fresh (HE _)
 have hDK:X.K.lookup s2.heap.objs.size=none:=by
  cases q:X.K.lookup s2.heap.objs.size with
  | none=>rfl
  | some o=>exact absurd (HH (I2.kIn _ o q)) (Ia _)
 obtain⟨W,⟨m0,w0⟩,turn⟩:=hq s2.heap.objs.size hD hDK
 have I3:=I2.GY (its:=[]) (ys:=[]) (t':=s2.toks) .nil (Je _)
 generalize hs3:({ s2 with heap:=s2.heap.push { cls:=.type "list",data:=.seq ([]:List Hs).toArray },toks:=s2.toks }:Hr)=s3 at I3
 generalize hH3:dB H2 s2.heap.objs.size (.lst [])=H3 at I3 w0
 have hDsz:s2.heap.objs.size<s3.heap.objs.size:=by rw[<-hs3];simp[JO]
 have fr3:∀b∈fp,H3 b=none:=λb hb=>by
  obtain⟨o,eo,_⟩:=T.obj _ _ st2 b hb;rw[<-hH3,a8 (Iu (HH eo))];exact(f2 b hb).1
 have st3:tn 0 s3.heap:=T.keep _ _ _ st2 λb hb o e=>by rw[<-hs3];exact Hz _ e
 have f3:∀b∈fp,j9 X pins H3 b:=λb hb=>⟨fr3 b hb,(f2 b hb).2⟩
 have D3:H3 s2.heap.objs.size=some (.lst []):=by rw[<-hH3];exact bx
 generalize s2.heap.objs.size=D at*
 clear hs3 hH3 hD hDK
 -- the block's frame
 refine m9 ?_
 have old:∀b o,s3.heap.get? b=some o->(LL (s3.heap.push { cls:=.type "dict",data:=.dict #[] }) scope.names).get? b=some o:=λb o e=>Lv _ _ b o (Hz _ e)
 have hns₁:(LL (s3.heap.push { cls:=.type "dict",data:=.dict #[] }) scope.names).Ns s3.heap.objs.size (λ_=>none):=(Heap.Ns.new s3.heap (.type "dict")).keeps (Lv _ _)
 have hz3:(s3.heap.push { cls:=.type "dict",data:=.dict #[] }).objs.size=s3.heap.objs.size+1:=JO ..
 have lt0:∀x c,cl0.lookup x=some c->c<s3.heap.objs.size:=λx c e=>let ⟨_,ic⟩:=I3.cell x c (cl01 x c e);ic.lt
 obtain⟨c1,c2,c3,c4,c5⟩:=iK scope.names (s3.heap.push { cls:=.type "dict",data:=.dict #[] }) cl0 (λx y c e1 e2=>I3.ok.inj x y c (cl01 x c e1) (cl01 y c e2)) λx c e=>by rw[hz3];exact JL (lt0 x c e)
 rw[hz3]at c1 c2 c3 c4 c5
 generalize hcl':J4 (s3.heap.objs.size+1) scope.names cl0=cl at*
 generalize hh₁:LL (s3.heap.push { cls:=.type "dict",data:=.dict #[] }) scope.names=h₁ at*
 have below:∀b o,s3.heap.get? b=some o->b≠s3.heap.objs.size:=λb o e=>Iu (HH e)
 -- a cell of the block's: one from around,or a new one
 have cl1:∀x c,cl.lookup x=some c->X.env.cells.lookup x=some c\/(s3.heap.objs.size<c/\h₁.IsCell c none):=λx c e=>(c1 x c e).imp (cl01 x c) id
 generalize hC:s3.heap.objs.size=C at*
 have stk:∀b,b≠X.env.locals->b∉X.fs->b∉jH X.stack:=λb h1 h2 z=>(HB.mp (I3.GR b z)).elim h1 h2
 have apart:∀b∈fp,∀x c,cl.lookup x=some c->c≠b:=λb hb x c e=>by
  rcases cl1 x c e with z | z
  ·exact(f3 b hb).2.2.2.2.1 x c z
  ·obtain⟨o,eo,_⟩:=T.obj _ _ st3 b hb
   have h1:=HH eo;rw[hC]at h1;exact Kt (PC h1 z.1)
 have I4:Inv (aZ X scope cl N' C s3 H3 fp) pins (cY src σ) H3 { s3 with heap:=h₁ }:=by
  refine⟨⟨I3.ok.mod,S.kind,I3.ok.glob,I3.ok.blt,Lb hC,c2,λx hx=> ?_,λx c hx e=>KD (hC▸c5 x c (dq (beq_iff_eq.mp hx)) e),I3.ok.hd,I3.ok.frames,.inl rfl,
    λb hb=>⟨?_,λx c e=>apart b hb x c e⟩,I3.bs,H0 I3.ok.bsz I3.sz,λb o e z=> ?_,λb hb=>stk b (f3 b hb).2.1 (f3 b hb).2.2.1,I3.stack,I3.GH⟩,
   rfl,I3.bare,Un.kept old,⟨_,hns₁,λj x v e1 e2 e3=> ?_⟩,λx c e=> ?_,I3.hok.fresh (Lb hC),λx c e=>(cl1 x c e).elim (I3.freeC x c) λz=>I3.hok.fresh (by rw[hC];exact KD z.1),λp hp=> ?_,I3.hok.kept old,?_⟩
  ·have key:∀k,(relabel scope X.env).names.lookup x=some k->(k= .cell\/k= .free)->∃c,cl.lookup x=some c:=λk e hk=>by
    obtain⟨k',e',z⟩:=fx e
    have hk':k'= .cell\/k'= .free:=z.elim (λz=>z▸hk) .inr
    rcases hk' with q | q
    ·exact c4 x (.inl (q▸dq e'))
    ·exact c4 x (.inr (cl02 x (q▸dq e')))
   rcases hx with hx | hx
   ·exact key _ hx (.inl rfl)
   ·exact key _ hx (.inr rfl)
  ·obtain⟨o,eo,_⟩:=T.obj _ _ st3 b hb
   show b≠C
   exact below b o eo
  ·have z':b∈fp:=z
   obtain⟨_,_,_,z1,_⟩:=f3 b z';rcases z1 with z1 | z1
   ·exact I3.ok.noex b o e z1
   ·exact absurd (HM (HH (I3.ok.bs b o e).1) z1) (Ia _)
  ·unfold cY at e2
   rw[Ib]at e2
   cases q:src[j]? with
   | none=>rw[q]at e2;simp at e2
   | some o=>
    rw[q]at e2
    cases o with
    | none=>simp at e2
    | some i=>
     have e2':(σ[i]?).join=some v:=by simpa using e2
     have e2'':σ[i]? =some (some v):=by
      cases q2:σ[i]? with
      | none=>rw[q2]at e2';simp at e2'
      | some z=>rw[q2]at e2';simp at e2';rw[e2']
     obtain⟨hN,hfree⟩:=S.from_ j i x q e1
     have hm:=dq hfree
     have hk:=S.free x hm;obtain⟨m,hn,hl⟩:=I3.loc
     have hv:rl X.env.scope x:=by
      rcases hk with z | z
      ·exact .inr (.inl z)
      ·exact .inr (.inr z)
     obtain⟨u,r,l⟩:=hl i x v hN e2'' hv;refine⟨u,r,.inr ⟨?_,?_⟩⟩
     ·exact eL hfree
     ·rcases l with⟨z,_⟩ | ⟨_,c,ec,ic⟩
      ·rcases hk with z' | z' <;> rw[z']at z <;> cases z
      ·obtain⟨c',ec0⟩:=cl02 x hm
       have ec':cl.lookup x=some c':=(c3 x λz=>by have:=S.cel _ z rfl;rw[hfree]at this;cases this).trans ec0
       have:=cl01 x c' ec0;rw[ec]at this;cases this;obtain⟨o,ho,hd⟩:=ic;exact⟨c,ec',o,old _ _ ho,hd⟩
  ·rcases cl1 x c e with z | z
   ·obtain⟨v,o,ho,hd⟩:=I3.cell x c z
    exact⟨v,o,old _ _ ho,hd⟩
   ·exact⟨none,z.2⟩
  ·obtain⟨e,n,ne,nf,d⟩:=I3.pin p hp
   exact⟨old _ _ e,n,below _ _ e,stk _ ne nf,d⟩
  ·show(cY src σ).length=N'.length
   unfold cY;rw[Hw];exact S.len
 obtain⟨bG,bI,bE⟩:=block cl C s3 H3 fp
 have stat:∀{H':Hp},(∀b∈fp,H' b=none)->∀b∈fp,j9 (aZ X scope cl N' C s3 H3 fp) pins H' b:=λhn b hb=>by
  obtain⟨o,eo,_⟩:=T.obj _ _ st3 b hb;exact⟨hn b hb,below b o eo,stk b (f3 b hb).2.1 (f3 b hb).2.2.1,.inl hb,apart b hb,(f3 b hb).2.2.2.2.2⟩
 have st4:tn 0 h₁:=T.keep _ _ _ st3 λb hb o e=>old b o e
 -- behind the block
 have after:∀(H':Hp) (s':Hr) (σ':St),Inv (aZ X scope cl N' C s3 H3 fp) pins σ' H' s'->Q (.ref D) H' →
   NW (model X.prog X.w) X.A X.xe use Qf (.ref D) C (.ok .next) s':=λH' s' σ' I' q=>by
  obtain⟨m,hn,_⟩:=id I'.loc
  have fC:X.s₀.heap.objs.size<=C:=by rw[<-hC];exact I3.sz
  have ltC:∀b o,s3.heap.get? b=some o->b<C:=λb o e=>by rw[<-hC];exact HH e
  refine hend D C H' s' ⟨m,hn⟩ (λh' hsb=> ?_) ⟨I'.free,?_,fC,λx c e z=> ?_,λp hp z=> ?_⟩ q
  rotate_left
  ·have:=I3.lt;rw[hC]at this;exact Kt this
  ·obtain⟨v,ic⟩:=I3.cell x c e
   have:=ic.lt;rw[hC,z]at this;exact Ia _ this
  ·have:=ltC _ _ (I3.pin p hp).1;rw[z]at this;exact Ia _ this
  have u:Un (jH X.stack) fp H3 H' s3.heap s'.heap:=I'.base
  have lift:∀b o,s3.heap.get? b=some o->∀o',s'.heap.get? b=some o'->h'.get? b=some o':=λb o e o' e'=>hsb.extBut b o' (below b o e) e'
  have u':Un (jH X.stack) fp H3 H' s3.heap h':=
   ⟨λb o e n hb hx=>lift b o e o (u.keep b o e n hb hx),λb o e n hb hx=>by
     obtain⟨sl,z⟩:=u.slot b o e n hb hx;exact⟨sl,lift b o e _ z⟩,u.free,λb o e hx=>by
     obtain⟨o',z⟩:=u.there b o e hx;exact⟨o',lift b o e _ z⟩,u.tups,u.frzs,u.tbls⟩
  have hCn:H' C=none:=I'.free
  have hok':HOk X.prog X.w H' h':=λb ob e=>by
   refine(I'.hok b ob e).GL (λc w' hc' q'=>(hsb.2 c ?_).trans q') (λ_ q=>q) λ_ _ q=>q
   rintro rfl
   rcases hc' with rfl | hc'
   ·rw[hCn]at e;cases e
   ·rw[hCn]at hc';cases hc'
  have I5:Inv X pins σ H' { s' with heap:=h' }:=I3.GX (s':={ s' with heap:=h' }) (ch:=fp) I'.os u' hok' I'.bare λb hb=>⟨(f3 b hb).2.2.2.1,(f3 b hb).2.1,(f3 b hb).2.2.2.2.1,(f3 b hb).2.2.2.2.2⟩
  exact I5
 have loop:codeAny (model X.prog X.w) X.A (.compLoop (.ListComp elt [⟨tg,iter,ifs,0⟩] scope pos) 0 (.ref it) (.ref D) (compEnvC scope cl C X.env))
   (NW (model X.prog X.w) X.A X.xe use Qf (.ref D) C) { s3 with heap:=h₁ }:=by
  refine pB (λn s'=> ∃i σ' ys H',Inv (aZ X scope cl N' C s3 H3 fp) pins σ' H' s'/\tn i s'.heap/\(∀b∈fp,H' b=none)/\W i n σ' ys H') ?_ m0 ⟨0,_,[],H3,I4,st4,fr3,w0⟩
  rintro n s5 ⟨i,σ5,ys,H5,I5,st5,fr5,w5⟩
  obtain⟨hDl,alt⟩:=turn i n σ5 ys H5 w5;rcases alt with⟨stop,qn⟩ | ⟨go,hlen,step⟩
  ·refine bK (T.done (aZ X scope cl N' C s3 H3 fp) rfl rfl rfl hc i pins s5 σ5 H5 _ I5 (stat fr5) st5 stop) λr s6 ⟨hr,I6⟩=> ?_
   subst hr;exact after H5 s6 σ5 I6 qn
  ·refine bK (T.item (aZ X scope cl N' C s3 H3 fp) rfl rfl rfl hc i pins s5 σ5 H5 _ I5 (stat fr5) st5 go) λr s6 ⟨u,hr,h6⟩=> ?_
   subst hr;refine bK h6 λ_ s7 hh_=> ?_
   obtain⟨x,H7,I7,r7,y7,st7,fr7⟩:=hh_
   have I7':=I7.pinned (stat fr7) (T.obj _ _ st7);refine bK (bG _ s7 σ5 H7 x u _ I7' r7 (step x H7 y7)) λ_ s8 hh_=> ?_
   obtain⟨σ8,H8,I8,q8⟩:=hh_;refine bK (bI _ s8 σ8 H8 _ I8 q8) λok s9 hh_=> ?_
   obtain⟨H9,I9,q9⟩:=hh_
   have again:∀{σx:St} {Hx:Hp} {sx:Hr} {ys':List V},Inv (aZ X scope cl N' C s3 H3 fp) (pins++i7 fp s7.heap) σx Hx sx->(∃m',m'<n/\W (i+1) m' σx ys' Hx) →
     ∃m,m<n/\∃i σ' ys H',Inv (aZ X scope cl N' C s3 H3 fp) pins σ' H' sx/\tn i sx.heap/\(∀b∈fp,H' b=none)/\W i m σ' ys H':=λ{σx Hx sx ys'} Ix nx=>by
    obtain⟨m',hm,wx⟩:=nx;refine⟨m',hm,i+1,σx,ys',Hx,Ix.GG,T.keep _ _ _ st7 λb hb o e=>(Ix.pin (b,o) (HP _ (HP _ (cR hb e)))).1,λb hb=> ?_,wx⟩
    obtain⟨o,e,d⟩:=T.obj _ _ st7 b hb;exact(Ix.pin (b,o) (HP _ (HP _ (cR hb e)))).2.1
   cases ok with
   | false=>
    rw[if_neg Iv]at q9 ⊢
    exact again I9 q9
   | true=>
    rw[if_pos rfl]at q9 ⊢;refine bK (bE _ s9 σ8 H9 _ I9 q9) λv s10 hh_=> ?_
    obtain⟨y,H10,I10,r10,hD10,q10⟩:=hh_;refine bK (jU _ s10 σ8 H10 (.ref D) [y] (.ref D) [v] (λ_ H'=>H'=dB H10 D (.lst (ys++ [y]))) I10 rfl (.cons r10 .nil) ⟨D,ys,y,rfl,rfl,hD10,hlen,rfl⟩) λ_ s11 hh_=> ?_
    obtain⟨_,H11,I11,_,e11⟩:=hh_;subst e11;exact again I11 q10
 exact codeAny_compStart_list loop (T.self _ 0 _ _ _ st4 loop)
theorem Fv {elt tg iter:Expr}{ifs:List Expr}{scope:KY}{pos:Pos}{N':List Str}{src:List (Option Nat)}{wi:TI}{g:TG}{tc:TT}{te:TE}
  (hc:X.calm=true) (S:LcScope X scope N' src) (hi:PI X tg iter wi)
  (block:∀cl C s₀ H₀ fp,PG (aZ X scope cl N' C s₀ H₀ fp) tg g/\ro (aZ X scope cl N' C s₀ H₀ fp) ifs tc/\PE (aZ X scope cl N' C s₀ H₀ fp) elt te)
  (hs:autoParam (∀x,Ic iter X.env x=pure x) t_) :
  PE X (.ListComp elt [⟨tg,iter,ifs,0⟩] scope pos) (BQ X.K wi src g tc te):=by
 intro pins s σ H Q I h;rw[eval_ListComp];exact tR (use:=none) hc S hi block hs I h λD C H' s' ⟨m,hn⟩ inv _ q=>⟨m,hn,λh' hsb=>⟨.ref D,H',inv h' hsb,rfl,q⟩⟩
theorem Fs {elt tg iter:Expr}{ifs:List Expr}{scope:KY}{pos py spos:Pos}{N':List Str}{src:List (Option Nat)}{wi:TI}{g:TG}{tc:TT}{te:TE}{i:Nat}{y:Str}
  (hc:X.calm=true) (S:LcScope X scope N' src) (hi:PI X tg iter wi)
  (block:∀cl C s₀ H₀ fp,PG (aZ X scope cl N' C s₀ H₀ fp) tg g/\ro (aZ X scope cl N' C s₀ H₀ fp) ifs tc/\PE (aZ X scope cl N' C s₀ H₀ fp) elt te)
  (hN:X.N.Nodup) (hiy:X.N[i]? =some y) (hy:Loc X.env.scope y) (hsw:JT (.ListComp elt [⟨tg,iter,ifs,0⟩] scope pos) (some (.Name y py)) spos.line X.env=pure true)
  (hf:X.fn y=true\/X.env.scope.names.lookup y=some .local) (hs:autoParam (∀x,Ic iter X.env x=pure x) t_) :
  PS X (.Assign [.Name y py] (.ListComp elt [⟨tg,iter,ifs,0⟩] scope pos) spos) (wB (BQ X.K wi src g tc te) (ub i)):=by
 intro pins s σ H D I h;rw[NM _ _ _ _ hsw];refine Hq (LY (Hq ?_))
 show wpAny (model X.prog X.w) X.A (do let _ <-Lw (.ListComp elt [⟨tg,iter,ifs,0⟩] scope pos) scope X.env _ (newList []) false (eval iter X.env) (some (assign (.Name y py) X.env))) _ _ s
 refine Hq (bK (tR (use:=some (assign (.Name y py) X.env)) (Qf:=λ_ s'=>SP X pins D .next s') (Q:=λv H'=>D.nx (σ.set i (some v)) H') hc S hi block hs I h λL C H' s' ⟨m,hn⟩ inv ⟨c0,c1,c2,c3,c4⟩ q=> ?_) λ_ s' hq=>Hy (Hy hq))
 have I0:Inv X pins σ H' s':=inv s'.heap (MF ..)
 show wpAny (model X.prog X.w) X.A (assign (.Name y py) X.env (.ref L)) _ _ s'
 refine MT (jL I0 hN hiy hy (v:=.ref L) rfl (λs2 I2 ⟨b,sb,hb⟩=> ?_) hf)
 have hbC:C≠b:=by
  rcases hb with z | z
  ·rw[z];exact c1
  ·exact λw=>c3 y b z w.symm
 refine⟨m,hn.sameBut sb hbC,λh' hsb=> ?_⟩
 exact⟨_,H',I2.turned (t':=s2.toks) (λb' o hb' e=>(hsb.2 b' hb').trans e) c0 c1 (.inr c2) c3 c4,q⟩
end
end L2
namespace Tr
open PySem PySem.Spec PyProof.Rows L2
def D1 (K:Ho)(c:Str):Addr:=match La K Iz c with
 | some (some (.ref C))=>C
 | _=>0
def FO:T->Option mh
 | .int i=>some (.inl i)
 | .str x=>some (.inr x)
 | _=>none
def xP:List T->Option (List mh)
 | [] =>some []
 | t::l=>match FO t,xP l with
  | some k,some r=>some (k::r)
  | _,_=>none
def keyOf:T->Option (List mh)
 | .tup l=>xP l
 | _=>none
inductive Rs (α:Type) where
 | ok (a:α) | err (c:Str) | bad
def Rs.bind {α β:Type}(x:Rs α)(f:α->Rs β):Rs β:=match x with
 | .ok a=>f a
 | .err c=> .err c
 | .bad=> .bad
instance:Monad Rs where
 pure:=Rs.ok
 bind:=Rs.bind
@[simp] theorem aH {α β:Type} (a:α) (f:α->Rs β):(Rs.ok a >>= f)=f a:=rfl
@[simp] theorem Gy {α:Type} (a:α):(pure a:Rs α)=Rs.ok a:=rfl
@[simp] theorem Gp {α β:Type} (f:α->Rs β):((Rs.bad:Rs α) >>= f)= .bad:=rfl
@[simp] theorem F9 {α β:Type} (c:Str) (f:α->Rs β):((Rs.err c:Rs α) >>= f)= .err c:=rfl
def ObN (O:Ow)(H:Hp)(a dx:Addr)(fs:List (Str×V)):Prop:=(¬O a/\¬ O dx/\H dx=some (.own a))/\∃as:List Addr,fs.map (·.2)=as.map V.ref/\a∉as/\dx∉as/\dx≠a/\as.Nodup/\(fs.map (·.1)).Nodup
mutual
def Rep (K:Ho)(O:Ow)(H:Hp):T->V->Prop
 | .non,v=>v= .non
 | .bl b,v=>v= .bl b
 | .int i,v=>v= .int i
 | .str x,v=>v= .str x
 | .tup l,v=> ∃a vs,v= .ref a/\¬ O a/\H a=some (.tup vs)/\Reps K O H l vs
 | .lst l,v=> ∃a vs,v= .ref a/\¬ O a/\H a=some (.lst vs)/\Reps K O H l vs
 | .scr l,v=> ∃a,v= .ref a/\¬ O a/\SqL K H a (l.map V.int)
 | .dct ks ts,v=> ∃a kvs,v= .ref a/\¬ O a/\Rd H a (.dT kvs)/\ks.map keyOf=kvs.map (λp=>some p.1)/\Reps K O H ts (kvs.map (·.2))
 | .ob C ns ts,v=> ∃a dx fs,v= .ref a/\ObN O H a dx fs/\H a=some (.ins (D1 K C) dx fs)/\fs.map (·.1)=ns/\Reps K O H ts (fs.map (·.2))
def Reps (K:Ho)(O:Ow)(H:Hp):List T->List V->Prop
 | [],vs=>vs= []
 | t::r,vs=> ∃v ws,vs=v::ws/\Rep K O H t v/\Reps K O H r ws
end
def SameO (P:Ow)(H H':Hp):Prop:=∀b o,H b=some o->¬ P b->H' b=some o
theorem SameO.of {P:Ow}{H H':Hp}(h:Same H H'):SameO P H H':=λb o e _=>h b o e
theorem Rd.Hb {P:Ow}{H H':Hp}{a:Addr}{u:HO}(h:SameO P H H')(n:¬ P a)(q:Rd H a u):Rd H' a u:=q.elim (λe=> .inl (h _ _ e n)) λ⟨o,e⟩=> .inr ⟨o,h _ _ e n⟩
theorem SqL.keep {K:Ho}{P:Ow}{H H':Hp}{a:Addr}{vs:List V}(h:SameO P H H')(n:¬ P a)(q:SqL K H a vs):SqL K H' a vs:=by
 rcases q with(q | ⟨o,q⟩) | q
 ·exact .inl (.inl (h _ _ q n))
 ·exact .inl (.inr ⟨o,h _ _ q n⟩)
 ·exact .inr q
mutual
theorem Rep.keep {K:Ho}{O P:Ow}{H H':Hp}(h:SameO P H H')(sub:∀a,P a->O a):∀{t:T} {v:V},Rep K O H t v->Rep K O H' t v
 | .non,_,r=>by unfold Rep at r ⊢;exact r
 | .bl _,_,r=>by unfold Rep at r ⊢;exact r
 | .int _,_,r=>by unfold Rep at r ⊢;exact r
 | .str _,_,r=>by unfold Rep at r ⊢;exact r
 | .tup l,_,r=>by
  unfold Rep at r ⊢;obtain⟨a,vs,e,n,q,z⟩:=r
  exact⟨a,vs,e,n,h _ _ q (λp=>n (sub a p)),Reps.keep h sub z⟩
 | .lst l,_,r=>by
  unfold Rep at r ⊢;obtain⟨a,vs,e,n,q,z⟩:=r
  exact⟨a,vs,e,n,h _ _ q (λp=>n (sub a p)),Reps.keep h sub z⟩
 | .scr l,_,r=>by
  unfold Rep at r ⊢;obtain⟨a,e,n,q⟩:=r
  exact⟨a,e,n,SqL.keep h (λp=>n (sub a p)) q⟩
 | .dct ks ts,_,r=>by
  unfold Rep at r ⊢;obtain⟨a,kvs,e,n,q,k,z⟩:=r
  exact⟨a,kvs,e,n,Rd.Hb h (λp=>n (sub a p)) q,k,Reps.keep h sub z⟩
 | .ob C ns ts,_,r=>by
  unfold Rep at r ⊢;obtain⟨a,dx,fs,e,n,q,k,z⟩:=r;exact⟨a,dx,fs,e,⟨⟨n.1.1,n.1.2.1,h _ _ n.1.2.2 λp=>n.1.2.1 (sub dx p)⟩,n.2⟩,h _ _ q (λp=>n.1.1 (sub a p)),k,Reps.keep h sub z⟩
theorem Reps.keep {K:Ho}{O P:Ow}{H H':Hp}(h:SameO P H H')(sub:∀a,P a->O a):∀{l:List T} {vs:List V},Reps K O H l vs->Reps K O H' l vs
 | [],_,r=>by unfold Reps at r ⊢;exact r
 | t::l,_,r=>by
  unfold Reps at r ⊢;obtain⟨v,ws,e,p,q⟩:=r;exact⟨v,ws,e,Rep.keep h sub p,Reps.keep h sub q⟩
end
mutual
theorem Rep.less {K:Ho}{O O':Ow}{H:Hp}(sub:∀a,O' a->O a):∀{t:T} {v:V},Rep K O H t v->Rep K O' H t v
 | .non,_,r=>by unfold Rep at r ⊢;exact r
 | .bl _,_,r=>by unfold Rep at r ⊢;exact r
 | .int _,_,r=>by unfold Rep at r ⊢;exact r
 | .str _,_,r=>by unfold Rep at r ⊢;exact r
 | .tup l,_,r=>by
  unfold Rep at r ⊢;obtain⟨a,vs,e,n,q,z⟩:=r
  exact⟨a,vs,e,λp=>n (sub a p),q,Reps.less sub z⟩
 | .lst l,_,r=>by
  unfold Rep at r ⊢;obtain⟨a,vs,e,n,q,z⟩:=r
  exact⟨a,vs,e,λp=>n (sub a p),q,Reps.less sub z⟩
 | .scr l,_,r=>by
  unfold Rep at r ⊢;obtain⟨a,e,n,z⟩:=r
  exact⟨a,e,λp=>n (sub a p),z⟩
 | .dct ks ts,_,r=>by
  unfold Rep at r ⊢;obtain⟨a,kvs,e,n,q,k,z⟩:=r
  exact⟨a,kvs,e,λp=>n (sub a p),q,k,Reps.less sub z⟩
 | .ob C ns ts,_,r=>by
  unfold Rep at r ⊢;obtain⟨a,dx,fs,e,n,q,k,z⟩:=r;exact⟨a,dx,fs,e,⟨⟨λp=>n.1.1 (sub a p),λp=>n.1.2.1 (sub dx p),n.1.2.2⟩,n.2⟩,q,k,Reps.less sub z⟩
theorem Reps.less {K:Ho}{O O':Ow}{H:Hp}(sub:∀a,O' a->O a):∀{l:List T} {vs:List V},Reps K O H l vs->Reps K O' H l vs
 | [],_,r=>by unfold Reps at r ⊢;exact r
 | t::l,_,r=>by
  unfold Reps at r ⊢;obtain⟨v,ws,e,p,q⟩:=r;exact⟨v,ws,e,Rep.less sub p,Reps.less sub q⟩
end
section
variable {K:Ho}{O:Ow}{H H':Hp}{t:T}{v:V}{l:List T}{vs:List V}
theorem Rep.same (h:Same H H')(r:Rep K O H t v):Rep K O H' t v:=Rep.keep (P:=λ_=>False) (SameO.of h) (λ_ z=>z.elim) r
theorem Reps.same (h:Same H H')(r:Reps K O H l vs):Reps K O H' l vs:=Reps.keep (P:=λ_=>False) (SameO.of h) (λ_ z=>z.elim) r
theorem Rep.G1:Rep K O H .non .non:=by unfold Rep;rfl
theorem Rep.bl_ (b:Bool):Rep K O H (.bl b) (.bl b):=by unfold Rep;rfl
theorem Rep.GK (i:Int):Rep K O H (.int i) (.int i):=by unfold Rep;rfl
theorem Rep.GP (x:Str):Rep K O H (.str x) (.str x):=by unfold Rep;rfl
theorem Rep.FB:Rep K O H (.tup l) v↔ ∃a vs,v= .ref a/\¬ O a/\H a=some (.tup vs)/\Reps K O H l vs:=by unfold Rep;exact L9
theorem Rep.Fk:Rep K O H (.lst l) v↔ ∃a vs,v= .ref a/\¬ O a/\H a=some (.lst vs)/\Reps K O H l vs:=by unfold Rep;exact L9
theorem Rep.GN {ks ts:List T}:Rep K O H (.dct ks ts) v↔ ∃a kvs,v= .ref a/\¬ O a/\Rd H a (.dT kvs)/\ks.map keyOf=kvs.map (λp=>some p.1)/\Reps K O H ts (kvs.map (·.2)):=by unfold Rep;exact L9
theorem Rep.G2 {C:Str}{ns:List Str}{ts:List T}:Rep K O H (.ob C ns ts) v↔ ∃a dx fs,v= .ref a/\ObN O H a dx fs/\H a=some (.ins (D1 K C) dx fs)/\fs.map (·.1)=ns/\Reps K O H ts (fs.map (·.2)):=by unfold Rep;exact L9
theorem Rep.Da {i:Int}:Rep K O H (.int i) v↔v= .int i:=by unfold Rep;exact L9
theorem Rep.Gc {b:Bool}:Rep K O H (.bl b) v↔v= .bl b:=by unfold Rep;exact L9
theorem Rep.FM {b:Str}:Rep K O H (.str b) v↔v= .str b:=by unfold Rep;exact L9
theorem Rep.GO:Rep K O H .non v↔v= .non:=by unfold Rep;exact L9
theorem Reps.GJ:Reps K O H [] []:=by unfold Reps;rfl
theorem Reps.GE (r:Rep K O H t v)(q:Reps K O H l vs):Reps K O H (t::l) (v::vs):=by unfold Reps;exact⟨v,vs,rfl,r,q⟩
theorem Reps.Do:Reps K O H [] vs↔vs= []:=by unfold Reps;exact L9
theorem Reps.AC:Reps K O H (t::l) vs↔ ∃v ws,vs=v::ws/\Rep K O H t v/\Reps K O H l ws:=by
 constructor
 ·intro h;unfold Reps at h;exact h
 ·intro h;unfold Reps;exact h
end
section
variable {K:Ho}{O:Ow}{H H':Hp}
theorem Reps.length:∀{l:List T} {vs:List V},Reps K O H l vs->l.length=vs.length
 | [],vs,r=>by rw[Reps.Do.mp r];rfl
 | t::l,vs,r=>by
  obtain⟨v,ws,rfl,_,q⟩:=Reps.AC.mp r;simp[q.length]
theorem Reps.get:∀{l:List T} {vs:List V} {i:Nat} {t:T},Reps K O H l vs->l[i]? =some t->∃v,vs[i]? =some v/\Rep K O H t v
 | [],_,_,_,_,e=>by simp at e
 | t::l,vs,i,u,r,e=>by
  obtain⟨v,ws,rfl,p,q⟩:=Reps.AC.mp r
  cases i with
  | zero=>simp at e;subst e;exact⟨v,rfl,p⟩
  | succ i=>
   obtain⟨z,e1,e2⟩:=q.get (i:=i) (t:=u) (by simpa using e)
   exact⟨z,by simpa using e1,e2⟩
theorem Reps.append:∀{l m:List T} {vs ws:List V},Reps K O H l vs->Reps K O H m ws->Reps K O H (l++m) (vs++ws)
 | [],_,vs,_,r,s=>by rw[Reps.Do.mp r];exact s
 | t::l,m,vs,ws,r,s=>by
  obtain⟨v,us,rfl,p,q⟩:=Reps.AC.mp r;exact Reps.GE p (q.append s)
theorem Reps.take:∀{l:List T} {vs:List V} (n:Nat),Reps K O H l vs->Reps K O H (l.take n) (vs.take n)
 | _,_,0,_=>Reps.GJ
 | [],vs,n+1,r=>by rw[Reps.Do.mp r];exact Reps.GJ
 | t::l,vs,n+1,r=>by
  obtain⟨v,us,rfl,p,q⟩:=Reps.AC.mp r;exact Reps.GE p (q.take n)
theorem Reps.drop:∀{l:List T} {vs:List V} (n:Nat),Reps K O H l vs->Reps K O H (l.drop n) (vs.drop n)
 | _,_,0,r=>r
 | [],vs,n+1,r=>by rw[Reps.Do.mp r];exact Reps.GJ
 | t::l,vs,n+1,r=>by
  obtain⟨v,us,rfl,p,q⟩:=Reps.AC.mp r;exact q.drop n
theorem Reps.ints:∀{ns:List Int},Reps K O H (ns.map T.int) (ns.map V.int)
 | [] =>Reps.GJ
 | n::r=>Reps.GE (Rep.GK n) Reps.ints
theorem Reps.G6:∀{ns:List Int} {vs:List V},Reps K O H (ns.map T.int) vs->vs=ns.map V.int
 | [],vs,r=>Reps.Do.mp r
 | n::r,vs,q=>by
  obtain⟨v,us,rfl,p,q⟩:=Reps.AC.mp q;rw[Rep.Da.mp p,Reps.G6 q];rfl
end
def RowsR (K:Ho)(O:Ow)(H:Hp):List (List T×List T)->List Addr->Prop
 | [],as=>as= []
 | r::rs,as=> ∃b bs kvs,as=b::bs/\H b=some (.dT kvs)/\r.1.map keyOf=kvs.map (λp=>some p.1)/\Reps K O H r.2 (kvs.map (·.2))/\RowsR K O H rs bs
def LsR (K:Ho)(O:Ow)(H:Hp):List (List T)->List Addr->Prop
 | [],as=>as= []
 | l::ls,as=> ∃b bs vs,as=b::bs/\H b=some (.lst vs)/\Reps K O H l vs/\LsR K O H ls bs
def ORep (K:Ho)(O M:Ow)(H:Hp):OT->V->Prop
 | .lst l,v=> ∃a vs,v= .ref a/\(∀b,M b↔b=a)/\H a=some (.lst vs)/\Reps K O H l vs
 | .dct ks ts,v=> ∃a kvs,v= .ref a/\(∀b,M b↔b=a)/\H a=some (.dT kvs)/\ks.map keyOf=kvs.map (λp=>some p.1)/\Reps K O H ts (kvs.map (·.2))
 | .dd ks rows,v=> ∃a kvs as,v= .ref a/\(∀b,M b↔b=a\/b∈as)/\a∉as/\as.Nodup/\H a=some (.dT kvs)/\ks.map keyOf=kvs.map (λp=>some p.1)/\kvs.map (·.2)=as.map V.ref/\RowsR K O H rows as
 | .ob C ns ls,v=> ∃a dx as,v= .ref a/\(∀b,M b↔b=a\/b=dx\/b∈as)/\(a∉as/\dx∉as/\dx≠a/\as.Nodup)/\H a=some (.ins (D1 K C) dx (ns.zip (as.map V.ref)))/\H dx=some (.own a)/\ns.length=as.length/\ns.Nodup/\LsR K O H ls as
 | .ll ls,v=> ∃a as,v= .ref a/\(∀b,M b↔b=a\/b∈as)/\a∉as/\as.Nodup/\H a=some (.lst (as.map V.ref))/\LsR K O H ls as
inductive Sl where
 | em | va (t:T) | ow (o:OT)
abbrev En:=List Sl
def Mn.u (M:Mn):Ow:=λa=> ∃i,M i a
def isO:HO->Bool
 | .ins _ _ _=>true
 | .own _=>true
 | _=>false
def Mtb (H:Hp)(a:Addr):Prop:=(∃vs,H a=some (.lst vs))\/(∃kvs,H a=some (.dT kvs))\/∃o,H a=some o/\isO o=true
theorem Mtb.some {H:Hp}{a:Addr}(h:Mtb H a):∃o,H a=some o:=by
 rcases h with⟨_,e⟩ | ⟨_,e⟩ | ⟨_,e,_⟩ <;> exact⟨_,e⟩
theorem Mtb.at {H H':Hp}{a:Addr}(s:∀o,H a=IE o->H' a=IE o)(h:Mtb H a):Mtb H' a:=by
 rcases h with⟨vs,e⟩ | ⟨k,e⟩ | ⟨o,e,q⟩
 ·exact .inl ⟨vs,s _ e⟩
 ·exact .inr (.inl ⟨k,s _ e⟩)
 ·exact .inr (.inr ⟨o,s _ e,q⟩)
theorem Mtb.same {H H':Hp}(s:Same H H'){a:Addr}(h:Mtb H a):Mtb H' a:=h.at λo e=>s a o e
structure EnvM (K:Ho)(O:Ow)(M:Mn)(H:Hp)(ρ:En)(σ:L2.St):Prop where
 len:ρ.length=σ.length
 val:∀(i:Nat) (t:T),ρ[i]? =some (.va t)->∃v,σ[i]? =some (some v)/\Rep K O H t v
 own:∀(i:Nat) (o:OT),ρ[i]? =some (.ow o)->∃v,σ[i]? =some (some v)/\ORep K O (M i) H o v
 sub:∀(i:Nat) (a:Addr),M i a->O a
 dis:∀(i j:Nat) (a:Addr),M i a->M j a->i=j
 trk:∀(a:Addr),O a->Mtb H a
theorem RowsR.same {K:Ho}{O:Ow}{H H':Hp}(h:Same H H'):∀{rs:List (List T×List T)} {as:List Addr},RowsR K O H rs as->RowsR K O H' rs as
 | [],_,r=>r
 | _::_,_,⟨b,bs,kvs,e1,e2,e3,e4,e5⟩=>⟨b,bs,kvs,e1,h _ _ e2,e3,e4.same h,e5.same h⟩
theorem LsR.same {K:Ho}{O:Ow}{H H':Hp}(h:Same H H'):∀{ls:List (List T)} {as:List Addr},LsR K O H ls as->LsR K O H' ls as
 | [],_,r=>r
 | _::_,_,⟨b,bs,vs,e1,e2,e3,e4⟩=>⟨b,bs,vs,e1,h _ _ e2,e3.same h,e4.same h⟩
theorem ORep.same {K:Ho}{O M:Ow}{H H':Hp}(h:Same H H'){o:OT}{v:V}(r:ORep K O M H o v):ORep K O M H' o v:=by
 cases o with
 | lst l=>obtain⟨a,vs,e1,e2,e3,e4⟩:=r;exact⟨a,vs,e1,e2,h _ _ e3,e4.same h⟩
 | dct ks ts=>obtain⟨a,kvs,e1,e2,e3,e4,e5⟩:=r;exact⟨a,kvs,e1,e2,h _ _ e3,e4,e5.same h⟩
 | dd ks rows=>obtain⟨a,kvs,as,e1,e2,e3,e4,e5,e6,e7,e8⟩:=r;exact⟨a,kvs,as,e1,e2,e3,e4,h _ _ e5,e6,e7,e8.same h⟩
 | ob C ns ls=>obtain⟨a,dx,as,e1,e2,e3,e4,e5,e6,e7,e8⟩:=r;exact⟨a,dx,as,e1,e2,e3,h _ _ e4,h _ _ e5,e6,e7,e8.same h⟩
 | ll ls=>obtain⟨a,as,e1,e2,e3,e4,e5,e6⟩:=r;exact⟨a,as,e1,e2,e3,e4,h _ _ e5,e6.same h⟩
theorem EnvM.same {K:Ho}{O:Ow}{M:Mn}{H H':Hp}{ρ:En}{σ:L2.St}(h:Same H H')(e:EnvM K O M H ρ σ):EnvM K O M H' ρ σ where
 len:=e.len
 val:=λi t q=>let ⟨v,e1,e2⟩:=e.val i t q;⟨v,e1,e2.same h⟩
 own:=λi o q=>let ⟨v,e1,e2⟩:=e.own i o q;⟨v,e1,e2.same h⟩
 sub:=e.sub
 dis:=e.dis
 trk:=λa q=>(e.trk a q).same h
def EnvO (K:Ho)(O:Ow)(H:Hp)(ρ:En)(σ:L2.St):Prop:=∃M,EnvM K O M H ρ σ
section
variable {K:Ho}{O:Ow}{H H':Hp}{ρ:En}{σ:L2.St}
theorem EnvO.val (e:EnvO K O H ρ σ)(i:Nat)(t:T)(q:ρ[i]? =some (.va t)):∃v,σ[i]? =some (some v)/\Rep K O H t v:=e.elim λ_ e=>e.val i t q
theorem EnvO.mtb (e:EnvO K O H ρ σ):∀a,O a->Mtb H a:=e.elim λ_ e=>e.trk
theorem EnvO.trk (e:EnvO K O H ρ σ)(a:Addr)(z:O a):∃o,H a=some o:=(e.mtb a z).some
theorem EnvO.same (h:Same H H')(e:EnvO K O H ρ σ):EnvO K O H' ρ σ:=e.elim λM e=>⟨M,e.same h⟩
theorem EnvO.fresh (e:EnvO K O H ρ σ){p:Addr}(h:H p=none):¬ O p:=λz=>by
 obtain⟨o,q⟩:=e.trk p z;rw[h]at q;cases q
end
def Flt (h:Heap)(C e:Addr):Option Addr->Prop
 | none=> ∃oe vs,h.get? e=some oe/\oe.cls= .ref C/\oe.data= .fields vs/\vs[1]? =some .none
 | some T=>T≠e/\∃oe vs,h.get? e=some oe/\oe.cls= .ref C/\oe.data= .fields vs/\vs[1]? =some (.ref T)/\∃oT ts,h.get? T=some oT/\oT.data= .fields ts/\ts[3]? =some .none
def RzP (X:Cx)(pins:List (Addr×Obj))(P:Ow)(H:Hp)(c:Str)(ev:Hs)(s':Hr):Prop:=
 ∃e T C σ' H',ev= .ref e/\X.mg c=some (.ref C)/\Inv X pins σ' H' s'/\SameO P H H'/\H' e=none/\(X.ex= []->X.s₀.heap.get? e=none)/\Flt s'.heap C e T/\(∀t,T=some t->H' t=none/\(X.ex= []->X.s₀.heap.get? t=none))/\∀p∈X.pn++pins,p.1≠e/\T≠some p.1
def Nw (K:Ho)(H:Hp):Ow:=λa=>H a=none/\K.lookup a=none
theorem iv {K:Ho}{P:Ow}{H H1:Hp}(h:SameO P H H1){a:Addr}(n:Nw K H1 a):P a\/Nw K H a:=by
 by_cases hp:P a
 ·exact .inl hp
 ·refine .inr ⟨?_,n.2⟩
  cases q:H a with
  | none=>rfl
  | some o=>have:=h a o q hp;rw[n.1]at this;cases this
theorem SameO.trans {K:Ho}{P P1:Ow}{H H1 H2:Hp}(h:SameO P H H1)(h1:SameO P1 H1 H2)(sub:∀a,P1 a->P a\/Nw K H a):SameO P H H2:=λb o e n=>
 h1 b o (h b o e n) λz=>(sub b z).elim n λw=>by rw[w.1]at e;cases e
def XA (X:Cx)(P:Ow)(H:Hp)(c:Str):Prop:=∀pins ev s',RzP X pins P H c ev s'->X.xe ev s'
theorem XA.later {X:Cx}{P P1:Ow}{H H1:Hp}{c:Str}(h:XA X P H c)(s:SameO P H H1)(sub:∀a,P1 a->P a\/Nw X.K H a):XA X P1 H1 c:=λpins ev s' ⟨e,T,C,σ',H',a1,a2,a3,a4,a5⟩=>
 h pins ev s' ⟨e,T,C,σ',H',a1,a2,a3,s.trans a4 sub,a5⟩
abbrev xu:Ow:=λ_=>False
def Post {α:Type}(X:Cx)(H:Hp)(r:Rs α)(k:α->Hp->Prop):Prop:=match r with
 | .ok t=> ∀H',Same H H'->k t H'
 | .err c=>XA X xu H c
 | .bad=>False
theorem Post.mono {α:Type}{X:Cx}{H:Hp}{r:Rs α}{k k':α->Hp->Prop}(h:Post X H r k)(f:∀t H',Same H H'->k t H'->k' t H'):Post X H r k':=by
 cases r with
 | ok t=>exact λH' s=>f t H' s (h H' s)
 | err c=>exact h
 | bad=>exact h
theorem Post.later {α:Type}{X:Cx}{H H1:Hp}{r:Rs α}{k:α->Hp->Prop}(h:Post X H r k)(s:Same H H1):Post X H1 r k:=by
 cases r with
 | ok t=>exact λH' s'=>h H' (s.trans s')
 | err c=>exact XA.later h (SameO.of s) λ_ z=>z.elim
 | bad=>exact h
theorem Post.bind {α β:Type}{X:Cx}{H:Hp}{r:Rs α}{f:α->Rs β}{k:β->Hp->Prop}(h:Post X H (r >>= f) k):Post X H r λt H'=>Post X H' (f t) k:=by
 cases r with
 | ok t=>exact λH' s=>Post.later h s
 | err c=>exact h
 | bad=>exact h
def tP (X:Cx)(f:En->Rs T):TE:=λσ H Q=> ∃ρ O,EnvO X.K O H ρ σ/\Post X H (f ρ) λt H'=> ∀v,Rep X.K O H' t v->Q v H'
def tPA (X:Cx)(f:En->Rs (List T)):TA:=λσ H Q=> ∃ρ O,EnvO X.K O H ρ σ/\Post X H (f ρ) λt H'=> ∀v,Reps X.K O H' t v->Q v H'
def wA (X:Cx)(f:En->Rs Bool):TT:=λσ H Q=> ∃ρ O,EnvO X.K O H ρ σ/\Post X H (f ρ) λb H'=>Q b H'
abbrev cx (X:Cx)(e:Expr)(f:En->Rs T):Prop:=PE X e (tP X f)
abbrev pQ (X:Cx)(e:List Expr)(f:En->Rs (List T)):Prop:=PA X e (tPA X f)
abbrev uB (X:Cx)(e:Expr)(f:En->Rs Bool):Prop:=PT X e (wA X f)
theorem PE.imp {X:Cx}{e:Expr}{t t':TE}(h:PE X e t)(w:∀σ H Q,t' σ H Q->t σ H Q):PE X e t':=λpins s σ H Q I q=>h pins s σ H Q I (w σ H Q q)
theorem PA.imp {X:Cx}{e:List Expr}{t t':TA}(h:PA X e t)(w:∀σ H Q,t' σ H Q->t σ H Q):PA X e t':=λpos pins s σ H Q I q=>h pos pins s σ H Q I (w σ H Q q)
theorem PS.imp {X:Cx}{e:Stmt}{t t':TS}(h:PS X e t)(w:∀D σ H,t' D σ H->t D σ H):PS X e t':=λpins s σ H D I q=>h pins s σ H D I (w D σ H q)
theorem PSs.imp {X:Cx}{e:List Stmt}{t t':TS}(h:PSs X e t)(w:∀D σ H,t' D σ H->t D σ H):PSs X e t':=λpins s σ H D I q=>h pins s σ H D I (w D σ H q)
section
variable {X:Cx}
theorem aK {σ:L2.St}{H:Hp}{ρ:En}{O:Ow}{α:Type}{f:En->Rs T}{k:T->Rs α}{Q:α->Hp->Prop}(E:EnvO X.K O H ρ σ)(h:Post X H (f ρ >>= k) Q) :
  tP X f σ H λv H'=> ∃t,Rep X.K O H' t v/\Same H H'/\EnvO X.K O H' ρ σ/\Post X H' (k t) Q:=
 ⟨ρ,O,E,Post.mono h.bind λt H' s q v r=>⟨t,r,s,E.same s,q⟩⟩
theorem d8 {σ:L2.St}{H:Hp}{ρ:En}{O:Ow}{α:Type}{f:En->Rs (List T)}{k:List T->Rs α}{Q:α->Hp->Prop}(E:EnvO X.K O H ρ σ)(h:Post X H (f ρ >>= k) Q) :
  tPA X f σ H λv H'=> ∃t,Reps X.K O H' t v/\Same H H'/\EnvO X.K O H' ρ σ/\Post X H' (k t) Q:=
 ⟨ρ,O,E,Post.mono h.bind λt H' s q v r=>⟨t,r,s,E.same s,q⟩⟩
theorem ju {σ:L2.St}{H:Hp}{ρ:En}{O:Ow}{α:Type}{f:En->Rs Bool}{k:Bool->Rs α}{Q:α->Hp->Prop}(E:EnvO X.K O H ρ σ)(h:Post X H (f ρ >>= k) Q) :
  wA X f σ H λb H'=>Same H H'/\EnvO X.K O H' ρ σ/\Post X H' (k b) Q:=
 ⟨ρ,O,E,Post.mono h.bind λt H' s q=>⟨s,E.same s,q⟩⟩
noncomputable def vr (i:Nat)(ρ:En):Rs T:=match ρ[i]? with
 | some (.va t)=> .ok t
 | _=> .bad
def cn (t:T)(_:En):Rs T:=.ok t
theorem E7 (i:Nat){x:Str}{pos:Pos}(hN:autoParam (X.N[i]? =some x) u_)(hv:autoParam (rl X.env.scope x) v_)(hd:autoParam ((x == ("__debug__" : Str))=false) s_)
  (hcd:autoParam ((x == ("__classdict__" : Str))=false) s_):cx X (.Name x pos) (vr i):=PE.imp (jR hN hv hd hcd) λσ H Q hh_=>by
 obtain⟨ρ,O,E,h⟩:=hh_;unfold vr at h
 split at h
 ·rename_i t e
  obtain⟨v,e1,e2⟩:=E.val i t e;exact⟨v,e1,h H (Same.refl H) v e2⟩
 ·exact h.elim
theorem Fj {i j pos}:cx X (.Constant (.int i) j pos) (cn (.int i)):=PE.imp xg λσ H Q ⟨ρ,O,E,h⟩=>h H (Same.refl H) _ (Rep.GK i)
theorem q_bl {i j pos}:cx X (.Constant (.bool i) j pos) (cn (.bl i)):=PE.imp tJ λσ H Q ⟨ρ,O,E,h⟩=>h H (Same.refl H) _ (Rep.bl_ i)
theorem Fe {j pos}:cx X (.Constant .none j pos) (cn .non):=PE.imp xf λσ H Q ⟨ρ,O,E,h⟩=>h H (Same.refl H) _ Rep.G1
theorem E9 {i j pos}:cx X (.Constant (.str i) j pos) (cn (.str i)):=PE.imp CD λσ H Q ⟨ρ,O,E,h⟩=>h H (Same.refl H) _ (Rep.GP i)
theorem Cu {x:Str}{i:Int}{u:Hs}{pos:Pos}(hm:X.mg x=some u)(r:RelV (.int i) u)(hg:autoParam (Gl X x) u_)(hd:autoParam ((x == ("__debug__" : Str))=false) s_):cx X (.Name x pos) (cn (.int i)):=
 PE.imp (tG hg hm r hd) λσ H Q ⟨ρ,O,E,h⟩=>h H (Same.refl H) _ (Rep.GK i)
def ag (_:En):Rs (List T):=.ok []
def ae (f:En->Rs T)(g:En->Rs (List T))(ρ:En):Rs (List T):=do
 let t <-f ρ
 let r <-g ρ
 .ok (t::r)
theorem Cr:pQ X [] ag:=PA.imp i8 λσ H Q ⟨ρ,O,E,h⟩=>h H (Same.refl H) _ Reps.GJ
theorem zx {e:Expr}{es:List Expr}{f:En->Rs T}{g:En->Rs (List T)}(he:cx X e f)(hr:pQ X es g)(hs:autoParam (HX (e::es) X.env=(false,eval e X.env)::HX es X.env) u_):pQ X (e::es) (ae f g):=by
 intro pos pins s σ H Q I h;obtain⟨ρ,O,E,h⟩:=h;refine cM he hr hs pos pins s σ H Q I ?_
 obtain⟨ρ1,O1,E1,h1⟩:=aK E h;refine⟨ρ1,O1,E1,Post.mono h1 λt H' s q v r=> ?_⟩
 obtain⟨t',r',s',E',q'⟩:=q v r;refine⟨ρ,O,E',Post.mono q'.bind λts H2 s2 q2 vs rs=> ?_⟩
 exact q2 H2 (Same.refl H2) _ (Reps.GE (r'.same s2) rs)
end
section
variable {X:Cx}
def gd (l:List T):Rs T:=if l.length<=sizeLine then .ok (.tup l)else .bad
def kl (l:List T):Rs T:=if l.length<=sizeLine then .ok (.lst l)else .bad
def bQ (f:En->Rs (List T))(ρ:En):Rs T:=f ρ >>= gd
def dz (f:En->Rs (List T))(ρ:En):Rs T:=f ρ >>= kl
theorem aT {H:Hp}{p:Addr}(h:H p=none)(o:HO):Same H (dB H p o):=λb u q=>by rw[a8 (bP q h)];exact q
theorem dw {K:Ho}{O:Ow}{H:Hp}{p:Addr}{l:List T}{vs:List V}(h:H p=none)(n:¬ O p)(r:Reps K O H l vs):Rep K O (dB H p (.tup vs)) (.tup l) (.ref p):=
 Rep.FB.mpr ⟨p,vs,rfl,n,bx,r.same (aT h _)⟩
theorem fq {K:Ho}{O:Ow}{H:Hp}{p:Addr}{l:List T}{vs:List V}(h:H p=none)(n:¬ O p)(r:Reps K O H l vs):Rep K O (dB H p (.lst vs)) (.lst l) (.ref p):=
 Rep.Fk.mpr ⟨p,vs,rfl,n,bx,r.same (aT h _)⟩
theorem E8 {es:List Expr}{x1:Nat}{pos:Pos}{f:En->Rs (List T)}(h:pQ X es f):cx X (.Tuple es x1 pos) (bQ f):=by
 intro pins s σ H Q I ⟨ρ,O,E,hq⟩;refine CC h pins s σ H Q I ?_
 obtain⟨ρ1,O1,E1,h1⟩:=d8 E hq;refine⟨ρ1,O1,E1,Post.mono h1 λts H1 s1 q vs r=> ?_⟩
 obtain⟨t',r',s',E',q'⟩:=q vs r;unfold gd at q'
 split at q'
 ·rename_i hz
  refine⟨by rw[<-r'.length];exact hz,λp hp=> ?_⟩
  exact q' _ (aT hp _) _ (dw hp (E'.fresh hp) r')
 ·exact q'.elim
theorem Fg {es:List Expr}{pos:Pos}{f:En->Rs (List T)}(h:pQ X es f):cx X (.List es pos) (dz f):=by
 intro pins s σ H Q I ⟨ρ,O,E,hq⟩;refine rW h pins s σ H Q I ?_
 obtain⟨ρ1,O1,E1,h1⟩:=d8 E hq;refine⟨ρ1,O1,E1,Post.mono h1 λts H1 s1 q vs r=> ?_⟩
 obtain⟨t',r',s',E',q'⟩:=q vs r;unfold kl at q'
 split at q'
 ·rename_i hz
  refine⟨by rw[<-r'.length];exact hz,λp hp=> ?_⟩
  exact q' _ (aT hp _) _ (fq hp (E'.fresh hp) r')
 ·exact q'.elim
def OpT (X:Cx)(f:Hs->Hs->Sem Hs)(g:T->T->Rs T):Prop:=
 ∀(pins:List (Addr×Obj)) (s:Hr) (σ:L2.St) (H:Hp) (O:Ow) (x y:T) (vx vy:V) (ux uy:Hs) (Q:VK),Inv X pins σ H s->(∀p,H p=none->¬ O p)->Rep X.K O H x vx->Rep X.K O H y vy->RelV vx ux->RelV vy uy →
  Post X H (g x y) (λt H'=> ∀v,Rep X.K O H' t v->Q v H')->wpAny (model X.prog X.w) X.A (f ux uy) (EP X pins σ Q) X.xe s
def o2 (g:T->T->Rs T)(fa fb:En->Rs T)(ρ:En):Rs T:=do
 let x <-fa ρ
 let y <-fb ρ
 g x y
variable {a b c:Expr}{fa fb fc:En->Rs T}{pos:Pos}
theorem Fo {op:OM}{g:T->T->Rs T}(ho:OpT X (Jq op) g)(ha:cx X a fa)(hb:cx X b fb):cx X (.BinOp a op b pos) (o2 g fa fb):=by
 intro pins s σ H Q I ⟨ρ,O,E,hq⟩
 have h1:=aK E hq;refine wpAny_BinOp (bK (ha pins s σ H _ I h1) λv s1 hh_=> ?_)
 obtain⟨x,H1,I1,r1,t,rt,s',E',q1⟩:=hh_
 have h2:=aK (f:=fb) E' q1;refine bK (hb pins s1 σ H1 _ I1 h2) λu s2 hh_=> ?_
 obtain⟨y,H2,I2,r2,t2,rt2,s'',E'',q2⟩:=hh_;exact ho pins s2 σ H2 O t t2 x y v u Q I2 (λp=>E''.fresh) (rt.same s'') rt2 r1 r2 q2
theorem Fm {op:Pr}{g:T->T->Rs T}(ho:OpT X (IM op) g)(ha:cx X a fa)(hb:cx X b fb)(hm:autoParam (JU op b=false) u_):cx X (.Compare a [op] [b] pos) (o2 g fa fb):=by
 intro pins s σ H Q I ⟨ρ,O,E,hq⟩
 have h1:=aK E hq;refine wpAny_Compare1 (bK (ha pins s σ H _ I h1) λv s1 ⟨x,H1,I1,r1,t,rt,s',E',q1⟩=> ?_) hm
 have h2:=aK (f:=fb) E' q1;refine bK (hb pins s1 σ H1 _ I1 h2) λu s2 hh_=> ?_
 obtain⟨y,H2,I2,r2,t2,rt2,s'',E'',q2⟩:=hh_;exact ho pins s2 σ H2 O t t2 x y v u Q I2 (λp=>E''.fresh) (rt.same s'') rt2 r1 r2 q2
theorem OpT.of {f:Hs->Hs->Sem Hs}{r:R2}(h:mf X f r){g:T->T->Rs T}
  (w:∀(H:Hp) (O:Ow) (x y:T) (vx vy:V) (Q:VK),(∀p,H p=none->¬ O p)->Rep X.K O H x vx->Rep X.K O H y vy->Post X H (g x y) (λt H'=> ∀v,Rep X.K O H' t v->Q v H')->r vx vy H Q):OpT X f g:=
 λpins s σ H O x y vx vy ux uy Q I hf rx ry r1 r2 hp=>h pins s σ H vx vy ux uy Q I r1 r2 (w H O x y vx vy Q hf rx ry hp)
def gK:T->T->Rs T
 | .int i,.int j=> .ok (.int (i - j))
 | _,_=> .bad
theorem i9:OpT X (Jq .Sub) gK:=OpT.of CJ λH O x y vx vy Q hf rx ry hp=>by
 unfold gK at hp
 split at hp
 ·exact⟨_,_,Rep.Da.mp rx,Rep.Da.mp ry,hp H (Same.refl H) _ (Rep.GK _)⟩
 ·exact hp.elim
def jE:T->T->Rs T
 | .int i,.int j=>if 0<j/\j<1073741824 then .ok (.int (i / j))else .bad
 | _,_=> .bad
def je:T->T->Rs T
 | .int i,.int j=>if 0<j then .ok (.int (i % j))else .bad
 | _,_=> .bad
theorem kG:OpT X (Jq .FloorDiv) jE:=OpT.of zT λH O x y vx vy Q hf rx ry hp=>by
 unfold jE at hp
 split at hp
 ·split at hp
  ·rename_i h
   exact⟨_,_,Rep.Da.mp rx,Rep.Da.mp ry,h,hp H (Same.refl H) _ (Rep.GK _)⟩
  ·exact hp.elim
 ·exact hp.elim
theorem ja:OpT X (Jq .Mod) je:=OpT.of CO λH O x y vx vy Q hf rx ry hp=>by
 unfold je at hp
 split at hp
 ·split at hp
  ·rename_i h
   exact⟨_,_,Rep.Da.mp rx,Rep.Da.mp ry,h,hp H (Same.refl H) _ (Rep.GK _)⟩
  ·exact hp.elim
 ·exact hp.elim
theorem xm:mf X (Jq .Add) (λx y H Q=> ∃a b ys,x= .ref a/\y= .ref b/\SqT X.K H a []/\SqT X.K H b ys/\Q (.ref b) H):=by
 intro pins s σ H x y v u Q I rx ry h;obtain⟨a,b,ys,rfl,rfl,ha,hb,q⟩:=h;cases rx;cases ry;obtain⟨its,r1,p1,_⟩:=I.tuple ha;obtain⟨its2,r2,p2,_⟩:=I.tuple hb;obtain⟨⟨cls,dd,data,sl⟩,ho,hc,n,hd⟩:=id p1;obtain⟨⟨cls2,dd2,data2,sl2⟩,ho2,hc2,n2,hd2⟩:=id p2;simp only at hc hd hc2 hd2;subst hc hd hc2 hd2
 have e:its= []:=by cases r1;rfl
 subst e;exact HT_concat0 ho ho2 ⟨.ref b,H,I,rfl,q⟩
where
 HT_concat0 {prog:HZ} {w:ID} {A:Iw} {E:Hs->Hr->Prop} {s:Hr} {t b:Addr} {ws:Array Hs} {n n2:Nat} {dd dd2:Option Addr} {sl sl2:Array (Option Hs)} {Q:Hs->Hr->Prop}
   (ho:s.heap.get? t=some { cls:=.type "tuple",dict:=dd,data:=.seq (([]:List Hs).toArray) n,slots:=sl }) (ho2:s.heap.get? b=some { cls:=.type "tuple",dict:=dd2,data:=.seq ws n2,slots:=sl2 }) (h:Q (.ref b) s) :
   wpAny (model prog w) A (Jq .Add (.ref t) (.ref b)) Q E s:=
  PF ⟨_,ho,rfl⟩ ⟨_,ho2,rfl⟩ Nd OS Ly Lj (K8 _ _)
   (tuple_addW0 t b _ _ n n2 dd dd2 sl sl2 (by simp)) ⟨ho,ho2,h⟩
def aw:T->T->Rs T
 | .int i,.int j=> .ok (.int (i+j))
 | .str i,.str j=>if i.length+j.length<=sizeLine then .ok (.str (i++j))else .bad
 | .tup l,.tup m=>gd (l++m)
 | .lst l,.lst m=>kl (l++m)
 | _,_=> .bad
theorem ay:OpT X (Jq .Add) aw:=by
 intro pins s σ H O x y vx vy ux uy Q I hf rx ry r1 r2 hp;unfold aw at hp
 split at hp
 ·exact CU pins s σ H vx vy ux uy Q I r1 r2 ⟨_,_,Rep.Da.mp rx,Rep.Da.mp ry,hp H (Same.refl H) _ (Rep.GK _)⟩
 ·split at hp
  ·rename_i h
   exact rX pins s σ H vx vy ux uy Q I r1 r2 ⟨_,_,Rep.FM.mp rx,Rep.FM.mp ry,h,hp H (Same.refl H) _ (Rep.GP _)⟩
  ·exact hp.elim
 ·rename_i l m
  unfold gd at hp
  split at hp
  ·rename_i h
   obtain⟨a,vs,e1,n1,q1,z1⟩:=Rep.FB.mp rx;obtain⟨b,ws,e2,n2,q2,z2⟩:=Rep.FB.mp ry
   have hl1:=z1.length
   have hl2:=z2.length;rw[Ht]at h
   cases vs with
   | nil=>
    have e:l= []:=by cases l with
     | nil=>rfl
     | cons _ _=>simp at hl1
    subst e
    exact xm pins s σ H vx vy ux uy Q I r1 r2 ⟨a,b,ws,e1,e2,SqT.of q1,SqT.of q2,hp H (Same.refl H) _ (Rep.FB.mpr ⟨b,ws,rfl,n2,q2,z2⟩)⟩
   | cons v0 vr=>
    refine zU pins s σ H vx vy ux uy Q I r1 r2 ⟨a,b,v0::vr,ws,e1,e2,SqT.of q1,SqT.of q2,by simp,by omega,λhw=> ?_,λ_ p hpn=> ?_⟩
    ·subst hw
     have e:m= []:=by cases m with
      | nil=>rfl
      | cons _ _=>simp at hl2
     subst e;rw[IA]at hp;exact hp H (Same.refl H) _ (Rep.FB.mpr ⟨a,_,rfl,n1,q1,z1⟩)
    ·exact hp _ (aT hpn _) _ (dw hpn (hf p hpn) (z1.append z2))
  ·exact hp.elim
 ·rename_i l m
  unfold kl at hp
  split at hp
  ·rename_i h
   obtain⟨a,vs,e1,n1,q1,z1⟩:=Rep.Fk.mp rx;obtain⟨b,ws,e2,n2,q2,z2⟩:=Rep.Fk.mp ry
   have hl1:=z1.length
   have hl2:=z2.length;rw[Ht]at h;exact CS pins s σ H vx vy ux uy Q I r1 r2 ⟨a,b,vs,ws,e1,e2,q1,q2,by omega,λp hpn=>hp _ (aT hpn _) _ (fq hpn (hf p hpn) (z1.append z2))⟩
  ·exact hp.elim
 ·exact hp.elim
def xB:T->T->Rs T
 | .int i,.int j=>if (-(2 ^ 64)<i/\i<2 ^ 64)\/(-(2 ^ 64)<j/\j<2 ^ 64)then .ok (.int (i*j))else .bad
 | .lst l,.int k=>if -(2 ^ 63)<=k/\k<2 ^ 63/\l.length*k.toNat<=sizeLine then .ok (.lst (Ie k.toNat l).flatten)else .bad
 | _,_=> .bad
theorem Reps.rep {K:Ho}{O:Ow}{H:Hp}{l:List T}{vs:List V}(h:Reps K O H l vs):∀k:Nat,Reps K O H (Ie k l).flatten (Ie k vs).flatten
 | 0=>Reps.GJ
 | k+1=>by rw[JJ,JJ,JK,JK];exact h.append (h.rep k)
theorem CI:OpT X (Jq .Mult) xB:=by
 intro pins s σ H O x y vx vy ux uy Q I hf rx ry r1 r2 hp;unfold xB at hp
 split at hp
 ·split at hp
  ·rename_i h
   exact CM pins s σ H vx vy ux uy Q I r1 r2 ⟨_,_,Rep.Da.mp rx,Rep.Da.mp ry,h,hp H (Same.refl H) _ (Rep.GK _)⟩
  ·exact hp.elim
 ·split at hp
  ·rename_i l k h
   obtain⟨a,vs,e1,n1,q1,z1⟩:=Rep.Fk.mp rx
   have hl1:=z1.length;exact CL pins s σ H vx vy ux uy Q I r1 r2 ⟨a,k,vs,e1,Rep.Da.mp ry,q1,h.1,h.2.1,by rw[<-hl1];exact h.2.2,λp hpn=>hp _ (aT hpn _) _ (fq hpn (hf p hpn) (z1.rep _))⟩
  ·exact hp.elim
 ·exact hp.elim
def c9:T->Rs T
 | .int i=> .ok (.int (-i))
 | _=> .bad
def o1 (g:T->Rs T)(fa:En->Rs T)(ρ:En):Rs T:=fa ρ >>= g
theorem Ff (ha:cx X a fa):cx X (.UnaryOp .USub a pos) (o1 c9 fa):=by
 intro pins s σ H Q I ⟨ρ,O,E,hq⟩;refine Bd we ha pins s σ H Q I ?_
 obtain⟨ρ1,O1,E1,h1⟩:=aK E hq;refine⟨ρ1,O1,E1,Post.mono h1 λts H1 s1 q vs r=> ?_⟩
 obtain⟨t',r',s',E',q'⟩:=q vs r;unfold c9 at q'
 split at q'
 ·exact⟨_,Rep.Da.mp r',q' H1 (Same.refl H1) _ (Rep.GK _)⟩
 ·exact q'.elim
def qY (p:Int->Int->Bool):T->T->Rs T
 | .int i,.int j=> .ok (.bl (p i j))
 | _,_=> .bad
theorem oo {op:Pr}{p:Int->Int->Bool}(h:mf X (IM op) (Bb λi j=> .bl (p i j))):OpT X (IM op) (qY p):=OpT.of h λH O x y vx vy Q hf rx ry hp=>by
 unfold qY at hp
 split at hp
 ·exact⟨_,_,Rep.Da.mp rx,Rep.Da.mp ry,hp H (Same.refl H) _ (Rep.bl_ _)⟩
 ·exact hp.elim
abbrev ltT:=qY λi j=>decide (i<j)
abbrev sf:=qY λi j=>decide (i<=j)
abbrev Dx:=qY λi j=>decide (j<i)
theorem Fy:OpT X (IM .Lt) ltT:=oo FA
theorem mY:OpT X (IM .LtE) sf:=oo FC
theorem Be:OpT X (IM .Gt) Dx:=oo FD
def T.isN:T->Bool
 | .non=>true
 | _=>false
theorem Rep.isN {K:Ho}{O:Ow}{H:Hp}{t:T}{v:V}(r:Rep K O H t v):decide (v= .non)=t.isN:=by
 cases t with
 | non=>rw[Rep.GO.mp r];rfl
 | bl _=>rw[Rep.Gc.mp r];rfl
 | int _=>rw[Rep.Da.mp r];rfl
 | str _=>rw[Rep.FM.mp r];rfl
 | tup _=>obtain⟨a,vs,e,_⟩:=Rep.FB.mp r;rw[e];rfl
 | lst _=>obtain⟨a,vs,e,_⟩:=Rep.Fk.mp r;rw[e];rfl
 | scr _=>unfold Rep at r;obtain⟨a,e,_⟩:=r;rw[e];rfl
 | dct _ _=>obtain⟨a,_,e,_⟩:=Rep.GN.mp r;rw[e];rfl
 | ob _ _ _=>obtain⟨a,_,_,e,_⟩:=Rep.G2.mp r;rw[e];rfl
def lN:T->T->Rs T
 | x,.non=> .ok (.bl x.isN)
 | _,_=> .bad
theorem xk:OpT X (IM .Is) lN:=OpT.of CP λH O x y vx vy Q hf rx ry hp=>by
 unfold lN at hp
 split at hp
 ·exact⟨Rep.GO.mp ry,hp H (Same.refl H) _ (by rw[rx.isN];exact Rep.bl_ _)⟩
 ·exact hp.elim
end
end Tr
namespace Tr
open PySem PySem.Spec PyProof.Rows L2
open PySem.SeqAt
mutual
def ReV (s:Hr):T->Hs->Prop
 | .non,u=>u= .none
 | .bl b,u=>u= .bool b
 | .int i,u=> ∃t,u= .int i t
 | .str x,u=> ∃t,u= .str x t
 | .tup l,u=> ∃a its,u= .ref a/\s.heap.IsTuple a (LD its)/\ReVs s l its
 | .lst l,u=> ∃a its,u= .ref a/\s.heap.IsList a (LD its)/\ReVs s l its
 | .scr l,u=> ∃a its,u= .ref a/\s.heap.IsList a (LD its)/\Lu its l
 | .dct _ _,_=>False
 | .ob _ _ _,_=>False
def ReVs (s:Hr):List T->List Hs->Prop
 | [],us=>us= []
 | t::r,us=> ∃u ws,us=u::ws/\ReV s t u/\ReVs s r ws
end
theorem ReVs.Do {s:Hr}{us:List Hs}:ReVs s [] us↔us= []:=by unfold ReVs;exact L9
theorem ReVs.AC {s:Hr}{t:T}{l:List T}{us:List Hs}:ReVs s (t::l) us↔ ∃u ws,us=u::ws/\ReV s t u/\ReVs s l ws:=by
 constructor
 ·intro h;unfold ReVs at h;exact h
 ·intro h;unfold ReVs;exact h
theorem ReVs.length {s:Hr}:∀{l:List T} {us:List Hs},ReVs s l us->l.length=us.length
 | [],us,r=>by rw[ReVs.Do.mp r];rfl
 | t::l,us,r=>by
  obtain⟨v,ws,rfl,_,q⟩:=ReVs.AC.mp r;simp[q.length]
theorem ReVs.get {s:Hr}:∀{l:List T} {us:List Hs} {i:Nat} {t:T},ReVs s l us->l[i]? =some t->∃v,us[i]? =some v/\ReV s t v
 | [],_,_,_,_,e=>by simp at e
 | t::l,vs,i,u,r,e=>by
  obtain⟨v,ws,rfl,p,q⟩:=ReVs.AC.mp r
  cases i with
  | zero=>simp at e;subst e;exact⟨v,rfl,p⟩
  | succ i=>
   obtain⟨z,e1,e2⟩:=q.get (i:=i) (t:=u) (by simpa using e)
   exact⟨z,by simpa using e1,e2⟩
mutual
def T.nd:T->Bool
 | .dct _ _=>false
 | .ob _ _ _=>false
 | .tup l=>nds l
 | .lst l=>nds l
 | _=>true
def nds:List T->Bool
 | [] =>true
 | t::l=>t.nd&&nds l
end
theorem qI {t:T}{l:List T}(h:nds (t::l)=true):t.nd=true/\nds l=true:=by unfold nds at h;exact IR.mp h
section
variable {X:Cx}{pins:List (Addr×Obj)}{σ:L2.St}{H:Hp}{s:Hr}{O:Ow}
mutual
theorem Rep.val (I:Inv X pins σ H s):∀{t:T} {v:V} {u:Hs},t.nd=true->Rep X.K O H t v->RelV v u->ReV s t u
 | .non,v,u,hn,r,q=>by cases Rep.GO.mp r;unfold ReV;exact q
 | .bl b,v,u,hn,r,q=>by cases Rep.Gc.mp r;unfold ReV;exact q
 | .int b,v,u,hn,r,q=>by cases Rep.Da.mp r;unfold ReV;exact q
 | .str b,v,u,hn,r,q=>by cases Rep.FM.mp r;unfold ReV;exact q
 | .tup l,v,u,hn,r,q=>by
  obtain⟨a,vs,rfl,_,z,w⟩:=Rep.FB.mp r;cases q;obtain⟨its,rv,p,_⟩:=I.tuple (SqT.of z);unfold ReV
  exact⟨a,its,rfl,p,Reps.val I (by unfold T.nd at hn;exact hn) w rv⟩
 | .lst l,v,u,hn,r,q=>by
  obtain⟨a,vs,rfl,_,z,w⟩:=Rep.Fk.mp r;cases q;obtain⟨its,rv,p,_⟩:=I.list (SqL.of z);unfold ReV
  exact⟨a,its,rfl,p.isList,Reps.val I (by unfold T.nd at hn;exact hn) w rv⟩
 | .scr l,v,u,hn,r,q=>by
  unfold Rep at r;obtain⟨a,rfl,_,z⟩:=r;cases q;obtain⟨its,rv,p,_⟩:=I.list z;unfold ReV
  exact⟨a,its,rfl,p.isList,si rv⟩
 | .dct _ _,v,u,hn,r,q=>by cases hn
 | .ob _ _ _,v,u,hn,r,q=>by cases hn
theorem Reps.val (I:Inv X pins σ H s):∀{l:List T} {vs:List V} {us:List Hs},nds l=true->Reps X.K O H l vs->Vals vs us->ReVs s l us
 | [],vs,us,hn,r,q=>by
  cases Reps.Do.mp r;cases q
  exact ReVs.Do.mpr rfl
 | t::l,vs,us,hn,r,q=>by
  obtain⟨v,ws,rfl,p,z⟩:=Reps.AC.mp r
  cases q with
  | cons q1 q2=>exact ReVs.AC.mpr ⟨_,_,rfl,Rep.val I (qI hn).1 p q1,Reps.val I (qI hn).2 z q2⟩
end
end
mutual
def T.dep:T->Nat
 | .tup l=>deps l+1
 | .lst l=>deps l+1
 | .scr _=>1
 | _=>0
def deps:List T->Nat
 | [] =>0
 | t::l=>max t.dep (deps l)
end
def A0 (i:Int):T->Bool
 | .int j=>i == j
 | .bl b=>i == (if b then 1 else 0)
 | _=>false
def iY:List Int->List T->Bool
 | [],[] =>true
 | i::r,t::l=>A0 i t&&iY r l
 | _,_=>false
mutual
def bU:T->T->Bool
 | .non,.non=>true
 | .bl a,.bl b=>a == b
 | .bl a,.int b=>(if a then 1 else 0) == b
 | .int a,.bl b=>a == (if b then 1 else 0)
 | .int a,.int b=>a == b
 | .str a,.str b=>a == b
 | .tup l,.tup m=>beqTs l m
 | .lst l,.lst m=>beqTs l m
 | .lst l,.scr m=>beqTs l (m.map .int)
 | .scr l,.lst m=>iY l m
 | .scr l,.scr m=>l == m
 | _,_=>false
def beqTs:List T->List T->Bool
 | [],[] =>true
 | t::l,u::m=>bU t u&&beqTs l m
 | _,_=>false
end
theorem l9 (n:Nat)(e:Nat->Bool):(Iy (n+1)).all e=(e 0&&(Iy n).all λj=>e (j+1)):=by
 rw[List.range_succ_eq_map,LU,List.all_map];rfl
theorem j5:∀(l m:List T) (e:Nat->Bool),(∀(j:Nat) t u,l[j]? =some t->m[j]? =some u->e j=bU t u) →
  beqTs l m=((Iy (min l.length m.length)).all e&&l.length == m.length)
 | [],[],_,_=>by simp[beqTs]
 | [],_::_,_,_=>by simp[beqTs]
 | _::_,[],_,_=>by simp[beqTs]
 | t::l,u::m,e,h=>by
  have ih:=j5 l m (λj=>e (j+1)) λj t' u' h1 h2=>h (j+1) t' u' (by simpa using h1) (by simpa using h2)
  rw[beqTs,ih]
  have h0:=h 0 t u rfl rfl;simp only[HC];rw[Nat.succ_min_succ,l9,h0,Bool.and_assoc]
  congr 2
  simp
theorem nK:∀{l m:List T},l.length≠m.length->beqTs l m=false
 | [],[],h=>absurd rfl h
 | [],_::_,_=>by simp[beqTs]
 | _::_,[],_=>by simp[beqTs]
 | t::l,u::m,h=>by
  rw[beqTs,nK (l:=l) (m:=m) (by intro z;exact h (by simp[z]))]
  simp
theorem lX:∀{l:List T} {i:Nat} {t:T},l[i]? =some t->t.dep<=deps l
 | [],_,_,e=>by simp at e
 | t::l,0,u,e=>by simp at e;subst e;unfold deps;exact Nat.le_max_left _ _
 | t::l,i+1,u,e=>by
  have:=lX (l:=l) (i:=i) (t:=u) (by simpa using e)
  unfold deps;exact H0 this (Nat.le_max_right _ _)
theorem gV {s:Hr}{a:Addr}{x y:List Hs}(h:s.heap.IsTuple a x.toArray)(h':s.heap.IsTuple a y.toArray):x=y:=by
 obtain⟨o,e,_,n,d⟩:=h;obtain⟨o',e',_,n',d'⟩:=h';rw[e]at e';cases e';rw[d]at d';injection d' with d1 _
 simpa using congrArg Nq d1
theorem cA {s:Hr}{a:Addr}{x y:List Hs}(h:s.heap.IsList a x.toArray)(h':s.heap.IsList a y.toArray):x=y:=by
 obtain⟨o,e,_,n,d⟩:=h;obtain⟨o',e',_,n',d'⟩:=h';rw[e]at e';cases e';rw[d]at d';injection d' with d1 _
 simpa using congrArg Nq d1
theorem vD {s:Hr}{i:Int}{t:T}{k:Tok}(r:ReV s t (.int i k)):A0 i t=true:=by
 cases t with
 | non=>unfold ReV at r;cases r
 | bl b=>unfold ReV at r;cases r
 | int j=>unfold ReV at r;obtain⟨t,e⟩:=r;injection e with e1 _;subst e1;simp[A0]
 | str x=>unfold ReV at r;obtain⟨t,e⟩:=r;cases e
 | tup l=>unfold ReV at r;obtain⟨a,its,e,_⟩:=r;cases e
 | lst l=>unfold ReV at r;obtain⟨a,its,e,_⟩:=r;cases e
 | scr l=>unfold ReV at r;obtain⟨a,its,e,_⟩:=r;cases e
 | dct _ _=>unfold ReV at r;exact r.elim
 | ob _ _ _=>unfold ReV at r;exact r.elim
theorem l6 {s:Hr}:∀{ns:List Int} {us:List Hs} {l:List T},Lu us ns->ReVs s l us->iY ns l=true
 | [],us,l,h,r=>by
  cases h
  cases l with
  | nil=>rfl
  | cons t l=>obtain⟨_,_,e,_⟩:=ReVs.AC.mp r;cases e
 | n::ns,us,l,h,r=>by
  cases h with
  | cons a b hh=>
   cases l with
   | nil=>have:=ReVs.Do.mp r;cases this
   | cons t l=>
    obtain⟨u,ws,e,p,q⟩:=ReVs.AC.mp r;injection e with e1 e2
    subst e1 e2;rw[iY,vD p,l6 hh q];rfl
theorem dI {s:Hr}:∀{us:List Hs} {ns:List Int},Lu us ns->ReVs s (ns.map T.int) us
 | _,_,.nil=>ReVs.Do.mpr rfl
 | _,_,.cons n t h=>ReVs.AC.mpr ⟨_,_,rfl,by unfold ReV;exact⟨_,rfl⟩,dI h⟩
theorem gX:∀{us:List Hs} {ns ms:List Int},Lu us ns->Lu us ms->ns=ms
 | _,_,_,.nil,.nil=>rfl
 | _,_,_,.cons n t h,.cons _ _ h'=>by rw[gX h h']
mutual
theorem ReV.refl {s:Hr}:∀{t u:T} {v:Hs},ReV s t v->ReV s u v->bU t u=true
 | .non,u,v,r,q=>by
  unfold ReV at r;subst r
  cases u <;> (unfold ReV at q) <;> first | rfl | (cases q;done) | (obtain⟨_,e⟩:=q;cases e;done) | (obtain⟨_,_,e,_⟩:=q;cases e;done)
 | .bl b,u,v,r,q=>by
  unfold ReV at r;subst r
  cases u <;> (unfold ReV at q) <;> first | (cases q;done) | (cases q;simp[bU];done) | (obtain⟨_,e⟩:=q;cases e;done) | (obtain⟨_,_,e,_⟩:=q;cases e;done)
 | .int b,u,v,r,q=>by
  unfold ReV at r;obtain⟨k,rfl⟩:=r
  cases u <;> (unfold ReV at q) <;> first | (cases q;done) | (obtain⟨_,e⟩:=q;cases e;simp[bU];done) | (obtain⟨_,e⟩:=q;cases e;done) | (obtain⟨_,_,e,_⟩:=q;cases e;done)
 | .str b,u,v,r,q=>by
  unfold ReV at r;obtain⟨k,rfl⟩:=r
  cases u <;> (unfold ReV at q) <;> first | (cases q;done) | (obtain⟨_,e⟩:=q;cases e;simp[bU];done) | (obtain⟨_,e⟩:=q;cases e;done) | (obtain⟨_,_,e,_⟩:=q;cases e;done)
 | .tup l,u,v,r,q=>by
  unfold ReV at r;obtain⟨a,its,rfl,h1,h2⟩:=r
  cases u with
  | non=>unfold ReV at q;cases q
  | dct _ _=>unfold ReV at q;exact q.elim
  | ob _ _ _=>unfold ReV at q;exact q.elim
  | bl _=>unfold ReV at q;cases q
  | int _=>unfold ReV at q;obtain⟨_,e⟩:=q;cases e
  | str _=>unfold ReV at q;obtain⟨_,e⟩:=q;cases e
  | tup m=>
   unfold ReV at q;obtain⟨a',its',e,h1',h2'⟩:=q;injection e with e;subst e
   have:=gV h1 h1';subst this;unfold bU
   exact ReVs.refl h2 h2'
  | lst m=>unfold ReV at q;obtain⟨a',its',e,h1',h2'⟩:=q;injection e with e;subst e;exact absurd rfl (ne_of_list_tuple h1' h1)
  | scr m=>unfold ReV at q;obtain⟨a',its',e,h1',h2'⟩:=q;injection e with e;subst e;exact absurd rfl (ne_of_list_tuple h1' h1)
 | .lst l,u,v,r,q=>by
  unfold ReV at r;obtain⟨a,its,rfl,h1,h2⟩:=r
  cases u with
  | non=>unfold ReV at q;cases q
  | dct _ _=>unfold ReV at q;exact q.elim
  | ob _ _ _=>unfold ReV at q;exact q.elim
  | bl _=>unfold ReV at q;cases q
  | int _=>unfold ReV at q;obtain⟨_,e⟩:=q;cases e
  | str _=>unfold ReV at q;obtain⟨_,e⟩:=q;cases e
  | lst m=>
   unfold ReV at q;obtain⟨a',its',e,h1',h2'⟩:=q;injection e with e;subst e
   have:=cA h1 h1';subst this;unfold bU
   exact ReVs.refl h2 h2'
  | tup m=>unfold ReV at q;obtain⟨a',its',e,h1',h2'⟩:=q;injection e with e;subst e;exact absurd rfl (ne_of_list_tuple h1 h1')
  | scr m=>
   unfold ReV at q;obtain⟨a',its',e,h1',h2'⟩:=q;injection e with e;subst e
   have:=cA h1 h1';subst this;unfold bU
   exact ReVs.refl h2 (dI h2')
 | .scr l,u,v,r,q=>by
  unfold ReV at r;obtain⟨a,its,rfl,h1,h2⟩:=r
  cases u with
  | non=>unfold ReV at q;cases q
  | dct _ _=>unfold ReV at q;exact q.elim
  | ob _ _ _=>unfold ReV at q;exact q.elim
  | bl _=>unfold ReV at q;cases q
  | int _=>unfold ReV at q;obtain⟨_,e⟩:=q;cases e
  | str _=>unfold ReV at q;obtain⟨_,e⟩:=q;cases e
  | lst m=>
   unfold ReV at q;obtain⟨a',its',e,h1',h2'⟩:=q;injection e with e;subst e
   have:=cA h1 h1';subst this;unfold bU
   exact l6 h2 h2'
  | tup m=>unfold ReV at q;obtain⟨a',its',e,h1',h2'⟩:=q;injection e with e;subst e;exact absurd rfl (ne_of_list_tuple h1 h1')
  | scr m=>
   unfold ReV at q;obtain⟨a',its',e,h1',h2'⟩:=q;injection e with e;subst e
   have:=cA h1 h1';subst this;unfold bU
   have:=gX h2 h2'
   simp[this]
 | .dct _ _,u,v,r,q=>by unfold ReV at r;exact r.elim
 | .ob _ _ _,u,v,r,q=>by unfold ReV at r;exact r.elim
theorem ReVs.refl {s:Hr}:∀{l m:List T} {us:List Hs},ReVs s l us->ReVs s m us->beqTs l m=true
 | [],m,us,r,q=>by
  cases ReVs.Do.mp r
  cases m with
  | nil=>simp[beqTs]
  | cons _ _=>obtain⟨_,_,e,_⟩:=ReVs.AC.mp q;cases e
 | t::l,m,us,r,q=>by
  obtain⟨v,ws,rfl,p,z⟩:=ReVs.AC.mp r
  cases m with
  | nil=>cases ReVs.Do.mp q
  | cons u m=>
   obtain⟨v',ws',e,p',z'⟩:=ReVs.AC.mp q;injection e with e1 e2
   subst e1 e2;rw[beqTs,ReV.refl p p',ReVs.refl z z'];rfl
end
theorem rg:∀(l:List Int) (m:List T),iY l m=beqTs (l.map T.int) m
 | [],[] =>by simp[iY,beqTs]
 | [],_::_=>by simp[iY,beqTs]
 | _::_,[] =>by simp[iY,beqTs]
 | i::l,t::m=>by
  rw[iY,HN,beqTs,rg l m]
  congr 1
  cases t <;> simp[A0,bU]
theorem ti:∀(l m:List Int),(l == m)=beqTs (l.map T.int) (m.map T.int)
 | [],[] =>by simp[beqTs]
 | [],_::_=>by simp[beqTs]
 | _::_,[] =>by simp[beqTs]
 | i::l,t::m=>by
  rw[HN,HN,beqTs,<-ti l m];simp[bU]
theorem dP:∀(l:List Int),deps (l.map T.int)=0
 | [] =>rfl
 | i::l=>by rw[HN,deps,dP l];simp[T.dep]
def iw:T->T->Prop
 | .tup _,.tup _=>False
 | .lst _,.lst _=>False
 | .lst _,.scr _=>False
 | .scr _,.lst _=>False
 | .scr _,.scr _=>False
 | _,_=>True
theorem qS (A:Iw)(s:Hr)(x y:T)(u v:Hs)(hn:iw x y)(hu:A.units<cLine)(rx:ReV s x u)(ry:ReV s y v):EqAt A s u v (bU x y)/\RcAt A s u v (bU x y)/\RcNeAt A s u v (!bU x y):=by
 match x,y,hn,rx,ry with
 | .dct _ _,_,_,rx,_=>exact(by unfold ReV at rx;exact rx:False).elim
 | .ob _ _ _,_,_,rx,_=>exact(by unfold ReV at rx;exact rx:False).elim
 | _,.dct _ _,_,_,ry=>exact(by unfold ReV at ry;exact ry:False).elim
 | _,.ob _ _ _,_,_,ry=>exact(by unfold ReV at ry;exact ry:False).elim
 | .non,.non,hn,rx,ry=>
  obtain rfl:u=Ig:=by unfold ReV at rx;exact rx
  obtain rfl:v=Ig:=by unfold ReV at ry;exact ry
  exact⟨EqAt.same _,RcAt.none_none ,RcNeAt.none_none ⟩
 | .non,.bl b2,hn,rx,ry=>
  obtain rfl:u=Ig:=by unfold ReV at rx;exact rx
  obtain rfl:v=Js b2:=by unfold ReV at ry;exact ry
  exact⟨EqAt.none_bool b2,RcAt.none_bool b2,RcNeAt.none_bool b2⟩
 | .non,.int i2,hn,rx,ry=>
  obtain rfl:u=Ig:=by unfold ReV at rx;exact rx
  obtain⟨k2,rfl⟩:∃k,v=Jk i2 k:=by unfold ReV at ry;exact ry
  exact⟨EqAt.none_int i2 k2,RcAt.none_int i2 k2,RcNeAt.none_int i2 k2⟩
 | .non,.str x2,hn,rx,ry=>
  obtain rfl:u=Ig:=by unfold ReV at rx;exact rx
  obtain⟨k2,rfl⟩:∃k,v=Jy x2 k:=by unfold ReV at ry;exact ry
  exact⟨EqAt.none_str x2 k2,RcAt.none_str x2 k2,RcNeAt.none_str x2 k2⟩
 | .non,.tup l2,hn,rx,ry=>
  obtain rfl:u=Ig:=by unfold ReV at rx;exact rx
  unfold ReV at ry;obtain⟨a2,us2,rfl,h2,q2⟩:=ry
  exact⟨EqAt.none_tuple h2 hu,RcAt.none_tuple h2 hu,RcNeAt.none_tuple h2 hu⟩
 | .non,.lst l2,hn,rx,ry=>
  obtain rfl:u=Ig:=by unfold ReV at rx;exact rx
  unfold ReV at ry;obtain⟨a2,us2,rfl,h2,q2⟩:=ry
  exact⟨EqAt.none_list h2 hu,RcAt.none_list h2 hu,RcNeAt.none_list h2 hu⟩
 | .non,.scr l2,hn,rx,ry=>
  obtain rfl:u=Ig:=by unfold ReV at rx;exact rx
  unfold ReV at ry;obtain⟨a2,us2,rfl,h2,q2⟩:=ry
  exact⟨EqAt.none_list h2 hu,RcAt.none_list h2 hu,RcNeAt.none_list h2 hu⟩
 | .bl b1,.non,hn,rx,ry=>
  obtain rfl:u=Js b1:=by unfold ReV at rx;exact rx
  obtain rfl:v=Ig:=by unfold ReV at ry;exact ry
  exact⟨EqAt.bool_none b1,RcAt.bool_none b1,RcNeAt.bool_none b1⟩
 | .bl b1,.bl b2,hn,rx,ry=>
  obtain rfl:u=Js b1:=by unfold ReV at rx;exact rx
  obtain rfl:v=Js b2:=by unfold ReV at ry;exact ry
  exact⟨EqAt.bool_bool b1 b2,RcAt.bool_bool b1 b2,RcNeAt.bool_bool b1 b2⟩
 | .bl b1,.int i2,hn,rx,ry=>
  obtain rfl:u=Js b1:=by unfold ReV at rx;exact rx
  obtain⟨k2,rfl⟩:∃k,v=Jk i2 k:=by unfold ReV at ry;exact ry
  exact⟨EqAt.bool_int b1 i2 k2,RcAt.bool_int b1 i2 k2,RcNeAt.bool_int b1 i2 k2⟩
 | .bl b1,.str x2,hn,rx,ry=>
  obtain rfl:u=Js b1:=by unfold ReV at rx;exact rx
  obtain⟨k2,rfl⟩:∃k,v=Jy x2 k:=by unfold ReV at ry;exact ry
  exact⟨EqAt.bool_str b1 x2 k2,RcAt.bool_str b1 x2 k2,RcNeAt.bool_str b1 x2 k2⟩
 | .bl b1,.tup l2,hn,rx,ry=>
  obtain rfl:u=Js b1:=by unfold ReV at rx;exact rx
  unfold ReV at ry;obtain⟨a2,us2,rfl,h2,q2⟩:=ry
  exact⟨EqAt.bool_tuple b1 h2 hu,RcAt.bool_tuple b1 h2 hu,RcNeAt.bool_tuple b1 h2 hu⟩
 | .bl b1,.lst l2,hn,rx,ry=>
  obtain rfl:u=Js b1:=by unfold ReV at rx;exact rx
  unfold ReV at ry;obtain⟨a2,us2,rfl,h2,q2⟩:=ry
  exact⟨EqAt.bool_list b1 h2 hu,RcAt.bool_list b1 h2 hu,RcNeAt.bool_list b1 h2 hu⟩
 | .bl b1,.scr l2,hn,rx,ry=>
  obtain rfl:u=Js b1:=by unfold ReV at rx;exact rx
  unfold ReV at ry;obtain⟨a2,us2,rfl,h2,q2⟩:=ry
  exact⟨EqAt.bool_list b1 h2 hu,RcAt.bool_list b1 h2 hu,RcNeAt.bool_list b1 h2 hu⟩
 | .int i1,.non,hn,rx,ry=>
  obtain⟨k1,rfl⟩:∃k,u=Jk i1 k:=by unfold ReV at rx;exact rx
  obtain rfl:v=Ig:=by unfold ReV at ry;exact ry
  exact⟨EqAt.int_none i1 k1,RcAt.int_none i1 k1,RcNeAt.int_none i1 k1⟩
 | .int i1,.bl b2,hn,rx,ry=>
  obtain⟨k1,rfl⟩:∃k,u=Jk i1 k:=by unfold ReV at rx;exact rx
  obtain rfl:v=Js b2:=by unfold ReV at ry;exact ry
  exact⟨EqAt.int_bool i1 k1 b2,RcAt.int_bool i1 k1 b2,RcNeAt.int_bool i1 k1 b2⟩
 | .int i1,.int i2,hn,rx,ry=>
  obtain⟨k1,rfl⟩:∃k,u=Jk i1 k:=by unfold ReV at rx;exact rx
  obtain⟨k2,rfl⟩:∃k,v=Jk i2 k:=by unfold ReV at ry;exact ry
  exact⟨EqAt.int_int i1 k1 i2 k2,RcAt.int_int i1 k1 i2 k2,RcNeAt.int_int i1 k1 i2 k2⟩
 | .int i1,.str x2,hn,rx,ry=>
  obtain⟨k1,rfl⟩:∃k,u=Jk i1 k:=by unfold ReV at rx;exact rx
  obtain⟨k2,rfl⟩:∃k,v=Jy x2 k:=by unfold ReV at ry;exact ry
  exact⟨EqAt.int_str i1 k1 x2 k2,RcAt.int_str i1 k1 x2 k2,RcNeAt.int_str i1 k1 x2 k2⟩
 | .int i1,.tup l2,hn,rx,ry=>
  obtain⟨k1,rfl⟩:∃k,u=Jk i1 k:=by unfold ReV at rx;exact rx
  unfold ReV at ry;obtain⟨a2,us2,rfl,h2,q2⟩:=ry
  exact⟨EqAt.int_tuple i1 k1 h2 hu,RcAt.int_tuple i1 k1 h2 hu,RcNeAt.int_tuple i1 k1 h2 hu⟩
 | .int i1,.lst l2,hn,rx,ry=>
  obtain⟨k1,rfl⟩:∃k,u=Jk i1 k:=by unfold ReV at rx;exact rx
  unfold ReV at ry;obtain⟨a2,us2,rfl,h2,q2⟩:=ry
  exact⟨EqAt.int_list i1 k1 h2 hu,RcAt.int_list i1 k1 h2 hu,RcNeAt.int_list i1 k1 h2 hu⟩
 | .int i1,.scr l2,hn,rx,ry=>
  obtain⟨k1,rfl⟩:∃k,u=Jk i1 k:=by unfold ReV at rx;exact rx
  unfold ReV at ry;obtain⟨a2,us2,rfl,h2,q2⟩:=ry
  exact⟨EqAt.int_list i1 k1 h2 hu,RcAt.int_list i1 k1 h2 hu,RcNeAt.int_list i1 k1 h2 hu⟩
 | .str x1,.non,hn,rx,ry=>
  obtain⟨k1,rfl⟩:∃k,u=Jy x1 k:=by unfold ReV at rx;exact rx
  obtain rfl:v=Ig:=by unfold ReV at ry;exact ry
  exact⟨EqAt.str_none x1 k1,RcAt.str_none x1 k1,RcNeAt.str_none x1 k1⟩
 | .str x1,.bl b2,hn,rx,ry=>
  obtain⟨k1,rfl⟩:∃k,u=Jy x1 k:=by unfold ReV at rx;exact rx
  obtain rfl:v=Js b2:=by unfold ReV at ry;exact ry
  exact⟨EqAt.str_bool x1 k1 b2,RcAt.str_bool x1 k1 b2,RcNeAt.str_bool x1 k1 b2⟩
 | .str x1,.int i2,hn,rx,ry=>
  obtain⟨k1,rfl⟩:∃k,u=Jy x1 k:=by unfold ReV at rx;exact rx
  obtain⟨k2,rfl⟩:∃k,v=Jk i2 k:=by unfold ReV at ry;exact ry
  exact⟨EqAt.str_int x1 k1 i2 k2,RcAt.str_int x1 k1 i2 k2,RcNeAt.str_int x1 k1 i2 k2⟩
 | .str x1,.str x2,hn,rx,ry=>
  obtain⟨k1,rfl⟩:∃k,u=Jy x1 k:=by unfold ReV at rx;exact rx
  obtain⟨k2,rfl⟩:∃k,v=Jy x2 k:=by unfold ReV at ry;exact ry
  exact⟨EqAt.str_str x1 k1 x2 k2,RcAt.str_str x1 k1 x2 k2,RcNeAt.str_str x1 k1 x2 k2⟩
 | .str x1,.tup l2,hn,rx,ry=>
  obtain⟨k1,rfl⟩:∃k,u=Jy x1 k:=by unfold ReV at rx;exact rx
  unfold ReV at ry;obtain⟨a2,us2,rfl,h2,q2⟩:=ry
  exact⟨EqAt.str_tuple x1 k1 h2 hu,RcAt.str_tuple x1 k1 h2 hu,RcNeAt.str_tuple x1 k1 h2 hu⟩
 | .str x1,.lst l2,hn,rx,ry=>
  obtain⟨k1,rfl⟩:∃k,u=Jy x1 k:=by unfold ReV at rx;exact rx
  unfold ReV at ry;obtain⟨a2,us2,rfl,h2,q2⟩:=ry
  exact⟨EqAt.str_list x1 k1 h2 hu,RcAt.str_list x1 k1 h2 hu,RcNeAt.str_list x1 k1 h2 hu⟩
 | .str x1,.scr l2,hn,rx,ry=>
  obtain⟨k1,rfl⟩:∃k,u=Jy x1 k:=by unfold ReV at rx;exact rx
  unfold ReV at ry;obtain⟨a2,us2,rfl,h2,q2⟩:=ry
  exact⟨EqAt.str_list x1 k1 h2 hu,RcAt.str_list x1 k1 h2 hu,RcNeAt.str_list x1 k1 h2 hu⟩
 | .tup l1,.non,hn,rx,ry=>
  unfold ReV at rx;obtain⟨a1,us1,rfl,h1,q1⟩:=rx;obtain rfl:v=Ig:=by unfold ReV at ry;exact ry
  exact⟨EqAt.tuple_none h1 hu,RcAt.tuple_none h1 hu,RcNeAt.tuple_none h1 hu⟩
 | .tup l1,.bl b2,hn,rx,ry=>
  unfold ReV at rx;obtain⟨a1,us1,rfl,h1,q1⟩:=rx;obtain rfl:v=Js b2:=by unfold ReV at ry;exact ry
  exact⟨EqAt.tuple_bool b2 h1 hu,RcAt.tuple_bool b2 h1 hu,RcNeAt.tuple_bool b2 h1 hu⟩
 | .tup l1,.int i2,hn,rx,ry=>
  unfold ReV at rx;obtain⟨a1,us1,rfl,h1,q1⟩:=rx;obtain⟨k2,rfl⟩:∃k,v=Jk i2 k:=by unfold ReV at ry;exact ry
  exact⟨EqAt.tuple_int i2 k2 h1 hu,RcAt.tuple_int i2 k2 h1 hu,RcNeAt.tuple_int i2 k2 h1 hu⟩
 | .tup l1,.str x2,hn,rx,ry=>
  unfold ReV at rx;obtain⟨a1,us1,rfl,h1,q1⟩:=rx;obtain⟨k2,rfl⟩:∃k,v=Jy x2 k:=by unfold ReV at ry;exact ry
  exact⟨EqAt.tuple_str x2 k2 h1 hu,RcAt.tuple_str x2 k2 h1 hu,RcNeAt.tuple_str x2 k2 h1 hu⟩
 | .tup _,.tup _,hn,_,_=>exact hn.elim
 | .tup l1,.lst l2,hn,rx,ry=>
  unfold ReV at rx;obtain⟨a1,us1,rfl,h1,q1⟩:=rx;unfold ReV at ry;obtain⟨a2,us2,rfl,h2,q2⟩:=ry
  exact⟨EqAt.tuple_list h1 h2 hu,RcAt.tuple_list h1 h2 hu,RcNeAt.tuple_list h1 h2 hu⟩
 | .tup l1,.scr l2,hn,rx,ry=>
  unfold ReV at rx;obtain⟨a1,us1,rfl,h1,q1⟩:=rx;unfold ReV at ry;obtain⟨a2,us2,rfl,h2,q2⟩:=ry
  exact⟨EqAt.tuple_list h1 h2 hu,RcAt.tuple_list h1 h2 hu,RcNeAt.tuple_list h1 h2 hu⟩
 | .lst l1,.non,hn,rx,ry=>
  unfold ReV at rx;obtain⟨a1,us1,rfl,h1,q1⟩:=rx;obtain rfl:v=Ig:=by unfold ReV at ry;exact ry
  exact⟨EqAt.list_none h1 hu,RcAt.list_none h1 hu,RcNeAt.list_none h1 hu⟩
 | .lst l1,.bl b2,hn,rx,ry=>
  unfold ReV at rx;obtain⟨a1,us1,rfl,h1,q1⟩:=rx;obtain rfl:v=Js b2:=by unfold ReV at ry;exact ry
  exact⟨EqAt.list_bool b2 h1 hu,RcAt.list_bool b2 h1 hu,RcNeAt.list_bool b2 h1 hu⟩
 | .lst l1,.int i2,hn,rx,ry=>
  unfold ReV at rx;obtain⟨a1,us1,rfl,h1,q1⟩:=rx;obtain⟨k2,rfl⟩:∃k,v=Jk i2 k:=by unfold ReV at ry;exact ry
  exact⟨EqAt.list_int i2 k2 h1 hu,RcAt.list_int i2 k2 h1 hu,RcNeAt.list_int i2 k2 h1 hu⟩
 | .lst l1,.str x2,hn,rx,ry=>
  unfold ReV at rx;obtain⟨a1,us1,rfl,h1,q1⟩:=rx;obtain⟨k2,rfl⟩:∃k,v=Jy x2 k:=by unfold ReV at ry;exact ry
  exact⟨EqAt.list_str x2 k2 h1 hu,RcAt.list_str x2 k2 h1 hu,RcNeAt.list_str x2 k2 h1 hu⟩
 | .lst l1,.tup l2,hn,rx,ry=>
  unfold ReV at rx;obtain⟨a1,us1,rfl,h1,q1⟩:=rx;unfold ReV at ry;obtain⟨a2,us2,rfl,h2,q2⟩:=ry
  exact⟨EqAt.list_tuple h1 h2 hu,RcAt.list_tuple h1 h2 hu,RcNeAt.list_tuple h1 h2 hu⟩
 | .lst _,.lst _,hn,_,_=>exact hn.elim
 | .lst _,.scr _,hn,_,_=>exact hn.elim
 | .scr l1,.non,hn,rx,ry=>
  unfold ReV at rx;obtain⟨a1,us1,rfl,h1,q1⟩:=rx;obtain rfl:v=Ig:=by unfold ReV at ry;exact ry
  exact⟨EqAt.list_none h1 hu,RcAt.list_none h1 hu,RcNeAt.list_none h1 hu⟩
 | .scr l1,.bl b2,hn,rx,ry=>
  unfold ReV at rx;obtain⟨a1,us1,rfl,h1,q1⟩:=rx;obtain rfl:v=Js b2:=by unfold ReV at ry;exact ry
  exact⟨EqAt.list_bool b2 h1 hu,RcAt.list_bool b2 h1 hu,RcNeAt.list_bool b2 h1 hu⟩
 | .scr l1,.int i2,hn,rx,ry=>
  unfold ReV at rx;obtain⟨a1,us1,rfl,h1,q1⟩:=rx;obtain⟨k2,rfl⟩:∃k,v=Jk i2 k:=by unfold ReV at ry;exact ry
  exact⟨EqAt.list_int i2 k2 h1 hu,RcAt.list_int i2 k2 h1 hu,RcNeAt.list_int i2 k2 h1 hu⟩
 | .scr l1,.str x2,hn,rx,ry=>
  unfold ReV at rx;obtain⟨a1,us1,rfl,h1,q1⟩:=rx;obtain⟨k2,rfl⟩:∃k,v=Jy x2 k:=by unfold ReV at ry;exact ry
  exact⟨EqAt.list_str x2 k2 h1 hu,RcAt.list_str x2 k2 h1 hu,RcNeAt.list_str x2 k2 h1 hu⟩
 | .scr l1,.tup l2,hn,rx,ry=>
  unfold ReV at rx;obtain⟨a1,us1,rfl,h1,q1⟩:=rx;unfold ReV at ry;obtain⟨a2,us2,rfl,h2,q2⟩:=ry
  exact⟨EqAt.list_tuple h1 h2 hu,RcAt.list_tuple h1 h2 hu,RcNeAt.list_tuple h1 h2 hu⟩
 | .scr _,.lst _,hn,_,_=>exact hn.elim
 | .scr _,.scr _,hn,_,_=>exact hn.elim
theorem Ga:∀(n:Nat) (A:Iw) (s:Hr) (x y:T) (u v:Hs),(x.dep<=n\/y.dep<=n)->A.units+n<cLine->ReV s x u->ReV s y v->EqAt A s u v (bU x y)/\RcAt A s u v (bU x y)/\RcNeAt A s u v (!bU x y):=by
 intro n
 induction n with
 | zero=>
  intro A s x y u v hd hu rx ry
  exact qS A s x y u v (by cases x <;> cases y <;> simp_all [iw,T.dep]) (by omega) rx ry
 | succ n ih=>
  intro A s x y u v hd hu rx ry
  have hin:A.in1.units+n<cLine:=by show A.units+1+n<cLine;omega
  have items:∀(l m:List T) (us vs:List Hs),(deps l<=n\/deps m<=n)->ReVs s l us->ReVs s m vs->∃e:Nat->Bool,(∀j (h1:j<us.toArray.size) (h2:j<vs.toArray.size),EqAt A.in1 s us.toArray[j] vs.toArray[j] (e j)) ∧
    (∀(j:Nat) t u,l[j]? =some t->m[j]? =some u->e j=bU t u):=λl m us vs hd r1 r2=>by
   refine⟨λj=>bU (l.getD j .non) (m.getD j .non),λj h1 h2=> ?_,λj t u e1 e2=>by simp[Ov,e1,e2]⟩
   have l1:=r1.length
   have l2:=r2.length
   have h1':j<l.length:=by rw[l1];simpa using h1
   have h2':j<m.length:=by rw[l2];simpa using h2
   have e1:l[j]? =some l[j]:=by simp
   have e2:m[j]? =some m[j]:=by simp
   obtain⟨u1,z1,w1⟩:=r1.get e1;obtain⟨u2,z2,w2⟩:=r2.get e2
   have q1:us.toArray[j] =u1:=by
    have:us[j]? =some us.toArray[j]:=by simp
    rw[z1]at this;exact(Ik this).symm
   have q2:vs.toArray[j] =u2:=by
    have:vs[j]? =some vs.toArray[j]:=by simp
    rw[z2]at this;exact(Ik this).symm
   rw[q1,q2]
   have g1:l.getD j .non=l[j]:=by simp[Ov,e1]
   have g2:m.getD j .non=m[j]:=by simp[Ov,e2]
   show EqAt A.in1 s u1 u2 (bU (l.getD j .non) (m.getD j .non))
   rw[g1,g2];refine(ih A.in1 s l[j] m[j] u1 u2 ?_ hin w1 w2).1
   rcases hd with hd | hd
   ·exact .inl (H0 (lX e1) hd)
   ·exact .inr (H0 (lX e2) hd)
  have lists:∀(l m:List T) (a b:Addr) (us vs:List Hs),(deps l<=n\/deps m<=n)->ReVs s l us->ReVs s m vs->s.heap.IsList a us.toArray->s.heap.IsList b vs.toArray →
    EqAt A s (.ref a) (.ref b) (beqTs l m)/\RcAt A s (.ref a) (.ref b) (beqTs l m)/\RcNeAt A s (.ref a) (.ref b) (!beqTs l m):=λl m a b us vs hd r1 r2 h1 h2=>by
   have l1:=r1.length
   have l2:=r2.length
   have key:RcAt A s (.ref a) (.ref b) (beqTs l m)/\RcNeAt A s (.ref a) (.ref b) (!beqTs l m):=by
    by_cases hl:l.length=m.length
    ·obtain⟨e,he,hb⟩:=items l m us vs hd r1 r2
     have q:=j5 l m e hb
     have q2:beqTs l m=(Iy us.toArray.size).all e:=by
      rw[q,hl,Nat.min_self];simp[l2.symm,hl.symm,l1]
     rw[q2]
     have hsz:us.toArray.size=vs.toArray.size:=by simp;omega
     exact⟨RcAt.lists h1 h2 hsz (by omega) he,RcNeAt.lists h1 h2 hsz (by omega) he⟩
    ·rw[nK hl]
     have hsz:(us.toArray.size != vs.toArray.size)=true:=by simp;omega
     exact⟨RcAt.lists_lengths h1 h2 hsz (by omega),RcNeAt.lists_lengths h1 h2 hsz (by omega)⟩
   refine⟨?_,key⟩
   by_cases hab:a=b
   ·subst hab
    have:=cA h1 h2;subst this;rw[ReVs.refl r1 r2];exact EqAt.same _
   ·exact EqAt.of_refs hab key.1
  cases x with
  | tup l=>
   cases y with
   | tup m=>
    unfold ReV at rx ry;obtain⟨a,us,rfl,h1,r1⟩:=rx;obtain⟨b,vs,rfl,h2,r2⟩:=ry
    have hd':deps l<=n\/deps m<=n:=by
     simp only[T.dep]at hd;omega
    have l1:=r1.length
    have l2:=r2.length;obtain⟨e,he,hb⟩:=items l m us vs hd' r1 r2
    have q:=j5 l m e hb
    have q2:beqTs l m=((Iy (min us.toArray.size vs.toArray.size)).all e&&us.toArray.size == vs.toArray.size):=by
     rw[q];simp[l1,l2]
    have key:RcAt A s (.ref a) (.ref b) (beqTs l m)/\RcNeAt A s (.ref a) (.ref b) (!beqTs l m):=by
     rw[q2];exact⟨RcAt.tuples h1 h2 (by omega) he,RcNeAt.tuples h1 h2 (by omega) he⟩
    unfold bU;refine⟨?_,key⟩
    by_cases hab:a=b
    ·subst hab
     have:=gV h1 h2;subst this;rw[ReVs.refl r1 r2];exact EqAt.same _
    ·exact EqAt.of_refs hab key.1
   | _=>exact qS A s _ _ u v (by simp[iw]) (by omega) rx ry
  | lst l=>
   cases y with
   | lst m=>
    unfold ReV at rx ry;obtain⟨a,us,rfl,h1,r1⟩:=rx;obtain⟨b,vs,rfl,h2,r2⟩:=ry;unfold bU
    exact lists l m a b us vs (by simp only[T.dep]at hd;omega) r1 r2 h1 h2
   | scr m=>
    unfold ReV at rx ry;obtain⟨a,us,rfl,h1,r1⟩:=rx;obtain⟨b,vs,rfl,h2,r2⟩:=ry;unfold bU
    exact lists l (m.map T.int) a b us vs (by rw[dP];omega) r1 (dI r2) h1 h2
   | _=>exact qS A s _ _ u v (by simp[iw]) (by omega) rx ry
  | scr l=>
   cases y with
   | lst m=>
    unfold ReV at rx ry;obtain⟨a,us,rfl,h1,r1⟩:=rx;obtain⟨b,vs,rfl,h2,r2⟩:=ry;unfold bU;rw[rg]
    exact lists (l.map T.int) m a b us vs (by rw[dP];omega) (dI r1) r2 h1 h2
   | scr m=>
    unfold ReV at rx ry;obtain⟨a,us,rfl,h1,r1⟩:=rx;obtain⟨b,vs,rfl,h2,r2⟩:=ry;unfold bU;rw[ti]
    exact lists (l.map T.int) (m.map T.int) a b us vs (by rw[dP];omega) (dI r1) (dI r2) h1 h2
   | _=>exact qS A s _ _ u v (by simp[iw]) (by omega) rx ry
  | _=>exact qS A s _ _ u v (by simp[iw]) (by omega) rx ry
mutual
def T.nf:T->T
 | .tup l=> .tup (nfs l)
 | .lst l=> .lst (nfs l)
 | .scr l=> .lst (l.map .int)
 | .non=> .non
 | .bl b=> .bl b
 | .int b=> .int b
 | .str b=> .str b
 | .dct a b=> .dct a b
 | .ob a b c=> .ob a b c
def nfs:List T->List T
 | [] => []
 | t::l=>t.nf::nfs l
end
theorem qH:∀(l:List Int),nfs (l.map T.int)=l.map T.int
 | [] =>rfl
 | i::l=>by rw[HN,nfs,qH l];simp[T.nf]
theorem Dt {s:Hr}{t:T}{i:Int}{k:Tok}(r:ReV s t (.int i k)):t.nf= .int i:=by
 cases t with
 | non=>unfold ReV at r;cases r
 | bl b=>unfold ReV at r;cases r
 | int j=>unfold ReV at r;obtain⟨t,e⟩:=r;injection e with e1 _;subst e1;rfl
 | str x=>unfold ReV at r;obtain⟨t,e⟩:=r;cases e
 | tup l=>unfold ReV at r;obtain⟨a,its,e,_⟩:=r;cases e
 | lst l=>unfold ReV at r;obtain⟨a,its,e,_⟩:=r;cases e
 | scr l=>unfold ReV at r;obtain⟨a,its,e,_⟩:=r;cases e
 | dct _ _=>unfold ReV at r;exact r.elim
 | ob _ _ _=>unfold ReV at r;exact r.elim
theorem tY {s:Hr}:∀{l:List T} {us:List Hs} {ns:List Int},ReVs s l us->Lu us ns->nfs l=ns.map T.int
 | [],us,ns,r,h=>by cases ReVs.Do.mp r;cases h;rfl
 | t::l,us,ns,r,h=>by
  obtain⟨u,ws,rfl,p,q⟩:=ReVs.AC.mp r
  cases h with
  | cons a b hh=>rw[nfs,Dt p,tY q hh];rfl
mutual
theorem ReV.nf {s:Hr}:∀{t u:T} {v:Hs},ReV s t v->ReV s u v->t.nf=u.nf
 | .non,u,v,r,q=>by
  unfold ReV at r;subst r
  cases u <;> (unfold ReV at q) <;> first | rfl | (cases q;done) | (obtain⟨_,e⟩:=q;cases e;done) | (obtain⟨_,_,e,_⟩:=q;cases e;done)
 | .bl b,u,v,r,q=>by
  unfold ReV at r;subst r
  cases u <;> (unfold ReV at q) <;> first | (cases q;done) | (cases q;rfl) | (obtain⟨_,e⟩:=q;cases e;done) | (obtain⟨_,_,e,_⟩:=q;cases e;done)
 | .int b,u,v,r,q=>by
  unfold ReV at r;obtain⟨k,rfl⟩:=r
  cases u <;> (unfold ReV at q) <;> first | (cases q;done) | (obtain⟨_,e⟩:=q;cases e;done) | (obtain⟨_,e⟩:=q;cases e;rfl) | (obtain⟨_,_,e,_⟩:=q;cases e;done)
 | .str b,u,v,r,q=>by
  unfold ReV at r;obtain⟨k,rfl⟩:=r
  cases u <;> (unfold ReV at q) <;> first | (cases q;done) | (obtain⟨_,e⟩:=q;cases e;done) | (obtain⟨_,e⟩:=q;cases e;rfl) | (obtain⟨_,_,e,_⟩:=q;cases e;done)
 | .tup l,u,v,r,q=>by
  unfold ReV at r;obtain⟨a,its,rfl,h1,h2⟩:=r
  cases u with
  | non=>unfold ReV at q;cases q
  | dct _ _=>unfold ReV at q;exact q.elim
  | ob _ _ _=>unfold ReV at q;exact q.elim
  | bl _=>unfold ReV at q;cases q
  | int _=>unfold ReV at q;obtain⟨_,e⟩:=q;cases e
  | str _=>unfold ReV at q;obtain⟨_,e⟩:=q;cases e
  | tup m=>
   unfold ReV at q;obtain⟨a',its',e,h1',h2'⟩:=q;injection e with e;subst e
   have:=gV h1 h1';subst this;unfold T.nf
   rw[ReVs.nf h2 h2']
  | lst m=>unfold ReV at q;obtain⟨a',its',e,h1',h2'⟩:=q;injection e with e;subst e;exact absurd rfl (ne_of_list_tuple h1' h1)
  | scr m=>unfold ReV at q;obtain⟨a',its',e,h1',h2'⟩:=q;injection e with e;subst e;exact absurd rfl (ne_of_list_tuple h1' h1)
 | .lst l,u,v,r,q=>by
  unfold ReV at r;obtain⟨a,its,rfl,h1,h2⟩:=r
  cases u with
  | non=>unfold ReV at q;cases q
  | dct _ _=>unfold ReV at q;exact q.elim
  | ob _ _ _=>unfold ReV at q;exact q.elim
  | bl _=>unfold ReV at q;cases q
  | int _=>unfold ReV at q;obtain⟨_,e⟩:=q;cases e
  | str _=>unfold ReV at q;obtain⟨_,e⟩:=q;cases e
  | lst m=>
   unfold ReV at q;obtain⟨a',its',e,h1',h2'⟩:=q;injection e with e;subst e
   have:=cA h1 h1';subst this;unfold T.nf
   rw[ReVs.nf h2 h2']
  | tup m=>unfold ReV at q;obtain⟨a',its',e,h1',h2'⟩:=q;injection e with e;subst e;exact absurd rfl (ne_of_list_tuple h1 h1')
  | scr m=>
   unfold ReV at q;obtain⟨a',its',e,h1',h2'⟩:=q;injection e with e;subst e
   have:=cA h1 h1';subst this;unfold T.nf
   rw[ReVs.nf h2 (dI h2'),qH]
 | .scr l,u,v,r,q=>by
  unfold ReV at r;obtain⟨a,its,rfl,h1,h2⟩:=r
  cases u with
  | non=>unfold ReV at q;cases q
  | dct _ _=>unfold ReV at q;exact q.elim
  | ob _ _ _=>unfold ReV at q;exact q.elim
  | bl _=>unfold ReV at q;cases q
  | int _=>unfold ReV at q;obtain⟨_,e⟩:=q;cases e
  | str _=>unfold ReV at q;obtain⟨_,e⟩:=q;cases e
  | lst m=>
   unfold ReV at q;obtain⟨a',its',e,h1',h2'⟩:=q;injection e with e;subst e
   have:=cA h1 h1';subst this
   have z:=tY h2' h2;unfold T.nf
   rw[z]
  | tup m=>unfold ReV at q;obtain⟨a',its',e,h1',h2'⟩:=q;injection e with e;subst e;exact absurd rfl (ne_of_list_tuple h1 h1')
  | scr m=>
   unfold ReV at q;obtain⟨a',its',e,h1',h2'⟩:=q;injection e with e;subst e
   have:=cA h1 h1';subst this
   rw[gX h2 h2']
 | .dct _ _,u,v,r,q=>by unfold ReV at r;exact r.elim
 | .ob _ _ _,u,v,r,q=>by unfold ReV at r;exact r.elim
theorem ReVs.nf {s:Hr}:∀{l m:List T} {us:List Hs},ReVs s l us->ReVs s m us->nfs l=nfs m
 | [],m,us,r,q=>by
  cases ReVs.Do.mp r
  cases m with
  | nil=>rfl
  | cons _ _=>obtain⟨_,_,e,_⟩:=ReVs.AC.mp q;cases e
 | t::l,m,us,r,q=>by
  obtain⟨v,ws,rfl,p,z⟩:=ReVs.AC.mp r
  cases m with
  | nil=>cases ReVs.Do.mp q
  | cons u m=>
   obtain⟨v',ws',e,p',z'⟩:=ReVs.AC.mp q;injection e with e1 e2
   subst e1 e2;rw[nfs,nfs,ReV.nf p p',ReVs.nf z z']
end
section
variable {X:Cx}{a b c:Expr}{fa fb fc:En->Rs T}{pos:Pos}
def fA (x y:T):Bool:=(decide (x.dep<=60)||decide (y.dep<=60))&&(x.nd&&y.nd)
def eqT (x y:T):Rs T:=if fA x y=true then .ok (.bl (bU x y))else .bad
def neT (x y:T):Rs T:=if fA x y=true then .ok (.bl (!bU x y))else .bad
theorem eE {x y:T}(h:x.dep<=60)(hx:x.nd=true)(hy:y.nd=true):fA x y=true:=by unfold fA;rw[decide_eq_true h,hx,hy];rfl
theorem qQ {x y:T}(h:y.dep<=60)(hx:x.nd=true)(hy:y.nd=true):fA x y=true:=by unfold fA;rw[decide_eq_true h,hx,hy,Nt];rfl
theorem iF {x y:T}(h:fA x y=true):x.nd=true/\y.nd=true:=by
 unfold fA at h;exact IR.mp (IR.mp h).2
theorem ny {x y:T}(h:fA x y=true):x.dep<=60\/y.dep<=60:=by
 unfold fA at h
 replace h:=(IR.mp h).1
 rcases Bool.or_eq_true_iff.mp h with h | h
 ·exact .inl (of_decide_eq_true h)
 ·exact .inr (of_decide_eq_true h)
theorem gC (hu:X.A.units+60<cLine):OpT X (IM .Eq) eqT:=by
 intro pins s σ H O x y vx vy ux uy Q I hf rx ry r1 r2 hp;unfold eqT at hp
 split at hp
 ·rename_i h
  have z:=Ga 60 X.A s x y ux uy (ny h) hu (Rep.val I (iF h).1 rx r1) (Rep.val I (iF h).2 ry r2);exact z.2.1 _ _ _ _ ⟨.bl _,H,I,rfl,hp H (Same.refl H) _ (Rep.bl_ _)⟩
 ·exact hp.elim
theorem qv (hu:X.A.units+60<cLine):OpT X (IM .NotEq) neT:=by
 intro pins s σ H O x y vx vy ux uy Q I hf rx ry r1 r2 hp;unfold neT at hp
 split at hp
 ·rename_i h
  have z:=Ga 60 X.A s x y ux uy (ny h) hu (Rep.val I (iF h).1 rx r1) (Rep.val I (iF h).2 ry r2);exact z.2.2 _ _ _ _ ⟨.bl _,H,I,rfl,hp H (Same.refl H) _ (Rep.bl_ _)⟩
 ·exact hp.elim
def T.items:T->Option (List T)
 | .tup l=>some l
 | .lst l=>some l
 | .scr l=>some (l.map T.int)
 | _=>none
def ch (g g':T->T->Rs T)(fa fb fc:En->Rs T)(ρ:En):Rs T:=do
 let x <-fa ρ
 let y <-fb ρ
 let z <-g x y
 match z with
 | .bl true=>do
  let w <-fc ρ
  g' y w
 | .bl false=> .ok (.bl false)
 | _=> .bad
theorem zA {op op':Pr}{g g':T->T->Rs T}(ho:OpT X (IM op) g)(ho':OpT X (IM op') g')(ha:cx X a fa)(hb:cx X b fb)(hc:cx X c fc)
  (hm:autoParam (Qk [op,op'] [b,c] =false) w_):cx X (.Compare a [op,op'] [b,c] pos) (ch g g' fa fb fc):=by
 intro pins s σ H Q I ⟨ρ,O,E,hq⟩
 have h1:=aK E hq;refine Compare_chain (bK (ha pins s σ H _ I h1) λv s1 ⟨x,H1,I1,r1,t,rt,s',E',q1⟩=>chain_link ?_) hm
 have h2:=aK (f:=fb) E' q1;refine bK (hb pins s1 σ H1 _ I1 h2) λu s2 hh_=> ?_
 obtain⟨y,H2,I2,r2,t2,rt2,s'',E'',q2⟩:=hh_
 refine bK (ho pins s2 σ H2 O t t2 x y v u (λv' H'=> ∃t',Rep X.K O H' t' v'/\Same H2 H'/\Post X H' (match t' with
  | .bl true=>fc ρ >>= λw=>g' t2 w
  | .bl false=> .ok (.bl false)
  | _=> .bad) (λt H'=> ∀v,Rep X.K O H' t v->Q v H')) I2 (λp=>E''.fresh) (rt.same s'') rt2 r1 r2 (Post.mono q2.bind λt' H' s3 q v rv=>⟨t',rv,s3,q⟩)) λd s3 ⟨z,H3,I3,r3,t3,rt3,sm3,q3⟩=> ?_
 have E3:=E''.same sm3
 split at q3
 ·cases Rep.Gc.mp rt3
  cases r3;refine II (ite_tt (chain_last ?_))
  have h4:=aK (f:=fc) E3 q3;refine bK (hc pins s3 σ H3 _ I3 h4) λw' s4 ⟨z',H4,I4,r4,t4,rt4,s4',E4,q4⟩=> ?_
  exact ho' pins s4 σ H4 O t2 t4 y z' u w' Q I4 (λp=>E4.fresh) ((rt2.same sm3).same s4') rt4 r2 r4 q4
 ·cases Rep.Gc.mp rt3
  cases r3;refine II (ite_ff ⟨.bl false,H3,I3,rfl,q3 H3 (Same.refl H3) _ (Rep.bl_ false)⟩)
 ·exact q3.elim
def tb (f:En->Rs T)(ρ:En):Rs Bool:=do
 let x <-f ρ
 match x with
 | .bl k=> .ok k
 | _=> .bad
theorem Cb {e:Expr}{f:En->Rs T}(h:cx X e f)(he:autoParam (∀whole,isTrue e X.env whole=(do let v <-whole;standAt e.pos;holding [v] (truthy v))) t_):uB X e (tb f):=by
 intro pins s σ H Q I ⟨ρ,O,E,hq⟩;refine wZ h he pins s σ H Q I ?_
 obtain⟨ρ1,O1,E1,h1⟩:=aK E hq;refine⟨ρ1,O1,E1,Post.mono h1 λts H1 s1 q vs r=> ?_⟩
 obtain⟨t',r',s',E',q'⟩:=q vs r
 split at q'
 ·exact⟨_,Rep.Gc.mp r',q' H1 (Same.refl H1)⟩
 ·exact q'.elim
theorem Cd {op:Pr}{g:T->T->Rs T}(ho:OpT X (IM op) g)(ha:cx X a fa)(hb:cx X b fb)(hm:autoParam (JU op b=false) u_):uB X (.Compare a [op] [b] pos) (tb (o2 g fa fb)):=by
 intro pins s σ H Q I ⟨ρ,O,E,hq⟩
 have hq':Post X H (o2 g fa fb ρ) λt H'=> ∀v,Rep X.K O H' t v->∃k,v= .bl k/\Q k H':=Post.mono hq.bind λt H' s' q v r=>by
  split at q
  ·exact⟨_,Rep.Gc.mp r,q H' (Same.refl H')⟩
  ·exact q.elim
 have h1:=aK E hq';refine NI (bK (ha pins s σ H _ I h1) λv s1 ⟨x,H1,I1,r1,t,rt,s',E',q1⟩=> ?_) hm
 have h2:=aK (f:=fb) E' q1;refine bK (hb pins s1 σ H1 _ I1 h2) λu s2 hh_=> ?_
 obtain⟨y,H2,I2,r2,t2,rt2,s'',E'',q2⟩:=hh_;refine bK (ho pins s2 σ H2 O t t2 x y v u _ I2 (λp=>E''.fresh) (rt.same s'') rt2 r1 r2 q2) λd s3 hh_=> ?_
 obtain⟨z,H3,I3,r3,k,e,q3⟩:=hh_;subst e;cases r3;exact II ⟨H3,I3,q3⟩
theorem wR {op op':Pr}{g g':T->T->Rs T}(ho:OpT X (IM op) g)(ho':OpT X (IM op') g')(ha:cx X a fa)(hb:cx X b fb)(hc:cx X c fc)
  (hm:autoParam (Qk [op,op'] [b,c] =false) w_):uB X (.Compare a [op,op'] [b,c] pos) (tb (ch g g' fa fb fc)):=by
 intro pins s σ H Q I ⟨ρ,O,E,hq⟩
 have hq':Post X H (ch g g' fa fb fc ρ) λt H'=> ∀v,Rep X.K O H' t v->∃k,v= .bl k/\Q k H':=Post.mono hq.bind λt H' s' q v r=>by
  split at q
  ·exact⟨_,Rep.Gc.mp r,q H' (Same.refl H')⟩
  ·exact q.elim
 have h1:=aK E hq';refine isTrue_chain (bK (ha pins s σ H _ I h1) λv s1 ⟨x,H1,I1,r1,t,rt,s',E',q1⟩=>test_link ?_) hm
 have h2:=aK (f:=fb) E' q1;refine bK (hb pins s1 σ H1 _ I1 h2) λu s2 hh_=> ?_
 obtain⟨y,H2,I2,r2,t2,rt2,s'',E'',q2⟩:=hh_
 refine bK (ho pins s2 σ H2 O t t2 x y v u (λv' H'=> ∃t',Rep X.K O H' t' v'/\Same H2 H'/\Post X H' (match t' with
  | .bl true=>fc ρ >>= λw=>g' t2 w
  | .bl false=> .ok (.bl false)
  | _=> .bad) (λt H'=> ∀v,Rep X.K O H' t v->∃k,v= .bl k/\Q k H')) I2 (λp=>E''.fresh) (rt.same s'') rt2 r1 r2 (Post.mono q2.bind λt' H' s3 q v rv=>⟨t',rv,s3,q⟩)) λd s3 ⟨z,H3,I3,r3,t3,rt3,sm3,q3⟩=> ?_
 have E3:=E''.same sm3
 split at q3
 ·cases Rep.Gc.mp rt3
  cases r3;refine II (ite_tt (test_last ?_))
  have h4:=aK (f:=fc) E3 q3;refine bK (hc pins s3 σ H3 _ I3 h4) λw' s4 ⟨z',H4,I4,r4,t4,rt4,s4',E4,q4⟩=> ?_
  refine bK (ho' pins s4 σ H4 O t2 t4 y z' u w' _ I4 (λp=>E4.fresh) ((rt2.same sm3).same s4') rt4 r2 r4 q4) λd' s5 ⟨z2,H5,I5,r5,k2,e2,q5⟩=> ?_
  subst e2;cases r5;exact II ⟨H5,I5,q5⟩
 ·cases Rep.Gc.mp rt3
  cases r3;obtain⟨k,e,q⟩:=q3 H3 (Same.refl H3) _ (Rep.bl_ false);cases e;exact II (ite_ff ⟨H3,I3,q⟩)
 ·exact q3.elim
def hZ (f g:En->Rs Bool)(ρ:En):Rs Bool:=do
 let k <-f ρ
 if k then g ρ else .ok false
def mj (f g:En->Rs Bool)(ρ:En):Rs Bool:=do
 let k <-f ρ
 if k then .ok true else g ρ
def di (f:En->Rs Bool)(ρ:En):Rs Bool:=do
 let k <-f ρ
 .ok (!k)
variable {f g:En->Rs Bool}{rest:List Expr}
abbrev BG (X:Cx)(e:Expr)(f:En->Rs Bool):Prop:=PW X e (wA X f)
theorem zi (ha:uB X a f):BG X (.BoolOp .And [a] pos) f:=tw ha
theorem B9 (ha:uB X a f):BG X (.BoolOp .Or [a] pos) f:=Cw ha
theorem Ca (ha:uB X a f)(hb:BG X (.BoolOp .And (b::rest) pos) g):BG X (.BoolOp .And (a::b::rest) pos) (hZ f g):=by
 intro wh pins s σ H Q I ⟨ρ,O,E,hq⟩;refine wY ha hb wh pins s σ H Q I ?_
 obtain⟨ρ1,O1,E1,h1⟩:=ju E hq;refine⟨ρ1,O1,E1,Post.mono h1 λk H1 s1 q=> ?_⟩
 obtain⟨s',E',q'⟩:=q
 cases k with
 | true=>rw[if_pos rfl];exact⟨ρ,O,E',by simpa using q'⟩
 | false=>rw[if_neg Iv];exact q' H1 (Same.refl H1)
theorem EZ (ha:uB X a f)(hb:BG X (.BoolOp .Or (b::rest) pos) g):BG X (.BoolOp .Or (a::b::rest) pos) (mj f g):=by
 intro wh pins s σ H Q I ⟨ρ,O,E,hq⟩;refine Fq ha hb wh pins s σ H Q I ?_
 obtain⟨ρ1,O1,E1,h1⟩:=ju E hq;refine⟨ρ1,O1,E1,Post.mono h1 λk H1 s1 q=> ?_⟩
 obtain⟨s',E',q'⟩:=q
 cases k with
 | true=>rw[if_pos rfl];exact q' H1 (Same.refl H1)
 | false=>rw[if_neg Iv];exact⟨ρ,O,E',by simpa using q'⟩
theorem qt_w {e:Expr}(h:BG X e f):uB X e f:=h.pt
theorem Cc (ha:uB X a f):uB X (.UnaryOp .Not a pos) (di f):=by
 intro pins s σ H Q I ⟨ρ,O,E,hq⟩;refine Cy ha pins s σ H Q I ?_
 obtain⟨ρ1,O1,E1,h1⟩:=ju E hq;exact⟨ρ1,O1,E1,Post.mono h1 λk H1 s1 ⟨s',E',q'⟩=>q' H1 (Same.refl H1)⟩
def cE (f g:En->Rs T)(ρ:En):Rs T:=do
 let x <-f ρ
 match x with
 | .bl true=>g ρ
 | .bl false=> .ok (.bl false)
 | _=> .bad
def Fz (f g:En->Rs T)(ρ:En):Rs T:=do
 let x <-f ρ
 match x with
 | .bl true=> .ok (.bl true)
 | .bl false=>g ρ
 | _=> .bad
def z4:T->Rs T
 | .bl k=> .ok (.bl (!k))
 | _=> .bad
theorem Fc {op}(h:cx X a fa):cx X (.BoolOp op [a] pos) fa:=CF h
theorem Fp (ha:cx X a fa)(hb:cx X (.BoolOp .And (b::rest) pos) fb):cx X (.BoolOp .And (a::b::rest) pos) (cE fa fb):=by
 intro pins s σ H Q I ⟨ρ,O,E,hq⟩;refine CH ha hb pins s σ H Q I ?_
 obtain⟨ρ1,O1,E1,h1⟩:=aK E hq;refine⟨ρ1,O1,E1,Post.mono h1 λts H1 s1 q vs r=> ?_⟩
 obtain⟨t',r',s',E',q'⟩:=q vs r
 split at q'
 ·exact⟨true,Rep.Gc.mp r',by rw[if_pos rfl];exact⟨ρ,O,E',q'⟩⟩
 ·exact⟨false,Rep.Gc.mp r',by rw[if_neg Iv];exact q' H1 (Same.refl H1) _ (Rep.bl_ false)⟩
 ·exact q'.elim
theorem q_or (ha:cx X a fa)(hb:cx X (.BoolOp .Or (b::rest) pos) fb):cx X (.BoolOp .Or (a::b::rest) pos) (Fz fa fb):=by
 intro pins s σ H Q I ⟨ρ,O,E,hq⟩;refine Ft ha hb pins s σ H Q I ?_
 obtain⟨ρ1,O1,E1,h1⟩:=aK E hq;refine⟨ρ1,O1,E1,Post.mono h1 λts H1 s1 q vs r=> ?_⟩
 obtain⟨t',r',s',E',q'⟩:=q vs r
 split at q'
 ·exact⟨true,Rep.Gc.mp r',by rw[if_pos rfl];exact q' H1 (Same.refl H1) _ (Rep.bl_ true)⟩
 ·exact⟨false,Rep.Gc.mp r',by rw[if_neg Iv];exact⟨ρ,O,E',q'⟩⟩
 ·exact q'.elim
theorem Fd (ha:cx X a fa):cx X (.UnaryOp .Not a pos) (o1 z4 fa):=by
 intro pins s σ H Q I ⟨ρ,O,E,hq⟩;refine CG ha pins s σ H Q I ?_
 obtain⟨ρ1,O1,E1,h1⟩:=aK E hq;refine⟨ρ1,O1,E1,Post.mono h1 λts H1 s1 q vs r=> ?_⟩
 obtain⟨t',r',s',E',q'⟩:=q vs r;unfold z4 at q'
 split at q'
 ·exact⟨_,Rep.Gc.mp r',q' H1 (Same.refl H1) _ (Rep.bl_ _)⟩
 ·exact q'.elim
def qN (f:En->Rs Bool)(fa fb:En->Rs T)(ρ:En):Rs T:=do
 let k <-f ρ
 if k then fa ρ else fb ρ
theorem q_if (hc:uB X c f)(ha:cx X a fa)(hb:cx X b fb):cx X (.IfExp c a b pos) (qN f fa fb):=by
 intro pins s σ H Q I ⟨ρ,O,E,hq⟩;refine xh hc ha hb pins s σ H Q I ?_
 obtain⟨ρ1,O1,E1,h1⟩:=ju E hq;refine⟨ρ1,O1,E1,Post.mono h1 λk H1 s1 q=> ?_⟩
 obtain⟨s',E',q'⟩:=q
 cases k with
 | true=>rw[if_pos rfl];exact⟨ρ,O,E',by simpa using q'⟩
 | false=>rw[if_neg Iv];exact⟨ρ,O,E',by simpa using q'⟩
end
end Tr
namespace HT
open PySem PyProof.Rows
section
variable {prog:HZ}{w:ID}{A:Iw}{E:Hs->Hr->Prop}{s:Hr}
theorem iN {t:Addr}{items:Array Hs}{Q:Bool->Hr->Prop}(ht:Qs s.heap t items)(h:Q true s):wpAny (model prog w) A (Mg (.ref t)) Q E s:=by
 unfold Mg;refine Hq (LK ht.typeIs (Hy ?_))
 exact h
theorem getItem_tuple_whole {t sl:Addr}{items:Array Hs}{vl vu:Hs}{lo hi:Option Int}{Q:Hs->Hr->Prop}(ht:Qs s.heap t items)(hs:s.heap.IsSliceOf sl vl vu .none)(pl:OU vl lo)(pu:OU vu hi)
  (hw:sIx items.size 0 lo=0/\sIx items.size items.size hi=items.size) (h:Q (.ref t) s):wpAny (model prog w) A (getItem (.ref t) (.ref sl)) Q E s:=by
 obtain⟨os,hos,hcs,hds⟩:=id hs
 have hTs:s.TypeIs (.ref sl) "slice":=⟨os,hos,hcs⟩;unfold getItem
 try with_reducible refine Jd ?_
 first | refine Hq (Hy ?_) | skip
 refine Hq (MV ht.typeIs (by decide) ?_)
 refine Hq (IV (name:=HQ "__getitem__") ht.typeIs Il
  (Ji Il ht.typeIs Md ?_ (Ms _ _)))
 show wpAny _ _ (K0 (.ref t) >>= _) _ _ s
 refine Hq (M7 ht ?_)
 refine Hq (LK hTs ?_)
 rw[if_pos (by decide)]
 refine Hq (fY hs pl pu ?_)
 have hyes:(((sIx items.size 0 lo:Nat):Int) == 0&&(1:Int) == 1&&(sIx items.size items.size hi - sIx items.size 0 lo) == items.size)=true:=by
  rw[hw.1,hw.2];simp
 show wpAny _ _ (if (((sIx items.size 0 lo:Nat):Int) == 0&&(1:Int) == 1&&(sIx items.size items.size hi - sIx items.size 0 lo) == items.size)=true then _ else _) _ _ s
 rw[if_pos hyes]
 first
  | refine Hq (iN ht ?_)
  | refine iN ht ?_
 try rw[if_pos rfl]
 first
  | exact Hq (Lf (Hy ⟨_,rfl,Hy h⟩))
  | exact Hq (Lf (Hq (Hy (Hy ⟨_,rfl,Hy h⟩))))
theorem jM {sl:Addr}{t:Tok}{n:Nat}{Q:Int×Int×Nat->Hr->Prop}(hs:s.heap.IsSliceOf sl .none .none (.int (-1) t))
  (h:Q ((n:Int) - 1,-1,n) s):wpAny (model prog w) A (J7 (.ref sl) (pure (n:Int))) Q E s:=by
 obtain⟨os,hos,hcs,hds⟩:=id hs;unfold J7 Mu;refine Hq (Hq (Jg hos hds (x:=.none) rfl (Hq (Jg hos hds (x:=.none) rfl (Hq (Jg hos hds (x:=.int (-1) t) rfl (Hy ?_)))))))
 refine Hq (slicePart_int ?_)
 show wpAny _ _ (if ((-1:Int) == 0)=true then _ else _) _ _ s
 rw[if_neg (by decide)]
 refine Hq (Mz (Hq (Mz (Hq (Hy ?_)))))
 show wpAny _ _ (match Jw none none (-1) (n:Int)with | (lo,hi)=>pure (lo,(-1:Int),IP lo hi (-1))) _ _ s
 have e1:Jw none none (-1) (n:Int)=((n:Int) - 1,-1):=by simp[Jw]
 have e2:IP ((n:Int) - 1) (-1) (-1)=n:=by
  unfold IP;simp only[show ¬((-1:Int) > 0)by decide,if_false,Int.neg_neg,Py]
  split <;> omega
 rw[e1]
 show wpAny _ _ (pure ((n:Int) - 1,(-1:Int),IP ((n:Int) - 1) (-1) (-1))) _ _ s
 rw[e2];exact Hy h
theorem qr (xs:List Hs):((Iy xs.length).filterMap λ(m:Nat)=>xs.toArray[(((xs.length:Int) - 1)+(m:Int)*(-1)).toNat]?)=xs.reverse:=by
 apply Pf
 intro i
 have key:∀m∈Iy xs.length,xs.toArray[(((xs.length:Int) - 1)+(m:Int)*(-1)).toNat]? =some (xs.reverse.getD m .none):=λm hm=>by
  have hm':m<xs.length:=IX.mp hm
  have e:(((xs.length:Int) - 1)+(m:Int)*(-1)).toNat=xs.length - 1 - m:=by omega
  rw[e,Nu,HG (by omega)]
  have:m<xs.reverse.length:=by simpa using hm'
  simp[Ov,HG this,List.getElem_reverse]
 have hmap:((Iy xs.length).filterMap λ(m:Nat)=>xs.toArray[(((xs.length:Int) - 1)+(m:Int)*(-1)).toNat]?)=(Iy xs.length).map λm=>xs.reverse.getD m .none:=by
  have gen:∀(r:List Nat) (f:Nat->Option Hs) (g:Nat->Hs),(∀m∈r,f m=some (g m))->r.filterMap f=r.map g:=by
   intro r f g
   induction r with
   | nil=>intro _;rfl
   | cons m r ih=>
    intro h;rw[IQ,h m HD,HN,ih λm' hm'=>h m' (Hv _ hm')]
  exact gen _ _ _ key
 rw[hmap];rw[Ib]
 by_cases hi:i<xs.length
 ·have hr:i<xs.reverse.length:=by simpa using hi
  rw[Oc hi]
  simp[Ov,HG hr]
 ·rw[JQ (by simpa using hi),JQ (by simpa using hi)]
  rfl
theorem slicePick_rev (xs:List Hs):Qj xs.toArray none none (some (-1))=xs.reverse.toArray:=by
 have e:Qj xs.toArray none none (some (-1))=((sliceRange ((xs.toArray.size:Int) - 1) (-1) (-1)).filterMap (xs.toArray[·]?)).toArray:=rfl
 rw[e,<-qr xs,HL];unfold sliceRange
 have c:(if ((xs.length:Int) - 1) > -1 then(((xs.length:Int) - 1) - (-1) - (-1) - 1) / (-(-1:Int))else 0).toNat=xs.length:=by
  rw[Int.neg_neg,Py]
  split <;> omega
 show(((Iy (if ((xs.length:Int) - 1) > -1 then(((xs.length:Int) - 1) - (-1) - (-1) - 1) / (-(-1:Int))else 0).toNat).map λ(k:Nat)=>(((xs.length:Int) - 1)+(-1)*(k:Int)).toNat).filterMap (xs.toArray[·]?)).toArray=_
 rw[c,Ot]
 congr 2
 funext k
 show xs.toArray[(((xs.length:Int) - 1)+(-1)*(k:Int)).toNat]? =_
 rw[Int.mul_comm]
theorem getItem_tuple_rev {u sl:Addr}{items:List Hs}{t:Tok}{Q:Hs->Hr->Prop}(ht:Qs s.heap u items.toArray)(hs:s.heap.IsSliceOf sl .none .none (.int (-1) t))
  (h:Q (.ref s.heap.objs.size) { s with heap:=s.heap.push { cls:=.type "tuple",data:=.seq items.reverse.toArray } })
  (hsz:items.length<=sizeLine):wpAny (model prog w) A (getItem (.ref u) (.ref sl)) Q E s:=by
 have htake:sizeOk (.seq items.reverse.toArray):=by
  show items.reverse.toArray.size<=sizeLine
  simpa using hsz
 obtain⟨os,hos,hcs,hds⟩:=id hs
 have hTs:s.TypeIs (.ref sl) "slice":=⟨os,hos,hcs⟩;unfold getItem
 try with_reducible refine Jd ?_
 first | refine Hq (Hy ?_) | skip
 refine Hq (MV ht.typeIs (by decide) ?_)
 refine Hq (IV (name:=HQ "__getitem__") ht.typeIs Il
  (Ji Il ht.typeIs Md ?_ (Ms _ _)))
 show wpAny _ _ (K0 (.ref u) >>= _) _ _ s
 refine Hq (M7 ht ?_)
 refine Hq (LK hTs ?_)
 rw[if_pos (by decide)]
 refine Hq (jM (n:=items.toArray.size) hs ?_)
 show wpAny _ _ (if ((((items.toArray.size:Nat):Int) - 1) == 0&&(-1:Int) == 1&&items.toArray.size == items.toArray.size)=true then _ else _) _ _ s
 rw[if_neg (by simp)]
 have e:((Iy items.toArray.size).filterMap λ(m:Nat)=>items.toArray[((((items.toArray.size:Nat):Int) - 1)+(m:Int)*(-1)).toNat]?)=items.reverse:=by
  rw[HL];exact qr items
 rw[e]
 first
  | exact Hq (m:=IF _) (Ip (Hy ⟨_,rfl,Hy h⟩) htake)
  | exact Hq (m:=IF _) (Ip (Hq (Hy (Hy ⟨_,rfl,Hy h⟩))) htake)
  | exact Hq (Hq (m:=IF _) (Ip (Hy (Hy ⟨_,rfl,Hy h⟩)) htake))
  | exact Hq (Hq (m:=IF _) (Ip (Hy ⟨_,rfl,Hy h⟩) htake))
end
end HT
namespace Tr
open PySem PySem.Spec PyProof.Rows L2
section
variable {X:Cx}{a b c:Expr}{fa fb fc:En->Rs T}{pos:Pos}
theorem Reps.atI {K:Ho}{O:Ow}{H:Hp}{l:List T}{vs:List V}{i:Int}{t:T}(r:Reps K O H l vs)(e:L2.atI l i=some t):∃v,L2.atI vs i=some v/\Rep K O H t v:=by
 unfold L2.atI at e ⊢;rw[r.length]at e
 cases q:ixN vs.length i with
 | none=>rw[q]at e;cases e
 | some j=>
  rw[q]at e;obtain⟨v,e1,e2⟩:=r.get (i:=j) (t:=t) e;exact⟨v,e1,e2⟩
def aW (x y:T):Rs T:=match x.items,y with
 | some l,.int i=>match L2.atI l i with
  | some t=> .ok t
  | none=> .bad
 | _,_=> .bad
theorem q_ix (ha:cx X a fa)(hb:cx X b fb)(hs:autoParam (kK b) x_):cx X (.Subscript a b pos) (o2 aW fa fb):=by
 intro pins s σ H Q I ⟨ρ,O,E,hq⟩
 have h1:=aK E hq;refine Pv (bK (ha pins s σ H _ I h1) λv s1 hh_=> ?_)
 obtain⟨x,H1,I1,r1,t,rt,s',E',q1⟩:=hh_
 have h2:=aK (f:=fb) E' q1;refine bK (hb pins s1 σ H1 _ I1 h2) λu s2 hh_=> ?_
 obtain⟨y,H2,I2,r2,t2,rt2,s'',E'',q2⟩:=hh_
 have rt':=rt.same s'';unfold aW at q2
 split at q2
 ·rename_i l i hl
  split at q2
  ·rename_i z hz
   have hy:=Rep.Da.mp rt2;refine Ds a b pins s2 σ H2 x y v u Q I2 r1 r2 ?_ (hs _ _)
   cases t with
   | tup m=>
    cases hl;obtain⟨p,vs,e,n,q,rr⟩:=Rep.FB.mp rt';obtain⟨w,ew,rw'⟩:=rr.atI hz
    exact .inr (.inl ⟨p,vs,i,w,e,hy,SqT.of q,ew,q2 H2 (Same.refl H2) _ rw'⟩)
   | lst m=>
    cases hl;obtain⟨p,vs,e,n,q,rr⟩:=Rep.Fk.mp rt';obtain⟨w,ew,rw'⟩:=rr.atI hz
    exact .inl ⟨p,vs,i,w,e,hy,SqL.of q,ew,q2 H2 (Same.refl H2) _ rw'⟩
   | scr m=>
    cases hl;unfold Rep at rt';obtain⟨p,e,n,q⟩:=rt';obtain⟨w,ew,rw'⟩:=(Reps.ints (K:=X.K) (O:=O) (H:=H2) (ns:=m)).atI hz
    exact .inl ⟨p,_,i,w,e,hy,q,ew,q2 H2 (Same.refl H2) _ rw'⟩
   | _=>cases hl
  ·exact q2.elim
 ·exact q2.elim
def jh (l:List T)(lo hi:Option Int):List T:=(l.drop (HT.sIx l.length 0 lo)).take (HT.sIx l.length l.length hi - HT.sIx l.length 0 lo)
theorem Reps.cut {K:Ho}{O:Ow}{H:Hp}{l:List T}{vs:List V}(r:Reps K O H l vs)(lo hi:Option Int):Reps K O H (jh l lo hi) (qV vs lo hi):=by
 unfold jh qV;rw[r.length];exact(r.drop _).take _
theorem vo {l:List T}{lo hi:Option Int}(h:HT.sIx l.length 0 lo=0/\HT.sIx l.length l.length hi=l.length):jh l lo hi=l:=by
 unfold jh;rw[h.1,h.2];simp
theorem sl_tup_whole:SlR X (λx lo hi H Q=> ∃a xs,x= .ref a/\SqT X.K H a xs/\(HT.sIx xs.length 0 lo=0/\HT.sIx xs.length xs.length hi=xs.length)/\Q (.ref a) H):=by
 intro pins s σ H x v vl vu lo hi sl Q I rx hs pl pu h;obtain⟨a,xs,rfl,hx,hw,q⟩:=h;cases rx;obtain⟨its,r,ht,hz⟩:=I.tuple hx
 have hlen:its.toArray.size=xs.length:=by rw[HL];exact r.length.symm
 refine⟨"tuple",_,Il.lookup,ht.typeIs,?_⟩
 exact HT.getItem_tuple_whole ht hs pl pu (by rw[hlen];exact hw) ⟨.ref a,H,I,rfl,q⟩
def pN (_:En):Rs (Option Int):=.ok none
def pS (f:En->Rs T)(ρ:En):Rs (Option Int):=do
 let x <-f ρ
 match x with
 | .int i=> .ok (some i)
 | _=> .bad
def tPO (X:Cx)(f:En->Rs (Option Int)):TO:=λσ H Q=> ∃ρ O,EnvO X.K O H ρ σ/\Post X H (f ρ) λb H'=>Q b H'
abbrev D9 (X:Cx)(e:Option Expr)(f:En->Rs (Option Int)):Prop:=PO X e (tPO X f)
theorem zo:D9 X none pN:=by
 intro pins s σ H Q I ⟨ρ,O,E,hq⟩;exact zF pins s σ H Q I (hq H (Same.refl H))
theorem zm (ha:cx X a fa):D9 X (some a) (pS fa):=by
 intro pins s σ H Q I ⟨ρ,O,E,hq⟩;refine zE ha pins s σ H Q I ?_
 obtain⟨ρ1,O1,E1,h1⟩:=aK E hq;refine⟨ρ1,O1,E1,Post.mono h1 λts H1 s1 q vs r=> ?_⟩
 obtain⟨t',r',s',E',q'⟩:=q vs r
 split at q'
 ·exact⟨_,Rep.Da.mp r',q' H1 (Same.refl H1)⟩
 ·exact q'.elim
def slT (x:T)(lo hi:Option Int):Rs T:=match x with
 | .tup l=> .ok (.tup (jh l lo hi))
 | .lst l=> .ok (.lst (jh l lo hi))
 | _=> .bad
def sl (fe:En->Rs T)(fl fu:En->Rs (Option Int))(ρ:En):Rs T:=do
 let x <-fe ρ
 let l <-fl ρ
 let u <-fu ρ
 slT x l u
theorem jv {σ:L2.St}{H:Hp}{ρ:En}{O:Ow}{α:Type}{f:En->Rs (Option Int)}{k:Option Int->Rs α}{Q:α->Hp->Prop}(E:EnvO X.K O H ρ σ)(h:Post X H (f ρ >>= k) Q) :
  tPO X f σ H λb H'=>Same H H'/\EnvO X.K O H' ρ σ/\Post X H' (k b) Q:=
 ⟨ρ,O,E,Post.mono h.bind λt H' s q=>⟨s,E.same s,q⟩⟩
theorem zy {lo hi:Option Expr}{p2:Pos}{fl fu:En->Rs (Option Int)}(ha:cx X a fa)(hl:D9 X lo fl)(hu:D9 X hi fu):cx X (.Subscript a (.Slice lo hi none p2) pos) (sl fa fl fu):=by
 intro pins s σ H Q I ⟨ρ,O,E,hq⟩;refine qt (sl_tup.or (sl_tup_whole.or zc)) ha hl hu pins s σ H Q I ?_
 obtain⟨ρ1,O1,E1,h1⟩:=aK E hq;refine⟨ρ1,O1,E1,Post.mono h1 λts H1 s1 q vs r=> ?_⟩
 obtain⟨t',r',s',E',q'⟩:=q vs r;obtain⟨ρ2,O2,E2,h2⟩:=jv E' q';refine⟨ρ2,O2,E2,Post.mono h2 λo1 H2 s2 q=> ?_⟩
 obtain⟨s2',E2',q2⟩:=q;obtain⟨ρ3,O3,E3,h3⟩:=jv E2' q2;refine⟨ρ3,O3,E3,Post.mono h3 λo2 H3 s3 q=> ?_⟩
 obtain⟨s3',E3',q3⟩:=q
 have rt:=(r'.same s2').same s3';unfold slT at q3
 split at q3
 ·rename_i l
  obtain⟨p,ws,e,n,q,rr⟩:=Rep.FB.mp rt
  have hlen:=rr.length
  by_cases hw:HT.sIx ws.length 0 o1=0/\HT.sIx ws.length ws.length o2=ws.length
  ·refine .inr (.inl ⟨p,ws,e,SqT.of q,hw,?_⟩)
   rw[<-hlen]at hw;refine q3 H3 (Same.refl H3) _ ?_
   rw[vo hw];exact Rep.FB.mpr ⟨p,ws,rfl,n,q,rr⟩
  ·exact .inl ⟨p,ws,e,SqT.of q,hw,λp' hp=>q3 _ (aT hp _) _ (dw hp (E3'.fresh hp) (rr.cut o1 o2))⟩
 ·rename_i l
  obtain⟨p,ws,e,n,q,rr⟩:=Rep.Fk.mp rt;exact .inr (.inr ⟨p,ws,e,SqL.of q,λp' hp=>q3 _ (aT hp _) _ (fq hp (E3'.fresh hp) (rr.cut o1 o2))⟩)
 ·exact q3.elim
def wN:T->Rs T
 | .tup l=> .ok (.tup l.reverse)
 | .lst l=> .ok (.lst l.reverse)
 | _=> .bad
theorem Reps.reverse {K:Ho}{O:Ow}{H:Hp}:∀{l:List T} {vs:List V},Reps K O H l vs->Reps K O H l.reverse vs.reverse
 | [],vs,r=>by rw[Reps.Do.mp r];exact Reps.GJ
 | t::l,vs,r=>by
  obtain⟨v,us,rfl,p,q⟩:=Reps.AC.mp r;rw[Km,Km];exact q.reverse.append (Reps.GE p Reps.GJ)
theorem Fb {j:Nat}{p1 p2 p3:Pos}(ha:cx X a fa):cx X (.Subscript a (.Slice none none (some (.UnaryOp .USub (.Constant (.int 1) j p1) p2)) p3) pos) (o1 wN fa):=by
 intro pins s σ H Q I ⟨ρ,O,E,hq⟩
 have h1:=aK E hq;refine Pv (bK (ha pins s σ H _ I h1) λv s1 hh_=> ?_)
 obtain⟨x,H1,I1,r1,t,rt,s',E',q1⟩:=hh_;refine wpAny_Slice ?_
 rw[OV];refine Hy (Hy ?_)
 rw[evalPart_some];refine bK (Bd we xg pins s1 σ H1 (λw' H'=>w'= .int (-1)/\H'=H1) I1 ⟨1,rfl,rfl,rfl⟩) λsv s2 hh_=> ?_
 obtain⟨w',H2,I2,r2,e1,e2⟩:=hh_;subst e1 e2;obtain⟨tk,rfl⟩:=r2
 have I4:Inv X pins σ H2 { s2 with heap:=s2.heap.push { cls:=.type "slice",data:=.fields #[.none,.none,.int (-1) tk] } }:=I2.kept (t':=s2.toks) λb ob q=>Hz _ q
 unfold wN at q1
 split at q1
 ·rename_i l
  obtain⟨p,ws,e,n,q,rr⟩:=Rep.FB.mp rt;subst e;cases r1;obtain⟨its,r,ht,hz⟩:=I4.tuple (SqT.of q)
  have hs:Qr (s2.heap.push { cls:=.type "slice",data:=.fields #[.none,.none,.int (-1) tk] }) s2.heap.objs.size .none .none (.int (-1) tk):=Mk ..;refine tail_any (ops:=[.ref p,.ref s2.heap.objs.size]) ht.typeIs Il.lookup ?_ (by with_unfolding_all rfl)
  refine HT.getItem_tuple_rev ht hs ?_ (by rw[<-r.length];exact hz)
  refine⟨.ref _,_,I4.laid (t':=s2.toks) (o:=.tup ws.reverse) (λb ob q=>Hz _ q) (HE _) ?_,rfl,?_⟩
  ·exact⟨by rw[K6];exact hz,_,r.reverse,Nr _ _⟩
  ·have hn:=I4.hok.fresh (HE _)
   exact q1 _ (aT hn _) _ (dw hn (E'.fresh hn) rr.reverse)
 ·rename_i l
  obtain⟨p,ws,e,n,q,rr⟩:=Rep.Fk.mp rt;subst e;cases r1;obtain⟨its,r,ht,hz⟩:=I4.list (SqL.of q)
  have hs:Qr (s2.heap.push { cls:=.type "slice",data:=.fields #[.none,.none,.int (-1) tk] }) s2.heap.objs.size .none .none (.int (-1) tk):=Mk ..;refine tail_any (ops:=[.ref p,.ref s2.heap.objs.size]) ht.isList.typeIs slot_list_getitem.lookup ?_ (by with_unfolding_all rfl)
  refine MW ht.isList hs .none .none (.int (-1) tk) (by simp) ?_ (by rw[HL,<-r.length];exact hz)
  rw[HT.slicePick_rev];refine⟨.ref _,_,I4.laid (t':=s2.toks) (o:=.lst ws.reverse) (λb ob q=>Hz _ q) (HE _) ?_,rfl,?_⟩
  ·exact⟨by rw[K6];exact hz,_,0,r.reverse,HR _ rfl⟩
  ·have hn:=I4.hok.fresh (HE _)
   exact q1 _ (aT hn _) _ (fq hn (E'.fresh hn) rr.reverse)
 ·exact q1.elim
def CallT (X:Cx)(f:Hs)(g:List T->Rs T):Prop:=
 ∀(pins:List (Addr×Obj)) (s:Hr) (σ:L2.St) (H:Hp) (O:Ow) (ts:List T) (vs:List V) (us:List Hs) (Q:VK),Inv X pins σ H s->(∀p,H p=none->¬ O p)->Reps X.K O H ts vs->Vals vs us →
  Post X H (g ts) (λt H'=> ∀v,Rep X.K O H' t v->Q v H')->wpAny (model X.prog X.w) X.A (call f us) (EP X pins σ Q) X.xe s
theorem CallT.of {f:Hs}{r:List V->Hp->VK->Prop}(h:CallR X f r){g:List T->Rs T}
  (w:∀(H:Hp) (O:Ow) (ts:List T) (vs:List V) (Q:VK),(∀p,H p=none->¬ O p)->Reps X.K O H ts vs->Post X H (g ts) (λt H'=> ∀v,Rep X.K O H' t v->Q v H')->r vs H Q):CallT X f g:=
 λpins s σ H O ts vs us Q I hf rs rv hp=>h pins s σ H vs us Q I rv (w H O ts vs Q hf rs hp)
def cl (g:List T->Rs T)(fs:En->Rs (List T))(ρ:En):Rs T:=fs ρ >>= g
variable {e:Expr}{es:List Expr}{fs:En->Rs (List T)}{x:Str}{p:Pos}{id:String}{g:List T->Rs T}
theorem zB (hc:CallT X (.builtin id) g)(hm:X.mg x=none)(hv:Ir x=some (.builtin id))(ha:pQ X (e::es) fs)(hg:autoParam (Gl X x) u_)(hn:autoParam (x≠ "__name__") s_)(hdb:autoParam ((x == ("__debug__" : Str))=false) s_)
  (he:autoParam (HX (e::es) X.env=(false,eval e X.env)::HX es X.env) u_) (hpl:autoParam ((backTo pos (HX es X.env)).any (·.1)=false) u_):cx X (.Call (.Name x p) (e::es) [] pos) (cl g fs):=by
 intro pins s σ H Q I ⟨ρ,O,E,hq⟩;refine Jr (eK I hg hm hv ?_ hn hdb)
 have h1:=d8 E hq;exact Jp (bK (ha pos pins s σ H _ I h1) λus s1 ⟨vs,H1,I1,r1,ts,rs,s',E',q1⟩=>hc pins s1 σ H1 O ts vs us Q I1 (λp=>E'.fresh) rs r1 q1) he hpl
theorem wX {Ty:String}(hc:CallT X (.type Ty) g)(hm:X.mg x=none)(hv:Ir x=some (.type Ty))(ha:pQ X (e::es) fs)(hg:autoParam (Gl X x) u_)(hn:autoParam (x≠ "__name__") s_)(hdb:autoParam ((x == ("__debug__" : Str))=false) s_)
  (he:autoParam (HX (e::es) X.env=(false,eval e X.env)::HX es X.env) u_) (hpl:autoParam ((backTo pos (HX es X.env)).any (·.1)=false) u_):cx X (.Call (.Name x p) (e::es) [] pos) (cl g fs):=by
 intro pins s σ H Q I ⟨ρ,O,E,hq⟩;refine Jr (eK I hg hm hv ?_ hn hdb)
 have h1:=d8 E hq;exact JY (bK (ha pos pins s σ H _ I h1) λus s1 ⟨vs,H1,I1,r1,ts,rs,s',E',q1⟩=>hc pins s1 σ H1 O ts vs us Q I1 (λp=>E'.fresh) rs r1 q1) he hpl
theorem Reps.one {K:Ho}{O:Ow}{H:Hp}{t:T}{vs:List V}(r:Reps K O H [t] vs):∃v,vs= [v]/\Rep K O H t v:=by
 obtain⟨v,ws,rfl,p,q⟩:=Reps.AC.mp r;cases Reps.Do.mp q;exact⟨v,rfl,p⟩
theorem Rep.sq {K:Ho}{O:Ow}{H:Hp}{t:T}{v:V}{l:List T}(r:Rep K O H t v)(h:t.items=some l):∃a vs,v= .ref a/\¬ O a/\Reps K O H l vs/\(SqL K H a vs\/SqT K H a vs):=by
 cases t with
 | tup m=>cases h;obtain⟨a,vs,e,n,q,z⟩:=Rep.FB.mp r;exact⟨a,vs,e,n,z,.inr (SqT.of q)⟩
 | lst m=>cases h;obtain⟨a,vs,e,n,q,z⟩:=Rep.Fk.mp r;exact⟨a,vs,e,n,z,.inl (SqL.of q)⟩
 | scr m=>cases h;unfold Rep at r;obtain⟨a,e,n,q⟩:=r;exact⟨a,_,e,n,Reps.ints,.inl q⟩
 | _=>cases h
def bW:List T->Rs T
 | [.str x] =>if x.length<=sizeLine then .ok (.int x.length)else .bad
 | [x] =>match x.items with
  | some l=> .ok (.int l.length)
  | none=> .bad
 | _=> .bad
theorem cK:CallT X (.builtin "len") bW:=CallT.of (call_len_seq.or pD) λH O ts vs Q hf rs hp=>by
 unfold bW at hp
 split at hp
 ·obtain⟨v,rfl,r⟩:=rs.one
  split at hp
  ·rename_i h
   exact .inr ⟨_,by rw[Rep.FM.mp r],h,hp H (Same.refl H) _ (Rep.GK _)⟩
  ·exact hp.elim
 ·obtain⟨v,rfl,r⟩:=rs.one
  split at hp
  ·rename_i l hl
   obtain⟨a,vs,rfl,n,z,q⟩:=r.sq hl;exact .inl ⟨a,vs,rfl,q,hp H (Same.refl H) _ (by rw[<-z.length];exact Rep.GK _)⟩
  ·exact hp.elim
 ·exact hp.elim
def dh:List T->Rs T
 | [.tup l] => .ok (.tup l)
 | [.lst l] => .ok (.tup l)
 | _=> .bad
theorem gg:CallT X (.type "tuple") dh:=CallT.of mJ λH O ts vs Q hf rs hp=>by
 unfold dh at hp
 split at hp
 ·obtain⟨v,rfl,r⟩:=rs.one
  obtain⟨a,ws,rfl,n,q,z⟩:=Rep.FB.mp r;exact⟨a,ws,rfl,.inr ⟨SqT.of q,hp H (Same.refl H) _ (Rep.FB.mpr ⟨a,ws,rfl,n,q,z⟩)⟩⟩
 ·obtain⟨v,rfl,r⟩:=rs.one
  obtain⟨a,ws,rfl,n,q,z⟩:=Rep.Fk.mp r;exact⟨a,ws,rfl,.inl ⟨SqL.of q,λl hl=>hp _ (aT hl _) _ (dw hl (hf l hl) z)⟩⟩
 ·exact hp.elim
def mI:List T->Rs T
 | [.int i] => .ok (.int i)
 | [.bl k] => .ok (.int (if k then 1 else 0))
 | _=> .bad
theorem yC:CallT X (.type "int") mI:=CallT.of vC λH O ts vs Q hf rs hp=>by
 unfold mI at hp
 split at hp
 ·obtain⟨v,rfl,r⟩:=rs.one
  exact .inl ⟨_,by rw[Rep.Da.mp r],hp H (Same.refl H) _ (Rep.GK _)⟩
 ·obtain⟨v,rfl,r⟩:=rs.one
  exact .inr ⟨_,by rw[Rep.Gc.mp r],hp H (Same.refl H) _ (Rep.GK _)⟩
 ·exact hp.elim
def l5:List T->Option (List Bool)
 | [] =>some []
 | .bl k::r=>(l5 r).map (k:: ·)
 | _=>none
def mK:List T->Rs T
 | [.lst l] =>match l5 l with
  | some ks=> .ok (.bl (ks.all λk=>k))
  | none=> .bad
 | _=> .bad
theorem l4 {K:Ho}{O:Ow}{H:Hp}:∀{l:List T} {ks:List Bool} {vs:List V} {us:List Hs},l5 l=some ks->Reps K O H l vs->Vals vs us->us=ks.map Js
 | [],ks,vs,us,e,r,v=>by cases e;cases Reps.Do.mp r;cases v;rfl
 | t::l,ks,vs,us,e,r,v=>by
  obtain⟨w,ws,rfl,p,q⟩:=Reps.AC.mp r
  cases t with
  | bl k=>
   unfold l5 at e
   cases z:l5 l with
   | none=>rw[z]at e;cases e
   | some ks'=>
    rw[z]at e;cases e
    cases v with
    | cons v1 v2=>
     cases Rep.Gc.mp p;cases v1
     rw[l4 z q v2];rfl
  | _=>cases e
theorem pz (hc:X.calm=true):CallT X (.builtin "all") mK:=by
 intro pins s σ H O ts vs us Q I hf rs rv hp;unfold mK at hp
 split at hp
 ·obtain⟨v,rfl,r⟩:=rs.one
  split at hp
  ·rename_i ks hk
   obtain⟨a,ws,rfl,n,q,z⟩:=Rep.Fk.mp r;obtain⟨u,rfl,ru⟩:=kR rv;cases ru;obtain⟨its,r',pl,hz⟩:=I.list (SqL.of q)
   have hits:=l4 hk z r';refine call_all_walk (MU pl.isList ?_)
   have hne:a≠s.heap.objs.size:=λe=>by
    obtain⟨o,ho,_⟩:=pl.isList;rw[e]at ho;exact absurd (HH ho) (Ia _)
   refine⟨s.heap.objs.size,_,_,_,_,_,λi=>(ks[i]?).getD true,rfl,Walks.list (A:=X.A.in1) (I.ok.hd hc) s.heap.objs.size a hne its.toArray,⟨⟨_,HR _ rfl,rfl,rfl⟩,?_⟩,?_,?_⟩
   ·obtain⟨o,ho,hh⟩:=pl.isList
    exact⟨o,Hz _ ho,hh⟩
   ·intro i v s' Q' E' hP hQ'
    subst hits
    dsimp only at hQ'
    have hP':(ks.map Js)[i]? =some v:=by simpa using hP
    rw[Ib]at hP'
    cases e:ks[i]? with
    | none=>rw[e]at hP';cases hP'
    | some k=>
     rw[e]at hP' hQ';cases hP';exact II hQ'
   ·intro h' tk hk'
    have hlen:its.toArray.size=ks.length:=by rw[hits];simp
    have e:((Iy its.toArray.size).all λi=>(ks[i]?).getD true)=(ks.all λk=>k):=by
     rw[hlen];rw[J2,HW,HW]
     constructor
     ·intro h x hx
      obtain⟨i,hi,rfl⟩:=Kv hx
      have:=h i (IX.mpr hi)
      simpa [hi]using this
     ·intro h i hi
      have hi':=IX.mp hi
      have:=h ks[i] (JS hi')
      simpa [hi']using this
    rw[e]
    have I1:Inv X pins σ H { s with heap:=s.heap.push { cls:=.type "list_iterator",data:=.fields #[.ref a,.int 0 0] } }:=I.kept (t':=s.toks) λb o e=>Hz _ e
    have I2:Inv X pins σ H { s with heap:=h',toks:=tk }:=by
     have:=I1.turned (h':=h') (t':=tk) (it:=s.heap.objs.size) (λb o hb e=>hk' b o (by simpa using hb) e) (I.hok.fresh (HE _))
      (Kt I.lt) (.inr I.sz) (λx c e z=> ?_) (λp hp z=> ?_)
     ·exact this
     ·obtain⟨v,q⟩:=I.cell x c e
      exact absurd (HM q.lt (Lb z.symm)) (Ia _)
     ·exact absurd (HM (HH (I.pin p hp).1) (Lb z.symm)) (Ia _)
    exact⟨.bl _,H,I2,rfl,hp H (Same.refl H) _ (Rep.bl_ _)⟩
  ·exact hp.elim
 ·exact hp.elim
end
def qR (i b t l s:Bool)(Ty:String):Option Bool:=match Ty with
 | "int" =>some i | "bool" =>some b | "tuple" =>some t | "list" =>some l | "str" =>some s
 | _=>none
def tW (n Ty:String):Option Bool:=match n with
 | "NoneType" =>qR false false false false false Ty
 | "bool" =>qR true true false false false Ty
 | "int" =>qR true false false false false Ty
 | "str" =>qR false false false false true Ty
 | "tuple" =>qR false false true false false Ty
 | "list" =>qR false false false true false Ty
 | _=>none
theorem vi (K:Ho){n Ty:String}{b:Bool}(h:tW n Ty=some b):PySem.W.kitOne K (.type n) (.type Ty)=some b:=by
 unfold tW at h
 split at h <;> first | (cases h;done) | (unfold qR at h;split at h <;> first | (cases h;done) | (cases h;kernel_rfl))
def yR (Ty:String)(t:T):Rs T:=match t.ty with
 | some n=>match tW n Ty with
  | some b=> .ok (.bl b)
  | none=> .bad
 | none=> .bad
theorem Rep.Hl {K:Ho}{O:Ow}{H:Hp}{t:T}{v:V}{n:String}(r:Rep K O H t v)(h:t.ty=some n):j8 K H v (.type n):=by
 cases t with
 | non=>cases h;cases Rep.GO.mp r;exact .non
 | bl b=>cases h;cases Rep.Gc.mp r;exact .bl b
 | int b=>cases h;cases Rep.Da.mp r;exact .int b
 | str b=>cases h;cases Rep.FM.mp r;exact .str b
 | tup l=>cases h;obtain⟨a,vs,rfl,_,q,_⟩:=Rep.FB.mp r;exact .tup q
 | lst l=>cases h;obtain⟨a,vs,rfl,_,q,_⟩:=Rep.Fk.mp r;exact .lst q
 | scr l=>cases h
 | dct _ _=>cases h
 | ob _ _ _=>cases h
section
variable {X:Cx}{a b c e:Expr}{es:List Expr}{fa fb fc:En->Rs T}{fs:En->Rs (List T)}{pos p p2:Pos}{x:Str}
theorem eO:Ir "isinstance" =some (.builtin "isinstance"):=by decide+kernel
theorem Fi {tn:Str}{Ty:String}(hm:X.mg "isinstance" =none)(hmt:X.mg tn=none)(hv:Ir tn=some (.type Ty))(ha:cx X a fa)(hg:autoParam (Gl X "isinstance") u_)(hgt:autoParam (Gl X tn) u_)
  (hn:autoParam (tn≠ "__name__") s_) (hd:autoParam ((tn == ("__debug__" : Str))=false) s_)
  (he:autoParam (HX [a,.Name tn p2] X.env=(false,eval a X.env)::HX [.Name tn p2] X.env) u_) (hpl:autoParam ((backTo pos (HX [.Name tn p2] X.env)).any (·.1)=false) u_)
  (hs:autoParam (HX [.Name tn p2] X.env=(false,eval (.Name tn p2) X.env)::HX [] X.env) u_) :
  cx X (.Call (.Name "isinstance" p) [a,.Name tn p2] [] pos) (o1 (yR Ty) fa):=by
 intro pins s σ H Q I ⟨ρ,O,E,hq⟩;refine Jr (eK I hg hm eO ?_ (by decide) (by decide))
 have hA:PA X [a,.Name tn p2] (kc (tP X fa) (kc (tC (.ty Ty)) y9)):=cM ha (cM (tI (v:=.ty Ty) hgt hmt hv rfl hn hd) i8 hs) he;obtain⟨ρ1,O1,E1,h1⟩:=aK E hq;refine Jp (bK (hA pos pins s σ H (λvs H'=> ∃v t,vs= [v,.ty Ty]/\Rep X.K O H' t v/\Post X H' (yR Ty t) (λt H'=> ∀v,Rep X.K O H' t v->Q v H')) I ?_) λus s1 ⟨vs,H1,I1,r1,v,t,e1,rt,q⟩=> ?_) he hpl
 ·refine⟨ρ1,O1,E1,Post.mono h1 λts H1 s1 q vs r=> ?_⟩
  obtain⟨t',r',s',E',q'⟩:=q vs r;exact⟨vs,t',rfl,r',q'⟩
 ·subst e1
  obtain⟨u,w',rfl,ru,rw'⟩:=v5 r1;cases rw';unfold yR at q
  split at q
  ·rename_i n hn'
   split at q
   ·rename_i bb hb
    exact vh I1 ru (rt.Hl hn') (vi _ hb) λtk=>⟨.bl bb,H1,I1.tok _,rfl,q H1 (Same.refl H1) _ (Rep.bl_ _)⟩
   ·exact q.elim
  ·exact q.elim
def spP (K:Ho)(n:Nat)(g:List T->Rs T):Sp:=λvs H Q _=> ∃ts O,Reps K O H ts vs/\(∀a,O a->Mtb H a)/\ts.length=n ∧
 match g ts with
 | .ok t=> ∀v H',Same H H'->Rep K O H' t v->Q v H'
 | _=>False
def RzC (P:HZ)(w:ID)(mg:Str->Option Hs)(outer:List Env)(H:Hp)(s:Hr)(c:Str)(ev:Hs)(s':Hr):Prop:=
 ∃e T C H',ev= .ref e/\mg c=some (.ref C)/\s'.os=s.os/\NH s'.gens/\Un (jH outer) [] H H' s.heap s'.heap/\HOk P w H' s'.heap/\Same H H'/\H' e=none/\s.heap.get? e=none/\Flt s'.heap C e (some T)/\H' T=none/\s.heap.get? T=none
def FnX (P:HZ)(w:ID)(K:Ho)(mg:Str->Option Hs)(base:Heap)(k:Nat)(f:Addr)(fd:IW)(ps:List Str)(n:Nat)(g:List T->Rs T):Prop:=
 ∀(A:Iw) (outer:List Env) (s:Hr) (H:Hp) (args:Args) (us:List Hs) (vs:List V) (O:Ow) (ts:List T) (c:Str) (R:LJ->Hr->Prop),Room k A->sI P w K mg base A outer s H->NJ s fd args (ps.zip us)->Vals vs us →
  Reps K O H ts vs->(∀a,O a->Mtb H a)->ts.length=n->g ts= .err c->(∀ev s',RzC P w mg outer H s c ev s'->R (.error ev) s')->codeAny (model P w) A (.call (.ref f) args) R s
structure Ep (P:HZ)(w:ID)(K:Ho)(mg:Str->Option Hs)(base:Heap)(k:Nat)(f:Addr)(fd:IW)(ps:List Str)(n:Nat)(g:List T->Rs T):Prop where
 h:vG P w K mg base CX0 k f fd ps (spP K n g)
 x:FnX P w K mg base k f fd ps n g
theorem xn {P:HZ}{w:ID}{H:Hp}{h:Heap}{a:Addr}{o:HO}(x:ObjOk P w H h a o):∃u,h.get? a=some u:=by
 cases o with
 | lst xs=>obtain⟨_,_,_,_,e⟩:=x;exact⟨_,e⟩
 | tup xs=>obtain⟨_,_,_,ob,e,_⟩:=x;exact⟨_,e⟩
 | dK kvs=>obtain⟨_,_,_,_,o,_,_,e,_⟩:=x;exact⟨_,e⟩
 | dT kvs=>obtain⟨_,_,_,_,o,_,_,e,_⟩:=x;exact⟨_,e⟩
 | set S n=>obtain⟨o,_,_,_,e,_⟩:=x;exact⟨_,e⟩
 | ins C dx fs=>obtain⟨_,_,_,e,_⟩:=x;exact⟨_,e⟩
 | own y=>obtain⟨_,e⟩:=x;exact⟨_,e⟩
 | xd fs=>obtain⟨_,⟨_,_,_,e,_⟩,_⟩:=x;exact⟨_,e⟩
 | rng lo hi=>obtain⟨_,_,_,e⟩:=x;exact⟨_,e⟩
 | frz ob u=>obtain⟨e,_⟩:=x;exact⟨_,e⟩
 | tbl ps=>exact⟨_,(show h.get? a=some _ from x)⟩
 | met f y=>exact⟨_,(show h.get? a=some _ from x)⟩
 | ext φ=>obtain⟨_,⟨_,e⟩,_⟩:=x;exact⟨_,e⟩
theorem gc {X:Cx}{pins:List (Addr×Obj)}{σ:L2.St}{H:Hp}{s:Hr}(I:Inv X pins σ H s){e:Addr}(n:s.heap.get? e=none):H e=none:=by
 cases z:H e with
 | none=>rfl
 | some o=>
  obtain⟨o',ho'⟩:=xn (I.hok e o z);rw[n]at ho';cases ho'
theorem fQ {X:Cx}{pins:List (Addr×Obj)}{σ:L2.St}{H:Hp}{s:Hr}(I:Inv X pins σ H s)(hex:X.ex= []){e:Addr}(n:s.heap.get? e=none):X.s₀.heap.get? e=none:=by
 cases z:X.s₀.heap.get? e with
 | none=>rfl
 | some o=>
  obtain⟨o',ho'⟩:=I.base.there e o z (by rw[hex];simp)
  rw[n]at ho';cases ho'
theorem Cv {n k:Nat}{f:Addr}{fd:IW}{ps:List Str}{g:List T->Rs T}(F:Ep X.prog X.w X.K X.mg X.base k f fd ps n g)(hr:Room k X.A)(hm:X.mg x=some (.ref f))(hk:Kz X.K (.ref f)=true)(hb:Binds X.K fd ps [])(hps:ps.length=n)
  (hl:∀ρ ts,fs ρ= .ok ts->ts.length=n) (ha:pQ X (e::es) fs) (hg:autoParam (Gl X x) u_) (hdb:autoParam ((x == ("__debug__" : Str))=false) s_) (he:autoParam (HX (e::es) X.env=(false,eval e X.env)::HX es X.env) u_) (hpl:autoParam ((backTo pos (HX es X.env)).any (·.1)=false) u_) :
  cx X (.Call (.Name x p) (e::es) [] pos) (cl g fs):=by
 intro pins s σ H Q I ⟨ρ,O,E,hq⟩
 have hq':Post X H (fs ρ >>= g) λt H'=> ∀v,Rep X.K O H' t v->Q v H':=hq
 cases q:fs ρ with
 | bad=>rw[q]at hq';exact hq'.elim
 | err c=>
  rw[q]at hq';refine tH (E:=E0) F.h hr hg hm hk hb .nil xi ha hdb he hpl pins s σ H Q I ⟨ρ,O,E,?_⟩
  rw[q]
  exact hq'
 | ok ts=>
  rw[q]at hq'
  have hq2:Post X H (g ts) λt H'=> ∀v,Rep X.K O H' t v->Q v H':=hq'
  cases q2:g ts with
  | bad=>rw[q2]at hq2;exact hq2.elim
  | ok t=>
   rw[q2]at hq2;refine tH (E:=E0) F.h hr hg hm hk hb .nil xi ha hdb he hpl pins s σ H Q I ⟨ρ,O,E,?_⟩
   rw[q];intro H1 s1 vs rs;rw[IA];refine⟨ts,O,rs,(E.same s1).mtb,hl ρ ts q,?_⟩
   rw[q2]
   exact λv H' s2 r=>hq2 H' (s1.trans s2) v r
  | err c=>
   rw[q2]at hq2;refine Jr (iz I hg hm ?_ hdb)
   refine Oj (h₀:=X.base) I.ok.mod.kin hk (bK (ha pos pins s σ H (λvs H'=>Same H H'/\Reps X.K O H' ts vs) I ⟨ρ,O,E,?_⟩) (λus s1 ⟨vs,H1,I1,r,sm,rs⟩=>⟨I1.kIn,?_⟩)) he hpl
   ·rw[q];exact λH' sm vs rs=>⟨sm,rs⟩
   ·have hlen:us.length=ps.length:=by rw[<-r.length,<-rs.length,hl ρ ts q,hps]
    have hb':=hb s1 us I1.kIn (by rw[IA];exact hlen)
    rw[IA]at hb';refine wpAny_call (NK (F.x X.A X.stack s1 H1 ⟨us,[]⟩ us vs O ts c (λr s'=>match r with | .error ev=>X.xe ev s' | _=>False) hr I1.G5 hb' r rs (E.same sm).mtb (hl ρ ts q) q2 λev s' w=> ?_) λr s' hq=> ?_)
    ·obtain⟨ea,T,C,H',rfl,hmc,ho,hbare,hun,hok,sm2,hea,heo,fl,hT,hTo⟩:=w
     have I2:Inv X pins σ H' s':=I1.GX ho hun hok hbare (λb z=>absurd z (by simp))
     exact hq2 pins _ _ ⟨ea,some T,C,σ,H',rfl,hmc,I2,λb o q _=>sm2 b o (sm b o q),hea,λhex=>fQ I1 hex heo,fl,(λt zt=>by cases zt;exact⟨hT,λhex=>fQ I1 hex hTo⟩),λpp hpp=>⟨λzz=>(by have:=(I1.pin pp hpp).1;rw[zz,heo]at this;cases this),λzz=>(by cases zz;have:=(I1.pin pp hpp).1;rw[hTo]at this;cases this)⟩⟩
    ·cases r with
     | error ev=>exact hq
     | ok fl=>exact hq.elim
def yQ (X:Cx)(g:T->En->Rs En):TG:=λv σ H Q=> ∃ρ O M t,EnvM X.K O M H ρ σ/\Rep X.K O H t v/\match g t ρ with
 | .ok ρ'=> ∀σ',EnvM X.K O M H ρ' σ'->Q σ' H
 | _=>False
abbrev yW (X:Cx)(tg:Expr)(g:T->En->Rs En):Prop:=PG X tg (yQ X g)
def tPGs (X:Cx)(g:List T->En->Rs En):A3:=λvs σ H Q=> ∃ρ O M ts,EnvM X.K O M H ρ σ/\Reps X.K O H ts vs/\match g ts ρ with
 | .ok ρ'=> ∀σ',EnvM X.K O M H ρ' σ'->Q σ' H
 | _=>False
abbrev yK (X:Cx)(tg:List Expr)(g:List T->En->Rs En):Prop:=PGs X tg (tPGs X g)
theorem PG.imp {X:Cx}{e:Expr}{t t':TG}(h:PG X e t)(w:∀v σ H Q,t' v σ H Q->t v σ H Q):PG X e t':=λpins s σ H v u Q I r q=>h pins s σ H v u Q I r (w v σ H Q q)
theorem PGs.imp {X:Cx}{e:List Expr}{t t':A3}(h:PGs X e t)(w:∀v σ H Q,t' v σ H Q->t v σ H Q):PGs X e t':=λpins s σ H v u Q I r q=>h pins s σ H v u Q I r (w v σ H Q q)
def gN (i:Nat)(t:T)(ρ:En):Rs En:=if i<ρ.length then .ok (ρ.set i (.va t))else .bad
theorem EnvM.set {K:Ho}{O:Ow}{M:Mn}{H:Hp}{ρ:En}{σ:L2.St}{i:Nat}{t:T}{v:V}(E:EnvM K O M H ρ σ)(hi:i<ρ.length)(r:Rep K O H t v):EnvM K O M H (ρ.set i (.va t)) (σ.set i (some v)) where
 len:=by rw[JB,JB];exact E.len
 val:=λj u e=>by
  by_cases hj:i=j
  ·subst hj
   rw[Im hi]at e
   cases e;exact⟨v,Im (by rw[<-E.len];exact hi),r⟩
  ·rw[Ii hj]at e
   obtain⟨w,e1,e2⟩:=E.val j u e;exact⟨w,by rw[Ii hj];exact e1,e2⟩
 own:=λj o e=>by
  by_cases hj:i=j
  ·subst hj
   rw[Im hi]at e
   cases e
  ·rw[Ii hj]at e
   obtain⟨w,e1,e2⟩:=E.own j o e;exact⟨w,by rw[Ii hj];exact e1,e2⟩
 sub:=E.sub
 dis:=E.dis
 trk:=E.trk
theorem zw (i:Nat)(hN:X.N.Nodup)(hi:autoParam (X.N[i]? =some x) u_)(hx:autoParam (Loc X.env.scope x) y_)(hf:autoParam (X.fn x=true\/X.env.scope.names.lookup x=some .local) r_):yW X (.Name x pos) (gN i):=
 PG.imp (zM hN hi hx hf) λv σ H Q hh_=>by
  obtain⟨ρ,O,M,t,E,r,h⟩:=hh_;unfold gN at h
  split at h
  ·rename_i ρ' e
   split at e
   ·rename_i hl
    cases e;exact h _ (E.set hl r)
   ·cases e
  ·exact h.elim
def Bq (ts:List T)(ρ:En):Rs En:=match ts with
 | [] => .ok ρ
 | _=> .bad
def vk (g:T->En->Rs En)(gs:List T->En->Rs En)(ts:List T)(ρ:En):Rs En:=match ts with
 | t::r=>do
  let ρ1 <-g t ρ
  gs r ρ1
 | [] => .bad
theorem zv:yK X [] Bq:=PGs.imp zL λvs σ H Q hh_=>by
 obtain⟨ρ,O,M,ts,E,r,h⟩:=hh_;unfold Bq at h
 cases ts with
 | nil=>exact⟨Reps.Do.mp r,h σ E⟩
 | cons _ _=>exact h.elim
theorem wV {g:T->En->Rs En}{gs:List T->En->Rs En}(h1:yW X e g)(h2:yK X es gs)
  (hs:autoParam ((JM (e::es) X.env).map (·.2)=assign e X.env::(JM es X.env).map (·.2)) u_):yK X (e::es) (vk g gs):=
 PGs.imp (xc h1 h2 hs) λvs σ H Q hh_=>by
  obtain⟨ρ,O,M,ts,E,r,h⟩:=hh_
  cases ts with
  | nil=>exact h.elim
  | cons t ts=>
   obtain⟨v,ws,rfl,p,q⟩:=Reps.AC.mp r;refine⟨v,ws,rfl,ρ,O,M,t,E,p,?_⟩
   unfold vk at h
   cases e1:g t ρ with
   | bad=>simp[e1]at h
   | err c=>simp[e1]at h
   | ok ρ1=>
    intro σ1 E1;refine⟨ρ1,O,M,ts,E1,q,?_⟩
    simp only[e1,aH]at h
    cases e2:gs ts ρ1 with
    | bad=>simp[e2]at h
    | err c=>simp[e2]at h
    | ok ρ2=>
     simp only[e2]at h;exact λσ2 E2=>h σ2 E2
def gT (n:Nat)(gs:List T->En->Rs En)(t:T)(ρ:En):Rs En:=match t with
 | .tup l=>if l.length=n then gs l ρ else .bad
 | _=> .bad
theorem Cq {k n:Nat}{gs:List T->En->Rs En}(hc:X.calm=true)(h:yK X es gs)(hn:autoParam ((JM es X.env).length=n) u_)(hst:autoParam ((JM es X.env).findIdx? (·.1)=none) u_):yW X (.Tuple es k pos) (gT n gs):=
 PG.imp (CB hc h hn hst) λv σ H Q hh_=>by
  obtain⟨ρ,O,M,t,E,r,h⟩:=hh_;unfold gT at h
  cases t with
  | tup l=>
   obtain⟨a,vs,rfl,n',q,z⟩:=Rep.FB.mp r
   by_cases hl:l.length=n
   ·simp only[if_pos hl]at h
    exact⟨a,vs,rfl,SqT.of q,by rw[<-z.length];exact hl,ρ,O,M,l,E,z,h⟩
   ·simp only[if_neg hl]at h
  | _=>exact h.elim
theorem SqL.nn {K:Ho}{H:Hp}{a:Addr}{vs:List V}(q:SqL K H a vs):¬ Nw K H a:=λ⟨h1,h2⟩=>by
 rcases q with(q | ⟨o,q⟩) | ⟨o,_,_,q,_⟩
 ·rw[h1]at q;cases q
 ·rw[h1]at q;cases q
 ·rw[h2]at q;cases q
mutual
theorem Rep.more {K:Ho}{O O':Ow}{H:Hp}(sub:∀a,O' a->O a\/Nw K H a):∀{t:T} {v:V},Rep K O H t v->Rep K O' H t v
 | .non,_,r=>by unfold Rep at r ⊢;exact r
 | .bl _,_,r=>by unfold Rep at r ⊢;exact r
 | .int _,_,r=>by unfold Rep at r ⊢;exact r
 | .str _,_,r=>by unfold Rep at r ⊢;exact r
 | .tup l,_,r=>by
  unfold Rep at r ⊢;obtain⟨a,vs,e,n,q,z⟩:=r
  exact⟨a,vs,e,λp=>(sub a p).elim n λw=>(by rw[w.1]at q;cases q),q,Reps.more sub z⟩
 | .lst l,_,r=>by
  unfold Rep at r ⊢;obtain⟨a,vs,e,n,q,z⟩:=r
  exact⟨a,vs,e,λp=>(sub a p).elim n λw=>(by rw[w.1]at q;cases q),q,Reps.more sub z⟩
 | .scr l,_,r=>by
  unfold Rep at r ⊢;obtain⟨a,e,n,q⟩:=r
  exact⟨a,e,λp=>(sub a p).elim n λw=>Tr.SqL.nn q w,q⟩
 | .dct ks ts,_,r=>by
  unfold Rep at r ⊢;obtain⟨a,kvs,e,n,q,k,z⟩:=r
  exact⟨a,kvs,e,λp=>(sub a p).elim n λw=>(by rcases q with q | ⟨_,q⟩ <;> rw[w.1]at q <;> cases q),q,k,Reps.more sub z⟩
 | .ob C ns ts,_,r=>by
  unfold Rep at r ⊢;obtain⟨a,dx,fs,e,n,q,k,z⟩:=r;exact⟨a,dx,fs,e,⟨⟨λp=>(sub a p).elim n.1.1 λw=>(by rw[w.1]at q;cases q),λp=>(sub dx p).elim n.1.2.1 λw=>(by have:=n.1.2.2;rw[w.1]at this;cases this),n.1.2.2⟩,n.2⟩,q,k,Reps.more sub z⟩
theorem Reps.more {K:Ho}{O O':Ow}{H:Hp}(sub:∀a,O' a->O a\/Nw K H a):∀{l:List T} {vs:List V},Reps K O H l vs->Reps K O' H l vs
 | [],_,r=>by unfold Reps at r ⊢;exact r
 | t::l,_,r=>by
  unfold Reps at r ⊢;obtain⟨v,ws,e,p,q⟩:=r;exact⟨v,ws,e,Rep.more sub p,Reps.more sub q⟩
end
theorem Rep.move {K:Ho}{O O' P:Ow}{H H':Hp}{t:T}{v:V}(hP:∀a,P a->O a\/Nw K H a)(hO:∀a,O' a->O a\/Nw K H a)(h:SameO P H H')(r:Rep K O H t v):Rep K O' H' t v:=
 Rep.less (O:=λa=>O' a\/P a) (λ_ z=> .inl z) (Rep.keep h (λ_ z=> .inr z) (Rep.more (λa z=>z.elim (hO a) (hP a)) r))
theorem Reps.move {K:Ho}{O O' P:Ow}{H H':Hp}{t:List T}{v:List V}(hP:∀a,P a->O a\/Nw K H a)(hO:∀a,O' a->O a\/Nw K H a)(h:SameO P H H')(r:Reps K O H t v):Reps K O' H' t v:=
 Reps.less (O:=λa=>O' a\/P a) (λ_ z=> .inl z) (Reps.keep h (λ_ z=> .inr z) (Reps.more (λa z=>z.elim (hO a) (hP a)) r))
def ItT (K:Ho)(O:Ow)(H:Hp)(ts:List T)(J:It):Prop:=∀(P O':Ow),(∀a,P a->O a\/Nw K H a)->(∀a,O' a->O a\/Nw K H a)->∀(i:Nat) (Hc:Hp),SameO P H Hc->(∀a,O' a->∃o,Hc a=some o) →
 (ts.length<=i->J.stop i Hc)/\(∀t,ts[i]? =some t->J.go i Hc/\∀x Hc',J.yld i Hc x Hc'->Same Hc Hc'/\Rep K O' Hc' t x)
def tPI (X:Cx)(f:En->Rs (List T)):TI:=λσ H R=> ∃ρ O,EnvO X.K O H ρ σ/\Post X H (f ρ) λts H'=> ∀J,ItT X.K O H' ts J->R J H'
abbrev vK (X:Cx)(tg iter:Expr)(f:En->Rs (List T)):Prop:=PI X tg iter (tPI X f)
theorem PI.imp {tg iter:Expr}{t t':TI}(h:PI X tg iter t)(w:∀σ H R,t' σ H R->t σ H R):PI X tg iter t':=λpins s σ H R I q=>h pins s σ H R I (w σ H R q)
def iL (f:En->Rs T)(ρ:En):Rs (List T):=do
 let x <-f ρ
 match x with
 | .lst l=> .ok l
 | _=> .bad
def iT (f:En->Rs T)(ρ:En):Rs (List T):=do
 let x <-f ρ
 match x with
 | .tup l=> .ok l
 | _=> .bad
theorem tu {tg:Expr}(ha:cx X a fa):vK X tg a (iL fa):=PI.imp (zJ ha) λσ H R hh_=>by
 obtain⟨ρ,O,E,h⟩:=hh_;obtain⟨ρ1,O1,E1,h1⟩:=aK E h;refine⟨ρ1,O1,E1,Post.mono h1 λts H1 s1 q vs r=> ?_⟩
 obtain⟨t',r',s',E',q'⟩:=q vs r
 split at q'
 ·rename_i l
  obtain⟨a,ws,rfl,n,q,z⟩:=Rep.Fk.mp r';refine⟨a,rfl,⟨ws,SqL.of q⟩,q' H1 (Same.refl H1) _ λP O' hP hO i Hc hs ht=> ?_⟩
  have hnP:¬ P a:=λz=>(hP a z).elim n λw=>by rw[w.1]at q;cases q
  refine⟨λhi=>⟨ws,SqL.of (hs _ _ q hnP),by rw[<-z.length];exact hi⟩,λt ht'=> ?_⟩
  obtain⟨v,e1,e2⟩:=z.get ht';refine⟨⟨ws,v,SqL.of (hs _ _ q hnP),e1⟩,λx Hc' y=> ?_⟩
  obtain⟨e,y⟩:=y;subst e
  have:=y ws (SqL.of (hs _ _ q hnP));rw[e1]at this;cases this;exact⟨Same.refl _,e2.move hP hO hs⟩
 ·exact q'.elim
theorem Co {tg:Expr}(ha:cx X a fa):vK X tg a (iT fa):=PI.imp (CA ha) λσ H R hh_=>by
 obtain⟨ρ,O,E,h⟩:=hh_;obtain⟨ρ1,O1,E1,h1⟩:=aK E h;refine⟨ρ1,O1,E1,Post.mono h1 λts H1 s1 q vs r=> ?_⟩
 obtain⟨t',r',s',E',q'⟩:=q vs r
 split at q'
 ·rename_i l
  obtain⟨a,ws,rfl,n,q,z⟩:=Rep.FB.mp r';refine⟨a,rfl,⟨ws,SqT.of q⟩,q' H1 (Same.refl H1) _ λP O' hP hO i Hc hs ht=> ?_⟩
  have hnP:¬ P a:=λz=>(hP a z).elim n λw=>by rw[w.1]at q;cases q
  refine⟨λhi=>⟨ws,SqT.of (hs _ _ q hnP),by rw[<-z.length];exact hi⟩,λt ht'=> ?_⟩
  obtain⟨v,e1,e2⟩:=z.get ht';refine⟨⟨ws,v,SqT.of (hs _ _ q hnP),e1⟩,λx Hc' y=> ?_⟩
  obtain⟨e,y⟩:=y;subst e
  have:=y ws (SqT.of (hs _ _ q hnP));rw[e1]at this;cases this;exact⟨Same.refl _,e2.move hP hO hs⟩
 ·exact q'.elim
def rng (lo hi:Int):List T:=(Iy (hi - lo).toNat).map λ(k:Nat)=>T.int (lo+(k:Int))
def yS (i:Int):Bool:=decide (-(2 ^ 62)<=i)&&decide (i<2 ^ 62)
def iR (f:En->Rs (List T))(ρ:En):Rs (List T):=do
 let x <-f ρ
 match x with
 | [.int j] =>if yS j then .ok (rng 0 j)else .bad
 | [.int i,.int j] =>if yS i&&yS j then .ok (rng i j)else .bad
 | _=> .bad
theorem o6 {i:Int}(h:yS i=true) : -(2 ^ 62)<=i/\i<2 ^ 62:=by
 unfold yS at h;rw[Hu]at h;exact⟨of_decide_eq_true h.1,of_decide_eq_true h.2⟩
theorem tV {K:Ho}{O:Ow}{H:Hp}(lo hi:Int):ItT K O H (rng lo hi) (Itr lo (hi - lo).toNat):=λP O' hP hO i Hc hs ht=>by
 refine⟨λh=> ?_,λt h=> ?_⟩
 ·show(hi - lo).toNat<=i
  unfold rng at h;rw[Hw,Kn]at h;exact h
 ·unfold rng at h
  rw[Ib]at h
  by_cases hi':i<(hi - lo).toNat
  ·rw[Oc hi']at h
   cases h;refine⟨hi',λx Hc' y=> ?_⟩
   obtain⟨e,y⟩:=y;subst e y;exact⟨Same.refl _,Rep.GK _⟩
  ·rw[JQ (by simpa using hi')]at h
   cases h
theorem uU {tg:Expr}(hm:X.mg "range" =none)(ha:pQ X [a] fs)(hg:autoParam (Gl X "range") u_)(hs:autoParam (HX [a] X.env= [(false,eval a X.env)]) u_):vK X tg (.Call (.Name "range" p) [a] [] pos) (iR fs):=by
 intro pins s σ H R I ⟨ρ,O,E,h⟩
 have h1:=d8 E h;refine Call_ (eK I hg hm boot_range (JY (bK (ha pos pins s σ H _ I h1) λus s1 ⟨vs,H1,I1,r1,ts,rs,s',E',q1⟩=> ?_) hs rfl))
 split at q1
 ·obtain⟨v,rfl,r⟩:=rs.one
  split at q1
  ·rename_i j hj
   obtain⟨b1,b2⟩:=o6 hj;cases Rep.Da.mp r
   cases r1 with
   | cons r rr=>
    cases rr;obtain⟨t,rfl⟩:=r;exact call_range_1 (ql I1 (by omega) (by omega) b1 b2 (q1 H1 (Same.refl H1) _ (tV 0 j)))
  ·exact q1.elim
 ·obtain⟨v,ws,rfl,p1,q⟩:=Reps.AC.mp rs
  obtain⟨v2,rfl,r⟩:=q.one
  split at q1
  ·rename_i i j hj
   rw[Hu]at hj;obtain⟨b1,b2⟩:=o6 hj.1;obtain⟨b3,b4⟩:=o6 hj.2;cases Rep.Da.mp p1;cases Rep.Da.mp r
   cases r1 with
   | cons r rr=>
    cases rr with
    | cons r' rr=>
     cases rr;obtain⟨t,rfl⟩:=r;obtain⟨t',rfl⟩:=r';exact call_range_2 (ql I1 b1 b2 b3 b4 (q1 H1 (Same.refl H1) _ (tV i j)))
  ·exact q1.elim
 ·exact q1.elim
end
section
variable {X:Cx}{a b c e:Expr}{es:List Expr}{fa fb fc:En->Rs T}{fs:En->Rs (List T)}{pos p p2:Pos}{x:Str}
def cG (src:List (Option Nat))(ρ:En):En:=src.map λo=>match o with
 | some i=>match ρ[i]? with
  | some (.va t)=> .va t
  | _=> .em
 | none=> .em
def cU (tgt:T->En->Rs En)(fc:En->Rs Bool)(fe:En->Rs T):List T->En->Rs (List T)
 | [],_=> .ok []
 | t::r,ρ=>do
  let ρ1 <-tgt t ρ
  let k <-fc ρ1
  if k then do
   let y <-fe ρ1
   let ys <-cU tgt fc fe r ρ1
   .ok (y::ys)
  else cU tgt fc fe r ρ1
def eH (fi:En->Rs (List T))(src:List (Option Nat))(tgt:T->En->Rs En)(fc:En->Rs Bool)(fe:En->Rs T)(ρ:En):Rs T:=do
 let ts <-fi ρ
 if ts.length<=sizeLine then match cU tgt fc fe ts (cG src ρ)with
  | .ok ys=> .ok (.lst ys)
  | _=> .bad
 else .bad
def bT (_:En):Rs Bool:=.ok true
def tP0 (K:Ho)(f:En->Rs T):TE:=λσ H Q=> ∃ρ O,EnvO K O H ρ σ/\match f ρ with
 | .ok t=> ∀H',Same H H'->∀v,Rep K O H' t v->Q v H'
 | _=>False
def tPT0 (K:Ho)(f:En->Rs Bool):TT:=λσ H Q=> ∃ρ O,EnvO K O H ρ σ/\match f ρ with
 | .ok t=> ∀H',Same H H'->Q t H'
 | _=>False
theorem tP0.up {f:En->Rs T}{σ:L2.St}{H:Hp}{Q:VK}(h:tP0 X.K f σ H Q):tP X f σ H Q:=by
 obtain⟨ρ,O,E,h⟩:=h;refine⟨ρ,O,E,?_⟩
 cases q:f ρ with
 | ok t=>rw[q]at h;exact h
 | err c=>rw[q]at h;exact h.elim
 | bad=>rw[q]at h;exact h.elim
theorem tPT0.up {f:En->Rs Bool}{σ:L2.St}{H:Hp}{Q:Bool->Hp->Prop}(h:tPT0 X.K f σ H Q):wA X f σ H Q:=by
 obtain⟨ρ,O,E,h⟩:=h;refine⟨ρ,O,E,?_⟩
 cases q:f ρ with
 | ok t=>rw[q]at h;exact h
 | err c=>rw[q]at h;exact h.elim
 | bad=>rw[q]at h;exact h.elim
theorem zq:ro X [] (wA X bT):=λpins s σ H Q I ⟨ρ,O,E,h⟩=>zH pins s σ H Q I (h H (Same.refl H))
theorem zp {f:En->Rs Bool}(h:uB X c f):ro X [c] (wA X f):=zG h
abbrev noM:Mn:=λ_ _=>False
theorem ve {src:List (Option Nat)}{ρ:En}{j:Nat}{o:OT}(e:(cG src ρ)[j]? =some (.ow o)):False:=by
 unfold cG at e;rw[Ib]at e
 cases q:src[j]? with
 | none=>rw[q]at e;cases e
 | some o'=>
  rw[q]at e
  cases o' with
  | none=>cases e
  | some i=>
   have e':(match ρ[i]? with | some (Sl.va t)=>Sl.va t | _=>Sl.em)=Sl.ow o:=Ik e
   split at e' <;> cases e'
theorem xO {K:Ho}{O:Ow}{H:Hp}{ρ:En}{σ:L2.St}(E:EnvO K O H ρ σ)(src:List (Option Nat)):EnvM K O noM H (cG src ρ) (cY src σ) where
 len:=by unfold cG cY;rw[Hw,Hw]
 val:=λj t e=>by
  unfold cG at e;unfold cY;rw[Ib]at e ⊢
  cases q:src[j]? with
  | none=>rw[q]at e;cases e
  | some o=>
   rw[q]at e
   cases o with
   | none=>cases e
   | some i=>
    have e':(match ρ[i]? with | some (Sl.va t)=>Sl.va t | _=>Sl.em)=Sl.va t:=Ik e
    cases q2:ρ[i]? with
    | none=>rw[q2]at e';cases e'
    | some z=>
     rw[q2]at e'
     cases z with
     | em=>cases e'
     | ow l=>cases e'
     | va t'=>
      cases e';obtain⟨v,e1,e2⟩:=E.val i _ q2;exact⟨v,by simp[e1],e2⟩
 own:=λj o e=>(ve e).elim
 sub:=λ_ _ z=>z.elim
 dis:=λ_ _ _ z=>z.elim
 trk:=E.mtb
theorem ORep.no {K:Ho}{O:Ow}{H:Hp}{o:OT}{v:V}(r:ORep K O xu H o v):False:=by
 cases o with
 | lst l=>obtain⟨a,_,_,e,_⟩:=r;exact(e a).mpr rfl
 | dct ks ts=>obtain⟨a,_,_,e,_⟩:=r;exact(e a).mpr rfl
 | dd ks rows=>obtain⟨a,_,_,_,e,_⟩:=r;exact(e a).mpr (.inl rfl)
 | ob C ns ls=>obtain⟨a,_,_,_,e,_⟩:=r;exact(e a).mpr (.inl rfl)
 | ll ls=>obtain⟨a,_,_,e,_⟩:=r;exact(e a).mpr (.inl rfl)
theorem EnvM.move {K:Ho}{O O' P:Ow}{H H':Hp}{ρ:En}{σ:L2.St}(E:EnvM K O noM H ρ σ)(hP:∀a,P a->O a\/Nw K H a)(hO:∀a,O' a->O a\/Nw K H a)(h:SameO P H H')(trk:∀a,O' a->Mtb H' a):EnvM K O' noM H' ρ σ where
 len:=E.len
 val:=λi t e=>let ⟨v,e1,e2⟩:=E.val i t e;⟨v,e1,e2.move hP hO h⟩
 own:=λi o e=>let ⟨_,_,r⟩:=E.own i o e;r.no.elim
 sub:=λ_ _ z=>z.elim
 dis:=λ_ _ _ z=>z.elim
 trk:=trk
def Ei (fi:En->Rs (List T))(src:List (Option Nat))(tgt:T->En->Rs En)(fc:En->Rs Bool)(fe:En->Rs T)(ρ:En):Rs (List T):=fi ρ >>= λts=>if ts.length<=sizeLine then(match cU tgt fc fe ts (cG src ρ)with | .ok ys=>Rs.ok ys | _=> .bad)else .bad
theorem xN {src:List (Option Nat)}{fi:En->Rs (List T)}{tgt:T->En->Rs En}{fc:En->Rs Bool}{fe:En->Rs T}{ρ:En}:eH fi src tgt fc fe ρ=Ei fi src tgt fc fe ρ >>= λl=> .ok (.lst l):=by
 unfold eH Ei
 cases fi ρ with
 | bad=>rfl
 | err c=>rfl
 | ok ts=>
  rw[aH,aH]
  by_cases hz:ts.length<=sizeLine
  ·rw[if_pos hz,if_pos hz]
   cases cU tgt fc fe ts (cG src ρ) <;> rfl
  ·rw[if_neg hz,if_neg hz];rfl
abbrev LcW (K:Ho)(O':Ow)(D:Addr)(H1:Hp)(ts:List T)(tgt:T->En->Rs En)(fc:En->Rs Bool)(fe:En->Rs T)(all:List T)(i m:Nat)(σ':L2.St)(ys:List V)(H':Hp):Prop:=m=ts.length - i/\i<=ts.length/\ys.length<=i/\H' D=some (.lst ys)/\SameO (λa=>a=D) (dB H1 D (.lst [])) H'/\∃ρ' yts zs,EnvM K O' noM H' ρ' σ'/\Reps K O' H' yts ys/\cU tgt fc fe (ts.drop i) ρ'= .ok zs/\yts++zs=all
theorem LcW.use {K:Ho}{O':Ow}{D:Addr}{H1 H':Hp}{ts all:List T}{tgt:T->En->Rs En}{fc:En->Rs Bool}{fe:En->Rs T}{i m:Nat}{σ':L2.St}{ys:List V}(w:LcW K O' D H1 ts tgt fc fe all i m σ' ys H'){Pp:Prop}(k:m=ts.length - i->i<=ts.length->ys.length<=i->H' D=some (.lst ys)->SameO (λa=>a=D) (dB H1 D (.lst [])) H'->∀ρ' yts zs,EnvM K O' noM H' ρ' σ'->Reps K O' H' yts ys->cU tgt fc fe (ts.drop i) ρ'= .ok zs->yts++zs=all->Pp):Pp:=by
 obtain⟨a1,a2,a3,a4,a5,ρ',yts,zs,b1,b2,b3,b4⟩:=w;exact k a1 a2 a3 a4 a5 ρ' yts zs b1 b2 b3 b4
theorem xI {src:List (Option Nat)}{fi:En->Rs (List T)}{tgt:T->En->Rs En}{fc:En->Rs Bool}{fe:En->Rs T}{σ:L2.St}{H:Hp}{Q:VK}{ρ:En}{O:Ow}(E:EnvO X.K O H ρ σ)
  (hq1:Post X H (Ei fi src tgt fc fe ρ) λall H1=> ∀D ys H',Nw X.K H1 D->Same H1 H'->H' D=some (.lst ys)->Reps X.K (λa=>O a\/a=D) H' all ys->Q (.ref D) H'):BQ X.K (tPI X fi) src (yQ X tgt) (tPT0 X.K fc) (tP0 X.K fe) σ H Q:=by
 unfold Ei at hq1;refine⟨ρ,O,E,Post.mono hq1.bind λts H1 s1 q1 J hJ D hD hK=> ?_⟩
 have E1:=E.same s1
 by_cases hz:ts.length<=sizeLine
 ·rw[if_pos hz]at q1
  cases hall:cU tgt fc fe ts (cG src ρ)with
  | bad=>rw[hall]at q1;exact q1.elim
  | err c=>rw[hall]at q1;exact q1.elim
  | ok all=>
   rw[hall]at q1
   have q2:∀D ys H',Nw X.K H1 D->Same H1 H'->H' D=some (.lst ys)->Reps X.K (λa=>O a\/a=D) H' all ys->Q (.ref D) H':=q1 H1 (Same.refl H1)
   have nD:Nw X.K H1 D:=⟨hD,hK⟩
   let O':Ow:=λa=>O a\/a=D
   have subO:∀a,O' a->O a\/Nw X.K H1 a:=λa z=>z.elim .inl λw=> .inr (w▸nD)
   -- the walk's word
   refine⟨LcW X.K O' D H1 ts tgt fc fe all,⟨ts.length,?_⟩,?_⟩
   ·have sN:Same H1 (dB H1 D (.lst [])):=aT hD _
    refine⟨by omega,Je _,HE _,bx,λb o e _=>e,cG src ρ,[],all,?_,Reps.GJ,by simpa using hall,rfl⟩
    have E2:EnvM X.K O noM H1 (cG src ρ) (cY src σ):=xO E1 src
    exact E2.move (P:=λa=>a=D) (λa z=> .inr (z▸nD)) subO (λb o e _=>sN b o e) λa z=>by
     rcases z with z | z
     ·exact(E1.mtb a z).same sN
     ·rw[z];exact .inl ⟨_,bx⟩
   ·refine λi m σ' ys H' w=>w.use λe0 hi' hyl hDl hsm ρ' yts zs E' ry hl hyz=> ?_
    subst e0;refine⟨hDl,?_⟩
    have sm1:SameO (λa=>a=D) H1 H':=λb o e nb=>hsm b o (by rw[a8 nb];exact e) nb
    have it:=hJ (λa=>a=D) O' (λa z=> .inr (z▸nD)) subO i H' sm1 (λa z=>(E'.trk a z).some)
    by_cases hlt:i<ts.length
    ·refine .inr ?_
     have hti:ts[i]? =some ts[i]:=by simp
     obtain⟨go,yl⟩:=it.2 ts[i] hti;refine⟨go,by omega,λxx Hc y=> ?_⟩
     obtain⟨sc,rx⟩:=yl xx Hc y
     have Ec:=E'.same sc;rw[JP hlt]at hl;unfold cU at hl;refine⟨ρ',O',noM,ts[i],Ec,rx,?_⟩
     cases e1:tgt ts[i] ρ' with
     | bad=>rw[e1]at hl;cases hl
     | err cc=>rw[e1]at hl;cases hl
     | ok ρ1=>
      rw[e1,aH]at hl;intro σ1 Eg;refine⟨ρ1,O',⟨noM,Eg⟩,?_⟩
      cases e2:fc ρ1 with
      | bad=>rw[e2]at hl;cases hl
      | err cc=>rw[e2]at hl;cases hl
      | ok k=>
       rw[e2,aH]at hl;intro H3 s3
       have E3:=Eg.same s3
       have tot:Same H' H3:=sc.trans s3
       have D3:H3 D=some (.lst ys):=tot _ _ hDl
       have sm3:SameO (λa=>a=D) (dB H1 D (.lst [])) H3:=λb o e nb=>tot _ _ (hsm b o e nb)
       cases k with
       | false=>
        refine L2.iteF ?_
        have hl':cU tgt fc fe (ts.drop (i+1)) ρ1= .ok zs:=by simpa using hl
        exact⟨ts.length - (i+1),by omega,rfl,hlt,by omega,D3,sm3,ρ1,yts,zs,E3,ry.same tot,hl',hyz⟩
       | true=>
        refine L2.iteT ?_
        have hl':(fe ρ1 >>= λy=>cU tgt fc fe (ts.drop (i+1)) ρ1 >>= λys=>Rs.ok (y::ys))= .ok zs:=by simpa using hl
        refine⟨ρ1,O',⟨noM,E3⟩,?_⟩
        cases e3:fe ρ1 with
        | bad=>rw[e3]at hl';cases hl'
        | err cc=>rw[e3]at hl';cases hl'
        | ok yt=>
         rw[e3,aH]at hl'
         cases e4:cU tgt fc fe (ts.drop (i+1)) ρ1 with
         | bad=>rw[e4]at hl';cases hl'
         | err cc=>rw[e4]at hl';cases hl'
         | ok zs'=>
          rw[e4,aH]at hl'
          have hzs:yt::zs'=zs:=by injection hl'
          intro H4 s4 v rv
          have D4:H4 D=some (.lst ys):=s4 _ _ D3
          have E4:=E3.same s4
          have tot4:Same H' H4:=tot.trans s4
          have smD:SameO (λa=>a=D) H4 (dB H4 D (.lst (ys++ [v]))):=λb o e nb=>by rw[a8 nb];exact e
          have inO:∀a,a=D->O' a\/Nw X.K H4 a:=λa z=> .inl (.inr z)
          refine⟨D4,ts.length - (i+1),by omega,rfl,hlt,?_,bx,λb o e nb=>smD b o (s4 _ _ (sm3 b o e nb)) nb,ρ1,yts++ [yt],zs',?_,?_,e4,?_⟩
          ·rw[Ht,KI];omega
          ·exact E4.move inO (λa z=> .inl z) smD λaa z=>by
            by_cases hz:aa=D
            ·rw[hz];exact .inl ⟨_,bx⟩
            ·unfold Mtb;rw[a8 hz];exact E4.trk aa z
          ·have r1:Reps X.K O' H4 (yts++ [yt]) (ys++ [v]):=(ry.same tot4).append (Reps.GE rv Reps.GJ)
           exact r1.move inO (λa z=> .inl z) smD
          ·rw[IC,Nv,hzs];exact hyz
    ·refine .inl ⟨it.1 (by omega),?_⟩
     have hi2:i=ts.length:=by omega
     subst hi2;rw[M8]at hl
     have hzs:zs= []:=by unfold cU at hl;injection hl with hl;exact hl.symm
     subst hzs;rw[IA]at hyz;subst hyz
     have sF:Same H1 H':=λb o e=>sm1 b o e λz=>by rw[z,hD]at e;cases e
     exact q2 D ys H' nD sF hDl ry
 ·rw[if_neg hz]at q1
  exact q1.elim
theorem oX {src:List (Option Nat)}{fi:En->Rs (List T)}{tgt:T->En->Rs En}{fc:En->Rs Bool}{fe:En->Rs T}{σ:L2.St}{H:Hp}{Q:VK}(h0:tP X (eH fi src tgt fc fe) σ H Q):BQ X.K (tPI X fi) src (yQ X tgt) (tPT0 X.K fc) (tP0 X.K fe) σ H Q:=by
 obtain⟨ρ,O,E,hq⟩:=h0;refine xI E ?_
 have e:eH fi src tgt fc fe ρ=Ei fi src tgt fc fe ρ >>= λl=> .ok (.lst l):=xN
 rw[e]at hq
 cases q:Ei fi src tgt fc fe ρ with
 | bad=>rw[q]at hq;exact hq.elim
 | err c=>rw[q]at hq;exact hq
 | ok l=>
  rw[q,aH]at hq;intro H1 s1 D ys H' nD sD eD rD;exact hq H' (s1.trans sD) _ (Rep.Fk.mpr ⟨D,ys,rfl,λz=>(E.same s1).fresh nD.1 z,eD,rD.less λa z=> .inl z⟩)
theorem q_lc {elt tg iter:Expr}{ifs:List Expr}{scope:KY}{N':List Str}{src:List (Option Nat)}{fi:En->Rs (List T)}{tgt:T->En->Rs En}{fc:En->Rs Bool}{fe:En->Rs T}
  (hc:X.calm=true) (S:LcScope X scope N' src) (hi:vK X tg iter fi)
  (block:∀cl C s₀ H₀ fp,yW (aZ X scope cl N' C s₀ H₀ fp) tg tgt/\ro (aZ X scope cl N' C s₀ H₀ fp) ifs (wA (aZ X scope cl N' C s₀ H₀ fp) fc)/\cx (aZ X scope cl N' C s₀ H₀ fp) elt fe)
  (hs:autoParam (∀x,Ic iter X.env x=pure x) t_) :
  cx X (.ListComp elt [⟨tg,iter,ifs,0⟩] scope pos) (eH fi src tgt fc fe):=by
 have hPG:∀cl C s₀ H₀ fp,PG (aZ X scope cl N' C s₀ H₀ fp) tg (yQ X tgt):=λcl C s₀ H₀ fp=>(block cl C s₀ H₀ fp).1
 have hPI:∀cl C s₀ H₀ fp,ro (aZ X scope cl N' C s₀ H₀ fp) ifs (tPT0 X.K fc):=λcl C s₀ H₀ fp pins s σ H Q I h=>(block cl C s₀ H₀ fp).2.1 pins s σ H Q I (tPT0.up (X:=aZ X scope cl N' C s₀ H₀ fp) h)
 have hPE:∀cl C s₀ H₀ fp,PE (aZ X scope cl N' C s₀ H₀ fp) elt (tP0 X.K fe):=λcl C s₀ H₀ fp pins s σ H Q I h=>(block cl C s₀ H₀ fp).2.2 pins s σ H Q I (tP0.up (X:=aZ X scope cl N' C s₀ H₀ fp) h)
 exact PE.imp (Fv (g:=yQ X tgt) (tc:=tPT0 X.K fc) (te:=tP0 X.K fe) hc S hi (λcl C s₀ H₀ fp=>⟨hPG cl C s₀ H₀ fp,hPI cl C s₀ H₀ fp,hPE cl C s₀ H₀ fp⟩) hs) λσ H Q h=>oX h
inductive Fl where
 | nx (ρ:En) | rt (t:T) | bk (ρ:En) | ct (ρ:En)
def OO (B:Ow)(M:Mn):Ow:=λa=>B a\/M.u a
structure Ev (K:Ho)(B:Ow)(M:Mn)(H:Hp)(ρ:En)(σ:L2.St):Prop where
 env:EnvM K (OO B M) M H ρ σ
 mine:∀a,M.u a->¬ B a
theorem Ev.same {K:Ho}{B:Ow}{M:Mn}{H H':Hp}{ρ:En}{σ:L2.St}(h:Same H H')(e:Ev K B M H ρ σ):Ev K B M H' ρ σ:=⟨e.env.same h,e.mine⟩
theorem Ev.o {K:Ho}{B:Ow}{M:Mn}{H:Hp}{ρ:En}{σ:L2.St}(e:Ev K B M H ρ σ):EnvO K (OO B M) H ρ σ:=⟨M,e.env⟩
def PostF (X:Cx)(B P:Ow)(H:Hp)(r:Rs Fl)(D:Ends):Prop:=match r with
 | .ok (.nx ρ')=> ∀σ' H' M',SameO P H H'->Ev X.K B M' H' ρ' σ'->(∀a,M'.u a->P a\/Nw X.K H a)->D.nx σ' H'
 | .ok (.rt t)=> ∀v H',SameO P H H'->Rep X.K B H' t v->D.rt v H'
 | .ok (.bk ρ')=> ∀σ' H' M',SameO P H H'->Ev X.K B M' H' ρ' σ'->(∀a,M'.u a->P a\/Nw X.K H a)->D.bk σ' H'
 | .ok (.ct ρ')=> ∀σ' H' M',SameO P H H'->Ev X.K B M' H' ρ' σ'->(∀a,M'.u a->P a\/Nw X.K H a)->D.ct σ' H'
 | .err c=>XA X P H c
 | .bad=>False
def Gw (X:Cx)(F:En->Rs Fl):TS:=λD σ H=> ∃ρ B M,Ev X.K B M H ρ σ/\PostF X B M.u H (F ρ) D
abbrev vF (X:Cx)(s:Stmt)(F:En->Rs Fl):Prop:=PS X s (Gw X F)
abbrev ma (X:Cx)(s:List Stmt)(F:En->Rs Fl):Prop:=PSs X s (Gw X F)
theorem PostF.later {B P P1:Ow}{H H1:Hp}{r:Rs Fl}{D:Ends}(h:PostF X B P H r D)(s:SameO P H H1)(sub:∀a,P1 a->P a\/Nw X.K H a):PostF X B P1 H1 r D:=by
 have back:∀a,P1 a\/Nw X.K H1 a->P a\/Nw X.K H a:=λa z=>z.elim (sub a) (iv s)
 cases r with
 | bad=>exact h
 | err c=>exact XA.later h s sub
 | ok f=>
  cases f with
  | nx ρ'=>exact λσ' H' M' s' E' o'=>h σ' H' M' (s.trans s' sub) E' λa z=>back a (o' a z)
  | rt t=>exact λv H' s' r=>h v H' (s.trans s' sub) r
  | bk ρ'=>exact λσ' H' M' s' E' o'=>h σ' H' M' (s.trans s' sub) E' λa z=>back a (o' a z)
  | ct ρ'=>exact λσ' H' M' s' E' o'=>h σ' H' M' (s.trans s' sub) E' λa z=>back a (o' a z)
theorem PostF.xa {B P:Ow}{H:Hp}{c:Str}{D:Ends}(h:PostF X B P H (.err c) D):XA X xu H c:=XA.later (P:=P) h (λ_ _ e _=>e) λ_ z=>z.elim
def sN (ρ:En):Rs Fl:=.ok (.nx ρ)
def aD (F G:En->Rs Fl)(ρ:En):Rs Fl:=do
 let f <-F ρ
 match f with
 | .nx ρ'=>G ρ'
 | f=> .ok f
theorem Cg:ma X [] sN:=PSs.imp tD λD σ H ⟨ρ,B,M,E,h⟩=>h σ H M (λ_ _ e _=>e) E λa z=> .inl z
theorem zl {st:Stmt}{rest:List Stmt}{F G:En->Rs Fl}(h1:vF X st F)(h2:ma X rest G):ma X (st::rest) (aD F G):=PSs.imp (qm h1 h2) λD σ H hh_=>by
 obtain⟨ρ,B,M,E,h⟩:=hh_;refine⟨ρ,B,M,E,?_⟩
 unfold aD at h
 cases q:F ρ with
 | bad=>rw[q]at h;exact h.elim
 | err c=>rw[q]at h;exact h
 | ok f=>
  rw[q,aH]at h
  cases f with
  | nx ρ'=>exact λσ' H' M' s' E' o'=>⟨ρ',B,M',E',h.later s' o'⟩
  | rt t=>exact h
  | bk ρ'=>exact h
  | ct ρ'=>exact h
theorem Cf {st:Stmt}{F:En->Rs Fl}(h:vF X st F):ma X [st] F:=oj h
def aP (f:En->Rs T)(ρ:En):Rs Fl:=do
 let t <-f ρ
 .ok (.rt t)
theorem Ce (ha:cx X a fa):vF X (.Return (some a) pos) (aP fa):=PS.imp (w6 ha) λD σ H hh_=>by
 obtain⟨ρ,B,M,E,h⟩:=hh_;refine⟨ρ,OO B M,E.o,?_⟩
 unfold aP at h
 cases q:fa ρ with
 | bad=>rw[q]at h;exact h.elim
 | err c=>rw[q]at h;exact PostF.xa h
 | ok t=>
  rw[q,aH]at h;exact λH' s v r=>h v H' (SameO.of s) (r.less λ_ z=> .inl z)
def gI (f:En->Rs Bool)(F G:En->Rs Fl)(ρ:En):Rs Fl:=do
 let k <-f ρ
 if k then F ρ else G ρ
theorem E6 {f:En->Rs Bool}{A B:List Stmt}{F G:En->Rs Fl}(hc:uB X c f)(ha:ma X A F)(hb:ma X B G):vF X (.If c A B pos) (gI f F G):=PS.imp (Bc hc ha hb) λD σ H hh_=>by
 obtain⟨ρ,B,M,E,h⟩:=hh_;refine⟨ρ,OO B M,E.o,?_⟩
 unfold gI at h
 cases q:f ρ with
 | bad=>rw[q]at h;exact h.elim
 | err c=>rw[q]at h;exact PostF.xa h
 | ok k=>
  rw[q,aH]at h;intro H' s
  have E':Ev X.K B M H' ρ σ:=E.same s
  cases k with
  | true=>refine L2.iteT ?_;exact⟨ρ,B,M,E',PostF.later (by simpa using h) (SameO.of s) λa z=> .inl z⟩
  | false=>refine L2.iteF ?_;exact⟨ρ,B,M,E',PostF.later (by simpa using h) (SameO.of s) λa z=> .inl z⟩
def bN (f:En->Rs T)(g:T->En->Rs En)(ρ:En):Rs Fl:=do
 let t <-f ρ
 match g t ρ with
 | .ok ρ'=> .ok (.nx ρ')
 | _=> .bad
theorem rO {B:Ow}{M:Mn}{ρ:En}{σ:L2.St}{H:Hp}{D:Ends}{g:T->En->Rs En}{f:En->Rs T}(E:Ev X.K B M H ρ σ)(h:PostF X B M.u H (bN f g ρ) D):wB (tP X f) (yQ X g) D σ H:=by
 refine⟨ρ,OO B M,E.o,?_⟩
 unfold bN at h
 cases q:f ρ with
 | bad=>rw[q]at h;exact h.elim
 | err c=>rw[q]at h;exact PostF.xa h
 | ok t=>
  rw[q,aH]at h;intro H' s v r;refine⟨ρ,OO B M,M,t,E.env.same s,r,?_⟩
  cases q2:g t ρ with
  | bad=>rw[q2]at h;exact h.elim
  | err c=>rw[q2]at h;exact h.elim
  | ok ρ'=>
   rw[q2]at h;exact λσ' E'=>h σ' H' M (SameO.of s) ⟨E',E.mine⟩ λa z=> .inl z
theorem sX {f:En->Rs T}{σ:L2.St}{H:Hp}{Q Q':VK}(h:tP X f σ H Q)(w:∀v H',Q v H'->Q' v H'):tP X f σ H Q':=by
 obtain⟨ρ,O,E,q⟩:=h;exact⟨ρ,O,E,Post.mono q λt H' _ z v r=>w v H' (z v r)⟩
theorem E5 {elt tg iter:Expr}{ifs:List Expr}{scope:KY}{spos py:Pos}{N':List Str}{src:List (Option Nat)}{fi:En->Rs (List T)}{tgt:T->En->Rs En}{fc:En->Rs Bool}{fe:En->Rs T}(i:Nat){y:Str}
  (hc:X.calm=true) (S:LcScope X scope N' src) (hi:vK X tg iter fi)
  (block:∀cl C s₀ H₀ fp,yW (aZ X scope cl N' C s₀ H₀ fp) tg tgt/\ro (aZ X scope cl N' C s₀ H₀ fp) ifs (wA (aZ X scope cl N' C s₀ H₀ fp) fc)/\cx (aZ X scope cl N' C s₀ H₀ fp) elt fe)
  (hN:X.N.Nodup) (hiy:autoParam (X.N[i]? =some y) u_) (hy:autoParam (Loc X.env.scope y) y_) (hsw:autoParam (JT (.ListComp elt [⟨tg,iter,ifs,0⟩] scope pos) (some (.Name y py)) spos.line X.env=pure true) u_)
  (hf:autoParam (X.fn y=true\/X.env.scope.names.lookup y=some .local) r_) (hs:autoParam (∀x,Ic iter X.env x=pure x) t_) :
  vF X (.Assign [.Name y py] (.ListComp elt [⟨tg,iter,ifs,0⟩] scope pos) spos) (bN (eH fi src tgt fc fe) (gN i)):=by
 have hPG:∀cl C s₀ H₀ fp,PG (aZ X scope cl N' C s₀ H₀ fp) tg (yQ X tgt):=λcl C s₀ H₀ fp=>(block cl C s₀ H₀ fp).1
 have hPI:∀cl C s₀ H₀ fp,ro (aZ X scope cl N' C s₀ H₀ fp) ifs (tPT0 X.K fc):=λcl C s₀ H₀ fp pins s σ H Q I h=>(block cl C s₀ H₀ fp).2.1 pins s σ H Q I (tPT0.up (X:=aZ X scope cl N' C s₀ H₀ fp) h)
 have hPE:∀cl C s₀ H₀ fp,PE (aZ X scope cl N' C s₀ H₀ fp) elt (tP0 X.K fe):=λcl C s₀ H₀ fp pins s σ H Q I h=>(block cl C s₀ H₀ fp).2.2 pins s σ H Q I (tP0.up (X:=aZ X scope cl N' C s₀ H₀ fp) h)
 refine PS.imp (Fs (g:=yQ X tgt) (tc:=tPT0 X.K fc) (te:=tP0 X.K fe) (i:=i) hc S hi (λcl C s₀ H₀ fp=>⟨hPG cl C s₀ H₀ fp,hPI cl C s₀ H₀ fp,hPE cl C s₀ H₀ fp⟩) hN hiy hy hsw hf hs) λD σ H ⟨ρ,B,M,E,h⟩=>oX (sX (rO E h) λv H' z=> ?_)
 obtain⟨ρ',O,M',t,E',r,q⟩:=z;unfold gN at q
 split at q
 ·rename_i ρ2 e
  split at e
  ·rename_i hl
   cases e;exact q _ (E'.set hl r)
  ·cases e
 ·exact q.elim
theorem Cm {tg:Expr}{g:T->En->Rs En}(ha:cx X a fa)(hg:yW X tg g)(hs:autoParam (OK [tg] a pos.line X.env=pure false) u_)(hw:autoParam (OL [tg] a X.env=pure none) u_)
  (h1:autoParam ((JM [tg] X.env).map (·.2)= [assign tg X.env]) u_):vF X (.Assign [tg] a pos) (bN fa g):=PS.imp (Cz ha hg hs hw h1) λD σ H ⟨ρ,B,M,E,h⟩=>rO E h
def Eh (f:En->Rs T)(ρ:En):Rs Fl:=do
 let _ <-f ρ
 .ok (.nx ρ)
theorem zk (ha:cx X a fa)(hs:autoParam (JT a none pos.line X.env=pure false) u_):vF X (.Expr a pos) (Eh fa):=PS.imp (tE ha hs) λD σ H hh_=>by
 obtain⟨ρ,B,M,E,h⟩:=hh_;refine⟨ρ,OO B M,E.o,?_⟩
 unfold Eh at h
 cases q:fa ρ with
 | bad=>rw[q]at h;exact h.elim
 | err c=>rw[q]at h;exact PostF.xa h
 | ok t=>
  rw[q,aH]at h;exact λH' s v r=>h σ H' M (SameO.of s) (E.same s) λa z=> .inl z
def bO (g:T->En->Rs En)(F:En->Rs Fl):List T->En->Rs Fl
 | [],ρ=> .ok (.nx ρ)
 | t::r,ρ=>do
  let ρ1 <-g t ρ
  let f <-F ρ1
  match f with
  | .nx ρ2=>bO g F r ρ2
  | .ct ρ2=>bO g F r ρ2
  | .bk ρ2=> .ok (.nx ρ2)
  | .rt t=> .ok (.rt t)
def i6 (fi:En->Rs (List T))(g:T->En->Rs En)(F:En->Rs Fl)(ρ:En):Rs Fl:=do
 let ts <-fi ρ
 match bO g F ts ρ with
 | .ok f=> .ok f
 | _=> .bad
theorem gn {α:Type}{t:Sem α}{Q:α->Hr->Prop}{s:Hr}{E:Hs->Hr->Prop}{P:HZ}{w:ID}{A:Iw}(h:wpAny (model P w) A t Q (λ_ _=>False) s):wpAny (model P w) A t Q E s:=IS h (λ_ _ q=>q) λ_ _ z=>z.elim
theorem zD {tg iter:Expr}{body:List Stmt}{wi:TI}{g:TG}{tb:TS}{pos:Pos}(hc:X.calm=true)(hi:PI X tg iter wi)(hg:PG X.nox tg g)(hb:PSs X.nox body tb)
  (hs:autoParam (∀x,Ic iter X.env x=pure x) t_):PS X (.For tg iter body [] pos) (EL wi g tb):=by
 intro pins s σ H D I h;refine wpAny_For (bK (hi pins s σ H _ I h) λv s1 h1=>bK h1 λitv s2 h2=> ?_) hs
 obtain⟨it,fp,tn,J,H2,e,I2,T,st2,f2,W,⟨m0,w0⟩,turn⟩:=h2;subst e
 have stat:∀{H':Hp},(∀b∈fp,H' b=none)->∀b∈fp,j9 X pins H' b:=λhn b hb=>⟨hn b hb,(f2 b hb).2⟩
 refine codeAny_forLoop_any (λn s'=> ∃i σ' H',Inv X pins σ' H' s'/\tn i s'.heap/\(∀b∈fp,H' b=none)/\W i n σ' H') ?_ m0 ⟨0,σ,H2,I2,st2,λb hb=>(f2 b hb).1,w0⟩
 rintro n s3 ⟨i,σ3,H3,I3,st3,fr3,w3⟩
 rcases turn i n σ3 H3 w3 with⟨stop,qn⟩ | ⟨go,N,hN,step⟩
 ·refine gn (bK (T.done X.nox rfl rfl rfl hc i pins s3 σ3 H3 _ (I3.FS _) (stat fr3) st3 stop) λr s4 ⟨hr,I4⟩=> ?_)
  subst hr;exact KO ⟨σ3,H3,I4.FS _,qn⟩
 ·refine gn (bK (T.item X.nox rfl rfl rfl hc i pins s3 σ3 H3 _ (I3.FS _) (stat fr3) st3 go) λr s4 ⟨u,hr,h4⟩=> ?_)
  subst hr;refine gn (bK h4 λ_ s5 hh_=> ?_)
  obtain⟨x,H5,I5,r5,y5,st5,fr5⟩:=hh_
  have I5':=Inv.pinned (X:=X.nox) I5 (stat fr5) (T.obj _ _ st5);refine gn (bK (hg _ s5 σ3 H5 x u _ I5' r5 (step x H5 y5)) λ_ s6 hh_=> ?_)
  obtain⟨σ6,H6,I6,q6⟩:=hh_;refine gn (bK (hb _ s6 σ6 H6 _ I6 q6) λf s7 q7=> ?_)
  have again:∀{σ7:L2.St} {H7:Hp},Inv X.nox (pins++i7 fp s5.heap) σ7 H7 s7->N σ7 H7->∃m,m<n/\∃i σ' H',Inv X pins σ' H' s7/\tn i s7.heap/\(∀b∈fp,H' b=none)/\W i m σ' H':=λ{σ7 H7} I7 n7=>by
   obtain⟨m',hm,w7⟩:=hN σ7 H7 n7;refine⟨m',hm,i+1,σ7,H7,(Inv.GG (X:=X.nox) I7).FS _,T.keep _ _ _ st5 λb hb o e=>(I7.pin (b,o) (HP _ (HP _ (cR hb e)))).1,λb hb=> ?_,w7⟩
   obtain⟨o,e,d⟩:=T.obj _ _ st5 b hb;exact(I7.pin (b,o) (HP _ (HP _ (cR hb e)))).2.1
  cases f with
  | next=>obtain⟨σ7,H7,I7,n7⟩:=q7;exact again I7 n7
  | cont=>obtain⟨σ7,H7,I7,n7⟩:=q7;exact again I7 n7
  | brk=>obtain⟨σ7,H7,I7,q7⟩:=q7;exact⟨σ7,H7,(Inv.GG (X:=X.nox) I7).FS _,q7⟩
  | ret v=>obtain⟨x7,σ7,H7,I7,r7,q7⟩:=q7;exact⟨x7,σ7,H7,(Inv.GG (X:=X.nox) I7).FS _,r7,q7⟩
theorem Ci {tg iter:Expr}{body:List Stmt}{fi:En->Rs (List T)}{g:T->En->Rs En}{F:En->Rs Fl}(hc:X.calm=true)(hi:vK X tg iter fi)(hg:yW X.nox tg g)(hb:ma X.nox body F)
  (hs:autoParam (∀x,Ic iter X.env x=pure x) t_):vF X (.For tg iter body [] pos) (i6 fi g F):=PS.imp (zD hc hi hg hb hs) λD σ H hh_=>by
 obtain⟨ρ,B,M,E,h⟩:=hh_;refine⟨ρ,OO B M,E.o,?_⟩
 unfold i6 at h
 cases q:fi ρ with
 | bad=>rw[q]at h;exact h.elim
 | err c=>rw[q]at h;exact PostF.xa h
 | ok ts=>
  rw[q,aH]at h
  cases qq:bO g F ts ρ with
  | bad=>rw[qq]at h;exact h.elim
  | err c=>rw[qq]at h;exact h.elim
  | ok fin=>
  rw[qq]at h;intro H1 s1 J hJ
  have E1:Ev X.K B M H1 ρ σ:=E.same s1
  have h1:PostF X B M.u H1 (.ok fin) D:=PostF.later h (SameO.of s1) λa z=> .inl z
  refine⟨λi m σ' H'=>m=ts.length - i/\i<=ts.length/\SameO M.u H1 H'/\∃ρ' M',Ev X.K B M' H' ρ' σ'/\(∀a,M'.u a->M.u a\/Nw X.K H1 a)/\bO g F (ts.drop i) ρ'= .ok fin,
   ⟨ts.length,by omega,Je _,λ_ _ e _=>e,ρ,M,E1,λa z=> .inl z,by simpa using qq⟩,?_⟩
  rintro i m σ' H' ⟨rfl,hi',sm,ρ',M',E',ow,hl⟩
  have it:=hJ M.u (OO B M') (λa z=> .inl (.inr z)) (λa z=>z.elim (λw=> .inl (.inl w)) λw=>(ow a w).elim (λy=> .inl (.inr y)) .inr) i H' sm (λa z=>(E'.env.trk a z).some)
  by_cases hlt:i<ts.length
  ·have hti:ts[i]? =some ts[i]:=by simp
   obtain⟨go,yl⟩:=it.2 ts[i] hti;rw[JP hlt]at hl;unfold bO at hl;refine .inr ⟨go,λσ2 H2=> ∃m',m'<ts.length - i/\(m'=ts.length - (i+1)/\i+1<=ts.length/\SameO M.u H1 H2/\∃ρ2 M2,Ev X.K B M2 H2 ρ2 σ2/\(∀a,M2.u a->M.u a\/Nw X.K H1 a)/\bO g F (ts.drop (i+1)) ρ2= .ok fin),λσ2 H2 z=>z,λx Hc y=> ?_⟩
   obtain⟨sc,rx⟩:=yl x Hc y;refine⟨ρ',OO B M',M',ts[i],E'.env.same sc,rx,?_⟩
   cases e1:g ts[i] ρ' with
   | bad=>rw[e1]at hl;cases hl
   | err cc=>rw[e1]at hl;cases hl
   | ok ρ1=>
    rw[e1,aH]at hl;intro σ1 Eg
    have E2:Ev X.K B M' Hc ρ1 σ1:=⟨Eg,E'.mine⟩;refine⟨ρ1,B,M',E2,?_⟩
    have smc:SameO M.u H1 Hc:=λb o e n=>sc _ _ (sm b o e n)
    have onward:∀{σ3:L2.St} {H3:Hp} {ρ3:En} {M3:Mn},SameO M'.u Hc H3->Ev X.K B M3 H3 ρ3 σ3->(∀a,M3.u a->M'.u a\/Nw X.K Hc a)->bO g F (ts.drop (i+1)) ρ3= .ok fin →
      ∃m',m'<ts.length - i/\(m'=ts.length - (i+1)/\i+1<=ts.length/\SameO M.u H1 H3/\∃ρ2 M2,Ev X.K B M2 H3 ρ2 σ3/\(∀a,M2.u a->M.u a\/Nw X.K H1 a)/\bO g F (ts.drop (i+1)) ρ2= .ok fin):=
     λ{σ3 H3 ρ3 M3} s3 E3 o3 p3=>⟨_,by omega,rfl,hlt,smc.trans s3 ow,ρ3,M3,E3,λa z=>(o3 a z).elim (ow a) (iv smc),p3⟩
    cases e2:F ρ1 with
    | bad=>rw[e2]at hl;cases hl
    | err cc=>rw[e2]at hl;cases hl
    | ok f=>
     rw[e2,aH]at hl
     cases f with
     | nx ρ2=>exact λσ3 H3 M3 s3 E3 o3=>onward s3 E3 o3 hl
     | ct ρ2=>exact λσ3 H3 M3 s3 E3 o3=>onward s3 E3 o3 hl
     | bk ρ2=>
      cases hl
      exact λσ3 H3 M3 s3 E3 o3=>h1 σ3 H3 M3 (smc.trans s3 ow) E3 λa z=>(o3 a z).elim (ow a) (iv smc)
     | rt t=>
      cases hl;exact λv H3 s3 r=>h1 v H3 (smc.trans s3 ow) r
  ·refine .inl ⟨it.1 (by omega),?_⟩
   have hi2:i=ts.length:=by omega
   subst hi2;rw[M8]at hl;cases hl;exact h1 σ' H' M' sm E' ow
end
def bo (F:En->Rs Fl)(ρ:En):Rs T:=do
 let f <-F ρ
 match f with
 | .nx _=> .ok .non
 | .rt t=> .ok t
 | _=> .bad
def aI (n:Nat)(ts:List T):En:=ts.map Sl.va++Ie (n - ts.length) Sl.em
theorem uN {n:Nat}{ts:List T}{i:Nat}{o:OT}(e:(aI n ts)[i]? =some (.ow o)):False:=by
 unfold aI at e
 by_cases hi:i<ts.length
 ·rw[JN (by simpa using hi),Ib,HG hi]at e
  cases e
 ·rw[J8 (by simpa using hi),Ku]at e
  split at e <;> cases e
theorem iq {K:Ho}{O:Ow}{H:Hp}{N:List Str}{ts:List T}{vs:List V}(r:Reps K O H ts vs)(hl:ts.length<=N.length)(trk:∀a,O a->Mtb H a):Ev K O noM H (aI N.length ts) (start N vs):=by
 have hlen:=r.length
 have sub:∀a,OO O noM a->O a:=λa z=>z.elim id λ⟨_,w⟩=>w.elim
 refine⟨⟨by unfold aI L2.start;simp;omega,λi t e=> ?_,λi o e=>(uN e).elim,λ_ _ z=>z.elim,λ_ _ _ z=>z.elim,λa z=>trk a (sub a z)⟩,λa ⟨_,z⟩=>z.elim⟩
 unfold aI at e;unfold L2.start
 by_cases hi:i<ts.length
 ·rw[JN (by simpa using hi),Ib,HG hi]at e
  have e':ts[i] =t:=by injection e with e;injection e
  obtain⟨v,e1,e2⟩:=r.get (i:=i) (t:=t) (by rw[<-e'];simp)
  refine⟨v,?_,e2.less sub⟩
  rw[JN (by simp;omega),Ib,e1];rfl
 ·rw[J8 (by simpa using hi),Ku]at e
  split at e <;> cases e
section
variable {P:HZ}{w:ID}{K:Ho}{mg:Str->Option Hs}{base:Heap}
theorem F4 {x qual:Str}{st:Stmt}{f:Addr}{fd:IW}{N ps:List Str}{k n:Nat}{g:List T->Rs T}(Fn:L2.Fun K x qual st f fd)(S:cu N ps (au st))(hn:ps.length=n)
  (hbody:∀(cdv:Hs) (A:Iw) (outer:List Env) (s:Hr) (H:Hp) (E:XK),Room k (A.deeper (envOfC qual (au st) s.heap.objs.size f cdv)) →
   ∃F,ma (fD CX0 P w K mg base N qual (au st) f cdv A outer s H E).nox (bF st) F/\∀ts,ts.length=n->∀t,g ts= .ok t->bo F (aI N.length ts)= .ok t):vG P w K mg base CX0 (k+1) f fd ps (spP K n g):=by
 have hpl:ps.length<=N.length:=by have:=congrArg KH S.pre;rw[HV]at this;omega
 refine Fn.ok S (λvs H Q E h=> ?_) (λcdv A outer s H vs Q E hr h=> ?_)
 ·obtain⟨ts,O,r,_,hl,_⟩:=h
  rw[<-r.length,hl,hn]
 ·obtain⟨ts,O,r,trk,hl,h⟩:=h
  obtain⟨F,hF,hv⟩:=hbody cdv A outer s H E hr;refine⟨_,hF,aI N.length ts,O,noM,iq r (by omega) trk,?_⟩
  have no:∀a,¬noM.u a:=λa ⟨_,z⟩=>z
  cases q:g ts with
  | bad=>rw[q]at h;exact h.elim
  | err c=>rw[q]at h;exact h.elim
  | ok t=>
   rw[q]at h
   have hb:=hv ts hl t q;unfold bo at hb
   cases q2:F (aI N.length ts)with
   | bad=>rw[q2]at hb;cases hb
   | err c=>rw[q2]at hb;cases hb
   | ok fl=>
    rw[q2,aH]at hb
    have sameOf:∀H',SameO noM.u H H'->Same H H':=λH' s b o e=>s b o e (no b)
    cases fl with
    | nx ρ'=>cases hb;exact λσ' H' M' s' E' o'=>h .non H' (sameOf H' s') Rep.G1
    | rt t'=>cases hb;exact λv H' s' r'=>h v H' (sameOf H' s') r'
    | bk ρ'=>cases hb
    | ct ρ'=>cases hb
end
end Tr
namespace Enu
open PySem
open AutoSeq1 (wpAny_loadPart')
section
variable {prog:HZ}{w:ID}{A:Iw}{E:Hs->Hr->Prop}{s:Hr}
theorem y6 {it tt:Addr}{k:Nat}{its:Array Hs}{x:Hs}{Q:Hs->Hr->Prop}(hi:s.heap.IsTupleIter it tt k)(ht:s.heap.IsTuple tt its)(hx:its[k]? =some x)
  (hQ:∀h',h'.IsTupleIter it tt (k+1)->Ks it s.heap h'->Q x { s with heap:=h' }):wpAny (model prog w) A (Kh (.ref it)) Q E s:=by
 obtain⟨ob,g1,g2,g3⟩:=id hi;obtain⟨ot,k1,_,m,k3⟩:=ht;unfold Kh;refine Hq (IV (name:=HQ "__next__") hi.typeIs J9 (Ji J9 hi.typeIs Ma ?_ (LV _)))
 show wpAny (model prog w) _ (field (.ref it) 0 >>= _) _ _ s
 refine Hq (Jg g1 g3 (x:=.ref tt) rfl ?_)
 show wpAny (model prog w) _ (if (Io tt == Ig)=true then _ else _) _ _ s
 rw[if_neg (show ¬((Io tt == Ig)=true)by exact Iv)]
 show wpAny (model prog w) _ (field (.ref it) 1 >>= _) _ _ s
 refine Hq (Jg g1 g3 (x:=.int k 0) rfl ?_)
 show wpAny (model prog w) _ (seqItems? (.ref tt) >>= _) _ _ s
 refine Hq (wpAny_seqItems k1 k3 ?_)
 simp only[hx,JI];refine Hq (KA g1 g3 (by simp) (Hy ⟨x,rfl,Hy (hQ _ ?_ (JZ ..))⟩))
 refine⟨_,Jf _ g1 (Kc (Jc g3 _)),(MM ..).trans g2,?_⟩
 rw[Jc g3];simp[rawInt]
theorem tupStop {it tt:Addr}{k:Nat}{its:Array Hs}{Q:Hs->Hr->Prop}(hh:A.handled=none)(hi:s.heap.IsTupleIter it tt k)(ht:s.heap.IsTuple tt its)(hx:its[k]? =none)
  (hE:∀h' e,Qb it s.heap h'->(∃o,h'.get? e=some o/\o.cls= .type "StopIteration")->E (.ref e) { s with heap:=h' }):wpAny (model prog w) A (Kh (.ref it)) Q E s:=by
 obtain⟨ob,g1,g2,g3⟩:=id hi;obtain⟨ot,k1,_,m,k3⟩:=ht;unfold Kh;refine Hq (IV (name:=HQ "__next__") hi.typeIs J9 (Ji J9 hi.typeIs Ma ?_ (LV _)))
 show wpAny (model prog w) _ (field (.ref it) 0 >>= _) _ _ s
 refine Hq (Jg g1 g3 (x:=.ref tt) rfl ?_)
 show wpAny (model prog w) _ (if (Io tt == Ig)=true then _ else _) _ _ s
 rw[if_neg (show ¬((Io tt == Ig)=true)by exact Iv)]
 show wpAny (model prog w) _ (field (.ref it) 1 >>= _) _ _ s
 refine Hq (Jg g1 g3 (x:=.int k 0) rfl ?_)
 show wpAny (model prog w) _ (seqItems? (.ref tt) >>= _) _ _ s
 refine Hq (wpAny_seqItems k1 k3 ?_)
 simp only[hx,JI];refine Hq (Lf (Hq (KA g1 g3 (by simp) ?_)))
 show wpAny (model prog w) _ (newExc (.type "StopIteration") [] >>= _) _ _ _
 refine Hq ?_
 simp only[newTuple,newExc];refine Hq (Ip ?_ (by size_fits))
 refine Hq (m:=MC _ _) (KQ (a:=Ig) (by first | (simp only[MC];rfl) | rfl) ?_)
 refine Ip ?_ (by size_fits)
 simp only[raiseNew];refine Hq (wpAny_handled ?_)
 first | rw[hh] | rw[show A.in1.handled=none from hh]
 refine Hq (Hy (wpAny_throw ?_))
 refine hE _ _ (((JZ ..).extBut.push _).push _) ⟨_,HR _ rfl,rfl⟩
end
theorem tupDraws {prog:HZ}{w:ID}{A:Iw}(hh:A.handled=none)(it tt:Addr)(hne:tt≠it)(its:Array Hs) :
  Draws prog w A it [it,tt] its.size (λi v=>its[i]? =some v) (λi h=>h.IsTupleIter it tt i/\h.IsTuple tt its) where
 live:=λ_ _ st=>by obtain⟨o,ho,_⟩:=st.1;exact⟨o,ho⟩
 frame:=λ_ _ _ st hk=>by
  obtain⟨⟨o,e,r⟩,⟨o',e',r'⟩⟩:=st;exact⟨⟨o,hk it (by simp) o e,r⟩,⟨o',hk tt (by simp) o' e',r'⟩⟩
 item:=λi s Q E hi st hQ=>by
  refine y6 st.1 st.2 (x:=its[i]) (by simp[hi]) λh' hit' hs'=> ?_
  obtain⟨o',e',r'⟩:=st.2;exact hQ _ h' s.toks (by simp[hi]) ⟨hit',⟨o',(hs'.2 tt hne).trans e',r'⟩⟩ hs'
 done:=λs Q E st hE=>tupStop hh st.1 st.2 (by simp) hE
theorem newT (l:Addr)(items:Array Hs)(n:Nat)(dct:Option Addr)(sl:Array (Option Hs)) :
  Meets (Builtin.«enumerate.__new__» ⟨[.type "enumerate",.ref l],[]⟩) (λ_ R s=>s.heap.get? l=some { cls:=.type "tuple",dict:=dct,data:=.seq items n,slots:=sl } ∧
   R (.ok (.ret (.ref (s.heap.push { cls:=.type "tuple_iterator",data:=.fields #[.ref l,.int 0 0] }).objs.size)))
    { s with heap:=(s.heap.push { cls:=.type "tuple_iterator",data:=.fields #[.ref l,.int 0 0] }).push { cls:=.type "enumerate",data:=.fields #[.none,.bool false,.ref s.heap.objs.size,rawInt 0,.none,.none] } }):=
 .of_wp λprog w A R s h=>by
  obtain⟨hp,g,d,tk,os⟩:=s;obtain⟨hl,h⟩:=h
  have hsub:=sub_enumerate
  have hT:Heap.IsTuple (Shared.heap ⟨hp,g,d,tk,os⟩) l items:=⟨_,hl,rfl,n,rfl⟩
  wp_walk using Kq hl
  refine wpAny_stack_any λst=>Hy ?_
  split
  ·rename_i c _ _ _ _ _
   cases (c == JD "enumerate")
   ·wp_walk using Kq hl,Ls hT
    exact⟨_,rfl,h⟩
   ·wp_walk using Kq hl,Ls hT
    exact⟨_,rfl,h⟩
  ·wp_walk using Kq hl,Ls hT
   exact⟨_,rfl,h⟩
theorem callT {prog:HZ}{w:ID}{A:Iw}{E:Hs->Hr->Prop}{s:Hr}{l:Addr}{items:Array Hs}{Q:Hs->Hr->Prop}(hL:s.heap.IsTuple l items)
  (h:∀h',IsEnum h' (s.heap.objs.size+1) s.heap.objs.size 0 .none->h'.IsTupleIter s.heap.objs.size l 0->h'.objs.size=s.heap.objs.size+2 →
   (∀b o,s.heap.get? b=some o->h'.get? b=some o)->Q (.ref (s.heap.objs.size+1)) { s with heap:=h' }):wpAny (model prog w) A (call (.type "enumerate") [.ref l]) Q E s:=by
 obtain⟨⟨cc,dc,dd,ss⟩,hl,hc,n,hd⟩:=hL
 replace hc:cc= .type "tuple":=hc
 replace hd:dd= .seq items n:=hd
 subst hc hd;refine callType_new F.called_enumerate (by decide) (F.typeCall_enumerate_1 _) (F.newCall_enumerate_1 _) (λobj=>F.args_object_init_2 obj _) F.entry_enumerate_new (newT l items n dc ss) ⟨hl,?_⟩
 have hz:(s.heap.push { cls:=.type "tuple_iterator",data:=.fields #[.ref l,.int 0 0] }).objs.size=s.heap.objs.size+1:=JO ..
 show _/\_
 rw[hz]
 have he:IsEnum ((s.heap.push { cls:=.type "tuple_iterator",data:=.fields #[.ref l,.int 0 0] }).push
   { cls:=.type "enumerate",data:=.fields #[.none,.bool false,.ref s.heap.objs.size,rawInt 0,.none,.none] }) (s.heap.objs.size+1) s.heap.objs.size 0 .none:=by
  have q:=HR (s.heap.push { cls:=.type "tuple_iterator",data:=.fields #[.ref l,.int 0 0] })
   (o:={ cls:=.type "enumerate",data:=.fields #[.none,.bool false,.ref s.heap.objs.size,rawInt 0,.none,.none] }) rfl
  rw[hz]at q;exact q
 refine⟨⟨_,he,rfl⟩,h _ he ⟨_,Hz _ (HR _ rfl),rfl,rfl⟩ (by rw[JO,hz]) λb o x=>Hz _ (Hz _ x)⟩
end Enu
namespace L2
open PySem PySem.Spec PyProof.Rows
section
variable {X:Cx}{pins:List (Addr×Obj)}{σ:L2.St}{H:Hp}{s:Hr}{h':Heap}
theorem Inv.G4 {t':Nat}{fp:List Addr}{Tp:Addr}{xs:List V}(I:Inv X pins σ H s)(hf:∀b∈fp,j9 X pins H b)(k:∀b o,b∉fp->s.heap.get? b=some o->h'.get? b=some o)
  (ht:∀b∈fp,∃o,h'.get? b=some o) (hT:s.heap.objs.size<=Tp) (new:ObjOk X.prog X.w (dB H Tp (.tup xs)) h' Tp (.tup xs)):Inv X pins σ (dB H Tp (.tup xs)) { s with heap:=h',toks:=t' }:=by
 have hn:H Tp=none:=I.hok.fresh hT
 have neT:∀b o,s.heap.get? b=some o->b≠Tp:=λb o e=>Iu (HM (HH e) hT)
 have nf:∀b u,H b=some u->b∉fp:=λb u e z=>by rw[(hf b z).1]at e;cases e
 refine I.step (g':=s.gens) (d':=s.drawn) (ch:=fp) (λb hb=>⟨(hf b hb).2.2.2.1,(hf b hb).2.1,(hf b hb).2.2.2.2.1,(hf b hb).2.2.2.2.2⟩) (λb o _ _ hc e _=>k b o hc e) (λb o _ _ hc e _=>⟨o.slots,k b o hc e⟩)
  (λb o _ e n=>by rw[a8 (neT b o e)];exact n) (λb o hc e=>⟨o,k b o hc e⟩) (λb ys e=>by rw[a8 (bP e hn)];exact e) (λb o u e=>by rw[a8 (bP e hn)];exact e)
  (λb ps e=>⟨#[],by rw[a8 (bP e hn),e];simp⟩) (λm hm=> ?_) (λb u e=> ?_) I.bare
 ·obtain⟨o,es,ep,ho,r⟩:=hm
  exact⟨o,es,ep,k _ o (λz=>(hf _ z).2.1 rfl) ho,r⟩
 ·by_cases hb:b=Tp
  ·subst hb;rw[bx]at e;cases e;exact new
  ·rw[a8 hb]at e
   refine(I.hok b u e).GL (λc v hc q=>k c v ?_ q) (λc q=>by rw[a8 (bP q hn)];exact q) λc ys q=>by rw[a8 (bP q hn)];exact q
   rcases hc with z | z
   ·rw[z];exact nf b u e
   ·exact nf c _ z
theorem Inv.G3 {t':Nat}{fp:List Addr}(I:Inv X pins σ H s)(hf:∀b∈fp,j9 X pins H b)(k:∀b o,b∉fp->s.heap.get? b=some o->h'.get? b=some o):Inv X pins σ H { s with heap:=h',toks:=t' }:=by
 have nf:∀b u,H b=some u->b∉fp:=λb u e z=>by rw[(hf b z).1]at e;cases e
 refine I.step (g':=s.gens) (d':=s.drawn) (ch:=fp) (λb hb=>⟨(hf b hb).2.2.2.1,(hf b hb).2.1,(hf b hb).2.2.2.2.1,(hf b hb).2.2.2.2.2⟩) (λb o _ _ hc e _=>k b o hc e) (λb o _ _ hc e _=>⟨o.slots,k b o hc e⟩)
  (λb o _ e n=>n) (λb o hc e=>⟨o,k b o hc e⟩) (λb ys e=>e) (λb o u e=>e)
  (λb ps e=>⟨#[],by rw[e];simp⟩) (λm hm=> ?_) (λb u e=> ?_) I.bare
 ·obtain⟨o,es,ep,ho,r⟩:=hm
  exact⟨o,es,ep,k _ o (λz=>(hf _ z).2.1 rfl) ho,r⟩
 ·refine(I.hok b u e).GL (λc v hc q=>k c v ?_ q) (λc q=>q) λc ys q=>q
  rcases hc with z | z
  ·rw[z];exact nf b u e
  ·exact nf c _ z
end
def BF (K:Ho)(H:Hp)(a:Addr)(tt:Bool)(xs:List V):Prop:=if tt then SqT K H a xs else SqL K H a xs
def GF (K:Ho)(a:Addr)(tt:Bool):It:=
 ⟨λi H=> ∃xs x,BF K H a tt xs/\xs[i]? =some x,λi H x H'=> ∃p v,x= .ref p/\H p=none/\H'=dB H p (.tup [.int (i:Nat),v])/\∀xs,BF K H a tt xs->xs[i]? =some v,λi H=> ∃xs,BF K H a tt xs/\xs.length<=i⟩
def itAt (tt:Bool)(h:Heap)(it a:Addr)(i:Nat):Prop:=if tt then h.IsTupleIter it a i else h.IsListIter it a i
theorem itAt.obj {tt:Bool}{h:Heap}{it a:Addr}{i:Nat}(st:itAt tt h it a i):∃o,h.get? it=some o/\∀v,o.data≠ .cell v:=by
 cases tt with
 | true=>obtain⟨o,e,c,d⟩:=(show h.IsTupleIter it a i from st);exact⟨o,e,λv z=>by rw[d]at z;cases z⟩
 | false=>obtain⟨o,e,c,d⟩:=(show h.IsListIter it a i from st);exact⟨o,e,λv z=>by rw[d]at z;cases z⟩
theorem itAt.keep {tt:Bool}{h h':Heap}{it a:Addr}{i:Nat}(st:itAt tt h it a i)(k:∀o,h.get? it=some o->h'.get? it=some o):itAt tt h' it a i:=by
 cases tt with
 | true=>obtain⟨o,e,r⟩:=(show h.IsTupleIter it a i from st);exact(show h'.IsTupleIter it a i from⟨o,k o e,r⟩)
 | false=>obtain⟨o,e,r⟩:=(show h.IsListIter it a i from st);exact(show h'.IsListIter it a i from⟨o,k o e,r⟩)
theorem uM {P:HZ}{w:ID}{K:Ho}{elts:List Expr}{kk:Nat}{pos:Pos}(tt:Bool)(a e it:Addr)(hei:e≠it) :
  vE P w K (.Tuple elts kk pos) (GF K a tt) [e,it] e (λi h=>(∃old,IsEnum h e it i old)/\itAt tt h it a i) where
 mem:=by simp
 obj:=λi h st b hb=>by
  obtain⟨⟨old,he⟩,hi⟩:=st;rcases HB.mp hb with rfl | hb
  ·exact⟨_,he,λv z=>by have z':Data.fields _=Data.cell v:=z;cases z'⟩
  ·rw[HJ.mp hb];exact hi.obj
 keep:=λi h h' st k=>by
  obtain⟨⟨old,he⟩,hi⟩:=st;exact⟨⟨old,k e (by simp) _ he⟩,hi.keep λo q=>k it (by simp) o q⟩
 item:=by
  intro X hP hw hK hc i pins s σ H E I hf st hg;subst hP hw hK;obtain⟨xs,x,hq,hx⟩:=hg;obtain⟨⟨old,he⟩,hi⟩:=st
  -- by what is walked
  have key:∀(its:List Hs),Vals xs its->(∀ys,BF X.K H a tt ys->ys=xs)->∀(fp0:List Addr) (St:Nat->Heap->Prop),Draws X.prog X.w X.A.in1 it fp0 its.toArray.size (λi v=>its.toArray[i]? =some v) St->e∉fp0->it∈fp0->St i s.heap →
    (∀h',St (i+1) h'->itAt tt h' it a (i+1)) →
    wpAny (model X.prog X.w) X.A (pyNext (.ref e)) (λr s1=> ∃u,r=some u/\wpAny (model X.prog X.w) X.A (Ko (.Tuple elts kk pos) (.ref e) u) (λ_ s2=> ∃x' H',Inv X pins σ H' s2/\RelV x' u/\(GF X.K a tt).yld i H x' H' ∧
     ((∃old,IsEnum s2.heap e it (i+1:Nat) old)/\itAt tt s2.heap it a (i+1))/\∀b∈ [e,it],H' b=none) E s1) E s:=by
   intro its rv uniq fp0 St D hef hif hst hnext;obtain⟨u,hu,ru⟩:=rv.get hx
   have hlt:i<its.toArray.size:=by
    have:=(HU.mp hu).1
    simpa using this
   have W:=WalksT.enumerateD D e hei hef hif;refine W.item i s _ _ hlt ⟨⟨old,he⟩,hst⟩ λTp vals h1 tk hPt hTsz hTup hMid hk=>⟨.ref Tp,rfl,?_⟩
   refine W.go elts kk pos i Tp { s with heap:=h1,toks:=tk } _ _ hMid λh2 hst2 hk2=> ?_
   obtain⟨t,x',hPx,hvals⟩:=hPt;subst hvals
   have hxe:x'=u:=by
    have h1':its.toArray[i]? =some x':=hPx
    have h2':its.toArray[i]? =some u:=by simpa using hu
    rw[h1']at h2';exact Ik h2'
   subst hxe
   have hTw:=W.apart i Tp h1 hMid;obtain⟨oT,eT,rT⟩:=hTup
   have eT2:h2.get? Tp=some oT:=hk2 Tp oT hTw eT
   have kAll:∀b o,b∉ [e,it]->s.heap.get? b=some o->h2.get? b=some o:=λb o hb q=>hk2 b o hb (hk b o hb q)
   obtain⟨⟨old2,he2⟩,hs2⟩:=hst2
   have hit2:=hnext h2 hs2
   have there:∀b∈ [e,it],∃o,h2.get? b=some o:=λb hb=>by
    rcases HB.mp hb with rfl | hb
    ·exact⟨_,he2⟩
    ·rw[HJ.mp hb];obtain⟨o,q,_⟩:=hit2.obj;exact⟨o,q⟩
   have hn:H Tp=none:=I.hok.fresh hTsz
   have new:ObjOk X.prog X.w (dB H Tp (.tup [.int (i:Nat),x])) h2 Tp (.tup [.int (i:Nat),x]):=
    ⟨by show 2<=sizeLine;decide,[.int (i:Nat) t,x'],.cons ⟨t,rfl⟩ (.cons ru .nil),⟨oT,eT2,rT⟩⟩
   have I2:=I.G4 (t':=tk) hf kAll there hTsz new;refine⟨.ref Tp,_,I2,rfl,⟨Tp,x,rfl,hn,rfl,λys hy=>by rw[uniq ys hy];exact hx⟩,⟨⟨old2,he2⟩,hit2⟩,λb hb=> ?_⟩
   have hbT:b≠Tp:=λz=>by
    obtain⟨o,q⟩:∃o,s.heap.get? b=some o:=by
     rcases HB.mp hb with rfl | hb
     ·exact⟨_,he⟩
     ·rw[HJ.mp hb];obtain⟨o,q,_⟩:=hi.obj;exact⟨o,q⟩
    exact absurd (HM (HH q) hTsz) (by rw[z];exact Ia _)
   rw[a8 hbT];exact(hf b hb).1
  have hne:∀b∈ [e,it],a≠b:=λb hb z=>by
   have hb':=(hf b hb).1;rw[<-z]at hb'
   have hbs:=hf b hb
   cases tt with
   | true=>
    have hq':SqT X.K H a xs:=hq;rcases hq' with(q | ⟨o,q⟩) | ⟨o,its,n,q,_⟩
    ·rw[hb']at q;cases q
    ·rw[hb']at q;cases q
    ·rcases hbs.2.2.2.1 with z1 | z1
     ·exact I.ok.noex a o (I.ok.mod.kin a o q) (z▸z1)
     ·exact absurd (HM (HH (I.ok.bs a o (I.ok.mod.kin a o q)).1) (z▸z1)) (Ia _)
   | false=>
    have hq':SqL X.K H a xs:=hq;rcases hq' with(q | ⟨o,q⟩) | ⟨o,its,n,q,_⟩
    ·rw[hb']at q;cases q
    ·rw[hb']at q;cases q
    ·rcases hbs.2.2.2.1 with z1 | z1
     ·exact I.ok.noex a o (I.ok.mod.kin a o q) (z▸z1)
     ·exact absurd (HM (HH (I.ok.bs a o (I.ok.mod.kin a o q)).1) (z▸z1)) (Ia _)
  have hea:e≠a:=λz=>hne e (by simp) z.symm
  have hia:it≠a:=λz=>hne it (by simp) z.symm
  cases tt with
  | true=>
   have hq':SqT X.K H a xs:=hq;obtain⟨its,rv,p,hz⟩:=I.tuple hq'
   exact key its rv (λys hy=>I.GQ hy hq') _ _ (Enu.tupDraws (A:=X.A.in1) (I.ok.hd hc) it a (KF hia) its.toArray) (by simp[hei,hea]) (by simp) ⟨hi,p⟩ λh' z=>z.1
  | false=>
   have hq':SqL X.K H a xs:=hq;obtain⟨its,rv,p,hz⟩:=I.list hq';exact key its rv (λys hy=>I.GS hy hq') _ _ (Draws.list (A:=X.A.in1) (I.ok.hd hc) it a (KF hia) its.toArray) (by simp[hei,hea]) (by simp) ⟨hi,p.isList⟩ λh' z=>z.1
 done:=by
  intro X hP hw hK hc i pins s σ H E I hf st hg;subst hP hw hK;obtain⟨xs,hq,hx⟩:=hg;obtain⟨⟨old,he⟩,hi⟩:=st
  have fin:∀h',Qb it s.heap h'->(none:Option Hs)=none/\Inv X pins σ H { s with heap:=h' }:=λh' eb=>⟨rfl,I.G3 (t':=s.toks) hf λb o hb q=>eb b o (λz=>hb (by simp[z])) q⟩
  cases tt with
  | true=>
   have hq':SqT X.K H a xs:=hq;obtain⟨its,rv,p,hz⟩:=I.tuple hq'
   have hl:=rv.length
   have hnone:its.toArray[i]? =none:=by simp;omega
   have hT:s.TypeIs (.ref e) "enumerate":=⟨_,he,rfl⟩;unfold pyNext;refine Hq (OW (IV (name:=HQ "__next__") hT Nx (Ji Nx hT F.entry_enumerate_next ?_ (F.args_enumerate_next_1 _))))
   show wpAny (model X.prog X.w) _ (field (.ref e) 2 >>= _) _ _ _
   refine Hq (Jg he rfl (x:=.ref it) rfl ?_)
   refine Hq (Enu.tupStop (I.ok.hd hc) hi p hnone λh' x he' hx'=> ?_)
   obtain⟨o,ho,hcl⟩:=hx'
   exact Hq (Nf (T:="StopIteration") (b:=true) ⟨o,ho,hcl⟩ isSubtype_stop (Hy (fin h' he')))
  | false=>
   have hq':SqL X.K H a xs:=hq;obtain⟨its,rv,p,hz⟩:=I.list hq'
   have hl:=rv.length
   have hnone:its.toArray[i]? =none:=by simp;omega
   exact wpAny_pyNext_enum_end (I.ok.hd hc) he hi p.isList hnone fin
 self:=λ_ _ _ _ _ st h=>by
  obtain⟨⟨old,he⟩,_⟩:=st;exact Pw he h
section
variable {X:Cx}{elts:List Expr}{kk:Nat}{tpos:Pos}
theorem l0:Ir "enumerate" =some (.type "enumerate"):=by decide+kernel
def iEnu (K:Ho)(tl:TA):TI:=λσ H R=>tl σ H λvs H1=> ∃a tt,vs= [.ref a]/\(∃xs,BF K H1 a tt xs)/\R (GF K a tt) H1
theorem zK {l:Expr}{tl:TA}{p pos:Pos}(hg:Gl X "enumerate")(hm:X.mg "enumerate" =none)(hl:PA X [l] tl)(hs:autoParam (HX [l] X.env= [(false,eval l X.env)]) u_):PI X (.Tuple elts kk tpos) (.Call (.Name "enumerate" p) [l] [] pos) (iEnu X.K tl):=by
 intro pins s σ H R I h;refine Call_ (eK I hg hm l0 (JY (bK (hl pos pins s σ H _ I h) λus s1 ⟨vs,H1,I1,r1,q1⟩=> ?_) hs rfl))
 obtain⟨a,tt,e,⟨xs,hq⟩,q⟩:=q1;subst e;obtain⟨u,rfl,ru⟩:=kR r1;cases ru
 have fin:∀h',IsEnum h' (s1.heap.objs.size+1) s1.heap.objs.size 0 .none->itAt tt h' s1.heap.objs.size a 0->h'.objs.size=s1.heap.objs.size+2->(∀b o,s1.heap.get? b=some o->h'.get? b=some o) →
   wpAny (model X.prog X.w) X.A (pyIter (.ref (s1.heap.objs.size+1))) (PIE X pins σ (.Tuple elts kk tpos) R) X.xe { s1 with heap:=h' }:=λh' he hi hsz hk=>by
  refine Pw he ?_
  have I2:Inv X pins σ H1 { s1 with heap:=h' }:=I1.kept (t':=s1.toks) hk
  refine⟨s1.heap.objs.size+1,[s1.heap.objs.size+1,s1.heap.objs.size],_,_,H1,rfl,I2,uM tt a (s1.heap.objs.size+1) s1.heap.objs.size (Nat.succ_ne_self _),⟨⟨_,he⟩,hi⟩,λb hb=> ?_,q⟩
  rcases HB.mp hb with rfl | hb
  ·exact I1.GZ (by omega) (I1.hok.fresh (by omega))
  ·rw[HJ.mp hb];exact I1.GZ (HE _) (I1.hok.fresh (HE _))
 cases tt with
 | true=>
  have hq':SqT X.K H1 a xs:=hq;obtain⟨its,rv,pl,hz⟩:=I1.tuple hq'
  exact Enu.callT pl λh' he hi hsz hk=>fin h' he hi hsz hk
 | false=>
  have hq':SqL X.K H1 a xs:=hq;obtain⟨its,rv,pl,hz⟩:=I1.list hq';exact call_enumerate_list pl.isList λh' he hi hsz hk=>fin h' he hi hsz hk
end
end L2
namespace Tr
open PySem PySem.Spec PyProof.Rows L2
section
variable {X:Cx}{a:Expr}{fa:En->Rs T}{fs:En->Rs (List T)}{p pos:Pos}
def iS (f:En->Rs T)(ρ:En):Rs (List T):=do
 let x <-f ρ
 match x with
 | .lst l=> .ok l
 | .tup l=> .ok l
 | _=> .bad
theorem Cp {tg:Expr}(ha:cx X a fa):vK X tg a (iS fa):=by
 intro pins s σ H R I ⟨ρ,O,E,h⟩;unfold iS at h
 cases q:fa ρ with
 | bad=>rw[q]at h;exact h.elim
 | err c=>exact tu ha pins s σ H R I ⟨ρ,O,E,by unfold iL;rw[q]at h ⊢;exact h⟩
 | ok x=>
  rw[q,aH]at h
  cases x with
  | lst l=>exact tu ha pins s σ H R I ⟨ρ,O,E,by unfold iL;rw[q];exact h⟩
  | tup l=>exact Co ha pins s σ H R I ⟨ρ,O,E,by unfold iT;rw[q];exact h⟩
  | _=>exact h.elim
def gF:Nat->List T->List T
 | _,[] => []
 | n,t::r=> .tup [.int n,t] ::gF (n+1) r
theorem nA:∀(l:List T) (n i:Nat),(gF n l)[i]? =(l[i]?).map λt=>T.tup [.int ((n+i:Nat):Int),t]
 | [],n,i=>by simp[gF]
 | t::l,n,0=>by simp[gF]
 | t::l,n,i+1=>by
  rw[gF,M4,nA l (n+1) i,M4]
  congr 2
  funext t
  congr 4
  omega
theorem nz:∀(l:List T) (n:Nat),(gF n l).length=l.length
 | [],n=>rfl
 | t::l,n=>by rw[gF,HC,HC,nz l]
def iE (f:En->Rs (List T))(ρ:En):Rs (List T):=do
 let xs <-f ρ
 match xs with
 | [x] =>match x.items with
  | some l=> .ok (gF 0 l)
  | none=> .bad
 | _=> .bad
theorem zu {elts:List Expr}{kk:Nat}{tpos:Pos}(hm:X.mg "enumerate" =none)(ha:pQ X [a] fs)(hg:autoParam (Gl X "enumerate") u_)(hs:autoParam (HX [a] X.env= [(false,eval a X.env)]) u_) :
  vK X (.Tuple elts kk tpos) (.Call (.Name "enumerate" p) [a] [] pos) (iE fs):=PI.imp (zK hg hm ha hs) λσ H R hh_=>by
 obtain⟨ρ,O,E,h⟩:=hh_;obtain⟨ρ1,O1,E1,h1⟩:=d8 E h;refine⟨ρ1,O1,E1,Post.mono h1 λts H1 s1 q vs r=> ?_⟩
 obtain⟨t',r',s',E',q'⟩:=q vs r
 split at q'
 ·rename_i x0
  obtain⟨v,rfl,rv⟩:=r'.one
  split at q'
  ·rename_i l hl
   have main:∀(aa:Addr) (tt:Bool) (ws:List V),v= .ref aa->¬ O aa->Reps X.K O H1 l ws->BF X.K H1 aa tt ws->(∀P Hc,SameO P H1 Hc->¬ P aa->BF X.K Hc aa tt ws)->¬ Nw X.K H1 aa →
     ∃a tt,[v] = [V.ref a]/\(∃xs,BF X.K H1 a tt xs)/\R (GF X.K a tt) H1:=λaa tt ws e n z sq mv nn=>by
    refine⟨aa,tt,by rw[e],⟨ws,sq⟩,q' H1 (Same.refl H1) _ λP O' hP hO i Hc hsm htr=> ?_⟩
    have hnP:¬ P aa:=λy=>(hP aa y).elim n nn
    have sqc:=mv P Hc hsm hnP;refine⟨λhi=>⟨ws,sqc,by rw[<-z.length,<-nz l 0];exact hi⟩,λt ht=> ?_⟩
    rw[nA]at ht
    cases e1:l[i]? with
    | none=>rw[e1]at ht;cases ht
    | some t0=>
     rw[e1]at ht;cases ht;obtain⟨v0,f1,f2⟩:=z.get e1;refine⟨⟨ws,v0,sqc,f1⟩,λx Hc' y=> ?_⟩
     obtain⟨pp,vv,e2,hpn,e3,hy⟩:=y
     have:=hy ws sqc;rw[f1]at this;cases this;subst e2 e3;refine⟨aT hpn _,dw hpn (λzz=> ?_) (Reps.GE (by simpa using Rep.GK _) (Reps.GE (f2.move hP hO hsm) Reps.GJ))⟩
     obtain⟨o,w⟩:=htr pp zz;rw[hpn]at w;cases w
   cases x0 with
   | tup m=>
    cases hl;obtain⟨aa,ws,e,n,qq,z⟩:=Rep.FB.mp rv
    exact main aa true ws e n z (show SqT X.K H1 aa ws from SqT.of qq) (λP Hc hsm hn=>show SqT X.K Hc aa ws from SqT.of (hsm _ _ qq hn)) λw=>by rw[w.1]at qq;cases qq
   | lst m=>
    cases hl;obtain⟨aa,ws,e,n,qq,z⟩:=Rep.Fk.mp rv
    exact main aa false ws e n z (show SqL X.K H1 aa ws from SqL.of qq) (λP Hc hsm hn=>show SqL X.K Hc aa ws from SqL.of (hsm _ _ qq hn)) λw=>by rw[w.1]at qq;cases qq
   | scr m=>
    cases hl;unfold Rep at rv;obtain⟨aa,e,n,qq⟩:=rv
    exact main aa false _ e n Reps.ints (show SqL X.K H1 aa _ from qq) (λP Hc hsm hn=>show SqL X.K Hc aa _ from Tr.SqL.keep hsm hn qq) (Tr.SqL.nn qq)
   | _=>cases hl
  ·exact q'.elim
 ·exact q'.elim
end
end Tr
namespace Tm
open PySem PyProof.Rows
theorem jT:fillsNumberSlot (.type "tuple") "mul" =pure false:=
 PySem.fillsNumberSlot_seq (id:="tuple.__mul__") (r:=some (.builtin "tuple.__rmul__")) M9.lookup (by decide+kernel) Pg.lookup (by decide+kernel)
theorem oi:seqRepeat? (.type "tuple")=pure (some (.builtin "tuple.__mul__")):=by
 unfold seqRepeat?;rw[PR (T:="tuple") (name:="__mul__") (id:="tuple.__mul__") M9.lookup (by decide+kernel),PR (T:="tuple") (name:="__rmul__") (id:="tuple.__rmul__") Pg.lookup (by decide+kernel)]
 rfl
theorem rP (a:Int)(t:Tok)(l:Addr)(items:Array Hs)(n:Nat)(dd:Option Addr)(sl:Array (Option Hs)) :
  Meets (Builtin.«int.__rmul__» ⟨[.int a t,.ref l],[]⟩) (λ_ R s=>s.heap.get? l=some { cls:=.type "tuple",dict:=dd,data:=.seq items n,slots:=sl }/\R (.ok (.ret Value.notImplemented)) s):=
 .of_wp λprog w A R s h=>by obtain⟨hp,g,d,tk,os⟩:=s;obtain⟨hl,h⟩:=h;wp_walk;exact⟨_,rfl,h⟩
open AutoSeq1 (wpAny_loadPart')
theorem xC (l:Addr)(items:Array Hs)(n:Nat)(dd:Option Addr)(sl:Array (Option Hs))(x:Int)(u:Tok)(h1:1<x)(h2:x<2 ^ 31)(hne:items.isEmpty=false)(hz:items.size*x.toNat<=sizeLine)
  (hz2:(MJ (λa b=>a++b) #[] (Ie x.toNat items)).size<=sizeLine) :
  Meets (Builtin.«tuple.__mul__» ⟨[.ref l,.int x u],[]⟩) (λ_ R s=>s.heap.get? l=some { cls:=.type "tuple",dict:=dd,data:=.seq items n,slots:=sl } ∧
   R (.ok (.ret (Io s.heap.objs.size))) { s with heap:=s.heap.push { cls:=JD "tuple",data:=Data.seq (MJ (λa b=>a++b) #[] (Ie x.toNat items)) } }):=
 .of_wp λprog w A R s h=>by
  obtain⟨hp,g,d,tk,os⟩:=s;obtain⟨hl,h⟩:=h
  have hT:Qs hp l items:=⟨_,hl,rfl,n,rfl⟩
  have hx:((items.size:Nat):Int)*x=((items.size*x.toNat:Nat):Int):=by
   have e:x=((x.toNat:Nat):Int):=by omega
   rw[Int.natCast_mul,<-e]
  wp_walk using Kq hl
  rw[if_neg (by simp;omega)]
  refine Hq (M7 (s:=⟨hp,g,d,tk,os⟩) hT ?_)
  dsimp only
  rw[if_neg (by rw[hne];simp;omega),if_neg (by rw[hne];simp;omega),hx,if_neg (by have:(sizeLine:Nat)<=1000000000:=(by decide);omega),if_neg (by unfold Builtin.Tuple.tupleTooMany;rw[decide_eq_true_iff];omega)]
  refine Hq (m:=IF _) (Ip ?_ hz2)
  exact Hy ⟨_,rfl,h⟩
section
variable {prog:HZ}{w:ID}{A:Iw}{E:Hs->Hr->Prop}{s:Hr}
theorem mul_tuple {t:Addr}{vs:List Hs}{k:Int}{tk:Tok}{Q:Hs->Hr->Prop}(ht:Qs s.heap t vs.toArray)(h1:1<k)(h2:k<2 ^ 31)(hv:vs≠ [])(hz:vs.length*k.toNat<=sizeLine)
  (h:Q (.ref s.heap.objs.size) { s with heap:=s.heap.push { cls:=.type "tuple",data:=.seq (Ie k.toNat vs).flatten.toArray } }) :
  wpAny (model prog w) A (Jq .Mult (.ref t) (.int k tk)) Q E s:=by
 obtain⟨⟨cls,dd,data,sl⟩,ho,hc,n,hd⟩:=id ht;simp only at hc hd;subst hc hd
 have e:MJ (λa b=>a++b) #[] (Ie k.toNat vs.toArray)=(Ie k.toNat vs).flatten.toArray:=by
  have q:=L2.foldl_rep vs k.toNat []
  simpa using q
 refine MA (T:="tuple") (U:="int") (by decide) ⟨_,ho,rfl⟩ (λs'=>NV s' k tk) jT P9 L8 oi PP.lookup
  (Ld L8 (NV s k tk) PQ (Pd _ _) (rP k tk t vs.toArray n dd sl)
   ⟨ho,rfl,⟨_,ho,rfl⟩,Ld M9 ⟨_,ho,rfl⟩ F.entry_tuple_mul (F.args_tuple_mul_2 _ _) (xC t vs.toArray n dd sl k tk h1 h2 (by simpa using hv) (by simpa using hz) (by rw[e,HL,L2.len_rep,PB];exact hz)) ⟨ho,?_⟩⟩)
 rw[e];exact h
end
end Tm
namespace Tr
open PySem PySem.Spec PyProof.Rows L2
section
variable {X:Cx}
def dm (x y:T):Rs T:=match x,y with
 | .tup l,.int k=>if 1<k/\k<2 ^ 31/\l≠ []/\l.length*k.toNat<=sizeLine then .ok (.tup (Ie k.toNat l).flatten)else .bad
 | x,y=>xB x y
instance (l:List T):Decidable (l≠ []):=by cases l <;> simp <;> infer_instance
theorem eV:OpT X (Jq .Mult) dm:=by
 intro pins s σ H O x y vx vy ux uy Q I hf rx ry r1 r2 hp;unfold dm at hp
 split at hp
 ·rename_i l k
  split at hp
  ·rename_i h
   obtain⟨a,vs,e1,n1,q1,z1⟩:=Rep.FB.mp rx;subst e1;cases Rep.Da.mp ry;cases r1;obtain⟨tk,rfl⟩:=r2;obtain⟨its,rv,pl,hz⟩:=I.tuple (SqT.of q1)
   have hl1:=z1.length
   have hl2:=rv.length
   have hne:its≠ []:=λz=>h.2.2.1 (Kw (by rw[hl1,hl2,z];rfl))
   refine Tm.mul_tuple pl h.1 h.2.1 hne (by rw[<-hl2,<-hl1];exact h.2.2.2) ?_
   have hn:=I.hok.fresh (HE _);refine⟨.ref _,_,I.laid (t':=s.toks) (o:=.tup (Ie k.toNat vs).flatten) (λb ob q=>Hz _ q) (HE _) ?_,rfl,hp _ (aT hn _) _ (dw hn (hf _ hn) (z1.rep _))⟩
   refine⟨?_,_,rv.rep k.toNat,Nr _ _⟩
   rw[len_rep,PB,<-hl1];exact h.2.2.2
  ·exact hp.elim
 ·exact CI pins s σ H O _ _ vx vy ux uy Q I hf rx ry r1 r2 hp
end
def C9 (outer:List (Str×KC))(N:List Str)(names:List (Str×KC))(N':List Str)(src:List (Option Nat)):Bool:=
 names.all (λy=>y.2 != .cell||names.lookup y.1 == some .cell)&&names.all (λy=>y.2 != .local||names.lookup y.1 == some .local)&&src.length == N'.length&&
 (Iy N'.length).all (λj=>match src[j]? with
  | some (some i)=>match N'[j]? with
   | some x=>N[i]? == some x&&names.lookup x == some .free
   | none=>true
  | _=>true)&&
 names.all (λy=>y.2 != .free||(outer.lookup y.1 == some .cell||outer.lookup y.1 == some .free))
theorem LcScope.by {X:Cx}{scope:KY}{N N':List Str}{src:List (Option Nat)}{names:List (Str×KC)}(hN:X.N=N)(hs:X.env.scope.names=names)(hk:scope.kind= .function)(h:C9 names N scope.names N' src=true):LcScope X scope N' src:=by
 unfold C9 at h;simp only[Hu]at h;obtain⟨⟨⟨⟨h1,h2⟩,h3⟩,h4⟩,h5⟩:=h
 have a1:=HW.mp h1
 have a2:=HW.mp h2
 have a4:=HW.mp h4
 have a5:=HW.mp h5;refine⟨hk,λy hy hl=>by have:=a1 y hy;rw[hl]at this;simpa using this,λy hy hl=> ?_,by simpa using h3,λj i x e1 e2=> ?_,λx hx=> ?_⟩
 ·have:=a2 y hy
  rw[hl]at this
  simpa using this
 ·have hj:j<N'.length:=(HU.mp e2).1
  have:=a4 j (IX.mpr hj);rw[e1]at this;simp only[e2]at this;rw[Hu]at this;rw[hN];exact⟨by simpa using this.1,by simpa using this.2⟩
 ·have:=a5 _ hx
  simp only[bne_self_eq_false,Bool.false_or,Ln]at this
  show X.env.scope.names.lookup x=_\/X.env.scope.names.lookup x=_
  rw[hs];rcases this with z | z
  ·exact .inl (by simpa using z)
  ·exact .inr (by simpa using z)
def cN:Expr->Bool
 | .Starred .. =>false
 | _=>true
def br:List Expr->Bool
 | [] =>true
 | e::r=>cN e&&br r
theorem aO {e:Expr}{es:List Expr}{env:Env}(h:cN e=true):HX (e::es) env=(false,eval e env)::HX es env:=by
 cases e <;> first | rfl | cases h
theorem fX {pos:Pos}{env:Env}:∀{es:List Expr},br es=true->(backTo pos (HX es env)).any (·.1)=false
 | [],_=>rfl
 | e::r,h=>by
  unfold br at h;rw[Hu]at h;rw[aO h.1]
  have ih:=fX (pos:=pos) (env:=env) h.2
  show(false||(backTo pos (HX r env)).any (·.1))=false
  rw[ih];rfl
section
variable {X:Cx}{a b e:Expr}{es:List Expr}{fa:En->Rs T}{fs:En->Rs (List T)}{pos p p2:Pos}{x:Str}
theorem qa_c {f:En->Rs T}{g:En->Rs (List T)}(he:cx X e f)(hr:pQ X es g)(hn:autoParam (cN e=true) u_):pQ X (e::es) (ae f g):=zx he hr (aO hn)
theorem q_cB {id:String}{g:List T->Rs T}(hc:CallT X (.builtin id) g)(hm:X.mg x=none)(hv:Ir x=some (.builtin id))(ha:pQ X (e::es) fs)(hn:autoParam (br (e::es)=true) u_)(hg:autoParam (Gl X x) u_)(h1:autoParam (x≠ "__name__") s_)(h2:autoParam ((x == ("__debug__" : Str))=false) s_) :
  cx X (.Call (.Name x p) (e::es) [] pos) (cl g fs):=by
 unfold br at hn;rw[Hu]at hn;exact zB hc hm hv ha hg h1 h2 (aO hn.1) (fX hn.2)
theorem q_cT {Ty:String}{g:List T->Rs T}(hc:CallT X (.type Ty) g)(hm:X.mg x=none)(hv:Ir x=some (.type Ty))(ha:pQ X (e::es) fs)(hn:autoParam (br (e::es)=true) u_)(hg:autoParam (Gl X x) u_)(h1:autoParam (x≠ "__name__") s_)(h2:autoParam ((x == ("__debug__" : Str))=false) s_) :
  cx X (.Call (.Name x p) (e::es) [] pos) (cl g fs):=by
 unfold br at hn;rw[Hu]at hn;exact wX hc hm hv ha hg h1 h2 (aO hn.1) (fX hn.2)
theorem q_c {n k:Nat}{f:Addr}{fd:IW}{ps:List Str}{g:List T->Rs T}(F:Ep X.prog X.w X.K X.mg X.base k f fd ps n g)(hr:Room k X.A)(hm:X.mg x=some (.ref f))(hk:Kz X.K (.ref f)=true)(hb:Binds X.K fd ps [])
  (hl:∀ρ ts,fs ρ= .ok ts->ts.length=n) (ha:pQ X (e::es) fs) (hps:autoParam (ps.length=n) u_) (hn:autoParam (br (e::es)=true) u_) (hg:autoParam (Gl X x) u_) (h2:autoParam ((x == ("__debug__" : Str))=false) s_):cx X (.Call (.Name x p) (e::es) [] pos) (cl g fs):=by
 unfold br at hn;rw[Hu]at hn;exact Cv F hr hm hk hb hps hl ha hg h2 (aO hn.1) (fX hn.2)
theorem q_is {tn:Str}{Ty:String}(hm:X.mg "isinstance" =none)(hmt:X.mg tn=none)(hv:Ir tn=some (.type Ty))(ha:cx X a fa)(hn:autoParam (cN a=true) u_)(hg:autoParam (Gl X "isinstance") u_)(hgt:autoParam (Gl X tn) u_)
  (h1:autoParam (tn≠ "__name__") s_) (h2:autoParam ((tn == ("__debug__" : Str))=false) s_):cx X (.Call (.Name "isinstance" p) [a,.Name tn p2] [] pos) (o1 (yR Ty) fa):=
 Fi hm hmt hv ha hg hgt h1 h2 (aO hn) (fX rfl) (aO rfl)
end
theorem BD (ρ:En)(ts:List T)(h:ag ρ= .ok ts):ts.length=0:=by cases h;rfl
theorem BC {n:Nat}{f:En->Rs T}{g:En->Rs (List T)}(hg:∀ρ ts,g ρ= .ok ts->ts.length=n)(ρ:En)(ts:List T)(h:ae f g ρ= .ok ts):ts.length=n+1:=by
 unfold ae at h
 cases q:f ρ with
 | bad=>rw[q]at h;cases h
 | err c=>rw[q]at h;cases h
 | ok t=>
  rw[q,aH]at h
  cases q2:g ρ with
  | bad=>rw[q2]at h;cases h
  | err c=>rw[q2]at h;cases h
  | ok r=>
   rw[q2,aH]at h;cases h;rw[HC,hg ρ r q2]
theorem g7 {k:Nat}{A:Iw}(h:Room k A):A.units+60<cLine:=by have:=h.un;omega
structure Fn (K:Ho)(mg:Str->Option Hs)(x:Str)(st:Stmt)(ps:List Str)(f:Addr)(fd:IW):Prop where
 fn:L2.Fun K x x st f fd
 bd:Binds K fd ps []
 mg:mg x=some (.ref f)
def val (n m:Nat)(F:En->Rs Fl)(ts:List T):Rs T:=if ts.length=n then bo F (aI m ts)else .bad
theorem v7 {n m:Nat}{F:En->Rs Fl}{ts:List T}{t:T}(h:val n m F ts= .ok t):bo F (aI m ts)= .ok t:=by
 unfold val at h
 split at h
 ·exact h
 ·cases h
theorem sp_script {K:Ho}{H:Hp}{a:Addr}{ns:List Int}{g:List T->Rs T}{E:XK}(hS:SqL K H a (ns.map V.int))(h:g [.scr ns] = .ok (.bl true)):spP K 1 g [.ref a] H (λv _=>v= .bl true) E:=by
 refine⟨[.scr ns],λ_=>False,Reps.GE ?_ Reps.GJ,λ_ z=>z.elim,rfl,?_⟩
 ·unfold Rep;exact⟨a,rfl,λz=>z,hS⟩
 ·rw[h];exact λv H' _ r=>Rep.Gc.mp r
theorem qi {α:Type}{l:List α}{i:Nat}{z:α}(h:l[i]? =some z):l.set i z=l:=by
 obtain⟨hi,rfl⟩:=HU.mp h
 exact List.set_getElem_self hi
theorem Mn.GU {M:Mn}{i:Nat}{m:Ow}{a:Addr}(h:(M.set i m).u a):m a\/M.u a:=by
 obtain⟨j,h⟩:=h;unfold Mn.set at h
 by_cases z:j=i
 ·rw[if_pos z]at h;exact .inl h
 ·rw[if_neg z]at h;exact .inr ⟨j,h⟩
theorem Mn.G8 {M:Mn}{i:Nat}{m:Ow}:M.set i m i=m:=by unfold Mn.set;rw[if_pos rfl]
theorem Mn.GV {M:Mn}{i j:Nat}{m:Ow}(h:j≠i):M.set i m j=M j:=by unfold Mn.set;rw[if_neg h]
theorem RowsR.move {K:Ho}{O O' P:Ow}{H H':Hp}(hP:∀a,P a->O a\/Nw K H a)(hO:∀a,O' a->O a\/Nw K H a)(h:SameO P H H'):∀{rs:List (List T×List T)} {as:List Addr},(∀b∈as,¬P b)->RowsR K O H rs as->RowsR K O' H' rs as
 | [],_,_,r=>r
 | _::_,_,hb,⟨b,bs,kvs,e1,e2,e3,e4,e5⟩=>by
  subst e1;exact⟨b,bs,kvs,rfl,h _ _ e2 (hb b HD),e3,e4.move hP hO h,e5.move hP hO h λc hc=>hb c (Hv _ hc)⟩
theorem LsR.move {K:Ho}{O O' P:Ow}{H H':Hp}(hP:∀a,P a->O a\/Nw K H a)(hO:∀a,O' a->O a\/Nw K H a)(h:SameO P H H'):∀{rs:List (List T)} {as:List Addr},(∀b∈as,¬P b)->LsR K O H rs as->LsR K O' H' rs as
 | [],_,_,r=>r
 | _::_,_,hb,⟨b,bs,vs,e1,e2,e4,e5⟩=>by
  subst e1;exact⟨b,bs,vs,rfl,h _ _ e2 (hb b HD),e4.move hP hO h,e5.move hP hO h λc hc=>hb c (Hv _ hc)⟩
theorem ORep.move {K:Ho}{O O' P M:Ow}{H H':Hp}{o:OT}{v:V}(hP:∀a,P a->O a\/Nw K H a)(hO:∀a,O' a->O a\/Nw K H a)(h:SameO P H H')(hM:∀a,M a->¬ P a)(r:ORep K O M H o v):ORep K O' M H' o v:=by
 cases o with
 | lst l=>obtain⟨a,vs,e1,e2,e3,e4⟩:=r;exact⟨a,vs,e1,e2,h _ _ e3 (hM a ((e2 a).mpr rfl)),e4.move hP hO h⟩
 | dct ks ts=>obtain⟨a,kvs,e1,e2,e3,e4,e5⟩:=r;exact⟨a,kvs,e1,e2,h _ _ e3 (hM a ((e2 a).mpr rfl)),e4,e5.move hP hO h⟩
 | dd ks rows=>
  obtain⟨a,kvs,as,e1,e2,e3,e4,e5,e6,e7,e8⟩:=r
  exact⟨a,kvs,as,e1,e2,e3,e4,h _ _ e5 (hM a ((e2 a).mpr (.inl rfl))),e6,e7,e8.move hP hO h λb hb=>hM b ((e2 b).mpr (.inr hb))⟩
 | ob C ns ls=>
  obtain⟨a,dx,as,e1,e2,e3,e4,e5,e6,e7,e8⟩:=r
  exact⟨a,dx,as,e1,e2,e3,h _ _ e4 (hM a ((e2 a).mpr (.inl rfl))),h _ _ e5 (hM dx ((e2 dx).mpr (.inr (.inl rfl)))),e6,e7,e8.move hP hO h λb hb=>hM b ((e2 b).mpr (.inr (.inr hb)))⟩
 | ll ls=>
  obtain⟨a,as,e1,e2,e3,e4,e5,e6⟩:=r;exact⟨a,as,e1,e2,e3,e4,h _ _ e5 (hM a ((e2 a).mpr (.inl rfl))),e6.move hP hO h λb hb=>hM b ((e2 b).mpr (.inr hb))⟩
theorem RowsR.mtb {K:Ho}{O:Ow}{H:Hp}:∀{rs:List (List T×List T)} {as:List Addr},RowsR K O H rs as->∀b∈as,∃kvs,H b=some (.dT kvs)
 | [],_,r,b,hb=>by unfold RowsR at r;subst r;simp at hb
 | _::_,_,⟨b0,bs,kvs,e1,e2,e3,e4,e5⟩,b,hb=>by
  subst e1;rcases HB.mp hb with rfl | hb
  ·exact⟨kvs,e2⟩
  ·exact e5.mtb b hb
theorem LsR.mtb {K:Ho}{O:Ow}{H:Hp}:∀{rs:List (List T)} {as:List Addr},LsR K O H rs as->∀b∈as,∃vs,H b=some (.lst vs)
 | [],_,r,b,hb=>by unfold LsR at r;subst r;simp at hb
 | _::_,_,⟨b0,bs,kvs,e1,e2,e4,e5⟩,b,hb=>by
  subst e1;rcases HB.mp hb with rfl | hb
  ·exact⟨kvs,e2⟩
  ·exact e5.mtb b hb
def LO (H:Hp)(a:Addr):Prop:=(∃vs,H a=some (.lst vs))\/∃o,H a=some o/\isO o=true
def OT.isD:OT->Bool
 | .lst _=>false
 | .ob _ _ _=>false
 | .ll _=>false
 | _=>true
theorem ORep.kind {K:Ho}{O M:Ow}{H:Hp}{o:OT}{v:V}(r:ORep K O M H o v):∀a,M a->if o.isD then ∃kvs,H a=some (.dT kvs)else LO H a:=λa z=>by
 cases o with
 | lst l=>obtain⟨b,vs,e1,e2,e3,e4⟩:=r;cases (e2 a).mp z;exact .inl ⟨vs,e3⟩
 | dct ks ts=>obtain⟨b,kvs,e1,e2,e3,e4,e5⟩:=r;cases (e2 a).mp z;exact⟨kvs,e3⟩
 | dd ks rows=>
  obtain⟨b,kvs,as,e1,e2,e3,e4,e5,e6,e7,e8⟩:=r
  rcases(e2 a).mp z with z | z
  ·cases z;exact⟨kvs,e5⟩
  ·exact e8.mtb a z
 | ob C ns ls=>
  obtain⟨b,dx,as,e1,e2,e3,e4,e5,e6,e7,e8⟩:=r
  rcases(e2 a).mp z with z | z | z
  ·cases z;exact .inr ⟨_,e4,rfl⟩
  ·cases z;exact .inr ⟨_,e5,rfl⟩
  ·exact .inl (e8.mtb a z)
 | ll ls=>
  obtain⟨b,as,e1,e2,e3,e4,e5,e6⟩:=r
  rcases(e2 a).mp z with z | z
  ·cases z;exact .inl ⟨_,e5⟩
  ·exact .inl (e6.mtb a z)
theorem ORep.mtb {K:Ho}{O M:Ow}{H:Hp}{o:OT}{v:V}(r:ORep K O M H o v)(a:Addr)(z:M a):Mtb H a:=by
 have:=r.kind a z
 split at this
 ·exact .inr (.inl this)
 ·exact this.imp_right .inr
theorem qk {K:Ho}{O:Ow}{H:Hp}:∀{rs:List (List T×List T)} {as:List Addr},(∀b∈as,¬O b)->RowsR K O H rs as->Reps K O H (rs.map λr=>T.dct r.1 r.2) (as.map V.ref)
 | [],_,_,r=>by unfold RowsR at r;subst r;exact Reps.GJ
 | _::_,_,hn,⟨b,bs,kvs,e1,e2,e3,e4,e5⟩=>by
  subst e1;exact Reps.GE (Rep.GN.mpr ⟨b,kvs,rfl,hn b HD,.inl e2,e3,e4⟩) (qk (λc hc=>hn c (Hv _ hc)) e5)
theorem RowsR.less {K:Ho}{O O':Ow}{H:Hp}(sub:∀a,O' a->O a):∀{rs:List (List T×List T)} {as:List Addr},RowsR K O H rs as->RowsR K O' H rs as
 | [],_,r=>r
 | _::_,_,⟨b,bs,kvs,e1,e2,e3,e4,e5⟩=>⟨b,bs,kvs,e1,e2,e3,e4.less sub,e5.less sub⟩
theorem LsR.less {K:Ho}{O O':Ow}{H:Hp}(sub:∀a,O' a->O a):∀{rs:List (List T)} {as:List Addr},LsR K O H rs as->LsR K O' H rs as
 | [],_,r=>r
 | _::_,_,⟨b,bs,kvs,e1,e2,e4,e5⟩=>⟨b,bs,kvs,e1,e2,e4.less sub,e5.less sub⟩
theorem LsR.rep {K:Ho}{O:Ow}{H:Hp}:∀{rs:List (List T)} {as:List Addr},(∀b∈as,¬O b)->LsR K O H rs as->Reps K O H (rs.map T.lst) (as.map V.ref)
 | [],_,_,r=>by unfold LsR at r;subst r;exact Reps.GJ
 | _::_,_,hn,⟨b,bs,kvs,e1,e2,e4,e5⟩=>by
  subst e1;exact Reps.GE (Rep.Fk.mpr ⟨b,kvs,rfl,hn b HD,e2,e4⟩) (LsR.rep (λc hc=>hn c (Hv _ hc)) e5)
theorem nN {α β:Type}:∀{l:List α} {m:List β},l.length=m.length->(l.zip m).map (·.1)=l
 | [],[],_=>rfl
 | a::l,b::m,h=>by
  have h':l.length=m.length:=by simpa using h
  show a::(l.zip m).map (·.1)=_
  rw[nN h']
theorem nM {α β:Type}:∀{l:List α} {m:List β},l.length=m.length->(l.zip m).map (·.2)=m
 | [],[],_=>rfl
 | a::l,b::m,h=>by
  have h':l.length=m.length:=by simpa using h
  show b::(l.zip m).map (·.2)=_
  rw[nM h']
theorem ORep.rep {K:Ho}{O O' M:Ow}{H:Hp}{o:OT}{v:V}(sub:∀a,O' a->O a)(hn:∀a,M a->¬ O' a)(r:ORep K O M H o v):Rep K O' H o.view v:=by
 cases o with
 | lst l=>obtain⟨a,vs,e1,e2,e3,e4⟩:=r;exact Rep.Fk.mpr ⟨a,vs,e1,hn a ((e2 a).mpr rfl),e3,e4.less sub⟩
 | dct ks ts=>obtain⟨a,kvs,e1,e2,e3,e4,e5⟩:=r;exact Rep.GN.mpr ⟨a,kvs,e1,hn a ((e2 a).mpr rfl),.inl e3,e4,e5.less sub⟩
 | dd ks rows=>
  obtain⟨a,kvs,as,e1,e2,e3,e4,e5,e6,e7,e8⟩:=r;refine Rep.GN.mpr ⟨a,kvs,e1,hn a ((e2 a).mpr (.inl rfl)),.inl e5,e6,?_⟩
  rw[e7]
  exact qk (λb hb=>hn b ((e2 b).mpr (.inr hb))) (e8.less sub)
 | ob C ns ls=>
  obtain⟨a,dx,as,e1,e2,e3,e4,e5,e6,e7,e8⟩:=r
  have hl:ns.length=(as.map V.ref).length:=by rw[Hw];exact e6
  refine Rep.G2.mpr ⟨a,dx,_,e1,⟨⟨hn a ((e2 a).mpr (.inl rfl)),hn dx ((e2 dx).mpr (.inr (.inl rfl))),e5⟩,as,nM hl,e3.1,e3.2.1,e3.2.2.1,e3.2.2.2,by rw[nN hl];exact e7⟩,e4,nN hl,?_⟩
  rw[nM hl]
  exact(e8.less sub).rep λb hb=>hn b ((e2 b).mpr (.inr (.inr hb)))
 | ll ls=>
  obtain⟨a,as,e1,e2,e3,e4,e5,e6⟩:=r;exact Rep.Fk.mpr ⟨a,_,e1,hn a ((e2 a).mpr (.inl rfl)),e5,(e6.less sub).rep λb hb=>hn b ((e2 b).mpr (.inr hb))⟩
section
variable {K:Ho}{B:Ow}{M:Mn}{H H':Hp}{ρ:En}{σ:L2.St}{i:Nat}{o o':OT}{v:V}{m:Ow}
theorem Ev.new (E:Ev K B M H ρ σ)(hl:i<ρ.length)(hm:∀a,m a->Nw K H a)(s:Same H H')(r:ORep K (OO B (M.set i m)) m H' o v) :
  Ev K B (M.set i m) H' (ρ.set i (.ow o)) (σ.set i (some v))/\∀a,(M.set i m).u a->M.u a\/Nw K H a:=by
 have hls:i<σ.length:=by rw[<-E.env.len];exact hl
 have sub:∀a,(M.set i m).u a->M.u a\/Nw K H a:=λa z=>(Mn.GU z).elim (λw=> .inr (hm a w)) .inl
 have subO:∀a,OO B (M.set i m) a->OO B M a\/Nw K H a:=λa z=>z.elim (λw=> .inl (.inl w)) λw=>(sub a w).elim (λy=> .inl (.inr y)) .inr
 have di:∀a,Nw K H a->¬ OO B M a:=λa w z=>by
  obtain⟨o,e⟩:=(E.env.trk a z).some;rw[w.1]at e;cases e
 refine⟨⟨⟨by rw[JB,JB];exact E.env.len,λj t e=> ?_,λj o' e=> ?_,λj a z=> .inr ⟨j,z⟩,λj k a z1 z2=> ?_,λa z=> ?_⟩,λa z=> ?_⟩,sub⟩
 ·by_cases hj:i=j
  ·subst hj;rw[Im hl]at e;cases e
  ·rw[Ii hj]at e
   obtain⟨w,e1,e2⟩:=E.env.val j t e;exact⟨w,by rw[Ii hj];exact e1,(e2.more subO).same s⟩
 ·by_cases hj:i=j
  ·subst hj
   rw[Im hl]at e
   cases e;exact⟨v,Im hls,by rw[Mn.G8];exact r⟩
  ·rw[Ii hj]at e
   obtain⟨w,e1,e2⟩:=E.env.own j o' e;refine⟨w,by rw[Ii hj];exact e1,?_⟩
   rw[Mn.GV (λz=>hj z.symm)]
   exact(e2.move (P:=xu) (λ_ z=>z.elim) subO (λb u q _=>q) λ_ _ z=>z).same s
 ·unfold Mn.set at z1 z2
  by_cases hj:j=i
  ·by_cases hk:k=i
   ·exact hj.trans hk.symm
   ·rw[if_pos hj]at z1;rw[if_neg hk]at z2
    exact(di a (hm a z1) (.inr ⟨k,z2⟩)).elim
  ·by_cases hk:k=i
   ·rw[if_neg hj]at z1;rw[if_pos hk]at z2
    exact(di a (hm a z2) (.inr ⟨j,z1⟩)).elim
   ·rw[if_neg hj]at z1;rw[if_neg hk]at z2
    exact E.env.dis j k a z1 z2
 ·rcases z with z | z
  ·exact(E.env.trk a (.inl z)).same s
  ·rcases Mn.GU z with w | w
   ·exact r.mtb a w
   ·exact(E.env.trk a (.inr w)).same s
 ·intro hb
  rcases Mn.GU z with w | w
  ·exact di a (hm a w) (.inl hb)
  ·exact E.mine a w hb
theorem Ev.put (E:Ev K B M H ρ σ)(hi:ρ[i]? =some (.ow o))(hs:σ[i]? =some (some v))(s:SameO (M i) H H')(r:ORep K (OO B M) (M i) H' o' v):Ev K B M H' (ρ.set i (.ow o')) σ/\SameO M.u H H':=by
 have hl:i<ρ.length:=(HU.mp hi).1
 have inO:∀a,M i a->OO B M a\/Nw K H a:=λa z=> .inl (.inr ⟨i,z⟩)
 have idO:∀a,OO B M a->OO B M a\/Nw K H a:=λa z=> .inl z
 refine⟨⟨⟨by rw[JB];exact E.env.len,λj t e=> ?_,λj o2 e=> ?_,E.env.sub,E.env.dis,λa z=> ?_⟩,E.mine⟩,λb u e n=>s b u e λz=>n ⟨i,z⟩⟩
 ·by_cases hj:i=j
  ·subst hj;rw[Im hl]at e;cases e
  ·rw[Ii hj]at e
   obtain⟨w,e1,e2⟩:=E.env.val j t e;exact⟨w,e1,e2.move inO idO s⟩
 ·by_cases hj:i=j
  ·subst hj
   rw[Im hl]at e
   cases e;exact⟨v,hs,r⟩
  ·rw[Ii hj]at e
   obtain⟨w,e1,e2⟩:=E.env.own j o2 e;exact⟨w,e1,e2.move inO idO s λa z y=>hj (E.env.dis i j a y z)⟩
 ·by_cases hz:M i a
  ·exact r.mtb a hz
  ·exact(E.env.trk a z).at λo e=>s _ _ e hz
def disown (i:Nat)(ρ:En):En:=match ρ[i]? with
 | some (.ow o)=>ρ.set i (.va o.view)
 | _=>ρ
theorem EnvM.disown {O O':Ow}{ρ:En}(E:EnvM K O M H ρ σ)(i:Nat)(sub:∀a,O' a->O a)(hn:∀a,M i a->¬ O' a)(hin:∀j a,j≠i->M j a->O' a):EnvM K O' (M.set i xu) H (disown i ρ) σ:=by
 have base:EnvM K O' (M.set i xu) H (ρ.set i (match ρ[i]? with | some (.ow o)=> .va o.view | some x=>x | none=> .em)) σ:=by
  refine⟨by rw[JB];exact E.len,λj t e=> ?_,λj o e=> ?_,λj a z=> ?_,λj k a z1 z2=> ?_,λa z=>E.trk a (sub a z)⟩
  ·by_cases hj:i=j
   ·subst hj
    by_cases hl:i<ρ.length
    ·rw[Im hl]at e
     cases q:ρ[i]? with
     | none=>rw[q]at e;cases e
     | some z=>
      rw[q]at e
      cases z with
      | em=>cases e
      | va t'=>cases e;obtain⟨w,e1,e2⟩:=E.val i _ q;exact⟨w,e1,e2.less sub⟩
      | ow o=>cases e;obtain⟨w,e1,e2⟩:=E.own i _ q;exact⟨w,e1,e2.rep sub hn⟩
    ·rw[JQ (by rw[JB];omega)]at e;cases e
   ·rw[Ii hj]at e
    obtain⟨w,e1,e2⟩:=E.val j t e;exact⟨w,e1,e2.less sub⟩
  ·by_cases hj:i=j
   ·subst hj
    by_cases hl:i<ρ.length
    ·rw[Im hl]at e
     cases q:ρ[i]? with
     | none=>rw[q]at e;cases e
     | some z=>
      rw[q]at e
      cases z with
      | em=>cases e
      | va t'=>cases e
      | ow o=>cases e
    ·rw[JQ (by rw[JB];omega)]at e;cases e
   ·rw[Ii hj]at e
    obtain⟨w,e1,e2⟩:=E.own j o e;refine⟨w,e1,?_⟩
    rw[Mn.GV (λz=>hj z.symm)]
    exact e2.move (P:=xu) (λ_ z=>z.elim) (λa z=> .inl (sub a z)) (λb u q _=>q) λ_ _ z=>z
  ·unfold Mn.set at z
   by_cases hj:j=i
   ·rw[if_pos hj]at z;exact z.elim
   ·rw[if_neg hj]at z;exact hin j a hj z
  ·unfold Mn.set at z1 z2
   by_cases hj:j=i
   ·rw[if_pos hj]at z1;exact z1.elim
   ·by_cases hk:k=i
    ·rw[if_pos hk]at z2;exact z2.elim
    ·rw[if_neg hj]at z1;rw[if_neg hk]at z2;exact E.dis j k a z1 z2
 unfold Tr.disown
 cases q:ρ[i]? with
 | none=>rw[q,List.set_eq_of_length_le (Mv.mp q)]at base;exact base
 | some z=>
  rw[q]at base
  cases z with
  | em=>rw[qi q]at base;exact base
  | va t=>rw[qi q]at base;exact base
  | ow o=>exact base
theorem Ev.disown (E:Ev K B M H ρ σ)(i:Nat):Ev K B (M.set i xu) H (disown i ρ) σ/\∀a,(M.set i xu).u a->M.u a:=by
 have sub:∀a,(M.set i xu).u a->M.u a:=λa z=>(Mn.GU z).elim (λw=>w.elim) id
 refine⟨⟨E.env.disown i (λa z=>z.elim .inl λw=> .inr (sub a w)) (λa z y=> ?_) λj a hj z=> .inr ⟨j,by rw[Mn.GV hj];exact z⟩,λa z=>E.mine a (sub a z)⟩,sub⟩
 rcases y with y | ⟨j,y⟩
 ·exact E.mine a ⟨i,z⟩ y
 ·unfold Mn.set at y
  by_cases hj:j=i
  ·rw[if_pos hj]at y;exact y
  ·rw[if_neg hj]at y;exact hj (E.env.dis j i a y z)
end
section
variable {X:Cx}{a:Expr}{es:List Expr}{fa:En->Rs T}{pos p2 p3:Pos}{x:Str}
theorem Ev.subO {K:Ho}{B:Ow}{M:Mn}{H:Hp}{i:Nat}{m:Ow}(hm:∀a,m a->Nw K H a)(a:Addr)(z:OO B (M.set i m) a):OO B M a\/Nw K H a:=
 z.elim (λw=> .inl (.inl w)) λw=>(Mn.GU w).elim (λy=> .inr (hm a y)) λy=> .inl (.inr y)
theorem tK {K:Ho}{H H1:Hp}(s:Same H H1){a:Addr}(n:Nw K H1 a):Nw K H a:=(iv (SameO.of (P:=xu) s) n).elim (λz=>z.elim) id
def EI (X:Cx)(t:TA):TE:=λσ H Q=>t σ H λxs H1=>xs.length<=sizeLine/\∀p,Nw X.K H1 p->Q (.ref p) (dB H1 p (.lst xs))
theorem zN {t:TA}(h:PA X es t):PE X (.List es pos) (EI X t):=by
 intro pins s σ H Q I hq;refine OP (bK (h pos pins s σ H _ I hq) λus s1 ⟨xs,H1,I1,r,z,q⟩=>⟨by rw[<-r.length];exact z,?_⟩)
 have hf:H1 s1.heap.objs.size=none:=I1.hok.fresh (HE _)
 have hk:X.K.lookup s1.heap.objs.size=none:=by
  cases q:X.K.lookup s1.heap.objs.size with
  | none=>rfl
  | some o=>exact absurd (HH (I1.kIn _ o q)) (Ia _)
 refine⟨.ref s1.heap.objs.size,dB H1 s1.heap.objs.size (.lst xs),I1.laid (t':=s1.toks) (λb u e=>Hz _ e) (HE _) ?_,rfl,q _ ⟨hf,hk⟩⟩
 exact⟨z,us,0,r,HR _ rfl⟩
def mW (i:Nat)(f:En->Rs (List T))(ρ:En):Rs Fl:=do
 let l <-f ρ
 if i<ρ.length/\l.length<=sizeLine then .ok (.nx (ρ.set i (.ow (.lst l))))else .bad
theorem zj (i:Nat){f:En->Rs (List T)}(hN:X.N.Nodup)(ha:pQ X es f)(hi:autoParam (X.N[i]? =some x) u_)(hx:autoParam (Loc X.env.scope x) y_)(hs:autoParam (JT (.List es p2) (some (.Name x p3)) pos.line X.env=pure false) u_)
  (hf:autoParam (X.fn x=true\/X.env.scope.names.lookup x=some .local) r_):vF X (.Assign [.Name x p3] (.List es p2) pos) (mW i f):=PS.imp (rS hN hi hx (zN ha) hs hf) λD σ H hh_=>by
 obtain⟨ρ,B,M,E,h⟩:=hh_;refine⟨ρ,OO B M,E.o,?_⟩
 unfold mW at h
 cases q:f ρ with
 | bad=>rw[q]at h;exact h.elim
 | err c=>rw[q]at h;exact PostF.xa h
 | ok l=>
  rw[q,aH]at h;intro H1 s1 vs rs
  by_cases hl:i<ρ.length/\l.length<=sizeLine
  ·rw[if_pos hl]at h
   refine⟨by rw[<-rs.length];exact hl.2,λp hp=> ?_⟩
   have hm:∀a,a=p->Nw X.K H1 a:=λa z=>z▸hp
   obtain⟨E2,sub⟩:=(E.same s1).new (m:=λa=>a=p) (o:=.lst l) (v:=.ref p) (H':=dB H1 p (.lst vs)) hl.1 hm (aT hp.1 _) ⟨p,vs,rfl,λb=>L9,bx,(rs.more (Ev.subO hm)).same (aT hp.1 _)⟩
   exact h _ _ _ (SameO.of (s1.trans (aT hp.1 _))) E2 λa z=>(sub a z).imp_right (tK s1)
  ·rw[if_neg hl]at h
   exact h.elim
def oa (i:Nat)(f:En->Rs T)(ρ:En):Rs Fl:=match ρ[i]? with
 | some (.ow (.lst l))=>f ρ >>= λt=>if l.length<sizeLine then .ok (.nx (ρ.set i (.ow (.lst (l++ [t])))))else .bad
 | _=> .bad
theorem Ev.putL {K:Ho}{B:Ow}{M:Mn}{H:Hp}{ρ:En}{σ:L2.St}{i:Nat}{o:OT}{l':List T}{b:Addr}{vs':List V}(E:Ev K B M H ρ σ)(hi:ρ[i]? =some (.ow o))(hs:σ[i]? =some (some (.ref b)))(hM:∀c,M i c↔c=b)(r:Reps K (OO B M) H l' vs') :
  Ev K B M (dB H b (.lst vs')) (ρ.set i (.ow (.lst l'))) σ/\SameO M.u H (dB H b (.lst vs')):=by
 have sm:SameO (M i) H (dB H b (.lst vs')):=λc u e nb=>by rw[a8 (λz=>nb ((hM c).mpr z))];exact e
 exact E.put hi hs sm ⟨b,vs',rfl,hM,bx,r.move (P:=M i) (λa z=> .inl (.inr ⟨i,z⟩)) (λa z=> .inl z) sm⟩
theorem Cn (i:Nat){apos cpos:Pos}(ha:cx X a fa)(hN:autoParam (X.N[i]? =some x) u_)(hv:autoParam (rl X.env.scope x) v_)(hn:autoParam (cN a=true) u_)
  (hbase:autoParam (Ke (.Name x p2) "append" X.env (eval (.Name x p2) X.env)=eval (.Name x p2) X.env) u_) (hline:autoParam ((apos.endLine == cpos.line)=true) u_)
  (hd:autoParam ((x == ("__debug__" : Str))=false) s_) (hcd:autoParam ((x == ("__classdict__" : Str))=false) s_)
  (hsw:autoParam (JT (.Call (.Attribute (.Name x p2) "append" apos) [a] [] cpos) none pos.line X.env=pure false) u_):vF X (.Expr (.Call (.Attribute (.Name x p2) "append" apos) [a] [] cpos) pos) (oa i fa):=by
 have h1:HX [a] X.env=(false,eval a X.env)::HX [] X.env:=aO hn;refine PS.imp (tE (Fw PySem.F.plainAttrs_list PySem.F.slot_list_append PySem.F.type_list_append jU (jR hN hv hd hcd) (cM ha i8 h1) hbase ?_ hline h1 rfl) hsw) λD σ H ⟨ρ,B,M,E,h⟩=> ?_
 ·rw[h1];rfl
 unfold oa at h
 split at h
 ·rename_i l hl
  obtain⟨v0,e1,b,vs,rfl,hM,e3,e4⟩:=E.env.own i _ hl;refine⟨.ref b,e1,.inl ⟨rfl,vs,SqL.of e3⟩,ρ,OO B M,E.o,?_⟩
  cases q:fa ρ with
  | bad=>rw[q]at h;exact h.elim
  | err c=>rw[q]at h;exact PostF.xa h
  | ok t=>
   rw[q,aH]at h
   split at h
   ·rename_i hz
    intro H1 s1 v r
    have e3':=s1 _ _ e3;refine⟨b,vs,v,rfl,rfl,e3',by rw[<-e4.length];exact hz,?_⟩
    obtain⟨g1,g2⟩:=(E.same s1).putL (l':=l++ [t]) (vs':=vs++ [v]) hl e1 hM ((e4.same s1).append (Reps.GE r Reps.GJ));exact h σ _ M (λc o e nb=>g2 c o (s1 _ _ e) nb) g1 λc z=> .inl z
   ·exact h.elim
 ·exact h.elim
def B4 (i:Nat)(F:En->Rs Fl)(ρ:En):Rs Fl:=F (disown i ρ)
end
end Tr
namespace Tr
open PySem L2
def oD (g:T->T->Rs T)(fa fb:En->Rs T)(ρ:En):Rs T:=fa ρ >>= λx=>match x with
 | .dct ks vs=>fb ρ >>= g (.dct ks vs)
 | _=> .bad
def oL (g:T->T->Rs T)(fa fb:En->Rs T)(ρ:En):Rs T:=fa ρ >>= λx=>match x with
 | .lst l=>fb ρ >>= g (.lst l)
 | _=> .bad
def lD:List T->Option (List Int)
 | [] =>some []
 | .int i::l=>(lD l).map (i:: ·)
 | _=>none
end Tr
namespace Tr
open PySem PySem.Spec PyProof.Rows L2
theorem dZ {h b b':Heap}:∀{l:List Env},h.FunFrames b l->(∀a∈l.filterMap (·.frame),b'.get? a=none)->h.FunFrames b' l
 | [],_,_=>trivial
 | env::rest,⟨hk,⟨L,o,hf,hn,ho,hd⟩,hr⟩,q=>by
  rw[IQ,hf]at q;exact⟨hk,⟨L,o,hf,q L HD,ho,hd⟩,dZ hr λa ha=>q a (Hv _ ha)⟩
section
variable {M:My}{A:Iw}{E:Hs->Hr->Prop}{s:Hr}
structure A5 (fs:List Addr)(C e:Addr)(T:Option Addr)(h h':Heap)(T':Addr):Prop where
 flt:Flt h' C e (some T')
 new:T=some T'\/h.get? T'=none
 keep:∀b o,b∉fs->b≠e->T≠some b->h.get? b=some o->h'.get? b=some o
 slot:∀b o,b∈fs->h.get? b=some o->∃sl,h'.get? b=some { o with slots:=sl }
theorem xG {base:Heap}{env:Env}{outer:List Env}{L C e:Addr}{T:Option Addr}{Q:Unit->Hr->Prop}(hfr:A.frames=some (env::outer))(hl:s.heap.FunFrames base (env::outer))(hf:env.frame=some L)
  (F:Flt s.heap C e T) (h:∀h' T',A5 ((env::outer).filterMap (·.frame)) C e T s.heap h' T'->Q () { s with heap:=h' }):wpAny M A (leaving env (.ref e)) Q E s:=by
 generalize hB:L1 s.heap (e::(T.toList++(env::outer).filterMap (·.frame)))=B
 have bm:∀b,b∈e::(T.toList++(env::outer).filterMap (·.frame))->B.get? b=none:=λb m=>by rw[<-hB];exact K1 _ m
 have hl':s.heap.FunFrames B (env::outer):=dZ hl λa ha=>bm a (Hv _ (HP _ ha))
 have hst:B.StaysIn s.heap:=λb o q=>by rw[<-hB]at q;exact Lh _ q
 have hen:B.get? e=none:=bm e HD
 have main:∀h',Heap.Left B (env::outer) e (.ref C) s.heap h'->Q () { s with heap:=h' }:=λh' ⟨x1,x2,⟨oe,vs,T',oT,ts,he,hc,hd,h1,hnT,hTe,hT,hdT,h3⟩,x4⟩=>by
  refine h h' T' ⟨⟨hTe,oe,vs,he,hc,hd,h1,oT,ts,hT,hdT,h3⟩,?_,λb o n1 n2 n3 q=> ?_,λb o m q=> ?_⟩
  ·cases q:s.heap.get? T' with
   | none=>exact .inr rfl
   | some o=>
    left
    by_cases z:T'∈e::(T.toList++(env::outer).filterMap (·.frame))
    ·rcases HB.mp z with z | z
     ·exact absurd z hTe
     ·rcases HA.mp z with z | z
      ·cases T with
       | none=>simp at z
       | some t=>simp at z;rw[z]
      ·obtain⟨_,o',ho',hnf⟩:=x2.mem z
       rw[hT]at ho';cases ho';exact absurd hdT (hnf ts)
    ·rw[<-hB,JG _ q z]at hnT;cases hnT
  ·refine x1 b o ?_
   rw[<-hB];refine JG _ q λz=> ?_
   rcases HB.mp z with z | z
   ·exact n2 z
   ·rcases HA.mp z with z | z
    ·cases T with
     | none=>simp at z
     | some t=>simp at z;exact n3 (by rw[z])
    ·exact n1 z
  ·obtain⟨_,o',ho',hnf⟩:=hl.mem m
   rw[q]at ho';cases ho';exact x4 b o q hnf
 cases T with
 | none=>
  obtain⟨oe,vs,he,hc,hd,h1⟩:=F;refine wpAny_leaving_first hfr hl' hf he hst hen hd h1 λh' x=>main h' ?_
  rw[hc]at x;exact x
 | some t=>
  obtain⟨hte,oe,vs,he,hc,hd,h1,oT,ts,hT,hdT,h3⟩:=F;exact wpAny_leaving_next hfr hl' hf ⟨oe,vs,t,oT,ts,he,hc,hd,h1,bm t (Hv _ (IG _ (by simp))),hte,hT,hdT,h3⟩ hst hen main
end
abbrev kz:List Hs:=[.type "ValueError",.type "Exception",.type "BaseException",.type "object"]
structure OwnExc (K:Ho)(C:Addr)(bm:List Hs):Prop where
 at_:∀h:Heap,K.In h->∃nm q N bs hdct sn sub ab col dd k0 k1 k2 k3 k5 mN,h.get? C=some (Jo nm q C N bs bm hdct sn sub ab col dd k0 k1 k2 k3 k5 "ValueError.__new__")/\h.Ns N mN/\mN "__init__" =none/\OwnTail h kz bm
theorem OwnExc.base {K:Ho}{C:Addr}{bm:List Hs}(O:OwnExc K C bm){h:Heap}(k:K.In h):bm.contains (.type "BaseException")=true:=by
 obtain⟨_,_,_,_,_,_,_,_,_,_,_,_,_,_,_,_,_,_,_,T⟩:=O.at_ h k;exact T.hasType (by decide)
def uS (c:Str)(_:En):Rs Fl:=.err c
section
variable {X:Cx}
theorem wU {c:Str}{msg:Str}{C:Addr}{bm:List Hs}{np p1 cpos pos:Pos}{j:Nat}(O:OwnExc X.K C bm)(hc:X.calm=true)(hm:X.mg c=some (.ref C))(hg:autoParam (Gl X c) u_)(hd:autoParam ((c == ("__debug__" : Str))=false) s_) :
  vF X (.Raise (some (.Call (.Name c np) [.Constant (.str msg) j p1] [] cpos)) none pos) (uS c):=by
 intro pins s σ H D I ⟨ρ,B,M,E,k⟩
 have k:XA X M.u H c:=k;obtain⟨nm,q,N,bs,hdct,sn,sub,ab,col,dd,k0,k1,k2,k3,k5,mN,hC,hN,hni,T⟩:=O.at_ s.heap I.kIn;refine wpAny_Raise_call_subU (C:=C) (mN:=mN) (nm:=nm) (q:=q) (N:=N) (bs:=bs) (hdct:=hdct) (sn:=sn) (sub:=sub) (ab:=ab) (col:=col) (dd:=dd) (k0:=k0) (k1:=k1) (k2:=k2) (k3:=k3) (k5:=k5) Mh (Bn:="ValueError") (by decide) Mh (O.base I.kIn) (I.ok.hd hc) (by rfl) hni (iz I hg hm ⟨rfl,?_⟩ hd)
 show wpAny _ _ (P4 (.ref C) true ((false,eval (.Constant (.str msg) j p1) X.env)::backTo cpos (HX [] X.env)) []) _ _ s
 refine LP (Lm (Oo (KS ?_)))
 refine⟨rfl,by show 1<=sizeLine;decide,hC,hN,T,λh' e hm'=>k pins _ _ ?_⟩
 obtain⟨t,ht,ht2,ht3⟩:=hm'.there
 have I':Inv X pins σ H { s with heap:=h',toks:=s.toks+1 }:=I.kept (t':=s.toks+1) λb o z=>hm'.keeps b o z
 refine⟨e,none,C,σ,H,rfl,hm,I',λb o z _=>z,?_,?_,⟨_,_,ht,rfl,rfl,rfl⟩,(λt z=>by cases z),λp hp=>⟨λz=> ?_,λz=>by cases z⟩⟩
 ·exact gc I hm'.new
 ·exact λhex=>fQ I hex hm'.new
 ·have:=(I.pin p hp).1
  rw[z,show s.heap.get? e=none from hm'.new]at this
  cases this
end
section
variable {P:HZ}{w:ID}{K:Ho}{mg:Str->Option Hs}{base:Heap}
theorem Dz {x qual:Str}{st:Stmt}{f:Addr}{fd:IW}{N ps:List Str}{k n:Nat}{g:List T->Rs T}(Fn:L2.Fun K x qual st f fd)(S:cu N ps (au st))(hn:ps.length=n)
  (hbody:∀(cdv:Hs) (A:Iw) (outer:List Env) (s:Hr) (H:Hp) (E:XK),Room k (A.deeper (envOfC qual (au st) s.heap.objs.size f cdv)) →
   ∃F,(∀xe,ma ((fD CX0 P w K mg base N qual (au st) f cdv A outer s H E).FS xe) (bF st) F)/\∀ts,ts.length=n->∀c,g ts= .err c->F (aI N.length ts)= .err c):FnX P w K mg base (k+1) f fd ps n g:=by
 intro A outer s H args us vs O ts c R hr e0 hb r rs trk hl hg hR
 have hpl:ps.length<=N.length:=by have:=congrArg KH S.pre;rw[HV]at this;omega
 obtain⟨oc,od,kV,doc,pm,an,cdv,ct,osl,rfl,lk,hcd⟩:=Fn.ex
 have hlen:vs.length=ps.length:=by rw[<-rs.length,hl,hn]
 have KX:K.In s.heap:=e0.mod.kin.keeps λb o e=>(e0.bs b o e).1
 have lim:s.heap.NoLimit:=e0.mod.nolimit.keeps λb o e=>(e0.bs b o e).1
 have hkind:∀y∈ps.zip us,(au st).names.lookup y.1=some .local\/((au st).names.lookup y.1=some .cell/\((J4 (s.heap.objs.size+1) (au st).names []).lookup y.1).isSome=true):=λ⟨n,v⟩ hy=>by
  rcases S.par n (KG hy).1 with q | q
  ·exact .inl q
  ·exact .inr ⟨q,J6 _ _ _ (.inl q)⟩
 refine NL hr.depth (KX _ _ lk) rfl S.co S.gen rfl (Li KX hcd) (hb _ _ _ _ ?_)
 refine Ka S.kind hkind λenv he s1 x=> ?_
 subst he;refine⟨lim.keeps x.toInCall.keep,codeAny_func ?_⟩
 obtain⟨F,hF,hv⟩:=hbody cdv A outer s H E0 (hr.deeper _)
 let xe:Hs->Hr->Prop:=λev s'=>wpAny (model P w) (A.deeper (envOfC qual (au st) s.heap.objs.size f cdv)) (leaving (envOfC qual (au st) s.heap.objs.size f cdv) ev) (λ_ s''=>R (.error ev) s'') (λe' s''=>R (.error e') s'') s'
 have I:Inv ((fD CX0 P w K mg base N qual (au st) f cdv A outer s H E0).FS xe) [] (start N vs) H s1:=(iC S hr.hd e0 hlen r x).FS _
 have no:∀a,¬noM.u a:=λa ⟨_,z⟩=>z
 refine IS (hF xe [] s1 (start N vs) H { nx:=λ_ _=>False,rt:=λ_ _=>False,bk:=λ_ _=>False,ct:=λ_ _=>False } I ⟨aI N.length ts,O,noM,iq rs (by omega) trk,?_⟩) (λfl s' z=> ?_) λe s' hs=>hs
 rotate_left
 ·cases fl with
  | next=>obtain⟨_,_,_,z⟩:=z;exact z.elim
  | cont=>obtain⟨_,_,_,z⟩:=z;exact z.elim
  | brk=>obtain⟨_,_,_,z⟩:=z;exact z.elim
  | ret v=>obtain⟨_,_,_,_,_,z⟩:=z;exact z.elim
 rw[hv ts hl c hg];intro pins ev s' w'
 show wpAny _ _ _ _ _ _
 obtain⟨e,T,C,σ',H',rfl,hm,I',sm,he,heo,fl,hT,_⟩:=w'
 have heo:=heo rfl
 have hT:∀t,T=some t->H' t=none/\s.heap.get? t=none:=λt z=>⟨(hT t z).1,(hT t z).2 rfl⟩
 refine xG (base:=base) (outer:=outer) (L:=s.heap.objs.size) I'.ok.frames I'.stack rfl fl λh' T' g=>hR _ _ ?_
 have hex:((fD CX0 P w K mg base N qual (au st) f cdv A outer s H E0).FS xe).ex= []:=rfl
 have Tn:H' T'=none/\s.heap.get? T'=none:=by
  rcases g.new with z | z
  ·exact hT T' z
  ·exact⟨gc I' z,fQ I' hex z⟩
 have out:∀b o,s.heap.get? b=some o->b≠s.heap.objs.size:=λb o q z=>by
  have:=HH q;rw[z]at this;exact absurd this (Ia _)
 have mem:∀b,b∈jH ((envOfC qual (au st) s.heap.objs.size f cdv)::outer)->b=s.heap.objs.size\/b∈jH outer:=λb z=>by
  have z':b∈s.heap.objs.size::jH outer:=z;exact HB.mp z'
 have ne:∀b o,s.heap.get? b=some o->b≠e/\T≠some b:=λb o q=>⟨λz=>(by subst z;rw[show s.heap.get? b=none from heo]at q;cases q),λz=>(by rw[show s.heap.get? b=none from(hT b z).2]at q;cases q)⟩
 have keepH:∀b u,H' b≠none->s'.heap.get? b=some u->h'.get? b=some u:=λb u hb q=>by
  refine g.keep b u (λz=>hb (I'.GH b z)) (λz=>hb (by rw[z];exact he)) (λz=>hb (hT b z).1) q
 refine⟨e,T',C,H',rfl,hm,I'.os,I'.bare,⟨λb o q n hb hx=> ?_,λb o q n hb hx=> ?_,λb o q n hx=>I'.base.free b o q n hx,λb o q hx=> ?_,I'.base.tups,I'.base.frzs,I'.base.tbls⟩,λa o q=> ?_,λb o q=>sm b o q (no b),he,heo,g.flt,Tn.1,Tn.2⟩
 ·exact g.keep b o (λz=>(mem b z).elim (out b o q) hb) (ne b o q).1 (ne b o q).2 (I'.base.keep b o q n hb hx)
 ·obtain⟨sl,q1⟩:=I'.base.slot b o q n hb hx
  obtain⟨sl',q2⟩:=g.slot b _ (Hv _ hb) q1;exact⟨sl',q2⟩
 ·obtain⟨o',q1⟩:=I'.base.there b o q hx
  by_cases z:b∈jH ((envOfC qual (au st) s.heap.objs.size f cdv)::outer)
  ·obtain⟨sl,q2⟩:=g.slot b o' z q1
   exact⟨_,q2⟩
  ·exact⟨o',g.keep b o' z (ne b o q).1 (ne b o q).2 q1⟩
 ·refine(I'.hok a o q).GL (λb u hb z=>keepH b u ?_ z) (λ_ z=>z) λ_ _ z=>z
  rcases hb with rfl | hb
  ·rw[q];simp
  ·rw[hb];simp
end
theorem sT {n m:Nat}{F:En->Rs Fl}{ts:List T}{c:Str}(h:val n m F ts= .err c):F (aI m ts)= .err c:=by
 unfold val at h
 split at h
 ·unfold bo at h
  cases z:F (aI m ts)with
  | bad=>rw[z]at h;cases h
  | err c'=>rw[z]at h;cases h;rfl
  | ok f=>
   rw[z,aH]at h;cases f <;> cases h
 ·cases h
section
variable {P:HZ}{w:ID}{K:Ho}{mg:Str->Option Hs}{base:Heap}
theorem DB {x qual:Str}{st:Stmt}{f:Addr}{fd:IW}{N ps:List Str}{k n:Nat}{F:En->Rs Fl}(Fn:L2.Fun K x qual st f fd)(S:cu N ps (au st))(hn:ps.length=n)
  (hbody:∀(cdv:Hs) (A:Iw) (outer:List Env) (s:Hr) (H:Hp) (E:XK),Room k (A.deeper (envOfC qual (au st) s.heap.objs.size f cdv)) →
   ∀xe,ma ((fD CX0 P w K mg base N qual (au st) f cdv A outer s H E).FS xe) (bF st) F):Ep P w K mg base (k+1) f fd ps n (val n N.length F):=
 ⟨F4 Fn S hn λcdv A outer s H E hr=>⟨F,hbody cdv A outer s H E hr _,λts _ _ h=>v7 h⟩,Dz Fn S hn λcdv A outer s H E hr=>⟨F,hbody cdv A outer s H E hr,λts _ c h=>sT h⟩⟩
end
inductive OTail (h:Heap):List Hs->Prop
 | base:OTail h kz
 | own {A:Addr} {c0:Hs} {dd:Option Addr} {cd:ClassData} {sl:Array (Option Hs)} {mA:Str->Option Hs} {tl:List Hs} :
   h.get? A=some { cls:=c0,dict:=dd,data:=.cls cd,slots:=sl }->h.Ns cd.ns mA->(∀n∈calmNames,mA n=none)->OTail h tl->OTail h (.ref A::tl)
theorem OTail.tail {h:Heap}{tl:List Hs}(T:OTail h tl):OwnTail h kz tl:=by
 induction T with
 | base=>exact .base
 | own hA hN hq _ ih=>exact .own hA hN (hq _ (.head _)) ih
section
variable {M:My}{prog:HZ}{w:ID}{A:Iw}{E:Hs->Hr->Prop}{h:Heap}{g:Array NT}{d:Qt}{t:Nat}{os:LA}
theorem A1 {tl:List Hs}{n:Str}{y:Option Hs}{Q:Option Hs->Hr->Prop}(hn:n∈calmNames)(T:OTail h tl)(hrest:Ql kz n=pure y)(hq:Q y ⟨h,g,d,t,os⟩) :
  wpAny M A (Ql tl n) Q E ⟨h,g,d,t,os⟩:=by
 induction T with
 | base=>rw[hrest];exact Hy hq
 | own hA hN hni _ ih=>
  rw[PY];refine Hq (wpAny_classOwn_cls hA hN ?_)
  rw[hni n hn];exact ih
theorem FJ:mroOf (.type "ValueError")=pure kz:=by rw[mroOf_type];kernel_rfl
variable {nm q:Str}{C N:Addr}{bs bm:List Hs}{hdct:Bool}{sn:List Str}{sub:List Hs}{ab:Bool}{col:Option Bool}{dd:Option Addr}{k0 k1 k2 k3 k5:Option Hs}{newId:String}{mN:Str->Option Hs}
theorem r8 {n:Str}{y:Option Hs}{Q:Option Hs->Hr->Prop}(hn:n∈calmNames)(hC:h.get? C=some (Jo nm q C N bs bm hdct sn sub ab col dd k0 k1 k2 k3 k5 newId))(hN:h.Ns N mN)(hmN:∀n∈calmNames,mN n=none)(T:OTail h bm)
  (hB:NU (.type "ValueError") n=pure y) (hq:Q y ⟨h,g,d,t,os⟩):wpAny M A (NU (.ref C) n) Q E ⟨h,g,d,t,os⟩:=by
 have hrest:Ql kz n=pure y:=by rw[typeLookup_eq,FJ]at hB;exact hB
 rw[typeLookup_eq];refine Hq (wpAny_mroOf_exc hC ?_)
 rw[PY];refine Hq (wpAny_classOwn_exc hC hN ?_)
 rw[hmN n hn];exact A1 hn T hrest hq
theorem xE:NU (.type "ValueError") "__class__" =pure (some (.builtin "object.__class__")):=by rw[Lx,Kf];kernel_rfl
theorem sd:NU (.type "ValueError") "__getattr__" =pure none:=by rw[Lx,Kf];kernel_rfl
theorem ga_V:Slot "ValueError" "__getattribute__" "BaseException.__getattribute__":=.of (owner:="BaseException") (n:="__getattribute__") (by rw[Lx,Kf];kernel_rfl) (by decide+kernel) (by decide+kernel) (by decide+kernel) (by first | exact .inl (by decide+kernel) | exact .inr (by decide+kernel)) (by rw[JX];kernel_rfl)
variable {a:Addr}{o:Obj}{vs:Array Hs}
theorem AV {R:LJ->Hr->Prop}(hC:h.get? C=some (Jo nm q C N bs bm hdct sn sub ab col dd k0 k1 k2 k3 k5 newId))(T:OTail h bm)
  (hx:h.get? a=some o) (hc:o.cls= .ref C) (hq:R (.ok (.ret (.ref C))) ⟨h,g,d,t,os⟩) :
  codeAny (model prog w) A (.call (.builtin "getset_descriptor.__get__") ⟨[.builtin "object.__class__",.ref a,.ref C],[]⟩) R ⟨h,g,d,t,os⟩:=by
 have hT5:(⟨h,g,d,t,os⟩:Hr).TypeIs (.builtin "object.__class__") "getset_descriptor":=LF
 have hcB:(Io C::bm).contains (.type (".".intercalate ("object.__class__".cutAt '.').dropLast))=true:=by
  rw[F.owner_object_class,JC,T.tail.hasType (b:=true) (by decide)];rfl
 refine LS Ox.plain F.entry_gs_get (Ox.check _ _ _ _ _ _ _ _ hT5 (F.args_gs_get _ _ _) ?_)
 repeat (any_goals (first | assumption | (with_reducible refine IJ hx ?_;rw[hc]) | (with_reducible refine J5 hC ?_;rw[hcB]) | wp_step))
 refine⟨Mm _ (by decide+kernel),Kp F.entry_object_class ?_⟩
 repeat (any_goals (first | assumption | (with_reducible refine IJ hx ?_;rw[hc]) | wp_step))
theorem yg {nameV:Hs}{Q:Unit->Hr->Prop}(hC:h.get? C=some (Jo nm q C N bs bm hdct sn sub ab col dd k0 k1 k2 k3 k5 newId))(T:OTail h bm)
  (hx:h.get? a=some o) (hc:o.cls= .ref C) (hq:Q () ⟨h,g,d,t,os⟩):wpAny M A (K5 "BaseException.__getattribute__" ⟨[.ref a,nameV],[]⟩) Q E ⟨h,g,d,t,os⟩:=by
 have hk:builtinKind "BaseException.__getattribute__" =some .slot:=by decide+kernel
 have hsplit:splitId "BaseException.__getattribute__" =some ("BaseException","__getattribute__"):=by decide+kernel
 have hcB:(Io C::bm).contains (.type "BaseException")=true:=by rw[JC,T.tail.hasType (b:=true) (by decide)];rfl
 have ha:=F.args_bexc_ga (.ref a) nameV;simp only[K5,hk,hsplit];refine Hq ?_
 ·unfold isInstance
  repeat (first | (with_reducible refine IJ hx ?_;rw[hc]) | (with_reducible refine J5 hC ?_;rw[hcB]) | wp_step)
  exact hq
theorem vA {tk:Tok}{Q:Fin->Hr->Prop}(hC:h.get? C=some (Jo nm q C N bs bm hdct sn sub ab col dd k0 k1 k2 k3 k5 newId))(hN:h.Ns N mN)
  (hmN:∀n∈calmNames,mN n=none) (T:OTail h bm) (hx:h.get? a=some o) (hc:o.cls= .ref C) (hd:o.data= .fields vs) (hq:Q (.done (.ret (.ref C))) ⟨h,g,d,t,os⟩) :
  wpAny (model prog w) A (Builtin.«object.__getattribute__» ⟨[.ref a,.str "__class__" tk],[]⟩) Q E ⟨h,g,d,t,os⟩:=by
 have hT5:(⟨h,g,d,t,os⟩:Hr).TypeIs (.builtin "object.__class__") "getset_descriptor":=LF
 have f5:=LF
 have f6:=Ox.lookup
 have f7:=F.slot_gs_set.lookup
 have hmA:("__class__" : Str)∈calmNames:=.tail _ (.tail _ (.tail _ (.head _)))
 repeat (any_goals (first | assumption | (with_reducible refine IJ hx ?_;rw[hc]) | with_reducible refine r8 hmA hC hN hmN T xE ?_ | wp_step))
 refine AV hC T hx hc ?_
 repeat (any_goals (first | assumption | wp_step))
theorem yD {tk:Tok}{R:LJ->Hr->Prop}(hC:h.get? C=some (Jo nm q C N bs bm hdct sn sub ab col dd k0 k1 k2 k3 k5 newId))(hN:h.Ns N mN)
  (hmN:∀n∈calmNames,mN n=none) (T:OTail h bm) (hx:h.get? a=some o) (hc:o.cls= .ref C) (hd:o.data= .fields vs) (hq:R (.ok (.ret (.ref C))) ⟨h,g,d,t,os⟩) :
  codeAny (model prog w) A (.call (.builtin "BaseException.__getattribute__") ⟨[.ref a,.str "__class__" tk],[]⟩) R ⟨h,g,d,t,os⟩:=
 LS ga_V.plain F.entry_bexc_ga (yg hC T hx hc (vA hC hN hmN T hx hc hd hq))
theorem D0 {tk:Tok}{fill expr:Bool}{Q:Hs->Hr->Prop}(hC:h.get? C=some (Jo nm q C N bs bm hdct sn sub ab col dd k0 k1 k2 k3 k5 newId))(hN:h.Ns N mN)
  (hmN:∀n∈calmNames,mN n=none) (T:OTail h bm) (hx:h.get? a=some o) (hc:o.cls= .ref C) (hd:o.data= .fields vs) (hq:Q (.ref C) ⟨h,g,d,t,os⟩) :
  wpAny (model prog w) A (getAttrBy (.ref a) (.str "__class__" tk) fill expr) Q E ⟨h,g,d,t,os⟩:=by
 have f3:=ga_V.bind (.ref a)
 have hx0:(expr&&onTheHeap (KU "BaseException.__getattribute__"))=false:=by cases expr <;> rfl
 have hx2:(KU "BaseException.__getattribute__" == KU "object.__getattribute__")=false:=by decide+kernel
 have hx1:(onTheHeap (Io C)&&KU "BaseException.__getattribute__" == KU "object.__getattribute__")=false:=by rw[hx2];rfl
 have hm1:("__getattribute__" : Str)∈calmNames:=.tail _ (.head _)
 have hm2:("__getattr__" : Str)∈calmNames:=.tail _ (.tail _ (.head _))
 repeat (any_goals (first | assumption | (with_reducible refine IJ hx ?_;rw[hc]) | with_reducible refine r8 hm1 hC hN hmN T ga_V.lookup ?_ | with_reducible refine r8 hm2 hC hN hmN T sd ?_ | wp_step))
 refine yD hC hN hmN T hx hc hd ?_
 repeat (any_goals (first | assumption | wp_step))
theorem yE {Q:Option Hs->Hr->Prop}(hC:h.get? C=some (Jo nm q C N bs bm hdct sn sub ab col dd k0 k1 k2 k3 k5 newId))(hN:h.Ns N mN)
  (hmN:∀n∈calmNames,mN n=none) (T:OTail h bm) (hx:h.get? a=some o) (hc:o.cls= .ref C) (hd:o.data= .fields vs) (hq:Q (some (.ref C)) ⟨h,g,d,t+1,os⟩) :
  wpAny (model prog w) A (getAttr? (.ref a) "__class__") Q E ⟨h,g,d,t,os⟩:=by
 unfold getAttr? getAttrBy?
 repeat (any_goals (first | assumption | with_reducible apply D0 hC hN hmN T hx hc hd | wp_step))
end
section
variable {M:My}{prog:HZ}{w:ID}{A:Iw}{E:Hs->Hr->Prop}{h:Heap}{g:Array NT}{d:Qt}{t:Nat}{os:LA}
variable {nm q:Str}{C N:Addr}{bs bm:List Hs}{hdct:Bool}{sn:List Str}{sub:List Hs}{ab:Bool}{col:Option Bool}{dd:Option Addr}{k0 k1 k2 k3 k5:Option Hs}{newId:String}{mN:Str->Option Hs}
variable {a:Addr}{o:Obj}{vs:Array Hs}
theorem u9 {dep:Int}{tk:Tok}{Q:Fin->Hr->Prop}(hx:h.get? a=some o)(hc:o.cls= .ref C)(hq:Q (.done (.ret (.bool true))) ⟨h,g,d,t,os⟩) :
  wpAny (model prog w) A (Builtin.«isinstance.nested» ⟨[.ref a,.ref C,.int dep tk],[]⟩) Q E ⟨h,g,d,t,os⟩:=by
 have e:(Io C == Io C)=true:=by simp
 repeat (any_goals (first | assumption | (with_reducible refine IJ hx ?_;rw[hc]) | wp_step))
theorem C4 {dep:Int}{tk:Tok}{Q:Fin->Hr->Prop}(hC:h.get? C=some (Jo nm q C N bs bm hdct sn sub ab col dd k0 k1 k2 k3 k5 newId))(T:OTail h bm)(hx:h.get? a=some o)(hc:o.cls= .ref C)
  (hq:Q (.done (.ret (.bool true))) ⟨h,g,d,t,os⟩):wpAny (model prog w) A (Builtin.«isinstance.nested» ⟨[.ref a,.type "ValueError",.int dep tk],[]⟩) Q E ⟨h,g,d,t,os⟩:=by
 have e:(Io C == JD "ValueError")=false:=rfl
 have hty:typeOf (.type "ValueError")=pure (.type "type"):=by kernel_rfl
 have hcB:(Io C::bm).contains (.type "ValueError")=true:=by rw[JC,T.tail.hasType (b:=true) (by decide)];rfl
 repeat (any_goals (first | assumption | (with_reducible refine IJ hx ?_;rw[hc]) | (with_reducible refine J5 hC ?_;rw[hcB]) | wp_step))
theorem xw {D:Addr}{oD:Obj}{cD:ClassData}{dep:Int}{tk:Tok}{Q:Fin->Hr->Prop}(hC:h.get? C=some (Jo nm q C N bs bm hdct sn sub ab col dd k0 k1 k2 k3 k5 newId))(hN:h.Ns N mN)(hmN:∀n∈calmNames,mN n=none)(T:OTail h bm)
  (hx:h.get? a=some o) (hc:o.cls= .ref C) (hd:o.data= .fields vs) (hD:h.get? D=some oD) (hDt:oD.cls= .type "type") (hDd:oD.data= .cls cD) (hne:(Io C == Io D)=false) (hnb:(Io C::bm).contains (.ref D)=false)
  (hq:Q (.done (.ret (.bool false))) ⟨h,g,d,t+1,os⟩):wpAny (model prog w) A (Builtin.«isinstance.nested» ⟨[.ref a,.ref D,.int dep tk],[]⟩) Q E ⟨h,g,d,t,os⟩:=by
 repeat (any_goals (first | assumption | (with_reducible refine IJ hx ?_;rw[hc]) | (with_reducible refine IJ hD ?_;rw[hDt]) | (with_reducible refine IJ hD ?_;rw[hDd]) | (with_reducible refine IJ hC ?_) | (with_reducible refine J5 hC ?_;rw[hnb]) | with_reducible refine yE hC hN hmN T hx hc hd ?_ | wp_step))
end
structure OX (K:Ho)(C:Addr)(bm:List Hs):Prop where
 at_:∀h:Heap,K.In h->∃nm q N bs hdct sn sub ab col dd k0 k1 k2 k3 k5 mN,h.get? C=some (Jo nm q C N bs bm hdct sn sub ab col dd k0 k1 k2 k3 k5 "ValueError.__new__")/\h.Ns N mN/\(∀n∈calmNames,mN n=none)/\OTail h bm
theorem OX.own {K:Ho}{C:Addr}{bm:List Hs}(O:OX K C bm):OwnExc K C bm:=⟨λh k=>by
 obtain⟨nm,q,N,bs,hdct,sn,sub,ab,col,dd,k0,k1,k2,k3,k5,mN,h1,h2,h3,h4⟩:=O.at_ h k;exact⟨nm,q,N,bs,hdct,sn,sub,ab,col,dd,k0,k1,k2,k3,k5,mN,h1,h2,h3 _ (.head _),h4.tail⟩⟩
section
variable {X:Cx}{e C D:Addr}{oe:Obj}{ev:Array Hs}{bm bmD:List Hs}
theorem x6 {pins:List (Addr×Obj)}{σ:L2.St}{H:Hp}{s:Hr}{Q:VK}(hp:(e,oe)∈X.pn)(hc:oe.cls= .ref C)(hd:oe.data= .fields ev)(OC:OX X.K C bm)(OD:OX X.K D bmD)(b:Bool)(hb:(decide (C=D))=b)(hnb:C≠D->bm.contains (.ref D)=false)
  (I:Inv X pins σ H s) (q:Q (.bl b) H):wpAny (model X.prog X.w) X.A (call (.builtin "isinstance") [.ref e,.ref D]) (EP X pins σ Q) X.xe s:=by
 have hx:s.heap.get? e=some oe:=(I.pin (e,oe) (IG _ hp)).1;obtain⟨nm,qq,N,bs,hdct,sn,sub,ab,col,dd,k0,k1,k2,k3,k5,mN,hC,hN,hmN,T⟩:=OC.at_ s.heap I.kIn;obtain⟨nm',qq',N',bs',hdct',sn',sub',ab',col',dd',k0',k1',k2',k3',k5',mN',hD,_⟩:=OD.at_ s.heap I.kIn;obtain⟨h,g,d,t,os⟩:=s;refine OY ?_ (by intro z;cases z)
 by_cases z:C=D
 ·subst z
  have:b=true:=by rw[<-hb];simp
  subst this;exact u9 hx hc ⟨.bl true,H,I,rfl,q⟩
 ·have:b=false:=by rw[<-hb];simp[z]
  subst this;refine xw hC hN hmN T hx hc hd hD rfl rfl ?_ ?_ ⟨.bl false,H,I.tok _,rfl,q⟩
  ·rw[beq_eq_false_iff_ne];exact λy=>z (Ol y)
  ·rw[JC,hnb z,M1,beq_eq_false_iff_ne]
   exact λy=>z (Ol y).symm
theorem ya {pins:List (Addr×Obj)}{σ:L2.St}{H:Hp}{s:Hr}{Q:VK}(hp:(e,oe)∈X.pn)(hc:oe.cls= .ref C)(OC:OX X.K C bm)
  (I:Inv X pins σ H s) (q:Q (.bl true) H):wpAny (model X.prog X.w) X.A (call (.builtin "isinstance") [.ref e,.type "ValueError"]) (EP X pins σ Q) X.xe s:=by
 have hx:s.heap.get? e=some oe:=(I.pin (e,oe) (IG _ hp)).1;obtain⟨nm,qq,N,bs,hdct,sn,sub,ab,col,dd,k0,k1,k2,k3,k5,mN,hC,hN,hmN,T⟩:=OC.at_ s.heap I.kIn;obtain⟨h,g,d,t,os⟩:=s;refine OY ?_ (by intro z;cases z)
 exact C4 hC T hx hc ⟨.bl true,H,I,rfl,q⟩
end
section
variable {M:My}{A:Iw}{E:Hs->Hr->Prop}{s:Hr}
theorem FH {base:Heap}{env:Env}{outer:List Env}{L C e:Addr}{T:Option Addr}{Q:Unit->Hr->Prop}(hfr:A.frames=some (env::outer))(hl:s.heap.FunFrames base (env::outer))(hf:env.frame=some L)
  (F:Flt s.heap C e T) (h:∀h' T',A5 ((env::outer).filterMap (·.frame)) C e T s.heap h' T'->Q () { s with heap:=h' }) :
  wpAny M A (KP (.ref e) env) (λ_ s'=>wpAny M A (setFlight (.ref e) none) Q E s') E s:=by
 generalize hB:L1 s.heap (e::(T.toList++(env::outer).filterMap (·.frame)))=B
 have bm:∀b,b∈e::(T.toList++(env::outer).filterMap (·.frame))->B.get? b=none:=λb m=>by rw[<-hB];exact K1 _ m
 have hl':s.heap.FunFrames B (env::outer):=dZ hl λa ha=>bm a (Hv _ (HP _ ha))
 have hst:B.StaysIn s.heap:=λb o q=>by rw[<-hB]at q;exact Lh _ q
 have hen:B.get? e=none:=bm e HD
 have main:∀h',Heap.Left B (env::outer) e (.ref C) s.heap h'->Q () { s with heap:=h' }:=λh' ⟨x1,x2,⟨oe,vs,T',oT,ts,he,hc,hd,h1,hnT,hTe,hT,hdT,h3⟩,x4⟩=>by
  refine h h' T' ⟨⟨hTe,oe,vs,he,hc,hd,h1,oT,ts,hT,hdT,h3⟩,?_,λb o n1 n2 n3 q=> ?_,λb o m q=> ?_⟩
  ·cases q:s.heap.get? T' with
   | none=>exact .inr rfl
   | some o=>
    left
    by_cases z:T'∈e::(T.toList++(env::outer).filterMap (·.frame))
    ·rcases HB.mp z with z | z
     ·exact absurd z hTe
     ·rcases HA.mp z with z | z
      ·cases T with
       | none=>simp at z
       | some t=>simp at z;rw[z]
      ·obtain⟨_,o',ho',hnf⟩:=x2.mem z
       rw[hT]at ho';cases ho';exact absurd hdT (hnf ts)
    ·rw[<-hB,JG _ q z]at hnT;cases hnT
  ·refine x1 b o ?_
   rw[<-hB];refine JG _ q λz=> ?_
   rcases HB.mp z with z | z
   ·exact n2 z
   ·rcases HA.mp z with z | z
    ·cases T with
     | none=>simp at z
     | some t=>simp at z;exact n3 (by rw[z])
    ·exact n1 z
  ·obtain⟨_,o',ho',hnf⟩:=hl.mem m
   rw[q]at ho';cases ho';exact x4 b o q hnf
 cases T with
 | none=>
  obtain⟨oe,vs,he,hc,hd,h1⟩:=F;unfold KP;simp only[hf];refine Hq (Jg he hd h1 ?_)
  rw[if_neg (by decide)]
  refine MD hfr hl' hf he hst hen hd (Ij.mp h1).1 λh' x=>main h' ?_
  rw[hc]at x;exact x
 | some t=>
  obtain⟨hte,oe,vs,he,hc,hd,h1,oT,ts,hT,hdT,h3⟩:=F
  have hnT:B.get? t=none:=bm t (Hv _ (IG _ (by simp)))
  unfold KP;simp only[hf];refine Hq (Jg he hd h1 ?_)
  rw[if_pos (show(Io t != Ig)=true from by simp)]
  refine Hq (Jg hT hdT h3 ?_)
  rw[if_neg (show ¬((Ig == rawInt L)=true)from by simp[rawInt])]
  refine Hq (KA hT hdT (Ij.mp h3).1 ?_)
  have other:∀b,b≠t->(s.heap.update t (Kd (·.setIfInBounds 3 Ig))).get? b=s.heap.get? b:=λb hb=>Jt _ _ (KF hb)
  have noRec:∀b o,s.heap.get? b=some o->(∀vs,o.data≠ .fields vs)->b≠t:=λb o hb hnf q=>by
   rw[q,hT]at hb;injection hb with hb;subst hb;exact hnf ts hdT
  refine MD hfr (hl'.of_keeps λb o hb hnf=>⟨o,(other b (noRec b o hb hnf)).trans hb,rfl⟩) hf ((other e (KF hte)).trans he)
   (λb o hbo=>(other b λq=>by rw[q,hnT]at hbo;cases hbo).trans (hst b o hbo)) hen hd (Ij.mp h1).1
   λh' x=>main h' ?_
  obtain⟨x1,x2,x3,x4⟩:=x;rw[hc]at x3;exact⟨x1,x2,x3,λb o hb hnf=>x4 b o ((other b (noRec b o hb hnf)).trans hb) hnf⟩
end
section
variable {X:Cx}{pins:List (Addr×Obj)}{σ:L2.St}{H:Hp}{s:Hr}{h':Heap}
theorem Inv.gone {C e T':Addr}{T:Option Addr}(I:Inv X pins σ H s)(hst:X.stack=X.env::X.outer)(hfe:X.env.frame=some X.env.locals)(hcl:∀x c,X.env.cells.lookup x≠some c)(hex:X.ex= [])
  (g:A5 ((X.env::X.outer).filterMap (·.frame)) C e T s.heap h' T') (he:H e=none) (heo:X.s₀.heap.get? e=none) (hT:∀t,T=some t->H t=none/\X.s₀.heap.get? t=none) (hp:∀p∈X.pn++pins,p.1≠e/\T≠some p.1) :
  Inv X pins σ H { s with heap:=h' }:=by
 have mem:∀b,b∈(X.env::X.outer).filterMap (·.frame)↔b=X.env.locals\/b∈X.fs:=λb=>by
  rw[IQ,hfe];exact HB
 have out:∀b o,X.s₀.heap.get? b=some o->b≠X.env.locals:=λb o q z=>by
  have h1:=HH q
  have h2:=I.ok.above;rw[z]at h1;exact absurd (HM h1 h2) (Ia _)
 have ne:∀b o,X.s₀.heap.get? b=some o->b≠e/\T≠some b:=λb o q=>⟨λz=>(by subst z;rw[heo]at q;cases q),λz=>(by rw[(hT b z).2]at q;cases q)⟩
 have fr:∀b,b∈(X.env::X.outer).filterMap (·.frame)->H b=none:=λb z=>I.GH b (by rw[hst];exact z)
 have keepH:∀b u,H b≠none->s.heap.get? b=some u->h'.get? b=some u:=λb u hb q=>by
  refine g.keep b u (λz=>hb (fr b z)) (λz=>hb (by rw[z];exact he)) (λz=>hb (hT b z).1) q
 refine⟨I.ok,I.os,I.bare,⟨λb o q n hb hx=> ?_,λb o q n hb hx=> ?_,I.base.free,λb o q hx=> ?_,I.base.tups,I.base.frzs,I.base.tbls⟩,?_,λx c z=>absurd z (hcl x c),I.free,I.freeC,λp hp'=> ?_,λa o q=> ?_,I.len⟩
 ·exact g.keep b o (λz=>((mem b).mp z).elim (out b o q) hb) (ne b o q).1 (ne b o q).2 (I.base.keep b o q n hb hx)
 ·obtain⟨sl,q1⟩:=I.base.slot b o q n hb hx
  obtain⟨sl',q2⟩:=g.slot b _ ((mem b).mpr (.inr hb)) q1;exact⟨sl',q2⟩
 ·obtain⟨o',q1⟩:=I.base.there b o q hx
  by_cases z:b∈(X.env::X.outer).filterMap (·.frame)
  ·obtain⟨sl,q2⟩:=g.slot b o' z q1
   exact⟨_,q2⟩
  ·exact⟨o',g.keep b o' z (ne b o q).1 (ne b o q).2 q1⟩
 ·obtain⟨m,⟨o,es,ep,ho,hd,r⟩,hl⟩:=I.loc
  obtain⟨sl,q2⟩:=g.slot X.env.locals o ((mem _).mpr (.inl rfl)) ho;refine⟨m,⟨_,es,ep,q2,hd,r⟩,λi x v a1 a2 a3=> ?_⟩
  obtain⟨u,ru,lk⟩:=hl i x v a1 a2 a3;refine⟨u,ru,?_⟩
  rcases lk with z | ⟨_,c,z,_⟩
  ·exact .inl z
  ·exact absurd z (hcl x c)
 ·obtain⟨b1,b2,b3,b4,b5⟩:=I.pin p hp'
  exact⟨g.keep p.1 p.2 (λz=>((mem _).mp z).elim b3 b4) (hp p hp').1 (hp p hp').2 b1,b2,b3,b4,b5⟩
 ·refine(I.hok a o q).GL (λb u hb z=>keepH b u ?_ z) (λ_ z=>z) λ_ _ z=>z
  rcases hb with rfl | hb
  ·rw[q];simp
  ·rw[hb];simp
end
section
variable {M:My}{A:Iw}{E:Hs->Hr->Prop}{h:Heap}{g:Array NT}{d:Qt}{t:Nat}{os:LA}
variable {nm q:Str}{C N:Addr}{bs bm:List Hs}{hdct:Bool}{sn:List Str}{sub:List Hs}{ab:Bool}{col:Option Bool}{dd:Option Addr}{k0 k1 k2 k3 k5:Option Hs}{newId:String}
variable {nm' q':Str}{D N':Addr}{bs' bm':List Hs}{hdct':Bool}{sn':List Str}{sub':List Hs}{ab':Bool}{col':Option Bool}{dd':Option Addr}{k0' k1' k2' k3' k5':Option Hs}{newId':String}
theorem vb {e:Addr}{oe:Obj}{Q:Bool->Hr->Prop}(hC:h.get? C=some (Jo nm q C N bs bm hdct sn sub ab col dd k0 k1 k2 k3 k5 newId))(hD:h.get? D=some (Jo nm' q' D N' bs' bm' hdct' sn' sub' ab' col' dd' k0' k1' k2' k3' k5' newId'))
  (he:h.get? e=some oe) (hcls:oe.cls= .ref C) (hb:bm'.contains (.type "BaseException")=true) (hin:(Io C::bm).contains (.ref D)=true) (hq:Q true ⟨h,g,d,t,os⟩):wpAny M A (excMatches (.ref e) (.ref D)) Q E ⟨h,g,d,t,os⟩:=by
 have hcB:(Io D::bm').contains (.type "BaseException")=true:=by rw[JC,hb,Nt]
 have f:=tc_notTuple;unfold excMatches
 repeat (first | (with_reducible refine IJ he ?_;rw[hcls]) | with_reducible refine IJ hD ?_ | (with_reducible refine J5 hD ?_;rw[hcB]) | (with_reducible refine J5 hC ?_;rw[hin]) | wp_step)
 exact hq
end
abbrev mm (X:Cx)(e:Addr)(oe:Obj):Cx:={ X with A:=X.A.mark (some (.ref e)),calm:=false,pn:=(e,oe)::X.pn,xe:=λ_ _=>False }
section
variable {X:Cx}{pins:List (Addr×Obj)}{σ:L2.St}{H:Hp}{s:Hr}{e:Addr}{oe:Obj}
theorem kH (I:Inv X pins σ H s)(he:s.heap.get? e=some oe)(hH:H e=none)(hne:e≠X.env.locals)(hf:e∉X.fs)(hc:∀v,oe.data≠ .cell v):Inv (mm X e oe) pins σ H s:=by
 have ok:=I.ok;refine⟨⟨ok.mod,ok.kind,ok.glob,ok.blt,ok.above,ok.inj,ok.has,ok.cab,(λz=>by cases z),?_,ok.stk,ok.exf,ok.bs,ok.bsz,ok.noex,ok.exfs,ok.funs,ok.frf⟩,I.os,I.bare,I.base,I.loc,I.cell,I.free,I.freeC,λp hp=> ?_,I.hok,I.len⟩
 ·exact ok.frames
 ·rcases HB.mp (show p∈(e,oe)::(X.pn++pins)from hp)with z | z
  ·subst z;exact⟨he,hH,hne,hf,hc⟩
  ·exact I.pin p z
theorem tX (ok:X.Ok)(I:Inv (mm X e oe) pins σ H s):Inv X pins σ H s:=
 ⟨ok,I.os,I.bare,I.base,I.loc,I.cell,I.free,I.freeC,λp hp=>I.pin p (Hv _ hp),I.hok,I.len⟩
theorem Inv.forget {h':Heap}{tk:Nat}{m:Str->Option Hs}(I:Inv X pins σ H s)(hcl:∀x c,X.env.cells.lookup x≠some c)(hn:h'.Ns X.env.locals m)(hs:Ks X.env.locals s.heap h'):Inv X pins (Ie X.N.length none) H { s with heap:=h',toks:=tk }:=by
 have out:∀b o,X.s₀.heap.get? b=some o->b≠X.env.locals:=λb o q z=>by
  have h1:=HH q
  have h2:=I.ok.above;rw[z]at h1;exact absurd (HM h1 h2) (Ia _)
 have kp:∀b o,b≠X.env.locals->s.heap.get? b=some o->h'.get? b=some o:=λb o n q=>hs.extBut b o n q
 refine⟨I.ok,I.os,I.bare,⟨λb o q n hb hx=>kp b o (out b o q) (I.base.keep b o q n hb hx),λb o q n hb hx=> ?_,I.base.free,λb o q hx=> ?_,I.base.tups,I.base.frzs,I.base.tbls⟩,⟨m,hn,λi x v a1 a2 a3=> ?_⟩,λx c z=>absurd z (hcl x c),I.free,I.freeC,λp hp=> ?_,λa o q=> ?_,by simp⟩
 ·obtain⟨sl,q1⟩:=I.base.slot b o q n hb hx
  exact⟨sl,kp b _ (out b o q) q1⟩
 ·obtain⟨o',q1⟩:=I.base.there b o q hx
  exact⟨o',kp b o' (out b o q) q1⟩
 ·rw[Ku]at a2
  split at a2 <;> cases a2
 ·obtain⟨b1,b2,b3,b4,b5⟩:=I.pin p hp
  exact⟨kp p.1 p.2 b3 b1,b2,b3,b4,b5⟩
 ·have nl:∀b u,H b=some u->b≠X.env.locals:=λb u q z=>by rw[z,I.free]at q;cases q
  refine(I.hok a o q).GL (λb u hb z=>kp b u ?_ z) (λ_ z=>z) λ_ _ z=>z
  rcases hb with rfl | hb
  ·exact nl _ _ q
  ·exact nl _ _ hb
end
def qj (F:En->Rs Fl)(h:Str->Rs T)(ρ:En):Rs Fl:=match F ρ with
 | .err c=>match h c with
  | .ok t=> .ok (.rt t)
  | _=> .bad
 | r=>r
def pL (X:Cx)(i:Nat)(suite:List Stmt)(CE:Addr)(h:Str->Rs T):Prop:=
 ∀(c:Str) (C:Addr) (t:T),X.mg c=some (.ref C)->h c= .ok t->∃bm,OX X.K C bm/\(Io C::bm).contains (.ref CE)=true ∧
  ∀(e:Addr) (oe:Obj) (ev:Array Hs),oe.cls= .ref C->oe.data= .fields ev->∀(pins:List (Addr×Obj)) (s:Hr) (σ:L2.St) (H:Hp) (O:Ow) (Q:VK),Inv (mm X e oe) pins σ H s->H e=none->e∉jH X.stack->σ[i]? =some (some (.ref e))->(∀p,H p=none->¬ O p) →
   (∀v H',Same H H'->Rep X.K O H' t v->Q v H')->wpAny (model X.prog X.w) (mm X e oe).A (execs suite X.env) (SP (mm X e oe) pins { nx:=λ_ _=>False,rt:=Q }) (λ_ _=>False) s
section
variable {X:Cx}
theorem Inv.G9 {σ:L2.St}{H:Hp}{s:Hr}(pins:List (Addr×Obj))(I:Inv X pins σ H s):Inv { X with pn:=X.pn++pins } [] σ H s:=
 ⟨⟨I.ok.mod,I.ok.kind,I.ok.glob,I.ok.blt,I.ok.above,I.ok.inj,I.ok.has,I.ok.cab,I.ok.hd,I.ok.frames,I.ok.stk,I.ok.exf,I.ok.bs,I.ok.bsz,I.ok.noex,I.ok.exfs,I.ok.funs,I.ok.frf⟩,I.os,I.bare,I.base,I.loc,I.cell,I.free,I.freeC,λp hp=>I.pin p (by rw[IA]at hp;exact hp),I.hok,I.len⟩
theorem Inv.Hg {σ:L2.St}{H:Hp}{s:Hr}{pins pins1:List (Addr×Obj)}{xe:Hs->Hr->Prop}(I:Inv { X with pn:=X.pn++pins,xe:=xe } pins1 σ H s):Inv X pins σ H s:=
 ⟨⟨I.ok.mod,I.ok.kind,I.ok.glob,I.ok.blt,I.ok.above,I.ok.inj,I.ok.has,I.ok.cab,I.ok.hd,I.ok.frames,I.ok.stk,I.ok.exf,I.ok.bs,I.ok.bsz,I.ok.noex,I.ok.exfs,I.ok.funs,I.ok.frf⟩,I.os,I.bare,I.base,I.loc,I.cell,I.free,I.freeC,λp hp=>I.pin p (IG _ hp),I.hok,I.len⟩
end
section
variable {X:Cx}{e C:Addr}{oe:Obj}{bm:List Hs}
theorem D7:Ir "ValueError" =some (.type "ValueError"):=by decide+kernel
end
theorem FG {K:Ho}{N:Addr}{ob:Hs}{oe:Option Addr}{es:Array DictEntry}{n:Nat}{oz:Array (Option Hs)}(r:K.lookup N=some ⟨ob,oe,.dict es n,oz⟩)(s:(es.toList.all λe=>wH e.key)=true)
  (u0:La K N "__init__" =some none) (u1:La K N "__getattribute__" =some none) (u2:La K N "__getattr__" =some none) (u3:La K N "__class__" =some none) :
  ∀h:Heap,K.In h->∃mN,h.Ns N mN/\∀n∈calmNames,mN n=none:=λh k=>by
 refine⟨nsFind es,⟨_,es,n,k _ _ r,rfl,λe he=> ?_,λ_=>rfl⟩,λx hx=> ?_⟩
 ·have:=HW.mp s e (by simpa using he)
  cases q:e.key <;> rw[q]at this <;> first | exact⟨_,_,rfl⟩ | cases this
 ·have key:∀x,La K N x=some none->nsFind es x=none:=λx u=>by
   unfold La at u;rw[r]at u;simp only at u
   split at u
   ·cases u
   ·rename_i he
    unfold nsFind findBy;rw[<-Os,he];rfl
  unfold calmNames at hx;simp only[HB,IH,or_false]at hx;rcases hx with rfl | rfl | rfl | rfl
  ·exact key _ u0
  ·exact key _ u1
  ·exact key _ u2
  ·exact key _ u3
section
variable {K:Ho}{nm q:Str}{C N:Addr}{bs:List Hs}{hdct:Bool}{sn:List Str}{sub:List Hs}{ab:Bool}{col:Option Bool}{dd:Option Addr}{k0 k1 k2 k3 k5:Option Hs}
variable {nm' q':Str}{D N':Addr}{bs':List Hs}{hdct':Bool}{sn':List Str}{sub':List Hs}{ab':Bool}{col':Option Bool}{dd':Option Addr}{k0' k1' k2' k3' k5':Option Hs}
theorem zR (w:K.lookup C=some (Jo nm q C N bs kz hdct sn sub ab col dd k0 k1 k2 k3 k5 "ValueError.__new__"))(ns:∀h:Heap,K.In h->∃mN,h.Ns N mN/\∀n∈calmNames,mN n=none):OX K C kz:=⟨λh k=>by
 obtain⟨mN,h1,h2⟩:=ns h k;exact⟨nm,q,N,bs,hdct,sn,sub,ab,col,dd,k0,k1,k2,k3,k5,mN,k _ _ w,h1,h2,.base⟩⟩
theorem xj (w:K.lookup C=some (Jo nm q C N bs (.ref D::kz) hdct sn sub ab col dd k0 k1 k2 k3 k5 "ValueError.__new__"))(ns:∀h:Heap,K.In h->∃mN,h.Ns N mN/\∀n∈calmNames,mN n=none)
  (wD:K.lookup D=some (Jo nm' q' D N' bs' kz hdct' sn' sub' ab' col' dd' k0' k1' k2' k3' k5' "ValueError.__new__")) (nsD:∀h:Heap,K.In h->∃mN,h.Ns N' mN/\∀n∈calmNames,mN n=none):OX K C (.ref D::kz):=⟨λh k=>by
 obtain⟨mN,h1,h2⟩:=ns h k;obtain⟨mD,d1,d2⟩:=nsD h k;exact⟨nm,q,N,bs,hdct,sn,sub,ab,col,dd,k0,k1,k2,k3,k5,mN,k _ _ w,h1,h2,.own (k _ _ wD) d1 d2 .base⟩⟩
end
end Tr
namespace L2
open PySem PySem.Spec PyProof.Rows
abbrev KT (H:Hp):List (List mh×V)->List (List mh×Addr×Hs)->Prop:=Qv λp q=>p.1=q.1/\H q.2.1=some (.tup (p.1.map kV))/\RelV p.2 q.2.2
structure M2 (X:Cx)(o:Expr)(m:Str)(apos:Pos)(e f:Expr)(cpos:Pos):Prop where
 base:Ke o m X.env (eval o X.env)=eval o X.env
 few:((backTo cpos (HX [e,f] X.env)).all (λx=> !x.1)&&(backToKw cpos (keywordEach [] X.env)).all (λx=>x.1.isSome)
  &&decide (([e,f]:List Expr).length+([]:List Keyword).length+(if ([]:List Keyword).isEmpty then 0 else 1)<30))=true
 line:(apos.endLine == cpos.line)=true
 trees:backTo cpos (HX [e,f] X.env)= [(false,eval e X.env),(false,eval f X.env)]
end L2
namespace Tr
theorem qK:∀l,fz l l=false
 | [] =>rfl
 | a::l=>by unfold fz;rw[if_pos rfl];exact qK l
theorem oV:∀a b c,fz a b=true->fz b c=true->fz a c=true
 | [],[],_,h,_=>absurd h (by simp[fz])
 | _::_,[],_,h,_=>absurd h (by simp[fz])
 | [],_::_,[],_,h=>absurd h (by simp[fz])
 | [],_::_,_::_,_,_=>rfl
 | _::_,_::_,[],_,h=>absurd h (by simp[fz])
 | x::a,y::b,z::c,h,g=>by
  unfold fz at h g ⊢
  by_cases e:x=y
  ·subst e
   rw[if_pos rfl]at h
   by_cases e2:x=z
   ·rw[if_pos e2]at g ⊢;exact oV a b c h g
   ·rw[if_neg e2]at g ⊢;exact g
  ·rw[if_neg e]at h
   by_cases e2:y=z
   ·subst e2;rw[if_neg e];exact h
   ·rw[if_neg e2]at g
    have h1:=of_decide_eq_true h
    have h2:=of_decide_eq_true g;rw[if_neg (by omega)]
    exact decide_eq_true (by omega)
theorem lH:∀a b,fz a b=false->fz b a=false->a=b
 | [],[],_,_=>rfl
 | [],_::_,h,_=>absurd h (by simp[fz])
 | _::_,[],_,h=>absurd h (by simp[fz])
 | x::a,y::b,h,g=>by
  unfold fz at h g
  by_cases e:x=y
  ·subst e
   rw[if_pos rfl]at h g;rw[lH a b h g]
  ·rw[if_neg e]at h
   rw[if_neg (λz=>e z.symm)]at g
   have h1:=of_decide_eq_false h
   have h2:=of_decide_eq_false g;omega
theorem xF (a b c:List Int)(h:fz a c=true):fz a b=true\/fz b c=true:=by
 cases h1:fz a b with
 | true=>exact .inl rfl
 | false=>
  cases h2:fz b a with
  | true=>exact .inr (oV _ _ _ h2 h)
  | false=>rw[<-lH _ _ h1 h2];exact .inr h
end Tr
namespace Tr
open PySem PySem.Spec PyProof.Rows L2 PySem.W
variable (R:RK)
variable {R:RK}
def RK.kind (R:RK)(h:Heap):PyProof.Rows.KeyKind:={ α:=List Int,blt:=fz,irrefl:=qK,trans:=oV,negTrans:=xF,total:=lH,keyOf:=R.key h,dflt:=[] }
def RK.row (R:RK)(h:Heap)(v:Hs):List Int:=(R.key h v).getD []
end Tr
namespace L2
open PySem PySem.Spec PyProof.Rows
theorem qR {n b:Nat}:b∈ [n+4,n,n+1,n+2,n+3] ↔n<=b/\b<n+5:=by
 simp only[HB,IH,or_false];omega
end L2
namespace Tr
open PySem
def c0 (g:List T->Rs T)(_:En):Rs T:=match g []with
 | .ok t=> .ok t
 | _=> .bad
end Tr
namespace PySem
open Sem (wp)
open L2 (itAt)
structure PW (prog:HZ)(w:ID)(A:Iw)(I:Addr)(T:String)(fp wr:List Addr)(n:Nat)(R:Nat->Hs->Hs->Prop)(St:Nat->Option Addr->Heap->Prop):Prop where
 sub:∀b∈wr,b∈fp
 ty:∀i o (s:Hr),St i o s.heap->s.TypeIs (.ref I) T
 frame:∀i o h h',St i o h->(∀b∈fp,∀ob,h.get? b=some ob->h'.get? b=some ob)->St i o h'
 item:∀i o (s:Hr) (Q:Option Hs->Hr->Prop) (E:Hs->Hr->Prop),i<n->St i o s.heap->(∀t,o=some t->∃ob,s.heap.get? t=some ob) →
  (∀p h' tk x y,R i x y->s.heap.objs.size<=p->IsPair h' p x y->St (i+1) (some (o.getD p)) h'->(∀b ob,b∉wr->s.heap.get? b=some ob->h'.get? b=some ob)->Q (some (.ref p)) { s with heap:=h',toks:=tk })->wpAny (model prog w) A (pyNext (.ref I)) Q E s
 done:∀o (s:Hr) (Q:Option Hs->Hr->Prop) (E:Hs->Hr->Prop),St n o s.heap->(∀t,o=some t->∃ob,s.heap.get? t=some ob)->(∀h' tk,(∀b ob,b∉wr->s.heap.get? b=some ob->h'.get? b=some ob)->Q none { s with heap:=h',toks:=tk })->wpAny (model prog w) A (pyNext (.ref I)) Q E s
 self:∀i o (s:Hr) (Q:Hs->Hr->Prop) (E:Hs->Hr->Prop),St i o s.heap->Q (.ref I) s->wpAny (model prog w) A (pyIter (.ref I)) Q E s
end PySem
namespace Tr
open PySem PySem.Spec PyProof.Rows L2
section
variable {X:Cx}{a b:Expr}{fs:En->Rs (List T)}{p p1 p2 pos:Pos}
theorem mZ:∀{m:List T} {ns:List Int},lD m=some ns->m=ns.map .int
 | [],ns,h=>by cases h;rfl
 | t::m,ns,h=>by
  cases t with
  | int i=>
   unfold lD at h;obtain⟨k,h1,rfl⟩:=Ni.mp h
   rw[mZ h1];rfl
  | _=>cases h
end
end Tr
namespace Tr
open PySem
inductive Fx where
 | nx (ρ:En) | rt (t:T) (ρ:En)
def mN (ρ:En):Rs Fx:=.ok (.nx ρ)
def n9 (i:Nat)(f:En->Rs T)(ρ:En):Rs Fl:=match ρ[i]? with
 | some (.ow (.lst l))=>f ρ >>= λt=>(match t with
  | .lst m=>if l.length+m.length<=sizeLine then .ok (.nx (ρ.set i (.ow (.lst (l++m)))))else .bad
  | _=> .bad)
 | _=> .bad
end Tr
namespace Tr
open PySem PySem.Spec PyProof.Rows L2
abbrev one (j:Nat)(m:Ow):Mn:=noM.set j m
structure QE (X:Cx)(e:Expr)(f:En->Rs T):Prop where
 h:cx X e f
structure QA (X:Cx)(e:List Expr)(f:En->Rs (List T)):Prop where
 h:pQ X e f
structure QT (X:Cx)(e:Expr)(f:En->Rs Bool):Prop where
 h:uB X e f
structure QW (X:Cx)(e:Expr)(f:En->Rs Bool):Prop where
 h:BG X e f
structure QS (X:Cx)(e:Stmt)(f:En->Rs Fl):Prop where
 h:vF X e f
structure yJ (X:Cx)(e:List Stmt)(f:En->Rs Fl):Prop where
 h:ma X e f
structure QG (X:Cx)(e:Expr)(f:T->En->Rs En):Prop where
 h:yW X e f
structure GC (X:Cx)(e:List Expr)(f:List T->En->Rs En):Prop where
 h:yK X e f
structure QI (X:Cx)(t e:Expr)(f:En->Rs (List T)):Prop where
 h:vK X t e f
structure QO (X:Cx)(e:Option Expr)(f:En->Rs (Option Int)):Prop where
 h:D9 X e f
structure Eo (X:Cx)(e:List Expr)(f:En->Rs Bool):Prop where
 h:ro X e (wA X f)
theorem af {X:Cx}(i:Nat){x:Str}{pos:Pos}(hN:autoParam ((Cx.N X)[i]? =some x) u_)(hv:autoParam (rl (Lp (Cx.env X)) x) v_)(hd:autoParam ((x == HQ "__debug__")=false) s_)(hcd:autoParam ((x == HQ "__classdict__")=false) s_):QE X (Jz x pos) (vr i):=
 ⟨E7 (i:=i) (hN:=hN) (hv:=hv) (hd:=hd) (hcd:=hcd)⟩
theorem ak {X:Cx}{i:Int}{j:Nat}{pos:Pos}:QE X (LW (Const.int i) j pos) (cn (T.int i)):=
 ⟨Fj ⟩
theorem pW {X:Cx}{i:Bool}{j:Nat}{pos:Pos}:QE X (LW (Const.bool i) j pos) (cn (T.bl i)):=
 ⟨q_bl ⟩
theorem fk {X:Cx}{j:Nat}{pos:Pos}:QE X (LW Const.none j pos) (cn T.non):=
 ⟨Fe ⟩
theorem aG {X:Cx}{i:Str}{j:Nat}{pos:Pos}:QE X (LW (Const.str i) j pos) (cn (T.str i)):=
 ⟨E9 ⟩
theorem yY {X:Cx}{x:Str}{i:Int}{u:Hs}{pos:Pos}(hm:Cx.mg X x=some u)(r:L2.RelV (V.int i) u)(hg:autoParam (Gl X x) u_)(hd:autoParam ((x == HQ "__debug__")=false) s_):QE X (Jz x pos) (cn (T.int i)):=
 ⟨Cu (hm:=hm) (r:=r) (hg:=hg) (hd:=hd)⟩
theorem ah {X:Cx}:QA X [] ag:=
 ⟨Cr ⟩
theorem ai {X:Cx}{e:Expr}{es:List Expr}{f:En->Rs T}{g:En->Rs (List T)}(he:QE X e f)(hr:QA X es g)(hn:autoParam (cN e=true) u_):QA X (e::es) (ae f g):=
 ⟨qa_c (he:=he.h) (hr:=hr.h) (hn:=hn)⟩
theorem cv {X:Cx}{es:List Expr}{x1:Nat}{pos:Pos}{f:En->Rs (List T)}(h:QA X es f):QE X (Expr.Tuple es x1 pos) (bQ f):=
 ⟨E8 (h:=h.h)⟩
theorem fM {X:Cx}{es:List Expr}{pos:Pos}{f:En->Rs (List T)}(h:QA X es f):QE X (Expr.List es pos) (dz f):=
 ⟨Fg (h:=h.h)⟩
theorem ar {X:Cx}{a b:Expr}{fa fb:En->Rs T}{pos:Pos}{op:OM}{g:T->T->Rs T}(ho:OpT X (Jq op) g)(ha:QE X a fa)(hb:QE X b fb):QE X (Expr.BinOp a op b pos) (o2 g fa fb):=
 ⟨Fo (ho:=ho) (ha:=ha.h) (hb:=hb.h)⟩
theorem jJ {X:Cx}{a b:Expr}{fa fb:En->Rs T}{pos:Pos}{op:Pr}{g:T->T->Rs T}(ho:OpT X (IM op) g)(ha:QE X a fa)(hb:QE X b fb)(hm:autoParam (JU op b=false) u_):QE X (Ny a [op] [b] pos) (o2 g fa fb):=
 ⟨Fm (ho:=ho) (ha:=ha.h) (hb:=hb.h) (hm:=hm)⟩
theorem gJ {X:Cx}{a:Expr}{fa:En->Rs T}{pos:Pos}(ha:QE X a fa):QE X (Nz UnaryOp.USub a pos) (o1 c9 fa):=
 ⟨Ff (ha:=ha.h)⟩
theorem pV {X:Cx}{a b c:Expr}{fa fb fc:En->Rs T}{pos:Pos}{op op':Pr}{g g':T->T->Rs T}(ho:OpT X (IM op) g)(ho':OpT X (IM op') g')(ha:QE X a fa)(hb:QE X b fb)(hc:QE X c fc)(hm:autoParam (Qk [op,op'] [b,c] =false) w_):QE X (Ny a [op,op'] [b,c] pos) (ch g g' fa fb fc):=
 ⟨zA (ho:=ho) (ho':=ho') (ha:=ha.h) (hb:=hb.h) (hc:=hc.h) (hm:=hm)⟩
theorem dS {X:Cx}{e:Expr}{f:En->Rs T}(h:QE X e f)(he:autoParam (∀(whole:Sem Hs),PySem.isTrue e (Cx.env X) whole=(do let v <-whole;standAt (Expr.pos e);holding [v] (truthy v))) t_):QT X e (tb f):=
 ⟨Cb (h:=h.h) (he:=he)⟩
theorem cm {X:Cx}{a b:Expr}{fa fb:En->Rs T}{pos:Pos}{op:Pr}{g:T->T->Rs T}(ho:OpT X (IM op) g)(ha:QE X a fa)(hb:QE X b fb)(hm:autoParam (JU op b=false) u_):QT X (Ny a [op] [b] pos) (tb (o2 g fa fb)):=
 ⟨Cd (ho:=ho) (ha:=ha.h) (hb:=hb.h) (hm:=hm)⟩
theorem uF {X:Cx}{a b c:Expr}{fa fb fc:En->Rs T}{pos:Pos}{op op':Pr}{g g':T->T->Rs T}(ho:OpT X (IM op) g)(ho':OpT X (IM op') g')(ha:QE X a fa)(hb:QE X b fb)(hc:QE X c fc)(hm:autoParam (Qk [op,op'] [b,c] =false) w_):QT X (Ny a [op,op'] [b,c] pos) (tb (ch g g' fa fb fc)):=
 ⟨wR (ho:=ho) (ho':=ho') (ha:=ha.h) (hb:=hb.h) (hc:=hc.h) (hm:=hm)⟩
theorem kM {X:Cx}{a:Expr}{pos:Pos}{f:En->Rs Bool}(ha:QT X a f):QW X (Ki NR [a] pos) f:=
 ⟨zi (ha:=ha.h)⟩
theorem jo {X:Cx}{a:Expr}{pos:Pos}{f:En->Rs Bool}(ha:QT X a f):QW X (Ki Oy [a] pos) f:=
 ⟨B9 (ha:=ha.h)⟩
theorem kA {X:Cx}{a b:Expr}{pos:Pos}{f g:En->Rs Bool}{rest:List Expr}(ha:QT X a f)(hb:QW X (Ki NR (b::rest) pos) g):QW X (Ki NR (a::b::rest) pos) (hZ f g):=
 ⟨Ca (ha:=ha.h) (hb:=hb.h)⟩
theorem kL {X:Cx}{a b:Expr}{pos:Pos}{f g:En->Rs Bool}{rest:List Expr}(ha:QT X a f)(hb:QW X (Ki Oy (b::rest) pos) g):QW X (Ki Oy (a::b::rest) pos) (mj f g):=
 ⟨EZ (ha:=ha.h) (hb:=hb.h)⟩
theorem kb {X:Cx}{f:En->Rs Bool}{e:Expr}(h:QW X e f):QT X e f:=
 ⟨qt_w (h:=h.h)⟩
theorem eR {X:Cx}{a:Expr}{pos:Pos}{f:En->Rs Bool}(ha:QT X a f):QT X (Nz UnaryOp.Not a pos) (di f):=
 ⟨Cc (ha:=ha.h)⟩
theorem eI {X:Cx}{a:Expr}{fa:En->Rs T}{pos:Pos}{op:BoolOp}(h:QE X a fa):QE X (Ki op [a] pos) fa:=
 ⟨Fc (h:=h.h)⟩
theorem dv {X:Cx}{a b:Expr}{fa fb:En->Rs T}{pos:Pos}{rest:List Expr}(ha:QE X a fa)(hb:QE X (Ki NR (b::rest) pos) fb):QE X (Ki NR (a::b::rest) pos) (cE fa fb):=
 ⟨Fp (ha:=ha.h) (hb:=hb.h)⟩
theorem Er {X:Cx}{a b:Expr}{fa fb:En->Rs T}{pos:Pos}{rest:List Expr}(ha:QE X a fa)(hb:QE X (Ki Oy (b::rest) pos) fb):QE X (Ki Oy (a::b::rest) pos) (Fz fa fb):=
 ⟨q_or (ha:=ha.h) (hb:=hb.h)⟩
theorem BJ {X:Cx}{a:Expr}{fa:En->Rs T}{pos:Pos}(ha:QE X a fa):QE X (Nz UnaryOp.Not a pos) (o1 z4 fa):=
 ⟨Fd (ha:=ha.h)⟩
theorem mM {X:Cx}{a b c:Expr}{fa fb:En->Rs T}{pos:Pos}{f:En->Rs Bool}(hc:QT X c f)(ha:QE X a fa)(hb:QE X b fb):QE X (Expr.IfExp c a b pos) (qN f fa fb):=
 ⟨q_if (hc:=hc.h) (ha:=ha.h) (hb:=hb.h)⟩
theorem aM {X:Cx}{a b:Expr}{fa fb:En->Rs T}{pos:Pos}(ha:QE X a fa)(hb:QE X b fb)(hs:autoParam (kK b) x_):QE X (N4 a b pos) (o2 aW fa fb):=
 ⟨q_ix (ha:=ha.h) (hb:=hb.h) (hs:=hs)⟩
theorem aX {X:Cx}:QO X none pN:=
 ⟨zo ⟩
theorem aS {X:Cx}{a:Expr}{fa:En->Rs T}(ha:QE X a fa):QO X (some a) (pS fa):=
 ⟨zm (ha:=ha.h)⟩
theorem cF {X:Cx}{a:Expr}{fa:En->Rs T}{pos:Pos}{lo hi:Option Expr}{p2:Pos}{fl fu:En->Rs (Option Int)}(ha:QE X a fa)(hl:QO X lo fl)(hu:QO X hi fu):QE X (N4 a (Expr.Slice lo hi none p2) pos) (sl fa fl fu):=
 ⟨zy (ha:=ha.h) (hl:=hl.h) (hu:=hu.h)⟩
theorem BI {X:Cx}{a:Expr}{fa:En->Rs T}{pos:Pos}{j:Nat}{p1 p2 p3:Pos}(ha:QE X a fa):QE X (N4 a (Expr.Slice none none (some (Nz UnaryOp.USub (LW (Const.int 1) j p1) p2)) p3) pos) (o1 wN fa):=
 ⟨Fb (ha:=ha.h)⟩
theorem cZ {X:Cx}{e:Expr}{es:List Expr}{fs:En->Rs (List T)}{pos p:Pos}{x:Str}{id:String}{g:List T->Rs T}(hc:CallT X (KU id) g)(hm:Cx.mg X x=none)(hv:Ir x=some (KU id))(ha:QA X (e::es) fs)(hn:autoParam (br (e::es)=true) u_)(hg:autoParam (Gl X x) u_)(h1:autoParam (x≠HQ "__name__") s_)(h2:autoParam ((x == HQ "__debug__")=false) s_):QE X (LG (Jz x p) (e::es) [] pos) (cl g fs):=
 ⟨q_cB (hc:=hc) (hm:=hm) (hv:=hv) (ha:=ha.h) (hn:=hn) (hg:=hg) (h1:=h1) (h2:=h2)⟩
theorem d7 {X:Cx}{e:Expr}{es:List Expr}{fs:En->Rs (List T)}{pos p:Pos}{x:Str}{Ty:String}{g:List T->Rs T}(hc:CallT X (JD Ty) g)(hm:Cx.mg X x=none)(hv:Ir x=some (JD Ty))(ha:QA X (e::es) fs)(hn:autoParam (br (e::es)=true) u_)(hg:autoParam (Gl X x) u_)(h1:autoParam (x≠HQ "__name__") s_)(h2:autoParam ((x == HQ "__debug__")=false) s_):QE X (LG (Jz x p) (e::es) [] pos) (cl g fs):=
 ⟨q_cT (hc:=hc) (hm:=hm) (hv:=hv) (ha:=ha.h) (hn:=hn) (hg:=hg) (h1:=h1) (h2:=h2)⟩
theorem zq_c {X:Cx}{e:Expr}{es:List Expr}{fs:En->Rs (List T)}{pos p:Pos}{x:Str}{n k:Nat}{f:Addr}{fd:IW}{ps:List Str}{g:List T->Rs T}(F:Ep (Cx.prog X) (Cx.w X) (Cx.K X) (Cx.mg X) (Cx.base X) k f fd ps n g)(hr:Room k (Cx.A X))(hm:Cx.mg X x=some (Io f))(hk:W.keepIn (Cx.K X) (Io f)=true)(hb:L2.Binds (Cx.K X) fd ps [])(hl:∀(ρ:En) (ts:List T),fs ρ=Rs.ok ts->KH ts=n)(ha:QA X (e::es) fs)(hps:autoParam (KH ps=n) u_)(hn:autoParam (br (e::es)=true) u_)(hg:autoParam (Gl X x) u_)(h2:autoParam ((x == HQ "__debug__")=false) s_):QE X (LG (Jz x p) (e::es) [] pos) (cl g fs):=
 ⟨q_c (F:=F) (hr:=hr) (hm:=hm) (hk:=hk) (hb:=hb) (hl:=hl) (ha:=ha.h) (hps:=hps) (hn:=hn) (hg:=hg) (h2:=h2)⟩
theorem sO {X:Cx}{a:Expr}{fa:En->Rs T}{pos p p2:Pos}{tn:Str}{Ty:String}(hm:Cx.mg X (HQ "isinstance")=none)(hmt:Cx.mg X tn=none)(hv:Ir tn=some (JD Ty))(ha:QE X a fa)(hn:autoParam (cN a=true) u_)(hg:autoParam (Gl X (HQ "isinstance")) u_)(hgt:autoParam (Gl X tn) u_)(h1:autoParam (tn≠HQ "__name__") s_)(h2:autoParam ((tn == HQ "__debug__")=false) s_):QE X (LG (Jz (HQ "isinstance") p) [a,Jz tn p2] [] pos) (o1 (yR Ty) fa):=
 ⟨q_is (hm:=hm) (hmt:=hmt) (hv:=hv) (ha:=ha.h) (hn:=hn) (hg:=hg) (hgt:=hgt) (h1:=h1) (h2:=h2)⟩
theorem aq {X:Cx}{pos:Pos}{x:Str}(i:Nat)(hN:KW (Cx.N X))(hi:autoParam ((Cx.N X)[i]? =some x) u_)(hx:autoParam (L2.Loc (Lp (Cx.env X)) x) y_)(hf:autoParam (Cx.fn X x=true\/Lz x (Od (Lp (Cx.env X)))=some NameKind.local) r_):QG X (Jz x pos) (gN i):=
 ⟨zw (i:=i) (hN:=hN) (hi:=hi) (hx:=hx) (hf:=hf)⟩
theorem pT {X:Cx}:GC X [] Bq:=
 ⟨zv ⟩
theorem ij {X:Cx}{e:Expr}{es:List Expr}{g:T->En->Rs En}{gs:List T->En->Rs En}(h1:QG X e g)(h2:GC X es gs)(hs:autoParam (P3 (λx=>Prod.snd x) (JM (e::es) (Cx.env X))=assign e (Cx.env X)::P3 (λx=>Prod.snd x) (JM es (Cx.env X))) u_):GC X (e::es) (vk g gs):=
 ⟨wV (h1:=h1.h) (h2:=h2.h) (hs:=hs)⟩
theorem sM {X:Cx}{es:List Expr}{pos:Pos}{k n:Nat}{gs:List T->En->Rs En}(hc:Cx.calm X=true)(h:GC X es gs)(hn:autoParam (KH (JM es (Cx.env X))=n) u_)(hst:autoParam (List.findIdx? (λx=>Prod.fst x) (JM es (Cx.env X))=none) u_):QG X (Expr.Tuple es k pos) (gT n gs):=
 ⟨Cq (hc:=hc) (h:=h.h) (hn:=hn) (hst:=hst)⟩
theorem dG {X:Cx}{a:Expr}{fs:En->Rs (List T)}{pos p:Pos}{tg:Expr}(hm:Cx.mg X (HQ "range")=none)(ha:QA X [a] fs)(hg:autoParam (Gl X (HQ "range")) u_)(hs:autoParam (HX [a] (Cx.env X)= [(false,eval a (Cx.env X))]) u_):QI X tg (LG (Jz (HQ "range") p) [a] [] pos) (iR fs):=
 ⟨uU (hm:=hm) (ha:=ha.h) (hg:=hg) (hs:=hs)⟩
theorem bZ {X:Cx}:Eo X [] bT:=
 ⟨zq ⟩
theorem pR {X:Cx}{c:Expr}{f:En->Rs Bool}(h:QT X c f):Eo X [c] f:=
 ⟨zp (h:=h.h)⟩
theorem Es {X:Cx}{pos:Pos}{elt tg iter:Expr}{ifs:List Expr}{scope:KY}{N':List Str}{src:List (Option Nat)}{fi:En->Rs (List T)}{tgt:T->En->Rs En}{fc:En->Rs Bool}{fe:En->Rs T}(hc:Cx.calm X=true)(S:LcScope X scope N' src)(hi:QI X tg iter fi)(block:∀(cl:List (Str×Addr)) (C:Addr) (s₀:Hr) (H₀:Hp) (fp:List Addr),QG (aZ X scope cl N' C s₀ H₀ fp) tg tgt/\Eo (aZ X scope cl N' C s₀ H₀ fp) ifs fc/\QE (aZ X scope cl N' C s₀ H₀ fp) elt fe)(hs:autoParam (∀(x:Hs),Ic iter (Cx.env X) x=pure x) t_):QE X (Lq elt [{ target:=tg,iter:=iter,ifs:=ifs,is_async:=0 }] scope pos) (eH fi src tgt fc fe):=
 ⟨q_lc (hc:=hc) (S:=S) (hi:=hi.h) (block:=λa1 a2 a3 a4 a5=>⟨(block a1 a2 a3 a4 a5).1.h,(block a1 a2 a3 a4 a5).2.1.h,(block a1 a2 a3 a4 a5).2.2.h⟩) (hs:=hs)⟩
theorem eS {X:Cx}:yJ X [] sN:=
 ⟨Cg ⟩
theorem az {X:Cx}{st:Stmt}{rest:List Stmt}{F G:En->Rs Fl}(h1:QS X st F)(h2:yJ X rest G):yJ X (st::rest) (aD F G):=
 ⟨zl (h1:=h1.h) (h2:=h2.h)⟩
theorem aF {X:Cx}{st:Stmt}{F:En->Rs Fl}(h:QS X st F):yJ X [st] F:=
 ⟨Cf (h:=h.h)⟩
theorem aL {X:Cx}{a:Expr}{fa:En->Rs T}{pos:Pos}(ha:QE X a fa):QS X (Stmt.Return (some a) pos) (aP fa):=
 ⟨Ce (ha:=ha.h)⟩
theorem fL {X:Cx}{c:Expr}{pos:Pos}{f:En->Rs Bool}{A B:List Stmt}{F G:En->Rs Fl}(hc:QT X c f)(ha:yJ X A F)(hb:yJ X B G):QS X (Stmt.If c A B pos) (gI f F G):=
 ⟨E6 (hc:=hc.h) (ha:=ha.h) (hb:=hb.h)⟩
theorem rz {X:Cx}{pos:Pos}{elt tg iter:Expr}{ifs:List Expr}{scope:KY}{spos py:Pos}{N':List Str}{src:List (Option Nat)}{fi:En->Rs (List T)}{tgt:T->En->Rs En}{fc:En->Rs Bool}{fe:En->Rs T}(i:Nat){y:Str}(hc:Cx.calm X=true)(S:LcScope X scope N' src)(hi:QI X tg iter fi)(block:∀(cl:List (Str×Addr)) (C:Addr) (s₀:Hr) (H₀:Hp) (fp:List Addr),QG (aZ X scope cl N' C s₀ H₀ fp) tg tgt/\Eo (aZ X scope cl N' C s₀ H₀ fp) ifs fc/\QE (aZ X scope cl N' C s₀ H₀ fp) elt fe)(hN:KW (Cx.N X))(hiy:autoParam ((Cx.N X)[i]? =some y) u_)(hy:autoParam (L2.Loc (Lp (Cx.env X)) y) y_)(hsw:autoParam (JT (Lq elt [{ target:=tg,iter:=iter,ifs:=ifs,is_async:=0 }] scope pos) (some (Jz y py)) (NS spos) (Cx.env X)=pure true) u_)(hf:autoParam (Cx.fn X y=true\/Lz y (Od (Lp (Cx.env X)))=some NameKind.local) r_)(hs:autoParam (∀(x:Hs),Ic iter (Cx.env X) x=pure x) t_):QS X (Oe [Jz y py] (Lq elt [{ target:=tg,iter:=iter,ifs:=ifs,is_async:=0 }] scope pos) spos) (bN (eH fi src tgt fc fe) (gN i)):=
 ⟨E5 (i:=i) (hc:=hc) (S:=S) (hi:=hi.h) (block:=λa1 a2 a3 a4 a5=>⟨(block a1 a2 a3 a4 a5).1.h,(block a1 a2 a3 a4 a5).2.1.h,(block a1 a2 a3 a4 a5).2.2.h⟩) (hN:=hN) (hiy:=hiy) (hy:=hy) (hsw:=hsw) (hf:=hf) (hs:=hs)⟩
theorem aC {X:Cx}{a:Expr}{fa:En->Rs T}{pos:Pos}{tg:Expr}{g:T->En->Rs En}(ha:QE X a fa)(hg:QG X tg g)(hs:autoParam (OK [tg] a (NS pos) (Cx.env X)=pure false) u_)(hw:autoParam (OL [tg] a (Cx.env X)=pure none) u_)(h1:autoParam (P3 (λx=>Prod.snd x) (JM [tg] (Cx.env X))= [assign tg (Cx.env X)]) u_):QS X (Oe [tg] a pos) (bN fa g):=
 ⟨Cm (ha:=ha.h) (hg:=hg.h) (hs:=hs) (hw:=hw) (h1:=h1)⟩
theorem vM {X:Cx}{a:Expr}{fa:En->Rs T}{pos:Pos}(ha:QE X a fa)(hs:autoParam (JT a none (NS pos) (Cx.env X)=pure false) u_):QS X (Stmt.Expr a pos) (Eh fa):=
 ⟨zk (ha:=ha.h) (hs:=hs)⟩
theorem jq {X:Cx}{pos:Pos}{tg iter:Expr}{body:List Stmt}{fi:En->Rs (List T)}{g:T->En->Rs En}{F:En->Rs Fl}(hc:Cx.calm X=true)(hi:QI X tg iter fi)(hg:QG (Cx.nox X) tg g)(hb:yJ (Cx.nox X) body F)(hs:autoParam (∀(x:Hs),Ic iter (Cx.env X) x=pure x) t_):QS X (Stmt.For tg iter body [] pos) (i6 fi g F):=
 ⟨Ci (hc:=hc) (hi:=hi.h) (hg:=hg.h) (hb:=hb.h) (hs:=hs)⟩
theorem cL {X:Cx}{a:Expr}{fa:En->Rs T}{tg:Expr}(ha:QE X a fa):QI X tg a (iS fa):=
 ⟨Cp (ha:=ha.h)⟩
theorem vO {X:Cx}{a:Expr}{fs:En->Rs (List T)}{p pos:Pos}{elts:List Expr}{kk:Nat}{tpos:Pos}(hm:Cx.mg X (HQ "enumerate")=none)(ha:QA X [a] fs)(hg:autoParam (Gl X (HQ "enumerate")) u_)(hs:autoParam (HX [a] (Cx.env X)= [(false,eval a (Cx.env X))]) u_):QI X (Expr.Tuple elts kk tpos) (LG (Jz (HQ "enumerate") p) [a] [] pos) (iE fs):=
 ⟨zu (hm:=hm) (ha:=ha.h) (hg:=hg) (hs:=hs)⟩
theorem vL {X:Cx}{es:List Expr}{pos p2 p3:Pos}{x:Str}(i:Nat){f:En->Rs (List T)}(hN:KW (Cx.N X))(ha:QA X es f)(hi:autoParam ((Cx.N X)[i]? =some x) u_)(hx:autoParam (L2.Loc (Lp (Cx.env X)) x) y_)(hs:autoParam (JT (Expr.List es p2) (some (Jz x p3)) (NS pos) (Cx.env X)=pure false) u_)(hf:autoParam (Cx.fn X x=true\/Lz x (Od (Lp (Cx.env X)))=some NameKind.local) r_):QS X (Oe [Jz x p3] (Expr.List es p2) pos) (mW i f):=
 ⟨zj (i:=i) (hN:=hN) (ha:=ha.h) (hi:=hi) (hx:=hx) (hs:=hs) (hf:=hf)⟩
theorem sL {X:Cx}{a:Expr}{fa:En->Rs T}{pos p2:Pos}{x:Str}(i:Nat){apos cpos:Pos}(ha:QE X a fa)(hN:autoParam ((Cx.N X)[i]? =some x) u_)(hv:autoParam (rl (Lp (Cx.env X)) x) v_)(hn:autoParam (cN a=true) u_)(hbase:autoParam (Ke (Jz x p2) (HQ "append") (Cx.env X) (eval (Jz x p2) (Cx.env X))=eval (Jz x p2) (Cx.env X)) u_)(hline:autoParam ((Pos.endLine apos == NS cpos)=true) u_)(hd:autoParam ((x == HQ "__debug__")=false) s_)(hcd:autoParam ((x == HQ "__classdict__")=false) s_)(hsw:autoParam (JT (LG (Expr.Attribute (Jz x p2) (HQ "append") apos) [a] [] cpos) none (NS pos) (Cx.env X)=pure false) u_):QS X (Stmt.Expr (LG (Expr.Attribute (Jz x p2) (HQ "append") apos) [a] [] cpos) pos) (oa i fa):=
 ⟨Cn (i:=i) (ha:=ha.h) (hN:=hN) (hv:=hv) (hn:=hn) (hbase:=hbase) (hline:=hline) (hd:=hd) (hcd:=hcd) (hsw:=hsw)⟩
theorem jI {X:Cx}{c:Str}{msg:Str}{C:Addr}{bm:List Hs}{np p1 cpos pos:Pos}{j:Nat}(O:OX X.K C bm)(hm:X.mg c=some (.ref C))(hc:autoParam (X.calm=true) u_)(hg:autoParam (Gl X c) u_)(hd:autoParam ((c == ("__debug__" : Str))=false) s_) :
  QS X (.Raise (some (.Call (.Name c np) [.Constant (.str msg) j p1] [] cpos)) none pos) (uS c):=⟨wU O.own hc hm hg hd⟩
theorem yZ {P:HZ}{w:ID}{K:Ho}{mg:Str->Option Hs}{base:Heap}{x qual:Str}{st:Stmt}{f:Addr}{fd:IW}{N ps:List Str}{k n:Nat}{F:En->Rs Fl}(Fn:L2.Fun K x qual st f fd)(S:cu N ps (au st))(hn:ps.length=n)
  (hbody:∀(cdv:Hs) (A:Iw) (outer:List Env) (s:Hr) (H:Hp) (E:XK),Room k (A.deeper (envOfC qual (au st) s.heap.objs.size f cdv)) →
   ∀xe,yJ ((fD CX0 P w K mg base N qual (au st) f cdv A outer s H E).FS xe) (bF st) F):Ep P w K mg base (k+1) f fd ps n (val n N.length F):=DB Fn S hn λcdv A outer s H E hr xe=>(hbody cdv A outer s H E hr xe).h
end Tr
namespace Tr
open PySem PySem.Spec PyProof.Rows L2 PySem.W
theorem yh (h:Heap):(qP h).In h:=by
 have key:∀(l:List Nat) (a:Addr) (o:Obj),(l.filterMap λa=>(h.get? a).map λo=>(a,o)).lookup a=some o->h.get? a=some o:=by
  intro l
  induction l with
  | nil=>intro a o e;cases e
  | cons b r ih=>
   intro a o e
   cases hb:h.get? b with
   | none=>rw[List.filterMap_cons_none (by rw[hb];rfl)]at e;exact ih a o e
   | some ob=>
    rw[List.filterMap_cons_some (b:=(b,ob)) (by rw[hb];rfl),Jh]at e
    cases q:a == b with
    | true=>rw[q]at e;cases e;rw[eq_of_beq q];exact hb
    | false=>rw[q]at e;exact ih a o e
 exact λa o e=>key _ a o e
theorem Br {K:Frag}{n:Str}{st:Stmt}(e:obF K n=exF n st):∃f fd,nsIn K Iz n=some (some (.ref f))/\L2.Fun K n n st f fd:=by
 unfold obF at e
 split at e
 ·rename_i f hf
  split at e
  ·rename_i oc od d sl hl
   cases d;unfold exF at e;simp only[IE.injEq,Pe.injEq]at e;obtain⟨h1,h2,h3,h4,h5,h6,h7,h8,h9,h10,h11⟩:=e;subst h1 h2 h3 h4 h5 h6 h7 h8 h9;exact⟨f,_,hf,Dy hl h10 h11⟩
  ·cases e
 ·cases e
theorem lB {K:Frag}{N:Addr}{n:Str}(e:FF K N n=true):nsIn K N n=some none:=by
 unfold FF at e
 split at e
 ·assumption
 ·cases e
theorem CZ {K:Frag}{n:Str}{i:Int}(e:GA K n=some i):∃t,nsIn K Iz n=some (some (.int i t)):=by
 unfold GA at e
 split at e
 ·rename_i i' t h;cases e;exact⟨t,h⟩
 ·cases e
theorem kX:∀{l:List Hs},sW l=true->l=kz:=by
 intro l e;unfold sW at e
 split at e
 ·simp only[Hu,beq_iff_eq]at e
  obtain⟨⟨⟨h1,h2⟩,h3⟩,h4⟩:=e;subst h1 h2 h3 h4;rfl
 ·cases e
theorem jc {K:Frag}{D:Option Addr}{n:Str}{C:Addr}(e:zX K D n=some C):nsIn K Iz n=some (some (.ref C)) ∧
  ∃nm q N bs bm hd sn su ab co dd k0 k1 k2 k3 k5,under D bm=true/\K.lookup C=some (Jo nm q C N bs bm hd sn su ab co dd k0 k1 k2 k3 k5 "ValueError.__new__")/\∀h:Heap,K.In h->∃mN,h.Ns N mN/\∀n∈calmNames,mN n=none:=by
 unfold zX at e
 split at e
 ·rename_i C' hC
  split at e
  ·rename_i t dd c k0 k1 k2 k3 b k5 hl
   split at e
   ·rename_i E m ob oe es ep oz hm hN
    split at e
    ·rename_i hq
     cases e;simp only[Hu,beq_iff_eq,Ph]at hq;obtain⟨⟨⟨⟨⟨⟨h1,h2⟩,h3⟩,h4⟩,h5⟩,h6⟩,h7⟩:=hq
     have z:=HW.mp h5;refine⟨hC,c.name,c.qualname,c.ns,c.bases,m,c.hasDict,c.slotNames,c.subclasses,c.abstract,c.collection,dd,k0,k1,k2,k3,k5,h7,?_,FG hN h4 (lB (z _ (.head _))) (lB (z _ (.tail _ (.head _)))) (lB (z _ (.tail _ (.tail _ (.head _))))) (lB (z _ (.tail _ (.tail _ (.tail _ (.head _))))))⟩
     rw[hl];cases c;simp only at hm h3;subst h1 h2 hm h3 h6
     rfl
    ·cases e
   ·cases e
  ·cases e
 ·cases e
theorem ox0 {K:Frag}{C:Addr}{n:Str}(e:zX K none n=some C):OX K C kz:=by
 obtain⟨_,_,_,_,_,_,_,_,_,_,_,_,_,_,_,_,_,hu,hl,hn⟩:=jc e;cases kX hu;exact zR hl hn
theorem ox1 {K:Frag}{C D:Addr}{n m:Str}(e:zX K (some D) n=some C)(d:zX K none m=some D):OX K C (.ref D::kz):=by
 obtain⟨_,_,_,_,_,bm,_,_,_,_,_,_,_,_,_,_,_,hu,hl,hn⟩:=jc e;obtain⟨_,_,_,_,_,_,_,_,_,_,_,_,_,_,_,_,_,hu',hl',hn'⟩:=jc d;cases kX hu';unfold under at hu;simp only at hu
 split at hu
 ·rw[Hu]at hu
  cases eq_of_beq hu.1;cases kX hu.2;exact xj hl hn hl' hn'
 ·cases hu
theorem j7 {α:Type}{o:Option α}{r:List (Option α)}{l:List α}(e:sE (o::r)=some l):∃a l',o=some a/\l=a::l'/\sE r=some l':=by
 cases o with
 | none=>cases e
 | some a=>
  unfold sE at e
  split at e
  ·rename_i l' h;cases e;exact⟨a,l',rfl,rfl,h⟩
  ·cases e
theorem yI {α:Type}{l:List α}(e:sE ([]:List (Option α))=some l):l= []:=by cases e;rfl
theorem m6:∀{l:List Addr},oP l=true->l.Nodup
 | [],_=> .nil
 | a::r,h=>by
  unfold oP at h;rw[Hu]at h;refine Kl.mpr ⟨λhm=> ?_,m6 h.2⟩
  have:=HW.mp h.1 a hm
  simp at this
theorem CY {K:Frag}{m:Str}{es:List Str}(e:Gz K (m::es)=true):∃D l,zX K none m=some D/\sE (es.map (zX K (some D)))=some l/\(l++ [D]).Nodup:=by
 rw[Gz]at e
 split at e
 ·rename_i D hD
  split at e
  ·rename_i l hl;exact⟨D,l,hD,hl,m6 e⟩
  ·cases e
 ·cases e
section
variable {S:vJ}{top:Nat->Stmt}{K:Frag}{h:Heap}{mg:Str->Option Hs}
theorem oU {α β:Type}{f g:α->β}:∀{l:List α} (j:Nat) {a:α},l.map f=l.map g->l[j]? =some a->f a=g a
 | [],_,_,_,q=>by cases q
 | b::l,0,a,e,q=>by cases q;exact(NA.inj e).1
 | b::l,j+1,a,e,q=>oU (l:=l) j (NA.inj e).2 q
theorem k_fn (j:Nat){n:Str}{i:Nat}{ps:List Str}(X:K.In h)(G:h.Ns Iz mg)(e:oI S K=nP S top)(q:S.tab[j]? =some (n,i))
  (hb:∀(kV doc pm:Hs) (an:Option Addr) (cdv ct:Hs) (us:List Hs),us.length=ps.length->OQ (fnOf n n (e9 (top i)) (bF (top i)) (au (top i)) .none kV doc pm an cdv ct) ⟨us,[]⟩=pure (ps.zip us)) :
  ∃f fd,Fn K mg n (top i) ps f fd:=by
 obtain⟨f,fd,h1,h2⟩:=Br (oU j (congrArg (·.1) e) q)
 exact⟨f,fd,h2,h2.binds hb,mg_of X G h1⟩
theorem FR (j:Nat){n:Str}{i:Nat}{x:Str}{fa:Addr}(X:K.In h)(G:h.Ns Iz mg)(e:oI S K=nP S top)(q:S.tab[j]? =some (n,i))(hfa:mg n=some (.ref fa))
  (hb:∀(kV doc pm:Hs) (an:Option Addr) (cdv ct u:Hs),OQ (fnOf n n (e9 (top i)) (bF (top i)) (au (top i)) .none kV doc pm an cdv ct) ⟨[u],[]⟩=pure [(x,u)]) :
  ∃fd,Fn K mg n (top i) [x] fa fd/\∀(s:Hr) (u:Hs),NJ s fd ⟨[u],[]⟩ [(x,u)]:=by
 obtain⟨f,fd,h1,h2⟩:=Br (oU j (congrArg (·.1) e) q)
 have z:=hfa.symm.trans (mg_of X G h1);cases z
 have hh:=h2;obtain⟨oc,od,kV,doc,pm,an,cdv,ct,osl,rfl,lk,hcd⟩:=hh.ex;exact⟨_,⟨h2,.all λus hl=>match us,hl with | [u],_=>hb kV doc pm an cdv ct u,mg_of X G h1⟩,λs u=> .of_eq (hb kV doc pm an cdv ct u)⟩
theorem eM (j:Nat){n:Str}(X:K.In h)(G:h.Ns Iz mg)(e:oI S K=nP S top)(q:S.zs[j]? =some n):mg n=none:=
 mg_none_of X G (lB (HW.mp (congrArg (·.2.1) e:S.zs.all (FF K Iz)=true) n (Jm q)))
theorem nj (j:Nat){n:Str}{i:Int}(X:K.In h)(G:h.Ns Iz mg)(e:oI S K=nP S top)(q:S.cs[j]? =some (n,i)):∃t,mg n=some (.int i t):=by
 obtain⟨t,ht⟩:=CZ (oU (f:=λc=>GA K c.1) (g:=λc=>some c.2) j (congrArg (·.2.2.1) e) q)
 exact⟨t,mg_of X G ht⟩
theorem FV (e:oI S K=nP S top):Gz K S.es=true:=congrArg (·.2.2.2) e
end
theorem left_of {p q:HZ}{loose:List Str}{Xt:Hr->Bool}{α:Type}{Yf:Hr->α}{Ya:ID->α}{N:Nat}{g0:Bool}
  (e:opening p=plainProg p.main.scope.names) (hN:Nat.ble 600 N=true) (f:∀s,fenceModules? p s=some s)
  (h:∀(w:ID) (os:LA),(topFrom NF p w N ⟨boot_heap w.params,⟨[]⟩,boot_drawn,boot_toks,os⟩).map (λs=>(openSeen q loose (NG p.main.body) Xt g0 s,Yf s))=some (openGood q loose,Ya w)) :
  LeftO p q loose Xt Yf Ya N g0:=λw=>by
 obtain⟨⟨h0,gs,d,k,os⟩,e1,e2⟩:=Ni.mp (boot_open e hN f w);simp only[Pe.injEq]at e2;obtain⟨rfl,rfl,rfl,rfl⟩:=e2;unfold openEnds;rw[e1];exact h w os
structure Cl (P:HZ)(w:ID)(K:Frag)(mg:Str->Option Hs)(base:Heap)(k:Nat)(x:Str)(n:Nat)(m:List T->Rs T):Prop where
 ex:∃f fd ps,mg x=some (.ref f)/\keepIn K (.ref f)=true/\Binds K fd ps []/\ps.length=n/\Ep P w K mg base k f fd ps n m
abbrev ia (K:Frag)(mg:Str->Option Hs)(x:Str)(st:Stmt)(ps:List Str):Prop:=∃f fd,Fn K mg x st ps f fd
section
variable {P:HZ}{w:ID}{K:Frag}{mg:Str->Option Hs}{base:Heap}{x:Str}{st:Stmt}{N ps:List Str}{k n:Nat}{F:En->Rs Fl}
theorem Gk (H:ia K mg x st ps)(S:cu N ps (au st))(hn:ps.length=n)
  (hbody:∀(f:Addr) (cdv:Hs) (A:Iw) (outer:List Env) (s:Hr) (H:Hp) (E:XK),Room k (A.deeper (envOfC x (au st) s.heap.objs.size f cdv)) →
   ∀xe,yJ ((fD CX0 P w K mg base N x (au st) f cdv A outer s H E).FS xe) (bF st) F):Cl P w K mg base (k+1) x n (val n N.length F):=by
 obtain⟨f,fd,h⟩:=H;exact⟨f,fd,ps,h.mg,h.fn.kp,h.bd,hn,yZ h.fn S hn (hbody f)⟩
end
section
variable {X:Cx}{e:Expr}{es:List Expr}{fs:En->Rs (List T)}{pos p:Pos}{x:Str}{n k k':Nat}{g:List T->Rs T}
theorem ba (c:Cl X.prog X.w X.K X.mg X.base k x n g)(hr:Room k' X.A)(ha:QA X (e::es) fs)(hk:autoParam (k<=k') s_)(hl:∀(ρ:En) (ts:List T),fs ρ= .ok ts->ts.length=n:=by repeat first | exact BD | refine BC ?_)
  (hn:autoParam (br (e::es)=true) u_) (hg:autoParam (Gl X x) u_) (h2:autoParam ((x == HQ "__debug__")=false) s_):QE X (.Call (.Name x p) (e::es) [] pos) (cl g fs):=by
 obtain⟨f,fd,ps,h1,h3,h4,h5,h6⟩:=c.ex;exact zq_c h6 (hr.mono hk) h1 h3 h4 hl ha h5 hn hg h2
theorem pU {i:Int}(h:∃t,X.mg x=some (.int i t))(hg:autoParam (Gl X x) u_)(hd:autoParam ((x == HQ "__debug__")=false) s_):QE X (.Name x pos) (cn (.int i)):=by
 obtain⟨t,h⟩:=h;exact yY h ⟨_,rfl⟩ hg hd
end
def hookC (S:rk)(top:Nat->Stmt):Hook:=
 ⟨_,λs=>xp S (qP s.heap),λ_=>v8 S top,λ_ h=> ∃K:Frag,K.In h/\xp S K=v8 S top,λ_ s e=>⟨_,yh s.heap,e⟩,λ_ _ _ ⟨K,a,b⟩ k=>⟨K,a.keeps k,b⟩⟩
end Tr
namespace Tr
open PySem PySem.Spec PyProof.Rows L2
section
variable {X:Cx}{a:Expr}{pos p p2 p3:Pos}{x:Str}{fa:En->Rs T}
def EY (K:Ho):R2:=λx y H Q=> ∃c d vs ws,x= .ref c/\y= .ref d/\H c=some (.lst vs)/\H d=some (.lst ws)/\vs.length+ws.length<=sizeLine/\∀p,Nw K H p->Q (.ref p) (dB H p (.lst (vs++ws)))
theorem zV:mf X (Jq .Add) (EY X.K):=by
 intro pins s σ H vx vy ux uy Q I r1 r2 ⟨c,d,vs,ws,e1,e2,h1,h2,hz,q⟩
 have hk:X.K.lookup s.heap.objs.size=none:=by
  cases z:X.K.lookup s.heap.objs.size with
  | none=>rfl
  | some o=>exact absurd (HH (I.kIn _ o z)) (Ia _)
 subst e1;subst e2;cases r1;cases r2;obtain⟨_,is1,_,s1,l1,g1⟩:=I.GT h1;obtain⟨_,is2,_,s2,l2,g2⟩:=I.GT h2;refine PM g1 g2 ?_ (by rw[HL,HL];omega)
 rw[show is1.toArray++is2.toArray=(is1++is2).toArray by simp]
 exact⟨.ref _,_,I.GY (t':=s.toks) (s1.append s2) (by rw[Ht];omega),rfl,q _ ⟨I.fresh,hk⟩⟩
theorem Cj (i:Nat)(hN:X.N.Nodup)(ha:cx X a fa)(hi:X.N[i]? =some x)(hx:Loc X.env.scope x)(hv:rl X.env.scope x)(hd:(x == ("__debug__" : Str))=false)(hcd:(x == ("__classdict__" : Str))=false)
  (hs:JT (.BinOp (.Name x p) .Add a p2) (some (.Name x p3)) pos.line X.env=pure false)
  (hf:X.fn x=true\/X.env.scope.names.lookup x=some .local):vF X (.Assign [.Name x p3] (.BinOp (.Name x p) .Add a p2) pos) (n9 i fa):=by
 refine PS.imp (rS hN hi hx (Fu zV (jR hi hv hd hcd) ha) hs hf) λD σ H ⟨ρ,B,M,E,h⟩=> ?_
 unfold n9 at h
 split at h
 ·rename_i l hl
  obtain⟨v0,s0,c,vs,e1,e2,e3,e4⟩:=E.env.own i _ hl;subst e1;refine⟨_,s0,?_⟩
  refine⟨ρ,OO B M,E.o,?_⟩
  cases q:fa ρ with
  | bad=>rw[q]at h;exact h.elim
  | err c=>rw[q]at h;exact PostF.xa h
  | ok t=>
   rw[q,aH]at h
   split at h
   ·rename_i m
    split at h
    ·rename_i hlen
     intro H1 s1 v r;obtain⟨d,ws,rfl,nO,hc,rm⟩:=Rep.Fk.mp r
     have E1:=E.same s1
     have h3:H1 c=some (.lst vs):=s1 _ _ e3;refine⟨c,d,vs,ws,rfl,rfl,h3,hc,by rw[<-e4.length,<-rm.length];exact hlen,λp hp=> ?_⟩
     have hm:∀a,a=p->Nw X.K H1 a:=λa z=>z▸hp
     have hil:i<ρ.length:=(HU.mp hl).1
     have r4:Reps X.K (OO B M) H1 (l++m) (vs++ws):=(e4.same s1).append rm;obtain⟨E2,sub⟩:=E1.new (m:=λa=>a=p) (o:=.lst (l++m)) (v:=.ref p) (H':=dB H1 p (.lst (vs++ws))) hil hm (aT hp.1 _) ⟨p,_,rfl,λb=>L9,bx,(r4.more (Ev.subO hm)).same (aT hp.1 _)⟩
     exact h _ _ _ (SameO.of (s1.trans (aT hp.1 _))) E2 λa z=>(sub a z).imp_right (tK s1)
    ·exact h.elim
   ·exact h.elim
 ·exact h.elim
theorem sJ (i:Nat)(hN:X.N.Nodup)(ha:QE X a fa)(hi:autoParam (X.N[i]? =some x) u_)(hx:autoParam (Loc X.env.scope x) y_)(hv:autoParam (rl X.env.scope x) v_)(hd:autoParam ((x == ("__debug__" : Str))=false) s_)(hcd:autoParam ((x == ("__classdict__" : Str))=false) s_)
  (hs:autoParam (JT (.BinOp (.Name x p) .Add a p2) (some (.Name x p3)) pos.line X.env=pure false) u_)
  (hf:autoParam (X.fn x=true\/X.env.scope.names.lookup x=some .local) r_):QS X (.Assign [.Name x p3] (.BinOp (.Name x p) .Add a p2) pos) (n9 i fa):=⟨Cj i hN ha.h hi hx hv hd hcd hs hf⟩
end
section
variable {X:Cx}{e C D:Addr}{oe:Obj}{ev:Array Hs}{bm bmD:List Hs}
def EJ (i:Nat)(e:Addr)(b:Bool):TE:=λσ H Q=>σ[i]? =some (some (.ref e))/\Q (.bl b) H
theorem om (i:Nat){en dn:Str}{p p1 p2 pos:Pos}(hN:X.N[i]? =some en)(hv:rl X.env.scope en)(hp:(e,oe)∈X.pn)(hc:oe.cls= .ref C)(hd:oe.data= .fields ev)(OC:OX X.K C bm)(OD:OX X.K D bmD)(b:Bool)(hb:(decide (C=D))=b)(hnb:C≠D->bm.contains (.ref D)=false)
  (hm:X.mg "isinstance" =none) (hmD:X.mg dn=some (.ref D)) (hg:Gl X "isinstance") (hgD:Gl X dn) (hde:(en == ("__debug__" : Str))=false) (hce:(en == ("__classdict__" : Str))=false) (hdd:(dn == ("__debug__" : Str))=false) :
  PE X (.Call (.Name "isinstance" p) [.Name en p1,.Name dn p2] [] pos) (EJ i e b):=by
 have he:HX [.Name en p1,.Name dn p2] X.env=(false,eval (.Name en p1) X.env)::HX [.Name dn p2] X.env:=aO rfl
 have hs:HX [.Name dn p2] X.env=(false,eval (.Name dn p2) X.env)::HX [] X.env:=aO rfl;intro pins s σ H Q I ⟨hσ,q⟩;refine Jr (eK I hg hm eO ?_ (by decide) (by decide))
 have hA:PA X [.Name en p1,.Name dn p2] (kc (BP i) (kc (tC (.ref D)) y9)):=cM (jR hN hv hde hce) (cM (tG hgD hmD rfl hdd) i8 hs) he;refine Jp (bK (hA pos pins s σ H (λvs H'=>vs= [.ref e,.ref D]/\H'=H) I ⟨.ref e,hσ,rfl,rfl⟩) λus s1 ⟨vs,H1,I1,r1,e1,e2⟩=> ?_) he (by rw[hs];rfl)
 subst e1;obtain⟨u,w',rfl,ru,rw'⟩:=v5 r1;cases ru;cases rw';subst e2;exact x6 hp hc hd OC OD b hb hnb I1 q
theorem zO (i:Nat){en:Str}{p p1 p2 pos:Pos}(hN:X.N[i]? =some en)(hv:rl X.env.scope en)(hp:(e,oe)∈X.pn)(hc:oe.cls= .ref C)(OC:OX X.K C bm)
  (hm:X.mg "isinstance" =none) (hmD:X.mg "ValueError" =none) (hg:Gl X "isinstance") (hgD:Gl X "ValueError") (hde:(en == ("__debug__" : Str))=false) (hce:(en == ("__classdict__" : Str))=false) :
  PE X (.Call (.Name "isinstance" p) [.Name en p1,.Name "ValueError" p2] [] pos) (EJ i e true):=by
 have he:HX [.Name en p1,.Name "ValueError" p2] X.env=(false,eval (.Name en p1) X.env)::HX [.Name "ValueError" p2] X.env:=aO rfl
 have hs:HX [.Name "ValueError" p2] X.env=(false,eval (.Name "ValueError" p2) X.env)::HX [] X.env:=aO rfl;intro pins s σ H Q I ⟨hσ,q⟩;refine Jr (eK I hg hm eO ?_ (by decide) (by decide))
 have hA:PA X [.Name en p1,.Name "ValueError" p2] (kc (BP i) (kc (tC (.ty "ValueError")) y9)):=cM (jR hN hv hde hce) (cM (tI (v:=.ty "ValueError") hgD hmD D7 rfl) i8 hs) he;refine Jp (bK (hA pos pins s σ H (λvs H'=>vs= [.ref e,.ty "ValueError"]/\H'=H) I ⟨.ref e,hσ,rfl,rfl⟩) λus s1 ⟨vs,H1,I1,r1,e1,e2⟩=> ?_) he (by rw[hs];rfl)
 subst e1;obtain⟨u,w',rfl,ru,rw'⟩:=v5 r1;cases ru;cases rw';subst e2;exact ya hp hc OC I1 q
end
theorem fsc {N P:List Str}{sc:KY}(h1:autoParam (sc.kind= .function) u_)(h2:autoParam (sc.isCoroutine=false) u_)(h3:autoParam (sc.isGenerator=false) u_)(h4:autoParam (N.Nodup) z_)(h5:autoParam (N.take P.length=P) u_)
  (h6:autoParam (∀x∈P,sc.names.lookup x=some .local\/sc.names.lookup x=some .cell) z_) (h7:autoParam (∀y∈sc.names,y.2≠ .free) z_):cu N P sc:=⟨h1,h2,h3,h4,h5,h6,h7⟩
end Tr
namespace Tr
open PySem
def tbl (pl:List Nat)(L:Bool):SetTable:={ mask:=7,place:=pl.toArray,dummies:=#[],finger:=0,led:=L,moves:=0,plain:=true }
theorem kE:∀{pl:List Nat},pl.Pairwise (· < ·)->∀{a b v u:Nat},a<b->pl[a]? =some v->pl[b]? =some u->v<u:=by
 intro pl h a b v u ab ha hb;rw[Mw]at h;obtain⟨h1,rfl⟩:=HU.mp ha
 obtain⟨h2,rfl⟩:=HU.mp hb
 exact h a b h1 h2 ab
theorem l7 {pl:List Nat}(hs:pl.Pairwise (· < ·))(j:Nat):∀(fuel lo hi:Nat),hi - lo<=fuel->lo<=hi->hi<=pl.length →
  (∀i v,i<lo->pl[i]? =some v->v<j)->(∀i v,hi<=i->pl[i]? =some v->j<=v) →
  ∃r,O8 pl.toArray j fuel lo hi=r/\r<=pl.length/\(∀i v,i<r->pl[i]? =some v->v<j)/\(∀i v,r<=i->pl[i]? =some v->j<=v)
 | 0,lo,hi,hf,hl,hh,h1,h2=>by
  have e:lo=hi:=by omega
  subst e
  exact⟨lo,rfl,hh,h1,h2⟩
 | fuel+1,lo,hi,hf,hl,hh,h1,h2=>by
  unfold O8
  by_cases hlt:lo<hi
  ·rw[if_pos hlt]
   have hm:(lo+hi) / 2<pl.length:=by omega
   have em:pl[(lo+hi) / 2]? =some pl[(lo+hi) / 2]:=HG hm
   have eg:pl.toArray.getD ((lo+hi) / 2) j=pl[(lo+hi) / 2]:=by simp[hm]
   dsimp only
   rw[eg]
   by_cases hc:pl[(lo+hi) / 2] <j
   ·rw[if_pos hc]
    refine l7 hs j fuel _ hi (by omega) (by omega) hh ?_ h2
    intro i v hi' hv;rcases Mo i ((lo+hi) / 2)with q | q
    ·exact PC (kE hs q hv em) hc
    ·have:i=(lo+hi) / 2:=by omega
     subst this;rw[em]at hv;cases hv;exact hc
   ·rw[if_neg hc]
    refine l7 hs j fuel lo _ (by omega) (by omega) (by omega) h1 ?_
    intro i v hi' hv;rcases Oz hi' with q | q
    ·subst q
     rw[em]at hv;cases hv;omega
    ·have:=kE hs q em hv;omega
  ·rw[if_neg hlt]
   have e:lo=hi:=by omega
   subst e;exact⟨lo,rfl,hh,h1,h2⟩
theorem hV {pl:List Nat}(hs:pl.Pairwise (· < ·))(j:Nat) :
  HK pl.toArray j<=pl.length/\(∀i v,i<HK pl.toArray j->pl[i]? =some v->v<j)/\(∀i v,HK pl.toArray j<=i->pl[i]? =some v->j<=v):=by
 obtain⟨r,h1,h2,h3,h4⟩:=l7 hs j pl.length 0 pl.length (by omega) (by omega) (HE _) (λi v h=>by omega) (λi v h e=>by
  rw[JQ h]at e;cases e)
 have e:HK pl.toArray j=r:=by unfold HK;simpa using h1
 rw[e];exact⟨h2,h3,h4⟩
theorem rh {pl:List Nat}(hs:pl.Pairwise (· < ·)):HK pl.toArray 0=0:=by
 obtain⟨h1,h2,_⟩:=hV hs 0;rcases OA (HK pl.toArray 0)with e | e
 ·exact e
 ·have q:0<pl.length:=by omega
  have:=h2 0 pl[0] e (HG q)
  omega
theorem sC {pl:List Nat}(hs:pl.Pairwise (· < ·)){i v:Nat}(h:pl[i]? =some v):HK pl.toArray (v+1)=i+1:=by
 obtain⟨h1,h2,h3⟩:=hV hs (v+1)
 have hi:=(HU.mp h).1
 rcases MN (HK pl.toArray (v+1)) (i+1)with q | q | q
 ·have:=h3 i v (by omega) h;omega
 ·exact q
 ·have q2:i+1<pl.length:=by omega
  have e:=HG q2
  have a:=h2 (i+1) _ q e
  have b:=kE hs (LM i) h e;omega
theorem uQ {pl:List Nat}{L:Bool}(hs:pl.Pairwise (· < ·)){j:Nat}(h:j∈pl):∃i,(tbl pl L).slot j= .live i:=by
 obtain⟨k,hk,e⟩:=Kv h;obtain⟨h1,h2,h3⟩:=hV hs j
 have ek:pl[k]? =some j:=by rw[HG hk,e]
 have er:HK pl.toArray j=k:=by
  rcases MN (HK pl.toArray j) k with q | q | q
  ·have hl:HK pl.toArray j<pl.length:=by omega
   have e2:=HG hl
   have a:=h3 _ _ (HE _) e2
   have b:=kE hs q e2 ek;omega
  ·exact q
  ·have:=h2 k j q ek;omega
 refine⟨k,?_⟩
 unfold SetTable.slot tbl
 dsimp only
 rw[er];simp[ek]
theorem rM {pl:List Nat}{L:Bool}{j:Nat}(h:j∉pl):(tbl pl L).slot j= .empty:=by
 unfold SetTable.slot tbl
 dsimp only
 have q:¬ (pl.toArray[HK pl.toArray j]? == some j)=true:=by
  intro e;rw[beq_iff_eq,Nu]at e
  exact h (Jm e)
 rw[if_neg q]
 have q2:NB #[] j=false:=by simp[NB]
 rw[q2];rfl
theorem adv (pl:List Nat)(L:Bool)(i q:Nat)(d:Option Nat)(hi:i<=7):(tbl pl L).advance ⟨i,0,i,q,d⟩=⟨(i*5+1+q / 32) % 8,0,(i*5+1+q / 32) % 8,q / 32,d⟩:=by
 have e:Mb 7 ((i*5+1+q / 32) % 8)=(i*5+1+q / 32) % 8:=by
  unfold Mb;rw[if_neg (by omega)]
 simp[SetTable.advance,SetTable.leap,tbl,e]
def B1:Nat->Nat->Nat->Nat
 | 0,i,_=>i
 | k+1,i,q=>B1 k ((i*5+1+q / 32) % 8) (q / 32)
theorem qo {pl:List Nat}{L:Bool}(hs:pl.Pairwise (· < ·))(h:Int):∀(k fuel i q:Nat),k<fuel->i<=7->B1 k i q∉pl →
  ∃j,j∉pl/\j<=7/\O9 (tbl pl L) (λ_=>h+1) h fuel ⟨i,0,i,q,none⟩=some (.empty j none)
 | k,0,i,q,hk,_,_=>by omega
 | k,fuel+1,i,q,hk,hi,hn=>by
  unfold O9
  dsimp only
  by_cases hm:i∈pl
  ·obtain⟨w,ew⟩:=uQ (L:=L) hs hm
   rw[ew]
   dsimp only
   have e1:¬ (h+1 == h)=true:=by rw[beq_iff_eq];omega
   rw[if_neg e1,adv pl L i q none hi]
   cases k with
   | zero=>exact absurd hm hn
   | succ k=>exact qo hs h k fuel _ _ (by omega) (by omega) hn
  ·rw[rM hm]
   exact⟨i,hm,hi,rfl⟩
theorem ze:∀h<100,∀x<8,∃k<12,B1 k (h % 8) h=x:=by decide+kernel
theorem uP:∀{pl:List Nat},pl.length<=3->∃x<8,x∉pl
 | [],_=>⟨0,by omega,by simp⟩
 | [a],_=>if e:a=0 then⟨1,by omega,by simp;omega⟩else⟨0,by omega,by simp;omega⟩
 | [a,b],_=>by
  by_cases h0:0=a\/0=b
  ·by_cases h1:1=a\/1=b
   ·exact⟨2,by omega,by simp;omega⟩
   ·exact⟨1,by omega,by simp;omega⟩
  ·exact⟨0,by omega,by simp;omega⟩
 | [a,b,c],_=>by
  by_cases h0:0=a\/0=b\/0=c
  ·by_cases h1:1=a\/1=b\/1=c
   ·by_cases h2:2=a\/2=b\/2=c
    ·exact⟨3,by omega,by simp;omega⟩
    ·exact⟨2,by omega,by simp;omega⟩
   ·exact⟨1,by omega,by simp;omega⟩
  ·exact⟨0,by omega,by simp;omega⟩
 | _::_::_::_::_,h=>by simp at h
theorem Aj {pl:List Nat}{L:Bool}(hs:pl.Pairwise (· < ·))(hl:pl.length<=3){h:Nat}(hh:h<100) :
  ∃j,j∉pl/\j<=7/\(tbl pl L).freeSlot (h:Int)=some (j,false):=by
 obtain⟨x,hx,nx⟩:=uP hl;obtain⟨k,hk,ek⟩:=ze h hh x hx
 have eb:SetTable.bits (h:Int)=h:=by
  unfold SetTable.bits;rw[Pj (by omega) (by omega)];rfl
 have es:(tbl pl L).probeStart (h:Int)=⟨h % 8,0,h % 8,h,none⟩:=by
  have e:Mb 7 (h % 8)=h % 8:=by unfold Mb;rw[if_neg (by omega)]
  simp[SetTable.probeStart,tbl,eb,e]
 obtain⟨j,h1,h2,h3⟩:=qo (L:=L) hs (h:Int) k (10*SetTable.turns 7) (h % 8) h (by unfold SetTable.turns;omega) (by omega) (by rw[ek];exact nx)
 refine⟨j,h1,h2,?_⟩
 unfold SetTable.freeSlot;rw[es];unfold N5
 have e7:(tbl pl L).mask=7:=rfl;rw[e7,h3]
 rfl
theorem o5 {pl:List Nat}(hs:pl.Pairwise (· < ·)){j:Nat}(hj:j∉pl) :
  (pl.take (HK pl.toArray j)++j::pl.drop (HK pl.toArray j)).Pairwise (· < ·):=by
 obtain⟨h1,h2,h3⟩:=hV hs j;rw[List.pairwise_append];refine⟨hs.sublist (Pc _ _),?_,?_⟩
 ·rw[OB]
  refine⟨λa ha=> ?_,hs.sublist (Pk _ _)⟩
  obtain⟨i,hi,e⟩:=Kv ha;rw[Pl]at e
  have hlt:HK pl.toArray j+i<pl.length:=by simp at hi;omega
  have:=h3 (HK pl.toArray j+i) a (by omega) (by rw[HG hlt,e])
  rcases Oz this with q | q
  ·exact absurd (IY ha) (q▸hj)
  ·exact q
 ·intro a ha b hb
  obtain⟨i,hi,e⟩:=Kv ha;rw[List.getElem_take]at e
  have hi':i<HK pl.toArray j:=by simp at hi;omega
  have hlt:i<pl.length:=by omega
  have a1:=h2 i a hi' (by rw[HG hlt,e])
  rcases HB.mp hb with rfl | hb
  ·exact a1
  ·obtain⟨i2,hi2,e2⟩:=Kv hb
   rw[Pl]at e2
   have hlt2:HK pl.toArray j+i2<pl.length:=by simp at hi2;omega
   have:=h3 (HK pl.toArray j+i2) b (by omega) (by rw[HG hlt2,e2])
   omega
theorem Dc {pl:List Nat}{L:Bool}(hs:pl.Pairwise (· < ·))(hl:pl.length<=3){h:Nat}(hh:h<100){es:Array (Int×Hs)}(he:es.size=pl.length)(x:Hs) :
  ∃pl' es',layNew (tbl pl L) es (h:Int) x=(es',tbl pl' L,false,false)/\pl'.Pairwise (· < ·)/\pl'.length=pl.length+1/\K3 es'.toList (es.push ((h:Int),x)).toList:=by
 obtain⟨j,h1,h2,h3⟩:=Aj (L:=L) hs hl hh
 have hp:=layNew_perm (tbl pl L) es (h:Int) x
 have hb:=(hV hs j).1
 have ep:(tbl pl L).put j=(tbl (pl.take (HK pl.toArray j)++j::pl.drop (HK pl.toArray j)) L,HK pl.toArray j):=by
  have q2:NB #[] j=false:=by simp[NB]
  have q3:MO pl.toArray (HK pl.toArray j) j=(pl.take (HK pl.toArray j)++j::pl.drop (HK pl.toArray j)).toArray:=by
   apply Array.toList_inj.mp
   rw[SetTable.toList_insertAt]
  simp only[SetTable.put,tbl,q2,q3]
  rfl
 have hlen:(pl.take (HK pl.toArray j)++j::pl.drop (HK pl.toArray j)).length=pl.length+1:=by
  simp;omega
 have hsz:(MO es (HK pl.toArray j) ((h:Int),x)).size=pl.length+1:=by
  rw[<-IT,(Nj es _ _).length_eq];simp[he]
 have hf:(tbl (pl.take (HK pl.toArray j)++j::pl.drop (HK pl.toArray j)) L).fits (pl.length+1)=true:=by
  unfold SetTable.fits OF
  show((_:Nat) == _&&decide (_<=7))=true
  rw[show(tbl (pl.take (HK pl.toArray j)++j::pl.drop (HK pl.toArray j)) L).place.size=pl.length+1 from by
   show(LD _).size=_;rw[HL,hlen]]
  have:(tbl (pl.take (HK pl.toArray j)++j::pl.drop (HK pl.toArray j)) L).dummies.size=0:=rfl;rw[this]
  simp;omega
 refine⟨_,MO es (HK pl.toArray j) ((h:Int),x),?_,o5 hs h1,hlen,Nj ..⟩
 unfold layNew;rw[h3]
 dsimp only
 rw[ep]
 dsimp only
 rw[hsz,hf];unfold SetTable.orStandIn;rw[hf]
 rfl
theorem xq {pl:List Nat}{L:Bool}(hl:pl.length<=4):(tbl pl L).tooFull=false:=by
 unfold SetTable.tooFull OF
 have e:(tbl pl L).place.size=pl.length:=by show(LD _).size=_;simp
 have e2:(tbl pl L).dummies.size=0:=rfl
 have e3:(tbl pl L).mask=7:=rfl;rw[e,e2,e3]
 simp;omega
theorem wy {pl:List Nat}{L:Bool}(hl:pl.length<=4):(tbl pl L).fits pl.length=true:=by
 unfold SetTable.fits OF
 have e:(tbl pl L).place.size=pl.length:=by show(LD _).size=_;simp
 have e2:(tbl pl L).dummies.size=0:=rfl
 have e3:(tbl pl L).mask=7:=rfl;rw[e,e2,e3]
 simp;omega
theorem lQ {k:Int}(h0:0<=k)(h1:k<100):hashInt k=k:=by
 obtain⟨n,rfl⟩:=HY h0
 have hn:n<100:=by omega
 have e1:rawHash (n:Int)=n:=by
  have e:(((n:Int).natAbs:Int) % ((2 ^ 61 - 1:Nat):Int))=(n:Int):=by
   rw[Int.natAbs_natCast];exact Pj (by omega) (by omega)
  have e2:¬ ((n:Int)<0):=by omega
  have e3:¬ (((n:Int) == -1)=true):=by rw[beq_iff_eq];omega
  unfold rawHash
  dsimp only
  rw[e,if_neg e2,if_neg e3]
 unfold hashInt;rw[e1,if_neg (by rw[beq_iff_eq];omega)]
def Gu (e:Int×Hs):Prop:=∃k t,e=(k,Jk k t)/\0<=k/\k<100
def jN (es:Array (Int×Hs))(ep:Nat)(pl:List Nat)(L:Bool):Obj:={ cls:=.type "set",dict:=none,data:=.set es ep (tbl pl L),slots:=#[] }
structure SetX (h:Heap)(a:Addr)(es:Array (Int×Hs))(ep:Nat)(pl:List Nat)(L:Bool):Prop where
 at_:h.get? a=some (jN es ep pl L)
 rise:pl.Pairwise (· < ·)
 len:es.size=pl.length
 few:pl.length<=4
 ent:∀e∈es.toList,Gu e
theorem SetX.fits {h:Heap}{a:Addr}{es:Array (Int×Hs)}{ep:Nat}{pl:List Nat}{L:Bool}(x:SetX h a es ep pl L):(tbl pl L).fits es.size=true:=by rw[x.len];exact wy x.few
theorem SetX.keep {h h':Heap}{a:Addr}{es:Array (Int×Hs)}{ep:Nat}{pl:List Nat}{L:Bool}(x:SetX h a es ep pl L)(k:∀o,h.get? a=some o->h'.get? a=some o):SetX h' a es ep pl L:=
 ⟨k _ x.at_,x.rise,x.len,x.few,x.ent⟩
theorem SetX.typ {s:Hr}{a:Addr}{es:Array (Int×Hs)}{ep:Nat}{pl:List Nat}{L:Bool}(x:SetX s.heap a es ep pl L):s.TypeIs (.ref a) "set":=⟨_,x.at_,rfl⟩
theorem vm {prog:HZ}{w:ID}{es:List (Int×Hs)}(h:∀e∈es,Gu e):ElemsOf (intKind prog w) es:=by
 intro e he;obtain⟨k,t,rfl,h0,h1⟩:=h e he;exact⟨⟨k,by simp[intKind,L7],(lQ h0 h1).symm⟩,rfl⟩
def bX (es:Array (Int×Hs)):List Int:=es.toList.map (·.1)
section
variable {prog:HZ}{w:ID}{A:Iw}{E:Hs->Hr->Prop}{s:Hr}
theorem yi {es:List (Int×Hs)}(h:∀e∈es,Gu e)(k:Int):(es.findIdx? (λe=>(intKind prog w).is k e.2)).isSome=decide (k∈es.map (·.1)):=by
 rw[J2];simp only[List.findIdx?_isSome,List.any_eq_true,decide_eq_true_eq,HI]
 constructor
 ·rintro ⟨e,he,q⟩
  obtain⟨j,t,rfl,_,_⟩:=h e he;refine⟨_,he,?_⟩
  have:j=k:=by simpa [intKind,L7]using q
  exact this
 ·rintro ⟨e,he,q⟩
  obtain⟨j,t,rfl,_,_⟩:=h e he;refine⟨_,he,?_⟩
  simp only at q;simp[intKind,L7,q]
theorem Gq {a:Addr}{es:Array (Int×Hs)}{ep:Nat}{pl:List Nat}{L:Bool}{k:Int}{t:Tok}{Q:Bool->Hr->Prop}(h0:0<=k)(h1:k<100)
  (x:SetX s.heap a es ep pl L) (hr:pl.length<=3)
  (h:∀(b:Bool) h' es' ep' pl',Ks a s.heap h'->SetX h' a es' ep' pl' L->K3 (bX es') (if k∈bX es then bX es else bX es++ [k])->Q b { s with heap:=h' }) :
  wpAny (model prog w) A (setAddHashed a (.int k t) (hashInt k)) Q E s:=by
 have hel:=vm (prog:=prog) (w:=w) x.ent
 have hb:es.size<scanBound:=by rw[x.len];unfold scanBound;omega
 have hkey:(intKind prog w).is k (Jk k t)=true:=by simp[intKind,L7]
 unfold setAddHashed setAddHashedIn;refine Jd (Hq (KZ x.at_ rfl x.fits ?_))
 dsimp only
 rw[byScan_of (knd:=intKind prog w) rfl hb hel];simp only[↓reduceIte];unfold setAddByScan;refine Hq (Hq (Lf (Hq (wpAny_setScan_of (knd:=intKind prog w) hkey x.at_ rfl x.fits hel ?_))))
 have hf:=yi (prog:=prog) (w:=w) x.ent k
 cases hi:List.findIdx? (λe=>(intKind prog w).is k e.2) es.toList with
 | some j=>
  rw[hi]at hf
  have hin:k∈bX es:=by unfold bX;simpa using hf.symm
  dsimp only
  refine Hy (Hy ?_)
  have e:s= { s with heap:=s.heap }:=by cases s;rfl
  have:=h false s.heap es ep pl (MF a s.heap) x (by rw[if_pos hin])
  rw[e];exact this
 | none=>
  rw[hi]at hf
  have hin:k∉bX es:=by unfold bX;simpa using hf.symm
  dsimp only
  obtain⟨n,rfl⟩:=HY h0;obtain⟨pl',es',e1,e2,e3,e4⟩:=Dc (L:=L) x.rise hr (h:=n) (by omega) x.len (Jk (n:Int) t)
  rw[lQ h0 h1]
  have e1':layNew (tbl pl L) es ((n:Nat):Int) (Jk (n:Int) t)=(es',tbl pl' L,false,false):=e1;rw[e1']
  dsimp only
  have hl':es'.size=pl'.length:=by
   rw[<-IT,e4.length_eq,e3];simp[x.len]
  have hent:∀e∈es'.toList,Gu e:=by
   intro e he
   have:=e4.mem_iff.mp he;rw[MP,HA,HJ]at this;rcases this with q | rfl
   ·exact x.ent e q
   ·exact⟨_,t,rfl,h0,h1⟩
  have hperm:K3 (bX es') (bX es++ [(n:Int)]):=by
   have:=e4.map (·.1)
   rw[MP,J3]at this;exact this
  have hsz:es'.size<=sizeLine:=by rw[hl',e3,IZ];omega
  have hnf:(tbl pl' L).tooFull=false:=xq (by omega)
  refine Hq (Hy ?_)
  have hpl:(tbl pl' L).plain=true:=rfl;rw[hpl];simp only[↓reduceIte];refine Hq ?_
  rw[hashByValue_scannable 8 rfl];refine Hy ?_
  have hpk:plainKind (Jk (n:Int) t)=true:=rfl;rw[hpk];simp only[↓reduceIte];refine Hq (wpAny_storeSet_of x.at_ rfl ?_ hsz)
  rw[hnf];simp only[Bool.and_false,Jb,↓reduceIte]
  have hg:(s.heap.update a (Obj.putSet es' (tbl pl' L))).get? a=some (jN es' (ep+1) pl' L):=
   Jf (Obj.putSet es' (tbl pl' L)) x.at_ rfl
  refine Hy (Hy (h true _ es' (ep+1) pl' (JZ ..) ⟨hg,e2,hl',by omega,hent⟩ ?_))
  rw[if_neg hin];exact hperm
end
theorem si_next:Slot "set_iterator" "__next__" "set_iterator.__next__":=.of (owner:="set_iterator") (n:="__next__") (by rw[Lx,Kf];kernel_rfl) (by decide+kernel) (by decide+kernel) (by decide+kernel) (by first | exact .inl (by decide+kernel) | exact .inr (by decide+kernel)) (by rw[JX];kernel_rfl)
theorem td:Slot "set_iterator" "__iter__" "set_iterator.__iter__":=.of (owner:="set_iterator") (n:="__iter__") (by rw[Lx,Kf];kernel_rfl) (by decide+kernel) (by decide+kernel) (by decide+kernel) (by first | exact .inl (by decide+kernel) | exact .inr (by decide+kernel)) (by rw[JX];kernel_rfl)
theorem qh:OZ table "set_iterator.__next__" =some Builtin.«set_iterator.__next__»:=entryFor_of_tree (by kernel_rfl)
theorem tf (a:Hs):argsOk "set_iterator.__next__" ⟨[a],[]⟩:=by unfold argsOk;kernel_rfl
theorem k8:OZ table "set.__iter__" =some Builtin.«frozenset.__iter__»:=entryFor_alias (id':="frozenset.__iter__") (by kernel_rfl) rfl (by decide+kernel) (by kernel_rfl)
theorem mz:OZ table "set_iterator.__iter__" =some Builtin.«dict_keyiterator.__iter__»:=entryFor_alias (id':="dict_keyiterator.__iter__") (by kernel_rfl) rfl (by decide+kernel) (by kernel_rfl)
theorem n5 (a:Hs):argsOk "set_iterator.__iter__" ⟨[a],[]⟩:=by unfold argsOk;kernel_rfl
theorem mH:NN (.type "set") (.type "set")=pure true:=by rw[JX];kernel_rfl
theorem tF {α:Type}(next:Nat->Nat):∀(fuel k:Nat) (left:List α) (out:Array α),left.length<=fuel->K3 (PD next fuel k left out).toList (out.toList++left)
 | 0,k,left,out,h=>by
  have:left= []:=Kw (by omega)
  subst this
  unfold PD;simp
 | fuel+1,k,left,out,h=>by
  unfold PD
  cases e:left[next k % left.length]? with
  | none=>
   have hl:left.length=0:=by
    have:=Mv.mp e
    rcases OA left.length with q | q
    ·exact q
    ·have:=Nat.mod_lt (next k) q;omega
   have:left= []:=Kw hl;subst this
   simp
  | some x=>
   dsimp only
   obtain⟨hlt,ex⟩:=HU.mp e
   have ih:=tF next fuel (k+1) (left.eraseIdx (next k % left.length)) (out.push x) (by rw[List.length_eraseIdx];split <;> omega)
   refine ih.trans ?_
   rw[MP,IC];refine List.Perm.append_left _ ?_
   rw[List.eraseIdx_eq_take_drop_succ]
   have e2:left=left.take (next k % left.length)++x::left.drop (next k % left.length+1):=by
    conv=>lhs;rw[<-LH (next k % left.length) left]
    rw[JP hlt,ex]
   conv=>rhs;rw[e2]
   rw[Nv];exact(List.perm_middle).symm
theorem uV {α:Type}(next:Nat->Nat)(xs:Array α):K3 (Qu next xs).toList xs.toList:=by
 have:=tF next xs.size 0 xs.toList #[] (by simp)
 simpa [Qu]using this
def IsSetIter (h:Heap)(it a:Addr)(sl i n ep:Nat):Prop:=∃o,h.get? it=some o/\o.cls= .type "set_iterator"/\o.data= .fields #[.int sl 0,.int i 0,.ref a,.int n 0,.int ep 0]
theorem IsSetIter.typ {s:Hr}{it a:Addr}{sl i n ep:Nat}(x:IsSetIter s.heap it a sl i n ep):s.TypeIs (.ref it) "set_iterator":=let ⟨o,ho,hc,_⟩:=x;⟨o,ho,hc⟩
def jn (w:ID):Bool:=w.params.followText "set-order"
def eQ (w:ID)(a:Addr)(ep:Nat)(es:Array (Int×Hs)):Array (Int×Hs):=if jn w then Qu (w.params.setOrder a ep) es else es
theorem gb (w:ID)(a:Addr)(ep:Nat)(es:Array (Int×Hs)):K3 (eQ w a ep es).toList es.toList:=by
 unfold eQ;split
 ·exact uV _ _
 ·exact .rfl
def c7 (B:Bool)(pl:List Nat):Nat->Nat
 | 0=>0
 | j+1=>if B then 0 else pl.getD j 0+1
theorem rN {pl:List Nat}(hs:pl.Pairwise (· < ·)):∀{i:Nat},i<=pl.length->HK pl.toArray (c7 false pl i)=i
 | 0,_=>rh hs
 | j+1,h=>by
  have hj:j<pl.length:=by omega
  have e:pl[j]? =some pl[j]:=HG hj
  have e2:c7 false pl (j+1)=pl[j] +1:=by simp[c7,hj]
  rw[e2];exact sC hs e
section
variable {prog:HZ}{w:ID}{A:Iw}{E:Hs->Hr->Prop}{s:Hr}
theorem n6 {a:Addr}{es:Array (Int×Hs)}{ep:Nat}{pl:List Nat}{L:Bool}{Q:Array (Int×Hs)->Hr->Prop}(x:SetX s.heap a es ep pl L)(hB:jn w=true)
  (h:Q (eQ w a ep es) s):wpAny (model prog w) A (setWalk a) Q E s:=by
 unfold setWalk;refine Hq (KZ x.at_ rfl x.fits ?_)
 dsimp only
 unfold setsByText;refine Hq (Hq (Ky (Hy ?_)))
 show wpAny _ _ (if (jn w)=true then _ else _) _ _ _
 rw[hB,if_pos rfl];refine Hq (Ky (Hy ?_))
 unfold eQ at h;rw[hB,if_pos rfl]at h;exact h
theorem k9 {a:Addr}{es:Array (Int×Hs)}{ep i:Nat}{pl:List Nat}{Q:Option (Hs×Nat)->Hr->Prop}(x:SetX s.heap a es ep pl (!jn w))(hi:i<=es.size)
  (h:Q ((eQ w a ep es)[i]?.map λe=>(e.2,c7 (jn w) pl (i+1))) s):wpAny (model prog w) A (setNext a (c7 (jn w) pl i) i ep) Q E s:=by
 unfold setNext;refine Hq (KZ x.at_ rfl x.fits ?_)
 dsimp only
 unfold setsByText;refine Hq (Hq (Ky (Hy ?_)))
 show wpAny _ _ (if (jn w)=true then _ else _) _ _ _
 cases hB:jn w with
 | true=>
  rw[if_pos rfl,if_neg (by simp)]
  refine Hq (n6 x hB (Hy ?_))
  rw[hB]at h
  have e0:c7 true pl i=c7 true pl (i+1):=by cases i <;> rfl
  rw[e0]
  exact h
 | false=>
  rw[if_neg (by simp)]
  rw[hB]at x h
  show wpAny _ _ (if (false&&decide (es.size > 1))=true then _ else _) _ _ _
  rw[if_neg (by simp)]
  refine Hq ?_
  show wpAny _ _ (if (!(tbl pl (!false)).led&& !es.isEmpty)=true then _ else _) _ _ _
  rw[if_neg (by simp[tbl])]
  refine Hy (Hy ?_)
  have ep1:(tbl pl (!false)).place=pl.toArray:=rfl;rw[ep1,rN x.rise (by rw[<-x.len];exact hi)]
  have eo:eQ w a ep es=es:=by unfold eQ;rw[hB];rfl
  rw[eo]at h;rcases Mo i es.size with q | q
  ·have q2:i<pl.length:=by rw[<-x.len];exact q
   have e1:es[i]? =some es[i]:=Kj q
   have e2:pl.toArray[i]? =some pl[i]:=by simp[q2]
   have e3:c7 false pl (i+1)=pl[i] +1:=by simp[c7,q2]
   rw[e1,e3]at h;rw[e1,e2];exact h
  ·have e1:es[i]? =none:=KB q
   rw[e1]at h;rw[e1];exact h
theorem uZ {it a:Addr}{es:Array (Int×Hs)}{ep i:Nat}{pl:List Nat}{e:Int×Hs}{Q:Option Hs->Hr->Prop}(hit:IsSetIter s.heap it a (c7 (jn w) pl i) i es.size ep)
  (x:SetX s.heap a es ep pl (!jn w)) (hi:i<=es.size) (he:(eQ w a ep es)[i]? =some e)
  (hQ:∀h',IsSetIter h' it a (c7 (jn w) pl (i+1)) (i+1) es.size ep->Ks it s.heap h'->Q (some e.2) { s with heap:=h' }) :
  wpAny (model prog w) A (pyNext (.ref it)) Q E s:=by
 obtain⟨o,ho,hc,hd⟩:=id hit;unfold pyNext;refine Hq (OW (IV (name:=HQ "__next__") hit.typ si_next (Ji si_next hit.typ qh ?_ (tf _))))
 refine Hq (Hy ?_)
 refine Hq (wpAny_fieldsOf ho hd ?_)
 dsimp only
 refine Hq (Mf x.at_ rfl x.fits ?_)
 rw[if_neg (by simp)]
 simp only[JI];refine Hq (k9 x hi ?_)
 rw[he]
 dsimp only[Option.map]
 refine Hq (KA ho hd (by simp) ?_)
 have g1:(s.heap.update it (Kd (·.setIfInBounds 0 (rawInt (c7 (jn w) pl (i+1)))))).get? it=some (Kd (·.setIfInBounds 0 (rawInt (c7 (jn w) pl (i+1)))) o):=
  Jf _ ho (Kc (Jc hd _))
 have d1:=Jc hd (·.setIfInBounds 0 (rawInt (c7 (jn w) pl (i+1))))
 refine Hq (KA g1 d1 (by simp) ?_)
 refine Hy ⟨_,rfl,Hy (hQ _ ?_ ?_)⟩
 ·refine⟨_,Jf _ g1 (Kc (Jc d1 _)),((MM ..).trans (MM ..)).trans hc,?_⟩
  rw[Jc d1];simp[rawInt]
 ·exact(JZ ..).trans (JZ ..)
theorem xv {it a:Addr}{es:Array (Int×Hs)}{ep:Nat}{pl:List Nat}{Q:Option Hs->Hr->Prop}(hh:A.handled=none)(hit:IsSetIter s.heap it a (c7 (jn w) pl es.size) es.size es.size ep)
  (x:SetX s.heap a es ep pl (!jn w))
  (hQ:∀h',Qb it s.heap h'->Q none { s with heap:=h' }) :
  wpAny (model prog w) A (pyNext (.ref it)) Q E s:=by
 obtain⟨o,ho,hc,hd⟩:=id hit;unfold pyNext;refine Hq (OW (IV (name:=HQ "__next__") hit.typ si_next (Ji si_next hit.typ qh ?_ (tf _))))
 refine Hq (Hy ?_)
 refine Hq (wpAny_fieldsOf ho hd ?_)
 dsimp only
 refine Hq (Mf x.at_ rfl x.fits ?_)
 rw[if_neg (by simp)]
 simp only[JI];refine Hq (k9 x (HE _) ?_)
 have he:(eQ w a ep es)[es.size]? =none:=by
  apply KB
  rw[<-IT,(gb w a ep es).length_eq];simp
 rw[he]
 dsimp only[Option.map]
 refine Hq (KA ho hd (by simp) ?_)
 refine Hq ?_
 simp only[newExc,newTuple];refine Hq (Ip ?_ (by size_fits))
 refine Hq (m:=MC _ _) (KQ (a:=Ig) (by first | rfl | (simp only[MC];rfl)) ?_)
 refine Ip ?_ (by size_fits)
 simp only[raiseNew];refine Hq (wpAny_handled ?_)
 rw[show A.in1.handled=none from hh]
 refine Hq (Hy (wpAny_throw ?_))
 refine  Hq (Nf (T:="StopIteration") (b:=true) ⟨_,HR _ rfl,rfl⟩ isSubtype_stop ?_)
 exact Hy (hQ _ (((JZ ..).extBut.push _).push _))
theorem vg {it a:Addr}{sl i n ep:Nat}{Q:Hs->Hr->Prop}(hit:IsSetIter s.heap it a sl i n ep)(h:Q (.ref it) s):wpAny (model prog w) A (pyIter (.ref it)) Q E s:=by
 refine Px hit.typ td (Ji td hit.typ mz ?_ (n5 _))
 show wpAny _ _ (ret (.ref it)) _ _ s
 exact Hy ⟨_,rfl,"set_iterator",_,hit.typ,si_next.lookup,h⟩
theorem xZ {a:Addr}{es:Array (Int×Hs)}{ep:Nat}{pl:List Nat}{L:Bool}{Q:Hs->Hr->Prop}(x:SetX s.heap a es ep pl L)
  (hQ:Q (.ref s.heap.objs.size) { s with heap:=s.heap.push { cls:=.type "set_iterator",data:=.fields #[.int 0 0,.int 0 0,.ref a,.int es.size 0,.int ep 0] } }) :
  wpAny (model prog w) A (pyIter (.ref a)) Q E s:=by
 refine Px x.typ Qc (Ji Qc x.typ k8 ?_ (F.args_set_iter_1 _))
 unfold Builtin.«frozenset.__iter__» Builtin.Frozenset.slot0 slotArgs;simp only[PU,Bool.not_true,Jb,↓reduceIte,bind_assoc,IK,bne_self_eq_false];unfold Builtin.Frozenset.addrOf Builtin.Frozenset.sizeOf;refine Hq (Hy ?_)
 try dsimp only
 refine Hq (Hy ?_)
 refine Hq (Hq (Mf x.at_ rfl x.fits (Hy ?_)))
 unfold setDrawn;refine Hq (Hq (KZ x.at_ rfl x.fits ?_))
 dsimp only
 unfold setsByText;refine Hq (Hq (Ky (Hy (Hy ?_))))
 have e0:∀b:Bool,(!b&&(false&&decide (es.size > 1)))=false:=by intro b;cases b <;> rfl
 show wpAny _ _ (if (!(jn w)&&(false&&decide (es.size > 1)))=true then _ else _) _ _ _
 rw[e0];rw[if_neg (by simp)]
 refine Hq (Hy ?_)
 unfold setEpoch;refine Hq (Hq (KZ x.at_ rfl x.fits (Hy ?_)))
 refine Hq (Ip (Hy ⟨_,rfl,"set_iterator",_,⟨_,HR _ rfl,rfl⟩,si_next.lookup,?_⟩))
 simpa [rawInt]using hQ
theorem vS {a I:Addr}{es:Array (Int×Hs)}{ep:Nat}{pl:List Nat}(hh:A.handled=none)(hne:a≠I) :
  WalksS prog w A I [I,a] [I] (λx y=>y=x) es.size (λi v=>(eQ w a ep es)[i]?.map (·.2)=some v) (λi s=>IsSetIter s.heap I a (c7 (jn w) pl i) i es.size ep/\SetX s.heap a es ep pl (!jn w)) where
 sub:=λb hb=>by simp at hb;simp[hb]
 grefl:=λ_=>rfl
 gtrans:=λ_ _ _ h1 h2=>h2.trans h1
 frame:=λi s h' tk st _ hk=>⟨let ⟨o,ho,r⟩:=st.1;⟨o,hk I (by simp) o ho,r⟩,st.2.keep λo e=>hk a (by simp) o e⟩
 item:=λi s Q E hi st hQ=>by
  have hs:(eQ w a ep es).size=es.size:=by rw[<-IT,(gb w a ep es).length_eq];simp
  have he:(eQ w a ep es)[i]? =some (eQ w a ep es)[i]:=Kj (by omega)
  refine uZ st.1 st.2 (by omega) he λh' hit hsb=> ?_
  refine hQ _ _ (by rw[he];rfl) ⟨hit,st.2.keep λo e=>(hsb.extBut a o hne e)⟩ ⟨λb o hb e=>hsb.extBut b o (λq=>hb (by simp[q])) e,rfl,rfl,rfl,HE _⟩
 done:=λs Q E st hQ=>xv hh st.1 st.2 λh' hx=>hQ _ ⟨λb o hb e=>hx b o (λq=>hb (by simp[q])) e,rfl,rfl,rfl,HE _⟩
 self:=λi s Q E st hQ=>vg st.1 hQ
end
section
variable {prog:HZ}{w:ID}{A:Iw}{E:Hs->Hr->Prop}{s:Hr}
theorem ye {a:Addr}{es:Array (Int×Hs)}{ep:Nat}{pl:List Nat}{L:Bool}{Q:Bool->Hr->Prop}(x:SetX s.heap a es ep pl L)(h:Q false s) :
  wpAny (model prog w) A (L4 (.ref a)) Q E s:=by
 unfold L4;refine Hq (wpAny_specialOf x.typ F.slot_set_len.lookup ?_)
 have e:splitId "set.__len__" =some ("set","__len__"):=by decide+kernel
 simp only[e];refine Hq (Nf x.typ mH ?_)
 rw[if_neg (by simp)]
 rw[if_pos (by decide+kernel)]
 exact Hq (LK x.typ (Hy h))
theorem qX {a:Addr}{es:Array (Int×Hs)}{ep:Nat}{pl:List Nat}{Q:List Hs->Hr->Prop}(hh:A.handled=none)(x:SetX s.heap a es ep pl (!jn w))
  (h:∀vs s',Moved [] (λx y=>y=x) s s'->vs=(eQ w a ep es).toList.map (·.2)->Q vs s'):wpAny (model prog w) A (collect (.ref a)) Q E s:=by
 unfold collect;refine Hq (wpAny_runValue (Kp F.entry_proto_collect ?_))
 rw[Kk F.plain_proto_collect _]
 show wpAny _ A.in1 (newList [] >>= λl=>again (.builtin "list.__iadd__" ⟨[l,.ref a],[]⟩)) _ _ s
 refine Hq (Ip ?_)
 refine Hy ⟨LZ Pm _,Kp F.entry_list_iadd ?_⟩
 rw[Kk Pm _]
 have ha:a<s.heap.objs.size:=HH x.at_
 generalize hH:s.heap.push { cls:=.type "list",data:=.seq ([]:List Hs).toArray }=H1
 have hH1:H1.objs.size=s.heap.objs.size+1:=by rw[<-hH,JO]
 have x1:SetX H1 a es ep pl (!jn w):=x.keep λo e=>by rw[<-hH];exact Hz _ e
 show wpAny _ A.in1 (L5 (.ref s.heap.objs.size) (.ref a) (.ref s.heap.objs.size)) _ _ _
 unfold L5;refine Hq (LK (SetX.typ (s:={ s with heap:=H1 }) x1) ?_)
 have h1:MG (.ref s.heap.objs.size) (.ref a)=false:=by
  simp[MG];exact Kt ha
 have h2:(JD "set" == JD "list")=false:=by decide
 have h3:(JD "set" == JD "tuple")=false:=by decide
 simp only[h1,h2,h3,M1,Jb,if_false];refine Hq (xZ (s:={ s with heap:=H1 }) x1 ?_)
 generalize hH2:H1.push { cls:=.type "set_iterator",data:=.fields #[.int 0 0,.int 0 0,.ref a,.int es.size 0,.int ep 0] }=H2
 have x2:SetX H2 a es ep pl (!jn w):=x1.keep λo e=>by rw[<-hH2];exact Hz _ e
 refine Hq (Jd (ye (s:={ s with heap:=H2 }) x2 ?_))
 rw[if_pos (by decide+kernel)]
 refine Hq (Lf ?_)
 have hLI:s.heap.objs.size≠H1.objs.size:=by rw[hH1];exact Iu (LM _)
 have hS1:H2.get? s.heap.objs.size=some { cls:=.type "list",data:=.seq ([]:List Hs).toArray }:=by
  rw[<-hH2];refine Hz _ ?_;rw[<-hH];exact HR _ rfl
 have hI1:H2.get? H1.objs.size=some { cls:=.type "set_iterator",data:=.fields #[.int 0 0,.int 0 0,.ref a,.int es.size 0,.int ep 0] }:=by
  rw[<-hH2];exact HR _ rfl
 refine Hq ?_
 show wpAny _ A.in1 (updateSeq s.heap.objs.size (·.push .none) >>= λ_=>updateSeq s.heap.objs.size (·.pop)) _ _ _
 refine Hq (Qm hS1 rfl ?_)
 have hS2:=Jf (MK (·.push Ig)) hS1 rfl
 refine Qm hS2 rfl ?_
 have hS3:=Jf (MK (·.pop)) hS2 rfl
 generalize hH3:(H2.update s.heap.objs.size (MK (·.push Ig))).update s.heap.objs.size (MK (·.pop))=H3 at hS3 ⊢
 have oth:∀b o,b≠s.heap.objs.size->H2.get? b=some o->H3.get? b=some o:=λb o hb e=>by
  rw[<-hH3];exact(Jt _ _ (KF hb)).trans ((Jt _ _ (KF hb)).trans e)
 have hn:es.size<=sizeLine:=by rw[x.len,IZ];have:=x.few;omega
 have hne:a≠H1.objs.size:=by rw[hH1];exact Iu (JL ha)
 refine Hy ⟨LZ F.plain_extend_loop _,codeAny_extend_loopS (vS (pl:=pl) (ep:=ep) (es:=es) (by simpa using hh) hne) hn _ ?_ _ es.size 0 _ #[] _ rfl (Je _)
  ⟨⟨_,oth _ _ (KF hLI) hI1,rfl,rfl⟩,x2.keep λo e=>oth a o (Iu ha) e⟩ hS3 (ItemsOf.nil _) λs' acc c hm hS' hacc=> ?_⟩
 ·simp only[HB,IH,or_false,not_or]
  exact⟨hLI,Kt ha⟩
 show wpAny _ A (load s.heap.objs.size >>= _) _ _ s'
 refine Hq (wpAny_load hS' ?_)
 refine Hy (h _ _ ⟨λb o hb e=> ?_,hm.gens,hm.drawn,hm.os,hm.toks⟩ ?_)
 ·have hlt:b<s.heap.objs.size:=HH e
  refine hm.heap b o ?_ (oth b o (Iu hlt) ?_)
  ·simp only[HB,IH,or_false,not_or]
   exact⟨Iu hlt,by show ¬b=H1.objs.size;rw[hH1];exact Iu (JL hlt)⟩
  ·rw[<-hH2];refine Hz _ ?_;rw[<-hH];exact Hz _ e
 ·obtain⟨h1,h2⟩:=hacc
  have hs:(eQ w a ep es).size=es.size:=by rw[<-IT,(gb w a ep es).length_eq];simp
  apply Pf
  intro j;rcases Mo j acc.size with q | q
  ·have:=h2 j acc[j] (Kj q)
   rw[JR,Kj q,Ib,JR]
   exact this.symm
  ·rw[JR,KB q,Ib,JR,KB (by omega)];rfl
end
def C6 (ns:List Int):List Int:=ns.foldl (λσ k=>if k∈σ then σ else σ++ [k]) []
def jV (val:Nat->Int)(i:Nat):List Int:=C6 ((Iy i).map val)
theorem ng (val:Nat->Int)(i:Nat):jV val (i+1)=if val i∈jV val i then jV val i else jV val i++ [val i]:=by
 unfold jV C6;rw[Mc,J3,List.foldl_append];rfl
theorem qJ (val:Nat->Int):∀i,(jV val i).length<=i
 | 0=>HE _
 | i+1=>by
  rw[ng]
  have:=qJ val i;split
  ·omega
  ·rw[Ht];simp;omega
section
variable {prog:HZ}{w:ID}{A:Iw}{R:LJ->Hr->Prop}{I:Addr}{fp wr:List Addr}{G:Array NT->Array NT->Prop}{n:Nat}{P:Nat->Hs->Prop}{St:Nat->Hr->Prop}
theorem v9 {L:Bool}(W:WalksS prog w A.in1 I fp wr G n P St)(S:Addr)(hS:S∉fp)(val:Nat->Int)(hv:∀i v,P i v->∃t,v= .int (val i) t)(hsm:∀i,i<n->0<=val i/\val i<100)(hn:n<=4) :
  ∀(k i:Nat) (s:Hr) (es:Array (Int×Hs)) (ep:Nat) (pl:List Nat),n - i=k->i<=n->St i s->SetX s.heap S es ep pl L->K3 (bX es) (jV val i) →
   (∀s' es' ep' pl',Moved (S::wr) G s s'->SetX s'.heap S es' ep' pl' L->K3 (bX es') (jV val n)->R (.ok (.ret .none)) s') →
   codeAny (model prog w) A (.builtin "set.update.loop" ⟨[.ref S,.ref I],[]⟩) R s:=by
 have hw:S∉wr:=λh=>hS (W.sub _ h)
 have hsub:∀b∈wr,b∈S::wr:=λb hb=>Hv _ hb
 intro k
 induction k with
 | zero=>
  intro i s es ep pl hk hi hst x hp hR
  have hin:i=n:=by omega
  subst hin;refine Kp K2 ?_
  rw[Kk JV _]
  show wpAny _ A.in1 (pyNext (.ref I) >>= _) _ _ s
  refine Hq (W.done s _ _ hst λs' hm=> ?_)
  show wpAny _ A.in1 (ret Ig) _ _ s'
  exact Hy (hR s' es ep pl (hm.mono hsub) (x.keep λo e=>hm.heap S o hw e) hp)
 | succ k ih=>
  intro i s es ep pl hk hi hst x hp hR
  have hlt:i<n:=by omega
  refine Kp K2 ?_
  rw[Kk JV _]
  show wpAny _ A.in1 (pyNext (.ref I) >>= _) _ _ s
  refine Hq (W.item i s _ _ hlt hst λv s' hP hst' hm=> ?_)
  obtain⟨t,rfl⟩:=hv i v hP
  have x':SetX s'.heap S es ep pl L:=x.keep λo e=>hm.heap S o hw e
  have hlen:pl.length<=3:=by
   have a1:=hp.length_eq
   have a2:=qJ val i
   have a3:(bX es).length=es.size:=by simp[bX]
   have a4:=x.len;omega
  show wpAny _ A.in1 (holding [Jk (val i) t] (setAdd S (.int (val i) t)) >>= _) _ _ s'
  refine Hq (Jd ?_)
  unfold setAdd;refine Jd ?_
  refine Hq ((intKind prog w).pyHash (k:=val i) (by simp[intKind,L7]) ?_)
  refine Gq (s:={ s' with toks:=s'.toks+1 }) (hsm i hlt).1 (hsm i hlt).2 x' hlen λb h' es' ep' pl' hsb x2 hp2=> ?_
  have hp3:K3 (bX es') (jV val (i+1)):=by
   rw[ng]
   by_cases hin:val i∈bX es
   ·rw[if_pos hin]at hp2
    rw[if_pos (hp.mem_iff.mp hin)];exact hp2.trans hp
   ·rw[if_neg hin]at hp2
    rw[if_neg (λq=>hin (hp.mem_iff.mpr q))]
    exact hp2.trans (hp.append_right _)
  refine Hy ⟨LZ JV _,ih (i+1) _ es' ep' pl' (by omega) hlt (W.frame _ s' _ _ hst' (Qd _) λb hb o e=> ?_) x2 hp3 λs'' es2 ep2 pl2 hm'' x3 hp4=> ?_⟩
  ·rw[hsb.2 b (λh:b=S=>hS (by rw[<-h];exact hb))];exact e
  ·refine hR s'' es2 ep2 pl2 (Moved.trans W.gtrans ((hm.mono hsub).then_heap (Qd _) λb o hb e=> ?_) hm'') x3 hp4
   rw[hsb.2 b (λh:b=S=>hb (by rw[h];exact HD))];exact e
end
section
variable {prog:HZ}{w:ID}{A:Iw}{E:Hs->Hr->Prop}{s:Hr}
theorem zd (a:Hs){Q₁:Hs->Hr->Prop}
  (h:Q₁ (.ref s.heap.objs.size) { s with heap:=s.heap.push (jN #[] 0 [] (!jn w)) }) :
  codeAny (model prog w) A (.call (.builtin "set.__new__") ⟨[.type "set",a],[]⟩) (wants Q₁ E) s:=by
 refine Qn ?_
 show wpAny _ A.in1 (do K5 "set.__new__" ⟨[.type "set",a],[]⟩;again (.builtin "set.__new__" ⟨[.type "set",a],[]⟩)) _ _ s
 refine Hq (KQ (F.newCall_set_1 a) (Hy ⟨LZ Qe _,Kp F.entry_set_new ?_⟩))
 rw[Kk Qe _];unfold Builtin.«set.__new__» Builtin.Frozenset.newClass
 have hsub:=sub_set_self;obtain⟨hp,g,d,tk,os⟩:=s
 dsimp only
 wp_walk
 refine Ky (Hy ?_)
 dsimp only
 simp only[newObj];refine Hq (wpAny_alloc (Hy ?_))
 exact Hy h
end
end Tr
namespace Tr
open PySem PySem.Spec PyProof.Rows L2
section
variable {P:HZ}{w:ID}{K:Ho}{mg:Str->Option Hs}{base:Heap}{x:Str}{st:Stmt}{ps:List Str}{k n:Nat}{F:En->Rs Fl}
theorem bC (N:List Str)(H:ia K mg x st ps)
  (hbody:N.Nodup->∀(f:Addr) (cdv:Hs) (A:Iw) (outer:List Env) (s:Hr) (H:Hp) (E:XK),Room k (A.deeper (envOfC x (au st) s.heap.objs.size f cdv)) →
   ∀xe,yJ ((fD CX0 P w K mg base N x (au st) f cdv A outer s H E).FS xe) (bF st) F) (S:autoParam (cu N ps (au st)) a_) (hn:autoParam (ps.length=n) u_):Cl P w K mg base (k+1) x n (val n N.length F):=Gk H S hn (hbody S.nd)
end
theorem fN {X:Cx}{pos:Pos}{elt tg iter:Expr}{ifs:List Expr}{scope:KY}{src:List (Option Nat)}{fi:En->Rs (List T)}{tgt:T->En->Rs En}{fc:En->Rs Bool}{fe:En->Rs T}(N' N:List Str)(st:Stmt)(hi:QI X tg iter fi)
  (block:N'.Nodup->∀(cl:List (Str×Addr)) (C:Addr) (s₀:Hr) (H₀:Hp) (fp:List Addr),QG (aZ X scope cl N' C s₀ H₀ fp) tg tgt/\Eo (aZ X scope cl N' C s₀ H₀ fp) ifs fc/\QE (aZ X scope cl N' C s₀ H₀ fp) elt fe)
  (hc:autoParam (Cx.calm X=true) u_) (hN:autoParam (X.N=N) u_) (hm:autoParam (X.env.scope.names=(au st).names) u_) (hk:autoParam (scope.kind= .function) u_) (h:autoParam (C9 (au st).names N scope.names N' src=true) z_) (nd:autoParam (N'.Nodup) z_) (hs:autoParam (∀(x:Hs),Ic iter (Cx.env X) x=pure x) t_) :
  QE X (Lq elt [{ target:=tg,iter:=iter,ifs:=ifs,is_async:=0 }] scope pos) (eH fi src tgt fc fe):=Es hc (LcScope.by hN hm hk h) hi (block nd) hs
@[elab_as_elim] theorem FN {α:Type} {p:List α->Prop} (h:∀a,p [a]):∀us:List α,us.length=1->p us
 | [a],_=>h a
@[elab_as_elim] theorem FL {α:Type} {p:List α->Prop} (h:∀a b,p [a,b]):∀us:List α,us.length=2->p us
 | [a,b],_=>h a b
@[elab_as_elim] theorem FK {α:Type} {p:List α->Prop} (h:∀a b c,p [a,b,c]):∀us:List α,us.length=3->p us
 | [a,b,c],_=>h a b c
section
variable {K:Ho}{h:Heap}{mg:Str->Option Hs}{S:vJ}{top:Nat->Stmt}
theorem da (j:Nat){n:Str}{i:Nat}{ps:List Str}(X:K.In h)(G:h.Ns Iz mg)(e:oI S K=nP S top)(q:autoParam (S.tab[j]? =some (n,i)) u_)
  (hb:∀(kV doc pm:Hs) (an:Option Addr) (cdv ct:Hs) (us:List Hs),us.length=ps.length->OQ (Kr n n (e9 (top i)) (bF (top i)) (au (top i)) .none kV doc pm an cdv ct) ⟨us,[]⟩=pure (ps.zip us):=by
   intro _ _ _ _ _ _ us hl;first | exact FN (λ_=>rfl) us hl | exact FL (λ_ _=>rfl) us hl | exact FK (λ_ _ _=>rfl) us hl | exact len_0 rfl us hl) :
  ∃f fd,Fn K mg n (top i) ps f fd:=k_fn j X G e q hb
end
end Tr
namespace Tr
open PySem
section
variable {prog:HZ}{w:ID}{A:Iw}{E:Hs->Hr->Prop}{s:Hr}
theorem BR:NN (.type "list") (.type "set")=pure false:=by rw[JX];kernel_rfl
theorem BS:NN (.type "list") (.type "frozenset")=pure false:=by rw[JX];kernel_rfl
theorem vB {l:Addr}{items:Array Hs}{ns:List Int}{Q:Hs->Hr->Prop}
  (hh:A.handled=none) (hl:s.heap.IsList l items) (hi:Qw items.toList ns) (hb:items.size<=4) (hsm:∀i,i<items.size->0<=ns.getD i 0/\ns.getD i 0<100)
  (h:∀(h':Heap) (tk:Nat) es ep pl,SetX h' s.heap.objs.size es ep pl (!jn w)->K3 (bX es) (jV (λi=>ns.getD i 0) items.size) →
   (∀b o,b<s.heap.objs.size->s.heap.get? b=some o->h'.get? b=some o)->s.toks<=tk->Q (.ref s.heap.objs.size) { s with heap:=h',toks:=tk }) :
  wpAny (model prog w) A (call (.type "set") [.ref l]) Q E s:=by
 obtain⟨c,tl,hmro⟩:=KJ.mro
 have hmade:=KJ.made
 have hsub:=KJ.sub;refine wpAny_call (Qn ?_)
 show wpAny _ _ (callAny (.type "set") _) _ _ _
 refine Hy ⟨Mm _ (by decide+kernel),Kp Pn ?_⟩
 rw[Around.under_plain (weight_type_call_type "set" [.ref l] []) rfl]
 have h1:=KJ.notType
 have h2:=KJ.canCreate
 have hct:=F.typeCall_set_1 (.ref l)
 repeat (any_goals (first | assumption | wp_step))
 refine NK (zd (.ref l) (E:=E) (Q₁:=λobj s₁=>obj= .ref s.heap.objs.size/\s₁= { s with heap:=s.heap.push (jN #[] 0 [] (!jn w)) }) ⟨rfl,rfl⟩) λr s₁ hr=> ?_
 cases r with
 | error e=>exact hr
 | ok fl=>
  cases fl with
  | ret obj=>
   obtain⟨rfl,rfl⟩:=hr
   generalize hH:s.heap.push (jN #[] 0 [] (!jn w))=H1
   have hH1:H1.objs.size=s.heap.objs.size+1:=by rw[<-hH,JO]
   have hS:H1.get? s.heap.objs.size=some (jN #[] 0 [] (!jn w)):=by rw[<-hH];exact HR _ rfl
   have hT:Shared.TypeIs { s with heap:=H1 } (.ref s.heap.objs.size) "set":=⟨_,hS,rfl⟩
   have hli:=KJ.init.lookup
   have hbi:=KJ.init.bind (.ref s.heap.objs.size)
   repeat (any_goals (first | assumption | wp_step))
   refine NK (LS (R:=wants (λr s₂=>r= .none/\∃h' tk es ep pl,s₂= { s with heap:=h',toks:=tk }/\SetX h' s.heap.objs.size es ep pl (!jn w)/\K3 (bX es) (jV (λi=>ns.getD i 0) items.size) ∧
     (∀b o,b<s.heap.objs.size->s.heap.get? b=some o->h'.get? b=some o)/\s.toks<=tk) E) KJ.init.plain F.entry_set_init (check_set_init_1 hT ?_)) λr₂ s₂ hr₂=> ?_
   ·obtain⟨ol,hol,hcl,nl,hdl⟩:=hl
    obtain⟨ocls,odict,odata,oslots⟩:=ol;simp only at hcl hdl;subst hcl;subst hdl
    have hol':H1.get? l=some { cls:=.type "list",dict:=odict,data:=.seq items nl,slots:=oslots }:=by rw[<-hH];exact Hz _ hol
    have hsls:=BR
    have hslf:=BS
    have hne:(JD "list" == JD "dict")=false:=by decide
    have hl1:H1.IsList l items:=⟨_,hol',rfl,nl,rfl⟩;unfold Builtin.«set.__init__» noKeywords P2
    generalize hPI:pyIter=PI
    wp_walk
    subst hPI;refine MU hl1 ?_
    refine Hq (wpAny_runValue ?_)
    have hlS:l<s.heap.objs.size:=HH hol
    have hh3:A.in1.in1.in1.handled=none:=by simp[hh]
    have hneI:l≠H1.objs.size:=by rw[hH1];exact Iu (JL hlS)
    have hSf:s.heap.objs.size∉ [H1.objs.size,l]:=by
     simp only[HB,HJ,IH,or_false,not_or];exact⟨by rw[hH1];exact Iu (LM _),Kt hlS⟩
    have hval:∀(i:Nat) (v:Hs),items[i]? =some v->∃t,v= .int ((λi=>ns.getD i 0) i) t:=λi v hv=>
     PyProof.Rows.IntsAre.int_at hi i v (by rw[JR];exact hv)
    refine v9 (L:=!jn w) ((Walks.list hh3 _ l hneI items).toS) s.heap.objs.size hSf (λi=>ns.getD i 0) hval hsm hb (items.size - 0) 0 _ #[] 0 [] (by omega) (Je _)
     ⟨⟨_,HR _ rfl,rfl,rfl⟩,(hl1.push _)⟩ ?hS0 .rfl ?hR
    case hS0=>
     exact⟨Hz _ hS,Pa,rfl,by simp,λe he=>by simp at he⟩
    case hR=>
     intro s' es' ep' pl' hm x' hp';obtain⟨h',g',d',tk',os'⟩:=s'
     have eg:g'=s.gens:=hm.gens
     have ed:d'=s.drawn:=hm.drawn
     have eo:os'=s.os:=hm.os
     have et:s.toks<=tk':=hm.toks;subst eg;subst ed;subst eo
     show wpAny _ _ _ _ _ _
     refine Hy ?_
     show wpAny _ _ (ret Ig) _ _ _
     refine Hy ⟨rfl,h',tk',es',ep',pl',rfl,x',hp',λb o hb e=> ?_,et⟩
     refine hm.heap b o ?_ (Hz _ (by rw[<-hH];exact Hz _ e))
     simp only[HB,HJ,IH,or_false,not_or];exact⟨Iu hb,by rw[hH1];exact Iu (JL hb)⟩
   ·cases r₂ with
    | error e=>exact hr₂
    | ok fl₂=>
     cases fl₂ with
     | ret r=>
      obtain⟨rfl,h',tk,es,ep,pl,rfl,x',hp',hk',et⟩:=hr₂
      repeat (any_goals (first | assumption | wp_step))
      exact h _ _ es ep pl x' hp' hk' et
     | _=>exact hr₂.elim
  | _=>exact hr.elim
end
end Tr
namespace Tr
open PySem PyProof.Rows
section
variable {prog:HZ}{w:ID}{A:Iw}{E:Hs->Hr->Prop}{s:Hr}
theorem ym {l:List (Int×Hs)}(h:∀e∈l,Gu e):Lu (l.map (·.2)) (l.map (·.1)):=by
 induction l with
 | nil=>exact .nil
 | cons e r ih=>
  obtain⟨k,t,rfl,_,_⟩:=h e HD;exact .cons k t (ih λe he=>h e (Hv _ he))
theorem rL {a:Addr}{es:Array (Int×Hs)}{ep:Nat}{pl:List Nat}{Q:Hs->Hr->Prop}(hh:A.handled=none)(x:SetX s.heap a es ep pl (!jn w))
  (h:∀(p:Addr) (out:Array Hs) (ns:List Int) (h1 h':Heap) (tk n:Nat),(∀b o,s.heap.get? b=some o->h1.get? b=some o)->h1.objs.size<=p->(∀b o,h1.get? b=some o->h'.get? b=some o)->h'.get? p=some (seqObj "list" out n) →
   Lu out.toList ns->ns.Perm (bX es)->ns.Pairwise (·<=·)->s.toks<=tk->Q (.ref p) { s with heap:=h',toks:=tk }) :
  wpAny (model prog w) A (call (.builtin "sorted") [.ref a]) Q E s:=by
 refine Calls.call_function_entry kind_sorted plain_sorted entry_sorted (args_sorted1 _) ?_
 unfold Builtin.«sorted»;refine Hq (m:=checkCount "sorted" 1 1 _) (Hy ?_)
 refine Hq (qX (by simpa using hh) x λvs s' hm hvs=> ?_)
 have hI:Lu vs ((eQ w a ep es).toList.map (·.1)):=by
  rw[hvs];exact ym λe he=>x.ent e ((gb w a ep es).mem_iff.mp he)
 have h64:vs.length<64:=by
  rw[hvs,Hw,(gb w a ep es).length_eq,IT,x.len]
  have:=x.few;omega
 refine Hq (wpAny_newList ?_ (by rw[IZ];omega))
 have hoL:(s'.heap.push (seqObj "list" vs.toArray 0)).get? s'.heap.objs.size=some (seqObj "list" vs.toArray 0):=HR _ rfl
 refine Hq (Jd (Ji slot_list_sort ⟨_,hoL,rfl⟩ entry_list_sort (list_sort_tree hoL hI h64 λout ns' a1 a2 a3=>⟨_,rfl,?_⟩) (args_list_sort _)))
 obtain⟨n,hn⟩:=sortedHeap_at (out:=out) hoL;obtain⟨hp',g',d',tk',os'⟩:=s'
 have eg:g'=s.gens:=hm.gens
 have ed:d'=s.drawn:=hm.drawn
 have eo:os'=s.os:=hm.os
 have et:s.toks<=tk':=hm.toks;subst eg;subst ed;subst eo;refine Hy ⟨_,rfl,h _ out ns' hp' _ tk' n (λb o e=>hm.heap b o (by simp) e) (HE _) (λb o e=> ?_) hn a1 (a2.trans ((gb w a ep es).map _)) a3 et⟩
 have hlt:b<hp'.objs.size:=HH e
 show(sortedHeap (hp'.push (seqObj "list" vs.toArray 0)) hp'.objs.size vs out).get? b=some o
 rw[sortedHeap_old (Iu hlt) (by rw[size_push'];exact JL hlt)]
 exact Hz _ e
end
end Tr
namespace Tr
def yT (ns:List Int):List Int:=ns.foldl (λσ k=>if k∈σ then σ else σ++ [k]) []
def pP (a b:Int):Bool:=decide (a<=b)
def mU:List T->Rs T
 | [.lst l] =>match lD l with
  | some ns=>if (decide (ns.length<=4)&&ns.all λn=>decide (0<=n)&&decide (n<100))=true then .ok (.lst (((yT ns).mergeSort pP).map .int))else .bad
  | none=> .bad
 | _=> .bad
theorem uO {k m:List Int}(p:m.Perm k)(s:m.Pairwise (λa b=>pP a b=true)):m=k.mergeSort pP:=by
 exact List.Perm.eq_of_pairwise (le:=λa b=>pP a b=true) (λa b _ _ h g=>by simp only[pP,decide_eq_true_eq]at h g;omega) s (M5 (λa b c h g=>by simp only[pP,decide_eq_true_eq]at*;omega) (λa b=>by simp only[pP,Ln,decide_eq_true_eq];omega) k) (p.trans (Of k pP).symm)
end Tr
namespace Tr
open PySem PySem.Spec PyProof.Rows L2
section
variable {X:Cx}{a:Expr}{fs:En->Rs (List T)}{p p1 p2 pos:Pos}
theorem nr:∀{xs:List Int} {us:List Hs},Vals (xs.map V.int) us->Lu us xs
 | [],us,r=>by cases r;exact .nil
 | x::xs,us,r=>by
  cases r with
  | cons a r=>
   obtain⟨t,rfl⟩:=a;exact .cons x t (nr r)
theorem z5 (ns:List Int):jV (λi=>ns.getD i 0) ns.length=yT ns:=by
 unfold jV C6 yT
 congr 1
 refine List.ext_getElem (by simp) λi h1 h2=> ?_
 simp[Jl,HG h2]
theorem Ct (hc:X.calm=true)(hm:X.mg "sorted" =none)(hms:X.mg "set" =none)(ha:pQ X [a] fs)(hst:autoParam (br [a] =true) u_)(hg:autoParam (Gl X "sorted") u_)(hgs:autoParam (Gl X "set") u_) :
  cx X (.Call (.Name "sorted" p) [.Call (.Name "set" p1) [a] [] p2] [] pos) (cl mU fs):=by
 intro pins s σ H Q I ⟨ρ,O,Ev,hq⟩
 have e1:HX [LG (.Name "set" p1) [a] [] p2] X.env=(false,eval (.Call (.Name "set" p1) [a] [] p2) X.env)::HX [] X.env:=aO rfl;unfold br at hst;rw[Hu]at hst
 have e2:HX [a] X.env=(false,eval a X.env)::HX [] X.env:=aO hst.1;refine Jr (eK I hg hm (show Ir "sorted" =some (.builtin "sorted")by decide+kernel) ?_ (by decide) (by decide))
 refine Jp ?_ e1 rfl
 rw[e1];refine Lm ?_
 refine Jr (eK I hgs hms (show Ir "set" =some (.type "set")by decide+kernel) ?_ (by decide) (by decide))
 refine JY (bK (ha p2 pins s σ H _ I (d8 Ev hq)) λus s1 ⟨vs,H1,I1,r1,ts,rs,s',E',q1⟩=> ?_) e2 rfl
 unfold mU at q1
 split at q1
 ·rename_i l
  split at q1
  ·rename_i ns hn
   split at q1
   ·rename_i hz
    rw[Hu,HW]at hz;obtain⟨v1,rfl,ra⟩:=rs.one;obtain⟨c1,ws,rfl,n1,hx,rx⟩:=Rep.Fk.mp ra;obtain⟨u1,rfl,z1⟩:=Vals.one r1;obtain rfl:u1=Io c1:=z1;obtain⟨z,its,n,rv,hlen,eo⟩:=I1.GT hx
    have el:=mZ hn;subst el;cases Reps.G6 rx
    have hi:=nr rv
    have hl:=hi.length
    have h4:=of_decide_eq_true hz.1
    have hd:X.A.handled=none:=I1.ok.hd hc;refine vB (items:=its.toArray) (ns:=ns) hd ⟨_,eo,rfl,n,rfl⟩ (by simpa using hi) (by rw[HL];omega) (λi h=> ?_) λh' tk es ep pl x hp kp et=> ?_
    ·rw[HL]at h
     have hm:=hz.2 (ns.getD i 0) (by rw[Jl,HG (by omega)];exact JS _)
     rw[Hu]at hm;exact⟨of_decide_eq_true hm.1,of_decide_eq_true hm.2⟩
    refine KS ?_
    refine rL (s:={ s1 with heap:=h',toks:=tk }) hd x λpA out ms h1 h2 tk2 nn k1 pl1 k2 ho2 hi2 pm pw et2=> ?_
    have keep:∀b u,s1.heap.get? b=some u->h2.get? b=some u:=λb u e=>k2 _ _ (k1 _ _ (kp b u (HH e) e))
    have hfr:s1.heap.objs.size<=pA:=by
     have h0:s1.heap.objs.size<h1.objs.size:=HH (k1 _ _ x.at_);exact H0 (KD h0) pl1
    have hH:H1 pA=none:=I1.hok.fresh hfr
    have em:ms=(yT ns).mergeSort pP:=by
     refine uO ?_ (pw.imp λh=>decide_eq_true h)
     rw[HL,show its.length=ns.length by omega,z5]at hp
     exact pm.trans hp
    have ml:ms.length<=4:=by
     have:=hi2.length
     have e5:ms.length=(bX es).length:=pm.length_eq
     have e6:(bX es).length=es.size:=by unfold bX;simp
     have e7:=x.len
     have:=x.few;omega
    refine⟨.ref pA,dB H1 pA (.lst (ms.map V.int)),I1.laid (t':=tk2) keep hfr ⟨by rw[Hw,IZ];omega,out.toList,nn,jK hi2,by rw[ho2]⟩,rfl,q1 _ (aT hH _) _ ?_⟩
    rw[<-em];exact fq hH (E'.fresh hH) Reps.ints
   ·exact q1.elim
  ·exact q1.elim
 ·exact q1.elim
end
end Tr
namespace Tr
open PySem
def oS (g:List T->Rs T)(fa:En->Rs T)(fs:En->Rs (List T))(ρ:En):Rs T:=fa ρ >>= λx=>match x with
 | .str s=>fs ρ >>= λts=>g (.str s::ts)
 | _=> .bad
def gG:List T->Rs T
 | [.int i] =>if i.natAbs.log2<1920 then .ok (.str (HQ (toString i)))else .bad
 | _=> .bad
def il:List T->Rs T
 | [.str a,.str b] => .ok (.bl (JW a b))
 | _=> .bad
def fH:List T->Rs T
 | [.str a,.str b] =>if b.length≠0/\a.length<=1000000 then .ok (.tup [.str (IL a b).1,.str (IL a b).2.1,.str (IL a b).2.2])else .bad
 | _=> .bad
def bV:List T->Rs T
 | [.str a,.str b] =>if b.length≠0/\a.length<=1000000/\(KL a b).length<=1000000 then .ok (.lst ((KL a b).map .str))else .bad
 | _=> .bad
def jw:List T->Option (List Str)
 | [] =>some []
 | .str s::l=>(jw l).map (s:: ·)
 | _=>none
def cP:List T->Rs T
 | [.str a,.lst l] =>match jw l with
  | some ss=>if JoinOk a ss=true then .ok (.str (Txt.join a ss))else .bad
  | none=> .bad
 | _=> .bad
end Tr
namespace Tr
open PySem PySem.Spec PyProof.Rows L2
section
variable {X:Cx}{a b:Expr}{fa:En->Rs T}{fs:En->Rs (List T)}{pos p apos cpos:Pos}
theorem g9:CallT X (.type "str") gG:=by
 intro pins s σ H O ts vs us Q I hf rs rv hp;unfold gG at hp
 split at hp
 ·split at hp
  ·rename_i i hi
   obtain⟨v,rfl,r⟩:=rs.one;obtain⟨u,rfl,z⟩:=Vals.one rv;rw[Rep.Da.mp r]at z;obtain⟨t,rfl⟩:=z;exact PySem.P.str_of_int hi ⟨.str _,H,I.tok _,⟨_,rfl⟩,hp H (Same.refl H) _ (Rep.GP _)⟩
  ·exact hp.elim
 ·exact hp.elim
theorem kU {x y:Str}{O:Ow}{H:Hp}{vs:List V}{us:List Hs}(rs:Reps X.K O H [.str x,.str y] vs)(rv:Vals vs us):∃t u,us= [Jy x t,Jy y u]:=by
 obtain⟨v1,w1,rfl,r1,rs⟩:=Reps.AC.mp rs;obtain⟨v2,w2,rfl,r2,rs⟩:=Reps.AC.mp rs;cases Reps.Do.mp rs;rw[Rep.FM.mp r1,Rep.FM.mp r2]at rv
 cases rv with
 | cons z1 rv=>
  cases rv with
  | cons z2 rv=>
   cases rv;obtain⟨t,rfl⟩:=z1;obtain⟨u,rfl⟩:=z2;exact⟨t,u,rfl⟩
theorem vt:CallT X (.builtin "str.startswith") il:=by
 intro pins s σ H O ts vs us Q I hf rs rv hp;unfold il at hp
 split at hp
 ·obtain⟨t,u,rfl⟩:=kU rs rv
  exact SC.startswith ⟨.bl _,H,I,rfl,hp H (Same.refl H) _ (Rep.bl_ _)⟩
 ·exact hp.elim
theorem mP:∀(l:List (Str×Tok)),Vals ((l.map (·.1)).map V.str) (Qo l)
 | [] => .nil
 | (x,t)::l=> .cons ⟨t,rfl⟩ (mP l)
theorem jP {O:Ow}{H:Hp}:∀(ss:List Str),Reps X.K O H (ss.map T.str) (ss.map V.str)
 | [] =>Reps.GJ
 | x::l=>Reps.GE (Rep.GP _) (jP l)
theorem Inv.Hk {pins:List (Addr×Obj)}{σ:L2.St}{H:Hp}{s:Hr}{ys:List V}{its:List Hs}{t':Nat}(I:Inv X pins σ H s)(hv:Vals ys its)(hz:ys.length<=sizeLine) :
  Inv X pins σ (dB H s.heap.objs.size (.tup ys)) { s with heap:=s.heap.push { cls:=.type "tuple",data:=.seq its.toArray },toks:=t' }:=
 I.laid (λ_ _ q=>Hz _ q) (HE _) ⟨hz,its,hv,Nr _ _⟩
theorem AQ:CallT X (.builtin "str.partition") fH:=by
 intro pins s σ H O ts vs us Q I hf rs rv hp;unfold fH at hp
 split at hp
 ·rename_i x y
  split at hp
  ·rename_i hh
   obtain⟨h1,h2⟩:=hh;obtain⟨t,u,rfl⟩:=kU rs rv
   have hy:(y.length == 0)=false:=by rw[beq_eq_false_iff_ne];exact h1
   have hx:x.length<=sizeLine:=by rw[IZ];omega
   refine Ld NY (show typeOf _=_ from rfl) F.entry_str_partition (F.args_str_partition_2 _ _) (meets_str_partition x y t u hy hx) ?_
   have fin:∀(p q r:Str) (tp tq tr:Tok) (k:Nat),(p,q,r)=IL x y->wants (EP X pins σ Q) X.xe (.ok (.ret (.ref s.heap.objs.size))) { s with heap:=s.heap.push { cls:=.type "tuple",data:=.seq #[.str p tp,.str q tq,.str r tr] },toks:=k }:=λp q r tp tq tr k e=>by
    have np:=I.hok.fresh (HE s.heap.objs.size)
    have e1:(IL x y).1=p:=by rw[<-e]
    have e2:(IL x y).2.1=q:=by rw[<-e]
    have e3:(IL x y).2.2=r:=by rw[<-e]
    rw[e1,e2,e3]at hp
    have I2:Inv X pins σ (dB H s.heap.objs.size (.tup [.str p,.str q,.str r])) { s with heap:=s.heap.push { cls:=.type "tuple",data:=.seq #[.str p tp,.str q tq,.str r tr] },toks:=k }:=Inv.Hk I (its:=[.str p tp,.str q tq,.str r tr]) (.cons ⟨_,rfl⟩ (.cons ⟨_,rfl⟩ (.cons ⟨_,rfl⟩ .nil))) (by rw[IZ];simp)
    exact⟨.ref _,_,I2,rfl,hp _ (aT np _) _ (dw np (hf _ np) (jP [p,q,r]))⟩
   show wants _ _ _ _
   unfold IL at fin
   cases q:Jj x y 0 x.length 1 with
   | nil=>
    rw[q]at fin
    exact fin _ _ _ _ _ _ _ rfl
   | cons i tl=>
    rw[q]at fin;exact fin _ _ _ _ _ _ _ rfl
  ·exact hp.elim
 ·exact hp.elim
theorem kd:∀(ss:List Str) (k:Nat),∃l:List (Str×Tok),strsFrom k ss=Qo l/\l.map (·.1)=ss
 | [],k=>⟨[],rfl,rfl⟩
 | x::ss,k=>by
  obtain⟨l,e1,e2⟩:=kd ss (k+1);exact⟨(x,k)::l,by show Jy x k::strsFrom (k+1) ss=_;rw[e1];rfl,by rw[HN,e2]⟩
theorem yB:CallT X (.builtin "str.split") bV:=by
 intro pins s σ H O ts vs us Q I hf rs rv hp;unfold bV at hp
 split at hp
 ·rename_i x y
  split at hp
  ·rename_i hh
   obtain⟨h1,h2,h3⟩:=hh;obtain⟨t,u,rfl⟩:=kU rs rv
   have hy:(y.length == 0)=false:=by rw[beq_eq_false_iff_ne];exact h1
   have hx:x.length<=sizeLine:=by rw[IZ];omega
   have fin:∀(l:List (Str×Tok)) (k:Nat),l.map (·.1)=KL x y->wants (EP X pins σ Q) X.xe (.ok (.ret (.ref s.heap.objs.size))) { s with heap:=s.heap.push { cls:=.type "list",data:=.seq (Qo l).toArray },toks:=k }:=λl k e=>by
    have np:=I.hok.fresh (HE s.heap.objs.size);rw[<-e]at hp h3;exact⟨.ref _,_,I.GY (t':=k) (mP l) (by rw[Hw,IZ];omega),rfl,hp _ (aT np _) _ (fq np (hf _ np) (jP _))⟩
   have itself:∀(e:[x] =KL x y),listOfItself x t X.A (wants (EP X pins σ Q) X.xe) s:=λe=>fin [(x,t)] s.toks e
   unfold KL at fin itself h3
   cases c1:(decide (x.length<y.length)||decide (N9 x<N9 y))with
   | true=>
    rw[c1]at itself
    exact Ld LN (show typeOf _=_ from rfl) MQ (Mp _ _) (meets_str_split_cannot_occur x y t u c1) (itself (by simp))
   | false=>
    rw[c1]at itself fin h3
    cases c2:(Jj x y 0 x.length (x.length+1)).isEmpty with
    | true=>
     rw[c2]at itself
     exact Ld LN (show typeOf _=_ from rfl) MQ (Mp _ _) (meets_str_split_not_found x y t u c1 hy c2) (itself (by simp))
    | false=>
     rw[c2]at fin h3;rw[if_neg Iv,if_neg Iv]at h3;refine Ld LN (show typeOf _=_ from rfl) MQ (Mp _ _) (meets_str_split_sep x y t u c1 hy c2 hx (by rw[IZ];omega)) ?_
     obtain⟨l,e1,e2⟩:=kd (Builtin.Str.partsBetween x (Jj x y 0 x.length (x.length+1)) y.length) s.toks
     show wants _ _ _ _
     rw[e1];exact fin l _ (by rw[e2];simp)
  ·exact hp.elim
 ·exact hp.elim
theorem sY {O:Ow}{H:Hp}:∀{l:List T} {ss:List Str} {vs:List V} {its:List Hs},jw l=some ss->Reps X.K O H l vs->Vals vs its->∃q:List (Str×Tok),its=Qo q/\q.map (·.1)=ss
 | [],ss,vs,its,h,rs,rv=>by
  cases h;cases Reps.Do.mp rs;cases rv
  exact⟨[],rfl,rfl⟩
 | t::l,ss,vs,its,h,rs,rv=>by
  cases t with
  | str x=>
   unfold jw at h
   cases q:jw l with
   | none=>rw[q]at h;cases h
   | some s2=>
    rw[q]at h;cases h;obtain⟨v,w,rfl,r1,rs⟩:=Reps.AC.mp rs
    cases rv with
    | cons z rv=>
     rw[Rep.FM.mp r1]at z;obtain⟨tk,rfl⟩:=z;obtain⟨p,rfl,e⟩:=sY q rs rv
     exact⟨(x,tk)::p,rfl,by rw[HN,e]⟩
  | _=>cases h
theorem AR:CallT X (.builtin "str.join") cP:=by
 intro pins s σ H O ts vs us Q I hf rs rv hp;unfold cP at hp
 split at hp
 ·rename_i x l
  split at hp
  ·rename_i ss hss
   split at hp
   ·rename_i hj
    obtain⟨v1,w1,rfl,r1,rs⟩:=Reps.AC.mp rs;obtain⟨v2,w2,rfl,r2,rs⟩:=Reps.AC.mp rs;cases Reps.Do.mp rs;obtain⟨c,ws,rfl,n1,hx,rx⟩:=Rep.Fk.mp r2;rw[Rep.FM.mp r1]at rv
    cases rv with
    | cons z1 rv=>
     cases rv with
     | cons z2 rv=>
      cases rv;obtain⟨t,rfl⟩:=z1;obtain rfl:=(show _=Io c from z2)
      obtain⟨z,its,n,rv2,hlen,eo⟩:=I.GT hx;obtain⟨q,rfl,e⟩:=sY hss rx rv2;exact SC.join (l:=q) ⟨_,eo,rfl,n,rfl⟩ e hj λt' k=>⟨.str _,H,I.tok _,⟨_,rfl⟩,hp H (Same.refl H) _ (Rep.GP _)⟩
   ·exact hp.elim
  ·exact hp.elim
 ·exact hp.elim
theorem tv {nm:Str}{id:String}{g:List T->Rs T}(hsl:Slot "str" nm id)(hty:typeOf (.builtin id)=pure (.type "method_descriptor"))(hc:CallT X (.builtin id) g)(ha:cx X a fa){fb:En->Rs T}(hb:cx X b fb)(hn:cN b=true)
  (hbase:Ke a nm X.env (eval a X.env)=eval a X.env) (hline:(apos.endLine == cpos.line)=true):cx X (.Call (.Attribute a nm apos) [b] [] cpos) (oS g fa (ae fb ag)):=by
 have hs:HX [b] X.env=(false,eval b X.env)::HX [] X.env:=aO hn;intro pins s σ H Q I ⟨ρ,O,E,hq⟩;refine Nn hbase (by rw[hs];rfl) hline rfl (bK (ha pins s σ H _ I (aK E hq)) λv s1 hh_=> ?_)
 obtain⟨x,H1,I1,r1,t,rt,s',E',q1⟩:=hh_
 cases t with
 | str y=>
  rw[Rep.FM.mp rt]at r1;obtain⟨tk,rfl⟩:=r1;refine⟨_,_,PySem.F.plainAttrs_str,hsl,hty,(show typeOf _=_ from rfl),(λa z=>nomatch z),?_⟩
  rw[hs]
  have q1':Post X H1 (fb ρ >>= λu=>g [.str y,u]) λt H'=> ∀v,Rep X.K O H' t v->Q v H':=by
   have:(ae fb ag ρ >>= λts=>g (.str y::ts))=(fb ρ >>= λu=>g [.str y,u]):=by
    unfold ae;cases fb ρ <;> rfl
   rw[<-this];exact q1
  refine Nh rfl (LP (Lm (bK (hb pins s1 σ H1 _ I1 (aK (f:=fb) E' q1')) λu s2 ⟨w,H2,I2,r2,t2,rt2,s'',E'',q2⟩=>KS ?_)))
  exact hc pins s2 σ H2 O [.str y,t2] [.str y,w] [.str y tk,u] Q I2 (λp=>E''.fresh) (Reps.GE (Rep.GP _) (Reps.GE rt2 Reps.GJ)) (.cons ⟨tk,rfl⟩ (.cons r2 .nil)) q2
 | _=>exact q1.elim
end
end Tr
namespace L2
open PySem PySem.Spec PyProof.Rows
open Sem (wp)
theorem jO {M:My}{Γ:MH}{p:Pos}{t:Sem Fin}{fs:List Frame}{s:Hr}{e:End}{s':Hr}(h:Runs M Γ p t fs s e s'):s.toks<=s'.toks:=by
 induction h with
 | fresh _ ih=>exact H0 (Qd _) ih
 | call _ _ i1 i2=>exact H0 i1 i2
 | resumeFresh _ _ _ _ i1 i2=>exact H0 i1 i2
 | resumeSuspended _ _ _ _ i1 i2=>exact H0 i1 i2
 | segRet _ _ i1 i2=>exact H0 i1 i2
 | segGen _ _ i1 i2=>exact H0 i1 i2
 | segSuspGen _ _ _ _ i1 i2=>exact H0 i1 i2
 | _=>first | exact HE _ | assumption
theorem rB {M:My}{Γ:MH}{p:Pos}{g:Nat}{r:Resume}{s:Hr}{res:GenResult}{s':Hr}(h:Wakes M Γ p g r s res s'):s.toks<=s'.toks:=by
 unfold Wakes at h
 split at h
 ·exact h.elim
 ·split at h
  ·obtain⟨e,s1,q,_,_,rfl⟩:=h;have:=jO q;exact this
  ·obtain⟨_,rfl⟩:=h;exact HE _
  ·obtain⟨_,rfl⟩:=h;exact HE _
 ·obtain⟨e,s1,q,_,_,rfl⟩:=h;have:=jO q;exact this
 ·obtain⟨_,rfl⟩:=h;exact HE _
 ·obtain⟨_,rfl⟩:=h;exact HE _
def BO:Nat:=1
theorem vR {α:Type}{M:My}{Γ:MH}:∀{t:Sem α} {Q:α->Pos->Hr->Prop} {E:Hs->Pos->Hr->Prop} {p:Pos} {s:Hr},BO<=s.toks->wp M Γ t Q E p s →
  wp M Γ t (λa p' s'=>Q a p' s'/\BO<=s'.toks) (λe p' s'=>E e p' s'/\BO<=s'.toks) p s:=by
 intro t
 induction t with
 | pure a=>intro Q E p s h w;rw[N6]at w ⊢;exact⟨w,h⟩
 | raise e=>intro Q E p s h w;rw[N6]at w ⊢;exact⟨w,h⟩
 | fresh k ih=>intro Q E p s h w;rw[N6]at w ⊢;exact ih _ (Nat.le_succ_of_le h) w
 | load a pt k ih=>intro Q E p s h w;rw[N6]at w ⊢;obtain⟨o,e,w⟩:=w;exact⟨o,e,ih _ h w⟩
 | update a pt f k ih=>intro Q E p s h w;rw[N6]at w ⊢;exact⟨w.1,ih _ (by exact h) w.2⟩
 | choose src n k ih=>intro Q E p s h w;rw[N6]at w ⊢;exact⟨w.1,ih _ (by exact h) w.2⟩
 | genState g k ih=>intro Q E p s h w;rw[N6]at w ⊢;obtain⟨o,e,w⟩:=w;exact⟨o,e,ih _ h w⟩
 | call c hd g l k ih=>intro Q E p s h w;rw[N6]at w ⊢;obtain⟨r,s',q,w⟩:=w;exact⟨r,s',q,ih _ (H0 h (jO q)) w⟩
 | resume g r l k ih=>intro Q E p s h w;rw[N6]at w ⊢;obtain⟨r,s',q,w⟩:=w;exact⟨r,s',q,ih _ (H0 h (rB q)) w⟩
 | _=>intro Q E p s h w;rw[N6]at w ⊢ <;> first | exact w | (rename_i ih;exact ih _ (by exact h) w)
def CalB (Γ:MH):Prop:=(Γ.below.map (·.1)).any OG=true
def Cal (Γ:MH):Prop:=(((Γ.code::Γ.below.map (·.1))).any OG)=true
theorem CalB.cal {Γ:MH}(h:CalB Γ):Cal Γ:=by unfold Cal;rw[List.any_cons,show(Γ.below.map (·.1)).any OG=true from h,Nt]
theorem Cal.enter {Γ:MH}{c:Code}{h:Option Hs}{p:Pos}(z:Cal Γ):CalB (Γ.enter c h p):=z
section
variable {α β:Type}{M:My}{A:Iw}{E:Hs->Hr->Prop}{s:Hr}{R R':LJ->Hr->Prop}{c:Code}
def wC (M:My)(A:Iw)(t:Sem α)(Q:α->Hr->Prop)(E:Hs->Hr->Prop)(s:Hr):Prop:=
 BO<=s.toks->∀Γ p,PySem.Ctx.In Γ A->Cal Γ->wp M Γ t (λa _ s'=>Q a s') (λe _ s'=>E e s') p s
def cC (M:My)(A:Iw)(c:Code)(R:LJ->Hr->Prop)(s:Hr):Prop:=
 BO<=s.toks->∀Γ p,Γ.code=c->PySem.Ctx.Below Γ A->CalB Γ->wpCode M Γ R p s
theorem wC.of {t:Sem α}{Q:α->Hr->Prop}(h:wpAny M A t Q E s):wC M A t Q E s:=λ_ Γ p hΓ _=>h Γ p hΓ
theorem cC.of (h:codeAny M A c R s):cC M A c R s:=λ_ Γ p hc hΓ _=>h Γ p hc hΓ
theorem cq {t:Sem α}{Q Q':α->Hr->Prop}{E':Hs->Hr->Prop}(h:wC M A t Q E s)(hQ:∀a s,Q a s->Q' a s)(hE:∀e s,E e s->E' e s):wC M A t Q' E' s:=
 λk Γ p hΓ z=>M6 M Γ t (λa _ s=>hQ a s) (λe _ s=>hE e s) p s (h k Γ p hΓ z)
theorem iO {t:Sem α}{Q Q':α->Hr->Prop}(h:wC M A t Q E s)(hQ:∀a s,Q a s->Q' a s):wC M A t Q' E s:=cq h hQ λ_ _ x=>x
theorem a6 {a:α}{Q:α->Hr->Prop}(h:Q a s):wC M A (pure a) Q E s:=.of (Hy h)
theorem aR {m:Sem α}{f:α->Sem β}{Q:β->Hr->Prop}(h:wC M A m (λa s'=>wC M A (f a) Q E s') E s):wC M A (m >>= f) Q E s:=λk Γ p hΓ z=>by
 rw[Sem.wp_bind'];exact M6 M Γ m (λa p' s' h'=>h'.1 h'.2 Γ p' hΓ z) (λ_ _ _ h'=>h'.1) p s (vR k (h k Γ p hΓ z))
theorem aB {m:Sem α}{f:α->Sem β}{Q:β->Hr->Prop}(h:wpAny M A m (λa s'=>wC M A (f a) Q E s') E s):wC M A (m >>= f) Q E s:=aR (.of h)
theorem gj {m:Sem α}{k:Hs->Sem Unit}{Q:α->Hr->Prop}(h:wC M A m Q (λe s'=>wC M A (k e) (λ_ s''=>E e s'') E s') s):wC M A (m.onRaise k) Q E s:=λkk Γ p hΓ z=>by
 rw[Sem.wp_onRaise];exact M6 M Γ m (λ_ _ _ h'=>h'.1) (λe p' s' h'=>h'.1 h'.2 Γ p' hΓ z) p s (vR kk (h kk Γ p hΓ z))
theorem cg {vs:List Hs}{m:Sem α}{Q:α->Hr->Prop}(h:wC M A m Q E s):wC M A (holding vs m) Q E s:=λk Γ p hΓ z=>by rw[Sem.wp_holding];exact h k Γ p hΓ z
theorem kP {vs:List Hs}{m:Sem Hs}{Q:Hs->Hr->Prop}(h:wC M A m Q E s):wC M A (operate vs m) Q E s:=λk Γ p hΓ z=>by rw[Sem.wp_operate];exact h k Γ p hΓ z
theorem kQ {m:Sem α}{Q:Except Hs α->Hr->Prop}(h:wC M A m (λa=>Q (.ok a)) (λe=>Q (.error e)) s):wC M A m.attempt Q E s:=λk Γ p hΓ z=>by rw[Sem.wp_attempt];exact h k Γ p hΓ z
theorem eP {pos:Pos}{f:Unit->Sem β}{Q:β->Hr->Prop}(h:wC M A (f ()) Q E s):wC M A (standAt pos >>= f) Q E s:=aB (LY h)
theorem iM (h:cC M A c R s)(hR:∀r s,R r s->R' r s):cC M A c R' s:=λk Γ p hc hΓ z=>wpCode_mono hR (h k Γ p hc hΓ z)
theorem vT {h:Option Hs}{Q:Flow->Hr->Prop}(hc:cC M (A.mark h) c (λr s'=>match r with | .ok f=>Q f s' | .error e=>E e s') s)(hnb:autoParam (h≠some byPass) b_):wC M A (run c h) Q E s:=λk Γ p hΓ z=>by
 rw[Sem.wp_run];exact hc k _ p rfl (hΓ.enter c h p hnb) z.enter
theorem jr {f:Hs}{pos:List Hs}{kw:List (Str×Hs)}{Q:Hs->Hr->Prop}(hc:cC M A (.call f ⟨pos,kw⟩) (λr s'=>match r with | .ok (.ret v)=>Q v s' | .ok _=>False | .error e=>E e s') s):wC M A (call f pos kw) Q E s:=λk Γ p hΓ z=>by
 show wp M Γ (runValue (.call f ⟨pos,kw⟩)) _ _ p s
 rw[Sem.wp_runValue];exact hc k _ p rfl (hΓ.enter _ none p (by intro x;cases x)) z.enter
theorem cW (h:wC M (A.under c) (M.den c) (λfin s'=>match fin with | .done f=>R (.ok f) s' | .again c'=>c'.quiet=true/\cC M A c' R s') (λe s'=>R (.error e) s') s):cC M A c R s:=λk Γ p hc hΓ z=>by
 rw[wpCode_iff_wp,hc];refine M6 M Γ _ (λfin p' s' h'=> ?_) (λ_ _ _ h'=>h'.1) p s (vR k (h k Γ p (hc▸hΓ.in) z.cal))
 cases fin with
 | done f=>exact h'.1
 | again c'=>exact⟨h'.1.1,h'.1.2 h'.2 (Γ.goto c') p' rfl (hΓ.goto c') z⟩
theorem AZ (hq:c.quiet=true)(I:Nat->Hr->Prop)
  (turn:∀n s,I n s->wC M (A.under c) (M.den c) (λfin s'=>match fin with | .done f=>R (.ok f) s' | .again c'=>c'=c/\∃m,m<n/\I m s') (λe s'=>R (.error e) s') s)
  (n:Nat) (h:I n s):cC M A c R s:=by
 induction n using Qg generalizing s with
 | ind n ih=>
  refine cW (cq (turn n s h) (λfin s' hf=> ?_) λ_ _ h'=>h')
  cases fin with
  | done f=>exact hf
  | again c'=>obtain⟨rfl,m,hm,hI⟩:=hf;exact⟨hq,ih m hm hI⟩
end
end L2
namespace L2
open PySem PySem.Spec PyProof.Rows
section
variable {M:My}{A:Iw}{E:Hs->Hr->Prop}{s:Hr}{env:Env}{pos:Pos}
theorem fP {st:Stmt}{rest:List Stmt}{Q:Flow->Hr->Prop}(h:wC M A (exec st env) (λf s'=>match f with | .next=>wC M A (execs rest env) Q E s' | f=>Q f s') E s):wC M A (execs (st::rest) env) Q E s:=by
 rw[execs_cons];refine aR (iO h λf s' h'=> ?_)
 cases f <;> first | exact a6 h' | exact h'
theorem Et {c:Expr}{a b:List Stmt}{Q:Flow->Hr->Prop}(h:wC M A (isTrue c env (eval c env)) (λk s'=>if k then wC M A (execs a env) Q E s' else wC M A (execs b env) Q E s') E s):wC M A (exec (.If c a b pos) env) Q E s:=by
 rw[exec_If];refine eP (aR (iO h λk s' h'=> ?_))
 cases k <;> exact h'
theorem mO {e:Expr}{Q:Flow->Hr->Prop}(h:wC M A (eval e env) (λv=>Q (.ret v)) E s):wC M A (exec (.Return (some e) pos) env) Q E s:=by
 rw[exec_Return_some];exact eP (aR (iO h λv s' q=>a6 q))
theorem vZ {l r:Expr}{op:OM}{Q:Hs->Hr->Prop}(h:wC M A (eval l env) (λa s₁=>wC M A (eval r env) (λb s₂=>wC M A (Jq op a b) Q E s₂) E s₁) E s):wC M A (eval (.BinOp l op r pos) env) Q E s:=by
 rw[eval_BinOp];exact aR (iO h λa s₁ h₁=>aR (cg (iO h₁ λb s₂ h₂=>eP (kP h₂))))
theorem y1 {l r:Expr}{op:Pr}{whole:Sem Hs}{Q:Bool->Hr->Prop}(h:wC M A (eval l env) (λa s₁=>wC M A (eval r env) (λb s₂=>wC M A (IM op a b) (λc s₃=>wC M A (truthy c) Q E s₃) E s₂) E s₁) E s)
  (hm:JU op r=false):wC M A (isTrue (.Compare l [op] [r] pos) env whole) Q E s:=by
 rw[isTrue_Compare1,markedBehindIn_of_false hm];exact aR (iO h λa s₁ h₁=>aR (cg (iO h₁ λb s₂ h₂=>eP (aR (kP (iO h₂ λc s₃ h₃=>cg h₃))))))
theorem y0 {α:Type}{vs:List Hs}{m:Sem α}{Q:α->Hr->Prop}(h:wC M A m Q E s):wC M A (m.keep vs) Q E s:=λk Γ p hΓ z=>by rw[Sem.wp_keep];exact h k Γ p hΓ z
theorem pY {P:Heap->Prop}{f:Hs}{first:List Hs}{Q:Hs->Hr->Prop}{args:List (Bool×Sem Hs)}(hplain:args.any (·.1)=false)
  (hk:∀h,P h->∃k,(k=Keeper.frame\/k=Keeper.machine\/k=Keeper.boundFrame)/\PySem.W.Looks M h (keeperOf f) k)
  (h:wC M A (P4 f true args []) (λa s₁=>P s₁.heap/\wC M A (call f (first++a.pos) a.kw) Q E s₁) E s):wC M A (P5 pos f first args []) Q E s:=by
 unfold P5;refine aR (cg (iO h λa s₁ h₁=>eP ?_))
 obtain⟨k,hk',L⟩:=hk _ h₁.1
 have e:(args.any (·.1)||([]:List (Option Str×Sem Hs)).any (·.1.isNone))=false:=by rw[hplain];rfl
 simp only[e];refine aB (L.here ?_)
 have tail:∀{t:Sem Hs},wC M A t Q E s₁->wC M A (t >>= λr=>holding [r] point >>= λ_=>pure r) Q E s₁:=
  λht=>aR (iO ht λr s₂ hr=>aB (Jd (Qp (a6 hr))))
 have mk:∀m:Hs,wC M A (callMarked m f (first++a.pos) a.kw) Q E s₁:=λm=>by unfold callMarked;exact y0 h₁.2
 rcases hk' with rfl | rfl | rfl <;> dsimp only <;> first | exact tail h₁.2 | (split <;> first | exact tail h₁.2 | exact tail (mk _))
theorem sR {f:Hs}{x:Sem Hs}{rest:List (Bool×Sem Hs)}{Q:Args->Hr->Prop}(h:wC M A (spliced ((false,x)::rest)) (λvs s'=>Q ⟨vs,[]⟩ s') E s):wC M A (P4 f true ((false,x)::rest) []) Q E s:=by
 unfold P4
 show wC M A (spliced ((false,x)::rest) >>= _) Q E s
 refine aR (iO h λvs s' h'=>cg ?_)
 exact aB (Hy (aB (Hy (a6 h'))))
theorem kO {x:Sem Hs}{rest:List (Bool×Sem Hs)}{Q:List Hs->Hr->Prop}(h:wC M A x (λv s₁=>wC M A (spliced rest) (λvs s₂=>Q (v::vs) s₂) E s₁) E s):wC M A (spliced ((false,x)::rest)) Q E s:=by
 rw[spliced];refine aR (iO h λv s₁ h₁=> ?_)
 simp only[Jb,if_false];exact aB (Hy (aR (cg (iO h₁ λvs s₂ h₂=>a6 h₂))))
theorem sS {id:Str}{p:Pos}{args:List Expr}{Q:Hs->Hr->Prop}(h:wpAny M A (eval (.Name id p) env) (λf s₁=>wC M A (P5 pos f [] (backTo pos (HX args env)) []) Q E s₁) E s) :
  wC M A (eval (.Call (.Name id p) args [] pos) env) Q E s:=by
 rw[arm_eval_Call_Name'];exact aB h
theorem pX {α:Type}{m:Sem α}{Q:α->Hr->Prop}(h:wC M A m Q (notedBy M A env E) s):wC M A (m.onRaise λx=>do KP x env;Me x) Q E s:=
 gj (cq h (λ_ _ q=>q) λ_ _ hx=>aB (IS hx (λ_ _ e=> .of (wpAny_theTreesLotGoes e)) λ_ _ e=>e))
end
section
variable {prog:HZ}{w:ID}{A:Iw}{E:Hs->Hr->Prop}{s:Hr}{R:LJ->Hr->Prop}
theorem vX {env:Env}{es:List Expr}{x1:Nat}{pos:Pos}{Q:Hs->Hr->Prop}
  (h:wC (model prog w) A (spliced (backTo pos (HX es env))) (λvs s₁=>vs.length<=sizeLine/\Q (.ref s₁.heap.objs.size) { s₁ with heap:=s₁.heap.push { cls:=.type "tuple",data:=.seq vs.toArray } }) E s) :
  wC (model prog w) A (eval (.Tuple es x1 pos) env) Q E s:=by
 rw[arm_eval_Tuple];exact eP (aR (iO h λvs s₁ h₁=> .of (wpAny_newTuple h₁.2 h₁.1)))
theorem uz {body:List Stmt}{env:Env}
  (h:wC (model prog w) (A.deeper env) (execs body env) (λf s'=>R (.ok (.ret (match f with | .ret v=>v | _=> .none))) s')
   (λe s'=>wpAny (model prog w) (A.deeper env) (leaving env e) (λ_ s''=>R (.error e) s'') (λe' s''=>R (.error e') s'') s') s):cC (model prog w) A (.func body env) R s:=by
 refine cW ?_
 show wC _ (A.deeper env) (do point;match <-(execs body env).onRaise (leaving env)with | .ret v=>ret v | _=>ret .none) _ _ s
 refine aB (Qp (aR (gj (cq h (λf s' h'=> ?_) λ_ _ h'=> .of h'))))
 cases f <;> exact a6 h'
theorem By {a:Addr}{args:Args}{o:Obj}{fd:IW}{body:List Stmt}(hroom:A.depth<N8)(ho:s.heap.get? a=some o)
  (hd':o.data= .func fd) (hco:fd.scope.isCoroutine=false) (hgen:fd.scope.isGenerator=false) (hbody:fd.body= .stmts body) (hcd:s.heap.CodeRec fd.code fd.qualname)
  (h:wpAny (model prog w) A.in1 (OQ fd args) (λbinds s₁=>
   wpAny (model prog w) A.in1 (MB fd.scope fd.globals fd.closure binds (fd.qualname++ ".<locals>.") (some a) fd.code none fd.builtins)
    (λenv s₂=>s₂.heap.NoLimit/\cC (model prog w) A (.func body env) R s₂) (λe s'=>R (.error e) s') s₁) (λe s'=>R (.error e) s') s) :
  cC (model prog w) A (.call (.ref a) args) R s:=by
 refine cW ?_
 show wC _ A.in1 (callAny (.ref a) args) _ _ s
 simp only[callAny];refine aB (wpAny_load ho ?_)
 obtain⟨c,oc,vs,tq,hc,hoc,hdc,hq⟩:=hcd;simp only[hd',callFunction,hco,hgen,hbody,hc];rw[hc]at h;refine aB (m:=field (.ref c) 1) (Jg hoc hdc hq (aB (Hy ?_)))
 refine aB (IS h (λbinds s₁ h₁=> ?_) λ_ _ h'=>h')
 refine aB (IS h₁ (λenv s₂ h₂=> ?_) λ_ _ h'=>h')
 exact aB (wpAny_enterFrame h₂.1 hroom (a6 (K4 rfl h₂.2)))
end
def DE (X:Cx)(e:Expr)(t:TE):Prop:=
 ∀(pins:List (Addr×Obj)) (s:Hr) (σ:St) (H:Hp) (Q:VK),Inv X pins σ H s->t σ H Q->wC (model X.prog X.w) X.A (eval e X.env) (EP X pins σ Q) X.xe s
def DS (X:Cx)(st:Stmt)(t:TS):Prop:=
 ∀(pins:List (Addr×Obj)) (s:Hr) (σ:St) (H:Hp) (D:Ends),Inv X pins σ H s->t D σ H->wC (model X.prog X.w) X.A (exec st X.env) (SP X pins D) X.xe s
section
variable {M:My}{A:Iw}{E:Hs->Hr->Prop}{s:Hr}{env:Env}
theorem vV {e:Expr}{scope:KY}{pos:Pos}{newAcc first:Sem Hs}{g:O0}{gs:List O0}{cl:List (Str×Addr)}{use:Option (Hs->Sem Unit)}{Q:Hs->Hr->Prop}
  (hcl:clausesOf e=g::gs) (hs:∀x,Ic g.iter env x=pure x) (hclos:closureFor scope env=pure cl) (hkind:scope.kind= .function) (hnames:∀x∈scope.names,x.2= .local->scope.names.lookup x.1=some .local)
  (h:wpAny M A first (λx s₁=>wpAny M A (pyIter x) (λit s₂=>wpAny M A newAcc (λacc s₃=>wpAny M A (MB scope env.globals cl [] env.qual none .none (some env)) (λcenv s₄=>
    cC M A (.compStart e 0 it acc { cenv with scope:=relabel scope env }) (NW M A E use Q acc cenv.locals) s₄) E s₃) E s₂) E s₁) E s):wC M A (Lw e scope env pos newAcc false first use) Q E s:=by
 unfold Lw;rw[hclos,hcl]
 have step:∀{α β:Type} {m:Sem α} {f:α->Sem β} {Z:α->Hr->Prop} {Y:β->Hr->Prop} {x:Hr},wpAny M A m Z E x->(∀a s',Z a s'->wC M A (f a) Y E s')->wC M A (m >>= f) Y E x:=λh1 h2=>aB (IS h1 h2 λ_ _ z=>z)
 have stand:∀{α:Type} {c:Prop} [Decidable c] {pos:Pos} {k:PUnit->Sem α} {Y:α->Hr->Prop} {x:Hr},wC M A (k ()) Y E x->wC M A (if c then(standAt pos >>= k)else k ()) Y E x:=λh=>by
  split
  ·exact eP h
  ·exact h
 refine step h λx s₁ h₁=>eP (aB (KQ (hs x) (step (Jd h₁) λit s₂ h₂=>stand (step h₂ λacc s₃ h₃=>aB (Hy (step h₃ λcenv s₄ h₄=> ?_))))))
 dsimp only
 have low:∀y∈scope.names,y.2= .local->Env.kindOf { cenv with scope:=relabel scope env } y.1=some .local:=λy hy hl=>lookup_relabel_local (hnames y hy hl)
 have inn:∀{y:Str×KC},y∈(scope.names.filter λx=>(x.2 == .local||x.2 == .cell)&&x.1 != (".0" : Str)).reverse->y∈scope.names:=λhy=>(Lk.mp (Na.mp hy)).1
 refine cg (aR (kQ (cg (vT (iM h₄ λr s' hr=> ?_)))))
 cases r with
 | ok f=>
  cases use with
  | none=>
   obtain⟨m,hn,hr⟩:=hr
   exact aB (Jd (Ng (cenv:={ cenv with scope:=relabel scope env }) hkind _ s' m (λy hy=>low y (inn hy)) hn λh' m' _ hs'=>a6 (hr h' hs')))
  | some u=>
   refine aB (Lf (step (Jd hr) λ_ s'' hr'=> ?_))
   obtain⟨m,hn,hr'⟩:=hr'
   exact aB (Ng (cenv:={ cenv with scope:=relabel scope env }) hkind _ s'' m (λy hy=>low y (inn ((HA.mp hy).elim IY Jn))) hn λh' m' _ hs'=>a6 (hr' h' hs'))
 | error x=>
  have hr':∃m,s'.heap.Ns cenv.locals m/\∀h',Ks cenv.locals s'.heap h'->∀cenv':Env,cenv'.locals=cenv.locals->wpAny M A (passOn "comprehension.variables-let-go" x cenv':Sem Hs) (λ_ _=>False) E { s' with heap:=h' }:=by cases use <;> exact hr
  obtain⟨m,hn,hr⟩:=hr';exact aB (Jd (Ng (cenv:={ cenv with scope:=relabel scope env }) hkind _ s' m (λy hy=>low y (inn hy)) hn λh' m' _ hs'=> .of (IS (hr h' hs' _ rfl) (λ_ _ f=>f.elim) λ_ _ y=>y)))
end
theorem vz {pr:HZ}{wd:ID}{Ar:Iw}{Rz:LJ->Hr->Prop}{s0:Hr}{el tg it0:Expr}{cs:List Expr}{sc:KY}{ps:Pos}{itv av:Hs}{ev:Env}(W:Nat->Hr->Prop)
  (go:∀k st,W k st->wpAny (model pr wd) Ar (pyNext itv) (λr s1=>match r with
   | none=>Rz (.ok .next) s1
   | some v=>wpAny (model pr wd) Ar (Ko tg itv v) (λ_ s2=>wpAny (model pr wd) Ar (assign tg ev v) (λ_ s3=>
     wpAny (model pr wd) Ar (forIn cs true λc b=>if b=true then do let z <-isTrue c ev (eval c ev);pure (J1 z)else pure (J1 b)) (λz s4=>
      if z=true then wC (model pr wd) Ar (eval el ev) (λy s5=>
       wpAny (model pr wd) Ar (call (.builtin "list.append") [av,y]) (λ_ s6=> ∃m,m<k/\W m s6) (λ_ _=>False) s5) (λ_ _=>False) s4
      else ∃m,m<k/\W m s4) (λ_ _=>False) s3) (λ_ _=>False) s2) (λ_ _=>False) s1) (λ_ _=>False) st)
  (k:Nat) (hk:W k s0):cC (model pr wd) Ar (.compLoop (.ListComp el [⟨tg,it0,cs,0⟩] sc ps) 0 itv av ev) Rz s0:=by
 refine AZ rfl W (λk st hw=> ?_) k hk
 show wC (model pr wd) Ar ((compTurn (.ListComp el [⟨tg,it0,cs,0⟩] sc ps) 0 itv av ev).onRaise (λz=>do KP z ev;Me z)) _ _ st
 refine pX ?_
 rw[compTurn_list]
 have step:∀{α β:Type} {m:Sem α} {f:α->Sem β} {Z:α->Hr->Prop} {Y:β->Hr->Prop} {E':Hs->Hr->Prop} {x:Hr},wpAny (model pr wd) Ar m Z (λ_ _=>False) x->(∀a s',Z a s'->wC (model pr wd) Ar (f a) Y E' s')->wC (model pr wd) Ar (m >>= f) Y E' x:=λh1 h2=>aB (IS h1 h2 λ_ _ z=>z.elim)
 refine eP (step (go k st hw) λr s1 g1=> ?_)
 cases r with
 | none=>exact a6 g1
 | some v=>
  refine step g1 λ_ s2 g2=>step g2 λ_ s3 g3=>step g3 λz s4 g4=> ?_
  cases z with
  | false=>exact a6 (K4 rfl g4)
  | true=>exact aR (aR (cq g4 (λy s5 g5=>step g5 λ_ s6 g6=>a6 (a6 (K4 rfl g6))) λ_ _ z=>z.elim))
theorem pE {prog:HZ}{w:ID}{A:Iw}{R:LJ->Hr->Prop}{s:Hr}{elt target iter:Expr}{ifs:List Expr}{rest:List O0}{scope:KY}{pos:Pos}{it acc:Hs}{env:Env}
  (h0:cC (model prog w) A (.compLoop (.ListComp elt (⟨target,iter,ifs,0⟩::rest) scope pos) 0 it acc env) R s)
  (h:wpAny (model prog w) A (pyIter it) (λit' s'=>cC (model prog w) A (.compLoop (.ListComp elt (⟨target,iter,ifs,0⟩::rest) scope pos) 0 it' acc env) R s') (notedBy (model prog w) A env λx s'=>R (.error x) s') s) :
  cC (model prog w) A (.compStart (.ListComp elt (⟨target,iter,ifs,0⟩::rest) scope pos) 0 it acc env) R s:=by
 refine cW ?_
 show wC _ _ ((compStart (.ListComp elt (⟨target,iter,ifs,0⟩::rest) scope pos) 0 it acc env).onRaise (λx=>do KP x env;standAt theWindowsPlace)) _ _ s
 refine gj (cq (E:=notedBy (model prog w) A env λx s'=>R (.error x) s') ?_ (λ_ _ q=>q) λ_ _ hx=>aB (IS hx (λ_ _ e=> .of (LY e)) λ_ _ e=>e))
 unfold compStart
 show wC _ _ (ask >>= _) _ _ s
 refine aB (Ky ?_)
 split
 ·first
   | exact aB (Hy (a6 (K4 rfl h0)))
   | exact a6 (K4 rfl h0)
 ·refine aB (Lf ?_)
  show wC _ _ (standAt iter.pos >>= _) _ _ s
  exact eP (aB (IS h (λit' s' h'=>a6 (K4 rfl h')) λ_ _ x=>x))
section
variable {X:Cx}
theorem xK {elt tg iter:Expr}{ifs:List Expr}{scope:KY}{pos fpos:Pos}{N':List Str}{src:List (Option Nat)}{wi:TI}{g:TG}{tc:TT}{te:TE}{use:Option (Hs->Sem Unit)}{Qf:Hs->Hr->Prop}
  {pins:List (Addr×Obj)} {s:Hr} {σ:St} {H:Hp} {Q:VK}
  (hc:X.calm=true) (S:LcScope X scope N' src) (hi:PI X tg iter wi)
  (block:∀cl C s₀ H₀ fp,PG (aZ X scope cl N' C s₀ H₀ fp) tg g/\ro (aZ X scope cl N' C s₀ H₀ fp) ifs tc/\DE (aZ X scope cl N' C s₀ H₀ fp) elt te)
  (hs:∀x,Ic iter X.env x=pure x) (I:Inv X pins σ H s) (h:BQ X.K wi src g tc te σ H Q)
  (hend:∀(D C:Addr) (H':Hp) (s':Hr),(∃m,s'.heap.Ns C m)->(∀h',Ks C s'.heap h'->Inv X pins σ H' { s' with heap:=h' })->(H' C=none/\C≠X.env.locals/\X.s₀.heap.objs.size<=C/\(∀x c,X.env.cells.lookup x=some c->c≠C)/\∀p∈X.pn++pins,p.1≠C)->Q (.ref D) H' →
   NW (model X.prog X.w) X.A X.xe use Qf (.ref D) C (.ok .next) s') :
  wC (model X.prog X.w) X.A (Lw (.ListComp elt [⟨tg,iter,ifs,0⟩] scope pos) scope X.env fpos (newList []) false (eval iter X.env) use) Qf X.xe s:=by
 have hcell:∀x,(x,IB)∈scope.names->∃c,X.env.cells.lookup x=some c:=λx hx=>I.ok.has x (S.free x hx)
 obtain⟨cl0,hcl,cl01,cl02⟩:=lY (env:=X.env) (scope:=scope) hcell;refine vV (use:=use) rfl hs hcl S.kind S.loc (bK (hi pins s σ H _ I h) λv s1 h1=>bK h1 λitv s2 h2=> ?_)
 obtain⟨it,fp,tn,J,H2,e,I2,T,st2,f2,hq⟩:=h2;subst e
 -- the new list
 refine Ip ?_
 have hD:H2 s2.heap.objs.size=none:=I2.hok.fresh (HE _)
 have hDK:X.K.lookup s2.heap.objs.size=none:=by
  cases q:X.K.lookup s2.heap.objs.size with
  | none=>rfl
  | some o=>exact absurd (HH (I2.kIn _ o q)) (Ia _)
 obtain⟨W,⟨m0,w0⟩,turn⟩:=hq s2.heap.objs.size hD hDK
 have I3:=I2.GY (its:=[]) (ys:=[]) (t':=s2.toks) .nil (Je _)
 generalize hs3:({ s2 with heap:=s2.heap.push { cls:=.type "list",data:=.seq ([]:List Hs).toArray },toks:=s2.toks }:Hr)=s3 at I3
 generalize hH3:dB H2 s2.heap.objs.size (.lst [])=H3 at I3 w0
 have hDsz:s2.heap.objs.size<s3.heap.objs.size:=by rw[<-hs3];simp[JO]
 have fr3:∀b∈fp,H3 b=none:=λb hb=>by
  obtain⟨o,eo,_⟩:=T.obj _ _ st2 b hb;rw[<-hH3,a8 (Iu (HH eo))];exact(f2 b hb).1
 have st3:tn 0 s3.heap:=T.keep _ _ _ st2 λb hb o e=>by rw[<-hs3];exact Hz _ e
 have f3:∀b∈fp,j9 X pins H3 b:=λb hb=>⟨fr3 b hb,(f2 b hb).2⟩
 have D3:H3 s2.heap.objs.size=some (.lst []):=by rw[<-hH3];exact bx
 generalize s2.heap.objs.size=D at*
 clear hs3 hH3 hD hDK
 -- the block's frame
 refine m9 ?_
 have old:∀b o,s3.heap.get? b=some o->(LL (s3.heap.push { cls:=.type "dict",data:=.dict #[] }) scope.names).get? b=some o:=λb o e=>Lv _ _ b o (Hz _ e)
 have hns₁:(LL (s3.heap.push { cls:=.type "dict",data:=.dict #[] }) scope.names).Ns s3.heap.objs.size (λ_=>none):=(Heap.Ns.new s3.heap (.type "dict")).keeps (Lv _ _)
 have hz3:(s3.heap.push { cls:=.type "dict",data:=.dict #[] }).objs.size=s3.heap.objs.size+1:=JO ..
 have lt0:∀x c,cl0.lookup x=some c->c<s3.heap.objs.size:=λx c e=>let ⟨_,ic⟩:=I3.cell x c (cl01 x c e);ic.lt
 obtain⟨c1,c2,c3,c4,c5⟩:=iK scope.names (s3.heap.push { cls:=.type "dict",data:=.dict #[] }) cl0 (λx y c e1 e2=>I3.ok.inj x y c (cl01 x c e1) (cl01 y c e2)) λx c e=>by rw[hz3];exact JL (lt0 x c e)
 rw[hz3]at c1 c2 c3 c4 c5
 generalize hcl':J4 (s3.heap.objs.size+1) scope.names cl0=cl at*
 generalize hh₁:LL (s3.heap.push { cls:=.type "dict",data:=.dict #[] }) scope.names=h₁ at*
 have below:∀b o,s3.heap.get? b=some o->b≠s3.heap.objs.size:=λb o e=>Iu (HH e)
 -- a cell of the block's: one from around,or a new one
 have cl1:∀x c,cl.lookup x=some c->X.env.cells.lookup x=some c\/(s3.heap.objs.size<c/\h₁.IsCell c none):=λx c e=>(c1 x c e).imp (cl01 x c) id
 generalize hC:s3.heap.objs.size=C at*
 have stk:∀b,b≠X.env.locals->b∉X.fs->b∉jH X.stack:=λb h1 h2 z=>(HB.mp (I3.GR b z)).elim h1 h2
 have apart:∀b∈fp,∀x c,cl.lookup x=some c->c≠b:=λb hb x c e=>by
  rcases cl1 x c e with z | z
  ·exact(f3 b hb).2.2.2.2.1 x c z
  ·obtain⟨o,eo,_⟩:=T.obj _ _ st3 b hb
   have h1:=HH eo;rw[hC]at h1;exact Kt (PC h1 z.1)
 have I4:Inv (aZ X scope cl N' C s3 H3 fp) pins (cY src σ) H3 { s3 with heap:=h₁ }:=by
  refine⟨⟨I3.ok.mod,S.kind,I3.ok.glob,I3.ok.blt,Lb hC,c2,λx hx=> ?_,λx c hx e=>KD (hC▸c5 x c (dq (beq_iff_eq.mp hx)) e),I3.ok.hd,I3.ok.frames,.inl rfl,
    λb hb=>⟨?_,λx c e=>apart b hb x c e⟩,I3.bs,H0 I3.ok.bsz I3.sz,λb o e z=> ?_,λb hb=>stk b (f3 b hb).2.1 (f3 b hb).2.2.1,I3.stack,I3.GH⟩,
   rfl,I3.bare,Un.kept old,⟨_,hns₁,λj x v e1 e2 e3=> ?_⟩,λx c e=> ?_,I3.hok.fresh (Lb hC),λx c e=>(cl1 x c e).elim (I3.freeC x c) λz=>I3.hok.fresh (by rw[hC];exact KD z.1),λp hp=> ?_,I3.hok.kept old,?_⟩
  ·have key:∀k,(relabel scope X.env).names.lookup x=some k->(k= .cell\/k= .free)->∃c,cl.lookup x=some c:=λk e hk=>by
    obtain⟨k',e',z⟩:=fx e
    have hk':k'= .cell\/k'= .free:=z.elim (λz=>z▸hk) .inr
    rcases hk' with q | q
    ·exact c4 x (.inl (q▸dq e'))
    ·exact c4 x (.inr (cl02 x (q▸dq e')))
   rcases hx with hx | hx
   ·exact key _ hx (.inl rfl)
   ·exact key _ hx (.inr rfl)
  ·obtain⟨o,eo,_⟩:=T.obj _ _ st3 b hb
   show b≠C
   exact below b o eo
  ·have z':b∈fp:=z
   obtain⟨_,_,_,z1,_⟩:=f3 b z';rcases z1 with z1 | z1
   ·exact I3.ok.noex b o e z1
   ·exact absurd (HM (HH (I3.ok.bs b o e).1) z1) (Ia _)
  ·unfold cY at e2
   rw[Ib]at e2
   cases q:src[j]? with
   | none=>rw[q]at e2;simp at e2
   | some o=>
    rw[q]at e2
    cases o with
    | none=>simp at e2
    | some i=>
     have e2':(σ[i]?).join=some v:=by simpa using e2
     have e2'':σ[i]? =some (some v):=by
      cases q2:σ[i]? with
      | none=>rw[q2]at e2';simp at e2'
      | some z=>rw[q2]at e2';simp at e2';rw[e2']
     obtain⟨hN,hfree⟩:=S.from_ j i x q e1
     have hm:=dq hfree
     have hk:=S.free x hm;obtain⟨m,hn,hl⟩:=I3.loc
     have hv:rl X.env.scope x:=by
      rcases hk with z | z
      ·exact .inr (.inl z)
      ·exact .inr (.inr z)
     obtain⟨u,r,l⟩:=hl i x v hN e2'' hv;refine⟨u,r,.inr ⟨?_,?_⟩⟩
     ·exact eL hfree
     ·rcases l with⟨z,_⟩ | ⟨_,c,ec,ic⟩
      ·rcases hk with z' | z' <;> rw[z']at z <;> cases z
      ·obtain⟨c',ec0⟩:=cl02 x hm
       have ec':cl.lookup x=some c':=(c3 x λz=>by have:=S.cel _ z rfl;rw[hfree]at this;cases this).trans ec0
       have:=cl01 x c' ec0;rw[ec]at this;cases this;obtain⟨o,ho,hd⟩:=ic;exact⟨c,ec',o,old _ _ ho,hd⟩
  ·rcases cl1 x c e with z | z
   ·obtain⟨v,o,ho,hd⟩:=I3.cell x c z
    exact⟨v,o,old _ _ ho,hd⟩
   ·exact⟨none,z.2⟩
  ·obtain⟨e,n,ne,nf,d⟩:=I3.pin p hp
   exact⟨old _ _ e,n,below _ _ e,stk _ ne nf,d⟩
  ·show(cY src σ).length=N'.length
   unfold cY;rw[Hw];exact S.len
 obtain⟨bG,bI,bE⟩:=block cl C s3 H3 fp
 have stat:∀{H':Hp},(∀b∈fp,H' b=none)->∀b∈fp,j9 (aZ X scope cl N' C s3 H3 fp) pins H' b:=λhn b hb=>by
  obtain⟨o,eo,_⟩:=T.obj _ _ st3 b hb;exact⟨hn b hb,below b o eo,stk b (f3 b hb).2.1 (f3 b hb).2.2.1,.inl hb,apart b hb,(f3 b hb).2.2.2.2.2⟩
 have st4:tn 0 h₁:=T.keep _ _ _ st3 λb hb o e=>old b o e
 -- behind the block
 have after:∀(H':Hp) (s':Hr) (σ':St),Inv (aZ X scope cl N' C s3 H3 fp) pins σ' H' s'->Q (.ref D) H' →
   NW (model X.prog X.w) X.A X.xe use Qf (.ref D) C (.ok .next) s':=λH' s' σ' I' q=>by
  obtain⟨m,hn,_⟩:=id I'.loc
  have fC:X.s₀.heap.objs.size<=C:=by rw[<-hC];exact I3.sz
  have ltC:∀b o,s3.heap.get? b=some o->b<C:=λb o e=>by rw[<-hC];exact HH e
  refine hend D C H' s' ⟨m,hn⟩ (λh' hsb=> ?_) ⟨I'.free,?_,fC,λx c e z=> ?_,λp hp z=> ?_⟩ q
  rotate_left
  ·have:=I3.lt;rw[hC]at this;exact Kt this
  ·obtain⟨v,ic⟩:=I3.cell x c e
   have:=ic.lt;rw[hC,z]at this;exact Ia _ this
  ·have:=ltC _ _ (I3.pin p hp).1;rw[z]at this;exact Ia _ this
  have u:Un (jH X.stack) fp H3 H' s3.heap s'.heap:=I'.base
  have lift:∀b o,s3.heap.get? b=some o->∀o',s'.heap.get? b=some o'->h'.get? b=some o':=λb o e o' e'=>hsb.extBut b o' (below b o e) e'
  have u':Un (jH X.stack) fp H3 H' s3.heap h':=
   ⟨λb o e n hb hx=>lift b o e o (u.keep b o e n hb hx),λb o e n hb hx=>by
     obtain⟨sl,z⟩:=u.slot b o e n hb hx;exact⟨sl,lift b o e _ z⟩,u.free,λb o e hx=>by
     obtain⟨o',z⟩:=u.there b o e hx;exact⟨o',lift b o e _ z⟩,u.tups,u.frzs,u.tbls⟩
  have hCn:H' C=none:=I'.free
  have hok':HOk X.prog X.w H' h':=λb ob e=>by
   refine(I'.hok b ob e).GL (λc w' hc' q'=>(hsb.2 c ?_).trans q') (λ_ q=>q) λ_ _ q=>q
   rintro rfl
   rcases hc' with rfl | hc'
   ·rw[hCn]at e;cases e
   ·rw[hCn]at hc';cases hc'
  have I5:Inv X pins σ H' { s' with heap:=h' }:=I3.GX (s':={ s' with heap:=h' }) (ch:=fp) I'.os u' hok' I'.bare λb hb=>⟨(f3 b hb).2.2.2.1,(f3 b hb).2.1,(f3 b hb).2.2.2.2.1,(f3 b hb).2.2.2.2.2⟩
  exact I5
 have loop:cC (model X.prog X.w) X.A (.compLoop (.ListComp elt [⟨tg,iter,ifs,0⟩] scope pos) 0 (.ref it) (.ref D) (compEnvC scope cl C X.env))
   (NW (model X.prog X.w) X.A X.xe use Qf (.ref D) C) { s3 with heap:=h₁ }:=by
  refine vz (λn s'=> ∃i σ' ys H',Inv (aZ X scope cl N' C s3 H3 fp) pins σ' H' s'/\tn i s'.heap/\(∀b∈fp,H' b=none)/\W i n σ' ys H') ?_ m0 ⟨0,_,[],H3,I4,st4,fr3,w0⟩
  rintro n s5 ⟨i,σ5,ys,H5,I5,st5,fr5,w5⟩
  obtain⟨hDl,alt⟩:=turn i n σ5 ys H5 w5;rcases alt with⟨stop,qn⟩ | ⟨go,hlen,step⟩
  ·refine bK (T.done (aZ X scope cl N' C s3 H3 fp) rfl rfl rfl hc i pins s5 σ5 H5 _ I5 (stat fr5) st5 stop) λr s6 ⟨hr,I6⟩=> ?_
   subst hr;exact after H5 s6 σ5 I6 qn
  ·refine bK (T.item (aZ X scope cl N' C s3 H3 fp) rfl rfl rfl hc i pins s5 σ5 H5 _ I5 (stat fr5) st5 go) λr s6 ⟨u,hr,h6⟩=> ?_
   subst hr;refine bK h6 λ_ s7 hh_=> ?_
   obtain⟨x,H7,I7,r7,y7,st7,fr7⟩:=hh_
   have I7':=I7.pinned (stat fr7) (T.obj _ _ st7);refine bK (bG _ s7 σ5 H7 x u _ I7' r7 (step x H7 y7)) λ_ s8 hh_=> ?_
   obtain⟨σ8,H8,I8,q8⟩:=hh_;refine bK (bI _ s8 σ8 H8 _ I8 q8) λok s9 hh_=> ?_
   obtain⟨H9,I9,q9⟩:=hh_
   have again:∀{σx:St} {Hx:Hp} {sx:Hr} {ys':List V},Inv (aZ X scope cl N' C s3 H3 fp) (pins++i7 fp s7.heap) σx Hx sx->(∃m',m'<n/\W (i+1) m' σx ys' Hx) →
     ∃m,m<n/\∃i σ' ys H',Inv (aZ X scope cl N' C s3 H3 fp) pins σ' H' sx/\tn i sx.heap/\(∀b∈fp,H' b=none)/\W i m σ' ys H':=λ{σx Hx sx ys'} Ix nx=>by
    obtain⟨m',hm,wx⟩:=nx;refine⟨m',hm,i+1,σx,ys',Hx,Ix.GG,T.keep _ _ _ st7 λb hb o e=>(Ix.pin (b,o) (HP _ (HP _ (cR hb e)))).1,λb hb=> ?_,wx⟩
    obtain⟨o,e,d⟩:=T.obj _ _ st7 b hb;exact(Ix.pin (b,o) (HP _ (HP _ (cR hb e)))).2.1
   cases ok with
   | false=>
    rw[if_neg Iv]at q9 ⊢
    exact again I9 q9
   | true=>
    rw[if_pos rfl]at q9 ⊢;refine iO (bE _ s9 σ8 H9 _ I9 q9) λv s10 hh_=> ?_
    obtain⟨y,H10,I10,r10,hD10,q10⟩:=hh_;refine bK (jU _ s10 σ8 H10 (.ref D) [y] (.ref D) [v] (λ_ H'=>H'=dB H10 D (.lst (ys++ [y]))) I10 rfl (.cons r10 .nil) ⟨D,ys,y,rfl,rfl,hD10,hlen,rfl⟩) λ_ s11 hh_=> ?_
    obtain⟨_,H11,I11,_,e11⟩:=hh_;subst e11;exact again I11 q10
 exact pE loop (T.self _ 0 _ _ _ st4 loop)
theorem Gi {elt tg iter:Expr}{ifs:List Expr}{scope:KY}{pos py spos:Pos}{N':List Str}{src:List (Option Nat)}{wi:TI}{g:TG}{tc:TT}{te:TE}{i:Nat}{y:Str}
  (hc:X.calm=true) (S:LcScope X scope N' src) (hi:PI X tg iter wi)
  (block:∀cl C s₀ H₀ fp,PG (aZ X scope cl N' C s₀ H₀ fp) tg g/\ro (aZ X scope cl N' C s₀ H₀ fp) ifs tc/\DE (aZ X scope cl N' C s₀ H₀ fp) elt te)
  (hN:X.N.Nodup) (hiy:X.N[i]? =some y) (hy:Loc X.env.scope y) (hsw:JT (.ListComp elt [⟨tg,iter,ifs,0⟩] scope pos) (some (.Name y py)) spos.line X.env=pure true)
  (hf:X.fn y=true\/X.env.scope.names.lookup y=some .local) (hs:autoParam (∀x,Ic iter X.env x=pure x) t_) :
  DS X (.Assign [.Name y py] (.ListComp elt [⟨tg,iter,ifs,0⟩] scope pos) spos) (wB (BQ X.K wi src g tc te) (ub i)):=by
 intro pins s σ H D I h;rw[NM _ _ _ _ hsw];refine eP (aR ?_)
 show wC (model X.prog X.w) X.A (do let _ <-Lw (.ListComp elt [⟨tg,iter,ifs,0⟩] scope pos) scope X.env _ (newList []) false (eval iter X.env) (some (assign (.Name y py) X.env))) _ _ s
 refine aR (iO (xK (use:=some (assign (.Name y py) X.env)) (Qf:=λ_ s'=>SP X pins D .next s') (Q:=λv H'=>D.nx (σ.set i (some v)) H') hc S hi block hs I h λL C H' s' ⟨m,hn⟩ inv ⟨c0,c1,c2,c3,c4⟩ q=> ?_) λ_ s' hq=>a6 (a6 hq))
 have I0:Inv X pins σ H' s':=inv s'.heap (MF ..)
 show wpAny (model X.prog X.w) X.A (assign (.Name y py) X.env (.ref L)) _ _ s'
 refine MT (jL I0 hN hiy hy (v:=.ref L) rfl (λs2 I2 ⟨b,sb,hb⟩=> ?_) hf)
 have hbC:C≠b:=by
  rcases hb with z | z
  ·rw[z];exact c1
  ·exact λw=>c3 y b z w.symm
 refine⟨m,hn.sameBut sb hbC,λh' hsb=> ?_⟩
 exact⟨_,H',I2.turned (t':=s2.toks) (λb' o hb' e=>(hsb.2 b' hb').trans e) c0 c1 (.inr c2) c3 c4,q⟩
end
def DT (X:Cx)(e:Expr)(t:TT):Prop:=
 ∀(pins:List (Addr×Obj)) (s:Hr) (σ:St) (H:Hp) (Q:Bool->Hp->Prop),Inv X pins σ H s->t σ H Q->wC (model X.prog X.w) X.A (isTrue e X.env (eval e X.env)) (TP X pins σ Q) X.xe s
def DA (X:Cx)(es:List Expr)(t:TA):Prop:=
 ∀(pos:Pos) (pins:List (Addr×Obj)) (s:Hr) (σ:St) (H:Hp) (Q:List V->Hp->Prop),Inv X pins σ H s->t σ H Q->wC (model X.prog X.w) X.A (spliced (backTo pos (HX es X.env))) (AP X pins σ Q) X.xe s
def DSs (X:Cx)(st:List Stmt)(t:TS):Prop:=
 ∀(pins:List (Addr×Obj)) (s:Hr) (σ:St) (H:Hp) (D:Ends),Inv X pins σ H s->t D σ H->wC (model X.prog X.w) X.A (execs st X.env) (SP X pins D) X.xe s
section
variable {X:Cx}{e:Expr}{es:List Expr}{st:Stmt}{sts:List Stmt}{te ue:TE}{tt ut:TT}{ta:TA}{ts us:TS}{pos:Pos}
theorem PE.d (h:PE X e te):DE X e te:=λpins s σ H Q I q=> .of (h pins s σ H Q I q)
theorem PA.d (h:PA X es ta):DA X es ta:=λp pins s σ H Q I q=> .of (h p pins s σ H Q I q)
theorem PS.d (h:PS X st ts):DS X st ts:=λpins s σ H D I q=> .of (h pins s σ H D I q)
theorem PSs.d (h:PSs X sts ts):DSs X sts ts:=λpins s σ H D I q=> .of (h pins s σ H D I q)
theorem DS.imp (h:DS X st ts)(w:∀D σ H,us D σ H->ts D σ H):DS X st us:=λpins s σ H D I q=>h pins s σ H D I (w D σ H q)
theorem DSs.imp (h:DSs X sts ts)(w:∀D σ H,us D σ H->ts D σ H):DSs X sts us:=λpins s σ H D I q=>h pins s σ H D I (w D σ H q)
theorem DSs.nox (h:DSs X.nox sts ts):DSs X sts ts:=λpins s σ H D I hw=>cq (h pins s σ H D (I.FS _) hw) (λ_ _ q=>q.GI) λ_ _ z=>JH z
theorem yx (h1:DS X st ts)(h2:DSs X sts us):DSs X (st::sts) (ED ts us):=by
 intro pins s σ H D I h;refine fP (iO (h1 pins s σ H { D with nx:=us D } I h) λf s1 q=> ?_)
 cases f with
 | next=>
  obtain⟨σ',H',I',q⟩:=q
  exact h2 pins s1 σ' H' D I' q
 | _=>exact q
theorem AB (h1:DS X st ts):DSs X [st] ts:=by
 intro pins s σ H D I h;refine fP (iO (h1 pins s σ H D I h) λf s1 q=> ?_)
 cases f with
 | next=>exact .of (KO q)
 | _=>exact q
theorem DM (he:DE X e te):DS X (.Return (some e) pos) (EE te):=λpins s σ H D I h=>
 mO (iO (he pins s σ H _ I h) λv s1 ⟨x,H1,I1,r1,q1⟩=>⟨x,σ,H1,I1,r1,q1⟩)
theorem Gd {a b:List Stmt}(hc:DT X e tt)(ha:DSs X a ts)(hb:DSs X b us):DS X (.If e a b pos) (EK tt ts us):=by
 intro pins s σ H D I h;refine Et (iO (hc pins s σ H _ I h) λd s1 hh_=> ?_)
 obtain⟨H1,I1,q1⟩:=hh_
 cases d with
 | true=>exact ha pins s1 σ H1 D I1 q1
 | false=>exact hb pins s1 σ H1 D I1 q1
theorem AK (ha:DE X e te)(hr:DA X es ta)(hs:HX (e::es) X.env=(false,eval e X.env)::HX es X.env):DA X (e::es) (kc te ta):=by
 intro pos pins s σ H Q I h;rw[hs]
 show wC _ _ (spliced ((false,eval e X.env)::backTo pos (HX es X.env))) _ _ s
 refine kO (iO (ha pins s σ H _ I h) λu s1 hh_=> ?_)
 obtain⟨x,H1,I1,r1,q1⟩:=hh_;exact iO (hr pos pins s1 σ H1 _ I1 q1) λus s2 ⟨xs,H2,I2,r2,q2⟩=>⟨x::xs,H2,I2,.cons r1 r2,q2⟩
theorem DV {x1:Nat}(h:DA X es ta):DE X (.Tuple es x1 pos) (EA ta):=by
 intro pins s σ H Q I hq;refine vX (iO (h pos pins s σ H _ I hq) λus s1 ⟨xs,H1,I1,r,z,q⟩=>⟨by rw[<-r.length];exact z,?_⟩)
 have hf:H1 s1.heap.objs.size=none:=I1.hok.fresh (HE _);refine⟨.ref s1.heap.objs.size,dB H1 s1.heap.objs.size (.tup xs),I1.laid (t':=s1.toks) (λb u e=>Hz _ e) (HE _) ?_,rfl,q _ hf⟩
 exact⟨z,us,r,⟨_,HR _ rfl,rfl,_,rfl⟩⟩
end
structure mi (P:HZ)(w:ID)(K:Ho)(mg:Str->Option Hs)(base:Heap)(CX:vI)(k:Nat)(f:Addr)(fd:IW)(ps:List Str)(sp:Sp):Prop where
 len:∀vs H Q E,sp vs H Q E->vs.length=ps.length
 run:∀(A:Iw) (outer:List Env) (s:Hr) (H:Hp) (args:Args) (us:List Hs) (vs:List V) (Q:VK) (E:XK),Room k A->sI P w K mg base A outer s H->NJ s fd args (ps.zip us)->Vals vs us->sp vs H Q E →
  cC (model P w) A (.call (.ref f) args) (CR CX outer P w H s Q E) s
theorem DC {CX:vI}{P:HZ}{w:ID}{K:Ho}{mg:Str->Option Hs}{base:Heap}{k:Nat}{f:Addr}{name qual:Str}{params:MS}{body:List Stmt}{scope:KY}{dV kV doc pm cdv ct oc:Hs}{an od:Option Addr}
  {osl:Array (Option Hs)} {N ps:List Str} {sp:Sp} (lk:K.lookup f=some ⟨oc,od,.func (Kr name qual params body scope dV kV doc pm an cdv ct),osl⟩) (hcd:Mt K cdv qual=true) (S:cu N ps scope)
  (len:∀vs H Q E,sp vs H Q E->vs.length=ps.length)
  (hbody:∀(A:Iw) (outer:List Env) (s:Hr) (H:Hp) (vs:List V) (Q:VK) (E:XK),Room k (A.deeper (envOfC qual scope s.heap.objs.size f cdv))->sp vs H Q E →
   ∃t,DSs (fD CX P w K mg base N qual scope f cdv A outer s H E) body t/\t { nx:=λ_ H'=>Q .non H',rt:=Q } (start N vs) H) :
  mi P w K mg base CX (k+1) f (Kr name qual params body scope dV kV doc pm an cdv ct) ps sp:=by
 refine⟨len,λA outer s H args us vs Q E hr e0 hb r hsp=> ?_⟩
 have hl:=len _ _ _ _ hsp
 have KX:K.In s.heap:=e0.mod.kin.keeps λb o e=>(e0.bs b o e).1
 have lim:s.heap.NoLimit:=e0.mod.nolimit.keeps λb o e=>(e0.bs b o e).1
 have hkind:∀y∈ps.zip us,scope.names.lookup y.1=some .local\/(scope.names.lookup y.1=some .cell/\((J4 (s.heap.objs.size+1) scope.names []).lookup y.1).isSome=true):=λ⟨n,v⟩ hy=>by
  rcases S.par n (KG hy).1 with q | q
  ·exact .inl q
  ·exact .inr ⟨q,J6 _ _ _ (.inl q)⟩
 refine By hr.depth (KX _ _ lk) rfl S.co S.gen rfl (Li KX hcd) (hb _ _ _ _ ?_)
 refine Ka S.kind hkind λenv he s1 x=> ?_
 subst he;refine⟨lim.keeps x.toInCall.keep,uz ?_⟩
 obtain⟨t,ht,hq⟩:=hbody A outer s H vs Q E (hr.deeper _) hsp
 have I:Inv (fD CX P w K mg base N qual scope f cdv A outer s H E) [] (start N vs) H s1:=iC S hr.hd e0 hl r x;refine cq (ht [] s1 (start N vs) H _ I hq) (λfl s' hs=> ?_) λe s' hs=>hs
 have fin:∀{σ':St} {H':Hp} {v:V} {u:Hs},Inv (fD CX P w K mg base N qual scope f cdv A outer s H E) [] σ' H' s'->RelV v u->Q v H'->CE outer P w H s Q u s':=
  λ{σ' H' v u} J rv q=>⟨v,H',J.os,J.bare,J.base,J.hok,rv,q⟩
 cases fl with
 | ret u=>
  obtain⟨v,σ',H',J,rv,q⟩:=hs
  exact fin J rv q
 | next=>
  obtain⟨σ',H',J,q⟩:=hs
  exact fin (v:=V.non) (u:=Ig) J rfl q
 | brk=>
  obtain⟨_,_,_,q⟩:=hs
  exact JH q
 | cont=>
  obtain⟨_,_,_,q⟩:=hs;exact JH q
section
variable {X:Cx}{CX:vI}{k:Nat}{f C:Addr}{fd:IW}{ps:List Str}{sp:Sp}{dvs:List V}{ds:List Hs}{E:XK}{x m:Str}{p pos apos:Pos}{e o:Expr}{es:List Expr}{ta:TE}{t:TA}
theorem zf {pins:List (Addr×Obj)}{σ:St}{H:Hp}{s:Hr}{Q:VK}{us:List Hs}{vs:List V}(F:mi X.prog X.w X.K X.mg X.base CX k f fd ps sp)(hr:Room k X.A)(hb:Binds X.K fd ps ds)(hd:Vals dvs ds)(hx:pM CX X E)
  (I:Inv X pins σ H s) (r:Vals vs us) (h:sp (vs++dvs) H Q E):wC (model X.prog X.w) X.A (call (.ref f) us) (EP X pins σ Q) X.xe s:=by
 have r2:Vals (vs++dvs) (us++ds):=r.append hd
 have hl:(us++ds).length=ps.length:=by rw[<-r2.length];exact F.len _ _ _ _ h
 refine jr (iM (F.run X.A X.stack s H ⟨us,[]⟩ (us++ds) (vs++dvs) Q E hr I.G5 (hb s us I.kIn hl) r2 h) λr s' hq=> ?_)
 cases r with
 | error e=>exact hx pins σ H s e s' I hq
 | ok fl=>
  cases fl with
  | ret u=>exact I.after hq
  | next=>exact JH hq
  | brk=>exact JH hq
  | cont=>exact JH hq
end
end L2
namespace Tr
open PySem PySem.Spec PyProof.Rows L2
def Gs (P:HZ)(w:ID)(K:Ho)(mg:Str->Option Hs)(base:Heap)(k:Nat)(f:Addr)(fd:IW)(ps:List Str)(n:Nat)(g:List T->Rs T):Prop:=
 ∀(A:Iw) (outer:List Env) (s:Hr) (H:Hp) (args:Args) (us:List Hs) (vs:List V) (O:Ow) (ts:List T) (c:Str) (R:LJ->Hr->Prop),Room k A->sI P w K mg base A outer s H->NJ s fd args (ps.zip us)->Vals vs us →
  Reps K O H ts vs->(∀a,O a->Mtb H a)->ts.length=n->g ts= .err c->(∀ev s',RzC P w mg outer H s c ev s'->R (.error ev) s')->cC (model P w) A (.call (.ref f) args) R s
structure yL (P:HZ)(w:ID)(K:Ho)(mg:Str->Option Hs)(base:Heap)(k:Nat)(f:Addr)(fd:IW)(ps:List Str)(n:Nat)(g:List T->Rs T):Prop where
 h:mi P w K mg base CX0 k f fd ps (spP K n g)
 x:Gs P w K mg base k f fd ps n g
abbrev mL (X:Cx)(s:List Stmt)(F:En->Rs Fl):Prop:=DSs X s (Gw X F)
section
variable {P:HZ}{w:ID}{K:Ho}{mg:Str->Option Hs}{base:Heap}
theorem DD {x qual:Str}{st:Stmt}{f:Addr}{fd:IW}{N ps:List Str}{k n:Nat}{g:List T->Rs T}(Fn:L2.Fun K x qual st f fd)(S:cu N ps (au st))(hn:ps.length=n)
  (hbody:∀(cdv:Hs) (A:Iw) (outer:List Env) (s:Hr) (H:Hp) (E:XK),Room k (A.deeper (envOfC qual (au st) s.heap.objs.size f cdv)) →
   ∃F,mL (fD CX0 P w K mg base N qual (au st) f cdv A outer s H E).nox (bF st) F/\∀ts,ts.length=n->∀t,g ts= .ok t->bo F (aI N.length ts)= .ok t):mi P w K mg base CX0 (k+1) f fd ps (spP K n g):=by
 have hpl:ps.length<=N.length:=by have:=congrArg KH S.pre;rw[HV]at this;omega
 obtain⟨oc,od,kV,doc,pm,an,cdv,ct,osl,rfl,lk,hcd⟩:=Fn.ex;refine DC lk hcd S (λvs H Q E h=> ?_) λA outer s H vs Q E hr h=> ?_
 ·obtain⟨ts,O,r,_,hl,_⟩:=h
  rw[<-r.length,hl,hn]
 ·obtain⟨ts,O,r,trk,hl,h⟩:=h
  obtain⟨F,hF,hv⟩:=hbody cdv A outer s H E hr;refine⟨_,hF.nox,aI N.length ts,O,noM,iq r (by omega) trk,?_⟩
  have no:∀a,¬noM.u a:=λa ⟨_,z⟩=>z
  cases q:g ts with
  | bad=>rw[q]at h;exact h.elim
  | err c=>rw[q]at h;exact h.elim
  | ok t=>
   rw[q]at h
   have hb:=hv ts hl t q;unfold bo at hb
   cases q2:F (aI N.length ts)with
   | bad=>rw[q2]at hb;cases hb
   | err c=>rw[q2]at hb;cases hb
   | ok fl=>
    rw[q2,aH]at hb
    have sameOf:∀H',SameO noM.u H H'->Same H H':=λH' s b o e=>s b o e (no b)
    cases fl with
    | nx ρ'=>cases hb;exact λσ' H' M' s' E' o'=>h .non H' (sameOf H' s') Rep.G1
    | rt t'=>cases hb;exact λv H' s' r'=>h v H' (sameOf H' s') r'
    | bk ρ'=>cases hb
    | ct ρ'=>cases hb
theorem Al {x qual:Str}{st:Stmt}{f:Addr}{fd:IW}{N ps:List Str}{k n:Nat}{g:List T->Rs T}(Fn:L2.Fun K x qual st f fd)(S:cu N ps (au st))(hn:ps.length=n)
  (hbody:∀(cdv:Hs) (A:Iw) (outer:List Env) (s:Hr) (H:Hp) (E:XK),Room k (A.deeper (envOfC qual (au st) s.heap.objs.size f cdv)) →
   ∃F,(∀xe,mL ((fD CX0 P w K mg base N qual (au st) f cdv A outer s H E).FS xe) (bF st) F)/\∀ts,ts.length=n->∀c,g ts= .err c->F (aI N.length ts)= .err c):Gs P w K mg base (k+1) f fd ps n g:=by
 intro A outer s H args us vs O ts c R hr e0 hb r rs trk hl hg hR
 have hpl:ps.length<=N.length:=by have:=congrArg KH S.pre;rw[HV]at this;omega
 obtain⟨oc,od,kV,doc,pm,an,cdv,ct,osl,rfl,lk,hcd⟩:=Fn.ex
 have hlen:vs.length=ps.length:=by rw[<-rs.length,hl,hn]
 have KX:K.In s.heap:=e0.mod.kin.keeps λb o e=>(e0.bs b o e).1
 have lim:s.heap.NoLimit:=e0.mod.nolimit.keeps λb o e=>(e0.bs b o e).1
 have hkind:∀y∈ps.zip us,(au st).names.lookup y.1=some .local\/((au st).names.lookup y.1=some .cell/\((J4 (s.heap.objs.size+1) (au st).names []).lookup y.1).isSome=true):=λ⟨n,v⟩ hy=>by
  rcases S.par n (KG hy).1 with q | q
  ·exact .inl q
  ·exact .inr ⟨q,J6 _ _ _ (.inl q)⟩
 refine By hr.depth (KX _ _ lk) rfl S.co S.gen rfl (Li KX hcd) (hb _ _ _ _ ?_)
 refine Ka S.kind hkind λenv he s1 x=> ?_
 subst he;refine⟨lim.keeps x.toInCall.keep,uz ?_⟩
 obtain⟨F,hF,hv⟩:=hbody cdv A outer s H E0 (hr.deeper _)
 let xe:Hs->Hr->Prop:=λev s'=>wpAny (model P w) (A.deeper (envOfC qual (au st) s.heap.objs.size f cdv)) (leaving (envOfC qual (au st) s.heap.objs.size f cdv) ev) (λ_ s''=>R (.error ev) s'') (λe' s''=>R (.error e') s'') s'
 have I:Inv ((fD CX0 P w K mg base N qual (au st) f cdv A outer s H E0).FS xe) [] (start N vs) H s1:=(iC S hr.hd e0 hlen r x).FS _
 have no:∀a,¬noM.u a:=λa ⟨_,z⟩=>z
 refine cq (hF xe [] s1 (start N vs) H { nx:=λ_ _=>False,rt:=λ_ _=>False,bk:=λ_ _=>False,ct:=λ_ _=>False } I ⟨aI N.length ts,O,noM,iq rs (by omega) trk,?_⟩) (λfl s' z=> ?_) λe s' hs=>hs
 rotate_left
 ·cases fl with
  | next=>obtain⟨_,_,_,z⟩:=z;exact z.elim
  | cont=>obtain⟨_,_,_,z⟩:=z;exact z.elim
  | brk=>obtain⟨_,_,_,z⟩:=z;exact z.elim
  | ret v=>obtain⟨_,_,_,_,_,z⟩:=z;exact z.elim
 rw[hv ts hl c hg];intro pins ev s' w'
 show wpAny _ _ _ _ _ _
 obtain⟨e,T,C,σ',H',rfl,hm,I',sm,he,heo,fl,hT,_⟩:=w'
 have heo:=heo rfl
 have hT:∀t,T=some t->H' t=none/\s.heap.get? t=none:=λt z=>⟨(hT t z).1,(hT t z).2 rfl⟩
 refine xG (base:=base) (outer:=outer) (L:=s.heap.objs.size) I'.ok.frames I'.stack rfl fl λh' T' g=>hR _ _ ?_
 have hex:((fD CX0 P w K mg base N qual (au st) f cdv A outer s H E0).FS xe).ex= []:=rfl
 have Tn:H' T'=none/\s.heap.get? T'=none:=by
  rcases g.new with z | z
  ·exact hT T' z
  ·exact⟨gc I' z,fQ I' hex z⟩
 have out:∀b o,s.heap.get? b=some o->b≠s.heap.objs.size:=λb o q z=>by
  have:=HH q;rw[z]at this;exact absurd this (Ia _)
 have mem:∀b,b∈jH ((envOfC qual (au st) s.heap.objs.size f cdv)::outer)->b=s.heap.objs.size\/b∈jH outer:=λb z=>by
  have z':b∈s.heap.objs.size::jH outer:=z;exact HB.mp z'
 have ne:∀b o,s.heap.get? b=some o->b≠e/\T≠some b:=λb o q=>⟨λz=>(by subst z;rw[show s.heap.get? b=none from heo]at q;cases q),λz=>(by rw[show s.heap.get? b=none from(hT b z).2]at q;cases q)⟩
 have keepH:∀b u,H' b≠none->s'.heap.get? b=some u->h'.get? b=some u:=λb u hb q=>by
  refine g.keep b u (λz=>hb (I'.GH b z)) (λz=>hb (by rw[z];exact he)) (λz=>hb (hT b z).1) q
 refine⟨e,T',C,H',rfl,hm,I'.os,I'.bare,⟨λb o q n hb hx=> ?_,λb o q n hb hx=> ?_,λb o q n hx=>I'.base.free b o q n hx,λb o q hx=> ?_,I'.base.tups,I'.base.frzs,I'.base.tbls⟩,λa o q=> ?_,λb o q=>sm b o q (no b),he,heo,g.flt,Tn.1,Tn.2⟩
 ·exact g.keep b o (λz=>(mem b z).elim (out b o q) hb) (ne b o q).1 (ne b o q).2 (I'.base.keep b o q n hb hx)
 ·obtain⟨sl,q1⟩:=I'.base.slot b o q n hb hx
  obtain⟨sl',q2⟩:=g.slot b _ (Hv _ hb) q1;exact⟨sl',q2⟩
 ·obtain⟨o',q1⟩:=I'.base.there b o q hx
  by_cases z:b∈jH ((envOfC qual (au st) s.heap.objs.size f cdv)::outer)
  ·obtain⟨sl,q2⟩:=g.slot b o' z q1
   exact⟨_,q2⟩
  ·exact⟨o',g.keep b o' z (ne b o q).1 (ne b o q).2 q1⟩
 ·refine(I'.hok a o q).GL (λb u hb z=>keepH b u ?_ z) (λ_ z=>z) λ_ _ z=>z
  rcases hb with rfl | hb
  ·rw[q];simp
  ·rw[hb];simp
theorem uc {x qual:Str}{st:Stmt}{f:Addr}{fd:IW}{N ps:List Str}{k n:Nat}{F:En->Rs Fl}(Fn:L2.Fun K x qual st f fd)(S:cu N ps (au st))(hn:ps.length=n)
  (hbody:∀(cdv:Hs) (A:Iw) (outer:List Env) (s:Hr) (H:Hp) (E:XK),Room k (A.deeper (envOfC qual (au st) s.heap.objs.size f cdv)) →
   ∀xe,mL ((fD CX0 P w K mg base N qual (au st) f cdv A outer s H E).FS xe) (bF st) F):yL P w K mg base (k+1) f fd ps n (val n N.length F):=
 ⟨DD Fn S hn λcdv A outer s H E hr=>⟨F,hbody cdv A outer s H E hr _,λts _ _ h=>v7 h⟩,Al Fn S hn λcdv A outer s H E hr=>⟨F,hbody cdv A outer s H E hr,λts _ c h=>sT h⟩⟩
end
section
variable {X:Cx}{k n:Nat}{f:Addr}{fd:IW}{ps:List Str}{g:List T->Rs T}{pins:List (Addr×Obj)}{σ:L2.St}{H:Hp}{s:Hr}{us:List Hs}{vs:List V}{ts:List T}{O:Ow}{Q:VK}
theorem B6 (F:yL X.prog X.w X.K X.mg X.base k f fd ps n g)(hr:Room k X.A)(hb:Binds X.K fd ps [])(hps:ps.length=n)(I:Inv X pins σ H s)(r:Vals vs us)(rs:Reps X.K O H ts vs)(mt:∀a,O a->Mtb H a)(hl:ts.length=n)
  (hq:Post X H (g ts) λt H'=> ∀v,Rep X.K O H' t v->Q v H'):wC (model X.prog X.w) X.A (call (.ref f) us) (EP X pins σ Q) X.xe s:=by
 cases q2:g ts with
 | bad=>rw[q2]at hq;exact hq.elim
 | ok t=>
  rw[q2]at hq;refine zf (E:=E0) (dvs:=[]) (ds:=[]) F.h hr hb .nil xi I r ⟨ts,O,by simpa using rs,mt,hl,?_⟩
  rw[q2]
  exact λv H' s2 rr=>hq H' s2 v rr
 | err c=>
  rw[q2]at hq
  have hlen:us.length=ps.length:=by rw[<-r.length,<-rs.length,hl,hps]
  have hb':=hb s us I.kIn (by rw[IA];exact hlen)
  rw[IA]at hb';refine jr (iM (F.x X.A X.stack s H ⟨us,[]⟩ us vs O ts c (λr s'=>match r with | .error ev=>X.xe ev s' | _=>False) hr I.G5 hb' r rs mt hl q2 λev s' w=> ?_) λr s' hq=> ?_)
  ·obtain⟨ea,T,C,H',rfl,hmc,ho,hbare,hun,hok,sm2,hea,heo,fl,hT,hTo⟩:=w
   have I2:Inv X pins σ H' s':=I.GX ho hun hok hbare (λb z=>absurd z (by simp))
   exact hq pins _ _ ⟨ea,some T,C,σ,H',rfl,hmc,I2,λb o q _=>sm2 b o q,hea,λhex=>fQ I hex heo,fl,(λt zt=>by cases zt;exact⟨hT,λhex=>fQ I hex hTo⟩),λpp hpp=>⟨λzz=>(by have:=(I.pin pp hpp).1;rw[zz,heo]at this;cases this),λzz=>(by cases zz;have:=(I.pin pp hpp).1;rw[hTo]at this;cases this)⟩⟩
  ·cases r with
   | error ev=>exact hq
   | ok fl=>exact hq.elim
end
abbrev yO (X:Cx)(e:Expr)(f:En->Rs T):Prop:=DE X e (tP X f)
abbrev Gv (X:Cx)(e:List Expr)(f:En->Rs (List T)):Prop:=DA X e (tPA X f)
abbrev DTt (X:Cx)(e:Expr)(f:En->Rs Bool):Prop:=DT X e (wA X f)
abbrev BH (X:Cx)(s:Stmt)(F:En->Rs Fl):Prop:=DS X s (Gw X F)
section
variable {X:Cx}{a b c e:Expr}{es rest:List Expr}{fa fb fc:En->Rs T}{f g:En->Rs Bool}{fs:En->Rs (List T)}{pos p:Pos}{x:Str}
theorem Gf {es:List Expr}{x1:Nat}{pos:Pos}{f:En->Rs (List T)}(h:Gv X es f):yO X (.Tuple es x1 pos) (bQ f):=by
 intro pins s σ H Q I ⟨ρ,O,E,hq⟩;refine DV h pins s σ H Q I ?_
 obtain⟨ρ1,O1,E1,h1⟩:=d8 E hq;refine⟨ρ1,O1,E1,Post.mono h1 λts H1 s1 q vs r=> ?_⟩
 obtain⟨t',r',s',E',q'⟩:=q vs r;unfold gd at q'
 split at q'
 ·rename_i hz
  refine⟨by rw[<-r'.length];exact hz,λp hp=> ?_⟩
  exact q' _ (aT hp _) _ (dw hp (E'.fresh hp) r')
 ·exact q'.elim
theorem da_c {e:Expr}{es:List Expr}{f:En->Rs T}{g:En->Rs (List T)}(he:yO X e f)(hr:Gv X es g)(hs:autoParam (HX (e::es) X.env=(false,eval e X.env)::HX es X.env) u_):Gv X (e::es) (ae f g):=by
 intro pos pins s σ H Q I h;obtain⟨ρ,O,E,h⟩:=h;refine AK he hr hs pos pins s σ H Q I ?_
 obtain⟨ρ1,O1,E1,h1⟩:=aK E h;refine⟨ρ1,O1,E1,Post.mono h1 λt H' s q v r=> ?_⟩
 obtain⟨t',r',s',E',q'⟩:=q v r;refine⟨ρ,O,E',Post.mono q'.bind λts H2 s2 q2 vs rs=> ?_⟩
 exact q2 H2 (Same.refl H2) _ (Reps.GE (r'.same s2) rs)
theorem Gh {op:OM}{g:T->T->Rs T}(ho:OpT X (Jq op) g)(ha:yO X a fa)(hb:yO X b fb):yO X (.BinOp a op b pos) (o2 g fa fb):=by
 intro pins s σ H Q I ⟨ρ,O,E,hq⟩
 have h1:=aK E hq;refine vZ (iO (ha pins s σ H _ I h1) λv s1 hh_=> ?_)
 obtain⟨x,H1,I1,r1,t,rt,s',E',q1⟩:=hh_
 have h2:=aK (f:=fb) E' q1;refine iO (hb pins s1 σ H1 _ I1 h2) λu s2 hh_=> ?_
 obtain⟨y,H2,I2,r2,t2,rt2,s'',E'',q2⟩:=hh_;exact .of (ho pins s2 σ H2 O t t2 x y v u Q I2 (λp=>E''.fresh) (rt.same s'') rt2 r1 r2 q2)
theorem DL {op:Pr}{g:T->T->Rs T}(ho:OpT X (IM op) g)(ha:yO X a fa)(hb:yO X b fb)(hm:autoParam (JU op b=false) u_):DTt X (.Compare a [op] [b] pos) (tb (o2 g fa fb)):=by
 intro pins s σ H Q I ⟨ρ,O,E,hq⟩
 have hq':Post X H (o2 g fa fb ρ) λt H'=> ∀v,Rep X.K O H' t v->∃k,v= .bl k/\Q k H':=Post.mono hq.bind λt H' s' q v r=>by
  split at q
  ·exact⟨_,Rep.Gc.mp r,q H' (Same.refl H')⟩
  ·exact q.elim
 have h1:=aK E hq';refine y1 (iO (ha pins s σ H _ I h1) λv s1 ⟨x,H1,I1,r1,t,rt,s',E',q1⟩=> ?_) hm
 have h2:=aK (f:=fb) E' q1;refine iO (hb pins s1 σ H1 _ I1 h2) λu s2 hh_=> ?_
 obtain⟨y,H2,I2,r2,t2,rt2,s'',E'',q2⟩:=hh_;refine iO (.of (ho pins s2 σ H2 O t t2 x y v u _ I2 (λp=>E''.fresh) (rt.same s'') rt2 r1 r2 q2)) λd s3 hh_=> ?_
 obtain⟨z,H3,I3,r3,k,e,q3⟩:=hh_;subst e;cases r3;exact .of (II ⟨H3,I3,q3⟩)
theorem AF {st:Stmt}{rest:List Stmt}{F G:En->Rs Fl}(h1:BH X st F)(h2:mL X rest G):mL X (st::rest) (aD F G):=DSs.imp (yx h1 h2) λD σ H hh_=>by
 obtain⟨ρ,B,M,E,h⟩:=hh_;refine⟨ρ,B,M,E,?_⟩
 unfold aD at h
 cases q:F ρ with
 | bad=>rw[q]at h;exact h.elim
 | err c=>rw[q]at h;exact h
 | ok f=>
  rw[q,aH]at h
  cases f with
  | nx ρ'=>exact λσ' H' M' s' E' o'=>⟨ρ',B,M',E',h.later s' o'⟩
  | rt t=>exact h
  | bk ρ'=>exact h
  | ct ρ'=>exact h
theorem AD (ha:yO X a fa):BH X (.Return (some a) pos) (aP fa):=DS.imp (DM ha) λD σ H hh_=>by
 obtain⟨ρ,B,M,E,h⟩:=hh_;refine⟨ρ,OO B M,E.o,?_⟩
 unfold aP at h
 cases q:fa ρ with
 | bad=>rw[q]at h;exact h.elim
 | err c=>rw[q]at h;exact PostF.xa h
 | ok t=>
  rw[q,aH]at h;exact λH' s v r=>h v H' (SameO.of s) (r.less λ_ z=> .inl z)
theorem DN {f:En->Rs Bool}{A B:List Stmt}{F G:En->Rs Fl}(hc:DTt X c f)(ha:mL X A F)(hb:mL X B G):BH X (.If c A B pos) (gI f F G):=DS.imp (Gd hc ha hb) λD σ H hh_=>by
 obtain⟨ρ,B,M,E,h⟩:=hh_;refine⟨ρ,OO B M,E.o,?_⟩
 unfold gI at h
 cases q:f ρ with
 | bad=>rw[q]at h;exact h.elim
 | err c=>rw[q]at h;exact PostF.xa h
 | ok k=>
  rw[q,aH]at h;intro H' s
  have E':Ev X.K B M H' ρ σ:=E.same s
  cases k with
  | true=>refine L2.iteT ?_;exact⟨ρ,B,M,E',PostF.later (by simpa using h) (SameO.of s) λa z=> .inl z⟩
  | false=>refine L2.iteF ?_;exact⟨ρ,B,M,E',PostF.later (by simpa using h) (SameO.of s) λa z=> .inl z⟩
theorem Gb {elt tg iter:Expr}{ifs:List Expr}{scope:KY}{spos py:Pos}{N':List Str}{src:List (Option Nat)}{fi:En->Rs (List T)}{tgt:T->En->Rs En}{fc:En->Rs Bool}{fe:En->Rs T}(i:Nat){y:Str}
  (hc:X.calm=true) (S:LcScope X scope N' src) (hi:vK X tg iter fi)
  (block:∀cl C s₀ H₀ fp,yW (aZ X scope cl N' C s₀ H₀ fp) tg tgt/\ro (aZ X scope cl N' C s₀ H₀ fp) ifs (wA (aZ X scope cl N' C s₀ H₀ fp) fc)/\yO (aZ X scope cl N' C s₀ H₀ fp) elt fe)
  (hN:X.N.Nodup) (hiy:autoParam (X.N[i]? =some y) u_) (hy:autoParam (Loc X.env.scope y) y_) (hsw:autoParam (JT (.ListComp elt [⟨tg,iter,ifs,0⟩] scope pos) (some (.Name y py)) spos.line X.env=pure true) u_)
  (hf:autoParam (X.fn y=true\/X.env.scope.names.lookup y=some .local) r_) (hs:autoParam (∀x,Ic iter X.env x=pure x) t_) :
  BH X (.Assign [.Name y py] (.ListComp elt [⟨tg,iter,ifs,0⟩] scope pos) spos) (bN (eH fi src tgt fc fe) (gN i)):=by
 have hPG:∀cl C s₀ H₀ fp,PG (aZ X scope cl N' C s₀ H₀ fp) tg (yQ X tgt):=λcl C s₀ H₀ fp=>(block cl C s₀ H₀ fp).1
 have hPI:∀cl C s₀ H₀ fp,ro (aZ X scope cl N' C s₀ H₀ fp) ifs (tPT0 X.K fc):=λcl C s₀ H₀ fp pins s σ H Q I h=>(block cl C s₀ H₀ fp).2.1 pins s σ H Q I (tPT0.up (X:=aZ X scope cl N' C s₀ H₀ fp) h)
 have hPE:∀cl C s₀ H₀ fp,DE (aZ X scope cl N' C s₀ H₀ fp) elt (tP0 X.K fe):=λcl C s₀ H₀ fp pins s σ H Q I h=>(block cl C s₀ H₀ fp).2.2 pins s σ H Q I (tP0.up (X:=aZ X scope cl N' C s₀ H₀ fp) h)
 refine DS.imp (Gi (g:=yQ X tgt) (tc:=tPT0 X.K fc) (te:=tP0 X.K fe) (i:=i) hc S hi (λcl C s₀ H₀ fp=>⟨hPG cl C s₀ H₀ fp,hPI cl C s₀ H₀ fp,hPE cl C s₀ H₀ fp⟩) hN hiy hy hsw hf hs) λD σ H ⟨ρ,B,M,E,h⟩=>oX (sX (rO E h) λv H' z=> ?_)
 obtain⟨ρ',O,M',t,E',r,q⟩:=z;unfold gN at q
 split at q
 ·rename_i ρ2 e
  split at e
  ·rename_i hl
   cases e;exact q _ (E'.set hl r)
  ·cases e
 ·exact q.elim
theorem DW {n k:Nat}{f:Addr}{fd:IW}{ps:List Str}{g:List T->Rs T}(F:yL X.prog X.w X.K X.mg X.base k f fd ps n g)(hr:Room k X.A)(hm:X.mg x=some (.ref f))(hk:Kz X.K (.ref f)=true)(hb:Binds X.K fd ps [])(hps:ps.length=n)
  (hl:∀ρ ts,fs ρ= .ok ts->ts.length=n) (ha:Gv X (e::es) fs) (hg:Gl X x) (hdb:(x == ("__debug__" : Str))=false) (hn:br (e::es)=true):yO X (.Call (.Name x p) (e::es) [] pos) (cl g fs):=by
 intro pins s σ H Q I ⟨ρ,O,E,hq⟩
 have hq':Post X H (fs ρ >>= g) λt H'=> ∀v,Rep X.K O H' t v->Q v H':=hq
 refine sS (iz I hg hm ?_ hdb)
 have hs:=ha pos pins s σ H (λvs H'=> ∃ts,fs ρ= .ok ts/\Same H H'/\Reps X.K O H' ts vs) I ⟨ρ,O,E,by
  cases q:fs ρ with
  | bad=>rw[q]at hq';exact hq'.elim
  | err c=>rw[q]at hq';exact hq'
  | ok ts=>exact λH' s v r=>⟨ts,rfl,s,r⟩⟩
 have he:HX (e::es) X.env=(false,eval e X.env)::HX es X.env:=aO (by unfold br at hn;exact(IR.mp hn).1)
 have hpl:=fX (pos:=pos) (env:=X.env) hn;rw[he]at hs hpl ⊢;refine pY (P:=λh=>X.K.In h) hpl (PySem.W.keeps_K hk) (sR (iO hs λus s1 ⟨vs,H1,I1,r,ts,q,sm,rs⟩=>⟨I1.kIn,?_⟩))
 rw[q]at hq'
 have hq2:Post X H (g ts) λt H'=> ∀v,Rep X.K O H' t v->Q v H':=hq'
 exact B6 F hr hb hps I1 r rs (E.same sm).mtb (hl ρ ts q) (hq2.later sm)
end
structure UE (X:Cx)(e:Expr)(f:En->Rs T):Prop where
 h:yO X e f
structure UA (X:Cx)(e:List Expr)(f:En->Rs (List T)):Prop where
 h:Gv X e f
structure UT (X:Cx)(e:Expr)(f:En->Rs Bool):Prop where
 h:DTt X e f
structure US (X:Cx)(e:Stmt)(f:En->Rs Fl):Prop where
 h:BH X e f
structure yV (X:Cx)(e:List Stmt)(f:En->Rs Fl):Prop where
 h:mL X e f
section
variable {X:Cx}{a b e:Expr}{es rest:List Expr}{fa fb:En->Rs T}{f g:En->Rs Bool}{fs:En->Rs (List T)}{pos p:Pos}{st:Stmt}{sts A B:List Stmt}{F G:En->Rs Fl}
theorem pZ (h:QE X e fa):UE X e fa:=⟨h.h.d⟩
theorem uI (h:QA X es fs):UA X es fs:=⟨h.h.d⟩
theorem kS (h:QS X st F):US X st F:=⟨h.h.d⟩
theorem Ew (h:yJ X sts F):yV X sts F:=⟨h.h.d⟩
theorem A6 {x1:Nat}(h:UA X es fs):UE X (.Tuple es x1 pos) (bQ fs):=⟨Gf h.h⟩
theorem nQ (he:UE X e fa)(hr:UA X es fs)(hn:autoParam (cN e=true) u_):UA X (e::es) (ae fa fs):=⟨da_c he.h hr.h (aO hn)⟩
theorem A7 {op:OM}{g:T->T->Rs T}(ho:OpT X (Jq op) g)(ha:UE X a fa)(hb:UE X b fb):UE X (.BinOp a op b pos) (o2 g fa fb):=⟨Gh ho ha.h hb.h⟩
theorem Ez {op:Pr}{g:T->T->Rs T}(ho:OpT X (IM op) g)(ha:UE X a fa)(hb:UE X b fb)(hm:autoParam (JU op b=false) u_):UT X (.Compare a [op] [b] pos) (tb (o2 g fa fb)):=⟨DL ho ha.h hb.h hm⟩
theorem bH (h1:US X st F)(h2:yV X sts G):yV X (st::sts) (aD F G):=⟨AF h1.h h2.h⟩
theorem jt (h1:US X st F):yV X [st] F:=⟨AB h1.h⟩
theorem sU (ha:UE X a fa):US X (.Return (some a) pos) (aP fa):=⟨AD ha.h⟩
theorem u_if (hc:UT X e f)(ha:yV X A F)(hb:yV X B G):US X (.If e A B pos) (gI f F G):=⟨DN hc.h ha.h hb.h⟩
theorem wg {elt tg iter:Expr}{ifs:List Expr}{scope:KY}{spos py:Pos}{N':List Str}{src:List (Option Nat)}{fi:En->Rs (List T)}{tgt:T->En->Rs En}{fc:En->Rs Bool}{fe:En->Rs T}(i:Nat){y:Str}(hc:Cx.calm X=true)(S:LcScope X scope N' src)(hi:QI X tg iter fi)
  (block:∀(cl:List (Str×Addr)) (C:Addr) (s₀:Hr) (H₀:Hp) (fp:List Addr),QG (aZ X scope cl N' C s₀ H₀ fp) tg tgt/\Eo (aZ X scope cl N' C s₀ H₀ fp) ifs fc/\UE (aZ X scope cl N' C s₀ H₀ fp) elt fe) (hN:KW (Cx.N X)) (hiy:autoParam ((Cx.N X)[i]? =some y) u_) (hy:autoParam (L2.Loc (Lp (Cx.env X)) y) y_)
  (hsw:autoParam (JT (Lq elt [{ target:=tg,iter:=iter,ifs:=ifs,is_async:=0 }] scope pos) (some (Jz y py)) (NS spos) (Cx.env X)=pure true) u_) (hf:autoParam (Cx.fn X y=true\/Lz y (Od (Lp (Cx.env X)))=some NameKind.local) r_) (hs:autoParam (∀(x:Hs),Ic iter (Cx.env X) x=pure x) t_) :
  US X (Oe [Jz y py] (Lq elt [{ target:=tg,iter:=iter,ifs:=ifs,is_async:=0 }] scope pos) spos) (bN (eH fi src tgt fc fe) (gN i)):=
 ⟨Gb i hc S hi.h (λcl C s₀ H₀ fp=>⟨(block cl C s₀ H₀ fp).1.h,(block cl C s₀ H₀ fp).2.1.h,(block cl C s₀ H₀ fp).2.2.h⟩) hN hiy hy hsw hf hs⟩
end
structure rq (P:HZ)(w:ID)(K:Ho)(mg:Str->Option Hs)(base:Heap)(k:Nat)(x:Str)(n:Nat)(m:List T->Rs T):Prop where
 ex:∃f fd ps,mg x=some (.ref f)/\Kz K (.ref f)=true/\Binds K fd ps []/\ps.length=n/\yL P w K mg base k f fd ps n m
section
variable {P:HZ}{w:ID}{K:Ho}{mg:Str->Option Hs}{base:Heap}{x:Str}{st:Stmt}{ps:List Str}{k n:Nat}{F:En->Rs Fl}
theorem iJ (N:List Str)(H:ia K mg x st ps)
  (hbody:N.Nodup->∀(f:Addr) (cdv:Hs) (A:Iw) (outer:List Env) (s:Hr) (H:Hp) (E:XK),Room k (A.deeper (envOfC x (au st) s.heap.objs.size f cdv)) →
   ∀xe,yV ((fD CX0 P w K mg base N x (au st) f cdv A outer s H E).FS xe) (bF st) F) (S:autoParam (cu N ps (au st)) a_) (hn:autoParam (ps.length=n) u_):rq P w K mg base (k+1) x n (val n N.length F):=by
 obtain⟨f,fd,h⟩:=H;exact⟨f,fd,ps,h.mg,h.fn.kp,h.bd,hn,uc h.fn S hn λcdv A outer s H E hr xe=>(hbody S.nd f cdv A outer s H E hr xe).h⟩
end
theorem wj {X:Cx}{e:Expr}{es:List Expr}{fs:En->Rs (List T)}{pos p:Pos}{x:Str}{n k k':Nat}{g:List T->Rs T}(c:rq X.prog X.w X.K X.mg X.base k x n g)(hr:Room k' X.A)(ha:UA X (e::es) fs)(hk:autoParam (k<=k') s_)
  (hl:∀(ρ:En) (ts:List T),fs ρ= .ok ts->ts.length=n:=by repeat first | exact BD | refine BC ?_) (hn:autoParam (br (e::es)=true) u_) (hg:autoParam (Gl X x) u_) (h2:autoParam ((x == HQ "__debug__")=false) s_):UE X (.Call (.Name x p) (e::es) [] pos) (cl g fs):=by
 obtain⟨f,fd,ps,h1,h3,h4,h5,h6⟩:=c.ex;exact⟨DW h6 (hr.mono hk) h1 h3 h4 h5 hl ha.h hg h2 hn⟩
end Tr
namespace L2
open PySem PySem.Spec PyProof.Rows
theorem vf {P:HZ}{w:ID}{K:Ho}{mg mb:Str->Option Hs}{CX:vI}{k:Nat}{fa a:Addr}{fd:IW}{x:Str}{sp:Sp}{s₁:Hr}{vs:List Hs}{ns:List Int}
  (KX:K.In s₁.heap) (hns:s₁.heap.Ns Iz mg) (hb:s₁.heap.Ns L0 mb) (hbb:∀x:Str,x≠ "__name__"->mb x=Ir x) (hlim:s₁.heap.NoLimit) (hg:s₁.gens= #[])
  (ha:s₁.heap.get? a=some { cls:=.type "list",data:=.seq vs.toArray }) (hi:Lu vs ns) (hl:ns.length<=sizeLine) (hr:Room k callerA)
  (F:∀base:Heap,K.In base->base.Ns Iz mg->mi P w K mg base CX k fa fd [x] sp) (hbind:∀(s:Hr) (u:Hs),NJ s fd ⟨[u],[]⟩ [(x,u)])
  (hsp:∀H:Hp,Ea H->SqL K H a (ns.map V.int)->sp [.ref a] H (λv _=>v= .bl true) λ_ _ _=>False)
  (hCX:∀H e s',CX [] H s₁ (λ_ _ _=>False) e s'->False) :
  cC (model P w) callerA (.call (.ref fa) ⟨[.ref a],[]⟩) (λr s'=>r= .ok (.ret (.bool true))/\OldK s₁.heap s'.heap/\s'.os=s₁.os/\NH s'.gens) s₁:=by
 have rv:=jK hi
 have lenV:=hi.length
 -- from an abstract heap in which nothing but the script may be tracked
 have core:∀H:Hp,Ea H->SqL K H a (ns.map V.int)->HOk P w H s₁.heap->(∀b,H b≠none->b=a)->(H a≠none->K.lookup a=none) →
   cC (model P w) callerA (.call (.ref fa) ⟨[.ref a],[]⟩) (λr s'=>r= .ok (.ret (.bool true))/\OldK s₁.heap s'.heap/\s'.os=s₁.os/\NH s'.gens) s₁:=by
  intro H hO hS hok hA hK
  have base_of:∀{b:Addr} {o:Obj},s₁.heap.get? b=some o->H b=none->(o7 s₁.heap H).get? b=some o:=λe n=>yf e n
  have noA:∀{b:Addr} {o:Obj} {es:Array DictEntry} {ep:Nat},s₁.heap.get? b=some o->o.data= .dict es ep->H b=none:=λ{b o es ep} e d=>by
   cases q:H b with
   | none=>rfl
   | some u=>
    have e':b=a:=hA b (by rw[q];simp)
    subst e';rw[ha]at e;cases e
    have d':Data.seq vs.toArray _=Data.dict es ep:=d;cases d'
  have nsK:∀{b:Addr} {m:Str->Option Hs},s₁.heap.Ns b m->(o7 s₁.heap H).Ns b m:=λ{b m} ⟨o,es,ep,e,d,r⟩=>⟨o,es,ep,base_of e (noA e d),d,r⟩
  have hKb:K.In (o7 s₁.heap H):=λb o e=>base_of (KX b o e) (by
   cases q:H b with
   | none=>rfl
   | some u=>
    have e':b=a:=hA b (by rw[q];simp)
    subst e';rw[hK (by rw[q];simp)]at e;cases e)
  have hM:Mod K mg (o7 s₁.heap H):=⟨hKb,nsK hns,⟨mb,nsK hb,hbb⟩,let ⟨mc,h1,h2⟩:=hlim;⟨mc,nsK h1,h2⟩⟩
  have e0:sI P w K mg (o7 s₁.heap H) callerA [] s₁ H:=⟨rfl,hM,λb o e=>zW e,Lb (vj _ _),trivial,λb hb=>absurd (show b∈([]:List Addr)from hb) (by simp),hok,.of_eq hg⟩
  refine iM ((F _ hKb (nsK hns)).run callerA [] s₁ H ⟨[.ref a],[]⟩ [.ref a] [.ref a] _ _ hr e0 (hbind s₁ (.ref a)) (.cons rfl .nil) (hsp H hO hS)) λr s' h=> ?_
  cases r with
  | error e=>exact(hCX H e s' h).elim
  | ok fl=>
   cases fl with
   | next=>exact JH h
   | brk=>exact JH h
   | cont=>exact JH h
   | ret u=>
    obtain⟨v,H',os,bare,un,hok',r',q⟩:=h
    have q':v= .bl true:=q;subst q';obtain rfl:u=Js true:=r';refine⟨rfl,OldK.of_keep λb o e=> ?_,os,bare⟩
    cases q:H b with
    | none=>exact un.keep b o e q (by intro z;exact absurd (show b∈([]:List Addr)from z) (by simp)) (by simp)
    | some u=>
     rcases hO b with z | ⟨ob,xs,z⟩
     ·rw[q]at z;cases z
     ·have z2:=un.frzs b ob _ z
      obtain⟨e1,_⟩:=hok b _ z;obtain⟨e2,_⟩:=hok' b _ z2;rw[e]at e1;cases e1;exact e2
 cases hk:K.lookup a with
 | some o=>
  -- the script is one of the module's own objects
  have e:=KX a o hk;rw[ha]at e;cases e
  refine core (λ_=>none) (λ_=> .inl rfl) (.inr ⟨_,vs.toArray,_,hk,rfl,rfl,rfl,by rw[HL,lenV];exact hl,by simpa using rv⟩) (λb u z=>by have z':(none:Option HO)=some u:=z;cases z') (λb z=>absurd rfl z) λz=>absurd rfl z
 | none=>
  refine core (λb=>if b=a then some (.frz { cls:=.type "list",data:=.seq vs.toArray } (.lst (ns.map V.int)))else none) (λb=> ?_) (.inl (.inr ⟨{ cls:=.type "list",data:=.seq vs.toArray },if_pos rfl⟩)) (λb u z=> ?_) (λb z=> ?_) λ_=>hk
  ·by_cases hb:b=a
   ·exact .inr ⟨_,_,if_pos hb⟩
   ·exact .inl (if_neg hb)
  ·by_cases hb:b=a
   ·have z':=(if_pos hb).symm.trans z
    cases z';subst hb;exact⟨ha,by rw[Hw];exact hl,vs,_,rv,ha⟩
   ·have z':=(if_neg hb).symm.trans z
    cases z'
  ·by_cases hb:b=a
   ·exact hb
   ·exact absurd (if_neg hb) z
end L2
namespace Tr
open PySem PySem.Spec PyProof.Rows L2 PySem.W PySem.Calls
abbrev BE (q:HZ)(loose:List Str)(XP:(Str->Option Hs)->Heap->Prop)(YP:ID->Heap->Prop)(r:RowW)(d:DefRec):Prop:=
 ∀(w:ID) (s₀ s₁:Hr) (mg mb:Str->Option Hs),Ground q loose r.records XP w s₀ mg mb s₁.heap->YP w s₁.heap->∀(fa:Addr) (o:Obj) (pm cd doc dV kV:Hs),s₁.heap.get? fa=some o →
  o.data= .func { docDef d.name d.params d.body d.scope pm cd doc with defaults:=dV,kwdefaults:=kV }->s₁.heap.CodeRec cd d.name->Dflts mg s₁.heap d.params [] dV kV->mg d.name=some (.ref fa)->s₁.gens= #[] →
  ∀(args:List WData) (vals:List Hs) (as:List Addr),r.claim.pre args=true->WData.layableAll args=true->ReadsAllW r.records (classAt s₀.heap) s₁.heap vals args as->WellAll w.params s₁.heap vals args->(∀a∈as,(a == sysModules)=false) →
   wC (model r.prog w) callerA (PySem.call (.ref fa) vals) (λv s'=>GoodWG r.claim (classAt s₀.heap) (OH s₀.heap) args s₁ (.ok (.ret v)) s') (λe s'=>GoodWG r.claim (classAt s₀.heap) (OH s₀.heap) args s₁ (.error e) s') s₁
theorem walk_C {l:OpenLaw}{n k:Nat}{q:HZ}{loose:List Str}{XP:(Str->Option Hs)->Heap->Prop}{d:DefRec}{S:rk}{top:Nat->Stmt}{CX:vI}{sp:Frag->Sp}{x:Str}
  (hn:l.most=some n) (hn2:n<=sizeLine) (hdf:d.params.defaults= []) (hr:Room k callerA)
  (F:∀(w:ID) (K:Frag) (mg:Str->Option Hs) (fa:Addr) (h:Heap),K.In h->xp S K=v8 S top->h.Ns Iz mg->mg d.name=some (.ref fa) →
   ∃fd:IW,(∀(s:Hr) (u:Hs),NJ s fd ⟨[u],[]⟩ [(x,u)])/\∀base:Heap,K.In base->base.Ns Iz mg->mi l.prog w K mg base CX k fa fd [x] (sp K))
  (hsp:∀(K:Frag) (H:Hp) (a:Addr) (ns:List Int),ns.length<=n->Ea H->SqL K H a (ns.map V.int)->sp K [.ref a] H (λv _=>v= .bl true) λ_ _ _=>False)
  (hCX:∀(H:Hp) (s:Hr) (e:Hs) (s':Hr),CX [] H s (λ_ _ _=>False) e s'->False) :
  BE q loose XP (hookC S top).says l.row.toRowW d:=by
 intro w s₀ s₁ mg mb G Y fa o pm cd doc dV kV ho hd hcd hD hmg hg args vals as hpre hlay hrd hwl hlo;obtain rfl:dV= .none:=Dflts.none hD hdf;obtain rfl:kV= .none:=Dflts.noKw hD;obtain⟨a,vs,ns,rfl,rfl,hobj,hints,hlen⟩:=Att.script_of hn hpre hwl;obtain⟨K,KX,e⟩:=Y;obtain⟨fd,hb,hF⟩:=F w K mg fa _ KX e G.T.g hmg;refine jr (iM (vf KX G.T.g G.T.b G.T.builtins G.T.nolimit hg hobj hints (H0 hlen hn2) hr hF hb (λH hO hS=>hsp K H a ns hlen hO hS) λH e s'=>hCX H s₁ e s') λr s' hq=> ?_)
 obtain⟨rfl,h2,h3,h4⟩:=hq;exact⟨.inl ⟨.bool true,.bool true,[],rfl,λ_=>rfl,.bool true,Att.post_true l _,λ_=>⟨Pa,λ_ hm=>(nomatch hm)⟩⟩,h2,h3,h4⟩
theorem cal0:Cal ⟨.builtin "claim.caller" {},none,none,[],none⟩:=rfl
theorem wu {prog:HZ}{w:ID}{t:Sem Fin}{s:Hr}{R:LJ->Hr->Prop}(hk:BO<=s.toks)(hreg:s.asleep)
  (h:wC (model prog w) callerA t (λfin s'=> ∃f,fin= .done f/\(R (.ok f) s'/\KR s'.gens=false)) (λe s'=>R (.error e) s'/\KR s'.gens=false) s) :
  ∃n r s' s'',runN (denote table) prog w n s ⟨t,.builtin "claim.caller" {},default,[]⟩= .halted (outcomeOf r) s' ∧
   schedN (denote table) prog w n (.single s ⟨t,.builtin "claim.caller" {},default,[]⟩)= .halted (outcomeOf r) s'/\s'.forget=s''.forget/\R r s'':=by
 have z:=h hk ⟨.builtin "claim.caller" {},none,none,[],none⟩ default caller_in cal0
 obtain⟨n,r,s₁,s₂,hs,hn,hfo,hR⟩:=wp_halts_full (M:=model prog w) (R:=R) hreg (M6 (model prog w) _ t (λfin p' s' q=>by
  obtain⟨f,rfl,q⟩:=q;exact(show Sem.finPost (model prog w) _ (λr s'=>R r s'/\KR s'.gens=false) (.done f) p' s' from q)) (λ_ _ _ q=>q) default s z)
 exact⟨n,r,s₂,s₁,hn,hs,hfo,hR⟩
theorem holds_C {r:OpenRow}{q:HZ}{loose:List Str}{Xt:Hr->Bool}{XP:(Str->Option Hs)->Heap->Prop}{α:Type}{Yf:Hr->α}{Ya:ID->α}{YP:ID->Heap->Prop}{d:DefRec}{N:Nat}
  (left:LeftO r.prog q loose Xt Yf Ya N) (hY:∀w s,Yf s=Ya w->YP w s.heap) (hYk:∀w h h',YP w h->(∀b o,h.get? b=some o->h'.get? b=some o)->YP w h')
  (hX:∀s,Xt s=true->XP (s.heap.nsMap Iz) s.heap) (hXk:∀mg h h',XP mg h->(∀b o,h.get? b=some o->h'.get? b=some o)->XP mg h')
  (hdef:defOf q r.name=some (d,[])) (hp:r.prog.theDef r.name=some (d.params,d.body,d.scope)) (hk:kwWritten? d.params.kwonlyargs d.params.kw_defaults=some []) (hRf:∀s,Xt s=true->RecFacts r.records s.heap) (hwr:(!r.writes||r.records.isEmpty)=true)
  (k1:r.wellSaid=true) (ok:(chainsOk q&&opensWell r.prog&&(frees r.toRowW&&r.within.isEmpty))=true) (hb:r.prog.bare) (hw:r.toRowW.promised)
  (hT0:∀w s,Yf s=Ya w->BO<=s.toks) (call:BE q loose XP YP r.toRowW d):r.Holds:=by
 obtain⟨ok1,k5⟩:=IR.mp ok;obtain⟨hch,o1⟩:=IR.mp ok1;obtain⟨k5,k6⟩:=IR.mp k5;obtain⟨hsame,hu,ha,hap,hm⟩:=frees_parts k5;refine⟨k1,hw,⟨hb,o1,by show r.makers.map _= [];rw[hm];rfl⟩,hw.witness,λw=>⟨(left.behind hX hch w).1,λs' hs'=> ?_⟩⟩
 obtain⟨s₀,hf,hg0,s,hT,hz,hgens,hg,G00,y⟩:=(left.behind (XP:=λmg h=>XP mg h/\RecFacts r.records h) (λs hs=>⟨hX s hs,hRf s hs⟩) hch w).2 s' hs'
 have G0:Ground q loose [] XP w s (s.heap.nsMap Iz) (s.heap.nsMap L0) s.heap:={ G00 with X:=G00.X.1 }
 have RF:=G00.X.2;refine⟨s₀,hf,hg0,s,hT,λn hn=> ?_,RF.1,RF.2.1,?_⟩
 ·obtain rfl:n=r.name:=by split at hn <;> simp_all
  exact pinned_of_view hg G0 hdef hp hk
 have hgens:s.gens= #[]:=Array.eq_empty_of_size_eq_zero (beq_iff_eq.mp hgens)
 have G:Ground q loose r.records XP w s _ _ s.heap:=RF.ground G0;intro args hpre hlay ord hord;obtain⟨⟨vs,s₁⟩,hlaid⟩:=MI.mp (layAllW_isSome (P:=w.params) (ord:=ord) G.has args r.args s (pre_splitW hpre).1)
 have keeps:=layAllW_keeps _ _ _ hlaid
 have htk:s.toks<=s₁.toks:=(layAllW_grows _ _ _ hlaid).toks
 have hal:=layAllW_rest _ _ _ hlaid;obtain⟨as,hrd,hin,hold⟩:=reads_layAllW hord _ _ _ hlaid hlay s₁.heap (λ_ _ e=>e)
 have L:Laid r.records w s s₁ args vs as:=⟨⟨ord,hord,hlaid⟩,hrd,hin,hold,keeps,hal.1.trans hgens,hal.2.2.1⟩
 have G₁:=G.keeps hXk keeps
 have hi:=ident_freeW hu ha hap
 have hwi:r.claim.within= []:=Nb.mp k6;obtain⟨fa,o,pm,cd,doc,dV,kV,h1,h2,h3,h4,h5⟩:=G₁.fn hdef
 have body:=call w s s₁ _ _ G₁ (hYk _ _ _ (hY w s y) keeps) fa o pm cd doc dV kV h2 h3 h4 h5 (defOf_name hdef▸h1) L.gens args vs as hpre hlay L.reads L.well (L.low G.low)
 have fin:∀{res:LJ} {t:Hr},GoodWG r.toRowW.claim (classAt s.heap) (OH s.heap) args s₁ res t->(r.toRowW.claim.Ends s args vs s₁ res t/\t.os=s.os/\(r.writes=true->namesKept r.prog r.keeps s.heap t.heap/\∀x∈r.records,∀a,classAt s.heap x.1=some a->recordClass t.heap a x.1 (x.2.map (·.1))=true))/\KR t.gens=false:=λg=>by
  have z:=g.laid (c:=r.toRowW.claim) hsame hwi hi L;exact⟨⟨z.1,z.2.1,λq=>⟨namesKept_of hT hg r.keeps keeps g.2.1.old,noTable hwr q⟩⟩,leftWithCleanup_false_of_bare z.2.2⟩
 have tree:wC (model r.prog w) callerA (do match <-nsGet mainNs r.name with | some f=>do ret (<-PySem.call f vs) | none=>unsupported "claim.caller:no-such-global")
   (λfin t=> ∃f,fin= .done f/\((r.toRowW.claim.Ends s args vs s₁ (.ok f) t/\t.os=s.os/\(r.writes=true->namesKept r.prog r.keeps s.heap t.heap/\∀x∈r.records,∀a,classAt s.heap x.1=some a->recordClass t.heap a x.1 (x.2.map (·.1))=true))/\KR t.gens=false))
   (λe t=>(r.toRowW.claim.Ends s args vs s₁ (.error e) t/\t.os=s.os/\(r.writes=true->namesKept r.prog r.keeps s.heap t.heap/\∀x∈r.records,∀a,classAt s.heap x.1=some a->recordClass t.heap a x.1 (x.2.map (·.1))=true))/\KR t.gens=false) s₁:=by
  refine aB (wpAny_nsGet G₁.T.g ?_)
  rw[h1];exact aR (cq body (λv t g=>a6 ⟨_,rfl,fin g⟩) λe t g=>fin g)
 obtain⟨k,res,t,t',hrun,hsched,hfo,hcase,hos,hkp⟩:=wu (R:=λres t=>r.toRowW.claim.Ends s args vs s₁ res t/\t.os=s.os/\(r.writes=true->namesKept r.prog r.keeps s.heap t.heap/\∀x∈r.records,∀a,classAt s.heap x.1=some a->recordClass t.heap a x.1 (x.2.map (·.1))=true)) (H0 (hT0 w s y) htk) (Shared.asleep_of_life hal.2.2.2 hz) tree
 obtain⟨eh,_,_,eo,_⟩:=Shared.forget_eq hfo
 have hcase:=hcase.congr eh;rw[<-eh]at hkp;rw[<-eo]at hos
 have hlife:t.heap.life=s.heap.life:=(runN_life _ _ _ hrun).trans hal.2.2.2;refine⟨vs,s₁,hlaid,k,_,t,hsched,?_,(λ_ i x hx=>by rw[hgens]at hx;simp at hx),hkp,by rw[hlife],Shared.rest_eq hos⟩
 rcases hcase with⟨v,rfl,d1,d2,d3,d4,d5⟩ | ⟨e,ob,cls,rfl,d1,d2,d3,d4,d5⟩
 ·exact .inl ⟨v,rfl,d1,d2,d3,λb o y _=>d4 b o y,d5⟩
 ·exact .inr ⟨e,ob,cls,rfl,d1,d2,d3,d4,λb o y _=>d5 b o y⟩
end Tr
namespace Tr
open PySem PySem.Spec PyProof.Rows L2 PySem.NumText
theorem Af (x:Kb)(u:Tok):(int_private% "intFromObject") (.str x u)=(int_private% "intFromText") (.str x u) (O4 x) 10:=by
 have f6:typeOf (.str x u)=pure (.type "str"):=rfl
 have g1:PH (.str x u) (Ja "__int__")=pure none:=by unfold PH MX;rw[f6,pure_bind,W.KIN.str_int];rfl
 have g2:MX (.str x u) (Ja "__index__")=pure none:=by unfold MX;rw[f6,pure_bind,W.KIN.str_idx]
 have g3:MX (.str x u) (Ja "__trunc__")=pure none:=by unfold MX;rw[f6,pure_bind,W.KIN.str_trunc]
 refine Eq.trans (show _=(PH (.str x u) (Ja "__int__") >>= _)from rfl) ?_
 rw[g1,pure_bind];refine Eq.trans (show _=(MX (.str x u) (Ja "__index__") >>= _)from rfl) ?_
 rw[g2,pure_bind];refine Eq.trans (show _=(MX (.str x u) (Ja "__trunc__") >>= _)from rfl) ?_
 rw[g3,pure_bind]
 rfl
theorem yb (x:Kb)(u:Tok):Builtin.«int.__new__» ⟨[.type "int",.str x u],[]⟩=(do let v <-(int_private% "intFromText") (.str x u) (O4 x) 10;ret v):=by
 have f7:isType (.type "int")=pure true:=rfl;rw[<-Af x u];unfold Builtin.«int.__new__»;simp only[f7,F.conv_sub_int,F.madeHere_int,pure_bind,Bool.not_true,Jb,if_false]
 rfl
theorem sQ {M:My}{A:Iw}{E:Hs->Hr->Prop}{s:Hr}{own:List String}{e:Hs}{Q:Unit->Hr->Prop}(h:Q () s):wC M A (markTheRefusal own e) Q E s:=λk Γ p hΓ z=>by
 have hc:NO own (((Γ.code,p)::Γ.below).map (·.1))=false:=by
  have tr:∀(A B C:Bool),A=true->((!A&&B)&&C)=false:=by intro A B C h;rw[h];rfl
  exact tr _ _ _ z
 unfold markTheRefusal;rw[Sem.wp_bind']
 show N6 M Γ (if NO own (((Γ.code,p)::Γ.below).map (·.1))=true then _ else _) _ _ p s
 rw[hc];exact h
section
variable {prog:HZ}{w:ID}{A:Iw}{E:Hs->Hr->Prop}{s:Hr}{x:Kb}{u:Tok}
theorem vU {Q:Hs->Hr->Prop}(hl:(Qq x).length<=640)(hn:NX x=none)(hr:(reprText x).length<=sizeLine)(hh:A.handled=none)
  (h:∀h' tk e,Heap.NewExc s.heap h' e "ValueError"->E (.ref e) { s with heap:=h',toks:=tk }):wC (model prog w) A ((int_private% "intFromText") (.str x u) (O4 x) 10) Q E s:=by
 have hb:(int_private% "bytesOf?") (.str x u)=pure none:=rfl
 show wC _ _ (if (Qq x).length<=640 then _ else _) _ _ s
 rw[if_pos hl,pure_bind]
 dsimp only
 have hz:∀(y z:Kb),y.length<=100->(y++⟨z.cps.extract 0 200⟩:Kb).length<=sizeLine:=λy z hy=>by
  have h1:(⟨z.cps.extract 0 200⟩:Kb).length<=200:=by show(z.cps.extract 0 200).size<=200;simp;omega
  rw[PySem.Str.length_append,IZ];omega
 have h100:(Ja (toString "invalid literal for int() with base " ++toString 10++toString ": ")).length<=100:=by decide+kernel
 rcases read0 x hl with⟨m,h1,_⟩ | ⟨_,h2⟩
 ·rw[hn]at h1;cases h1
 ·rcases h2 with h2 | ⟨i,h2,h3⟩
  ·have h2':(int_private% "readNumeral") 0 10 (List.takeWhile (λx=>x != 0) (O4 x))=_:=h2
   rw[h2']
   dsimp only
   refine aB (KQ hb ?_)
   simp only[Option.isSome_none,LC,Jb,if_false];refine aB (Lf ?_)
   refine aB (KQ hb ?_)
   dsimp only
   refine aB (PZ ?_ hr)
   refine aB (wpAny_mkStr ?_ (hz _ _ h100))
   refine aB (O5 Og (λh' e me=> ?_) (by rw[IZ];exact(by decide:1<=16777216)))
   refine aR (sQ ?_)
   exact .of (Oh hh (h h' _ e me.newExc))
  ·have h2':(int_private% "readNumeral") 0 10 (List.takeWhile (λx=>x != 0) (O4 x))=_:=h2
   rw[h2']
   dsimp only
   rw[if_neg h3];refine aB (Lf ?_)
   refine aB (KQ hb ?_)
   dsimp only
   refine aB (PZ ?_ hr)
   refine aB (wpAny_mkStr ?_ (hz _ _ h100))
   refine aB (O5 Og (λh' e me=> ?_) (by rw[IZ];exact(by decide:1<=16777216)))
   refine aR (sQ ?_)
   exact .of (Oh hh (h h' _ e me.newExc))
end
theorem uJ (x:Kb)(u:Tok):∃K:Hs->Sem Fin,Builtin.«type.__call__» ⟨[.type "int",.str x u],[]⟩=(holding [.builtin "int.__new__"] (call (.builtin "int.__new__") [.type "int",.str x u] []) >>= K):=by
 obtain⟨c,tl,hm⟩:=Mq.mro
 have h1:=Mq.notType
 have h2:=Mq.canCreate;unfold Builtin.«type.__call__»
 dsimp only
 simp only[h1,h2,F.typeCall_int_1,hm,Mq.made,pure_bind,Jb,if_false,Po];exact⟨_,rfl⟩
section
variable {prog:HZ}{w:ID}{A:Iw}{E:Hs->Hr->Prop}{s:Hr}{x:Kb}{u:Tok}
theorem lZ {id:String}{args:Args}{b:Builtin}{R:LJ->Hr->Prop}(hb:OZ table id=some b)
  (h:wC (model prog w) (A.under (.builtin id args)) (b args) (λfin s'=>match fin with | .done f=>R (.ok f) s' | .again c'=>c'.quiet=true/\cC (model prog w) A c' R s') (λe s'=>R (.error e) s') s) :
  cC (model prog w) A (.builtin id args) R s:=by
 refine cW ?_
 show wC _ _ (match OZ table id with | some b=>b args | none=>unsupported ((withoutEnding? id "#data").getD id)) _ _ s
 rw[hb];exact h
theorem yG {id:String}{args:Args}{b:Builtin}{R:LJ->Hr->Prop}(hq:plainId id=true)(hb:OZ table id=some b)(hc:K5 id args=pure ())
  (h:wC (model prog w) (A.under (.builtin id args)) (b args) (λfin s'=>match fin with | .done f=>R (.ok f) s' | .again c'=>c'.quiet=true/\cC (model prog w) A c' R s') (λe s'=>R (.error e) s') s) :
  cC (model prog w) A (.call (.builtin id) args) R s:=by
 refine cW ?_
 show wC _ A.in1 (do K5 id args;again (.builtin id args)) _ _ s
 exact aB (KQ hc (a6 (K4 (LZ hq args) (lZ hb h))))
theorem uH {Q:Hs->Hr->Prop}(hl:(Qq x).length<=640)(hn:NX x=none)(hr:(reprText x).length<=sizeLine)(hh:A.handled=none)
  (h:∀h' tk e,Heap.NewExc s.heap h' e "ValueError"->E (.ref e) { s with heap:=h',toks:=tk }):wC (model prog w) A (call (.type "int") [.str x u]) Q E s:=by
 refine jr (cW ?_)
 show wC _ _ (callAny (.type "int") _) _ _ _
 refine a6 (K4 (Mm _ (by decide+kernel)) (lZ Pn ?_))
 obtain⟨K,hK⟩:=uJ x u;rw[hK];refine aR (cg (jr (yG Mq.plain F.entry_int_new (F.newCall_int_1 _) ?_)))
 rw[yb];exact aR (vU hl hn hr (by exact hh) λh' tk e me=>h h' tk e me)
end
def Ed (h:Heap)(C:Hs)(e:Addr):Option Addr->Prop
 | none=> ∃oe vs,h.get? e=some oe/\oe.cls=C/\oe.data= .fields vs/\vs[1]? =some .none
 | some T=>T≠e/\∃oe vs,h.get? e=some oe/\oe.cls=C/\oe.data= .fields vs/\vs[1]? =some (.ref T)/\∃oT ts,h.get? T=some oT/\oT.data= .fields ts/\ts[3]? =some .none
structure uD (fs:List Addr)(C:Hs)(e:Addr)(T:Option Addr)(h h':Heap)(T':Addr):Prop where
 flt:Ed h' C e (some T')
 new:T=some T'\/h.get? T'=none
 keep:∀b o,b∉fs->b≠e->T≠some b->h.get? b=some o->h'.get? b=some o
 slot:∀b o,b∈fs->h.get? b=some o->∃sl,h'.get? b=some { o with slots:=sl }
section
variable {M:My}{A:Iw}{E:Hs->Hr->Prop}{s:Hr}
theorem C1 {base:Heap}{env:Env}{outer:List Env}{L e:Addr}{C:Hs}{T:Option Addr}{Q:Unit->Hr->Prop}(hfr:A.frames=some (env::outer))(hl:s.heap.FunFrames base (env::outer))(hf:env.frame=some L)
  (F:Ed s.heap C e T) (h:∀h' T',uD ((env::outer).filterMap (·.frame)) C e T s.heap h' T'->Q () { s with heap:=h' }) :
  wpAny M A (KP (.ref e) env) (λ_ s'=>wpAny M A (setFlight (.ref e) none) Q E s') E s:=by
 generalize hB:L1 s.heap (e::(T.toList++(env::outer).filterMap (·.frame)))=B
 have bm:∀b,b∈e::(T.toList++(env::outer).filterMap (·.frame))->B.get? b=none:=λb m=>by rw[<-hB];exact K1 _ m
 have hl':s.heap.FunFrames B (env::outer):=dZ hl λa ha=>bm a (Hv _ (HP _ ha))
 have hst:B.StaysIn s.heap:=λb o q=>by rw[<-hB]at q;exact Lh _ q
 have hen:B.get? e=none:=bm e HD
 have main:∀h',Heap.Left B (env::outer) e C s.heap h'->Q () { s with heap:=h' }:=λh' ⟨x1,x2,⟨oe,vs,T',oT,ts,he,hc,hd,h1,hnT,hTe,hT,hdT,h3⟩,x4⟩=>by
  refine h h' T' ⟨⟨hTe,oe,vs,he,hc,hd,h1,oT,ts,hT,hdT,h3⟩,?_,λb o n1 n2 n3 q=> ?_,λb o m q=> ?_⟩
  ·cases q:s.heap.get? T' with
   | none=>exact .inr rfl
   | some o=>
    left
    by_cases z:T'∈e::(T.toList++(env::outer).filterMap (·.frame))
    ·rcases HB.mp z with z | z
     ·exact absurd z hTe
     ·rcases HA.mp z with z | z
      ·cases T with
       | none=>simp at z
       | some t=>simp at z;rw[z]
      ·obtain⟨_,o',ho',hnf⟩:=x2.mem z
       rw[hT]at ho';cases ho';exact absurd hdT (hnf ts)
    ·rw[<-hB,JG _ q z]at hnT;cases hnT
  ·refine x1 b o ?_
   rw[<-hB];refine JG _ q λz=> ?_
   rcases HB.mp z with z | z
   ·exact n2 z
   ·rcases HA.mp z with z | z
    ·cases T with
     | none=>simp at z
     | some t=>simp at z;exact n3 (by rw[z])
    ·exact n1 z
  ·obtain⟨_,o',ho',hnf⟩:=hl.mem m
   rw[q]at ho';cases ho';exact x4 b o q hnf
 cases T with
 | none=>
  obtain⟨oe,vs,he,hc,hd,h1⟩:=F;unfold KP;simp only[hf];refine Hq (Jg he hd h1 ?_)
  rw[if_neg (by decide)]
  refine MD hfr hl' hf he hst hen hd (Ij.mp h1).1 λh' x=>main h' ?_
  rw[hc]at x;exact x
 | some t=>
  obtain⟨hte,oe,vs,he,hc,hd,h1,oT,ts,hT,hdT,h3⟩:=F
  have hnT:B.get? t=none:=bm t (Hv _ (IG _ (by simp)))
  unfold KP;simp only[hf];refine Hq (Jg he hd h1 ?_)
  rw[if_pos (show(Io t != Ig)=true from by simp)]
  refine Hq (Jg hT hdT h3 ?_)
  rw[if_neg (show ¬((Ig == rawInt L)=true)from by simp[rawInt])]
  refine Hq (KA hT hdT (Ij.mp h3).1 ?_)
  have other:∀b,b≠t->(s.heap.update t (Kd (·.setIfInBounds 3 Ig))).get? b=s.heap.get? b:=λb hb=>Jt _ _ (KF hb)
  have noRec:∀b o,s.heap.get? b=some o->(∀vs,o.data≠ .fields vs)->b≠t:=λb o hb hnf q=>by
   rw[q,hT]at hb;injection hb with hb;subst hb;exact hnf ts hdT
  refine MD hfr (hl'.of_keeps λb o hb hnf=>⟨o,(other b (noRec b o hb hnf)).trans hb,rfl⟩) hf ((other e (KF hte)).trans he)
   (λb o hbo=>(other b λq=>by rw[q,hnT]at hbo;cases hbo).trans (hst b o hbo)) hen hd (Ij.mp h1).1
   λh' x=>main h' ?_
  obtain⟨x1,x2,x3,x4⟩:=x;rw[hc]at x3;exact⟨x1,x2,x3,λb o hb hnf=>x4 b o ((other b (noRec b o hb hnf)).trans hb) hnf⟩
end
section
variable {X:Cx}{pins:List (Addr×Obj)}{σ:L2.St}{H:Hp}{s:Hr}{h':Heap}
theorem Inv.G7 {C:Hs}{e T':Addr}{T:Option Addr}(I:Inv X pins σ H s)(hst:X.stack=X.env::X.outer)(hfe:X.env.frame=some X.env.locals)(hcl:∀x c,X.env.cells.lookup x≠some c)(hex:X.ex= [])
  (g:uD ((X.env::X.outer).filterMap (·.frame)) C e T s.heap h' T') (he:H e=none) (heo:X.s₀.heap.get? e=none) (hT:∀t,T=some t->H t=none/\X.s₀.heap.get? t=none) (hp:∀p∈X.pn++pins,p.1≠e/\T≠some p.1) :
  Inv X pins σ H { s with heap:=h' }:=by
 have mem:∀b,b∈(X.env::X.outer).filterMap (·.frame)↔b=X.env.locals\/b∈X.fs:=λb=>by
  rw[IQ,hfe];exact HB
 have out:∀b o,X.s₀.heap.get? b=some o->b≠X.env.locals:=λb o q z=>by
  have h1:=HH q
  have h2:=I.ok.above;rw[z]at h1;exact absurd (HM h1 h2) (Ia _)
 have ne:∀b o,X.s₀.heap.get? b=some o->b≠e/\T≠some b:=λb o q=>⟨λz=>(by subst z;rw[heo]at q;cases q),λz=>(by rw[(hT b z).2]at q;cases q)⟩
 have fr:∀b,b∈(X.env::X.outer).filterMap (·.frame)->H b=none:=λb z=>I.GH b (by rw[hst];exact z)
 have keepH:∀b u,H b≠none->s.heap.get? b=some u->h'.get? b=some u:=λb u hb q=>by
  refine g.keep b u (λz=>hb (fr b z)) (λz=>hb (by rw[z];exact he)) (λz=>hb (hT b z).1) q
 refine⟨I.ok,I.os,I.bare,⟨λb o q n hb hx=> ?_,λb o q n hb hx=> ?_,I.base.free,λb o q hx=> ?_,I.base.tups,I.base.frzs,I.base.tbls⟩,?_,λx c z=>absurd z (hcl x c),I.free,I.freeC,λp hp'=> ?_,λa o q=> ?_,I.len⟩
 ·exact g.keep b o (λz=>((mem b).mp z).elim (out b o q) hb) (ne b o q).1 (ne b o q).2 (I.base.keep b o q n hb hx)
 ·obtain⟨sl,q1⟩:=I.base.slot b o q n hb hx
  obtain⟨sl',q2⟩:=g.slot b _ ((mem b).mpr (.inr hb)) q1;exact⟨sl',q2⟩
 ·obtain⟨o',q1⟩:=I.base.there b o q hx
  by_cases z:b∈(X.env::X.outer).filterMap (·.frame)
  ·obtain⟨sl,q2⟩:=g.slot b o' z q1
   exact⟨_,q2⟩
  ·exact⟨o',g.keep b o' z (ne b o q).1 (ne b o q).2 q1⟩
 ·obtain⟨m,⟨o,es,ep,ho,hd,r⟩,hl⟩:=I.loc
  obtain⟨sl,q2⟩:=g.slot X.env.locals o ((mem _).mpr (.inl rfl)) ho;refine⟨m,⟨_,es,ep,q2,hd,r⟩,λi x v a1 a2 a3=> ?_⟩
  obtain⟨u,ru,lk⟩:=hl i x v a1 a2 a3;refine⟨u,ru,?_⟩
  rcases lk with z | ⟨_,c,z,_⟩
  ·exact .inl z
  ·exact absurd z (hcl x c)
 ·obtain⟨b1,b2,b3,b4,b5⟩:=I.pin p hp'
  exact⟨g.keep p.1 p.2 (λz=>((mem _).mp z).elim b3 b4) (hp p hp').1 (hp p hp').2 b1,b2,b3,b4,b5⟩
 ·refine(I.hok a o q).GL (λb u hb z=>keepH b u ?_ z) (λ_ z=>z) λ_ _ z=>z
  rcases hb with rfl | hb
  ·rw[q];simp
  ·rw[hb];simp
end
theorem Am {X:Cx}{pins:List (Addr×Obj)}{σ1:L2.St}{H1:Hp}{s1:Hr}{C:Hs}{e T':Addr}{T:Option Addr}{h':Heap}(hst:X.stack=X.env::X.outer)(hfe:X.env.frame=some X.env.locals)(hcl:∀x c,X.env.cells.lookup x≠some c)(hex:X.ex= [])(I1:Inv X pins σ1 H1 s1)(g:uD ((X.env::X.outer).filterMap (·.frame)) C e T s1.heap h' T')
  (he:H1 e=none) (heo:X.s₀.heap.get? e=none) (hT:∀t,T=some t->H1 t=none/\X.s₀.heap.get? t=none) (hpp:∀p∈X.pn++pins,p.1≠e/\T≠some p.1)
  {Pp:Prop} (kk:∀oe ev oT ts,h'.get? e=some oe->oe.cls=C->oe.data= .fields ev->ev[1]? =some (.ref T')->h'.get? T'=some oT->oT.data= .fields ts->3<ts.size->Inv (mm X e oe) pins σ1 H1 { s1 with heap:=h' }->e∉jH X.stack->Inv (mm X e oe) pins σ1 H1 { s1 with heap:=h'.update T' (Kd (·.setIfInBounds 3 Ig)) }->Pp):Pp:=by
 have I2:=Inv.G7 I1 hst hfe hcl hex g he heo hT hpp
 have Tn:H1 T'=none/\X.s₀.heap.get? T'=none/\∀p∈X.pn++pins,p.1≠T':=by
  rcases g.new with z | z
  ·exact⟨(hT T' z).1,(hT T' z).2,λp hp y=>(hpp p hp).2 (by rw[z,y])⟩
  ·exact⟨gc I1 z,fQ I1 hex z,λp hp y=>by have:=(I1.pin p hp).1;rw[y,z]at this;cases this⟩
 obtain⟨hTe,oe,ev,hoe,hoc,hod,h1,oT,ts,hoT,hdT,h3⟩:=g.flt
 have nfr:∀b o vs,h'.get? b=some o->o.data= .fields vs->b∉(X.env::X.outer).filterMap (·.frame):=λb o vs hb hd z=>by
  have:=I2.stack;rw[hst]at this;obtain⟨_,o',ho',hnf⟩:=this.mem z;rw[show h'.get? b=some o' from ho']at hb
  cases hb;exact hnf vs hd
 have hel:e≠X.env.locals:=λz=>nfr e oe ev hoe hod (by rw[IQ,hfe];exact z▸HD)
 have hef:e∉X.fs:=λz=>nfr e oe ev hoe hod (by rw[IQ,hfe];exact Hv _ z)
 have hcell:∀v,oe.data≠ .cell v:=λv z=>by rw[hod]at z;cases z
 have I3:Inv (mm X e oe) pins σ1 H1 { s1 with heap:=h' }:=kH I2 hoe he hel hef hcell
 refine kk oe ev oT ts hoe hoc hod h1 hoT hdT (Ij.mp h3).1 I3 (by rw[hst];exact nfr e oe ev hoe hod) ?_
 generalize hU:h'.update T' (Kd (·.setIfInBounds 3 Ig))=h2
 have kp:∀b,b≠T'->h2.get? b=h'.get? b:=λb hb=>by rw[<-hU];exact Jt _ _ (KF hb)
 have hT2:h2.get? T'=some (Kd (·.setIfInBounds 3 Ig) oT):=by rw[<-hU];exact Jf _ hoT (Kc (Jc hdT _))
 have hoe2:h2.get? e=some oe:=(kp e (KF hTe)).trans hoe
 have g2:uD ((X.env::X.outer).filterMap (·.frame)) C e (some T') h' h2 T':=⟨⟨hTe,oe,ev,hoe2,hoc,hod,h1,_,_,hT2,Jc hdT _,by simp[(Ij.mp h3).1]⟩,.inl rfl,λb o _ _ n3 q=>(kp b λz=>n3 (by rw[z])).trans q,λb o m q=>⟨o.slots,(kp b λz=>nfr T' oT ts hoT hdT (z▸m)).trans q⟩⟩
 have I4:Inv X pins σ1 H1 { s1 with heap:=h2 }:=Inv.G7 (s:={ s1 with heap:=h' }) I2 hst hfe hcl hex g2 he heo (λt z=>by cases z;exact⟨Tn.1,Tn.2.1⟩) λp hp=>⟨(hpp p hp).1,λz=>Tn.2.2 p hp (Ik z).symm⟩
 exact kH I4 hoe2 he hel hef hcell
theorem vY {prog:HZ}{w:ID}{A:Iw}{E:Hs->Hr->Prop}{s:Hr}{env:Env}{body:List Stmt}{h₀:ExceptHandler}{hs:List ExceptHandler}{pos:Pos}{Q:Flow->Hr->Prop}
  (h:wC (model prog w) A (execs body env) (λf s₁=>match f with | .next=>Q .next s₁ | f=>Q f s₁)
   (λe s₁=>wpAny (model prog w) A (KP e env) (λ_ s₂=>wpAny (model prog w) A (setFlight e none) (λ_ s₃=>wpAny (model prog w) A (handleBy e env (h₀::hs)) Q E s₃) E s₂) E s₁) s) :
  wC (model prog w) A (exec (.Try body (h₀::hs) [] [] pos) env) Q E s:=by
 rw[arm_exec_Try];refine eP ?_
 unfold tryStmt;simp only[PU,if_true,Po,LC,Jb,if_false];refine aR (kQ (cq h (λf s₁ h₁=> ?_) λe s₁ h₁=> ?_))
 ·cases f <;> first | exact .of (KO h₁) | exact a6 h₁
 ·exact aB (IS h₁ (λ_ _ h₂=>aB (IS h₂ (λ_ _ h₃=> .of h₃) λ_ _ x=>x)) λ_ _ x=>x)
theorem vW {M:My}{A:Iw}{E:Hs->Hr->Prop}{s:Hr}{pos:Pos}{T:String}{args:List (Bool×Sem Hs)}{Q:Hs->Hr->Prop}(hplain:args.any (·.1)=false)
  (h:wC M A (P4 (.type T) true args []) (λa s₁=>wC M A (call (.type T) a.pos a.kw) Q E s₁) E s):wC M A (P5 pos (.type T) [] args []) Q E s:=by
 unfold P5;refine aR (cg (iO h λa s₁ h₁=>eP ?_))
 simp only[hplain,List.any_nil,M1];refine aB (Hy ?_)
 exact aR (iO h₁ λr s₂ hr=>aB (Jd (Qp (a6 hr))))
def eW (x:Kb):T:=match NX x with
 | some n=> .int n
 | none=> .non
def oM:T->Rs T
 | .str x=>if x.length<=640/\x.cps.all (· <1114112)=true then .ok (eW x)else .bad
 | _=> .bad
def uR (f:En->Rs T)(ρ:En):Rs Fl:=f ρ >>= λt=>oM t >>= λv=> .ok (.rt v)
theorem rR {x:Kb}(h1:x.length<=640)(h2:x.cps.all (· <1114112)=true):(reprText x).length<=sizeLine:=by
 have h3:=StrLaws.reprText_len x λc hc=>by
  have:=JE.mp h2 c (by simpa using hc)
  have:c<1114112:=by simpa using this
  exact HM this (by decide)
 rw[IZ];omega
theorem BV:NN (.type "ValueError") (.type "ValueError")=pure true:=by rw[JX];kernel_rfl
theorem BW:NN (.type "ValueError") (.type "BaseException")=pure true:=by rw[JX];kernel_rfl
theorem BU:NN (.type ((Manifest.find? "ValueError").elim "type" λx=>x.metatype)) (.type "tuple")=pure false:=by rw[JX];kernel_rfl
theorem B2 {X:Cx}(i:Nat){j:Nat}{y:Kb}{p1 p2 p3 p4 p5 p6 np hpos pos:Pos}(hst:X.stack=X.env::X.outer)(hfe:X.env.frame=some X.env.locals)(hcl:∀x c,X.env.cells.lookup x≠some c)(hex:X.ex= [])(hc:X.calm=true)
  (hmi:X.mg "int" =none) (hmv:X.mg "ValueError" =none) (hbi:Ir "int" =some (.type "int")) (hbv:Ir "ValueError" =some (.type "ValueError")) (hgi:Gl X "int") (hgv:Gl X "ValueError")
  (hN:X.N[i]? =some y) (hv:rl X.env.scope y) (hd:(y == ("__debug__" : Kb))=false) (hcd:(y == ("__classdict__" : Kb))=false) :
  BH X (.Try [.Return (some (.Call (.Name "int" p1) [.Name y p2] [] p3)) p4] [.ExceptHandler (some (.Name "ValueError" np)) none [.Return (some (.Constant .none j p5)) p6] hpos] [] [] pos) (uR (vr i)):=by
 intro pins s σ H D I ⟨ρ,B,M,E,hq⟩;unfold uR vr at hq
 have hh:X.A.handled=none:=I.ok.hd hc
 have hw:∃x,ρ[i]? =some (.va (.str x))/\(x.length<=640/\x.cps.all (· <1114112)=true)/\∀v H',SameO M.u H H'->Rep X.K B H' (eW x) v->D.rt v H':=by
  split at hq
  ·rename_i t ht
   rw[aH]at hq;unfold oM at hq
   split at hq
   ·rename_i x
    split at hq
    ·rename_i hx;rw[aH]at hq;exact⟨x,ht,hx,hq⟩
    ·exact hq.elim
   ·exact hq.elim
  ·exact hq.elim
 obtain⟨x,hx,⟨h640,hall⟩,hD⟩:=hw;obtain⟨v,hs,rv⟩:=E.env.val i _ hx;cases Rep.FM.mp rv
 have rd:wpAny (model X.prog X.w) X.A (eval (.Name y p2) X.env) (λu s1=>s1=s/\∃t,u= .str x t) (λ_ _=>False) s:=by
  obtain⟨m,hn,hl⟩:=I.loc;obtain⟨u,r,l⟩:=hl i y _ hN hs hv
  have fin:(λu s1=>s1=s/\∃t,u=Jy x t) u s:=⟨rfl,r⟩
  rcases l with⟨hk,hm⟩ | ⟨hk,c,hc',hcell⟩
  ·exact Pt (N1 I.ok.kind hk hn hm fin) hd
  ·exact absurd hc' (hcl y c)
 refine vY (fP (mO (sS (eK I hgi hmi hbi (vW rfl (sR (kO (.of (IS rd (λu s1 h1=> ?_) λ_ _ z=>z.elim)))))))))
 obtain⟨rfl,t,rfl⟩:=h1;refine .of (KS ?_)
 show wC _ _ (call (.type "int") [.str x t] []) _ _ s1
 cases hi:NX x with
 | some n=>
  have e:eW x= .int n:=by unfold eW;rw[hi]
  rw[e]at hD
  exact .of (P6 hi h640 ⟨.int n,σ,H,I.tok _,⟨_,rfl⟩,hD _ H (λ_ _ e _=>e) (Rep.GK n)⟩)
 | none=>
  have e:eW x= .non:=by unfold eW;rw[hi]
  rw[e]at hD
  have hse:(Qq x).length<=640:=H0 (seen_length x) h640;refine uH hse hi (rR h640 hall) hh λh1 tk e me=> ?_
  obtain⟨ob,ta,hob,hcls,hdat⟩:=me.there
  have I1:Inv X pins σ H { s1 with heap:=h1,toks:=tk }:=I.kept me.keeps
  have he:H e=none:=gc I me.new
  have heo:X.s₀.heap.get? e=none:=fQ I hex me.new
  have hfr:X.A.frames=some (X.env::X.outer):=by rw[<-hst];exact I.ok.frames
  have hstk:h1.FunFrames X.base (X.env::X.outer):=by have:=I1.stack;rw[hst]at this;exact this
  have fl:Ed h1 (.type "ValueError") e none:=⟨ob,_,hob,hcls,hdat,rfl⟩;refine C1 (s:={ s1 with heap:=h1,toks:=tk }) hfr hstk hfe fl λh2 T' g=> ?_
  refine Am hst hfe hcl hex I1 g he heo (λt z=>by cases z) (λp hp=>⟨λz=>(by have:=(I.pin p hp).1;rw[z,me.new]at this;cases this),λz=>by cases z⟩) λoe ev oT ts hoe hoc hod hv1 hoT hdT h3 I3 hnf I5=> ?_
  refine Oi (NP (eK (X:=mm X e oe) I3 hgv hmv hbv ?_)) (by intro z;cases z)
  refine wpAny_excMatches_type (T:="ValueError") (X:="ValueError") ⟨oe,hoe,hoc⟩ BW BU BV ?_
  refine codeAny_handlers_suite ?_
  refine N2 hoe hod hv1 hoT hdT h3 ?_
  refine Nc (Pu (Constant_none ?_))
  exact⟨.non,σ,H,tX I.ok I5,rfl,hD _ H (λ_ _ e _=>e) Rep.G1⟩
theorem BL {X:Cx}(i:Nat){j:Nat}{y:Kb}{p1 p2 p3 p4 p5 p6 np hpos pos:Pos}(hcl:∀x c,X.env.cells.lookup x≠some c)(hmi:X.mg "int" =none)(hmv:X.mg "ValueError" =none)(hst:autoParam (X.stack=X.env::X.outer) u_)(hfe:autoParam (X.env.frame=some X.env.locals) u_)(hex:autoParam (X.ex= []) u_)(hc:autoParam (X.calm=true) u_)
  (hbi:autoParam (Ir "int" =some (.type "int")) z_) (hbv:autoParam (Ir "ValueError" =some (.type "ValueError")) z_) (hgi:autoParam (Gl X "int") u_) (hgv:autoParam (Gl X "ValueError") u_)
  (hN:autoParam (X.N[i]? =some y) u_) (hv:autoParam (rl X.env.scope y) v_) (hd:autoParam ((y == Ja "__debug__")=false) s_) (hcd:autoParam ((y == Ja "__classdict__")=false) s_) :
  US X (.Try [.Return (some (.Call (.Name "int" p1) [.Name y p2] [] p3)) p4] [.ExceptHandler (some (.Name "ValueError" np)) none [.Return (some (.Constant .none j p5)) p6] hpos] [] [] pos) (uR (vr i)):=
 ⟨B2 i hst hfe hcl hex hc hmi hmv hbi hbv hgi hgv hN hv hd hcd⟩
end Tr
namespace Tr
open PySem PySem.Spec PyProof.Rows L2
section
variable {X:Cx}{a b:Expr}{fa fb:En->Rs T}{apos cpos:Pos}
theorem fj (ha:QE X a fa)(hb:QE X b fb)(hn:autoParam (cN b=true) u_)(hbase:autoParam (Ke a "split" X.env (eval a X.env)=eval a X.env) u_)(hline:autoParam ((apos.endLine == cpos.line)=true) u_) :
  QE X (.Call (.Attribute a "split" apos) [b] [] cpos) (oS bV fa (ae fb ag)):=⟨tv LN F.type_str_split yB ha.h hb.h hn hbase hline⟩
theorem du (ha:QE X a fa)(hb:QE X b fb)(hn:autoParam (cN b=true) u_)(hbase:autoParam (Ke a "partition" X.env (eval a X.env)=eval a X.env) u_)(hline:autoParam ((apos.endLine == cpos.line)=true) u_) :
  QE X (.Call (.Attribute a "partition" apos) [b] [] cpos) (oS fH fa (ae fb ag)):=⟨tv NY F.type_str_partition AQ ha.h hb.h hn hbase hline⟩
theorem mn (ha:QE X a fa)(hb:QE X b fb)(hn:autoParam (cN b=true) u_)(hbase:autoParam (Ke a "startswith" X.env (eval a X.env)=eval a X.env) u_)(hline:autoParam ((apos.endLine == cpos.line)=true) u_) :
  QE X (.Call (.Attribute a "startswith" apos) [b] [] cpos) (oS il fa (ae fb ag)):=⟨tv F.slot_str_startswith F.type_str_startswith vt ha.h hb.h hn hbase hline⟩
theorem gh (ha:QE X a fa)(hb:QE X b fb)(hn:autoParam (cN b=true) u_)(hbase:autoParam (Ke a "join" X.env (eval a X.env)=eval a X.env) u_)(hline:autoParam ((apos.endLine == cpos.line)=true) u_) :
  QE X (.Call (.Attribute a "join" apos) [b] [] cpos) (oS cP fa (ae fb ag)):=⟨tv F.slot_str_join F.type_str_join AR ha.h hb.h hn hbase hline⟩
end
end Tr
namespace L2
open PySem PySem.Spec PyProof.Rows
section
variable {M:My}{A:Iw}{E:Hs->Hr->Prop}{s:Hr}{env:Env}
theorem uG {c:Code}{h:Option Hs}{Q:Flow->Hr->Prop}(hc:cC M (A.mark h) c (λr s'=>match r with | .ok f=>Q f s' | .error e=>cameBackBy M A env E e s') s)(hnb:autoParam (h≠some byPass) b_) :
  wC M A (runOwn c env h) Q E s:=by
 unfold runOwn;exact gj (vT (iM hc λr s' hr=>by cases r with | ok f=>exact hr | error e=>exact .of hr) hnb)
theorem BK {target iter body orelse pos}{Q:Flow->Hr->Prop}
  (h:wpAny M A (eval iter env) (λx s₁=>wpAny M A (pyIter x) (λit s₂=>cC M A (.forLoop target it body orelse env) (λr s'=>match r with | .ok f=>Q f s' | .error e=>cameBackBy M A env E e s') s₂) E s₁) E s)
  (hs:autoParam (∀x,Ic iter env x=pure x) t_):wC M A (exec (.For target iter body orelse pos) env) Q E s:=by
 rw[exec_For];refine eP (aB (IS h (λx s₁ h₁=>aB (KQ (hs x) (eP ?_))) λ_ _ z=>z))
 exact aB (Jd (IS h₁ (λit s₂ h₂=>uG h₂) λ_ _ z=>z))
theorem yF {c:Code}{R:LJ->Hr->Prop}(hq:c.quiet=true)(I:Nat->Hr->Prop)
  (turn:∀n s,I n s->wC M (A.under c) (M.den c) (λfin s'=>match fin with
    | .done f=>R (.ok f) s'
    | .again c'=>(c'=c/\∃m,m<n/\I m s')\/(c'.quiet=true/\cC M A c' R s')) (λe s'=>R (.error e) s') s) (n:Nat) (h:I n s):cC M A c R s:=by
 induction n using Qg generalizing s with
 | ind n ih=>
  refine cW (cq (turn n s h) (λfin s' hf=> ?_) λ_ _ h'=>h')
  cases fin with
  | done f=>exact hf
  | again c'=>
   rcases hf with⟨rfl,m,hm,hI⟩ | hf
   ·exact⟨hq,ih m hm hI⟩
   ·exact hf
end
theorem sA {prog:HZ}{w:ID}{A:Iw}{s:Hr}{R:LJ->Hr->Prop}{target it body orelse env}(I:Nat->Hr->Prop)
  (turn:∀n s,I n s->wpAny (model prog w) A (pyNext it) (λr s₁=>match r with
   | none=>wpAny (model prog w) A (execs orelse env) (λf s₃=>R (.ok f) s₃) (notedBy (model prog w) A env λe s'=>R (.error e) s') s₁
   | some v=>wpAny (model prog w) A (Ko target it v) (λ_ s₁'=>
     wpAny (model prog w) A (assign target env v) (λ_ s₂=>wC (model prog w) A (execs body env) (λf s₃=>match f with
      | .next | .cont=> ∃m,m<n/\I m s₃
      | .brk=>R (.ok .next) s₃
      | .ret v=>R (.ok (.ret v)) s₃) (notedBy (model prog w) A env λe s'=>R (.error e) s') s₂) (notedBy (model prog w) A env λe s'=>R (.error e) s') s₁') (notedBy (model prog w) A env λe s'=>R (.error e) s') s₁) (notedBy (model prog w) A env λe s'=>R (.error e) s') s)
  (n:Nat) (h:I n s):cC (model prog w) A (.forLoop target it body orelse env) R s:=by
 refine yF rfl I (λn s hI=> ?_) n h
 show wC _ A ((forTurn target it body orelse env).onRaise (λx=>do KP x env;Me x)) _ _ s
 refine pX ?_
 simp only[forTurn];refine eP (aR (.of (wpAny_onRaise (IS (turn n s hI) (λr s₁ h₁=> ?_) λ_ _ h'=>LY h'))))
 cases r with
 | none=>exact .of (Hy (.inr ⟨rfl,cC.of (codeAny_block h₁)⟩))
 | some v=>
  refine aB (IS h₁ (λ_ s₁' h₁'=> ?_) λ_ _ h'=>h')
  refine aB (IS h₁' (λ_ s₂ h₂=>aR (cq h₂ (λf s₃ h₃=> ?_) λ_ _ h'=>h')) λ_ _ h'=>h')
  cases f with
  | next=>exact a6 (.inl ⟨rfl,h₃⟩)
  | cont=>exact a6 (.inl ⟨rfl,h₃⟩)
  | brk=>exact a6 h₃
  | ret v=>exact a6 h₃
end L2
namespace Tr
open PySem PySem.Spec PyProof.Rows L2
theorem z0 {α:Type}{t:Sem α}{Q:α->Hr->Prop}{s:Hr}{E:Hs->Hr->Prop}{P:HZ}{w:ID}{A:Iw}(h:wC (model P w) A t Q (λ_ _=>False) s):wC (model P w) A t Q E s:=cq h (λ_ _ q=>q) λ_ _ z=>z.elim
section
variable {X:Cx}{a b c e:Expr}{es:List Expr}{fa fb fc:En->Rs T}{fs:En->Rs (List T)}{pos p p2:Pos}{x:Str}
theorem AE {tg iter:Expr}{body:List Stmt}{wi:TI}{g:TG}{tb:TS}{pos:Pos}(hc:X.calm=true)(hi:PI X tg iter wi)(hg:PG X.nox tg g)(hb:DSs X.nox body tb)
  (hs:autoParam (∀x,Ic iter X.env x=pure x) t_):DS X (.For tg iter body [] pos) (EL wi g tb):=by
 intro pins s σ H D I h;refine BK (bK (hi pins s σ H _ I h) λv s1 h1=>bK h1 λitv s2 h2=> ?_) hs
 obtain⟨it,fp,tn,J,H2,e,I2,T,st2,f2,W,⟨m0,w0⟩,turn⟩:=h2;subst e
 have stat:∀{H':Hp},(∀b∈fp,H' b=none)->∀b∈fp,j9 X pins H' b:=λhn b hb=>⟨hn b hb,(f2 b hb).2⟩
 refine sA (λn s'=> ∃i σ' H',Inv X pins σ' H' s'/\tn i s'.heap/\(∀b∈fp,H' b=none)/\W i n σ' H') ?_ m0 ⟨0,σ,H2,I2,st2,λb hb=>(f2 b hb).1,w0⟩
 rintro n s3 ⟨i,σ3,H3,I3,st3,fr3,w3⟩
 rcases turn i n σ3 H3 w3 with⟨stop,qn⟩ | ⟨go,N,hN,step⟩
 ·refine gn (bK (T.done X.nox rfl rfl rfl hc i pins s3 σ3 H3 _ (I3.FS _) (stat fr3) st3 stop) λr s4 ⟨hr,I4⟩=> ?_)
  subst hr;exact KO ⟨σ3,H3,I4.FS _,qn⟩
 ·refine gn (bK (T.item X.nox rfl rfl rfl hc i pins s3 σ3 H3 _ (I3.FS _) (stat fr3) st3 go) λr s4 ⟨u,hr,h4⟩=> ?_)
  subst hr;refine gn (bK h4 λ_ s5 hh_=> ?_)
  obtain⟨x,H5,I5,r5,y5,st5,fr5⟩:=hh_
  have I5':=Inv.pinned (X:=X.nox) I5 (stat fr5) (T.obj _ _ st5);refine gn (bK (hg _ s5 σ3 H5 x u _ I5' r5 (step x H5 y5)) λ_ s6 hh_=> ?_)
  obtain⟨σ6,H6,I6,q6⟩:=hh_;refine z0 (iO (hb _ s6 σ6 H6 _ I6 q6) λf s7 q7=> ?_)
  have again:∀{σ7:L2.St} {H7:Hp},Inv X.nox (pins++i7 fp s5.heap) σ7 H7 s7->N σ7 H7->∃m,m<n/\∃i σ' H',Inv X pins σ' H' s7/\tn i s7.heap/\(∀b∈fp,H' b=none)/\W i m σ' H':=λ{σ7 H7} I7 n7=>by
   obtain⟨m',hm,w7⟩:=hN σ7 H7 n7;refine⟨m',hm,i+1,σ7,H7,(Inv.GG (X:=X.nox) I7).FS _,T.keep _ _ _ st5 λb hb o e=>(I7.pin (b,o) (HP _ (HP _ (cR hb e)))).1,λb hb=> ?_,w7⟩
   obtain⟨o,e,d⟩:=T.obj _ _ st5 b hb;exact(I7.pin (b,o) (HP _ (HP _ (cR hb e)))).2.1
  cases f with
  | next=>obtain⟨σ7,H7,I7,n7⟩:=q7;exact again I7 n7
  | cont=>obtain⟨σ7,H7,I7,n7⟩:=q7;exact again I7 n7
  | brk=>obtain⟨σ7,H7,I7,q7⟩:=q7;exact⟨σ7,H7,(Inv.GG (X:=X.nox) I7).FS _,q7⟩
  | ret v=>obtain⟨x7,σ7,H7,I7,r7,q7⟩:=q7;exact⟨x7,σ7,H7,(Inv.GG (X:=X.nox) I7).FS _,r7,q7⟩
theorem Gg {tg iter:Expr}{body:List Stmt}{fi:En->Rs (List T)}{g:T->En->Rs En}{F:En->Rs Fl}(hc:X.calm=true)(hi:vK X tg iter fi)(hg:yW X.nox tg g)(hb:mL X.nox body F)
  (hs:autoParam (∀x,Ic iter X.env x=pure x) t_):BH X (.For tg iter body [] pos) (i6 fi g F):=DS.imp (AE hc hi hg hb hs) λD σ H hh_=>by
 obtain⟨ρ,B,M,E,h⟩:=hh_;refine⟨ρ,OO B M,E.o,?_⟩
 unfold i6 at h
 cases q:fi ρ with
 | bad=>rw[q]at h;exact h.elim
 | err c=>rw[q]at h;exact PostF.xa h
 | ok ts=>
  rw[q,aH]at h
  cases qq:bO g F ts ρ with
  | bad=>rw[qq]at h;exact h.elim
  | err c=>rw[qq]at h;exact h.elim
  | ok fin=>
  rw[qq]at h;intro H1 s1 J hJ
  have E1:Ev X.K B M H1 ρ σ:=E.same s1
  have h1:PostF X B M.u H1 (.ok fin) D:=PostF.later h (SameO.of s1) λa z=> .inl z
  refine⟨λi m σ' H'=>m=ts.length - i/\i<=ts.length/\SameO M.u H1 H'/\∃ρ' M',Ev X.K B M' H' ρ' σ'/\(∀a,M'.u a->M.u a\/Nw X.K H1 a)/\bO g F (ts.drop i) ρ'= .ok fin,
   ⟨ts.length,by omega,Je _,λ_ _ e _=>e,ρ,M,E1,λa z=> .inl z,by simpa using qq⟩,?_⟩
  rintro i m σ' H' ⟨rfl,hi',sm,ρ',M',E',ow,hl⟩
  have it:=hJ M.u (OO B M') (λa z=> .inl (.inr z)) (λa z=>z.elim (λw=> .inl (.inl w)) λw=>(ow a w).elim (λy=> .inl (.inr y)) .inr) i H' sm (λa z=>(E'.env.trk a z).some)
  by_cases hlt:i<ts.length
  ·have hti:ts[i]? =some ts[i]:=by simp
   obtain⟨go,yl⟩:=it.2 ts[i] hti;rw[JP hlt]at hl;unfold bO at hl;refine .inr ⟨go,λσ2 H2=> ∃m',m'<ts.length - i/\(m'=ts.length - (i+1)/\i+1<=ts.length/\SameO M.u H1 H2/\∃ρ2 M2,Ev X.K B M2 H2 ρ2 σ2/\(∀a,M2.u a->M.u a\/Nw X.K H1 a)/\bO g F (ts.drop (i+1)) ρ2= .ok fin),λσ2 H2 z=>z,λx Hc y=> ?_⟩
   obtain⟨sc,rx⟩:=yl x Hc y;refine⟨ρ',OO B M',M',ts[i],E'.env.same sc,rx,?_⟩
   cases e1:g ts[i] ρ' with
   | bad=>rw[e1]at hl;cases hl
   | err cc=>rw[e1]at hl;cases hl
   | ok ρ1=>
    rw[e1,aH]at hl;intro σ1 Eg
    have E2:Ev X.K B M' Hc ρ1 σ1:=⟨Eg,E'.mine⟩;refine⟨ρ1,B,M',E2,?_⟩
    have smc:SameO M.u H1 Hc:=λb o e n=>sc _ _ (sm b o e n)
    have onward:∀{σ3:L2.St} {H3:Hp} {ρ3:En} {M3:Mn},SameO M'.u Hc H3->Ev X.K B M3 H3 ρ3 σ3->(∀a,M3.u a->M'.u a\/Nw X.K Hc a)->bO g F (ts.drop (i+1)) ρ3= .ok fin →
      ∃m',m'<ts.length - i/\(m'=ts.length - (i+1)/\i+1<=ts.length/\SameO M.u H1 H3/\∃ρ2 M2,Ev X.K B M2 H3 ρ2 σ3/\(∀a,M2.u a->M.u a\/Nw X.K H1 a)/\bO g F (ts.drop (i+1)) ρ2= .ok fin):=
     λ{σ3 H3 ρ3 M3} s3 E3 o3 p3=>⟨_,by omega,rfl,hlt,smc.trans s3 ow,ρ3,M3,E3,λa z=>(o3 a z).elim (ow a) (iv smc),p3⟩
    cases e2:F ρ1 with
    | bad=>rw[e2]at hl;cases hl
    | err cc=>rw[e2]at hl;cases hl
    | ok f=>
     rw[e2,aH]at hl
     cases f with
     | nx ρ2=>exact λσ3 H3 M3 s3 E3 o3=>onward s3 E3 o3 hl
     | ct ρ2=>exact λσ3 H3 M3 s3 E3 o3=>onward s3 E3 o3 hl
     | bk ρ2=>
      cases hl
      exact λσ3 H3 M3 s3 E3 o3=>h1 σ3 H3 M3 (smc.trans s3 ow) E3 λa z=>(o3 a z).elim (ow a) (iv smc)
     | rt t=>
      cases hl;exact λv H3 s3 r=>h1 v H3 (smc.trans s3 ow) r
  ·refine .inl ⟨it.1 (by omega),?_⟩
   have hi2:i=ts.length:=by omega
   subst hi2;rw[M8]at hl;cases hl;exact h1 σ' H' M' sm E' ow
theorem Ex {tg iter:Expr}{body:List Stmt}{pos:Pos}{fi:En->Rs (List T)}{g:T->En->Rs En}{F:En->Rs Fl}(hc:X.calm=true)(hi:QI X tg iter fi)(hg:QG X.nox tg g)(hb:yV X.nox body F)(hs:autoParam (∀x,Ic iter X.env x=pure x) t_):US X (.For tg iter body [] pos) (i6 fi g F):=⟨Gg hc hi.h hg.h hb.h hs⟩
end
theorem yX {X:Cx}{a:Expr}{fs:En->Rs (List T)}{p p1 p2 pos:Pos}(hc:X.calm=true)(hm:X.mg "sorted" =none)(hms:X.mg "set" =none)(ha:QA X [a] fs)(hst:autoParam (br [a] =true) u_)(hg:autoParam (Gl X "sorted") u_)(hgs:autoParam (Gl X "set") u_) :
  QE X (.Call (.Name "sorted" p) [.Call (.Name "set" p1) [a] [] p2] [] pos) (cl mU fs):=⟨Ct hc hm hms ha.h hst hg hgs⟩
section
variable {X:Cx}
theorem ET {body suite:List Stmt}{b0:Stmt}{F:En->Rs Fl}{h:Str->Rs T}{ce n:Str}{CE:Addr}{bmE:List Hs}{i:Nat}{np hpos pos:Pos}(hst:X.stack=X.env::X.outer)(hfe:X.env.frame=some X.env.locals)(hcl:∀x c,X.env.cells.lookup x≠some c)(hex:X.ex= [])
  (hN:X.N.Nodup) (hi:X.N[i]? =some n) (hloc:X.env.scope.names.lookup n=some .local) (hm:X.mg ce=some (.ref CE)) (OE:OX X.K CE bmE)
  (hb:∀pn xe,mL { X with pn:=pn,xe:=xe } body F) (hs:pL X i (b0::suite) CE h) (hg:autoParam (Gl X ce) u_) (hd:autoParam ((ce == ("__debug__" : Str))=false) s_) :
  BH X (.Try body [.ExceptHandler (some (.Name ce np)) (some n) (b0::suite) hpos] [] [] pos) (qj F h):=by
 intro pins s σ H D I ⟨ρ,B,M,E,hq⟩;refine vY ?_
 unfold qj at hq
 cases q:F ρ with
 | bad=>rw[q]at hq;exact hq.elim
 | ok fl=>
  rw[q]at hq;refine cq (hb X.pn (λ_ _=>False) pins s σ H D (I.FS _) ⟨ρ,B,M,E,by rw[q];cases fl <;> exact hq⟩) (λf s1 r=> ?_) (λe s1 z=>z.elim)
  cases f with
  | next=>obtain⟨σ7,H7,I7,q7⟩:=r;exact⟨σ7,H7,I7.FS _,q7⟩
  | ret u=>obtain⟨x7,σ7,H7,I7,r7,q7⟩:=r;exact⟨x7,σ7,H7,I7.FS _,r7,q7⟩
  | brk=>obtain⟨σ7,H7,I7,q7⟩:=r;exact⟨σ7,H7,I7.FS _,q7⟩
  | cont=>obtain⟨σ7,H7,I7,q7⟩:=r;exact⟨σ7,H7,I7.FS _,q7⟩
 | err c=>
  rw[q]at hq
  cases q2:h c with
  | bad=>simp only[q2]at hq;exact hq.elim
  | err c'=>simp only[q2]at hq;exact hq.elim
  | ok t=>
   simp only[q2]at hq
   have hq':∀v H',SameO M.u H H'->Rep X.K B H' t v->D.rt v H':=hq;refine cq (hb (X.pn++pins) _ [] s σ H { nx:=λ_ _=>False,rt:=λ_ _=>False,bk:=λ_ _=>False,ct:=λ_ _=>False } ((Tr.Inv.G9 pins I).FS _) ⟨ρ,B,M,E,?_⟩) (λfl s' z=> ?_) λ_ _ z=>z
   rotate_left
   ·cases fl with
    | next=>obtain⟨_,_,_,z⟩:=z;exact z.elim
    | cont=>obtain⟨_,_,_,z⟩:=z;exact z.elim
    | brk=>obtain⟨_,_,_,z⟩:=z;exact z.elim
    | ret v=>obtain⟨_,_,_,_,_,z⟩:=z;exact z.elim
   rw[q];intro pins1 ev s1 w;obtain⟨e,T,C,σ1,H1,rfl,hmc,I1,sm,he,heo,fl,hT,hpp⟩:=w
   have I1:Inv X pins σ1 H1 s1:=Tr.Inv.Hg (X:=X) I1
   have hpp:∀p∈X.pn++pins,p.1≠e/\T≠some p.1:=λp hp=>hpp p (IG _ hp)
   have heo:=heo hex
   have hT:∀t,T=some t->H1 t=none/\X.s₀.heap.get? t=none:=λt z=>⟨(hT t z).1,(hT t z).2 hex⟩
   show wpAny _ _ _ _ _ _
   have hfr:X.A.frames=some (X.env::X.outer):=by rw[<-hst];exact I1.ok.frames
   have hstk:s1.heap.FunFrames X.base (X.env::X.outer):=by rw[<-hst];exact I1.stack
   refine FH hfr hstk hfe fl λh' T' g=> ?_
   have I2:=Inv.gone I1 hst hfe hcl hex g he heo hT hpp
   have Tn:H1 T'=none/\X.s₀.heap.get? T'=none/\∀p∈X.pn++pins,p.1≠T':=by
    rcases g.new with z | z
    ·exact⟨(hT T' z).1,(hT T' z).2,λp hp y=>(hpp p hp).2 (by rw[z,y])⟩
    ·exact⟨gc I1 z,fQ I1 hex z,λp hp y=>by have:=(I1.pin p hp).1;rw[y,z]at this;cases this⟩
   obtain⟨bm,OC,hin,run⟩:=hs c C t hmc q2;obtain⟨hTe,oe,ev,hoe,hoc,hod,h1,oT,ts,hoT,hdT,h3⟩:=g.flt
   have nfr:∀b o vs,h'.get? b=some o->o.data= .fields vs->b∉(X.env::X.outer).filterMap (·.frame):=λb o vs hb hd z=>by
    have:=I2.stack;rw[hst]at this;obtain⟨_,o',ho',hnf⟩:=this.mem z;rw[show h'.get? b=some o' from ho']at hb
    cases hb;exact hnf vs hd
   have hel:e≠X.env.locals:=λz=>nfr e oe ev hoe hod (by rw[IQ,hfe];exact z▸HD)
   have hef:e∉X.fs:=λz=>nfr e oe ev hoe hod (by rw[IQ,hfe];exact Hv _ z)
   have hcell:∀v,oe.data≠ .cell v:=λv z=>by rw[hod]at z;cases z
   have I3:Inv (mm X e oe) pins σ1 H1 { s1 with heap:=h' }:=kH I2 hoe he hel hef hcell
   refine Oi (NP (iz (X:=mm X e oe) I3 hg hm ?_ hd)) (by intro z;cases z)
   obtain⟨nm,qq,N,bs,hdct,sn,sub,ab,col,dd,k0,k1,k2,k3,k5,mN,hC,_⟩:=OC.at_ h' I3.kIn;obtain⟨nm',qq',N',bs',hdct',sn',sub',ab',col',dd',k0',k1',k2',k3',k5',mN',hD,_,_,TD⟩:=OE.at_ h' I3.kIn;refine vb hC hD hoe hoc (TD.tail.hasType (by decide)) hin (codeAny_handlers_suite_as ?_)
   refine N2 hoe hod h1 hoT hdT (Ij.mp h3).1 ?_
   generalize hU:h'.update T' (Kd (·.setIfInBounds 3 Ig))=h2
   have kp:∀b,b≠T'->h2.get? b=h'.get? b:=λb hb=>by rw[<-hU];exact Jt _ _ (KF hb)
   have hT2:h2.get? T'=some (Kd (·.setIfInBounds 3 Ig) oT):=by rw[<-hU];exact Jf _ hoT (Kc (Jc hdT _))
   have hoe2:h2.get? e=some oe:=(kp e (KF hTe)).trans hoe
   have g2:A5 ((X.env::X.outer).filterMap (·.frame)) C e (some T') h' h2 T':=⟨⟨hTe,oe,ev,hoe2,hoc,hod,h1,_,_,hT2,Jc hdT _,by simp[(Ij.mp h3).1]⟩,.inl rfl,λb o _ _ n3 q=>(kp b λz=>n3 (by rw[z])).trans q,λb o m q=>⟨o.slots,(kp b λz=>nfr T' oT ts hoT hdT (z▸m)).trans q⟩⟩
   have I4:Inv X pins σ1 H1 { s1 with heap:=h2 }:=Inv.gone (s:={ s1 with heap:=h' }) I2 hst hfe hcl hex g2 he heo (λt z=>by cases z;exact⟨Tn.1,Tn.2.1⟩) λp hp=>⟨(hpp p hp).1,λz=>Tn.2.2 p hp (Ik z).symm⟩
   have I5:Inv (mm X e oe) pins σ1 H1 { s1 with heap:=h2 }:=kH I4 hoe2 he hel hef hcell
   refine kY (X:=mm X e oe) (v:=.ref e) I5 hN hi (.inl hloc) rfl (λs3 I6=> ?_) (.inr hloc)
   have hil:i<σ1.length:=by
    rw[I1.len];exact(HU.mp hi).1
   refine IS (run e oe ev hoc hod pins s3 _ H1 B (λv H'=>Same H1 H'/\Rep X.K B H' t v) I6 he (λz=> ?_) (by simp[hil]) (λp hp z=> ?_) λv H' s' r=>⟨s',r⟩) (λf s4 r=> ?_) λ_ _ z=>z.elim
   ·rw[hst]at z
    exact nfr e oe ev hoe hod z
   ·obtain⟨o,ho⟩:=(E.env.trk p (.inl z)).some
    have:=sm p o ho (λw=>E.mine p w z)
    rw[hp]at this;cases this
   ·cases f with
    | next=>obtain⟨_,_,_,z⟩:=r;exact z.elim
    | brk=>obtain⟨_,_,_,z⟩:=r;exact z.elim
    | cont=>obtain⟨_,_,_,z⟩:=r;exact z.elim
    | ret u=>
     obtain⟨v,σ',H',I7,rv,s',rt⟩:=r;obtain⟨m,hn,_⟩:=I7.loc;refine wpAny_nameGoes (show X.env.kindOf n=some .local from hloc) hn (by rw[I.ok.kind];rfl) λh8 m8 hn8 hs8=> ?_
     exact⟨v,_,H',Inv.forget (tX I.ok I7) hcl hn8 hs8,rv,hq' v H' (λb o y nn=>s' b o (sm b o y nn)) rt⟩
end
theorem Eu {X:Cx}{body suite:List Stmt}{b0:Stmt}{F:En->Rs Fl}{h:Str->Rs T}{ce n:Str}{CE:Addr}{bmE:List Hs}(i:Nat){np hpos pos:Pos}(hN:X.N.Nodup)(hm:X.mg ce=some (.ref CE))(OE:OX X.K CE bmE)
  (hb:∀pn xe,yV { X with pn:=pn,xe:=xe } body F) (hs:pL X i (b0::suite) CE h) (hst:autoParam (X.stack=X.env::X.outer) u_) (hfe:autoParam (X.env.frame=some X.env.locals) u_) (hcl:∀x c,X.env.cells.lookup x≠some c) (hex:autoParam (X.ex= []) u_)
  (hi:autoParam (X.N[i]? =some n) u_) (hloc:autoParam (X.env.scope.names.lookup n=some .local) u_) (hg:autoParam (Gl X ce) u_) (hd:autoParam ((ce == ("__debug__" : Str))=false) s_) :
  US X (.Try body [.ExceptHandler (some (.Name ce np)) (some n) (b0::suite) hpos] [] [] pos) (qj F h):=⟨ET hst hfe hcl hex hN hi hloc hm OE (λpn xe=>(hb pn xe).h) hs hg hd⟩
def g8 (x:Str)(lo hi:Option Int):Str:=if ((HF lo hi 1 x.length).length == x.length)=true then x else⟨((HF lo hi 1 x.length).filterMap (x.cps[·]?)).toArray⟩
def rSlS:V->Option Int->Option Int->Hp->VK->Prop:=λx lo hi H Q=> ∃s:Str,x= .str s/\(g8 s lo hi).length<=1000000/\Q (.str (g8 s lo hi)) H
section
variable {X:Cx}{a:Expr}{fa:En->Rs T}{pos:Pos}
theorem BX:SlR X rSlS:=by
 intro pins s σ H x v vl vu lo hi sl Q I rx hs pl pu h;obtain⟨y,rfl,hy,q⟩:=h;obtain⟨t,rfl⟩:=rx;refine⟨"str",_,PySem.F.slot_str_getitem.lookup,typeIs_str _ _ _,?_⟩
 have key:∀(l u:Option (Int×Tok)),l.map (·.1)=lo->u.map (·.1)=hi->s.heap.IsSlice sl l u none->wpAny (model X.prog X.w) X.A (getItem (.str y t) (.ref sl)) (EP X pins σ Q) X.xe s:=λl u el eu hsl=>by
  refine wpAny_getItem_str_slice hsl rfl ?_
  unfold sliceMade slicePicked;unfold g8 at q hy;rw[el,eu]
  show Made.post (if (true&&((HF lo hi 1 y.length).length == y.length))=true then .val (.str y t)else .str ⟨((HF lo hi 1 y.length).filterMap (y.cps[·]?)).toArray⟩) _ _
  rw[LX]
  by_cases hc:((HF lo hi 1 y.length).length == y.length)=true
  ·rw[if_pos hc]at q ⊢
   exact⟨.str y,H,I,⟨_,rfl⟩,q⟩
  ·rw[if_neg hc]at q hy ⊢
   exact⟨by rw[IZ];exact H0 hy (by decide),⟨.str _,H,I.tok _,⟨_,rfl⟩,q⟩⟩
 cases pl with
 | none=>
  cases pu with
  | none=>exact key none none rfl rfl hs
  | int j k=>exact key none (some (j,k)) rfl rfl hs
 | int i k=>
  cases pu with
  | none=>exact key (some (i,k)) none rfl rfl hs
  | int j k'=>exact key (some (i,k)) (some (j,k')) rfl rfl hs
def ES (x:T)(lo hi:Option Int):Rs T:=match x with
 | .str y=>if (g8 y lo hi).length<=1000000 then .ok (.str (g8 y lo hi))else .bad
 | _=> .bad
def fZ (fe:En->Rs T)(fl fu:En->Rs (Option Int))(ρ:En):Rs T:=do
 let x <-fe ρ
 let l <-fl ρ
 let u <-fu ρ
 ES x l u
theorem wW {lo hi:Option Expr}{p2:Pos}{fl fu:En->Rs (Option Int)}(ha:cx X a fa)(hl:D9 X lo fl)(hu:D9 X hi fu):cx X (.Subscript a (.Slice lo hi none p2) pos) (fZ fa fl fu):=by
 intro pins s σ H Q I ⟨ρ,O,E,hq⟩;refine qt BX ha hl hu pins s σ H Q I ?_
 obtain⟨ρ1,O1,E1,h1⟩:=aK E hq;refine⟨ρ1,O1,E1,Post.mono h1 λts H1 s1 q vs r=> ?_⟩
 obtain⟨t',r',s',E',q'⟩:=q vs r;obtain⟨ρ2,O2,E2,h2⟩:=jv E' q';refine⟨ρ2,O2,E2,Post.mono h2 λo1 H2 s2 q=> ?_⟩
 obtain⟨s2',E2',q2⟩:=q;obtain⟨ρ3,O3,E3,h3⟩:=jv E2' q2;refine⟨ρ3,O3,E3,Post.mono h3 λo2 H3 s3 q=> ?_⟩
 obtain⟨s3',E3',q3⟩:=q
 have rt:=(r'.same s2').same s3';unfold ES at q3
 split at q3
 ·rename_i y
  split at q3
  ·rename_i hl
   exact⟨y,Rep.FM.mp rt,hl,q3 H3 (Same.refl H3) _ (Rep.GP _)⟩
  ·exact q3.elim
 ·exact q3.elim
theorem bY {lo hi:Option Expr}{p2:Pos}{fl fu:En->Rs (Option Int)}(ha:QE X a fa)(hl:QO X lo fl)(hu:QO X hi fu):QE X (.Subscript a (.Slice lo hi none p2) pos) (fZ fa fl fu):=⟨wW ha.h hl.h hu.h⟩
end
def BZ (c:Nat):Str:=⟨#[c]⟩
end Tr
namespace L2
open PySem PySem.Spec PyProof.Rows
def Its (x:Str):It:=⟨λi _=>i<x.cps.size,λi H v H'=>H'=H/\∃c,x.cps[i]? =some c/\v= .str ⟨#[c]⟩,λi _=>x.cps.size<=i⟩
theorem uK {P:HZ}{w:ID}{K:Ho}{tg:Expr}(it:Addr)(x:Str)(t:Tok):vE P w K tg (Its x) [it] it (λi h=>h.IsStrIter it "str_ascii_iterator" x t i) where
 mem:=by simp
 obj:=λi h st b hb=>by
  have e:b=it:=by simpa using hb
  subst e;obtain⟨o,ho,hc,hd⟩:=st;exact⟨o,ho,λv z=>by rw[hd]at z;cases z⟩
 keep:=λi h h' st k=>let ⟨o,ho,r⟩:=st;⟨o,k it (by simp) o ho,r⟩
 item:=by
  intro X hP hw hK hc i pins s σ H E I hf st hg;subst hP hw hK;obtain⟨f0,f1,f2,f3,f4,f5⟩:=hf it (by simp)
  have W:=Walks.strAscii (prog:=X.prog) (w:=X.w) (I.ok.hd hc) it x t;refine W.item i s _ _ hg st λv h' tk hv st' kk=> ?_
  obtain⟨c,u,hx,rfl⟩:=hv
  have I1:Inv X pins σ H { s with heap:=h',toks:=tk }:=I.turned (λb o hb e=>kk b o (by simpa using hb) e) f0 f1 f3 f4 f5
  obtain⟨o,ho,hc',hd'⟩:=id st';exact⟨_,rfl,ua (s:={ s with heap:=h',toks:=tk }) (n:="str_ascii_iterator") ho hc' hd' (by decide) ⟨.str ⟨#[c]⟩,H,I1,⟨u,rfl⟩,⟨rfl,c,hx,rfl⟩,st',λb hb=>(hf b hb).1⟩⟩
 done:=by
  intro X hP hw hK hc i pins s σ H E I hf st hg;subst hP hw hK;obtain⟨f0,f1,f2,f3,f4,f5⟩:=hf it (by simp)
  exact wpAny_pyNext_ascii_end (I.ok.hd hc) st (by have:x.cps.size<=i:=hg;simp;omega) λh' eb=>⟨rfl,I.turned (t':=s.toks) (λb o hb e=>eb b o hb e) f0 f1 f3 f4 f5⟩
 self:=λ_ _ _ _ _ st h=>wpAny_pyIter_striter_ascii st h
section
variable {X:Cx}{tg:Expr}
def FY (tl:TE):TI:=λσ H R=>tl σ H λv H1=> ∃x:Str,v= .str x/\x.cps.all (· <128)=true/\R (Its x) H1
theorem zI {l:Expr}{tl:TE}(hl:PE X l tl):PI X tg l (FY tl):=by
 intro pins s σ H R I h;refine bK (hl pins s σ H _ I h) λv s1 hh_=> ?_
 obtain⟨y,H1,I1,r1,q1⟩:=hh_;obtain⟨x,e,ha,q⟩:=q1;subst e;obtain⟨t,rfl⟩:=r1;refine wpAny_pyIter_ascii ha ?_
 refine⟨s1.heap.objs.size,[s1.heap.objs.size],_,_,H1,rfl,I1.kept (t':=s1.toks) λb o e=>Hz _ e,uK _ x t,⟨_,HR _ rfl,rfl,rfl⟩,λb hb=> ?_,q⟩
 have e:b=s1.heap.objs.size:=by simpa using hb
 subst e;exact I1.GZ (HE _) (I1.hok.fresh (HE _))
end
end L2
namespace Tr
open PySem PySem.Spec PyProof.Rows L2 PySem.NumText
section
variable {X:Cx}{a b:Expr}{fa fb:En->Rs T}{pos:Pos}
def Ej (f:En->Rs T)(ρ:En):Rs (List T):=do
 let x <-f ρ
 match x with
 | .str y=>if y.cps.all (· <128)=true then .ok ((y.cps.toList.map BZ).map .str)else .bad
 | _=> .bad
theorem zr {tg:Expr}(ha:cx X a fa):vK X tg a (Ej fa):=PI.imp (zI ha) λσ H R hh_=>by
 obtain⟨ρ,O,E,h⟩:=hh_;obtain⟨ρ1,O1,E1,h1⟩:=aK E h;refine⟨ρ1,O1,E1,Post.mono h1 λts H1 s1 q vs r=> ?_⟩
 obtain⟨t',r',s',E',q'⟩:=q vs r
 split at q'
 ·rename_i y
  split at q'
  ·rename_i hy
   refine⟨y,Rep.FM.mp r',hy,q' H1 (Same.refl H1) _ λP O' hP hO i Hc hs ht=> ?_⟩
   refine⟨λhi=> ?_,λt ht'=> ?_⟩
   ·show y.cps.size<=i
    rw[Hw,Hw,IT]at hi;exact hi
   ·rw[Ib,Ib,JR]at ht'
    cases e:y.cps[i]? with
    | none=>rw[e]at ht';cases ht'
    | some c=>
     rw[e]at ht';cases ht';refine⟨(Ij.mp e).1,λx Hc' z=> ?_⟩
     obtain⟨e1,c',e2,e3⟩:=z;rw[e]at e2;cases e2;subst e1 e3;exact⟨Same.refl _,Rep.GP _⟩
  ·exact q'.elim
 ·exact q'.elim
def jS (x y:T):Rs T:=match x,y with
 | .str u,.str v=> .ok (.bl (!(!(Jj v u 0 v.length 1).isEmpty)))
 | _,_=> .bad
theorem uW:OpT X (IM .NotIn) jS:=by
 intro pins s σ H O x y vx vy ux uy Q I hf rx ry r1 r2 hp;unfold jS at hp
 split at hp
 ·cases Rep.FM.mp rx
  cases Rep.FM.mp ry;obtain⟨t,rfl⟩:=r1;obtain⟨u,rfl⟩:=r2;exact PySem.P.notIn_str ⟨.bl _,H,I,rfl,hp H (Same.refl H) _ (Rep.bl_ _)⟩
 ·exact hp.elim
def r6 (x y:T):Rs T:=match x,y with
 | .str u,.int n=>if n=0 then .ok (.str ⟨#[]⟩)else if n=1 then .ok (.str u)else .bad
 | _,_=> .bad
theorem zS:OpT X (Jq .Mult) r6:=by
 intro pins s σ H O x y vx vy ux uy Q I hf rx ry r1 r2 hp;unfold r6 at hp
 split at hp
 ·cases Rep.FM.mp rx
  cases Rep.Da.mp ry;obtain⟨t,rfl⟩:=r1;obtain⟨u,rfl⟩:=r2
  split at hp
  ·rename_i h0
   subst h0;exact PySem.P.mul_str_none (by decide) (by decide) ⟨.str _,H,I.tok _,⟨_,rfl⟩,hp H (Same.refl H) _ (Rep.GP _)⟩
  ·split at hp
   ·rename_i h1
    subst h1;refine PySem.P.mul_str (by decide) (λ_ z=>by simp at z) (λ_ z=>by simp at z) ?_
    rw[if_neg (by decide),if_pos (by simp)]
    exact⟨.str _,H,I,⟨_,rfl⟩,hp H (Same.refl H) _ (Rep.GP _)⟩
   ·exact hp.elim
 ·exact hp.elim
def Bp (x y:T):Rs T:=match x,y with
 | .str u,.int i=>if u.length<=1000000 then(match L2.atI u.cps.toList i with
  | some c=> .ok (.str (BZ c))
  | none=> .bad)else .bad
 | _,_=> .bad
theorem Fh (ha:cx X a fa)(hb:cx X b fb)(hs:autoParam (kK b) x_):cx X (.Subscript a b pos) (o2 Bp fa fb):=by
 intro pins s σ H Q I ⟨ρ,O,E,hq⟩
 have h1:=aK E hq;refine Pv (bK (ha pins s σ H _ I h1) λv s1 hh_=> ?_)
 obtain⟨x,H1,I1,r1,t,rt,s',E',q1⟩:=hh_
 have h2:=aK (f:=fb) E' q1;refine bK (hb pins s1 σ H1 _ I1 h2) λu s2 hh_=> ?_
 obtain⟨y,H2,I2,r2,t2,rt2,s'',E'',q2⟩:=hh_
 have rt':=rt.same s''
 cases t with
 | str z=>
  cases t2 with
  | int i=>
   unfold Bp at q2;dsimp only at q2
   split at q2
   ·rename_i hz
    split at q2
    ·rename_i c hc
     have hy:=Rep.Da.mp rt2;refine xX a b pins s2 σ H2 x y v u Q I2 r1 r2 ?_ (hs _ _)
     exact⟨z,i,c,Rep.FM.mp rt',hy,by rw[IZ];omega,hc,q2 H2 (Same.refl H2) _ (Rep.GP _)⟩
    ·exact q2.elim
   ·exact q2.elim
  | _=>exact q2.elim
 | _=>exact q2.elim
def Du:List T->Rs T
 | [.str x] =>if x.length<=640 then(match NX x with
  | some n=> .ok (.int n)
  | none=> .bad)else .bad
 | _=> .bad
theorem AS:CallT X (.type "int") Du:=by
 intro pins s σ H O ts vs us Q I hf rs rv hp;unfold Du at hp
 split at hp
 ·rename_i x
  split at hp
  ·rename_i hx
   split at hp
   ·rename_i n hn
    obtain⟨v,rfl,r⟩:=rs.one;obtain⟨u,rfl,z⟩:=Vals.one rv;rw[Rep.FM.mp r]at z;obtain⟨t,rfl⟩:=z;exact P6 hn hx ⟨.int n,H,I.tok _,⟨_,rfl⟩,hp H (Same.refl H) _ (Rep.GK n)⟩
   ·exact hp.elim
  ·exact hp.elim
 ·exact hp.elim
end
end Tr
namespace Tr
open PySem PySem.Spec PyProof.Rows L2
theorem BB {C D:Addr}(h:C≠D):(Io C::kz).contains (.ref D)=false:=by
 rw[JC]
 have:(Io D == Io C)=false:=by rw[beq_eq_false_iff_ne];exact λz=>h (Ol z).symm
 rw[this];rfl
theorem tM {l:List Addr}{a b:Addr}(h:l.Nodup)(i j:Nat)(hij:i≠j)(ha:l[i]? =some a)(hb:l[j]? =some b):a≠b:=λz=>
 hij ((List.getElem?_inj (HU.mp ha).1 h).mp (ha.trans (z▸hb.symm)))
section
variable {X:Cx}{a b:Expr}{fa fb:En->Rs T}{pos:Pos}
theorem vN {tg:Expr}(ha:QE X a fa):QI X tg a (Ej fa):=⟨zr ha.h⟩
theorem vP (ha:QE X a fa)(hb:QE X b fb)(hs:autoParam (kK b) x_):QE X (.Subscript a b pos) (o2 Bp fa fb):=⟨Fh ha.h hb.h hs⟩
theorem Ey (i:Nat){st:Stmt}{F:En->Rs Fl}(h:US X st F):US X st (B4 i F):=⟨λpins s σ H D I hh_=>by
 obtain⟨ρ,B,M,E,q⟩:=hh_;obtain⟨E',sub⟩:=E.disown i;exact h.h pins s σ H D I ⟨disown i ρ,B,_,E',PostF.later q (λ_ _ e _=>e) λa z=> .inl (sub a z)⟩⟩
def rEqB:R2:=λx y H Q=> ∃a b,x= .ref a/\y= .ref b/\H a=some (.lst [.bl true,.bl false,.bl false])/\H b=some (.lst [.bl true,.bl false,.bl false])/\∀H',Same H H'->Q (.bl true) H'
theorem CQ (hu:X.A.units+60<cLine):mf X (IM .Eq) rEqB:=by
 intro pins s σ H x y v u Q I rx ry h;obtain⟨a,b,rfl,rfl,ha,hb,q⟩:=h
 have rb:Reps X.K (λ_=>False) H [.bl true,.bl false,.bl false] [.bl true,.bl false,.bl false]:=Reps.GE (Rep.bl_ _) (Reps.GE (Rep.bl_ _) (Reps.GE (Rep.bl_ _) Reps.GJ))
 refine gC hu pins s σ H (λ_=>False) (.lst [.bl true,.bl false,.bl false]) (.lst [.bl true,.bl false,.bl false]) _ _ v u Q I (λ_ _ z=>z) (Rep.Fk.mpr ⟨a,_,rfl,id,ha,rb⟩) (Rep.Fk.mpr ⟨b,_,rfl,id,hb,rb⟩) rx ry ?_
 have e:eqT (.lst [.bl true,.bl false,.bl false]) (.lst [.bl true,.bl false,.bl false])= .ok (.bl true):=by
  unfold eqT;rw[if_pos (eE (by simp[T.dep,deps]) rfl rfl)]
  rfl
 rw[e];exact λH' sm v r=>by rw[Rep.Gc.mp r];exact q H' sm
def hFl (d:Str)(c:Str):Rs T:=if c=d then .ok .non else .bad
theorem p8 (i j:Nat){en fln dT dR dE:Str}{CT CR CN CE:Addr}{kz:List Hs}{q q1 q2 q3 r r1 r2 r3 t t1 t2 t3 v v1 v2 v3 fp lp ap np l2 cp bp cc rp ip k1 k2 k3:Pos}{j1 j2 j3 jj:Nat}
  (OT:OX X.K CT (.ref CE::kz)) (OR:OX X.K CR (.ref CE::kz)) (ON:OX X.K CN (.ref CE::kz)) (mT:X.mg dT=some (.ref CT)) (mR:X.mg dR=some (.ref CR)) (mE:X.mg dE=some (.ref CN)) (nR:CT≠CR) (nE:CT≠CN)
  (bR:(Io CE::kz).contains (.ref CR)=false) (bE:(Io CE::kz).contains (.ref CN)=false) (hm:X.mg "isinstance" =none) (hmV:X.mg "ValueError" =none) (hu:X.A.units+60<cLine) (nd:X.N.Nodup) (hij:j≠i)
  (hN:autoParam (X.N[i]? =some en) u_) (hNj:autoParam (X.N[j]? =some fln) u_) (hv:autoParam (rl X.env.scope en) v_) (hvj:autoParam (rl X.env.scope fln) v_)
  (hl:autoParam (Loc X.env.scope fln) y_) (hfn:autoParam (X.fn fln=true\/X.env.scope.names.lookup fln=some .local) c_)
  (hg:autoParam (Gl X "isinstance") u_) (hgV:autoParam (Gl X "ValueError") u_) (gT:autoParam (Gl X dT) u_) (gR:autoParam (Gl X dR) u_) (gE:autoParam (Gl X dE) u_) (hde:autoParam ((en == ("__debug__" : Str))=false) s_) (hce:autoParam ((en == ("__classdict__" : Str))=false) s_) (hda:autoParam ((fln == ("__debug__" : Str))=false) s_) (hca:autoParam ((fln == ("__classdict__" : Str))=false) s_)
  (d1:autoParam ((dT == ("__debug__" : Str))=false) s_) (d2:autoParam ((dR == ("__debug__" : Str))=false) s_) (d3:autoParam ((dE == ("__debug__" : Str))=false) s_)
  (hsw:autoParam (JT (.List [.Call (.Name "isinstance" q) [.Name en q1,.Name dT q2] [] q3,.Call (.Name "isinstance" r) [.Name en r1,.Name dR r2] [] r3,.Call (.Name "isinstance" t) [.Name en t1,.Name dE t2] [] t3] lp) (some (.Name fln fp)) ap.line X.env=pure false) u_) :
  pL X i [.Assign [.Name fln fp] (.List [.Call (.Name "isinstance" q) [.Name en q1,.Name dT q2] [] q3,.Call (.Name "isinstance" r) [.Name en r1,.Name dR r2] [] r3,.Call (.Name "isinstance" t) [.Name en t1,.Name dE t2] [] t3] lp) ap,
   .If (.BoolOp .And [.Call (.Name "isinstance" v) [.Name en v1,.Name "ValueError" v2] [] v3,.Compare (.Name fln np) [.Eq] [.List [.Constant (.bool true) j1 k1,.Constant (.bool false) j2 k2,.Constant (.bool false) j3 k3] l2] cp] bp) [.Return (some (.Constant .none jj cc)) rp] [] ip] CE (hFl dT):=by
 intro c C tt hmc ht;unfold hFl at ht
 split at ht
 ·rename_i hc0
  cases ht;rw[hc0,mT]at hmc;cases hmc;refine⟨_,OT,by rw[JC,JC,beq_self_eq_true,Bool.true_or,Nt],λe oe ev hc hd pins s σ H O Q I hH hf hσ hO hq=> ?_⟩
  have hp:(e,oe)∈(mm X e oe).pn:=HD
  have hlen:j<σ.length:=by
   have h1:=I.len
   have h2:=(HU.mp hNj).1
   have h3:(mm X e oe).N=X.N:=rfl;rw[h3]at h1;omega
  refine qm (rS (X:=mm X e oe) (i:=j) nd hNj hl (rW (cM (om (X:=mm X e oe) i hN hv hp hc hd OT OT true (by simp) (λz=>absurd rfl z) hm mT hg gT hde hce d1) (cM (om (X:=mm X e oe) i hN hv hp hc hd OT OR false (by simp[nR]) (λ_=>bR) hm mR hg gR hde hce d2) (cM (om (X:=mm X e oe) i hN hv hp hc hd OT ON false (by simp[nE]) (λ_=>bE) hm mE hg gE hde hce d3) i8 (aO rfl)) (aO rfl)) (aO rfl))) hsw hfn)
   (oj (Bc (PW.pt (wY (wZ (zO (X:=mm X e oe) i hN hv hp hc OT hm hmV hg hgV hde hce)) (tw (zC (CQ (X:=mm X e oe) hu) (jR (X:=mm X e oe) hNj hvj hda hca) (rW (cM tJ (cM tJ (cM tJ i8 (aO rfl)) (aO rfl)) (aO rfl))) (C2 _))))) (oj (w6 xf)) tD)) pins s σ H _ I ?_
  refine⟨hσ,hσ,hσ,(by show 3<=sizeLine;decide),λl1 n1=> ?_⟩
  have hσ':(σ.set j (some (V.ref l1)))[i]? =some (some (.ref e)):=by rw[Ii hij];exact hσ
  have hσj:(σ.set j (some (V.ref l1)))[j]? =some (some (.ref l1)):=by rw[Im hlen]
  refine⟨hσ',true,rfl,L2.iteT ?_⟩
  refine⟨.ref l1,hσj,(by show 3<=sizeLine;decide),λl2 n2=> ?_⟩
  have h12:l1≠l2:=λz=>by subst z;rw[bx]at n2;cases n2
  refine⟨l1,l2,rfl,rfl,by rw[a8 h12];exact bx,bx,λH' sm=>⟨true,rfl,L2.iteT (hq _ _ (λb o hb=>sm b o ?_) Rep.G1)⟩⟩
  have m1:b≠l1:=λz=>by subst z;rw[n1]at hb;cases hb
  have m2:b≠l2:=λz=>by subst z;rw[a8 m1,hb]at n2;cases n2
  rw[a8 m2,a8 m1];exact hb
 ·cases ht
end
end Tr
namespace G
open PySem PySem.Spec PyProof.Rows L2 Tr
structure Bl (mg:Str->Option Hs):Prop where
 b_ValueError:mg "ValueError" =none
 b_all:mg "all" =none
 b_bool:mg "bool" =none
 b_enumerate:mg "enumerate" =none
 b_int:mg "int" =none
 b_isinstance:mg "isinstance" =none
 b_len:mg "len" =none
 b_range:mg "range" =none
 b_set:mg "set" =none
 b_sorted:mg "sorted" =none
 b_str:mg "str" =none
 b_tuple:mg "tuple" =none
structure Cs (mg:Str->Option Hs):Prop where
 MOST_CLOCKS:∃t,mg "MOST_CLOCKS" =some (.int 4 t)
 MOST_LETTERS:∃t,mg "MOST_LETTERS" =some (.int 8 t)
 MOST_READINGS:∃t,mg "MOST_READINGS" =some (.int 4 t)
 LAST_READING:∃t,mg "LAST_READING" =some (.int 99 t)
 SLOWEST:∃t,mg "SLOWEST" =some (.int 9 t)
 LONGEST:∃t,mg "LONGEST" =some (.int 999 t)
theorem pF:Ir "bool" =some (.type "bool"):=by decide+kernel
theorem fJ:Ir "int" =some (.type "int"):=by decide+kernel
theorem cb:Ir "str" =some (.type "str"):=by decide+kernel
theorem ck:Ir "tuple" =some (.type "tuple"):=by decide+kernel
structure Xs (K:Ho)(mg:Str->Option Hs)(C_NoRecord C_NoEvent C_NoText C_ClockError:Addr):Prop where
 m_NoRecord:mg "NoRecord" =some (.ref C_NoRecord)
 m_NoEvent:mg "NoEvent" =some (.ref C_NoEvent)
 m_NoText:mg "NoText" =some (.ref C_NoText)
 m_ClockError:mg "ClockError" =some (.ref C_ClockError)
 o_NoRecord:OX K C_NoRecord (.ref C_ClockError::kz)
 o_NoEvent:OX K C_NoEvent (.ref C_ClockError::kz)
 o_NoText:OX K C_NoText (.ref C_ClockError::kz)
 o_ClockError:OX K C_ClockError kz
 d:[C_NoRecord,C_NoEvent,C_NoText,C_ClockError].Nodup
end G
namespace G
open PySem Tr
def iZ:En->Rs Fl:=
 (aD (bN (dz ag) (gN 1)) (aD (i6 (iE (ae (vr 0) ag)) (gT 2 (vk (gN 2) (vk (gN 3) Bq))) (bN (o2 aw (vr 1) (eH (iR (ae (cl bW (ae (o2 aW (vr 3) (cn (.int 2))) ag)) ag)) [none,some 2] (gN 0) bT (bQ (ae (vr 1) (ae (vr 0) ag))))) (gN 1))) (aP (vr 1))))
def dW:List T->Rs T:=val 1 4 iZ
def ig:En->Rs Fl:=
 (aD (gI (tb (o2 eqT (vr 0) (dz ag))) (aP (o2 dm (cn (.int 7)) (vr 1))) sN) (aP (o2 aw (o2 aW (vr 0) (o2 je (vr 1) (cl bW (ae (vr 0) ag)))) (o2 dm (cn (.int 6553)) (o2 jE (vr 1) (cl bW (ae (vr 0) ag)))))))
def ej:List T->Rs T:=val 2 2 ig
def gA:En->Rs Fl:=
 (aD (bN (o2 je (o2 aw (o2 dm (o2 je (cl ej (ae (vr 0) (ae (vr 1) ag))) (cn (.int 2147483563))) (cn (.int 69069))) (o2 dm (cn (.int 104723)) (o2 aw (vr 1) (cn (.int 1))))) (cn (.int 2147483563))) (gN 3)) (aD (bN (o2 je (o2 aw (o2 dm (vr 3) (vr 3)) (o2 jE (vr 3) (cn (.int 3)))) (cn (.int 2147483399))) (gN 3)) (aP (o2 je (o2 jE (o2 je (o2 aw (o2 dm (vr 3) (vr 3)) (o2 jE (vr 3) (cn (.int 7)))) (cn (.int 2147483647))) (cn (.int 11))) (vr 2)))))
def ao:List T->Rs T:=val 3 4 gA
def ie:En->Rs Fl:=
 (aD (bN (bQ ag) (gN 2)) (aD (i6 (iR (ae (o2 aw (cn (.int 1)) (cl ao (ae (vr 0) (ae (vr 1) (ae (cn (.int 4)) ag))))) ag)) (gN 3) (aD (bN (o2 aw (o2 aw (vr 1) (cn (.int 1))) (o2 dm (cn (.int 8)) (vr 3))) (gN 4)) (aD (bN (o2 aw (cn (.int 1)) (cl ao (ae (vr 0) (ae (vr 4) (ae (cn (.int 9)) ag))))) (gN 5)) (aD (bN (eH (iR (ae (o2 aw (cn (.int 1)) (cl ao (ae (vr 0) (ae (o2 aw (vr 4) (cn (.int 1))) (ae (cn (.int 4)) ag))))) ag)) [none,some 0,some 4] (gN 0) bT (cl ao (ae (vr 1) (ae (o2 aw (o2 aw (vr 2) (cn (.int 2))) (vr 0)) (ae (cn (.int 100)) ag))))) (gN 6)) (aD (bN (o2 aw (vr 5) (cl ao (ae (vr 0) (ae (o2 aw (vr 4) (cn (.int 7))) (ae (o2 gK (cn (.int 10)) (vr 5)) ag))))) (gN 7)) (bN (o2 aw (vr 2) (bQ (ae (bQ (ae (vr 5) (ae (vr 7) (ae (cl dh (ae (cl mU (ae (vr 6) ag)) ag)) ag)))) ag))) (gN 2))))))) (aD (bN (cl dW (ae (vr 2) ag)) (gN 8)) (aD (bN (bQ ag) (gN 9)) (aD (i6 (iR (ae (o2 dm (cl ao (ae (vr 0) (ae (o2 aw (vr 1) (cn (.int 40))) (ae (cn (.int 9)) ag)))) (cl mI (ae (o2 Dx (cl bW (ae (vr 8) ag)) (cn (.int 1))) ag))) ag)) (gN 3) (aD (bN (o2 aw (o2 aw (vr 1) (cn (.int 41))) (o2 dm (cn (.int 6)) (vr 3))) (gN 4)) (aD (bN (cl ao (ae (vr 0) (ae (vr 4) (ae (cl bW (ae (vr 8) ag)) ag)))) (gN 10)) (aD (bN (o2 je (o2 aw (o2 aw (vr 10) (cn (.int 1))) (cl ao (ae (vr 0) (ae (o2 aw (vr 4) (cn (.int 1))) (ae (o2 gK (cl bW (ae (vr 8) ag)) (cn (.int 1))) ag))))) (cl bW (ae (vr 8) ag))) (gN 11)) (aD (bN (cl ao (ae (vr 0) (ae (o2 aw (vr 4) (cn (.int 2))) (ae (o2 aW (dz (ae (cn (.int 10)) (ae (cn (.int 1000)) ag))) (cl ao (ae (vr 0) (ae (o2 aw (vr 4) (cn (.int 3))) (ae (cn (.int 2)) ag))))) ag)))) (gN 12)) (aD (bN (o2 aW (dz (ae (cn .non) (ae (vr 12) (ae (cn (.int 999)) (ae (o2 aw (vr 12) (cl ao (ae (vr 0) (ae (o2 aw (vr 4) (cn (.int 5))) (ae (o2 gK (cn (.int 1000)) (vr 12)) ag))))) ag))))) (cl ao (ae (vr 0) (ae (o2 aw (vr 4) (cn (.int 4))) (ae (cn (.int 4)) ag))))) (gN 13)) (bN (o2 aw (vr 9) (bQ (ae (bQ (ae (o2 aW (vr 8) (vr 10)) (ae (o2 aW (vr 8) (vr 11)) (ae (vr 12) (ae (vr 13) ag))))) ag))) (gN 9)))))))) (aP (bQ (ae (vr 2) (ae (vr 9) ag)))))))))
def d9:List T->Rs T:=val 2 14 ie
def nL:En->Rs Fl:=
 (aP (cE (o1 (yR "tuple") (vr 0)) (ch sf sf (vr 1) (cl bW (ae (vr 0) ag)) (vr 2))))
def aJ:List T->Rs T:=val 3 3 nL
def sH:En->Rs Fl:=
 (aP (cE (o1 (yR "int") (vr 0)) (o1 z4 (o1 (yR "bool") (vr 0)))))
def gp:List T->Rs T:=val 1 1 sH
def ib:En->Rs Fl:=
 (aP (cE (cl gp (ae (vr 0) ag)) (ch sf sf (vr 1) (vr 0) (vr 2))))
def aU:List T->Rs T:=val 3 3 ib
def ka:En->Rs Fl:=
 (aP (cE (cl aU (ae (vr 0) (ae (cn (.int 1)) (ae (cn (.int 9)) ag)))) (cl aU (ae (vr 1) (ae (vr 0) (ae (cn (.int 9)) ag))))))
def ff:List T->Rs T:=val 2 2 ka
def uE:En->Rs Fl:=
 (aP (cl mK (ae (eH (iR (ae (o2 gK (cl bW (ae (vr 0) ag)) (cn (.int 1))) ag)) [none,some 0] (gN 0) bT (o2 ltT (o2 aW (vr 1) (vr 0)) (o2 aW (vr 1) (o2 aw (vr 0) (cn (.int 1)))))) ag)))
def ix:List T->Rs T:=val 1 1 uE
def dA:En->Rs Fl:=
 (aD (gI (di (tb (cl aJ (ae (vr 0) (ae (cn (.int 1)) (ae (cn (.int 4)) ag)))))) (aP (cn (.bl false))) sN) (aP (cE (cl mK (ae (eH (iS (vr 0)) [none] (gN 0) bT (cl aU (ae (vr 0) (ae (cn (.int 0)) (ae (cn (.int 99)) ag))))) ag)) (cl ix (ae (vr 0) ag)))))
def bA:List T->Rs T:=val 1 1 dA
def gx:En->Rs Fl:=
 (aP (cE (cl aJ (ae (vr 0) (ae (cn (.int 3)) (ae (cn (.int 3)) ag)))) (cE (cl ff (ae (o2 aW (vr 0) (cn (.int 0))) (ae (o2 aW (vr 0) (cn (.int 1))) ag))) (cl bA (ae (o2 aW (vr 0) (cn (.int 2))) ag)))))
def cT:List T->Rs T:=val 1 1 gx
def gz:En->Rs Fl:=
 (aP (cE (cl aJ (ae (vr 0) (ae (cn (.int 1)) (ae (cn (.int 4)) ag)))) (cl mK (ae (eH (iS (vr 0)) [none] (gN 0) bT (cl cT (ae (vr 0) ag))) ag))))
def cX:List T->Rs T:=val 1 1 gz
def gv:En->Rs Fl:=
 (aD (gI (mj (di (tb (cl aJ (ae (vr 1) (ae (cn (.int 2)) (ae (cn (.int 2)) ag)))))) (di (tb (cl aU (ae (o2 aW (vr 1) (cn (.int 0))) (ae (cn (.int 0)) (ae (o2 gK (cl bW (ae (vr 0) ag)) (cn (.int 1))) ag))))))) (aP (cn (.bl false))) sN) (aP (cl aU (ae (o2 aW (vr 1) (cn (.int 1))) (ae (cn (.int 0)) (ae (o2 gK (cl bW (ae (o2 aW (o2 aW (vr 0) (o2 aW (vr 1) (cn (.int 0)))) (cn (.int 2))) ag)) (cn (.int 1))) ag))))))
def cS:List T->Rs T:=val 2 2 gv
def gw:En->Rs Fl:=
 (aP (cE (cl aU (ae (vr 0) (ae (cn (.int 0)) (ae (cn (.int 999)) ag)))) (Fz (o2 lN (vr 1) (cn .non)) (cl aU (ae (vr 1) (ae (vr 0) (ae (cn (.int 999)) ag)))))))
def dj:List T->Rs T:=val 2 2 gw
def dr:En->Rs Fl:=
 (aD (gI (mj (di (tb (cl aJ (ae (vr 1) (ae (cn (.int 4)) (ae (cn (.int 4)) ag)))))) (di (tb (cl dj (ae (o2 aW (vr 1) (cn (.int 2))) (ae (o2 aW (vr 1) (cn (.int 3))) ag)))))) (aP (cn (.bl false))) sN) (aP (cE (cl cS (ae (vr 0) (ae (o2 aW (vr 1) (cn (.int 0))) ag))) (cE (cl cS (ae (vr 0) (ae (o2 aW (vr 1) (cn (.int 1))) ag))) (o2 neT (o2 aW (vr 1) (cn (.int 0))) (o2 aW (vr 1) (cn (.int 1))))))))
def bM:List T->Rs T:=val 2 2 dr
def fU:En->Rs Fl:=
 (aP (cE (cl aJ (ae (vr 1) (ae (cn (.int 0)) (ae (cn (.int 8)) ag)))) (cl mK (ae (eH (iS (vr 1)) [none,some 0] (gN 0) bT (cl bM (ae (vr 1) (ae (vr 0) ag)))) ag))))
def cJ:List T->Rs T:=val 2 2 fU
def fK:En->Rs Fl:=
 (aP (cE (cl aJ (ae (vr 0) (ae (cn (.int 2)) (ae (cn (.int 2)) ag)))) (cE (cl cX (ae (o2 aW (vr 0) (cn (.int 0))) ag)) (cl cJ (ae (o2 aW (vr 0) (cn (.int 0))) (ae (o2 aW (vr 0) (cn (.int 1))) ag))))))
def aQ:List T->Rs T:=val 1 1 fK
def fS:En->Rs Fl:=
 (gI (di (tb (cl aQ (ae (vr 0) ag)))) (uS "NoRecord") sN)
def dU:List T->Rs T:=val 1 1 fS
def gy:En->Rs Fl:=
 (aD (bN (oS cP (cn (.str " ")) (ae (eH (iS (o2 aW (vr 0) (cn (.int 2)))) [none] (gN 0) bT (cl gG (ae (vr 0) ag))) ag)) (gN 1)) (aP (o2 aw (o2 aw (o2 aw (o2 aw (o2 aw (o2 aw (cn (.str "clock ")) (cl gG (ae (o2 aW (vr 0) (cn (.int 0))) ag))) (cn (.str "-"))) (cl gG (ae (o2 aW (vr 0) (cn (.int 1))) ag))) (cn (.str " "))) (vr 1)) (cn (.str "\n")))))
def bw:List T->Rs T:=val 1 2 gy
def pO:En->Rs Fl:=
 (aP (o2 aw (o2 aw (cl gG (ae (o2 aW (vr 0) (cn (.int 0))) ag)) (cn (.str "."))) (cl gG (ae (o2 aW (vr 0) (cn (.int 1))) ag))))
def cz:List T->Rs T:=val 1 1 pO
def fT:En->Rs Fl:=
 (aD (bN (qN (tb (o2 lN (o2 aW (vr 0) (cn (.int 3))) (cn .non))) (cn (.str "")) (cl gG (ae (o2 aW (vr 0) (cn (.int 3))) ag))) (gN 1)) (aP (o2 aw (o2 aw (o2 aw (o2 aw (o2 aw (o2 aw (o2 aw (o2 aw (cn (.str "letter ")) (cl cz (ae (o2 aW (vr 0) (cn (.int 0))) ag))) (cn (.str " "))) (cl cz (ae (o2 aW (vr 0) (cn (.int 1))) ag))) (cn (.str " "))) (cl gG (ae (o2 aW (vr 0) (cn (.int 2))) ag))) (cn (.str "-"))) (vr 1)) (cn (.str "\n")))))
def bq:List T->Rs T:=val 1 2 fT
def fR:En->Rs Fl:=
 (aD (Eh (cl dU (ae (vr 0) ag))) (aD (bN (eH (iS (o2 aW (vr 0) (cn (.int 0)))) [none] (gN 0) bT (cl bw (ae (vr 0) ag))) (gN 1)) (aD (bN (eH (iS (o2 aW (vr 0) (cn (.int 1)))) [none] (gN 0) bT (cl bq (ae (vr 0) ag))) (gN 2)) (aP (oS cP (cn (.str "")) (ae (o2 aw (vr 1) (vr 2)) ag))))))
def bu:List T->Rs T:=val 1 3 fR
def fV:En->Rs Fl:=
 (aD (gI (mj (di (tb (ch sf sf (cn (.int 1)) (cl bW (ae (vr 0) ag)) (cn (.int 3))))) (tb (o2 neT (eH (Ej (vr 0)) [none] (gN 0) (tb (o2 jS (vr 0) (cn (.str "0123456789")))) (vr 0)) (dz ag)))) (aP (cn .non)) sN) (aP (qN (mj (tb (o2 neT (o2 Bp (vr 0) (cn (.int 0))) (cn (.str "0")))) (tb (o2 eqT (vr 0) (cn (.str "0"))))) (cl Du (ae (vr 0) ag)) (cn .non))))
def aY:List T->Rs T:=val 1 1 fV
def jl:En->Rs Fl:=
 (aD (bN (oS bV (vr 0) (ae (vr 1) ag)) (gN 2)) (aP (qN (tb (o2 eqT (cl bW (ae (vr 2) ag)) (cn (.int 2)))) (cl dh (ae (eH (iS (vr 2)) [none] (gN 0) bT (cl aY (ae (vr 0) ag))) ag)) (bQ (ae (cn .non) (ae (cn .non) ag))))))
def a9:List T->Rs T:=val 2 3 jl
def jm:En->Rs Fl:=
 (aD (bN (bQ ag) (gN 1)) (aD (bN (bQ ag) (gN 2)) (aD (bN (oS bV (vr 0) (ae (cn (.str "\n")) ag)) (gN 3)) (aD (i6 (iS (sl (vr 3) pN (pS (o1 c9 (cn (.int 1)))))) (gN 4) (aD (bN (oS bV (vr 4) (ae (cn (.str " ")) ag)) (gN 5)) (gI (hZ (tb (o2 eqT (o2 aW (vr 5) (cn (.int 0))) (cn (.str "clock")))) (hZ (tb (o2 Dx (cl bW (ae (vr 5) ag)) (cn (.int 2)))) (tb (o2 eqT (vr 2) (bQ ag))))) (aD (bN (cl dh (ae (eH (iS (sl (vr 5) (pS (cn (.int 2))) pN)) [none] (gN 0) bT (cl aY (ae (vr 0) ag))) ag)) (gN 6)) (bN (o2 aw (vr 1) (bQ (ae (o2 aw (cl a9 (ae (o2 aW (vr 5) (cn (.int 1))) (ae (cn (.str "-")) ag))) (bQ (ae (vr 6) ag))) ag))) (gN 1))) (gI (hZ (tb (o2 eqT (o2 aW (vr 5) (cn (.int 0))) (cn (.str "letter")))) (tb (o2 eqT (cl bW (ae (vr 5) ag)) (cn (.int 4))))) (aD (bN (cl a9 (ae (o2 aw (o2 aW (vr 5) (cn (.int 3))) (o2 r6 (cn (.str "0")) (cl mI (ae (o2 eqT (fZ (o2 aW (vr 5) (cn (.int 3))) (pS (o1 c9 (cn (.int 1)))) pN) (cn (.str "-"))) ag)))) (ae (cn (.str "-")) ag))) (gT 2 (vk (gN 7) (vk (gN 8) Bq)))) (aD (bN (qN (tb (o2 eqT (fZ (o2 aW (vr 5) (cn (.int 3))) (pS (o1 c9 (cn (.int 1)))) pN) (cn (.str "-")))) (cn .non) (qN (tb (o2 lN (vr 8) (cn .non))) (o1 c9 (cn (.int 1))) (vr 8))) (gN 9)) (aD (bN (bQ (ae (cl a9 (ae (o2 aW (vr 5) (cn (.int 1))) (ae (cn (.str ".")) ag))) (ae (cl a9 (ae (o2 aW (vr 5) (cn (.int 2))) (ae (cn (.str ".")) ag))) ag))) (gN 10)) (bN (o2 aw (vr 2) (bQ (ae (o2 aw (vr 10) (bQ (ae (vr 7) (ae (vr 9) ag)))) ag))) (gN 2))))) (aP (cn .non)))))) (aD (bN (bQ (ae (vr 1) (ae (vr 2) ag))) (gN 11)) (aP (qN (hZ (tb (o2 eqT (o2 aW (vr 3) (o1 c9 (cn (.int 1)))) (cn (.str "")))) (tb (cl aQ (ae (vr 11) ag)))) (vr 11) (cn .non))))))))
def dN:List T->Rs T:=val 1 12 jm
def ri:En->Rs Fl:=
 (uR (vr 0))
def bz:List T->Rs T:=val 1 1 ri
def cf:En->Rs Fl:=
 (aD (bN (oS fH (vr 0) (ae (vr 1) ag)) (gN 2)) (aP (bQ (ae (cl bz (ae (o2 aW (vr 2) (cn (.int 0))) ag)) (ae (cl bz (ae (o2 aW (vr 2) (cn (.int 2))) ag)) ag)))))
def aV:List T->Rs T:=val 2 3 cf
def fF:En->Rs Fl:=
 (aD (bN (oS fH (vr 0) (ae (cn (.str " ")) ag)) (gN 1)) (aD (bN (eH (iS (oS bV (o2 aW (vr 1) (cn (.int 2))) (ae (cn (.str " ")) ag))) [none] (gN 0) bT (cl bz (ae (vr 0) ag))) (gN 2)) (aP (o2 aw (cl aV (ae (o2 aW (vr 1) (cn (.int 0))) (ae (cn (.str "-")) ag))) (bQ (ae (cl dh (ae (vr 2) ag)) ag))))))
def cj:List T->Rs T:=val 1 3 fF
def eF:En->Rs Fl:=
 (aD (bN (oS fH (vr 0) (ae (cn (.str " ")) ag)) (gN 1)) (aD (bN (oS fH (o2 aW (vr 1) (cn (.int 2))) (ae (cn (.str " ")) ag)) (gN 2)) (aP (o2 aw (bQ (ae (cl aV (ae (o2 aW (vr 1) (cn (.int 0))) (ae (cn (.str ".")) ag))) (ae (cl aV (ae (o2 aW (vr 2) (cn (.int 0))) (ae (cn (.str ".")) ag))) ag))) (cl aV (ae (o2 aW (vr 2) (cn (.int 2))) (ae (cn (.str "-")) ag)))))))
def bL:List T->Rs T:=val 1 3 eF
def yN:En->Rs Fl:=
 (aP (eH (iS (vr 0)) [none,some 1] (gN 0) (tb (oS il (vr 0) (ae (vr 1) ag))) (o2 aW (oS fH (vr 0) (ae (cn (.str " ")) ag)) (cn (.int 2)))))
def b6:List T->Rs T:=val 2 2 yN
def de:En->Rs Fl:=
 (aD (gI (di (tb (o1 (yR "str") (vr 0)))) (uS "NoText") sN) (aD (bN (oS bV (vr 0) (ae (cn (.str "\n")) ag)) (gN 1)) (aD (bN (eH (iS (cl b6 (ae (vr 1) (ae (cn (.str "clock ")) ag)))) [none] (gN 0) bT (cl cj (ae (vr 0) ag))) (gN 2)) (aD (bN (eH (iS (cl b6 (ae (vr 1) (ae (cn (.str "letter ")) ag)))) [none] (gN 0) bT (cl bL (ae (vr 0) ag))) (gN 3)) (aD (bN (bQ (ae (cl dh (ae (vr 2) ag)) (ae (cl dh (ae (vr 3) ag)) ag))) (gN 4)) (aD (gI (mj (di (tb (cl aQ (ae (vr 4) ag)))) (tb (o2 neT (cl bu (ae (vr 4) ag)) (vr 0)))) (uS "NoText") sN) (aP (vr 4))))))))
def cI:List T->Rs T:=val 1 5 de
def rj:En->Rs Fl:=
 (aD (qj (aP (cl cI (ae (vr 0) ag))) (hFl "NoText")) (aP (cn (.bl false))))
def ei:List T->Rs T:=val 1 3 rj
def yM:En->Rs Fl:=
 (aD (bN (cl d9 (ae (vr 0) (ae (cn (.int 0)) ag))) (gN 1)) (aD (bN (cl bu (ae (vr 1) ag)) (gN 2)) (aD (bN (cl ao (ae (vr 0) (ae (cn (.int 120)) (ae (o2 aw (cl bW (ae (vr 2) ag)) (cn (.int 1))) ag)))) (gN 3)) (aD (bN (o2 Bp (cn (.str "0123 \n-.cl")) (cl ao (ae (vr 0) (ae (cn (.int 121)) (ae (cn (.int 10)) ag))))) (gN 4)) (aD (mW 5 (ae (vr 2) (ae (o2 aw (fZ (vr 2) pN (pS (vr 3))) (fZ (vr 2) (pS (o2 aw (vr 3) (cn (.int 1)))) pN)) (ae (o2 aw (fZ (vr 2) pN (pS (o2 aw (vr 3) (cn (.int 1))))) (fZ (vr 2) (pS (vr 3)) pN)) (ae (o2 aw (o2 aw (fZ (vr 2) pN (pS (vr 3))) (vr 4)) (fZ (vr 2) (pS (o2 aw (vr 3) (cn (.int 1)))) pN)) ag))))) (aD (n9 5 (dz (ae (o2 aw (o2 aw (fZ (vr 2) pN (pS (vr 3))) (vr 4)) (fZ (vr 2) (pS (vr 3)) pN)) (ae (cn (.str "")) (ae (cn (.str "clock 1-1 0\n")) (ae (cn (.str "clock 1-1\n")) (ae (cn (.str "letter 0.0 0.1 0-\n")) (ae (fZ (vr 2) pN (pS (o1 c9 (cn (.int 1))))) ag)))))))) (aD (bN (oS bV (vr 2) (ae (cn (.str "\n")) ag)) (gN 6)) (aD (bN (cl ao (ae (vr 0) (ae (cn (.int 122)) (ae (cl bW (ae (vr 6) ag)) ag)))) (gN 7)) (aD (n9 5 (dz (ae (oS cP (cn (.str "\n")) (ae (o2 aw (sl (vr 6) pN (pS (vr 7))) (sl (vr 6) (pS (o2 aw (vr 7) (cn (.int 1)))) pN)) ag)) (ae (oS cP (cn (.str "\n")) (ae (o2 aw (sl (vr 6) pN (pS (o2 aw (vr 7) (cn (.int 1))))) (sl (vr 6) (pS (vr 7)) pN)) ag)) ag)))) (aD (bN (o2 aw (o2 aw (sl (vr 6) pN (pS (vr 7))) (o1 wN (sl (vr 6) (pS (vr 7)) (pS (o2 aw (vr 7) (cn (.int 2))))))) (sl (vr 6) (pS (o2 aw (vr 7) (cn (.int 2)))) pN)) (gN 8)) (aD (oa 5 (oS cP (cn (.str "\n")) (ae (vr 8) ag))) (aD (i6 (iR (ae (o2 gK (cl bW (ae (vr 6) ag)) (cn (.int 1))) ag)) (gN 9) (aD (bN (o2 aW (vr 6) (vr 9)) (gN 10)) (aD (bN (dz (ae (o2 aw (fZ (vr 10) pN (pS (o1 c9 (cn (.int 1))))) (cl gG (ae (cl ao (ae (vr 0) (ae (o2 aw (cn (.int 130)) (vr 9)) (ae (cn (.int 10)) ag)))) ag))) (ae (o2 aw (vr 10) (cn (.str " 7"))) ag))) (gN 11)) (aD (bN (o2 aw (vr 11) (dz (ae (oS cP (cn (.str " ")) (ae (sl (oS bV (vr 10) (ae (cn (.str " ")) ag)) pN (pS (o1 c9 (cn (.int 1))))) ag)) (ae (o2 aw (vr 10) (cn (.str "0"))) ag)))) (gN 11)) (aD (bN (o2 aW (vr 11) (cl ao (ae (vr 0) (ae (o2 aw (cn (.int 150)) (vr 9)) (ae (cn (.int 4)) ag))))) (gN 12)) (oa 5 (oS cP (cn (.str "\n")) (ae (o2 aw (o2 aw (sl (vr 6) pN (pS (vr 9))) (dz (ae (vr 12) ag))) (sl (vr 6) (pS (o2 aw (vr 9) (cn (.int 1)))) pN)) ag)))))))) (aD (B4 5 (i6 (iS (vr 5)) (gN 13) (gI (tb (o2 neT (cl ei (ae (vr 13) ag)) (cl dN (ae (vr 13) ag)))) (aP (cn (.bl false))) sN))) (aP (o2 eqT (cl dN (ae (vr 2) ag)) (vr 1))))))))))))))))
def m_law:List T->Rs T:=val 1 14 yM
end G
namespace G
open PySem PySem.Spec PyProof.Rows L2 Tr
section
variable (P:HZ)(w:ID){K:Ho}{mg:Str->Option Hs}(base:Heap)
abbrev gO:Stmt:=top 41
abbrev gS:List Str:=["_law_clocks","_law_found","_law_number_here","_law_clock"]
theorem lA (F:ia K mg "_law_events" gO ["_law_clocks"])(B:Bl mg):Cl P w K mg base 1 "_law_events" 1 dW:=
 bC gS F λd f c A o s H E hr x=>(by(apply az;exact(aC (fM ah) (aq 1 d));apply az;exact(jq rfl (vO B.b_enumerate (ai (af 0) ah)) (sM rfl (ij (aq 2 d) (ij (aq 3 d) pT))) (aF (aC (ar ay (af 1) (fN ["_law_place","_law_number_here"] gS gO (dG B.b_range (ai (cZ cK B.b_len Kg (ai (aM (af 3) ak) ah)) ah)) (λd _ _ _ _ _=>⟨(aq 0 d),bZ,(cv (ai (af 1) (ai (af 0) ah)))⟩))) (aq 1 d))));exact aF (aL (af 1))))
abbrev nY:Stmt:=top 38
theorem oH (F:ia K mg "_law_cell" nY ["_law_script","_law_k"])(B:Bl mg):Cl P w K mg base 1 "_law_cell" 2 ej:=
 bC ["_law_script","_law_k"] F λd f c A o s H E hr x=>(az (fL (cm (gC (g7 hr)) (af 0) (fM ah)) (aF (aL (ar eV ak (af 1)))) eS) (aF (aL (ar ay (aM (af 0) (ar ja (af 1) (cZ cK B.b_len Kg (ai (af 0) ah)))) (ar eV ak (ar kG (af 1) (cZ cK B.b_len Kg (ai (af 0) ah))))))))
abbrev mx:Stmt:=top 39
theorem mG (F:ia K mg "_law_drawn" mx ["_law_script","_law_k","_law_many"])(aal:Cl P w K mg base 1 "_law_cell" 2 ej):Cl P w K mg base 2 "_law_drawn" 3 ao:=
 bC ["_law_script","_law_k","_law_many","_law_cell_here"] F λd f c A o s H E hr x=>(by(apply az;exact(aC (ar ja (ar ay (ar eV (ar ja (ba aal hr (ai (af 0) (ai (af 1) ah))) ak) ak) (ar eV ak (ar ay (af 1) ak))) ak) (aq 3 d));apply az;exact(aC (ar ja (ar ay (ar eV (af 3) (af 3)) (ar kG (af 3) ak)) ak) (aq 3 d));exact aF (aL (ar ja (ar kG (ar ja (ar ay (ar eV (af 3) (af 3)) (ar kG (af 3) ak)) ak) ak) (af 2)))))
abbrev jx:Stmt:=top 40
abbrev jA:List Str:=["_law_script","_law_at","_law_clocks","_law_k","_law_here","_law_slow","_law_readings","_law_fast","_law_row","_law_letters","_law_place","_law_other","_law_least","_law_most"]
theorem oF (F:ia K mg "_law_wide" jx ["_law_script","_law_at"])(aac:Cl P w K mg base 1 "_law_events" 1 dW)(aa0:Cl P w K mg base 2 "_law_drawn" 3 ao)(B:Bl mg):Cl P w K mg base 3 "_law_wide" 2 d9:=
 bC jA F λd f c A o s H E hr x=>(by(apply az;exact(aC (cv ah) (aq 2 d));apply az;exact(jq rfl (dG B.b_range (ai (ar ay ak (ba aa0 hr (ai (af 0) (ai (af 1) (ai ak ah))))) ah)) (aq 3 d) (by(apply az;exact(aC (ar ay (ar ay (af 1) ak) (ar eV ak (af 3))) (aq 4 d));apply az;exact(aC (ar ay ak (ba aa0 hr (ai (af 0) (ai (af 4) (ai ak ah))))) (aq 5 d));apply az;exact(rz 6 (N':=["_law_j","_law_script","_law_here"]) (src:=[none,some 0,some 4]) rfl (LcScope.by (N:=jA) (names:=(au jx).names) rfl rfl rfl (by decide+kernel)) (dG B.b_range (ai (ar ay ak (ba aa0 hr (ai (af 0) (ai (ar ay (af 4) ak) (ai ak ah))))) ah)) (λ_ _ _ _ _=>⟨(aq 0 (show KW (["_law_j","_law_script","_law_here"]:List Str)by decide+kernel)),bZ,(ba aa0 hr (ai (af 1) (ai (ar ay (ar ay (af 2) ak) (af 0)) (ai ak ah))))⟩) d);apply az;exact(aC (ar ay (af 5) (ba aa0 hr (ai (af 0) (ai (ar ay (af 4) ak) (ai (ar i9 ak (af 5)) ah))))) (aq 7 d));exact aF (aC (ar ay (af 2) (cv (ai (cv (ai (af 5) (ai (af 7) (ai (d7 gg B.b_tuple ck (ai (yX rfl B.b_sorted B.b_set (ai (af 6) ah)) ah)) ah)))) ah))) (aq 2 d)))));apply az;exact(aC (ba aac hr (ai (af 2) ah)) (aq 8 d));apply az;exact(aC (cv ah) (aq 9 d));apply az;exact(jq rfl (dG B.b_range (ai (ar eV (ba aa0 hr (ai (af 0) (ai (ar ay (af 1) ak) (ai ak ah)))) (d7 yC B.b_int fJ (ai (jJ Be (cZ cK B.b_len Kg (ai (af 8) ah)) ak) ah))) ah)) (aq 3 d) (by(apply az;exact(aC (ar ay (ar ay (af 1) ak) (ar eV ak (af 3))) (aq 4 d));apply az;exact(aC (ba aa0 hr (ai (af 0) (ai (af 4) (ai (cZ cK B.b_len Kg (ai (af 8) ah)) ah)))) (aq 10 d));apply az;exact(aC (ar ja (ar ay (ar ay (af 10) ak) (ba aa0 hr (ai (af 0) (ai (ar ay (af 4) ak) (ai (ar i9 (cZ cK B.b_len Kg (ai (af 8) ah)) ak) ah))))) (cZ cK B.b_len Kg (ai (af 8) ah))) (aq 11 d));apply az;exact(aC (ba aa0 hr (ai (af 0) (ai (ar ay (af 4) ak) (ai (aM (fM (ai ak (ai ak ah))) (ba aa0 hr (ai (af 0) (ai (ar ay (af 4) ak) (ai ak ah))))) ah)))) (aq 12 d));apply az;exact(aC (aM (fM (ai fk (ai (af 12) (ai ak (ai (ar ay (af 12) (ba aa0 hr (ai (af 0) (ai (ar ay (af 4) ak) (ai (ar i9 ak (af 12)) ah))))) ah))))) (ba aa0 hr (ai (af 0) (ai (ar ay (af 4) ak) (ai ak ah))))) (aq 13 d));exact aF (aC (ar ay (af 9) (cv (ai (cv (ai (aM (af 8) (af 10)) (ai (aM (af 8) (af 11)) (ai (af 12) (ai (af 13) ah))))) ah))) (aq 9 d)))));exact aF (aL (cv (ai (af 2) (ai (af 9) ah))))))
abbrev rK:Stmt:=top 14
theorem rZ (F:ia K mg "is_long" rK ["thing","least","most"])(B:Bl mg):Cl P w K mg base 1 "is_long" 3 aJ:=
 bC ["thing","least","most"] F λd f c A o s H E hr x=>(aF (aL (dv (sO B.b_isinstance B.b_tuple ck (af 0)) (eI (pV mY mY (af 1) (cZ cK B.b_len Kg (ai (af 0) ah)) (af 2))))))
abbrev qc:Stmt:=top 12
theorem qw (F:ia K mg "is_whole" qc ["thing"])(B:Bl mg):Cl P w K mg base 1 "is_whole" 1 gp:=
 bC ["thing"] F λd f c A o s H E hr x=>(aF (aL (dv (sO B.b_isinstance B.b_int fJ (af 0)) (eI (BJ (sO B.b_isinstance B.b_bool pF (af 0)))))))
abbrev nU:Stmt:=top 13
theorem oA (F:ia K mg "is_within" nU ["thing","least","most"])(aaq:Cl P w K mg base 1 "is_whole" 1 gp):Cl P w K mg base 2 "is_within" 3 aU:=
 bC ["thing","least","most"] F λd f c A o s H E hr x=>(aF (aL (dv (ba aaq hr (ai (af 0) ah)) (eI (pV mY mY (af 1) (af 0) (af 2))))))
abbrev rJ:Stmt:=top 17
theorem rY (F:ia K mg "is_pace" rJ ["slow","fast"])(aa2:Cl P w K mg base 2 "is_within" 3 aU)(C:Cs mg):Cl P w K mg base 3 "is_pace" 2 ff:=
 bC ["slow","fast"] F λd f c A o s H E hr x=>(aF (aL (dv (ba aa2 hr (ai (af 0) (ai ak (ai (pU C.SLOWEST) ah)))) (eI (ba aa2 hr (ai (af 1) (ai (af 0) (ai (pU C.SLOWEST) ah))))))))
abbrev p9:Stmt:=top 15
abbrev qG:List Str:=["numbers"]
theorem xo (F:ia K mg "rises" p9 ["numbers"])(B:Bl mg):Cl P w K mg base 1 "rises" 1 ix:=
 bC qG F λd f c A o s H E hr x=>(aF (aL (cZ (pz rfl) B.b_all boot_all (ai (fN ["k","numbers"] qG p9 (dG B.b_range (ai (ar i9 (cZ cK B.b_len Kg (ai (af 0) ah)) ak) ah)) (λd _ _ _ _ _=>⟨(aq 0 d),bZ,(jJ Fy (aM (af 1) (af 0)) (aM (af 1) (ar ay (af 0) ak)))⟩)) ah))))
abbrev gB:Stmt:=top 16
abbrev gD:List Str:=["thing"]
theorem kv (F:ia K mg "are_readings" gB ["thing"])(aa1:Cl P w K mg base 1 "is_long" 3 aJ)(aaw:Cl P w K mg base 1 "rises" 1 ix)(aa2:Cl P w K mg base 2 "is_within" 3 aU)(B:Bl mg)(C:Cs mg):Cl P w K mg base 3 "are_readings" 1 bA:=
 bC gD F λd f c A o s H E hr x=>(az (fL (eR (dS (ba aa1 hr (ai (af 0) (ai ak (ai (pU C.MOST_READINGS) ah)))))) (aF (aL pW)) eS) (aF (aL (dv (cZ (pz rfl) B.b_all boot_all (ai (fN ["part"] gD gB (cL (af 0)) (λd _ _ _ _ _=>⟨(aq 0 d),bZ,(ba aa2 hr (ai (af 0) (ai ak (ai (pU C.LAST_READING) ah))))⟩)) ah)) (eI (ba aaw hr (ai (af 0) ah)))))))
abbrev qf:Stmt:=top 18
theorem qz (F:ia K mg "is_clock" qf ["thing"])(aa1:Cl P w K mg base 1 "is_long" 3 aJ)(aav:Cl P w K mg base 3 "is_pace" 2 ff)(aab:Cl P w K mg base 3 "are_readings" 1 bA):Cl P w K mg base 4 "is_clock" 1 cT:=
 bC ["thing"] F λd f c A o s H E hr x=>(aF (aL (dv (ba aa1 hr (ai (af 0) (ai ak (ai ak ah)))) (dv (ba aav hr (ai (aM (af 0) ak) (ai (aM (af 0) ak) ah))) (eI (ba aab hr (ai (aM (af 0) ak) ah)))))))
abbrev iQ:Stmt:=top 19
abbrev iV:List Str:=["thing"]
theorem mF (F:ia K mg "are_clocks" iQ ["thing"])(aa1:Cl P w K mg base 1 "is_long" 3 aJ)(aar:Cl P w K mg base 4 "is_clock" 1 cT)(B:Bl mg)(C:Cs mg):Cl P w K mg base 5 "are_clocks" 1 cX:=
 bC iV F λd f c A o s H E hr x=>(aF (aL (dv (ba aa1 hr (ai (af 0) (ai ak (ai (pU C.MOST_CLOCKS) ah)))) (eI (cZ (pz rfl) B.b_all boot_all (ai (fN ["part"] iV iQ (cL (af 0)) (λd _ _ _ _ _=>⟨(aq 0 d),bZ,(ba aar hr (ai (af 0) ah))⟩)) ah))))))
abbrev qd:Stmt:=top 20
theorem qx (F:ia K mg "is_event" qd ["clocks","thing"])(aa2:Cl P w K mg base 2 "is_within" 3 aU)(aa1:Cl P w K mg base 1 "is_long" 3 aJ)(B:Bl mg):Cl P w K mg base 3 "is_event" 2 cS:=
 bC ["clocks","thing"] F λd f c A o s H E hr x=>(az (fL (kb (kL (eR (dS (ba aa1 hr (ai (af 1) (ai ak (ai ak ah)))))) (jo (eR (dS (ba aa2 hr (ai (aM (af 1) ak) (ai ak (ai (ar i9 (cZ cK B.b_len Kg (ai (af 0) ah)) ak) ah))))))))) (aF (aL pW)) eS) (aF (aL (ba aa2 hr (ai (aM (af 1) ak) (ai ak (ai (ar i9 (cZ cK B.b_len Kg (ai (aM (aM (af 0) (aM (af 1) ak)) ak) ah)) ak) ah)))))))
abbrev qe:Stmt:=top 21
theorem qy (F:ia K mg "is_delay" qe ["least","most"])(aa2:Cl P w K mg base 2 "is_within" 3 aU)(C:Cs mg):Cl P w K mg base 3 "is_delay" 2 dj:=
 bC ["least","most"] F λd f c A o s H E hr x=>(aF (aL (dv (ba aa2 hr (ai (af 0) (ai ak (ai (pU C.LONGEST) ah)))) (eI (Er (jJ xk (af 1) fk) (eI (ba aa2 hr (ai (af 1) (ai (af 0) (ai (pU C.LONGEST) ah))))))))))
abbrev nW:Stmt:=top 22
theorem oC (F:ia K mg "is_letter" nW ["clocks","thing"])(aah:Cl P w K mg base 3 "is_event" 2 cS)(aa1:Cl P w K mg base 1 "is_long" 3 aJ)(aas:Cl P w K mg base 3 "is_delay" 2 dj):Cl P w K mg base 4 "is_letter" 2 bM:=
 bC ["clocks","thing"] F λd f c A o s H E hr x=>(az (fL (kb (kL (eR (dS (ba aa1 hr (ai (af 1) (ai ak (ai ak ah)))))) (jo (eR (dS (ba aas hr (ai (aM (af 1) ak) (ai (aM (af 1) ak) ah)))))))) (aF (aL pW)) eS) (aF (aL (dv (ba aah hr (ai (af 0) (ai (aM (af 1) ak) ah))) (dv (ba aah hr (ai (af 0) (ai (aM (af 1) ak) ah))) (eI (jJ (qv (g7 hr)) (aM (af 1) ak) (aM (af 1) ak))))))))
abbrev gL:Stmt:=top 23
abbrev gP:List Str:=["clocks","thing"]
theorem ly (F:ia K mg "are_letters" gL ["clocks","thing"])(aa1:Cl P w K mg base 1 "is_long" 3 aJ)(aam:Cl P w K mg base 4 "is_letter" 2 bM)(B:Bl mg)(C:Cs mg):Cl P w K mg base 5 "are_letters" 2 cJ:=
 bC gP F λd f c A o s H E hr x=>(aF (aL (dv (ba aa1 hr (ai (af 1) (ai ak (ai (pU C.MOST_LETTERS) ah)))) (eI (cZ (pz rfl) B.b_all boot_all (ai (fN ["part","clocks"] gP gL (cL (af 1)) (λd _ _ _ _ _=>⟨(aq 0 d),bZ,(ba aam hr (ai (af 1) (ai (af 0) ah)))⟩)) ah))))))
abbrev nV:Stmt:=top 24
theorem oB (F:ia K mg "is_record" nV ["thing"])(aa1:Cl P w K mg base 1 "is_long" 3 aJ)(aaj:Cl P w K mg base 5 "are_clocks" 1 cX)(aad:Cl P w K mg base 5 "are_letters" 2 cJ):Cl P w K mg base 6 "is_record" 1 aQ:=
 bC ["thing"] F λd f c A o s H E hr x=>(aF (aL (dv (ba aa1 hr (ai (af 0) (ai ak (ai ak ah)))) (dv (ba aaj hr (ai (aM (af 0) ak) ah)) (eI (ba aad hr (ai (aM (af 0) ak) (ai (aM (af 0) ak) ah))))))))
abbrev kZ:Stmt:=top 25
theorem lu (F:ia K mg "need_record" kZ ["thing"])(aa4:Cl P w K mg base 6 "is_record" 1 aQ){C_NoRecord C_NoEvent C_NoText C_ClockError:Addr}(S:Xs K mg C_NoRecord C_NoEvent C_NoText C_ClockError):Cl P w K mg base 7 "need_record" 1 dU:=
 bC ["thing"] F λd f c A o s H E hr x=>(aF (fL (eR (dS (ba aa4 hr (ai (af 0) ah)))) (aF (jI S.o_NoRecord S.m_NoRecord)) eS))
abbrev iP:Stmt:=top 27
abbrev iU:List Str:=["clock","readings"]
theorem mC (F:ia K mg "clock_text" iP ["clock"])(B:Bl mg):Cl P w K mg base 1 "clock_text" 1 bw:=
 bC iU F λd f c A o s H E hr x=>(az (aC (gh aG (fN ["reading"] iU iP (cL (aM (af 0) ak)) (λd _ _ _ _ _=>⟨(aq 0 d),bZ,(d7 g9 B.b_str cb (ai (af 0) ah))⟩))) (aq 1 d)) (aF (aL (ar ay (ar ay (ar ay (ar ay (ar ay (ar ay aG (d7 g9 B.b_str cb (ai (aM (af 0) ak) ah))) aG) (d7 g9 B.b_str cb (ai (aM (af 0) ak) ah))) aG) (af 1)) aG))))
abbrev mq:Stmt:=top 28
theorem mB (F:ia K mg "event_text" mq ["event"])(B:Bl mg):Cl P w K mg base 1 "event_text" 1 cz:=
 bC ["event"] F λd f c A o s H E hr x=>(aF (aL (ar ay (ar ay (d7 g9 B.b_str cb (ai (aM (af 0) ak) ah)) aG) (d7 g9 B.b_str cb (ai (aM (af 0) ak) ah)))))
abbrev k4:Stmt:=top 29
theorem lx (F:ia K mg "letter_text" k4 ["letter"])(aaa:Cl P w K mg base 1 "event_text" 1 cz)(B:Bl mg):Cl P w K mg base 2 "letter_text" 1 bq:=
 bC ["letter","most"] F λd f c A o s H E hr x=>(az (aC (mM (cm xk (aM (af 0) ak) fk) aG (d7 g9 B.b_str cb (ai (aM (af 0) ak) ah))) (aq 1 d)) (aF (aL (ar ay (ar ay (ar ay (ar ay (ar ay (ar ay (ar ay (ar ay aG (ba aaa hr (ai (aM (af 0) ak) ah))) aG) (ba aaa hr (ai (aM (af 0) ak) ah))) aG) (d7 g9 B.b_str cb (ai (aM (af 0) ak) ah))) aG) (af 1)) aG))))
abbrev fm:Stmt:=top 30
abbrev fv:List Str:=["record","clocks","letters"]
theorem lj (F:ia K mg "record_text" fm ["record"])(aae:Cl P w K mg base 7 "need_record" 1 dU)(aak:Cl P w K mg base 1 "clock_text" 1 bw)(aaf:Cl P w K mg base 2 "letter_text" 1 bq):Cl P w K mg base 8 "record_text" 1 bu:=
 bC fv F λd f c A o s H E hr x=>(by(apply az;exact(vM (ba aae hr (ai (af 0) ah)));apply az;exact(rz 1 (N':=["clock"]) (src:=[none]) rfl (LcScope.by (N:=fv) (names:=(au fm).names) rfl rfl rfl (by decide+kernel)) (cL (aM (af 0) ak)) (λ_ _ _ _ _=>⟨(aq 0 (show KW (["clock"]:List Str)by decide+kernel)),bZ,(ba aak hr (ai (af 0) ah))⟩) d);apply az;exact(rz 2 (N':=["letter"]) (src:=[none]) rfl (LcScope.by (N:=fv) (names:=(au fm).names) rfl rfl rfl (by decide+kernel)) (cL (aM (af 0) ak)) (λ_ _ _ _ _=>⟨(aq 0 (show KW (["letter"]:List Str)by decide+kernel)),bZ,(ba aaf hr (ai (af 0) ah))⟩) d);exact aF (aL (gh aG (ar ay (af 1) (af 2))))))
abbrev gM:Stmt:=top 43
abbrev gQ:List Str:=["_law_word"]
theorem lz (F:ia K mg "_law_number" gM ["_law_word"])(B:Bl mg):Cl P w K mg base 1 "_law_number" 1 aY:=
 bC gQ F λd f c A o s H E hr x=>(az (fL (kb (kL (eR (uF mY mY ak (cZ cK B.b_len Kg (ai (af 0) ah)) ak)) (jo (cm (qv (g7 hr)) (fN ["_law_sign"] gQ gM (vN (af 0)) (λd _ _ _ _ _=>⟨(aq 0 d),(pR (cm uW (af 0) aG)),(af 0)⟩)) (fM ah))))) (aF (aL fk)) eS) (aF (aL (mM (kb (kL (cm (qv (g7 hr)) (vP (af 0) ak) aG) (jo (cm (gC (g7 hr)) (af 0) aG)))) (d7 AS B.b_int fJ (ai (af 0) ah)) fk))))
abbrev kf:Stmt:=top 44
abbrev ki:List Str:=["_law_word","_law_sign","_law_words"]
theorem qB (F:ia K mg "_law_two" kf ["_law_word","_law_sign"])(aa6:Cl P w K mg base 1 "_law_number" 1 aY)(B:Bl mg):Cl P w K mg base 2 "_law_two" 2 a9:=
 bC ki F λd f c A o s H E hr x=>(az (aC (fj (af 0) (af 1)) (aq 2 d)) (aF (aL (mM (cm (gC (g7 hr)) (cZ cK B.b_len Kg (ai (af 2) ah)) ak) (d7 gg B.b_tuple ck (ai (fN ["_law_one"] ki kf (cL (af 2)) (λd _ _ _ _ _=>⟨(aq 0 d),bZ,(ba aa6 hr (ai (af 0) ah))⟩)) ah)) (cv (ai fk (ai fk ah)))))))
abbrev kg:Stmt:=top 45
abbrev kj:List Str:=["_law_text","_law_clocks","_law_letters","_law_lines","_law_line","_law_words","_law_readings","_law_least","_law_most","_law_end","_law_ends","_law_found"]
theorem qC (F:ia K mg "_law_due" kg ["_law_text"])(aa4:Cl P w K mg base 6 "is_record" 1 aQ)(aa9:Cl P w K mg base 2 "_law_two" 2 a9)(aa6:Cl P w K mg base 1 "_law_number" 1 aY)(B:Bl mg):Cl P w K mg base 7 "_law_due" 1 dN:=
 bC kj F λd f c A o s H E hr x=>(by(apply az;exact(aC (cv ah) (aq 1 d));apply az;exact(aC (cv ah) (aq 2 d));apply az;exact(aC (fj (af 0) aG) (aq 3 d));apply az;exact(jq rfl (cL (cF (af 3) aX (aS (gJ ak)))) (aq 4 d) (az (aC (fj (af 4) aG) (aq 5 d)) (aF (fL (kb (kA (cm (gC (g7 hr)) (aM (af 5) ak) aG) (kA (cm Be (cZ cK B.b_len Kg (ai (af 5) ah)) ak) (kM (cm (gC (g7 hr)) (af 2) (cv ah)))))) (az (aC (d7 gg B.b_tuple ck (ai (fN ["_law_word"] kj kg (cL (cF (af 5) (aS ak) aX)) (λd _ _ _ _ _=>⟨(aq 0 d),bZ,(ba aa6 hr (ai (af 0) ah))⟩)) ah)) (aq 6 d)) (aF (aC (ar ay (af 1) (cv (ai (ar ay (ba aa9 hr (ai (aM (af 5) ak) (ai aG ah))) (cv (ai (af 6) ah))) ah))) (aq 1 d)))) (aF (fL (kb (kA (cm (gC (g7 hr)) (aM (af 5) ak) aG) (kM (cm (gC (g7 hr)) (cZ cK B.b_len Kg (ai (af 5) ah)) ak)))) (by(apply az;exact(aC (ba aa9 hr (ai (ar ay (aM (af 5) ak) (ar zS aG (d7 yC B.b_int fJ (ai (jJ (gC (g7 hr)) (bY (aM (af 5) ak) (aS (gJ ak)) aX) aG) ah)))) (ai aG ah))) (sM rfl (ij (aq 7 d) (ij (aq 8 d) pT))));apply az;exact(aC (mM (cm (gC (g7 hr)) (bY (aM (af 5) ak) (aS (gJ ak)) aX) aG) fk (mM (cm xk (af 8) fk) (gJ ak) (af 8))) (aq 9 d));apply az;exact(aC (cv (ai (ba aa9 hr (ai (aM (af 5) ak) (ai aG ah))) (ai (ba aa9 hr (ai (aM (af 5) ak) (ai aG ah))) ah))) (aq 10 d));exact aF (aC (ar ay (af 2) (cv (ai (ar ay (af 10) (cv (ai (af 7) (ai (af 9) ah)))) ah))) (aq 2 d)))) (aF (aL fk))))))));apply az;exact(aC (cv (ai (af 1) (ai (af 2) ah))) (aq 11 d));exact aF (aL (mM (kb (kA (cm (gC (g7 hr)) (aM (af 3) (gJ ak)) aG) (kM (dS (ba aa4 hr (ai (af 11) ah)))))) (af 11) fk))))
abbrev nS:Stmt:=top 31
theorem ox (F:ia K mg "number_of" nS ["word"])(B:Bl mg):rq P w K mg base 1 "number_of" 1 bz:=
 iJ ["word"] F λd f c A o s H E hr x=>(jt (BL 0 (λ_ _ z=>by cases z) B.b_int B.b_ValueError))
abbrev i5:Stmt:=top 32
theorem jb (F:ia K mg "numbers_between" i5 ["words","sign"])(aa8:rq P w K mg base 1 "number_of" 1 bz):rq P w K mg base 2 "numbers_between" 2 aV:=
 iJ ["words","sign","parts"] F λd f c A o s H E hr x=>(by(apply bH;exact(kS (aC (du (af 0) (af 1)) (aq 2 d)));exact(jt (sU (A6 (nQ (wj aa8 hr (nQ (pZ (aM (af 2) ak)) (uI ah))) (nQ (wj aa8 hr (nQ (pZ (aM (af 2) ak)) (uI ah))) (uI ah))))))))
abbrev ke:Stmt:=top 33
abbrev kh:List Str:=["words","parts","readings"]
theorem qA (F:ia K mg "clock_of" ke ["words"])(aa8:rq P w K mg base 1 "number_of" 1 bz)(aa3:rq P w K mg base 2 "numbers_between" 2 aV)(B:Bl mg):rq P w K mg base 3 "clock_of" 1 cj:=
 iJ kh F λd f c A o s H E hr x=>(by(apply bH;exact(kS (aC (du (af 0) aG) (aq 1 d)));apply bH;exact(wg 2 (N':=["word"]) (src:=[none]) rfl (LcScope.by (N:=kh) (names:=(au ke).names) rfl rfl rfl (by decide+kernel)) (cL (fj (aM (af 1) ak) aG)) (λ_ _ _ _ _=>⟨(aq 0 (show KW (["word"]:List Str)by decide+kernel)),bZ,(wj aa8 hr (nQ (pZ (af 0)) (uI ah)))⟩) d);exact(jt (sU (A7 ay (wj aa3 hr (nQ (pZ (aM (af 1) ak)) (nQ (pZ aG) (uI ah)))) (pZ (cv (ai (d7 gg B.b_tuple ck (ai (af 2) ah)) ah))))))))
abbrev nT:Stmt:=top 34
theorem oy (F:ia K mg "letter_of" nT ["words"])(aa3:rq P w K mg base 2 "numbers_between" 2 aV):rq P w K mg base 3 "letter_of" 1 bL:=
 iJ ["words","parts","rest"] F λd f c A o s H E hr x=>(by(apply bH;exact(kS (aC (du (af 0) aG) (aq 1 d)));apply bH;exact(kS (aC (du (aM (af 1) ak) aG) (aq 2 d)));exact(jt (sU (A7 ay (A6 (nQ (wj aa3 hr (nQ (pZ (aM (af 1) ak)) (nQ (pZ aG) (uI ah)))) (nQ (wj aa3 hr (nQ (pZ (aM (af 2) ak)) (nQ (pZ aG) (uI ah)))) (uI ah)))) (wj aa3 hr (nQ (pZ (aM (af 2) ak)) (nQ (pZ aG) (uI ah)))))))))
abbrev mS:Stmt:=top 35
abbrev m7:List Str:=["lines","word"]
theorem uX (F:ia K mg "behind" mS ["lines","word"]):Cl P w K mg base 1 "behind" 2 b6:=
 bC m7 F λd f c A o s H E hr x=>(aF (aL (fN ["line","word"] m7 mS (cL (af 0)) (λd _ _ _ _ _=>⟨(aq 0 d),(pR (dS (mn (af 0) (af 1)))),(aM (du (af 0) aG) ak)⟩))))
abbrev fo:Stmt:=top 36
abbrev fw:List Str:=["text","lines","clocks","letters","record"]
theorem lq (F:ia K mg "read_record" fo ["text"])(aat:rq P w K mg base 3 "clock_of" 1 cj)(aan:rq P w K mg base 3 "letter_of" 1 bL)(aau:Cl P w K mg base 1 "behind" 2 b6)(aa4:Cl P w K mg base 6 "is_record" 1 aQ)(aa7:Cl P w K mg base 8 "record_text" 1 bu)(B:Bl mg){C_NoRecord C_NoEvent C_NoText C_ClockError:Addr}(S:Xs K mg C_NoRecord C_NoEvent C_NoText C_ClockError):rq P w K mg base 9 "read_record" 1 cI:=
 iJ fw F λd f c A o s H E hr x=>(by(apply bH;exact(kS (fL (eR (dS (sO B.b_isinstance B.b_str cb (af 0)))) (aF (jI S.o_NoText S.m_NoText)) eS));apply bH;exact(kS (aC (fj (af 0) aG) (aq 1 d)));apply bH;exact(wg 2 (N':=["words"]) (src:=[none]) rfl (LcScope.by (N:=fw) (names:=(au fo).names) rfl rfl rfl (by decide+kernel)) (cL (ba aau hr (ai (af 1) (ai aG ah)))) (λ_ _ _ _ _=>⟨(aq 0 (show KW (["words"]:List Str)by decide+kernel)),bZ,(wj aat hr (nQ (pZ (af 0)) (uI ah)))⟩) d);apply bH;exact(wg 3 (N':=["words"]) (src:=[none]) rfl (LcScope.by (N:=fw) (names:=(au fo).names) rfl rfl rfl (by decide+kernel)) (cL (ba aau hr (ai (af 1) (ai aG ah)))) (λ_ _ _ _ _=>⟨(aq 0 (show KW (["words"]:List Str)by decide+kernel)),bZ,(wj aan hr (nQ (pZ (af 0)) (uI ah)))⟩) d);apply bH;exact(kS (aC (cv (ai (d7 gg B.b_tuple ck (ai (af 2) ah)) (ai (d7 gg B.b_tuple ck (ai (af 3) ah)) ah))) (aq 4 d)));apply bH;exact(kS (fL (kb (kL (eR (dS (ba aa4 hr (ai (af 4) ah)))) (jo (cm (qv (g7 hr)) (ba aa7 hr (ai (af 4) ah)) (af 0))))) (aF (jI S.o_NoText S.m_NoText)) eS));exact(jt (kS (aL (af 4))))))
abbrev nX:Stmt:=top 42
theorem oG (F:ia K mg "_law_told" nX ["_law_text"])(aag:rq P w K mg base 9 "read_record" 1 cI)(B:Bl mg){C_NoRecord C_NoEvent C_NoText C_ClockError:Addr}(S:Xs K mg C_NoRecord C_NoEvent C_NoText C_ClockError):rq P w K mg base 10 "_law_told" 1 ei:=
 iJ ["_law_text","e","_law_flags"] F λd f c A o s H E hr x=>(by(apply bH;exact(Eu 1 d S.m_ClockError S.o_ClockError (λ_ _=>(jt (sU (wj aag hr (nQ (pZ (af 0)) (uI ah)))))) (p8 1 2 S.o_NoText S.o_NoRecord S.o_NoEvent S.m_NoText S.m_NoRecord S.m_NoEvent (tM S.d 2 0 (by decide) rfl rfl) (tM S.d 2 1 (by decide) rfl rfl) (BB (tM S.d 3 0 (by decide) rfl rfl)) (BB (tM S.d 3 1 (by decide) rfl rfl)) B.b_isinstance B.b_ValueError (g7 hr) d (by decide)) (hcl:=λ_ _ z=>by cases z));exact(jt (kS (aL pW)))))
abbrev wI:Stmt:=top 46
abbrev C3:List Str:=["_law_script","_law_record","_law_text","_law_at","_law_sign","_law_texts","_law_lines","_law_to","_law_exchanged","_law_k","_law_line","_law_others","_law_other","_law_some"]
theorem aa5:cu C3 ["_law_script"] (au wI):=fsc
theorem CW {f:Addr}{fd:IW}(aax:Fn K mg "law" wI ["_law_script"] f fd)(aao:Cl P w K mg base 3 "_law_wide" 2 d9)(aa7:Cl P w K mg base 8 "record_text" 1 bu)(aa0:Cl P w K mg base 2 "_law_drawn" 3 ao)(aai:Cl P w K mg base 7 "_law_due" 1 dN)(aap:rq P w K mg base 10 "_law_told" 1 ei)(B:Bl mg):yL P w K mg base 11 f fd ["_law_script"] 1 m_law:=
 uc aax.fn aa5 rfl λc A o s H E hr x=>(show yV _ _ _ from(by(apply bH;exact(kS (aC (ba aao hr (ai (af 0) (ai ak ah))) (aq 1 aa5.nd)));apply bH;exact(kS (aC (ba aa7 hr (ai (af 1) ah)) (aq 2 aa5.nd)));apply bH;exact(kS (aC (ba aa0 hr (ai (af 0) (ai ak (ai (ar ay (cZ cK B.b_len Kg (ai (af 2) ah)) ak) ah)))) (aq 3 aa5.nd)));apply bH;exact(kS (aC (vP aG (ba aa0 hr (ai (af 0) (ai ak (ai ak ah))))) (aq 4 aa5.nd)));apply bH;exact(kS (vL 5 aa5.nd (ai (af 2) (ai (ar ay (bY (af 2) aX (aS (af 3))) (bY (af 2) (aS (ar ay (af 3) ak)) aX)) (ai (ar ay (bY (af 2) aX (aS (ar ay (af 3) ak))) (bY (af 2) (aS (af 3)) aX)) (ai (ar ay (ar ay (bY (af 2) aX (aS (af 3))) (af 4)) (bY (af 2) (aS (ar ay (af 3) ak)) aX)) ah))))));apply bH;exact(kS (sJ 5 aa5.nd (fM (ai (ar ay (ar ay (bY (af 2) aX (aS (af 3))) (af 4)) (bY (af 2) (aS (af 3)) aX)) (ai aG (ai aG (ai aG (ai aG (ai (bY (af 2) aX (aS (gJ ak))) ah)))))))));apply bH;exact(kS (aC (fj (af 2) aG) (aq 6 aa5.nd)));apply bH;exact(kS (aC (ba aa0 hr (ai (af 0) (ai ak (ai (cZ cK B.b_len Kg (ai (af 6) ah)) ah)))) (aq 7 aa5.nd)));apply bH;exact(kS (sJ 5 aa5.nd (fM (ai (gh aG (ar ay (cF (af 6) aX (aS (af 7))) (cF (af 6) (aS (ar ay (af 7) ak)) aX))) (ai (gh aG (ar ay (cF (af 6) aX (aS (ar ay (af 7) ak))) (cF (af 6) (aS (af 7)) aX))) ah)))));apply bH;exact(kS (aC (ar ay (ar ay (cF (af 6) aX (aS (af 7))) (BI (cF (af 6) (aS (af 7)) (aS (ar ay (af 7) ak))))) (cF (af 6) (aS (ar ay (af 7) ak)) aX)) (aq 8 aa5.nd)));apply bH;exact(kS (sL 5 (gh aG (af 8))));apply bH;exact(kS (jq rfl (dG B.b_range (ai (ar i9 (cZ cK B.b_len Kg (ai (af 6) ah)) ak) ah)) (aq 9 aa5.nd) (by(apply az;exact(aC (aM (af 6) (af 9)) (aq 10 aa5.nd));apply az;exact(aC (fM (ai (ar ay (bY (af 10) aX (aS (gJ ak))) (d7 g9 B.b_str cb (ai (ba aa0 hr (ai (af 0) (ai (ar ay ak (af 9)) (ai ak ah)))) ah))) (ai (ar ay (af 10) aG) ah))) (aq 11 aa5.nd));apply az;exact(aC (ar ay (af 11) (fM (ai (gh aG (cF (fj (af 10) aG) aX (aS (gJ ak)))) (ai (ar ay (af 10) aG) ah)))) (aq 11 aa5.nd));apply az;exact(aC (aM (af 11) (ba aa0 hr (ai (af 0) (ai (ar ay ak (af 9)) (ai ak ah))))) (aq 12 aa5.nd));exact aF (sL 5 (gh aG (ar ay (ar ay (cF (af 6) aX (aS (af 9))) (fM (ai (af 12) ah))) (cF (af 6) (aS (ar ay (af 9) ak)) aX))))))));apply bH;exact(Ey 5 (Ex rfl (cL (af 5)) (aq 13 aa5.nd) (jt (u_if (Ez (qv (g7 hr)) (wj aap hr (nQ (pZ (af 13)) (uI ah))) (pZ (ba aai hr (ai (af 13) ah)))) (Ew (aF (aL pW))) (Ew eS)))));exact(jt (kS (aL (jJ (gC (g7 hr)) (ba aai hr (ai (af 2) ah)) (af 1)))))))).h
end
theorem all_ok {l:PySem.W.OpenLaw}{w:ID}{K:Ho}{h:Heap}{mg:Str->Option Hs}{fa:Addr}(X:K.In h)(e0:xp asks K=v8 asks top)(G:h.Ns Iz mg)(hfa:mg "law" =some (.ref fa)) :
  ∃fd:IW,(∀(s:Hr) (v:Hs),NJ s fd ⟨[v],[]⟩ [("_law_script",v)])/\∀base:Heap,K.In base->base.Ns Iz mg->mi l.prog w K mg base CX0 11 fa fd ["_law_script"] (spP K 1 m_law):=by
 have e:oI yH K=nP yH top:=congrArg (·.1) e0
 have B:Bl mg:=⟨eM 0 X G e rfl,eM 1 X G e rfl,eM 2 X G e rfl,eM 3 X G e rfl,eM 4 X G e rfl,eM 5 X G e rfl,eM 6 X G e rfl,eM 7 X G e rfl,eM 8 X G e rfl,eM 9 X G e rfl,eM 10 X G e rfl,eM 11 X G e rfl⟩
 have C:Cs mg:=⟨nj 0 X G e rfl,nj 1 X G e rfl,nj 2 X G e rfl,nj 3 X G e rfl,nj 4 X G e rfl,nj 5 X G e rfl⟩;obtain⟨C_ClockError,ls,xD,xl,nd⟩:=CY (FV e);obtain⟨C_NoRecord,ls0,x_NoRecord,rfl,xl0⟩:=j7 xl;obtain⟨C_NoEvent,ls1,x_NoEvent,rfl,xl1⟩:=j7 xl0;obtain⟨C_NoText,ls2,x_NoText,rfl,xl2⟩:=j7 xl1;cases yI xl2
 have S:Xs K mg C_NoRecord C_NoEvent C_NoText C_ClockError:=⟨MZ X G (jc x_NoRecord).1,MZ X G (jc x_NoEvent).1,MZ X G (jc x_NoText).1,MZ X G (jc xD).1,ox1 x_NoRecord xD,ox1 x_NoEvent xD,ox1 x_NoText xD,ox0 xD,nd⟩;obtain⟨fd32,aax,bnd⟩:=FR (n:="law") (i:=46) (x:="_law_script") 32 X G e rfl hfa λ_ _ _ _ _ _ _=>rfl
 refine⟨fd32,bnd,λbase _ _=> ?_⟩
 have aac:=lA l.prog w base (da 0 X G e) B
 have aal:=oH l.prog w base (da 1 X G e) B
 have aa0:=mG l.prog w base (da 2 X G e) aal
 have aao:=oF l.prog w base (da 3 X G e) aac aa0 B
 have aa1:=rZ l.prog w base (da 4 X G e) B
 have aaq:=qw l.prog w base (da 5 X G e) B
 have aa2:=oA l.prog w base (da 6 X G e) aaq
 have aav:=rY l.prog w base (da 7 X G e) aa2 C
 have aaw:=xo l.prog w base (da 8 X G e) B
 have aab:=kv l.prog w base (da 9 X G e) aa1 aaw aa2 B C
 have aar:=qz l.prog w base (da 10 X G e) aa1 aav aab
 have aaj:=mF l.prog w base (da 11 X G e) aa1 aar B C
 have aah:=qx l.prog w base (da 12 X G e) aa2 aa1 B
 have aas:=qy l.prog w base (da 13 X G e) aa2 C
 have aam:=oC l.prog w base (da 14 X G e) aah aa1 aas
 have aad:=ly l.prog w base (da 15 X G e) aa1 aam B C
 have aa4:=oB l.prog w base (da 16 X G e) aa1 aaj aad
 have aae:=lu l.prog w base (da 17 X G e) aa4 S
 have aak:=mC l.prog w base (da 18 X G e) B
 have aaa:=mB l.prog w base (da 19 X G e) B
 have aaf:=lx l.prog w base (da 20 X G e) aaa B
 have aa7:=lj l.prog w base (da 21 X G e) aae aak aaf
 have aa6:=lz l.prog w base (da 22 X G e) B
 have aa9:=qB l.prog w base (da 23 X G e) aa6 B
 have aai:=qC l.prog w base (da 24 X G e) aa4 aa9 aa6 B
 have aa8:=ox l.prog w base (da 25 X G e) B
 have aa3:=jb l.prog w base (da 26 X G e) aa8
 have aat:=qA l.prog w base (da 27 X G e) aa8 aa3 B
 have aan:=oy l.prog w base (da 28 X G e) aa3
 have aau:=uX l.prog w base (da 29 X G e)
 have aag:=lq l.prog w base (da 30 X G e) aat aan aau aa4 aa7 B S
 have aap:=oG l.prog w base (da 31 X G e) aag B S;exact(CW l.prog w base aax aao aa7 aa0 aai aap B).h
end G
namespace Tr
open PySem
abbrev RR (cs ls:List T):T:=.tup [.tup cs,.tup ls]
mutual
def T.pl:T->Bool
 | .scr _=>false
 | .dct _ _=>false
 | .ob _ _ _=>false
 | .tup l=>plS l
 | .lst l=>plS l
 | _=>true
def plS:List T->Bool
 | [] =>true
 | t::l=>t.pl&&plS l
end
theorem iu:∀{l:List T} {t:T},plS l=true->t∈l->t.pl=true
 | [],_,_,h=>by cases h
 | u::l,t,h,m=>by
  unfold plS at h;rw[Hu]at h;rcases HB.mp m with rfl | m
  ·exact h.1
  ·exact iu h.2 m
mutual
theorem T.GM:∀(t:T),t.pl=true->t.nd=true
 | .non,_=>rfl
 | .bl _,_=>rfl
 | .int _,_=>rfl
 | .str _,_=>rfl
 | .scr _,h=>by cases h
 | .dct _ _,h=>by cases h
 | .ob _ _ _,h=>by cases h
 | .tup l,h=>by unfold T.pl at h;unfold T.nd;exact plS_nds l h
 | .lst l,h=>by unfold T.pl at h;unfold T.nd;exact plS_nds l h
theorem plS_nds:∀(l:List T),plS l=true->nds l=true
 | [],_=>rfl
 | t::l,h=>by
  unfold plS at h;rw[Hu]at h;unfold nds;rw[T.GM t h.1,plS_nds l h.2];rfl
end
theorem sg {fe:En->Rs T}{h:T->T}:∀(ts:List T) (ρ:En),0<ρ.length->(∀t∈ts,fe (ρ.set 0 (.va t))= .ok (h t))->cU (gN 0) bT fe ts ρ= .ok (ts.map h)
 | [],_,_,_=>rfl
 | t::r,ρ,hl,hf=>by
  unfold cU
  have e1:gN 0 t ρ= .ok (ρ.set 0 (.va t)):=by unfold gN;rw[if_pos hl]
  have ih:=sg r (ρ.set 0 (.va t)) (by rw[JB];exact hl) (λu hu=>by rw[List.set_set];exact hf u (Hv _ hu))
  simp only[e1,aH,bT,if_true,hf t HD,ih,HN]
theorem nh {fc:En->Rs Bool}{fe:En->Rs T}{p:T->Bool}{h:T->T}:∀(ts:List T) (ρ:En),0<ρ.length->(∀t∈ts,fc (ρ.set 0 (.va t))= .ok (p t)/\(p t=true->fe (ρ.set 0 (.va t))= .ok (h t)))->cU (gN 0) fc fe ts ρ= .ok ((ts.filter p).map h)
 | [],_,_,_=>rfl
 | t::r,ρ,hl,hf=>by
  unfold cU
  have e1:gN 0 t ρ= .ok (ρ.set 0 (.va t)):=by unfold gN;rw[if_pos hl]
  have ih:=nh r (ρ.set 0 (.va t)) (by rw[JB];exact hl) (λu hu=>by rw[List.set_set];exact hf u (Hv _ hu))
  obtain⟨h1,h2⟩:=hf t HD;simp only[e1,aH,h1]
  cases q:p t with
  | true=>simp only[if_true,h2 q,aH,ih,PV,q,HN]
  | false=>simp only[Jb,if_false,ih,PV,q]
theorem nF (p:T->Bool):∀l:List T,l5 (l.map λt=>T.bl (p t))=some (l.map p)
 | [] =>rfl
 | t::l=>by rw[HN,l5,nF p l];rfl
theorem all_map (p:T->Bool)(l:List T):mK [.lst (l.map λt=>T.bl (p t))] = .ok (.bl (l.all p)):=by
 simp only[mK,nF,List.all_map]
 rfl
theorem gu {α:Type}{l:List α}{k:Nat}{t:α}(h:l[k]? =some t):L2.atI l (k:Int)=some t:=by
 have hk:k<l.length:=(HU.mp h).1
 unfold L2.atI L2.ixN;rw[if_pos (by omega),if_pos (by omega),JI]
 exact h
theorem eZ {n k:Nat}(h:n<=k)(hk:autoParam (k<=1000) s_):n<=sizeLine:=by unfold sizeLine;omega
section
variable {f fa fb fc:En->Rs T}{fs:En->Rs (List T)}{b c:En->Rs Bool}{F G:En->Rs Fl}{ρ ρ' ρ1 ρ2:En}{t u r:T}{ts l m:List T}
theorem Di {i:Nat}(h:ρ[i]? =some (.va t)):vr i ρ= .ok t:=by unfold vr;rw[h]
theorem aN {g:T->T->Rs T}{x:Rs T}(ha:fa ρ= .ok t)(hb:fb ρ= .ok u)(hg:g t u=x):o2 g fa fb ρ=x:=by unfold o2;rw[ha,hb];exact hg
theorem Dm {g:T->Rs T}{x:Rs T}(ha:fa ρ= .ok t)(hg:g t=x):o1 g fa ρ=x:=by unfold o1;rw[ha];exact hg
theorem ax:ag ρ= .ok []:=rfl
theorem aj (h:f ρ= .ok t)(hs:fs ρ= .ok ts):ae f fs ρ= .ok (t::ts):=by unfold ae;rw[h,hs];rfl
theorem a7 {g:List T->Rs T}{x:Rs T}(h:fs ρ= .ok ts)(hg:g ts=x):cl g fs ρ=x:=by unfold cl;rw[h];exact hg
theorem eC {k:Bool}(h:f ρ= .ok (.bl k)):tb f ρ= .ok k:=by unfold tb;rw[h];rfl
theorem lK {k:Bool}(h:b ρ= .ok k):di b ρ= .ok (!k):=by unfold di;rw[h];rfl
theorem Bi (h:b ρ= .ok true):mj b c ρ= .ok true:=by unfold mj;rw[h];rfl
theorem xT {x:Rs Bool}(h:b ρ= .ok false)(h2:c ρ=x):mj b c ρ=x:=by unfold mj;rw[h];exact h2
theorem Dr (h:b ρ= .ok false):hZ b c ρ= .ok false:=by unfold hZ;rw[h];rfl
theorem Dq {x:Rs Bool}(h:b ρ= .ok true)(h2:c ρ=x):hZ b c ρ=x:=by unfold hZ;rw[h];exact h2
theorem FQ {p q:Bool}(h:b ρ= .ok p)(h2:p=false->c ρ= .ok q):mj b c ρ= .ok (p||q):=by
 cases p with
 | true=>exact Bi h
 | false=>exact xT h (h2 rfl)
theorem tU {p q:Bool}(h:b ρ= .ok p)(h2:p=true->c ρ= .ok q):hZ b c ρ= .ok (p&&q):=by
 cases p with
 | false=>exact Dr h
 | true=>exact Dq h (h2 rfl)
theorem km {p:Bool}(h:b ρ= .ok p):qN b fa fb ρ=if p then fa ρ else fb ρ:=by unfold qN;rw[h];rfl
theorem bj {g:T->En->Rs En}(h:f ρ= .ok t)(hg:g t ρ= .ok ρ'):bN f g ρ= .ok (.nx ρ'):=by unfold bN;rw[h];show(match g t ρ with | .ok ρ'=>Rs.ok (Fl.nx ρ') | _=> .bad)=_;rw[hg]
theorem aE (h:F ρ= .ok (.nx ρ')):aD F G ρ=G ρ':=by unfold aD;rw[h];rfl
theorem lJ (h:F ρ= .ok (.rt t)):aD F G ρ= .ok (.rt t):=by unfold aD;rw[h];rfl
theorem xR {c:Str}(h:F ρ= .err c):aD F G ρ= .err c:=by unfold aD;rw[h];rfl
theorem nk (h:b ρ= .ok true):gI b F G ρ=F ρ:=by unfold gI;rw[h];rfl
theorem iW (h:b ρ= .ok false):gI b F G ρ=G ρ:=by unfold gI;rw[h];rfl
theorem c6 (h:f ρ= .ok t):aP f ρ= .ok (.rt t):=by unfold aP;rw[h];rfl
theorem Dl {c:Str}(h:f ρ= .err c):aP f ρ= .err c:=by unfold aP;rw[h];rfl
theorem k_ex (h:f ρ= .ok t):Eh f ρ= .ok (.nx ρ):=by unfold Eh;rw[h];rfl
theorem kn {fi:En->Rs (List T)}{g:T->En->Rs En}{x:Fl}(h:fi ρ= .ok ts)(h2:bO g F ts ρ= .ok x):i6 fi g F ρ= .ok x:=by unfold i6;rw[h];show(match bO g F ts ρ with | .ok f=>Rs.ok f | _=> .bad)=_;rw[h2]
theorem jY {g:T->En->Rs En}(h:g t ρ= .ok ρ1)(h2:F ρ1= .ok (.nx ρ2)):bO g F (t::ts) ρ=bO g F ts ρ2:=by rw[bO,h];show(F ρ1 >>= _)=_;rw[h2];rfl
theorem Ac {g:T->En->Rs En}(h:g t ρ= .ok ρ1)(h2:F ρ1= .ok (.rt r)):bO g F (t::ts) ρ= .ok (.rt r):=by rw[bO,h];show(F ρ1 >>= _)=_;rw[h2];rfl
theorem cO {n m:Nat}(hl:ts.length=n)(h:F (aI m ts)= .ok (.rt t)):val n m F ts= .ok t:=by unfold val;rw[if_pos hl];unfold bo;rw[h];rfl
theorem xQ {n m:Nat}{c:Str}(hl:ts.length=n)(h:F (aI m ts)= .err c):val n m F ts= .err c:=by unfold val;rw[if_pos hl];unfold bo;rw[h];rfl
theorem Dj {n m:Nat}(hl:ts.length=n)(h:F (aI m ts)= .ok (.nx ρ)):val n m F ts= .ok .non:=by unfold val;rw[if_pos hl];unfold bo;rw[h];rfl
theorem FP {h:Str->Rs T}{k:Fl}(e:F ρ= .ok k):qj F h ρ= .ok k:=by unfold qj;rw[e]
theorem Dk {h:Str->Rs T}{c:Str}(e:F ρ= .err c)(e2:h c= .ok t):qj F h ρ= .ok (.rt t):=by unfold qj;rw[e];simp only[e2]
theorem lL {fi:En->Rs (List T)}{src:List (Option Nat)}{fe:En->Rs T}{h:T->T}(hi:fi ρ= .ok ts)(hs:ts.length<=sizeLine)(hn:0<src.length)(hf:∀t∈ts,fe ((cG src ρ).set 0 (.va t))= .ok (h t)) :
  eH fi src (gN 0) bT fe ρ= .ok (.lst (ts.map h)):=by
 have e:=sg (fe:=fe) (h:=h) ts (cG src ρ) (by unfold cG;rw[Hw];exact hn) hf
 unfold eH;rw[hi,aH,if_pos hs,e]
theorem Bj {fi:En->Rs (List T)}{src:List (Option Nat)}{fc:En->Rs Bool}{fe:En->Rs T}{p:T->Bool}{h:T->T}(hi:fi ρ= .ok ts)(hs:ts.length<=sizeLine)(hn:0<src.length)
  (hf:∀t∈ts,fc ((cG src ρ).set 0 (.va t))= .ok (p t)/\(p t=true->fe ((cG src ρ).set 0 (.va t))= .ok (h t))):eH fi src (gN 0) fc fe ρ= .ok (.lst ((ts.filter p).map h)):=by
 have e:=nh (fc:=fc) (fe:=fe) (p:=p) (h:=h) ts (cG src ρ) (by unfold cG;rw[Hw];exact hn) hf
 unfold eH;rw[hi,aH,if_pos hs,e]
theorem cH (h:fs ρ= .ok ts)(hl:ts.length<=sizeLine):bQ fs ρ= .ok (.tup ts):=by unfold bQ;rw[h];show gd ts=_;unfold gd;rw[if_pos hl]
theorem jC (h:fs ρ= .ok ts)(hl:ts.length<=sizeLine):dz fs ρ= .ok (.lst ts):=by unfold dz;rw[h];show kl ts=_;unfold kl;rw[if_pos hl]
theorem Dn {f:En->Rs (List T)}{i:Nat}(h:f ρ= .ok l)(hi:i<ρ.length)(hl:l.length<=1000):mW i f ρ= .ok (.nx (ρ.set i (.ow (.lst l)))):=by
 unfold mW;rw[h,aH,if_pos ⟨hi,eZ hl (by omega)⟩]
theorem Bm {i:Nat}(h:f ρ= .ok t)(hi:ρ[i]? =some (.ow (.lst l)))(hl:l.length<=1000):oa i f ρ= .ok (.nx (ρ.set i (.ow (.lst (l++ [t]))))):=by
 unfold oa;rw[hi];simp only[h,aH];rw[if_pos (by unfold sizeLine;omega)]
theorem k_iS (h:f ρ= .ok (.tup l)):iS f ρ= .ok l:=by unfold iS;rw[h];rfl
theorem iX (h:f ρ= .ok (.lst l)):iS f ρ= .ok l:=by unfold iS;rw[h];rfl
theorem FT {n:Nat}(e:l[n]? =some t):aW (.tup l) (.int (n:Int))= .ok t:=by show(match L2.atI l _ with | some t=>Rs.ok t | none=> .bad)=_;rw[gu e]
theorem Dp {n:Nat}(e:l[n]? =some t):aW (.lst l) (.int (n:Int))= .ok t:=by show(match L2.atI l _ with | some t=>Rs.ok t | none=> .bad)=_;rw[gu e]
theorem FU {n:Nat}(h:fa ρ= .ok (.tup l))(h2:fb ρ= .ok (.int (n:Int)))(e:l[n]? =some t):o2 aW fa fb ρ= .ok t:=aN h h2 (FT e)
theorem xU {n:Nat}(h:fa ρ= .ok (.lst l))(h2:fb ρ= .ok (.int (n:Int)))(e:l[n]? =some t):o2 aW fa fb ρ= .ok t:=aN h h2 (Dp e)
theorem ni {fe:En->Rs T}{fl fu:En->Rs (Option Int)}{lo hi:Option Int}(h:fe ρ= .ok (.lst l))(h1:fl ρ= .ok lo)(h2:fu ρ= .ok hi):sl fe fl fu ρ= .ok (.lst (jh l lo hi)):=by
 unfold sl;rw[h,h1,h2];rfl
theorem xS {i:Int}(h:f ρ= .ok (.int i)):pS f ρ= .ok (some i):=by unfold pS;rw[h];rfl
theorem yz (l:List T)(n:Nat):jh l none (some (n:Int))=l.take n:=by
 unfold jh;rw[HT.sIx_none,HT.sIx_nat,N7,Nat.sub_zero,NC];omega
theorem qU (l:List T)(n:Nat):jh l (some (n:Int)) none=l.drop n:=by
 unfold jh;rw[HT.sIx_none,HT.sIx_nat]
 by_cases h:n<=l.length
 ·rw[Qh h]
  exact Ju (by rw[Ih];omega)
 ·rw[Nat.min_eq_right (by omega),JF (HE _),JF (by omega),List.take_nil]
theorem FW {i:Nat}{x:Rs Fl}(h:F (disown i ρ)=x):B4 i F ρ=x:=h
end
theorem mk2 (a b:T):gd [a,b] = .ok (.tup [a,b]):=by unfold gd;rw[if_pos (eZ (k:=1000) (by simp only[HC,IK];omega))]
theorem kD (n:Nat):(rng 0 n).length=n:=by unfold rng;rw[Hw,Kn];omega
end Tr
namespace Gr
variable {ν:Type}[DecidableEq ν]
abbrev Eb (ν:Type):=List (ν×ν×Int)
def Holds (L:Eb ν)(t:ν->Int):Prop:=∀a b m,(a,b,m)∈L->t b - t a<=m
def most (L:Eb ν)(k:Nat):Int:=match L[k]? with
 | some x=>x.2.2
 | none=>0
def src (L:Eb ν)(k:Nat):Option ν:=(L[k]?).map (·.1)
abbrev yP (ν:Type):=ν->Option (Int×List Nat)
def put (b:yP ν)(v:ν)(x:Int×List Nat):yP ν:=λu=>if u=v then some x else b u
def size (L:Eb ν):Nat:=(L.map λx=>x.2.2.natAbs).sum
def val (M:Nat)(b:yP ν)(v:ν):Nat:=match b v with
 | none=>2*M+1
 | some x=>(x.1+M).toNat
def left (M:Nat)(b:yP ν)(L:Eb ν):Nat:=(L.map λx=>val M b x.2.1).sum
def start (S:List ν):yP ν:=λv=>if v∈S then some (0,[])else none
abbrev rn (ν:Type):=ν->ν->Option Int
def F2 (f:rn ν)(a b:ν)(x:Int):rn ν:=λu v=>if u=a/\v=b then some x else f u v
def F7 (f:rn ν)(a b:ν)(x:Int):rn ν:=match f a b with
 | none=>F2 f a b x
 | some y=>if x<y then F2 f a b x else f
def F1 (mid one other:ν)(f:rn ν):rn ν:=match f one mid,f mid other with
 | some x,some y=>F7 f one other (x+y)
 | _,_=>f
def tab0 (P:List ν):rn ν:=λu v=>if u∈P/\u=v then some 0 else none
def tab1 (P:List ν)(L:Eb ν):rn ν:=L.foldl (λf x=>F7 f x.1 x.2.1 x.2.2) (tab0 P)
def Ak (mid one:ν)(P:List ν)(f:rn ν):rn ν:=P.foldl (λf other=>F1 mid one other f) f
def F3 (mid:ν)(Q P:List ν)(f:rn ν):rn ν:=Q.foldl (λf one=>Ak mid one P f) f
def F6 (M P:List ν)(f:rn ν):rn ν:=M.foldl (λf mid=>F3 mid P P f) f
def table (P:List ν)(L:Eb ν):rn ν:=F6 P P (tab1 P L)
def Le (f g:rn ν):Prop:=∀u v x,g u v=some x->∃y,f u v=some y/\y<=x
end Gr
namespace G
open PySem Tr
def isI:T->Bool
 | .int _=>true
 | _=>false
theorem Aq (t:T)(h:t.pl=true):gp [t] = .ok (.bl (isI t)):=by
 cases t <;> first | rfl | (simp[T.pl]at h;done)
def within (t:T)(a b:Int):Bool:=match t with
 | .int i=>decide (a<=i)&&decide (i<=b)
 | _=>false
theorem fB (t:T)(a b:Int)(h:t.pl=true):aU [t,.int a,.int b] = .ok (.bl (within t a b)):=by
 have w:=Aq t h
 cases t with
 | int i=>
  simp[aU,val,bo,ib,aI,aP,cE,vr,ch,cl,ae,ag,qY,within,w,isI]
  cases decide (a<=i) <;> rfl
 | scr _=>simp[T.pl]at h
 | dct _ _=>simp[T.pl]at h
 | ob _ _ _=>simp[T.pl]at h
 | _=>simp[aU,val,bo,ib,aI,aP,cE,vr,ch,cl,ae,ag,within,w,isI]
def dD (t:T)(a b:Nat):Bool:=match t with
 | .tup l=>decide (a<=l.length)&&decide (l.length<=b)
 | _=>false
theorem jg (t:T)(a b:Nat)(h:t.pl=true):aJ [t,.int a,.int b] = .ok (.bl (dD t a b)):=by
 cases t with
 | tup l=>
  simp[aJ,val,bo,nL,aI,aP,cE,o1,vr,yR,T.ty,tW,ch,cl,ae,ag,bW,T.items,qY,dD]
  cases decide (a<=l.length) <;> rfl
 | scr _=>simp[T.pl]at h
 | dct _ _=>simp[T.pl]at h
 | ob _ _ _=>simp[T.pl]at h
 | _=>rfl
def qu (x y:T):Bool:=within x 1 9&&(match x with
 | .int i=>within y i 9
 | _=>false)
theorem DH (x y:T)(hx:x.pl=true)(hy:y.pl=true):ff [x,y] = .ok (.bl (qu x y)):=by
 have w:=fB x 1 9 hx;unfold qu
 cases q:within x 1 9 with
 | false=>rw[q]at w;simp[ff,val,bo,ka,aI,aP,cE,vr,cn,cl,ae,ag,w]
 | true=>
  rw[q]at w
  cases x with
  | int i=>simp[ff,val,bo,ka,aI,aP,cE,vr,cn,cl,ae,ag,w,fB y i 9 hy]
  | _=>cases q
def rQ:List Int->Bool
 | a::b::r=>decide (a<b)&&rQ (b::r)
 | _=>true
theorem ris2 (a b:Int)(r:List Int):rQ (a::b::r)=(decide (a<b)&&rQ (b::r)):=rfl
theorem pJ {fe:En->Rs T}{p:T->Bool}{l:List T}{fi:En->Rs (List T)}{src:List (Option Nat)}{ρ:En}(hi:fi ρ= .ok l)(hs:l.length<=sizeLine)(hn:0<src.length)(hf:∀t∈l,fe ((cG src ρ).set 0 (.va t))= .ok (.bl (p t))) :
  cl mK (ae (eH fi src (gN 0) bT fe) ag) ρ= .ok (.bl (l.all p)):=by
 have e:=sg (fe:=fe) (h:=λt=>T.bl (p t)) l (cG src ρ) (by unfold cG;rw[Hw];exact hn) hf
 simp only[cl,ae,ag,eH,hi,aH,if_pos hs,e,all_map]
def jX (l:List T):T->Bool
 | .int k=>match L2.atI l k,L2.atI l (k+1)with
  | some (.int a),some (.int b)=>decide (a<b)
  | _,_=>false
 | _=>false
theorem oh {t:T}{j:Int}(h:t∈rng 0 j):∃k:Nat,t= .int k/\(k:Int)<j:=by
 unfold rng at h;obtain⟨k,hk,e⟩:=HI.mp h;rw[IX]at hk;exact⟨k,by rw[<-e];simp,by omega⟩
theorem B7:(l:List Int)->l.length<=4->(rng 0 ((l.length:Int) - 1)).all (jX (l.map .int))=rQ l
 | [],_=>rfl
 | [a],_=>rfl
 | [a,b],_=>by simp[rng,Mc,jX,L2.atI,L2.ixN,rQ]
 | [a,b,c],_=>by simp[rng,Mc,jX,L2.atI,L2.ixN,rQ]
 | [a,b,c,d],_=>by simp[rng,Mc,jX,L2.atI,L2.ixN,rQ,Bool.and_assoc]
 | a::b::c::d::e::r,h=>absurd h (by simp only[HC];omega)
theorem As (l:List Int)(h:l.length<=4):ix [.tup (l.map .int)] = .ok (.bl (rQ l)):=by
 have hr:iR (ae (o2 gK (cl bW (ae (vr 0) ag)) (cn (.int 1))) ag) [.va (.tup (l.map .int))] = .ok (rng 0 ((l.length:Int) - 1)):=by
  have:yS ((l.length:Int) - 1)=true:=by unfold yS;rw[Hu];exact⟨decide_eq_true (by omega),decide_eq_true (by omega)⟩
  simp[iR,ae,ag,o2,cl,vr,cn,bW,T.items,gK,this]
 have hs:(rng 0 ((l.length:Int) - 1)).length<=sizeLine:=by
  unfold rng sizeLine;rw[Hw,Kn];omega
 have e:=pJ (fe:=o2 ltT (o2 aW (vr 1) (vr 0)) (o2 aW (vr 1) (o2 aw (vr 0) (cn (.int 1))))) (p:=jX (l.map .int)) (src:=[none,some 0]) hr hs (by decide) (λt ht=>by
  obtain⟨k,rfl,hk⟩:=oh ht
  have h1:(l.map T.int)[k]? =some (.int (l[k]'(by omega))):=by simp
  have h2:(l.map T.int)[k+1]? =some (.int (l[k+1]'(by omega))):=by rw[Ib,HG (by omega)];rfl
  have g1:=gu h1
  have g2:L2.atI (l.map T.int) ((k:Int)+1)=some (.int (l[k+1]'(by omega))):=gu h2
  simp[o2,vr,cG,cn,aw,aW,T.items,g1,g2,qY,jX])
 rw[B7 l h]at e;simp only[ix,val,KI,if_true,uE,bo,aP,aI]
 show(do let f <-(do let t <-cl mK _ [.va (.tup (l.map .int))];Rs.ok (Fl.rt t));_)=_
 rw[e]
 rfl
def lE:List T->Option (List Int)
 | [] =>some []
 | .int i::l=>match lE l with
  | some m=>some (i::m)
  | none=>none
 | _::_=>none
def dX (t:T):Bool:=dD t 1 4&&(match t with
 | .tup l=>l.all (λu=>within u 0 99)&&(match lE l with | some m=>rQ m | none=>false)
 | _=>false)
theorem lC:∀{l:List T} {m:List Int},lE l=some m->l=m.map .int
 | [],m,h=>by cases h;rfl
 | t::l,m,h=>by
  cases t with
  | int i=>
   unfold lE at h
   cases q:lE l with
   | none=>rw[q]at h;cases h
   | some m'=>rw[q]at h;cases h;rw[HN,<-lC q]
  | _=>cases h
theorem oJ:∀{l:List T} {a b:Int},(l.all λu=>within u a b)=true->∃m,lE l=some m
 | [],_,_,_=>⟨[],rfl⟩
 | t::l,a,b,h=>by
  rw[LU,Hu]at h
  cases t with
  | int i=>
   obtain⟨m,e⟩:=oJ h.2
   exact⟨i::m,by unfold lE;rw[e]⟩
  | _=>exact absurd h.1 (by simp[within])
theorem cw {t:T}{a b:Nat}(h:dD t a b=true):∃l,t= .tup l/\a<=l.length/\l.length<=b:=by
 cases t with
 | tup l=>unfold dD at h;rw[Hu]at h;exact⟨l,rfl,of_decide_eq_true h.1,of_decide_eq_true h.2⟩
 | _=>cases h
theorem wL {n k:Nat}(h:n<=k)(hk:autoParam (k<=1000) s_):n<=sizeLine:=by unfold sizeLine;omega
theorem sj (t:T)(h:t.pl=true):bA [t] = .ok (.bl (dX t)):=by
 have w:aJ [t,.int 1,.int 4] = .ok (.bl (dD t 1 4)):=jg t 1 4 h;unfold dX
 cases q:dD t 1 4 with
 | false=>rw[q]at w;simp[bA,val,bo,dA,aI,aD,gI,di,tb,sN,aP,cl,vr,cn,ae,ag,w]
 | true=>
  rw[q]at w;obtain⟨l,rfl,h1,h2⟩:=cw q
  have hp:∀u∈l,u.pl=true:=λu hu=>iu (by unfold T.pl at h;exact h) hu
  have e:=pJ (fe:=cl aU (ae (vr 0) (ae (cn (.int 0)) (ae (cn (.int 99)) ag)))) (p:=λu=>within u 0 99) (src:=[none]) (fi:=iS (vr 0)) (ρ:=[.va (.tup l)]) rfl (wL h2) (by decide) (λu hu=>by
   simp[cl,ae,ag,vr,cn,cG,fB u 0 99 (hp u hu)])
  have w':cl aJ (ae (vr 0) (ae (cn (.int 1)) (ae (cn (.int 4)) ag))) [.va (.tup l)] = .ok (.bl true):=w
  show bA _= .ok (.bl (true&&(l.all (λu=>within u 0 99)&&(match lE l with | some m=>rQ m | none=>false))))
  cases qa:l.all λu=>within u 0 99 with
  | false=>
   rw[qa]at e
   simp[bA,val,bo,dA,aI,aD,gI,di,tb,sN,aP,cE,e,w']
  | true=>
   rw[qa]at e;obtain⟨m,em⟩:=oJ qa
   have el:=lC em
   have er:=As m (by rw[el,Hw]at h2;exact h2)
   rw[<-el]at er
   have er':cl ix (ae (vr 0) ag) [.va (.tup l)] = .ok (.bl (rQ m)):=er;simp[bA,val,bo,dA,aI,aD,gI,di,tb,sN,aP,cE,e,w',er',em]
def at_ (t:T)(k:Nat):T:=match t.items with
 | some l=>l.getD k .non
 | none=> .non
def b8 (t:T):Bool:=dD t 3 3&&(match t with
 | .tup [x,y,r] =>qu x y&&dX r
 | _=>false)
theorem Aw (t:T)(h:t.pl=true):cT [t] = .ok (.bl (b8 t)):=by
 have w:aJ [t,.int 3,.int 3] = .ok (.bl (dD t 3 3)):=jg t 3 3 h;unfold b8
 cases q:dD t 3 3 with
 | false=>rw[q]at w;simp[cT,val,bo,gx,aI,aP,cE,cl,vr,cn,ae,ag,w]
 | true=>
  rw[q]at w;obtain⟨l,rfl,h1,h2⟩:=cw q
  match l,h1,h2 with
  | [x,y,r],_,_=>
   simp[T.pl,plS]at h;obtain⟨px,py,pr⟩:=h
   have g0:aW (.tup [x,y,r]) (.int 0)= .ok x:=rfl
   have g1:aW (.tup [x,y,r]) (.int 1)= .ok y:=rfl
   have g2:aW (.tup [x,y,r]) (.int 2)= .ok r:=rfl
   have ep:=DH x y px py
   have er:=sj r pr
   cases qp:qu x y with
   | false=>rw[qp]at ep;simp[cT,val,bo,gx,aI,aP,cE,cl,vr,cn,ae,ag,o2,w,g0,g1,ep,qp]
   | true=>rw[qp]at ep;simp[cT,val,bo,gx,aI,aP,cE,cl,vr,cn,ae,ag,o2,w,g0,g1,g2,ep,er,qp]
def bf (t:T):Bool:=dD t 1 4&&(match t with
 | .tup l=>l.all b8
 | _=>false)
theorem yu (t:T)(h:t.pl=true):cX [t] = .ok (.bl (bf t)):=by
 have w:aJ [t,.int 1,.int 4] = .ok (.bl (dD t 1 4)):=jg t 1 4 h;unfold bf
 cases q:dD t 1 4 with
 | false=>rw[q]at w;simp[cX,val,bo,gz,aI,aP,cE,cl,vr,cn,ae,ag,w]
 | true=>
  rw[q]at w;obtain⟨l,rfl,h1,h2⟩:=cw q
  have hp:∀u∈l,u.pl=true:=λu hu=>iu (by unfold T.pl at h;exact h) hu
  have e:=pJ (fe:=cl cT (ae (vr 0) ag)) (p:=b8) (src:=[none]) (fi:=iS (vr 0)) (ρ:=[.va (.tup l)]) rfl (wL h2) (by decide) (λu hu=>by
   simp[cl,ae,ag,vr,cn,cG,Aw u (hp u hu)])
  have w':cl aJ (ae (vr 0) (ae (cn (.int 1)) (ae (cn (.int 4)) ag))) [.va (.tup l)] = .ok (.bl true):=w;simp[cX,val,bo,gz,aI,aP,cE,e,w']
def dY (x y:T):Bool:=within x 0 999&&(match x,y with
 | _,.non=>true
 | .int i,_=>within y i 999
 | _,_=>false)
theorem Av (x y:T)(hx:x.pl=true)(hy:y.pl=true):dj [x,y] = .ok (.bl (dY x y)):=by
 have w:=fB x 0 999 hx;unfold dY
 cases q:within x 0 999 with
 | false=>rw[q]at w;simp[dj,val,bo,gw,aI,aP,cE,vr,cn,cl,ae,ag,w]
 | true=>
  rw[q]at w
  cases x with
  | int i=>
   have e:=fB y i 999 hy
   cases y with
   | non=>simp[dj,val,bo,gw,aI,aP,cE,Fz,vr,cn,cl,ae,ag,o2,lN,T.isN,w]
   | _=>simp[dj,val,bo,gw,aI,aP,cE,Fz,vr,cn,cl,ae,ag,o2,lN,T.isN,w,e]
  | _=>cases q
def reads (cs:List T)(c:Int):Nat:=if 0<=c then(match cs[c.toNat]? with
 | some (.tup [_,_,.tup r])=>r.length
 | _=>0)else 0
def bg (cs:List T)(t:T):Bool:=match t with
 | .tup [.int c,.int k] =>decide (0<=c)&&decide (c<cs.length)&&(decide (0<=k)&&decide (k<reads cs c))
 | _=>false
theorem ku {t:T}(h:b8 t=true):∃x y r,t= .tup [x,y,.tup r]:=by
 unfold b8 at h;rw[Hu]at h;obtain⟨h1,h2⟩:=h;obtain⟨l,rfl,h3,h4⟩:=cw h1
 match l,h3,h4,h2 with
 | [x,y,r],_,_,h2=>
  simp only[Hu]at h2;obtain⟨_,h5⟩:=h2;unfold dX at h5;rw[Hu]at h5;obtain⟨m,rfl,_⟩:=cw h5.1;exact⟨x,y,m,rfl⟩
theorem dH {t:T}{a b:Int}(h:within t a b=true):∃i,t= .int i/\a<=i/\i<=b:=by
 cases t with
 | int i=>unfold within at h;rw[Hu]at h;exact⟨i,rfl,of_decide_eq_true h.1,of_decide_eq_true h.2⟩
 | _=>cases h
theorem uk (cs:List T)(t:T)(hc:bf (.tup cs)=true)(h:t.pl=true):cS [.tup cs,t] = .ok (.bl (bg cs t)):=by
 have w:aJ [t,.int 2,.int 2] = .ok (.bl (dD t 2 2)):=jg t 2 2 h
 cases q:dD t 2 2 with
 | false=>
  rw[q]at w
  have:bg cs t=false:=by
   unfold bg;split
   ·cases q
   ·rfl
  simp[cS,val,bo,gv,aI,aD,gI,mj,di,tb,sN,aP,cl,vr,cn,ae,ag,w,this]
 | true=>
  rw[q]at w;obtain⟨l,rfl,h1,h2⟩:=cw q
  match l,h1,h2 with
  | [x,y],_,_=>
   simp[T.pl,plS]at h;obtain⟨px,py⟩:=h
   have g0:aW (.tup [x,y]) (.int 0)= .ok x:=rfl
   have g1:aW (.tup [x,y]) (.int 1)= .ok y:=rfl
   have gl:bW [.tup cs] = .ok (.int cs.length):=rfl
   have e1:=fB x 0 ((cs.length:Int) - 1) px
   cases q1:within x 0 ((cs.length:Int) - 1)with
   | false=>
    rw[q1]at e1
    have:bg cs (.tup [x,y])=false:=by
     cases x with
     | int c=>
      cases y with
      | int k=>
       simp only[within,LI,decide_eq_false_iff_not]at q1;simp only[bg,LI,decide_eq_false_iff_not]
       omega
      | _=>rfl
     | _=>rfl
    simp[cS,val,bo,gv,aI,aD,gI,mj,di,tb,sN,aP,cl,vr,cn,ae,ag,o2,gK,w,g0,gl,e1,this]
   | true=>
    rw[q1]at e1;obtain⟨c,rfl,c1,c2⟩:=dH q1;obtain⟨n,rfl⟩:=HY c1
    have hn:n<cs.length:=by omega
    have hcl:b8 cs[n] =true:=by
     unfold bf at hc;rw[Hu]at hc;exact HW.mp hc.2 _ (JS hn)
    obtain⟨a,b,r,er⟩:=ku hcl
    have g2:aW (.tup cs) (.int (n:Int))= .ok (.tup [a,b,.tup r]):=by
     simp only[aW,T.items];rw[gu (HG hn),er]
    have g3:aW (.tup [a,b,.tup r]) (.int 2)= .ok (.tup r):=rfl
    have gr:bW [.tup r] = .ok (.int r.length):=rfl
    have e2:=fB y 0 ((r.length:Int) - 1) py
    have:bg cs (.tup [.int n,y])=within y 0 ((r.length:Int) - 1):=by
     have er2:reads cs (n:Int)=r.length:=by
      unfold reads;rw[if_pos c1,JI,HG hn,er]
     cases y with
     | int k=>
      simp only[bg,within,er2];rw[decide_eq_true c1,decide_eq_true (show(n:Int)<cs.length by omega)]
      simp only[LX]
      congr 1
      exact decide_eq_decide.mpr (by omega)
     | _=>rfl
    simp[cS,val,bo,gv,aI,aD,gI,mj,di,tb,sN,aP,cl,vr,cn,ae,ag,o2,gK,w,g0,g1,g2,g3,gl,gr,e1,e2,this]
def cV (cs:List T)(t:T):Bool:=match t with
 | .tup [a,b,x,y] =>dY x y&&(bg cs a&&(bg cs b&& !bU a b))
 | _=>false
theorem fI {cs:List T}{t:T}(h:bg cs t=true):∃c k:Int,t= .tup [.int c,.int k]:=by
 unfold bg at h
 split at h
 ·exact⟨_,_,rfl⟩
 ·cases h
theorem yq (cs:List T)(t:T)(hc:bf (.tup cs)=true)(h:t.pl=true):bM [.tup cs,t] = .ok (.bl (cV cs t)):=by
 have w:aJ [t,.int 4,.int 4] = .ok (.bl (dD t 4 4)):=jg t 4 4 h
 cases q:dD t 4 4 with
 | false=>
  rw[q]at w
  have:cV cs t=false:=by
   unfold cV;split
   ·cases q
   ·rfl
  simp[bM,val,bo,dr,aI,aD,gI,mj,di,tb,sN,aP,cl,vr,cn,ae,ag,w,this]
 | true=>
  rw[q]at w;obtain⟨l,rfl,h1,h2⟩:=cw q
  match l,h1,h2 with
  | [a,b,x,y],_,_=>
   simp[T.pl,plS]at h;obtain⟨pa,pb,px,py⟩:=h
   have g0:aW (.tup [a,b,x,y]) (.int 0)= .ok a:=rfl
   have g1:aW (.tup [a,b,x,y]) (.int 1)= .ok b:=rfl
   have g2:aW (.tup [a,b,x,y]) (.int 2)= .ok x:=rfl
   have g3:aW (.tup [a,b,x,y]) (.int 3)= .ok y:=rfl
   have e1:=Av x y px py
   have e2:=uk cs a hc pa
   have e3:=uk cs b hc pb
   show _=Rs.ok (T.bl (dY x y&&(bg cs a&&(bg cs b&& !bU a b))))
   cases q1:dY x y with
   | false=>
    rw[q1]at e1
    simp[bM,val,bo,dr,aI,aD,gI,mj,di,tb,sN,aP,cl,vr,cn,ae,ag,o2,w,g2,g3,e1]
   | true=>
    rw[q1]at e1
    cases q2:bg cs a with
    | false=>
     rw[q2]at e2
     simp[bM,val,bo,dr,aI,aD,gI,mj,di,tb,sN,aP,cE,cl,vr,cn,ae,ag,o2,w,g0,g2,g3,e1,e2]
    | true=>
     rw[q2]at e2
     cases q3:bg cs b with
     | false=>
      rw[q3]at e3
      simp[bM,val,bo,dr,aI,aD,gI,mj,di,tb,sN,aP,cE,cl,vr,cn,ae,ag,o2,w,g0,g1,g2,g3,e1,e2,e3]
     | true=>
      rw[q3]at e3;obtain⟨c,k,rfl⟩:=fI q2
      have f:fA (.tup [.int c,.int k]) b=true:=eE (by simp[T.dep,deps]) rfl (T.GM _ pb)
      have g4:neT (.tup [.int c,.int k]) b= .ok (.bl (!bU (.tup [.int c,.int k]) b)):=by unfold neT;rw[if_pos f]
      simp[bM,val,bo,dr,aI,aD,gI,mj,di,tb,sN,aP,cE,cl,vr,cn,ae,ag,o2,w,g0,g1,g2,g3,g4,e1,e2,e3]
def fg (cs:List T)(t:T):Bool:=dD t 0 8&&(match t with
 | .tup l=>l.all (cV cs)
 | _=>false)
theorem vn (cs:List T)(t:T)(hc:bf (.tup cs)=true)(h:t.pl=true):cJ [.tup cs,t] = .ok (.bl (fg cs t)):=by
 have w:aJ [t,.int 0,.int 8] = .ok (.bl (dD t 0 8)):=jg t 0 8 h;unfold fg
 cases q:dD t 0 8 with
 | false=>rw[q]at w;simp[cJ,val,bo,fU,aI,aP,cE,cl,vr,cn,ae,ag,w]
 | true=>
  rw[q]at w;obtain⟨l,rfl,h1,h2⟩:=cw q
  have hp:∀u∈l,u.pl=true:=λu hu=>iu (by unfold T.pl at h;exact h) hu
  have e:=pJ (fe:=cl bM (ae (vr 1) (ae (vr 0) ag))) (p:=cV cs) (src:=[none,some 0]) (fi:=iS (vr 1)) (ρ:=[.va (.tup cs),.va (.tup l)]) rfl (wL h2) (by decide) (λu hu=>by
   simp[cl,ae,ag,vr,cn,cG,yq cs u hc (hp u hu)])
  have w':cl aJ (ae (vr 1) (ae (cn (.int 0)) (ae (cn (.int 8)) ag))) [.va (.tup cs),.va (.tup l)] = .ok (.bl true):=w;simp[cJ,val,bo,fU,aI,aP,cE,e,w']
def gf (t:T):Bool:=match t with
 | .tup [.tup cs,ls] =>bf (.tup cs)&&fg cs ls
 | _=>false
theorem jG (t:T)(h:t.pl=true):aQ [t] = .ok (.bl (gf t)):=by
 have w:aJ [t,.int 2,.int 2] = .ok (.bl (dD t 2 2)):=jg t 2 2 h
 cases q:dD t 2 2 with
 | false=>
  rw[q]at w
  have:gf t=false:=by
   unfold gf;split
   ·cases q
   ·rfl
  simp[aQ,val,bo,fK,aI,aP,cE,cl,vr,cn,ae,ag,w,this]
 | true=>
  rw[q]at w;obtain⟨l,rfl,h1,h2⟩:=cw q
  match l,h1,h2 with
  | [x,y],_,_=>
   simp[T.pl,plS]at h;obtain⟨px,py⟩:=h
   have g0:aW (.tup [x,y]) (.int 0)= .ok x:=rfl
   have g1:aW (.tup [x,y]) (.int 1)= .ok y:=rfl
   have e1:=yu x px
   cases q1:bf x with
   | false=>
    rw[q1]at e1
    have:gf (.tup [x,y])=false:=by
     cases x with
     | tup cs=>show(bf (.tup cs)&&_)=false;rw[q1];rfl
     | _=>rfl
    simp[aQ,val,bo,fK,aI,aP,cE,cl,vr,cn,ae,ag,o2,w,g0,e1,this]
   | true=>
    rw[q1]at e1
    cases x with
    | tup cs=>
     have e2:=vn cs y q1 py
     have:gf (.tup [.tup cs,y])=fg cs y:=by show(bf (.tup cs)&&_)=_;rw[q1];rfl
     simp[aQ,val,bo,fK,aI,aP,cE,cl,vr,cn,ae,ag,o2,w,g0,g1,e1,e2,this]
    | _=>cases q1
theorem dP:∀m:List Int,deps (m.map .int)=0
 | [] =>rfl
 | a::m=>by rw[HN,deps,dP m];rfl
def pf (i n:Nat):List T:=(rng 0 n).map λt=>T.tup [.int i,t]
def Gx:T->Nat
 | .tup [_,_,.tup r] =>r.length
 | _=>0
def fW:Nat->List T->List T
 | _,[] => []
 | i,c::r=>pf i (Gx c)++fW (i+1) r
theorem hG {t:T}(h:b8 t=true):∃x y r,t= .tup [x,y,.tup r]/\1<=r.length/\r.length<=4:=by
 obtain⟨x,y,r,rfl⟩:=ku h
 have:dX (.tup r)=true:=by
  have h':(qu x y&&dX (.tup r))=true:=h;rw[Hu]at h';exact h'.2
 unfold dX at this;rw[Hu]at this;obtain⟨l,e,h1,h2⟩:=cw this.1;cases e;exact⟨x,y,r,rfl,h1,h2⟩
theorem lU (i n:Nat):(pf i n).length=n:=by unfold pf;rw[Hw,kD]
abbrev evF:En->Rs Fl:=bN (o2 aw (vr 1) (eH (iR (ae (cl bW (ae (o2 aW (vr 3) (cn (.int 2))) ag)) ag)) [none,some 2] (gN 0) bT (bQ (ae (vr 1) (ae (vr 0) ag))))) (gN 1)
abbrev evG:T->En->Rs En:=gT 2 (vk (gN 2) (vk (gN 3) Bq))
theorem Ek {f:En->Rs (List T)}{ρ:En}{j:Int}(h:f ρ= .ok [.int j])(h0:0<=j)(h1:j<=100000):iR f ρ= .ok (rng 0 j):=by
 have e:yS j=true:=by unfold yS;rw[Hu];exact⟨decide_eq_true (by omega),decide_eq_true (by omega)⟩
 unfold iR;rw[h]
 show(if yS j=true then _ else _)=_
 rw[e];rfl
theorem pK (l m:List T)(h:(l++m).length<=1000):aw (.lst l) (.lst m)= .ok (.lst (l++m)):=by
 show kl (l++m)=_
 unfold kl;rw[if_pos (eZ h)]
theorem d6 (l m:List T)(h:(l++m).length<=1000):aw (.tup l) (.tup m)= .ok (.tup (l++m)):=by
 show gd (l++m)=_
 unfold gd;rw[if_pos (eZ h)]
theorem F8 (c0 acc x y:T)(r:List T)(i:Nat)(h:r.length<=4) :
  eH (iR (ae (cl bW (ae (o2 aW (vr 3) (cn (.int 2))) ag)) ag)) [none,some 2] (gN 0) bT (bQ (ae (vr 1) (ae (vr 0) ag))) [.va c0,.va acc,.va (.int i),.va (.tup [x,y,.tup r])] = .ok (.lst (pf i r.length)):=
 lL (Ek (j:=(r.length:Int)) rfl (by omega) (by omega)) (eZ (k:=4) (by rw[kD];exact h)) (by simp) λt _=>mk2 _ _
theorem An (c0 x y:T)(acc r:List T)(i:Nat)(h:r.length<=4)(ha:acc.length<=100):evF [.va c0,.va (.lst acc),.va (.int i),.va (.tup [x,y,.tup r])] = .ok (.nx [.va c0,.va (.lst (acc++pf i r.length)),.va (.int i),.va (.tup [x,y,.tup r])]):=
 bj (aN (t:=.lst acc) rfl (F8 c0 (.lst acc) x y r i h) (pK _ _ (by rw[Ht,lU];omega))) rfl
theorem uf:∀(cs:List T) (c0:T) (acc:List T) (i:Nat) (s2 s3:Sl),(∀c∈cs,b8 c=true)->acc.length+4*cs.length<=100 →
  ∃y2 y3,bO evG evF (gF i cs) [.va c0,.va (.lst acc),s2,s3] = .ok (.nx [.va c0,.va (.lst (acc++fW i cs)),y2,y3])
 | [],c0,acc,i,s2,s3,_,_=>⟨s2,s3,by simp[gF,bO,fW]⟩
 | c::cs,c0,acc,i,s2,s3,hc,hl=>by
  obtain⟨x,y,r,rfl,r1,r2⟩:=hG (hc c HD);rw[HC]at hl;obtain⟨z2,z3,ih⟩:=uf cs c0 (acc++pf i r.length) (i+1) (.va (.int i)) (.va (.tup [x,y,.tup r])) (λc h=>hc c (Hv _ h)) (by rw[Ht,lU];omega)
  refine⟨z2,z3,?_⟩
  rw[gF,jY (ρ1:=[.va c0,.va (.lst acc),.va (.int i),.va (.tup [x,y,.tup r])]) rfl (An c0 x y acc r i r2 (by omega)),ih,fW,IC]
  rfl
theorem fE {cs:List T}(hc:bf (.tup cs)=true):(∀c∈cs,b8 c=true)/\1<=cs.length/\cs.length<=4:=by
 unfold bf at hc;rw[Hu]at hc;obtain⟨l,e,h1,h2⟩:=cw hc.1;cases e;exact⟨λc h=>HW.mp hc.2 c h,h1,h2⟩
theorem yr (cs:List T)(hc:bf (.tup cs)=true):dW [.tup cs] = .ok (.lst (fW 0 cs)):=by
 obtain⟨ha,h1,h2⟩:=fE hc;obtain⟨y2,y3,e⟩:=uf cs (.tup cs) [] 0 .em .em ha (by simp;omega)
 rw[Jx]at e;refine cO rfl ?_
 unfold iZ;rw[aE (ρ':=[.va (.tup cs),.va (.lst []),.em,.em]) rfl,aE ((kn (ts:=gF 0 cs) rfl e))]
 rfl
theorem uT (cs:List T)(c:Nat):reads cs (c:Int)=Gx (cs.getD c .non):=by
 unfold reads;rw[if_pos (by omega),JI,Jl]
 cases cs[c]? with
 | none=>rfl
 | some t=>
  cases t with
  | tup l=>
   match l with
   | [] =>rfl
   | [_] =>rfl
   | [_,_] =>rfl
   | [_,_,z] =>cases z <;> rfl
   | _::_::z::_::_=>cases z <;> rfl
  | _=>rfl
mutual
def sm (n:Nat):T->Bool
 | .dct _ _=>false
 | .ob _ _ _=>false
 | .scr _=>false
 | .tup l=>decide (l.length<=n)&&sms n l
 | .lst l=>decide (l.length<=n)&&sms n l
 | _=>true
def sms (n:Nat):List T->Bool
 | [] =>true
 | t::l=>sm n t&&sms n l
end
mutual
theorem A8 {n:Nat}:∀(t:T),sm n t=true->t.pl=true
 | .scr _,h=>by simp[sm]at h
 | .dct _ _,h=>by simp[sm]at h
 | .ob _ _ _,h=>by simp[sm]at h
 | .tup l,h=>by rw[sm,Hu]at h;rw[T.pl];exact sms_pl l h.2
 | .lst l,h=>by rw[sm,Hu]at h;rw[T.pl];exact sms_pl l h.2
 | .non,_=>by simp[T.pl]
 | .bl _,_=>by simp[T.pl]
 | .int _,_=>by simp[T.pl]
 | .str _,_=>by simp[T.pl]
theorem sms_pl {n:Nat}:∀(l:List T),sms n l=true->plS l=true
 | [],_=>by simp[plS]
 | t::l,h=>by rw[sms,Hu]at h;rw[plS,A8 t h.1,sms_pl l h.2];rfl
end
theorem sZ {n:Nat}:∀{l:List T},sms n l=true↔ ∀t∈l,sm n t=true
 | [] =>by simp[sms]
 | t::l=>by rw[sms,Hu,sZ (l:=l)];simp
theorem sm_tup {n:Nat}{l:List T}:sm n (.tup l)=true↔l.length<=n/\∀t∈l,sm n t=true:=by rw[sm,Hu,sZ,decide_eq_true_iff]
theorem jd {i j:Int}(h:0<j):je (.int i) (.int j)= .ok (.int (i % j)):=by show(if _ then _ else _)=_;rw[if_pos h]
theorem kI {i j:Int}(h:0<j)(h2:j<1073741824):jE (.int i) (.int j)= .ok (.int (i / j)):=by show(if _ then _ else _)=_;rw[if_pos ⟨h,h2⟩]
theorem jB {i j:Int}(h : -18446744073709551616<i)(h2:i<18446744073709551616):dm (.int i) (.int j)= .ok (.int (i*j)):=by
 show xB (.int i) (.int j)=_
 show(if _ then _ else _)=_
 rw[if_pos (.inl ⟨by omega,by omega⟩)]
theorem FI {i j:Int}(h : -18446744073709551616<j)(h2:j<18446744073709551616):dm (.int i) (.int j)= .ok (.int (i*j)):=by
 show xB (.int i) (.int j)=_
 show(if _ then _ else _)=_
 rw[if_pos (.inr ⟨by omega,by omega⟩)]
theorem DK (ns:List Int)(k:Nat)(hn:ns.length<=63):∃c,ej [.scr ns,.int k] = .ok (.int c):=by
 have e0:o2 eqT (vr 0) (dz ag) [.va (.scr ns),.va (.int k)] = .ok (.bl (iY ns [])):=by
  refine aN (t:=.scr ns) (u:=.lst []) rfl (jC (ts:=[]) rfl (eZ (k:=0) (HE _))) ?_
  unfold eqT;rw[if_pos (eE (by simp[T.dep]) rfl rfl)]
  rfl
 cases ns with
 | nil=>
  refine⟨7*k,cO rfl ?_⟩
  unfold ig
  refine lJ ((nk (eC e0)).trans (c6 (aN (t:=.int 7) (u:=.int k) rfl rfl (jB (by omega) (by omega)))))
 | cons a r=>
  have hl:(0:Int)<((a::r).length:Nat):=by simp only[HC];omega
  have hl2:(((a::r).length:Nat):Int)<1073741824:=by simp only[HC]at hn ⊢;omega
  have hi:k % (a::r).length<(a::r).length:=Nat.mod_lt _ (by simp)
  have g0:o2 je (vr 1) (cl bW (ae (vr 0) ag)) [.va (.scr (a::r)),.va (.int k)] = .ok (.int ((k % (a::r).length:Nat):Int)):=by
   refine aN (t:=.int k) (u:=.int ((a::r).length:Nat)) rfl ?_ (by rw[jd hl];rfl)
   refine a7 (ts:=[.scr (a::r)]) rfl ?_
   show Rs.ok (T.int (((a::r).map T.int).length:Nat))=_
   rw[Hw]
  have g1:aW (.scr (a::r)) (.int ((k % (a::r).length:Nat):Int))= .ok (.int (a::r)[k % (a::r).length]):=by
   have e:((a::r).map T.int)[k % (a::r).length]? =some (.int (a::r)[k % (a::r).length]):=by rw[Ib,HG hi];rfl
   show(match L2.atI ((a::r).map T.int) ((k % (a::r).length:Nat):Int)with | some t=>Rs.ok t | none=> .bad)=_
   rw[gu e]
  have g2:o2 jE (vr 1) (cl bW (ae (vr 0) ag)) [.va (.scr (a::r)),.va (.int k)] = .ok (.int ((k:Int) / ((a::r).length:Nat))):=by
   refine aN (t:=.int k) (u:=.int ((a::r).length:Nat)) rfl ?_ (kI hl hl2)
   refine a7 (ts:=[.scr (a::r)]) rfl ?_
   show Rs.ok (T.int (((a::r).map T.int).length:Nat))=_
   rw[Hw]
  refine⟨(a::r)[k % (a::r).length] +6553*((k:Int) / ((a::r).length:Nat)),cO rfl ?_⟩
  unfold ig
  show aD _ _ [.va (.scr (a::r)),.va (.int k)] =_
  refine(aE (ρ':=[.va (.scr (a::r)),.va (.int k)]) ((iW (eC e0)).trans rfl)).trans ?_
  exact c6 (aN (aN (t:=.scr (a::r)) rfl g0 g1) (aN (t:=.int 6553) rfl g2 (jB (by omega) (by omega))) rfl)
theorem b9 (ns:List Int)(k:Nat)(m:Int)(hn:ns.length<=63)(hm:0<m):∃r,ao [.scr ns,.int k,.int m] = .ok (.int r)/\0<=r/\r<m:=by
 obtain⟨c,hc⟩:=DK ns k hn
 have b1:∀x:Int,0<=x % 2147483563/\x % 2147483563<2147483563:=λx=>⟨ND _ (by omega),Mr _ (by omega)⟩
 have b2:∀x:Int,0<=x % 2147483399/\x % 2147483399<2147483399:=λx=>⟨ND _ (by omega),Mr _ (by omega)⟩
 generalize hx:(c % 2147483563*69069+104723*((k:Int)+1)) % 2147483563=x
 have hx':=b1 (c % 2147483563*69069+104723*((k:Int)+1));rw[hx]at hx'
 generalize hy:(x*x+x / 3) % 2147483399=y
 have hy':=b2 (x*x+x / 3);rw[hy]at hy';refine⟨(y*y+y / 7) % 2147483647 / 11 % m,cO rfl ?_,ND _ (by omega),Mr _ hm⟩
 show gA [.va (.scr ns),.va (.int k),.va (.int m),.em] =_
 unfold gA
 have s1:bN (o2 je (o2 aw (o2 dm (o2 je (cl ej (ae (vr 0) (ae (vr 1) ag))) (cn (.int 2147483563))) (cn (.int 69069))) (o2 dm (cn (.int 104723)) (o2 aw (vr 1) (cn (.int 1))))) (cn (.int 2147483563))) (gN 3) [.va (.scr ns),.va (.int k),.va (.int m),.em] = .ok (.nx [.va (.scr ns),.va (.int k),.va (.int m),.va (.int x)]):=by
  refine bj (t:=.int x) (aN (u:=.int 2147483563) (aN (aN (u:=.int 69069) (aN (u:=.int 2147483563) (a7 (ts:=[.scr ns,.int k]) rfl hc) rfl (jd (by omega))) rfl (FI (by omega) (by omega))) (aN (t:=.int 104723) (u:=.int ((k:Int)+1)) rfl rfl (jB (by omega) (by omega))) rfl) rfl ?_) rfl
  rw[jd (by omega),hx]
 have s2:bN (o2 je (o2 aw (o2 dm (vr 3) (vr 3)) (o2 jE (vr 3) (cn (.int 3)))) (cn (.int 2147483399))) (gN 3) [.va (.scr ns),.va (.int k),.va (.int m),.va (.int x)] = .ok (.nx [.va (.scr ns),.va (.int k),.va (.int m),.va (.int y)]):=by
  refine bj (t:=.int y) (aN (u:=.int 2147483399) (aN (aN (t:=.int x) (u:=.int x) rfl rfl (jB (by omega) (by omega))) (aN (t:=.int x) (u:=.int 3) rfl rfl (kI (by omega) (by omega))) rfl) rfl ?_) rfl
  rw[jd (by omega),hy]
 rw[aE s1,aE s2];exact c6 (aN (u:=.int m) (aN (u:=.int 11) (aN (u:=.int 2147483647) (aN (aN (t:=.int y) (u:=.int y) rfl rfl (jB (by omega) (by omega))) (aN (t:=.int y) (u:=.int 7) rfl rfl (kI (by omega) (by omega))) rfl) rfl (jd (by omega))) rfl (kI (by omega) (by omega))) rfl (jd hm))
theorem bS {ns:List Int}{k:Nat}{m r:Int}{f g h:En->Rs T}{ρ:En}(e:ao [.scr ns,.int k,.int m] = .ok (.int r))(h1:f ρ= .ok (.scr ns))(h2:g ρ= .ok (.int k))(h3:h ρ= .ok (.int m)) :
  cl ao (ae f (ae g (ae h ag))) ρ= .ok (.int r):=a7 (aj h1 (aj h2 (aj h3 rfl))) e
theorem qD:∀l:List Int,lE (l.map .int)=some l
 | [] =>rfl
 | a::l=>by rw[HN,lE,qD l]
theorem og (n:Nat):rng 0 (n:Int)=(Iy n).map λ(j:Nat)=>T.int j:=by
 unfold rng;simp
theorem zb (n:Nat)(l:List Int)(h:l.length<=n):sm n (.tup (l.map .int))=true:=sm_tup.mpr ⟨by rw[Hw];exact h,λt ht=>by obtain⟨x,_,rfl⟩:=HI.mp ht;simp[sm]⟩
theorem oR {y:T}:∀(cs:List T) (i:Nat),y∈fW i cs->∃c k:Nat,y= .tup [.int c,.int k]/\i<=c/\c<i+cs.length/\k<Gx (cs.getD (c - i) .non)
 | [],i,h=>by cases h
 | x::cs,i,h=>by
  rw[fW]at h;rcases HA.mp h with h | h
  ·unfold pf at h
   obtain⟨t,ht,rfl⟩:=HI.mp h;obtain⟨j,rfl,hj⟩:=oh ht;refine⟨i,j,rfl,HE _,by rw[HC];omega,?_⟩
   rw[Nat.sub_self]
   show j<Gx x
   omega
  ·obtain⟨c,k,e,h1,h2,h3⟩:=oR cs (i+1) h
   refine⟨c,k,e,by omega,by rw[HC];omega,?_⟩
   have:c - i=(c - (i+1))+1:=by omega
   rw[this];exact h3
theorem Bs {cs:List T}{y:T}(h:y∈fW 0 cs):bg cs y=true:=by
 obtain⟨c,k,rfl,_,h2,h3⟩:=oR cs 0 h
 show(decide ((0:Int)<=(c:Int))&&decide ((c:Int)<(cs.length:Int))&&(decide ((0:Int)<=(k:Int))&&decide ((k:Int)<(reads cs (c:Int):Int))))=true
 rw[Nat.sub_zero]at h3;rw[uT];simp only[Hu,decide_eq_true_eq];omega
theorem m5:∀(cs:List T) (i:Nat),(fW i cs).Nodup
 | [],i=>List.nodup_nil
 | x::cs,i=>by
  rw[fW,Pq];refine⟨?_,m5 cs (i+1),?_⟩
  ·unfold pf rng
   rw[Iq];rw[Mj,List.pairwise_map];refine List.nodup_range.imp ?_
   intro a b hab e
   simp at e
   exact hab (by omega)
  ·intro a ha b hb e
   subst e;unfold pf at ha;obtain⟨t,ht,rfl⟩:=HI.mp ha;obtain⟨c,k,e,h1,_,_⟩:=oR cs (i+1) hb
   simp at e
   omega
theorem xt {l:List T}(h:l.Nodup){i j:Nat}(hi:i<l.length)(hj:j<l.length)(hij:i≠j):l[i] ≠l[j]:=by
 rw[Mj,Mw]at h;rcases Mo i j with q | q
 ·exact h i j hi hj q
 ·exact λe=>h j i hj hi (by omega) e.symm
theorem ud:∀(cs:List T) (i:Nat),(∀c∈cs,b8 c=true)->(fW i cs).length<=4*cs.length
 | [],i,_=>HE _
 | x::cs,i,h=>by
  obtain⟨a,b,r,rfl,_,h2⟩:=hG (h x HD)
  have:=ud cs (i+1) λc hc=>h c (Hv _ hc)
  rw[fW,Ht,lU,HC]
  show r.length+_<=_
  omega
theorem yj {cs:List T}{a b:T}(ha:bg cs a=true)(hb:bg cs b=true)(h:a≠b):bU a b=false:=by
 obtain⟨c,k,rfl⟩:=fI ha;obtain⟨c',k',rfl⟩:=fI hb;rw[Bool.eq_false_iff];intro e;simp[bU,beqTs]at e;exact h (by rw[e.1,e.2])
theorem qg {cs:List T}{a:T}(ha:bg cs a=true):sm 8 a=true:=by
 obtain⟨c,k,rfl⟩:=fI ha;simp[sm,sms]
theorem xY {l:List T}{i:Nat}(h:i<l.length):aW (.lst l) (.int (i:Int))= .ok l[i]:=by
 show(match L2.atI l (i:Int)with | some t=>Rs.ok t | none=> .bad)=_
 rw[gu (HG h)]
theorem yk (a b:Int):eqT (.int a) (.int b)= .ok (.bl (a == b)):=by
 unfold eqT;rw[if_pos (eE (by simp[T.dep]) rfl rfl)]
 rfl
def okv:Rs T->T
 | .ok t=>t
 | _=> .non
def A4 (cs ls:List T):Prop:=∀t∈ls,cV cs t=true/\sm 8 t=true
theorem oW {cs:List T}{t:T}(h:cV cs t=true):∃a b x y,t= .tup [a,b,x,y]/\dY x y=true/\bg cs a=true/\bg cs b=true/\bU a b=false:=by
 unfold cV at h
 split at h
 ·simp only[Hu,Ph]at h
  exact⟨_,_,_,_,rfl,h.1,h.2.1,h.2.2.1,h.2.2.2⟩
 ·cases h
theorem B8 {cs ls:List T}(hc:bf (.tup cs)=true)(hs:∀c∈cs,sm 8 c=true)(hl:A4 cs ls)(hn:ls.length<=8):gf (RR cs ls)=true/\sm 8 (RR cs ls)=true:=by
 refine⟨?_,?_⟩
 ·show(bf (.tup cs)&&(dD (.tup ls) 0 8&&ls.all (cV cs)))=true
  rw[hc,LX,Hu,HW];exact⟨by simp[dD];exact hn,λt ht=>(hl t ht).1⟩
 ·refine sm_tup.mpr ⟨by simp,λt ht=> ?_⟩
  simp only[HB,IH,or_false]at ht;rcases ht with rfl | rfl
  ·exact sm_tup.mpr ⟨by have:=(fE hc).2.2;omega,hs⟩
  ·exact sm_tup.mpr ⟨hn,λt ht=>(hl t ht).2⟩
end G
namespace Tr
open PySem
section
variable {f fa fb:En->Rs T}{fs:En->Rs (List T)}{b c:En->Rs Bool}{F G:En->Rs Fl}{ρ ρ' ρ1 ρ2:En}{t u r:T}{ts l m:List T}
mutual
theorem j6:∀(t:T),t.pl=true->bU t t=true
 | .non,_=>rfl
 | .bl a,_=>by simp[bU]
 | .int a,_=>by simp[bU]
 | .str a,_=>by simp[bU]
 | .tup l,h=>by rw[bU];exact beqTs_refl l (by unfold T.pl at h;exact h)
 | .lst l,h=>by rw[bU];exact beqTs_refl l (by unfold T.pl at h;exact h)
 | .scr _,h=>by simp[T.pl]at h
theorem beqTs_refl:∀(l:List T),plS l=true->beqTs l l=true
 | [],_=>rfl
 | t::l,h=>by
  unfold plS at h;rw[Hu]at h;rw[beqTs,j6 t h.1,beqTs_refl l h.2];rfl
end
theorem tL (hp:t.pl=true)(hd:t.dep<=60):neT t t= .ok (.bl false):=by
 unfold neT;rw[if_pos (eE hd (T.GM _ hp) (T.GM _ hp)),j6 t hp];rfl
theorem Ao (hp:t.pl=true)(hd:t.dep<=60):eqT t t= .ok (.bl true):=by
 unfold eqT;rw[if_pos (eE hd (T.GM _ hp) (T.GM _ hp)),j6 t hp]
theorem pv {n:Nat}:∀{l:List T},(∀t∈l,t.dep<=n)->deps l<=n
 | [],_=>by unfold deps;omega
 | t::l,h=>by
  unfold deps
  have:=pv (l:=l) λu hu=>h u (Hv _ hu)
  have:=h t HD;omega
theorem jQ:∀{l:List T},(∀t∈l,t.pl=true)->plS l=true
 | [],_=>rfl
 | t::l,h=>by unfold plS;rw[h t HD,jQ λu hu=>h u (Hv _ hu)];rfl
end
end Tr
namespace G
open PySem Tr PySem.StrLaws
def tx (l:List Nat):Str:=⟨l.toArray⟩
theorem df (l:List Nat):(tx l).cps.toList=l:=by simp[tx]
theorem bJ (l:List Nat):(tx l).length=l.length:=by show l.toArray.size=_;simp
theorem kT (a b:List Nat):tx a++tx b=tx (a++b):=Str.ext' (by simp[Str.cps_append,tx])
theorem wk (x:Str):tx x.cps.toList=x:=Str.ext' (by simp[tx])
theorem rC {a b:List Nat}(h:tx a=tx b):a=b:=by
 have:=congrArg (λx:Str=>x.cps.toList) h
 rwa [df,df]at this
theorem wo (l:List Str):(l.map λx=>x.cps.toList).map tx=l:=by
 rw[Iq];exact(IU λx _=>wk x).trans (List.map_id l)
def aA (c:Nat):List (List Nat)->List Nat
 | [] => []
 | [p] =>p
 | p::q::r=>p++c::aA c (q::r)
theorem oY (c:Nat):∀ps:List (List Nat),Str.join (tx [c]) (ps.map tx)=tx (aA c ps)
 | [] =>rfl
 | [p] =>rfl
 | p::q::r=>by
  show tx p++tx [c] ++Str.join (tx [c]) ((q::r).map tx)=_
  rw[oY c (q::r),kT,kT]
  show tx ((p++ [c])++aA c (q::r))=tx (p++c::aA c (q::r))
  rw[IC];rfl
theorem DZ {c:Nat}:∀{p q r r':List Nat},c∉p->c∉q->(r= []\/∃t,r=c::t)->(r'= []\/∃t,r'=c::t)->p++r=q++r'->p=q/\r=r'
 | [],[],r,r',_,_,_,_,h=>⟨rfl,h⟩
 | [],b::q,r,r',_,hq,hr,_,h=>by
  rcases hr with rfl | ⟨t,rfl⟩
  ·cases h
  ·injection h with h1 _;exact absurd (h1▸HD) hq
 | a::p,[],r,r',hp,_,_,hr,h=>by
  rcases hr with rfl | ⟨t,rfl⟩
  ·cases h
  ·injection h with h1 _;exact absurd (h1▸HD) hp
 | a::p,b::q,r,r',hp,hq,hr,hr',h=>by
  injection h with h1 h2
  obtain⟨e1,e2⟩:=DZ (λz=>hp (Hv _ z)) (λz=>hq (Hv _ z)) hr hr' h2
  exact⟨by rw[h1,e1],e2⟩
def wz (c:Nat):List (List Nat)->List Nat
 | [] => []
 | q::r=>c::aA c (q::r)
theorem lP (c:Nat)(p:List Nat):∀r,aA c (p::r)=p++wz c r
 | [] =>(IA p).symm
 | _::_=>rfl
theorem p7 (c:Nat):∀r,wz c r= []\/∃t,wz c r=c::t
 | [] => .inl rfl
 | _::_=> .inr ⟨_,rfl⟩
theorem j0 {c:Nat}:∀{ps qs:List (List Nat)},ps≠ []->qs≠ []->(∀p∈ps,c∉p)->(∀q∈qs,c∉q)->aA c ps=aA c qs->ps=qs
 | [],_,h,_,_,_,_=>absurd rfl h
 | _::_,[],_,h,_,_,_=>absurd rfl h
 | p::ps,q::qs,_,_,hp,hq,h=>by
  rw[lP,lP]at h;obtain⟨e1,e2⟩:=DZ (hp p HD) (hq q HD) (p7 c ps) (p7 c qs) h
  cases ps with
  | nil=>
   cases qs with
   | nil=>rw[e1]
   | cons=>cases e2
  | cons a ps=>
   cases qs with
   | nil=>cases e2
   | cons b qs=>
    have e3:aA c (a::ps)=aA c (b::qs):=by injection e2
    rw[e1,j0 (by simp) (by simp) (λx hx=>hp x (Hv _ hx)) (λx hx=>hq x (Hv _ hx)) e3]
theorem wK (x y:Str):KL x y≠ []:=by
 unfold KL;split
 ·simp
 ·split
  ·simp
  ·rw[partsBetween_eq]
   obtain⟨p,r,e⟩:=partsFrom_ne x y.length 0 (Jj x y 0 x.length (x.length+1));rw[e];simp
theorem wJ (c:Nat){ps:List (List Nat)}(hne:ps≠ [])(hf:∀p∈ps,c∉p):KL (tx (aA c ps)) (tx [c])=ps.map tx:=by
 have e:=join_split (tx (aA c ps)) (tx [c])
 have f:=split_free (tx (aA c ps)) c
 have n:=wK (tx (aA c ps)) (tx [c])
 have f':∀p∈KL (tx (aA c ps)) (tx [c]),c∉p.cps.toList:=f
 generalize KL (tx (aA c ps)) (tx [c])=S at e n f'
 rw[<-wo S,oY]at e
 have:=j0 (by intro z;exact n (K7.mp z)) hne (λp hp=>by obtain⟨s,hs,rfl⟩:=HI.mp hp;exact f' s hs) hf (rC e)
 rw[<-this,wo]
theorem pG (l:List Nat)(c i:Nat):At (tx l) (tx [c]) (tx l).length i↔l[i]? =some c:=by
 have:=subAt_one (tx l) c i;rw[df]at this;exact this
theorem wF (l:List Nat)(i j:Nat):Om (tx l) i j=tx ((l.drop i).take (j - i)):=by
 rw[<-wk (Om (tx l) i j),strSub_toList,df]
theorem zP (c:Nat)(a b:List Nat)(h:c∉a):IL (tx (a++c::b)) (tx [c])=(tx a,tx [c],tx b):=by
 have hat:(a++c::b)[a.length]? =some c:=by rw[J8 (HE _),Nat.sub_self];rfl
 unfold IL;rcases occ_head (tx (a++c::b)) (tx [c]) 1 (HE _)with⟨_,hn⟩ | ⟨i,r,e,hi,hmin⟩
 ·exact absurd ((pG _ c a.length).mpr hat) (hn _)
 ·rw[e]
  have hi':=(pG _ c i).mp hi
  have:i=a.length:=by
   rcases MN i a.length with z | z | z
   ·rw[JN z]at hi'
    exact absurd (Jm hi') h
   ·exact z
   ·exact absurd ((pG _ c a.length).mpr hat) (hmin _ z)
  subst this
  dsimp only
  rw[wF,wF,bJ,bJ];simp;rw[Ju (by omega)]
theorem zQ (c:Nat)(a:List Nat)(h:c∉a):IL (tx a) (tx [c])=(tx a,On,On):=by
 unfold IL;rcases occ_head (tx a) (tx [c]) 1 (HE _)with⟨e,_⟩ | ⟨i,r,e,hi,_⟩
 ·rw[e]
 ·exact absurd (Jm ((pG _ c i).mp hi)) h
theorem mQ (p r:List Nat):JW (tx (p++r)) (tx p)=true:=by
 unfold JW;rw[subAt_eq,df,bJ,bJ,df];simp
theorem dk {p x:List Nat}(h:x.take p.length≠p):JW (tx x) (tx p)=false:=by
 unfold JW;rw[subAt_eq,df,bJ,bJ,df];simp only[N7,LI];exact .inr (by simpa using h)
end G
namespace G
open PySem Tr PySem.StrLaws PySem.NumText PyProof.Rows
theorem fh {n:Nat}(h:n<=100000):n<=sizeLine:=by rw[IZ];omega
theorem addS {a b:List Nat}(h:a.length+b.length<=100000):aw (.str (tx a)) (.str (tx b))= .ok (.str (tx (a++b))):=by
 show(if (tx a).length+(tx b).length<=sizeLine then Rs.ok (T.str (tx a++tx b))else .bad)=_
 rw[bJ,bJ,if_pos (fh h),kT]
theorem wG:∀ps:List (List Nat),jw (ps.map λp=>T.str (tx p))=some (ps.map tx)
 | [] =>rfl
 | p::ps=>by
  show(jw (ps.map λp=>T.str (tx p))).map (tx p:: ·)=_
  rw[wG ps];rfl
theorem z8 (ps:List (List Nat)):((ps.map tx).map (·.length)).sum=(ps.map (·.length)).sum:=by
 rw[Iq];exact congrArg List.sum (IU λp _=>bJ p)
theorem nq {sep:List Nat}{ps:List (List Nat)}(h:(ps.map (·.length)).sum+ps.length*sep.length<=100000):JoinOk (tx sep) (ps.map tx)=true:=by
 unfold JoinOk Builtin.Str.tooLong;rw[joinTotal,z8,Hw,bJ,decide_eq_false (by rw[IZ];omega)]
 rfl
theorem Bo {c:Nat}{ps:List (List Nat)}(h:(ps.map (·.length)).sum+ps.length<=100000):cP [.str (tx [c]),.lst (ps.map λp=>T.str (tx p))] = .ok (.str (tx (aA c ps))):=by
 show(match jw (ps.map λp=>T.str (tx p))with | some ss=>if JoinOk (tx [c]) ss=true then Rs.ok (T.str (Txt.join (tx [c]) ss))else .bad | none=> .bad)=_
 rw[wG]
 dsimp only
 rw[if_pos (nq (by simpa using h))]
 show Rs.ok (T.str (Pb (tx [c]) (ps.map tx)))=_
 rw[glued_eq_join,oY]
theorem xV:∀ps:List (List Nat),Str.join (tx []) (ps.map tx)=tx ps.flatten
 | [] =>rfl
 | [p] =>by show tx p=tx (p++ []);rw[IA]
 | p::q::r=>by
  show tx p++tx [] ++Str.join (tx []) ((q::r).map tx)=_
  rw[xV (q::r),kT,kT,IA];rfl
theorem FX {ps:List (List Nat)}(h:(ps.map (·.length)).sum<=100000):cP [.str (tx []),.lst (ps.map λp=>T.str (tx p))] = .ok (.str (tx ps.flatten)):=by
 show(match jw (ps.map λp=>T.str (tx p))with | some ss=>if JoinOk (tx []) ss=true then Rs.ok (T.str (Txt.join (tx []) ss))else .bad | none=> .bad)=_
 rw[wG]
 dsimp only
 rw[if_pos (nq (by simpa using h))]
 show Rs.ok (T.str (Pb (tx []) (ps.map tx)))=_
 rw[glued_eq_join,xV]
theorem nZ {c:Nat}{ps:List (List Nat)}(hne:ps≠ [])(hf:∀p∈ps,c∉p)(h1:(aA c ps).length<=100000)(h2:ps.length<=100000):bV [.str (tx (aA c ps)),.str (tx [c])] = .ok (.lst (ps.map λp=>T.str (tx p))):=by
 show(if (tx [c]).length≠0/\(tx (aA c ps)).length<=1000000/\(KL (tx (aA c ps)) (tx [c])).length<=1000000 then Rs.ok (T.lst ((KL (tx (aA c ps)) (tx [c])).map .str))else .bad)=_
 rw[wJ c hne hf,bJ,bJ,if_pos ⟨by simp,by omega,by rw[Hw];omega⟩,Iq]
 rfl
theorem lh {c:Nat}{a b:List Nat}(hf:c∉a)(h:(a++c::b).length<=100000):fH [.str (tx (a++c::b)),.str (tx [c])] = .ok (.tup [.str (tx a),.str (tx [c]),.str (tx b)]):=by
 show(if (tx [c]).length≠0/\(tx (a++c::b)).length<=1000000 then Rs.ok (T.tup [.str (IL (tx (a++c::b)) (tx [c])).1,.str (IL (tx (a++c::b)) (tx [c])).2.1,.str (IL (tx (a++c::b)) (tx [c])).2.2])else .bad)=_
 rw[zP c a b hf,bJ,bJ,if_pos ⟨by simp,by omega⟩]
theorem fG {g:List T->Rs T}{fa:En->Rs T}{fs:En->Rs (List T)}{ρ:En}{s:Str}{ts:List T}{x:Rs T}(h1:fa ρ= .ok (.str s))(h2:fs ρ= .ok ts)(h3:g (.str s::ts)=x):oS g fa fs ρ=x:=by
 unfold oS;rw[h1]
 show(fs ρ >>= λts=>g (.str s::ts))=x
 rw[h2];exact h3
def dg (i:Int):List Nat:=(HQ (toString i)).cps.toList
theorem Bw (i:Int):tx (dg i)=HQ (toString i):=wk _
theorem strS {i:Int}(h0:0<=i)(h1:i<1000):gG [.int i] = .ok (.str (tx (dg i))):=by
 show(if i.natAbs.log2<1920 then Rs.ok (T.str (HQ (toString i)))else .bad)=_
 rw[Bw,if_pos]
 by_cases z:i.natAbs=0
 ·rw[z];decide
 ·have h2:i.natAbs<2 ^ 14:=by omega
  exact HM ((Nat.log2_lt z).mpr h2) (by decide)
theorem kJ {i:Int}(h0:0<=i):∀c∈dg i,48<=c/\c<=57:=by
 obtain⟨m,rfl⟩:=HY h0;intro c hc;unfold dg at hc;rw[P7]at hc;obtain⟨ch,hch,e⟩:=HI.mp hc
 have r:=digit_range (Nat.isDigit_of_mem_toDigits (by decide) (by decide) hch)
 rw[<-e];exact r
theorem bD {i:Int}(h0:0<=i){c:Nat}(hc:c<48):c∉dg i:=λz=>by have:=kJ h0 c z;omega
theorem dO {i:Int}(h0:0<=i)(h1:i<1000):(dg i).length<=10:=by
 have:=W.KT.len_num h0 (by omega:i<10 ^ 10)
 exact this
theorem Ge {i:Int}(h0:0<=i):dg i≠ []:=by
 obtain⟨m,rfl⟩:=HY h0;unfold dg;rw[P7];intro e
 have h:=toDigits_len_ge 10 m;rw[K7.mp e]at h;exact absurd h (by decide)
theorem gm {i:Int}(h0:0<=i)(h1:i<1000):eW (tx (dg i))= .int i:=by
 unfold eW;rw[Bw,W.KIN.num_reads h0 (by omega)]
theorem eX {i:Int}(h0:0<=i)(h1:i<1000):oM (.str (tx (dg i)))= .ok (.int i):=by
 show(if (tx (dg i)).length<=640/\(tx (dg i)).cps.all (· <1114112)=true then Rs.ok (eW (tx (dg i)))else .bad)=_
 have ha:(tx (dg i)).cps.all (· <1114112)=true:=by
  rw[JE];intro c hc
  have hm:c∈dg i:=by simpa [tx]using hc
  have:=kJ h0 c hm
  simp;omega
 rw[if_pos ⟨by rw[bJ];have:=dO h0 h1;omega,ha⟩,gm h0 h1]
theorem zY:oM (.str (tx []))= .ok .non:=by
 have e:NX (tx [])=none:=by decide+kernel
 show(if (tx []).length<=640/\(tx []).cps.all (· <1114112)=true then Rs.ok (eW (tx []))else .bad)=_
 rw[if_pos ⟨by decide,by decide+kernel⟩]
 unfold eW;rw[e]
theorem ui {t:T}{s:Str}(h:oM (.str s)= .ok t):bz [.str s] = .ok t:=by
 refine cO rfl ?_
 show uR (vr 0) [.va (.str s)] =_
 unfold uR
 show(oM (.str s) >>= λv=>Rs.ok (Fl.rt v))=_
 rw[h];rfl
def Lc:List Nat:=[99,108,111,99,107,32]
def Ll:List Nat:=[108,101,116,116,101,114,32]
theorem s_sp:HQ " " =tx [32]:=rfl
theorem s_e:HQ "" =tx []:=rfl
def Em (s f:Int)(rs:List Int):List Nat:=(dg s++45::dg f)++32::aA 32 (rs.map dg)
def mw:Option Int->List Nat
 | none=> []
 | some m=>dg m
def dF (c k:Int):List Nat:=dg c++46::dg k
def Bf (a b c d l:Int)(m:Option Int):List Nat:=dF a b++32::(dF c d++32::(dg l++45::mw m))
def yU (s f:Int)(rs:List Int):T:=.tup [.int s,.int f,.tup (rs.map .int)]
def mV:Option Int->T
 | none=> .non
 | some m=> .int m
def Bg (a b c d l:Int)(m:Option Int):T:=.tup [.tup [.int a,.int b],.tup [.int c,.int d],.int l,mV m]
structure Ck (s f:Int)(rs:List Int):Prop where
 s0:0<=s
 s1:s<1000
 f0:0<=f
 f1:f<1000
 n0:rs≠ []
 n1:rs.length<=4
 r:∀r∈rs,0<=r/\r<1000
structure Le (a b c d l:Int)(m:Option Int):Prop where
 a:0<=a/\a<1000
 b:0<=b/\b<1000
 c:0<=c/\c<1000
 d:0<=d/\d<1000
 l:0<=l/\l<1000
 m:∀k,m=some k->0<=k/\k<1000
theorem iD (c:Nat):∀ps:List (List Nat),(aA c ps).length<=(ps.map (·.length)).sum+ps.length
 | [] =>HE _
 | [p] =>by simp[aA]
 | p::q::r=>by
  have:=iD c (q::r)
  show(p++c::aA c (q::r)).length<=_
  rw[Ht,HC,HN,OI,HC];omega
theorem rH:∀(rs:List Int),(∀r∈rs,0<=r/\r<1000)->((rs.map dg).map (·.length)).sum<=10*rs.length
 | [],_=>HE _
 | r::rs,h=>by
  have h1:=rH rs λx hx=>h x (Hv _ hx)
  have h2:=dO (h r HD).1 (h r HD).2;rw[HN,HN,OI,HC];omega
theorem pC {s f:Int}{rs:List Int}(h:Ck s f rs):(Em s f rs).length<=100:=by
 have h1:=dO h.s0 h.s1
 have h2:=dO h.f0 h.f1
 have h3:=iD 32 (rs.map dg)
 have h4:=rH rs h.r
 have h5:=h.n1;rw[Hw]at h3;unfold Em;simp only[Ht,HC];omega
theorem pd {c k:Int}(h:0<=c/\c<1000)(h':0<=k/\k<1000):(dF c k).length<=21:=by
 have h1:=dO h.1 h.2
 have h2:=dO h'.1 h'.2;unfold dF;simp only[Ht,HC];omega
theorem xA {m:Option Int}(h:∀k,m=some k->0<=k/\k<1000):(mw m).length<=10:=by
 cases m with
 | none=>exact Je _
 | some k=>exact dO (h k rfl).1 (h k rfl).2
theorem se {a b c d l:Int}{m:Option Int}(h:Le a b c d l m):(Bf a b c d l m).length<=100:=by
 have h1:=pd h.a h.b
 have h2:=pd h.c h.d
 have h3:=dO h.l.1 h.l.2
 have h4:=xA h.m;unfold Bf;simp only[Ht,HC];omega
theorem bB {fa fb:En->Rs T}{ρ:En}{a b:List Nat}(ha:fa ρ= .ok (.str (tx a)))(hb:fb ρ= .ok (.str (tx b)))(h:a.length+b.length<=100000):o2 aw fa fb ρ= .ok (.str (tx (a++b))):=aN ha hb (addS h)
theorem gU {f:En->Rs T}{ρ:En}{i:Int}(h:f ρ= .ok (.int i))(h0:0<=i/\i<1000):cl gG (ae f ag) ρ= .ok (.str (tx (dg i))):=a7 (aj h ax) (strS h0.1 h0.2)
theorem uo {s f:Int}{rs:List Int}(h:Ck s f rs):bw [yU s f rs] = .ok (.str (tx (Lc++Em s f rs++ [10]))):=by
 have hl:=pC h
 have hi:=iD 32 (rs.map dg)
 have h4:=rH rs h.r
 have h5:=h.n1
 have d1:=dO h.s0 h.s1
 have d2:=dO h.f0 h.f1;rw[Hw]at hi;refine cO rfl ?_
 show gy [.va (yU s f rs),.em] =_
 unfold gy
 have e1:eH (iS (o2 aW (vr 0) (cn (.int 2)))) [none] (gN 0) bT (cl gG (ae (vr 0) ag)) [.va (yU s f rs),.em] = .ok (.lst ((rs.map dg).map λp=>T.str (tx p))):=by
  have:=lL (fe:=cl gG (ae (vr 0) ag)) (h:=λt=>match t with | .int i=>T.str (tx (dg i)) | _=> .non) (src:=[none]) (ρ:=[.va (yU s f rs),.em]) (fi:=iS (o2 aW (vr 0) (cn (.int 2)))) (ts:=rs.map .int) (k_iS (l:=rs.map .int) (FU (n:=2) (l:=[.int s,.int f,.tup (rs.map .int)]) rfl rfl rfl)) (by rw[Hw];exact fh (by omega)) (by decide) (λt ht=>by
   obtain⟨r,hr,rfl⟩:=HI.mp ht;exact gU rfl (h.r r hr))
  rw[this,Iq,Iq]
  rfl
 have e2:oS cP (cn (.str " ")) (ae (eH (iS (o2 aW (vr 0) (cn (.int 2)))) [none] (gN 0) bT (cl gG (ae (vr 0) ag))) ag) [.va (yU s f rs),.em] = .ok (.str (tx (aA 32 (rs.map dg)))):=
  fG rfl (aj e1 ax) (by rw[s_sp];exact Bo (by rw[Hw];omega))
 rw[aE (bj e2 (show gN 1 _ _= .ok [.va (yU s f rs),.va (.str (tx (aA 32 (rs.map dg))))]from rfl))]
 have x0:o2 aW (vr 0) (cn (.int 0)) [.va (yU s f rs),.va (.str (tx (aA 32 (rs.map dg))))] = .ok (.int s):=rfl
 have x1:o2 aW (vr 0) (cn (.int 1)) [.va (yU s f rs),.va (.str (tx (aA 32 (rs.map dg))))] = .ok (.int f):=rfl;refine c6 ((bB (bB (bB (bB (bB (bB (a:=Lc) rfl (gU x0 ⟨h.s0,h.s1⟩) ?_) (b:=[45]) rfl ?_) (gU x1 ⟨h.f0,h.f1⟩) ?_) (b:=[32]) rfl ?_) (b:=aA 32 (rs.map dg)) rfl ?_) (b:=[10]) rfl ?_).trans ?_)
 any_goals (simp only[Ht,HC,IK,Lc];omega)
 unfold Em;simp only[IC,Kx,Jx]
theorem um {c k:Int}(hc:0<=c/\c<1000)(hk:0<=k/\k<1000):cz [.tup [.int c,.int k]] = .ok (.str (tx (dF c k))):=by
 have h1:=dO hc.1 hc.2
 have h2:=dO hk.1 hk.2;refine cO rfl (c6 ((bB (bB (gU (i:=c) rfl hc) (b:=[46]) rfl ?_) (gU (i:=k) rfl hk) ?_).trans ?_))
 any_goals (simp only[Ht,HC,IK];omega)
 unfold dF;simp only[IC,Kx,Jx]
theorem uj {a b c d l:Int}{m:Option Int}(h:Le a b c d l m):bq [Bg a b c d l m] = .ok (.str (tx (Ll++Bf a b c d l m++ [10]))):=by
 have h1:=pd h.a h.b
 have h2:=pd h.c h.d
 have h3:=dO h.l.1 h.l.2
 have h4:=xA h.m;refine cO rfl ?_
 show fT [.va (Bg a b c d l m),.em] =_
 unfold fT
 have e1:qN (tb (o2 lN (o2 aW (vr 0) (cn (.int 3))) (cn .non))) (cn (.str "")) (cl gG (ae (o2 aW (vr 0) (cn (.int 3))) ag)) [.va (Bg a b c d l m),.em] = .ok (.str (tx (mw m))):=by
  cases m with
  | none=>exact(km (p:=true) rfl).trans rfl
  | some k=>exact(km (p:=false) rfl).trans (gU (i:=k) rfl (h.m k rfl))
 rw[aE (bj e1 (show gN 1 _ _= .ok [.va (Bg a b c d l m),.va (.str (tx (mw m)))]from rfl))]
 have x0:cl cz (ae (o2 aW (vr 0) (cn (.int 0))) ag) [.va (Bg a b c d l m),.va (.str (tx (mw m)))] = .ok (.str (tx (dF a b))):=a7 (aj (t:=.tup [.int a,.int b]) rfl ax) (um h.a h.b)
 have x1:cl cz (ae (o2 aW (vr 0) (cn (.int 1))) ag) [.va (Bg a b c d l m),.va (.str (tx (mw m)))] = .ok (.str (tx (dF c d))):=a7 (aj (t:=.tup [.int c,.int d]) rfl ax) (um h.c h.d);refine c6 ((bB (bB (bB (bB (bB (bB (bB (bB (a:=Ll) rfl x0 ?_) (b:=[32]) rfl ?_) x1 ?_) (b:=[32]) rfl ?_) (gU (i:=l) rfl h.l) ?_) (b:=[45]) rfl ?_) (b:=mw m) rfl ?_) (b:=[10]) rfl ?_).trans ?_)
 any_goals (simp only[Ht,HC,IK,Ll];omega)
 unfold Bf;simp only[IC,Kx,Jx]
abbrev CK:=Int×Int×List Int
abbrev LE:=(Int×Int)×(Int×Int)×Int×Option Int
def dQ (x:CK):T:=yU x.1 x.2.1 x.2.2
def jk (x:CK):List Nat:=Em x.1 x.2.1 x.2.2
abbrev vH (x:CK):Prop:=Ck x.1 x.2.1 x.2.2
def eG (x:LE):T:=Bg x.1.1 x.1.2 x.2.1.1 x.2.1.2 x.2.2.1 x.2.2.2
def jW (x:LE):List Nat:=Bf x.1.1 x.1.2 x.2.1.1 x.2.1.2 x.2.2.1 x.2.2.2
abbrev uC (x:LE):Prop:=Le x.1.1 x.1.2 x.2.1.1 x.2.1.2 x.2.2.1 x.2.2.2
def lines (cs:List CK)(ls:List LE):List (List Nat):=(cs.map λx=>Lc++jk x)++ls.map λx=>Ll++jW x
def kB (cs:List CK)(ls:List LE):List Nat:=((lines cs ls).map (· ++ [10])).flatten
theorem gY:∀ls:List (List Nat),(ls.map (· ++ [10])).flatten=aA 10 (ls++ [[]])
 | [] =>rfl
 | [p] =>by simp[aA]
 | p::q::r=>by
  have:=gY (q::r);rw[HN,JK,this]
  show(p++ [10])++aA 10 (q::r++ [[]])=p++10::aA 10 (q::(r++ [[]]))
  rw[IC];rfl
theorem jZ {c x:Nat}:∀{ps:List (List Nat)},x∈aA c ps->x=c\/∃p∈ps,x∈p
 | [],h=>by cases h
 | [p],h=> .inr ⟨p,HD,h⟩
 | p::q::r,h=>by
  rcases HA.mp (show x∈p++c::aA c (q::r)from h)with h | h
  ·exact .inr ⟨p,HD,h⟩
  ·rcases HB.mp h with h | h
   ·exact .inl h
   ·rcases jZ h with h | ⟨p',hp,h⟩
    ·exact .inl h
    ·exact .inr ⟨p',Hv _ hp,h⟩
theorem AX {x:CK}(h:vH x):10∉jk x:=λz=>by
 unfold jk Em at z
 have f1:=@bD x.1 h.s0 10 (by decide)
 have f2:=@bD x.2.1 h.f0 10 (by decide)
 rcases HA.mp z with z | z
 ·rcases HA.mp z with z | z
  ·exact f1 z
  ·rcases HB.mp z with z | z
   ·cases z
   ·exact f2 z
 ·rcases HB.mp z with z | z
  ·cases z
  ·rcases jZ z with z | ⟨p,hp,z⟩
   ·cases z
   ·obtain⟨r,hr,rfl⟩:=HI.mp hp
    exact bD (h.r r hr).1 (by decide) z
theorem iH {c k:Int}(hc:0<=c)(hk:0<=k){n:Nat}(hn:n<46):n∉dF c k:=λz=>by
 unfold dF at z;rcases HA.mp z with z | z
 ·exact bD hc (by omega) z
 ·rcases HB.mp z with z | z
  ·omega
  ·exact bD hk (by omega) z
theorem tN {m:Option Int}(h:∀k,m=some k->0<=k/\k<1000){n:Nat}(hn:n<46):n∉mw m:=λz=>by
 cases m with
 | none=>cases z
 | some k=>exact bD (h k rfl).1 (by omega) z
theorem z9 {x:LE}(h:uC x):10∉jW x:=λz=>by
 unfold jW Bf at z;rcases HA.mp z with z | z
 ·exact iH h.a.1 h.b.1 (by decide) z
 ·rcases HB.mp z with z | z
  ·cases z
  ·rcases HA.mp z with z | z
   ·exact iH h.c.1 h.d.1 (by decide) z
   ·rcases HB.mp z with z | z
    ·cases z
    ·rcases HA.mp z with z | z
     ·exact bD h.l.1 (by decide) z
     ·rcases HB.mp z with z | z
      ·cases z
      ·exact tN h.m (by decide) z
section
variable {cs:List CK}{ls:List LE}(hc:∀x∈cs,vH x)(hl:∀x∈ls,uC x)
include hc hl
theorem fy:∀p∈lines cs ls,10∉p/\p.length<=110:=by
 intro p hp;rcases HA.mp hp with hp | hp
 ·obtain⟨x,hx,rfl⟩:=HI.mp hp
  refine⟨λz=>(HA.mp z).elim (λz=>by revert z;decide) (AX (hc x hx)),?_⟩
  have:(jk x).length<=100:=pC (hc x hx);rw[Ht]
  show 6+_<=110
  omega
 ·obtain⟨x,hx,rfl⟩:=HI.mp hp
  refine⟨λz=>(HA.mp z).elim (λz=>by revert z;decide) (z9 (hl x hx)),?_⟩
  have:(jW x).length<=100:=se (hl x hx);rw[Ht]
  show 7+_<=110
  omega
end
theorem lR {n:Nat}:∀{ps:List (List Nat)},(∀p∈ps,p.length<=n)->ps.flatten.length<=ps.length*n/\(ps.map (·.length)).sum<=ps.length*n
 | [],_=>⟨Je _,Je _⟩
 | p::ps,h=>by
  obtain⟨h1,h2⟩:=lR λx hx=>h x (Hv _ hx)
  have h3:=h p HD;rw[JK,Ht,HN,OI,HC,Pz];exact⟨by omega,by omega⟩
theorem DJ {t:T}(h:aQ [t] = .ok (.bl true)):dU [t] = .ok .non:=by
 refine Dj (ρ:=[.va t]) rfl ?_
 show fS [.va t] =_
 unfold fS;rw[iW (lK (eC (a7 (aj (t:=t) rfl ax) h)))]
 rfl
theorem ph {cs:List CK}{ls:List LE}(hc:∀x∈cs,vH x)(hl:∀x∈ls,uC x)(h4:cs.length<=4)(h8:ls.length<=8)(hr:aQ [RR (cs.map dQ) (ls.map eG)] = .ok (.bl true)) :
  bu [RR (cs.map dQ) (ls.map eG)] = .ok (.str (tx (kB cs ls))):=by
 have hf:=fy hc hl;refine cO rfl ?_
 show fR [.va (RR (cs.map dQ) (ls.map eG)),.em,.em] =_
 unfold fR;rw[aE (k_ex (t:=.non) (a7 (aj (t:=RR (cs.map dQ) (ls.map eG)) rfl ax) (DJ hr)))]
 have e1:eH (iS (o2 aW (vr 0) (cn (.int 0)))) [none] (gN 0) bT (cl bw (ae (vr 0) ag)) [.va (RR (cs.map dQ) (ls.map eG)),.em,.em] = .ok (.lst ((cs.map λx=>Lc++jk x++ [10]).map λp=>T.str (tx p))):=by
  have:=lL (fe:=cl bw (ae (vr 0) ag)) (h:=λt=>match bw [t]with | .ok u=>u | _=> .non) (src:=[none]) (ρ:=[.va (RR (cs.map dQ) (ls.map eG)),.em,.em]) (fi:=iS (o2 aW (vr 0) (cn (.int 0)))) (ts:=cs.map dQ) rfl (by rw[Hw];exact fh (by omega)) (by decide) (λt ht=>by
   obtain⟨x,hx,rfl⟩:=HI.mp ht;refine a7 (aj (t:=dQ x) rfl ax) ?_
   rw[show bw [dQ x] =_ from uo (hc x hx)])
  rw[this,Iq,Iq]
  congr 2
  refine IU λx hx=> ?_
  show(match bw [dQ x]with | .ok u=>u | _=> .non)=_
  rw[show bw [dQ x] =_ from uo (hc x hx)]
  rfl
 rw[aE (bj e1 (show gN 1 _ _= .ok [.va (RR (cs.map dQ) (ls.map eG)),.va (.lst ((cs.map λx=>Lc++jk x++ [10]).map λp=>T.str (tx p))),.em]from rfl))]
 have e2:eH (iS (o2 aW (vr 0) (cn (.int 1)))) [none] (gN 0) bT (cl bq (ae (vr 0) ag)) [.va (RR (cs.map dQ) (ls.map eG)),.va (.lst ((cs.map λx=>Lc++jk x++ [10]).map λp=>T.str (tx p))),.em] = .ok (.lst ((ls.map λx=>Ll++jW x++ [10]).map λp=>T.str (tx p))):=by
  have:=lL (fe:=cl bq (ae (vr 0) ag)) (h:=λt=>match bq [t]with | .ok u=>u | _=> .non) (src:=[none]) (ρ:=[.va (RR (cs.map dQ) (ls.map eG)),.va (.lst ((cs.map λx=>Lc++jk x++ [10]).map λp=>T.str (tx p))),.em]) (fi:=iS (o2 aW (vr 0) (cn (.int 1)))) (ts:=ls.map eG) rfl (by rw[Hw];exact fh (by omega)) (by decide) (λt ht=>by
   obtain⟨x,hx,rfl⟩:=HI.mp ht;refine a7 (aj (t:=eG x) rfl ax) ?_
   rw[show bq [eG x] =_ from uj (hl x hx)])
  rw[this,Iq,Iq]
  congr 2
  refine IU λx hx=> ?_
  show(match bq [eG x]with | .ok u=>u | _=> .non)=_
  rw[show bq [eG x] =_ from uj (hl x hx)]
  rfl
 rw[aE (bj e2 (show gN 2 _ _= .ok [.va (RR (cs.map dQ) (ls.map eG)),.va (.lst ((cs.map λx=>Lc++jk x++ [10]).map λp=>T.str (tx p))),.va (.lst ((ls.map λx=>Ll++jW x++ [10]).map λp=>T.str (tx p)))]from rfl))]
 have hln:((lines cs ls).map (· ++ [10]))=(cs.map λx=>Lc++jk x++ [10])++(ls.map λx=>Ll++jW x++ [10]):=by
  unfold lines;rw[J3,Iq,Iq];rfl
 have hlen:(lines cs ls).length<=12:=by unfold lines;rw[Ht,Hw,Hw];omega
 have hsum:(((lines cs ls).map (· ++ [10])).map (·.length)).sum<=100000:=by
  have:=(lR (n:=111) (ps:=(lines cs ls).map (· ++ [10])) λp hp=>by
   obtain⟨q,hq,rfl⟩:=HI.mp hp
   have:=(hf q hq).2;rw[Ht];show _+1<=111;omega).2
  rw[Hw]at this;omega
 refine c6 (fG rfl (aj (aN rfl rfl (pK _ _ (by simp only[Ht,Hw];omega))) ax) ?_)
 rw[<-J3,<-hln,s_e];exact FX hsum
theorem BN {l:List T}(h:l.length<=1000):dh [.lst l] = .ok (.tup l):=by
 first | rfl | (show gd l=_;unfold gd;rw[if_pos (fh (by omega))])
theorem Au {c:Nat}{a b:List Nat}{x y:T}(hf:c∉a)(hl:(a++c::b).length<=100000)(ha:oM (.str (tx a))= .ok x)(hb:oM (.str (tx b))= .ok y):aV [.str (tx (a++c::b)),.str (tx [c])] = .ok (.tup [x,y]):=by
 refine cO rfl ?_
 show cf [.va (.str (tx (a++c::b))),.va (.str (tx [c])),.em] =_
 unfold cf;rw[aE (bj (fG rfl (aj (t:=.str (tx [c])) rfl ax) (lh hf hl)) (show gN 2 _ _= .ok [.va (.str (tx (a++c::b))),.va (.str (tx [c])),.va (.tup [.str (tx a),.str (tx [c]),.str (tx b)])]from rfl))]
 exact c6 (cH (aj (a7 (aj (t:=.str (tx a)) rfl ax) (ui ha)) (aj (a7 (aj (t:=.str (tx b)) rfl ax) (ui hb)) ax)) (fh (by simp)))
theorem Bv {x:CK}(h:vH x):cj [.str (tx (jk x))] = .ok (dQ x):=by
 obtain⟨s,f,rs⟩:=x
 have hl:=pC h
 have h5:rs.length<=4:=h.n1
 have hsf:32∉dg s++45::dg f:=λz=>by
  rcases HA.mp z with z | z
  ·exact bD h.s0 (by decide) z
  ·rcases HB.mp z with z | z
   ·cases z
   ·exact bD h.f0 (by decide) z
 have hl2:((dg s++45::dg f)++32::aA 32 (rs.map dg)).length<=100:=hl
 have hl3:=hl2;simp only[Ht,HC]at hl3;refine cO rfl ?_
 show fF [.va (.str (tx ((dg s++45::dg f)++32::aA 32 (rs.map dg)))),.em,.em] =_
 unfold fF;rw[aE (bj (fG rfl (aj (t:=.str (tx [32])) rfl ax) (lh hsf (by omega))) (show gN 1 _ _= .ok [.va (.str (tx ((dg s++45::dg f)++32::aA 32 (rs.map dg)))),.va (.tup [.str (tx (dg s++45::dg f)),.str (tx [32]),.str (tx (aA 32 (rs.map dg)))]),.em]from rfl))]
 have sp:oS bV (o2 aW (vr 1) (cn (.int 2))) (ae (cn (.str " ")) ag) [.va (.str (tx ((dg s++45::dg f)++32::aA 32 (rs.map dg)))),.va (.tup [.str (tx (dg s++45::dg f)),.str (tx [32]),.str (tx (aA 32 (rs.map dg)))]),.em] = .ok (.lst ((rs.map dg).map λp=>T.str (tx p))):=
  fG (s:=tx (aA 32 (rs.map dg))) rfl (aj (t:=.str (tx [32])) rfl ax) (nZ (λz=>h.n0 (K7.mp z)) (λp hp=>by
   obtain⟨r,hr,rfl⟩:=HI.mp hp;exact bD (h.r r hr).1 (by decide)) (by omega) (by rw[Hw];omega))
 have e1:eH (iS (oS bV (o2 aW (vr 1) (cn (.int 2))) (ae (cn (.str " ")) ag))) [none] (gN 0) bT (cl bz (ae (vr 0) ag)) [.va (.str (tx ((dg s++45::dg f)++32::aA 32 (rs.map dg)))),.va (.tup [.str (tx (dg s++45::dg f)),.str (tx [32]),.str (tx (aA 32 (rs.map dg)))]),.em] = .ok (.lst (rs.map .int)):=by
  have:=lL (fe:=cl bz (ae (vr 0) ag)) (h:=λt=>match t with | .str x=>eW x | _=> .non) (src:=[none]) (iX sp) (by rw[Hw,Hw];exact fh (by omega)) (by decide) (λt ht=>by
   obtain⟨p,hp,rfl⟩:=HI.mp ht;obtain⟨r,hr,rfl⟩:=HI.mp hp;refine a7 (aj (t:=.str (tx (dg r))) rfl ax) (ui ?_)
   rw[eX (h.r r hr).1 (h.r r hr).2]
   show _=Rs.ok (eW (tx (dg r)))
   rw[gm (h.r r hr).1 (h.r r hr).2])
  rw[this,Iq,Iq]
  congr 2
  exact IU λr hr=>gm (h.r r hr).1 (h.r r hr).2
 rw[aE (bj e1 (show gN 2 _ _= .ok [.va (.str (tx ((dg s++45::dg f)++32::aA 32 (rs.map dg)))),.va (.tup [.str (tx (dg s++45::dg f)),.str (tx [32]),.str (tx (aA 32 (rs.map dg)))]),.va (.lst (rs.map .int))]from rfl))]
 exact c6 (aN (a7 (aj (t:=.str (tx (dg s++45::dg f))) rfl (aj (t:=.str (tx [45])) rfl ax)) (Au (bD h.s0 (by decide)) (by simp only[Ht,HC];omega) (eX h.s0 h.s1) (eX h.f0 h.f1))) (cH (aj (a7 (x:=.ok (.tup (rs.map .int))) (aj (t:=.lst (rs.map .int)) rfl ax) (BN (by rw[Hw];omega))) ax) (fh (by simp))) (d6 _ _ (by simp)))
theorem zZ {m:Option Int}(h:∀k,m=some k->0<=k/\k<1000):oM (.str (tx (mw m)))= .ok (mV m):=by
 cases m with
 | none=>exact zY
 | some k=>exact eX (h k rfl).1 (h k rfl).2
theorem Bt {x:LE}(h:uC x):bL [.str (tx (jW x))] = .ok (eG x):=by
 obtain⟨⟨a,b⟩,⟨c,d⟩,l,m⟩:=x
 have hl:(Bf a b c d l m).length<=100:=se h
 have hl3:=hl;unfold Bf at hl3;simp only[Ht,HC]at hl3
 have h1:(dF a b).length<=100:=by omega
 unfold dF at h1
 have h2:(dF c d).length<=100:=by omega
 unfold dF at h2;refine cO rfl ?_
 show eF [.va (.str (tx (dF a b++32::(dF c d++32::(dg l++45::mw m))))),.em,.em] =_
 unfold eF;rw[aE (bj (fG rfl (aj (t:=.str (tx [32])) rfl ax) (lh (iH h.a.1 h.b.1 (by decide)) (by simp only[Ht,HC];omega))) (show gN 1 _ _= .ok [.va (.str (tx (dF a b++32::(dF c d++32::(dg l++45::mw m))))),.va (.tup [.str (tx (dF a b)),.str (tx [32]),.str (tx (dF c d++32::(dg l++45::mw m)))]),.em]from rfl))]
 rw[aE (bj (fG (s:=tx (dF c d++32::(dg l++45::mw m))) rfl (aj (t:=.str (tx [32])) rfl ax) (lh (iH h.c.1 h.d.1 (by decide)) (by simp only[Ht,HC];omega))) (show gN 2 _ _= .ok [.va (.str (tx (dF a b++32::(dF c d++32::(dg l++45::mw m))))),.va (.tup [.str (tx (dF a b)),.str (tx [32]),.str (tx (dF c d++32::(dg l++45::mw m)))]),.va (.tup [.str (tx (dF c d)),.str (tx [32]),.str (tx (dg l++45::mw m))])]from rfl))]
 have n1:=a7 (ρ:=[.va (.str (tx (dF a b++32::(dF c d++32::(dg l++45::mw m))))),.va (.tup [.str (tx (dF a b)),.str (tx [32]),.str (tx (dF c d++32::(dg l++45::mw m)))]),.va (.tup [.str (tx (dF c d)),.str (tx [32]),.str (tx (dg l++45::mw m))])]) (fs:=ae (o2 aW (vr 1) (cn (.int 0))) (ae (cn (.str ".")) ag)) (aj (t:=.str (tx (dg a++46::dg b))) rfl (aj (t:=.str (tx [46])) rfl ax)) (Au (bD h.a.1 (by decide)) (by omega) (eX h.a.1 h.a.2) (eX h.b.1 h.b.2))
 have n2:=a7 (ρ:=[.va (.str (tx (dF a b++32::(dF c d++32::(dg l++45::mw m))))),.va (.tup [.str (tx (dF a b)),.str (tx [32]),.str (tx (dF c d++32::(dg l++45::mw m)))]),.va (.tup [.str (tx (dF c d)),.str (tx [32]),.str (tx (dg l++45::mw m))])]) (fs:=ae (o2 aW (vr 2) (cn (.int 0))) (ae (cn (.str ".")) ag)) (aj (t:=.str (tx (dg c++46::dg d))) rfl (aj (t:=.str (tx [46])) rfl ax)) (Au (bD h.c.1 (by decide)) (by omega) (eX h.c.1 h.c.2) (eX h.d.1 h.d.2))
 have n3:=a7 (ρ:=[.va (.str (tx (dF a b++32::(dF c d++32::(dg l++45::mw m))))),.va (.tup [.str (tx (dF a b)),.str (tx [32]),.str (tx (dF c d++32::(dg l++45::mw m)))]),.va (.tup [.str (tx (dF c d)),.str (tx [32]),.str (tx (dg l++45::mw m))])]) (fs:=ae (o2 aW (vr 2) (cn (.int 2))) (ae (cn (.str "-")) ag)) (aj (t:=.str (tx (dg l++45::mw m))) rfl (aj (t:=.str (tx [45])) rfl ax)) (Au (bD h.l.1 (by decide)) (by simp only[Ht,HC];omega) (eX h.l.1 h.l.2) (zZ h.m))
 exact c6 (aN (cH (aj n1 (aj n2 ax)) (fh (by simp))) n3 (d6 _ _ (by simp)))
theorem lW {q:List Nat}{ps:List (List Nat)}(g:List Nat->List Nat)(hn:ps.length<=1000)(hp:∀p∈ps,JW (tx p) (tx q)=true->∃x y,fH [.str (tx p),.str (tx [32])] = .ok (.tup [x,y,.str (tx (g p))])) :
  b6 [.lst (ps.map λp=>T.str (tx p)),.str (tx q)] = .ok (.lst (((ps.filter λp=>JW (tx p) (tx q)).map g).map λp=>T.str (tx p))):=by
 refine cO rfl (c6 ?_)
 have:=Bj (fc:=tb (oS il (vr 0) (ae (vr 1) ag))) (fe:=o2 aW (oS fH (vr 0) (ae (cn (.str " ")) ag)) (cn (.int 2))) (p:=λt=>match t with | .str s=>JW s (tx q) | _=>false) (h:=λt=>match t with | .str s=>T.str (tx (g s.cps.toList)) | _=> .non) (src:=[none,some 1]) (fi:=iS (vr 0)) (ρ:=[.va (.lst (ps.map λp=>T.str (tx p))),.va (.str (tx q))]) rfl (by rw[Hw];exact fh (by omega)) (by decide) (λt ht=>by
  obtain⟨p,hpp,rfl⟩:=HI.mp ht;refine⟨eC (fG (s:=tx p) rfl (aj (t:=.str (tx q)) rfl ax) rfl),λhs=> ?_⟩
  obtain⟨x,y,e⟩:=hp p hpp hs
  show _=Rs.ok (T.str (tx (g (tx p).cps.toList)))
  rw[df];exact FU (n:=2) (fG (s:=tx p) rfl (aj (t:=.str (tx [32])) rfl ax) e) rfl rfl)
 show eH (iS (vr 0)) [none,some 1] (gN 0) (tb (oS il (vr 0) (ae (vr 1) ag))) (o2 aW (oS fH (vr 0) (ae (cn (.str " ")) ag)) (cn (.int 2))) [.va (.lst (ps.map λp=>T.str (tx p))),.va (.str (tx q))] =_
 rw[this,Qi,Iq,Iq]
 congr 2
theorem lS {α:Type}{p:α->Bool}:∀{l:List α},(∀a∈l,p a=true)->l.filter p=l:=λh=>List.filter_eq_self.mpr h
theorem iG {α:Type}{p:α->Bool}{l:List α}(h:∀a∈l,p a=false):l.filter p= []:=Nk.mpr λa ha z=>by rw[h a ha]at z;cases z
section
variable {cs:List CK}{ls:List LE}(hc:∀x∈cs,vH x)(hl:∀x∈ls,uC x)(h4:cs.length<=4)(h8:ls.length<=8)
include hc hl h4 h8
theorem iy:(lines cs ls).length<=12:=by unfold lines;rw[Ht,Hw,Hw];omega
theorem Gn:b6 [.lst ((lines cs ls++ [[]]).map λp=>T.str (tx p)),.str (tx Lc)] = .ok (.lst ((cs.map jk).map λp=>T.str (tx p))):=by
 have hn:=iy hc hl h4 h8;rw[lW (q:=Lc) (λp=>p.drop 6) (by rw[Ht];show _+1<=_;omega)]
 ·refine congrArg (λl=>Rs.ok (T.lst (P3 (λp=>T.str (tx p)) l))) ?_
  unfold lines;rw[Lr,Lr,lS (l:=cs.map λx=>Lc++jk x),iG (l:=ls.map λx=>Ll++jW x),iG (l:=[[]]),IA,IA,Iq]
  ·exact IU λx _=>rfl
  ·intro p hp;obtain rfl:=HJ.mp hp;exact dk (by decide)
  ·intro p hp
   obtain⟨x,hx,rfl⟩:=HI.mp hp;exact dk (by show([108,101,116,116,101,114]:List Nat)≠Lc;decide)
  ·intro p hp
   obtain⟨x,hx,rfl⟩:=HI.mp hp;exact mQ Lc _
 ·intro p hp hs
  rcases HA.mp hp with hp | hp
  ·rcases HA.mp hp with hp | hp
   ·obtain⟨x,hx,rfl⟩:=HI.mp hp
    have:(jk x).length<=100:=pC (hc x hx);exact⟨_,_,lh (c:=32) (a:=[99,108,111,99,107]) (b:=jk x) (by decide) (by simp only[Ht,HC,IK];omega)⟩
   ·obtain⟨x,hx,rfl⟩:=HI.mp hp
    rw[dk (by show([108,101,116,116,101,114]:List Nat)≠Lc;decide)]at hs;cases hs
  ·obtain rfl:=HJ.mp hp
   rw[dk (by decide)]at hs;cases hs
theorem Gm:b6 [.lst ((lines cs ls++ [[]]).map λp=>T.str (tx p)),.str (tx Ll)] = .ok (.lst ((ls.map jW).map λp=>T.str (tx p))):=by
 have hn:=iy hc hl h4 h8
 have no:∀x:CK,(Lc++jk x).take Ll.length≠Ll:=λx z=>by
  have:=congrArg List.head? z;cases this
 rw[lW (q:=Ll) (λp=>p.drop 7) (by rw[Ht];show _+1<=_;omega)]
 ·refine congrArg (λl=>Rs.ok (T.lst (P3 (λp=>T.str (tx p)) l))) ?_
  unfold lines;rw[Lr,Lr,iG (l:=cs.map λx=>Lc++jk x),lS (l:=ls.map λx=>Ll++jW x),iG (l:=[[]]),IA,Jx,Iq]
  ·exact IU λx _=>rfl
  ·intro p hp;obtain rfl:=HJ.mp hp;exact dk (by decide)
  ·intro p hp
   obtain⟨x,hx,rfl⟩:=HI.mp hp;exact mQ Ll _
  ·intro p hp
   obtain⟨x,hx,rfl⟩:=HI.mp hp;exact dk (no x)
 ·intro p hp hs
  rcases HA.mp hp with hp | hp
  ·rcases HA.mp hp with hp | hp
   ·obtain⟨x,hx,rfl⟩:=HI.mp hp
    rw[dk (no x)]at hs;cases hs
   ·obtain⟨x,hx,rfl⟩:=HI.mp hp
    have:(jW x).length<=100:=se (hl x hx);exact⟨_,_,lh (c:=32) (a:=[108,101,116,116,101,114]) (b:=jW x) (by decide) (by simp only[Ht,HC,IK];omega)⟩
  ·obtain rfl:=HJ.mp hp
   rw[dk (by decide)]at hs;cases hs
theorem y4:(kB cs ls).length<=2000:=by
 have hf:=fy hc hl
 have hn:=iy hc hl h4 h8
 have:=(lR (n:=111) (ps:=(lines cs ls).map (· ++ [10])) λp hp=>by
  obtain⟨q,hq,rfl⟩:=HI.mp hp
  have:=(hf q hq).2;rw[Ht];show _+1<=111;omega).1
 rw[Hw]at this;unfold kB;omega
theorem yn (hr:aQ [RR (cs.map dQ) (ls.map eG)] = .ok (.bl true)):cI [.str (tx (kB cs ls))] = .ok (RR (cs.map dQ) (ls.map eG)):=by
 have hf:=fy hc hl
 have hn:=iy hc hl h4 h8
 have ht:=y4 hc hl h4 h8
 have et:kB cs ls=aA 10 (lines cs ls++ [[]]):=gY _;refine cO rfl ?_
 show de [.va (.str (tx (kB cs ls))),.em,.em,.em,.em] =_
 unfold de;rw[aE ((iW (lK (k:=true) (eC (Dm (t:=.str (tx (kB cs ls))) rfl rfl)))).trans rfl)]
 have sp:oS bV (vr 0) (ae (cn (.str "\n")) ag) [.va (.str (tx (kB cs ls))),.em,.em,.em,.em] = .ok (.lst ((lines cs ls++ [[]]).map λp=>T.str (tx p))):=by
  refine fG (s:=tx (kB cs ls)) rfl (aj (t:=.str (tx [10])) rfl ax) ?_
  rw[et]at ht ⊢;refine nZ (by simp) (λp hp=> ?_) (by omega) (by rw[Ht];show _+1<=_;omega)
  rcases HA.mp hp with hp | hp
  ·exact(hf p hp).1
  ·obtain rfl:=HJ.mp hp;simp
 generalize hL:(lines cs ls++ [[]]).map (λp=>T.str (tx p))=L at sp
 rw[aE (bj sp (show gN 1 _ _= .ok [.va (.str (tx (kB cs ls))),.va (.lst L),.em,.em,.em]from rfl))]
 have e1:eH (iS (cl b6 (ae (vr 1) (ae (cn (.str "clock ")) ag)))) [none] (gN 0) bT (cl cj (ae (vr 0) ag)) [.va (.str (tx (kB cs ls))),.va (.lst L),.em,.em,.em] = .ok (.lst (cs.map dQ)):=by
  have hb:cl b6 (ae (vr 1) (ae (cn (.str "clock ")) ag)) [.va (.str (tx (kB cs ls))),.va (.lst L),.em,.em,.em] = .ok (.lst ((cs.map jk).map λp=>T.str (tx p))):=
   a7 (aj (t:=.lst L) rfl (aj (t:=.str (tx Lc)) rfl ax)) (by rw[<-hL];exact Gn hc hl h4 h8)
  have:=lL (fe:=cl cj (ae (vr 0) ag)) (h:=λt=>match cj [t]with | .ok u=>u | _=> .non) (src:=[none]) (iX hb) (by rw[Hw,Hw];exact fh (by omega)) (by decide) (λt ht=>by
   obtain⟨p,hp,rfl⟩:=HI.mp ht;obtain⟨x,hx,rfl⟩:=HI.mp hp;refine a7 (aj (t:=.str (tx (jk x))) rfl ax) ?_
   rw[Bv (hc x hx)])
  rw[this,Iq,Iq]
  congr 2
  refine IU λx hx=> ?_
  show(match cj [.str (tx (jk x))]with | .ok u=>u | _=> .non)=_
  rw[Bv (hc x hx)]
 rw[aE (bj e1 (show gN 2 _ _= .ok [.va (.str (tx (kB cs ls))),.va (.lst L),.va (.lst (cs.map dQ)),.em,.em]from rfl))]
 have e2:eH (iS (cl b6 (ae (vr 1) (ae (cn (.str "letter ")) ag)))) [none] (gN 0) bT (cl bL (ae (vr 0) ag)) [.va (.str (tx (kB cs ls))),.va (.lst L),.va (.lst (cs.map dQ)),.em,.em] = .ok (.lst (ls.map eG)):=by
  have hb:cl b6 (ae (vr 1) (ae (cn (.str "letter ")) ag)) [.va (.str (tx (kB cs ls))),.va (.lst L),.va (.lst (cs.map dQ)),.em,.em] = .ok (.lst ((ls.map jW).map λp=>T.str (tx p))):=
   a7 (aj (t:=.lst L) rfl (aj (t:=.str (tx Ll)) rfl ax)) (by rw[<-hL];exact Gm hc hl h4 h8)
  have:=lL (fe:=cl bL (ae (vr 0) ag)) (h:=λt=>match bL [t]with | .ok u=>u | _=> .non) (src:=[none]) (iX hb) (by rw[Hw,Hw];exact fh (by omega)) (by decide) (λt ht=>by
   obtain⟨p,hp,rfl⟩:=HI.mp ht;obtain⟨x,hx,rfl⟩:=HI.mp hp;refine a7 (aj (t:=.str (tx (jW x))) rfl ax) ?_
   rw[Bt (hl x hx)])
  rw[this,Iq,Iq]
  congr 2
  refine IU λx hx=> ?_
  show(match bL [.str (tx (jW x))]with | .ok u=>u | _=> .non)=_
  rw[Bt (hl x hx)]
 rw[aE (bj e2 (show gN 3 _ _= .ok [.va (.str (tx (kB cs ls))),.va (.lst L),.va (.lst (cs.map dQ)),.va (.lst (ls.map eG)),.em]from rfl))]
 have e3:bQ (ae (cl dh (ae (vr 2) ag)) (ae (cl dh (ae (vr 3) ag)) ag)) [.va (.str (tx (kB cs ls))),.va (.lst L),.va (.lst (cs.map dQ)),.va (.lst (ls.map eG)),.em] = .ok (RR (cs.map dQ) (ls.map eG)):=
  cH (aj (a7 (x:=.ok (.tup (cs.map dQ))) (aj (t:=.lst (cs.map dQ)) rfl ax) rfl) (aj (a7 (x:=.ok (.tup (ls.map eG))) (aj (t:=.lst (ls.map eG)) rfl ax) rfl) ax)) (fh (by simp))
 rw[aE (bj e3 (show gN 4 _ _= .ok [.va (.str (tx (kB cs ls))),.va (.lst L),.va (.lst (cs.map dQ)),.va (.lst (ls.map eG)),.va (RR (cs.map dQ) (ls.map eG))]from rfl))]
 have t1:di (tb (cl aQ (ae (vr 4) ag))) [.va (.str (tx (kB cs ls))),.va (.lst L),.va (.lst (cs.map dQ)),.va (.lst (ls.map eG)),.va (RR (cs.map dQ) (ls.map eG))] = .ok false:=lK (eC (a7 (aj (t:=RR (cs.map dQ) (ls.map eG)) rfl ax) hr))
 have t2:tb (o2 neT (cl bu (ae (vr 4) ag)) (vr 0)) [.va (.str (tx (kB cs ls))),.va (.lst L),.va (.lst (cs.map dQ)),.va (.lst (ls.map eG)),.va (RR (cs.map dQ) (ls.map eG))] = .ok false:=
  eC (aN (a7 (aj (t:=RR (cs.map dQ) (ls.map eG)) rfl ax) (ph hc hl h4 h8 hr)) rfl (tL rfl (Je _)))
 rw[aE ((iW (xT t1 t2)).trans rfl)];exact c6 rfl
end
theorem pI {α:Type}{f:α->T}{P:α->Prop}:∀{l:List T},(∀t∈l,∃x,t=f x/\P x)->∃xs:List α,l=xs.map f/\∀x∈xs,P x
 | [],_=>⟨[],rfl,λ_ h=>by cases h⟩
 | t::l,h=>by
  obtain⟨x,rfl,px⟩:=h t HD;obtain⟨xs,rfl,ps⟩:=pI λu hu=>h u (Hv _ hu)
  exact⟨x::xs,rfl,λy hy=>(HB.mp hy).elim (λe=>e▸px) (ps y)⟩
theorem sy {t:T}(h:b8 t=true):∃x:CK,t=dQ x/\vH x:=by
 unfold b8 at h;rw[Hu]at h;obtain⟨_,h⟩:=h
 split at h
 ·rename_i x y r
  rw[Hu]at h;obtain⟨hp,hr⟩:=h;unfold qu at hp;rw[Hu]at hp;obtain⟨s,rfl,s1,s2⟩:=dH hp.1;obtain⟨f,rfl,f1,f2⟩:=dH hp.2;unfold dX at hr;rw[Hu]at hr;obtain⟨l,rfl,l1,l2⟩:=cw hr.1
  have hr2:=hr.2
  dsimp only at hr2
  rw[Hu]at hr2;obtain⟨m,hm⟩:=oJ hr2.1;obtain rfl:=lC hm;rw[Hw]at l1 l2;refine⟨(s,f,m),rfl,show Ck s f m from⟨by omega,by omega,by omega,by omega,λz=>by rw[z]at l1;exact absurd l1 (by decide),l2,λr hr=> ?_⟩⟩
  obtain⟨i,e,i1,i2⟩:=dH (HW.mp hr2.1 (.int r) (List.mem_map_of_mem hr));cases e;exact⟨i1,by omega⟩
 ·cases h
theorem lT {cs:List T}{t:T}(hc:bf (.tup cs)=true)(h:bg cs t=true):∃c k:Int,t= .tup [.int c,.int k]/\(0<=c/\c<1000)/\(0<=k/\k<1000):=by
 obtain⟨hall,h1,h2⟩:=fE hc;unfold bg at h
 split at h
 ·rename_i c k
  simp only[Hu,decide_eq_true_eq]at h;obtain⟨⟨a1,a2⟩,b1,b2⟩:=h;refine⟨c,k,rfl,⟨a1,by omega⟩,⟨b1,?_⟩⟩
  have:reads cs c<=4:=by
   unfold reads;split
   ·split
    ·rename_i x y r e
     obtain⟨x',y',r',e',_,r4⟩:=hG (hall _ (Jm e));cases e';exact r4
    ·omega
   ·omega
  omega
 ·cases h
theorem qL {cs:List T}{t:T}(hc:bf (.tup cs)=true)(h:cV cs t=true):∃x:LE,t=eG x/\uC x:=by
 obtain⟨a,b,x,y,rfl,hd,ha,hb,_⟩:=oW h;obtain⟨c,k,rfl,e1,e2⟩:=lT hc ha;obtain⟨d,m,rfl,e3,e4⟩:=lT hc hb;unfold dY at hd;rw[Hu]at hd;obtain⟨l,rfl,l1,l2⟩:=dH hd.1
 have hd2:=hd.2
 cases y with
 | non=>exact⟨((c,k),(d,m),l,none),rfl,show Le c k d m l none from⟨e1,e2,e3,e4,⟨l1,by omega⟩,λk hk=>by cases hk⟩⟩
 | int i=>
  obtain⟨i',e,i1,i2⟩:=dH (show within (.int i) l 999=true from hd2)
  cases e
  exact⟨((c,k),(d,m),l,some i),rfl,show Le c k d m l (some i)from⟨e1,e2,e3,e4,⟨l1,by omega⟩,λk hk=>by cases hk;exact⟨by omega,by omega⟩⟩⟩
 | _=>cases hd2
theorem la {cs ls:List T}(h:gf (RR cs ls)=true):∃(ks:List CK) (es:List LE),cs=ks.map dQ/\ls=es.map eG/\(∀x∈ks,vH x)/\(∀x∈es,uC x)/\ks.length<=4/\es.length<=8:=by
 have h':(bf (.tup cs)&&fg cs (.tup ls))=true:=h;rw[Hu]at h';obtain⟨hc,hl⟩:=h';obtain⟨hall,h1,h2⟩:=fE hc;unfold fg at hl;rw[Hu]at hl;obtain⟨l,e,_,l8⟩:=cw hl.1;cases e;obtain⟨ks,rfl,pk⟩:=pI λt ht=>sy (hall t ht)
 obtain⟨es,rfl,pe⟩:=pI λt ht=>qL hc (HW.mp hl.2 t ht)
 rw[Hw]at h2 l8;exact⟨ks,es,rfl,rfl,pk,pe,h2,l8⟩
theorem uu:∀(ns σ:List Int),σ.Nodup->(ns.foldl (λσ k=>if k∈σ then σ else σ++ [k]) σ).Nodup/\(∀x∈ns.foldl (λσ k=>if k∈σ then σ else σ++ [k]) σ,x∈σ\/x∈ns)/\(ns.foldl (λσ k=>if k∈σ then σ else σ++ [k]) σ).length<=σ.length+ns.length/\σ.length<=(ns.foldl (λσ k=>if k∈σ then σ else σ++ [k]) σ).length
 | [],σ,h=>⟨h,λx hx=> .inl hx,HE _,HE _⟩
 | k::ns,σ,h=>by
  rw[P8]
  by_cases hk:k∈σ
  ·rw[if_pos hk]
   obtain⟨a,b,c,d⟩:=uu ns σ h;exact⟨a,λx hx=>(b x hx).imp id (Hv _),by rw[HC];omega,d⟩
  ·rw[if_neg hk]
   obtain⟨a,b,c,d⟩:=uu ns (σ++ [k]) (Pq.mpr ⟨h,Kl.mpr ⟨by simp,.nil⟩,λx hx y hy z=>hk (by rw[HJ]at hy;rw[<-hy,<-z];exact hx)⟩)
   rw[Ht]at c d
   have e1:([k]:List Int).length=1:=rfl;refine⟨a,λx hx=> ?_,by rw[HC];omega,by omega⟩
   rcases b x hx with z | z
   ·rcases HA.mp z with z | z
    ·exact .inl z
    ·exact .inr (by rw[HJ]at z;rw[z];exact HD)
   ·exact .inr (Hv _ z)
theorem wM:∀{m:List Int},m.Pairwise (· < ·)->rQ m=true
 | [],_=>rfl
 | [_],_=>rfl
 | a::b::r,h=>by
  obtain⟨h1,h2⟩:=OB.mp h;rw[ris2,decide_eq_true (h1 b HD),wM h2];rfl
theorem m3:∀l:List Int,lD (l.map .int)=some l
 | [] =>rfl
 | i::l=>by
  show(lD (l.map .int)).map (i:: ·)=_
  rw[m3 l];rfl
theorem za {ns:List Int}(h0:ns≠ [])(h4:ns.length<=4)(hr:∀x∈ns,0<=x/\x<100):∃m:List Int,mU [.lst (ns.map .int)] = .ok (.lst (m.map .int))/\1<=m.length/\m.length<=4/\rQ m=true/\∀x∈m,0<=x/\x<100:=by
 obtain⟨nd,sub,le,ge⟩:=uu ns [] .nil
 have hp:=Of (yT ns) pP
 have hs:=M5 (le:=pP) (λa b c h g=>by simp only[pP,decide_eq_true_eq]at*;omega) (λa b=>by simp only[pP,Ln,decide_eq_true_eq];omega) (yT ns)
 have hlen:=hp.length_eq
 have nd':((yT ns).mergeSort pP).Nodup:=hp.nodup_iff.mpr nd
 have ne:1<=(yT ns).length:=by
  cases ns with
  | nil=>exact absurd rfl h0
  | cons k r=>
   have:=(uu r [k] (Kl.mpr ⟨by simp,.nil⟩)).2.2.2
   exact this
 refine⟨(yT ns).mergeSort pP,?_,by omega,by rw[hlen];exact H0 le (by simpa using h4),wM ?_,λx hx=> ?_⟩
 ·show(match lD (ns.map .int)with | some ns=>if (decide (ns.length<=4)&&ns.all λn=>decide (0<=n)&&decide (n<100))=true then Rs.ok (T.lst (((yT ns).mergeSort pP).map .int))else .bad | none=> .bad)=_
  rw[m3]
  dsimp only
  rw[if_pos];rw[Hu];exact⟨decide_eq_true h4,HW.mpr λx hx=>by rw[decide_eq_true (hr x hx).1,decide_eq_true (hr x hx).2];rfl⟩
 ·refine List.Pairwise.imp₂ (R:=λa b=>pP a b=true) (S:=λa b=>a≠b) (λa b h g=> ?_) hs nd'
  simp only[pP,decide_eq_true_eq]at h;omega
 ·exact(sub x (hp.mem_iff.mp hx)).elim (λz=>by cases z) (hr x)
abbrev cwF:En->Rs Fl:=(aD (bN (o2 aw (o2 aw (vr 1) (cn (.int 1))) (o2 dm (cn (.int 8)) (vr 3))) (gN 4)) (aD (bN (o2 aw (cn (.int 1)) (cl ao (ae (vr 0) (ae (vr 4) (ae (cn (.int 9)) ag))))) (gN 5)) (aD (bN (eH (iR (ae (o2 aw (cn (.int 1)) (cl ao (ae (vr 0) (ae (o2 aw (vr 4) (cn (.int 1))) (ae (cn (.int 4)) ag))))) ag)) [none,some 0,some 4] (gN 0) bT (cl ao (ae (vr 1) (ae (o2 aw (o2 aw (vr 2) (cn (.int 2))) (vr 0)) (ae (cn (.int 100)) ag))))) (gN 6)) (aD (bN (o2 aw (vr 5) (cl ao (ae (vr 0) (ae (o2 aw (vr 4) (cn (.int 7))) (ae (o2 gK (cn (.int 10)) (vr 5)) ag))))) (gN 7)) (bN (o2 aw (vr 2) (bQ (ae (bQ (ae (vr 5) (ae (vr 7) (ae (cl dh (ae (cl mU (ae (vr 6) ag)) ag)) ag)))) ag))) (gN 2))))))
abbrev GB:En->Rs Fl:=(aD (bN (o2 aw (o2 aw (vr 1) (cn (.int 41))) (o2 dm (cn (.int 6)) (vr 3))) (gN 4)) (aD (bN (cl ao (ae (vr 0) (ae (vr 4) (ae (cl bW (ae (vr 8) ag)) ag)))) (gN 10)) (aD (bN (o2 je (o2 aw (o2 aw (vr 10) (cn (.int 1))) (cl ao (ae (vr 0) (ae (o2 aw (vr 4) (cn (.int 1))) (ae (o2 gK (cl bW (ae (vr 8) ag)) (cn (.int 1))) ag))))) (cl bW (ae (vr 8) ag))) (gN 11)) (aD (bN (cl ao (ae (vr 0) (ae (o2 aw (vr 4) (cn (.int 2))) (ae (o2 aW (dz (ae (cn (.int 10)) (ae (cn (.int 1000)) ag))) (cl ao (ae (vr 0) (ae (o2 aw (vr 4) (cn (.int 3))) (ae (cn (.int 2)) ag))))) ag)))) (gN 12)) (aD (bN (o2 aW (dz (ae (cn .non) (ae (vr 12) (ae (cn (.int 999)) (ae (o2 aw (vr 12) (cl ao (ae (vr 0) (ae (o2 aw (vr 4) (cn (.int 5))) (ae (o2 gK (cn (.int 1000)) (vr 12)) ag))))) ag))))) (cl ao (ae (vr 0) (ae (o2 aw (vr 4) (cn (.int 4))) (ae (cn (.int 4)) ag))))) (gN 13)) (bN (o2 aw (vr 9) (bQ (ae (bQ (ae (o2 aW (vr 8) (vr 10)) (ae (o2 aW (vr 8) (vr 11)) (ae (vr 12) (ae (vr 13) ag))))) ag))) (gN 9)))))))
theorem wO {m:List Int}(h1:1<=m.length)(h4:m.length<=4)(hr:rQ m=true)(hb:∀x∈m,0<=x/\x<100):dX (.tup (m.map .int))=true:=by
 show(dD (.tup (m.map .int)) 1 4&&((m.map T.int).all (λu=>within u 0 99)&&(match lE (m.map .int)with | some m=>rQ m | none=>false)))=true
 rw[qD]
 dsimp only
 rw[hr,Bool.and_true,Hu,HW];refine⟨by simp[dD];omega,λu hu=> ?_⟩
 obtain⟨x,hx,rfl⟩:=HI.mp hu
 have:=hb x hx;simp only[within,Hu,decide_eq_true_eq];omega
theorem AL (ns:List Int)(hn:ns.length<=63)(j:Nat)(cs:List T)(hc:cs.length<=100)(s4 s5 s6 s7:Sl):∃c t4 t5 t6 t7,cwF [.va (.scr ns),.va (.int 0),.va (.tup cs),.va (.int (j:Nat)),s4,s5,s6,s7,.em,.em,.em,.em,.em,.em] = .ok (.nx [.va (.scr ns),.va (.int 0),.va (.tup (cs++ [c])),.va (.int (j:Nat)),t4,t5,t6,t7,.em,.em,.em,.em,.em,.em])/\b8 c=true/\sm 8 c=true:=by
 obtain⟨d1,e1,p1,q1⟩:=b9 ns (1+8*j) 9 hn (by omega)
 obtain⟨d2,e2,p2,q2⟩:=b9 ns (1+8*j+1) 4 hn (by omega)
 obtain⟨d3,e3,p3,q3⟩:=b9 ns (1+8*j+7) (10 - (1+d1)) hn (by omega)
 obtain⟨n2,rfl⟩:=HY p2
 let hd:T->T:=λt=>match t with
  | .int k=>okv (ao [.scr ns,.int (((1+8*j:Nat):Int)+2+k),.int 100])
  | _=> .non
 have hh:∀t∈rng 0 ((1+n2:Nat):Int),∃k:Nat,t= .int k/\∃r:Int,ao [.scr ns,.int ((1+8*j+2+k:Nat):Int),.int 100] = .ok (.int r)/\hd t= .int r/\0<=r/\r<100:=λt ht=>by
  obtain⟨k,rfl,_⟩:=oh ht;obtain⟨r,er,h1,h2⟩:=b9 ns (1+8*j+2+k) 100 hn (by omega)
  refine⟨k,rfl,r,er,?_,h1,h2⟩
  show okv (ao [.scr ns,.int ((1+8*j+2+k:Nat):Int),.int 100])=_
  rw[er];rfl
 obtain⟨rs,hrs,pr⟩:=pI (f:=T.int) (P:=λr=>0<=r/\r<100) (l:=(rng 0 ((1+n2:Nat):Int)).map hd) λu hu=>by
  obtain⟨t,ht,rfl⟩:=HI.mp hu;obtain⟨k,rfl,r,_,e,h1,h2⟩:=hh t ht;exact⟨r,e,h1,h2⟩
 have lr:rs.length=1+n2:=by
  have:=congrArg KH hrs;rw[Hw,Hw,kD]at this;exact this.symm
 obtain⟨m,em,m1,m4,mr,mb⟩:=za (ns:=rs) (λz=>by rw[z]at lr;simp at lr;omega) (by omega) pr
 refine⟨.tup [.int (1+d1),.int (1+d1+d3),.tup (m.map .int)],.va (.int ((1+8*j:Nat):Int)),.va (.int (1+d1)),.va (.lst (rs.map .int)),.va (.int (1+d1+d3)),?_,?_,?_⟩
 ·unfold cwF
  rw[aE (ρ':=[.va (.scr ns),.va (.int 0),.va (.tup cs),.va (.int (j:Nat)),.va (.int ((1+8*j:Nat):Int)),s5,s6,s7,.em,.em,.em,.em,.em,.em]) (bj (t:=.int ((1+8*j:Nat):Int)) (aN (t:=.int (0+1)) (u:=.int (8*(j:Int))) rfl (aN (t:=.int 8) (u:=.int j) rfl rfl (jB (by omega) (by omega))) (by show Rs.ok (T.int _)=_;congr 2 <;> omega)) rfl)]
  rw[aE (ρ':=[.va (.scr ns),.va (.int 0),.va (.tup cs),.va (.int (j:Nat)),.va (.int ((1+8*j:Nat):Int)),.va (.int (1+d1)),s6,s7,.em,.em,.em,.em,.em,.em]) (bj (t:=.int (1+d1)) (aN (t:=.int 1) rfl (bS e1 rfl rfl rfl) rfl) rfl)]
  have el:eH (iR (ae (o2 aw (cn (.int 1)) (cl ao (ae (vr 0) (ae (o2 aw (vr 4) (cn (.int 1))) (ae (cn (.int 4)) ag))))) ag)) [none,some 0,some 4] (gN 0) bT (cl ao (ae (vr 1) (ae (o2 aw (o2 aw (vr 2) (cn (.int 2))) (vr 0)) (ae (cn (.int 100)) ag)))) [.va (.scr ns),.va (.int 0),.va (.tup cs),.va (.int (j:Nat)),.va (.int ((1+8*j:Nat):Int)),.va (.int (1+d1)),s6,s7,.em,.em,.em,.em,.em,.em] = .ok (.lst (rs.map .int)):=by
   rw[<-hrs];refine lL (ts:=rng 0 ((1+n2:Nat):Int)) (h:=hd) (Ek (aj (t:=.int ((1+n2:Nat):Int)) (aN (t:=.int 1) (u:=.int n2) rfl (bS (k:=1+8*j+1) e2 rfl rfl rfl) rfl) rfl) (by omega) (by omega)) (eZ (k:=4) (by rw[kD];omega)) (by simp) λt ht=> ?_
   obtain⟨k,rfl,r,er,e,_,_⟩:=hh t ht;rw[e];exact bS (k:=1+8*j+2+k) er rfl rfl rfl
  rw[aE (ρ':=[.va (.scr ns),.va (.int 0),.va (.tup cs),.va (.int (j:Nat)),.va (.int ((1+8*j:Nat):Int)),.va (.int (1+d1)),.va (.lst (rs.map .int)),s7,.em,.em,.em,.em,.em,.em]) (bj el rfl)];rw[aE (ρ':=[.va (.scr ns),.va (.int 0),.va (.tup cs),.va (.int (j:Nat)),.va (.int ((1+8*j:Nat):Int)),.va (.int (1+d1)),.va (.lst (rs.map .int)),.va (.int (1+d1+d3)),.em,.em,.em,.em,.em,.em]) (bj (t:=.int (1+d1+d3)) (aN (t:=.int (1+d1)) rfl (bS (k:=1+8*j+7) e3 rfl rfl rfl) rfl) rfl)]
  exact bj (aN (t:=.tup cs) (u:=.tup [.tup [.int (1+d1),.int (1+d1+d3),.tup (m.map .int)]]) rfl (cH (aj (cH (aj (t:=.int (1+d1)) rfl (aj (t:=.int (1+d1+d3)) rfl (aj (t:=.tup (m.map .int)) (a7 (ts:=[.lst (m.map .int)]) (aj (a7 (ts:=[.lst (rs.map .int)]) rfl em) ax) rfl) ax))) (fh (by simp))) ax) (fh (by simp))) (d6 _ _ (by simp;omega))) rfl
 ·show(true&&(qu (.int (1+d1)) (.int (1+d1+d3))&&dX _))=true
  rw[wO m1 m4 mr mb];simp only[qu,within,LX,Bool.and_true,Hu,decide_eq_true_eq];omega
 ·refine sm_tup.mpr ⟨by simp,λt ht=> ?_⟩
  rcases HB.mp ht with rfl | ht
  ·simp[sm]
  ·rcases HB.mp ht with rfl | ht
   ·simp[sm]
   ·rw[HJ]at ht;subst ht;exact zb 8 m (by omega)
theorem uv (ns:List Int)(hn:ns.length<=63):∀(js:List Nat) (cs:List T) (s3 s4 s5 s6 s7:Sl),(∀c∈cs,b8 c=true/\sm 8 c=true)->cs.length+js.length<=100 →
  ∃cs2 t3 t4 t5 t6 t7,bO (gN 3) cwF (js.map λ(j:Nat)=>T.int j) [.va (.scr ns),.va (.int 0),.va (.tup cs),s3,s4,s5,s6,s7,.em,.em,.em,.em,.em,.em] = .ok (.nx [.va (.scr ns),.va (.int 0),.va (.tup cs2),t3,t4,t5,t6,t7,.em,.em,.em,.em,.em,.em])/\(∀c∈cs2,b8 c=true/\sm 8 c=true)/\cs2.length=cs.length+js.length
 | [],cs,s3,s4,s5,s6,s7,h,_=>⟨cs,s3,s4,s5,s6,s7,rfl,h,rfl⟩
 | j::js,cs,s3,s4,s5,s6,s7,h,hl=>by
  rw[HC]at hl;obtain⟨c,u4,u5,u6,u7,e2,h2,n2⟩:=AL ns hn j cs (by omega) s4 s5 s6 s7
  obtain⟨l3,t3,t4,t5,t6,t7,e3,h3,n3⟩:=uv ns hn js (cs++ [c]) (.va (.int j)) u4 u5 u6 u7 (λx hx=>(HA.mp hx).elim (h x) λz=>by rw[HJ]at z;subst z;exact⟨h2,n2⟩) (by rw[Ht];show _+1+_<=_;omega)
  refine⟨l3,t3,t4,t5,t6,t7,?_,h3,by simp only[n3,Ht,HC,IK];omega⟩
  rw[HN,jY (ρ1:=[.va (.scr ns),.va (.int 0),.va (.tup cs),.va (.int (j:Nat)),s4,s5,s6,s7,.em,.em,.em,.em,.em,.em]) rfl e2];exact e3
theorem z6 (ns:List Int)(hn:ns.length<=63)(j:Nat)(cs ls:List T)(hc:bf (.tup cs)=true)(h2:2<=(fW 0 cs).length)(hl:ls.length<=100)(s4 s5 s6 s7 s10 s11 s12 s13:Sl) :
  ∃c t4 t10 t11 t12 t13,GB [.va (.scr ns),.va (.int 0),.va (.tup cs),.va (.int (j:Nat)),s4,s5,s6,s7,.va (.lst (fW 0 cs)),.va (.tup ls),s10,s11,s12,s13] = .ok (.nx [.va (.scr ns),.va (.int 0),.va (.tup cs),.va (.int (j:Nat)),t4,s5,s6,s7,.va (.lst (fW 0 cs)),.va (.tup (ls++ [c])),t10,t11,t12,t13])/\cV cs c=true/\sm 8 c=true:=by
 obtain⟨ha,h1,h4⟩:=fE hc
 have hlen:=ud cs 0 ha
 have gl:∀t4 t10 t11 t12 t13:Sl,cl bW (ae (vr 8) ag) [.va (.scr ns),.va (.int 0),.va (.tup cs),.va (.int (j:Nat)),t4,s5,s6,s7,.va (.lst (fW 0 cs)),.va (.tup ls),t10,t11,t12,t13] = .ok (.int ((fW 0 cs).length:Nat)):=λ_ _ _ _ _=>rfl
 generalize hN:(fW 0 cs).length=n at*
 obtain⟨d1,e1,p1,q1⟩:=b9 ns (41+6*j) (n:Int) hn (by omega)
 obtain⟨d2,e2,p2,q2⟩:=b9 ns (41+6*j+1) ((n:Int) - 1) hn (by omega)
 obtain⟨b,eb,pb,qb⟩:=b9 ns (41+6*j+3) 2 hn (by omega)
 obtain⟨z,ez,hz⟩:∃z:Int,aW (.lst [.int 10,.int 1000]) (.int b)= .ok (.int z)/\(0<z/\z<=1000):=by
  have:b=0\/b=1:=by omega
  rcases this with rfl | rfl
  ·exact⟨10,rfl,by omega⟩
  ·exact⟨1000,rfl,by omega⟩
 obtain⟨d3,e3,p3,q3⟩:=b9 ns (41+6*j+2) z hn hz.1;obtain⟨d4,e4,p4,q4⟩:=b9 ns (41+6*j+4) 4 hn (by omega)
 obtain⟨d5,e5,p5,q5⟩:=b9 ns (41+6*j+5) (1000 - d3) hn (by omega)
 obtain⟨y,ey,hy⟩:∃y:T,aW (.lst [.non,.int d3,.int 999,.int (d3+d5)]) (.int d4)= .ok y/\(y= .non\/∃k:Int,y= .int k/\d3<=k/\k<=999):=by
  have:d4=0\/d4=1\/d4=2\/d4=3:=by omega
  rcases this with rfl | rfl | rfl | rfl
  ·exact⟨_,rfl,.inl rfl⟩
  ·exact⟨_,rfl,.inr ⟨_,rfl,by omega,by omega⟩⟩
  ·exact⟨_,rfl,.inr ⟨_,rfl,by omega,by omega⟩⟩
  ·exact⟨_,rfl,.inr ⟨_,rfl,by omega,by omega⟩⟩
 obtain⟨i,rfl⟩:=HY p1;obtain⟨d2,rfl⟩:=HY p2
 have hi:i<(fW 0 cs).length:=by omega
 have hj:(i+1+d2) % n<(fW 0 cs).length:=by rw[hN];exact Nat.mod_lt _ (by omega)
 have hij:i≠(i+1+d2) % n:=by
  rcases Mo (i+1+d2) n with q | q
  ·rw[PX q];omega
  ·have:(i+1+d2) % n=i+1+d2 - n:=by
    rw[Nat.mod_eq_sub_mod q,PX (by omega)]
   rw[this];omega
 have eA:=Bs (JS hi)
 have eB:=Bs (JS hj)
 have eN:(fW 0 cs)[i] ≠(fW 0 cs)[(i+1+d2) % n]:=xt (m5 cs 0) hi hj hij
 have iA:=xY hi
 have iB:=xY hj
 generalize hA:(fW 0 cs)[i] =A at*
 generalize hB:(fW 0 cs)[(i+1+d2) % n] =B at*
 refine⟨.tup [A,B,.int d3,y],.va (.int ((41+6*j:Nat):Int)),.va (.int (i:Nat)),.va (.int ((i+1+d2) % n:Nat)),.va (.int d3),.va y,?_,?_,?_⟩
 ·unfold GB
  rw[aE (ρ':=[.va (.scr ns),.va (.int 0),.va (.tup cs),.va (.int (j:Nat)),.va (.int ((41+6*j:Nat):Int)),s5,s6,s7,.va (.lst (fW 0 cs)),.va (.tup ls),s10,s11,s12,s13]) (bj (t:=.int ((41+6*j:Nat):Int)) (aN (t:=.int (0+41)) (u:=.int (6*(j:Int))) rfl (aN (t:=.int 6) (u:=.int j) rfl rfl (jB (by omega) (by omega))) (by show Rs.ok (T.int _)=_;congr 2 <;> omega)) rfl)]
  rw[aE (ρ':=[.va (.scr ns),.va (.int 0),.va (.tup cs),.va (.int (j:Nat)),.va (.int ((41+6*j:Nat):Int)),s5,s6,s7,.va (.lst (fW 0 cs)),.va (.tup ls),.va (.int (i:Nat)),s11,s12,s13]) (bj (bS e1 rfl rfl (gl _ _ _ _ _)) rfl)];rw[aE (ρ':=[.va (.scr ns),.va (.int 0),.va (.tup cs),.va (.int (j:Nat)),.va (.int ((41+6*j:Nat):Int)),s5,s6,s7,.va (.lst (fW 0 cs)),.va (.tup ls),.va (.int (i:Nat)),.va (.int ((i+1+d2) % n:Nat)),s12,s13]) (bj (t:=.int ((i+1+d2) % n:Nat)) (aN (t:=.int ((i:Int)+1+d2)) (u:=.int n) (aN (t:=.int ((i:Int)+1)) (u:=.int d2) rfl (bS (k:=41+6*j+1) e2 rfl rfl (aN (t:=.int n) (u:=.int 1) (gl _ _ _ _ _) rfl rfl)) rfl) (gl _ _ _ _ _) (jd (by omega))) rfl)]
  rw[aE (ρ':=[.va (.scr ns),.va (.int 0),.va (.tup cs),.va (.int (j:Nat)),.va (.int ((41+6*j:Nat):Int)),s5,s6,s7,.va (.lst (fW 0 cs)),.va (.tup ls),.va (.int (i:Nat)),.va (.int ((i+1+d2) % n:Nat)),.va (.int d3),s13]) (bj (bS (k:=41+6*j+2) e3 rfl rfl (aN (t:=.lst [.int 10,.int 1000]) (jC (aj (t:=.int 10) rfl (aj (t:=.int 1000) rfl ax)) (fh (by simp))) (bS (k:=41+6*j+3) eb rfl rfl rfl) ez)) rfl)]
  rw[aE (ρ':=[.va (.scr ns),.va (.int 0),.va (.tup cs),.va (.int (j:Nat)),.va (.int ((41+6*j:Nat):Int)),s5,s6,s7,.va (.lst (fW 0 cs)),.va (.tup ls),.va (.int (i:Nat)),.va (.int ((i+1+d2) % n:Nat)),.va (.int d3),.va y]) (bj (aN (jC (aj (t:=.non) rfl (aj (t:=.int d3) rfl (aj (t:=.int 999) rfl (aj (aN (t:=.int d3) rfl (bS (k:=41+6*j+5) e5 rfl rfl rfl) rfl) ax)))) (fh (by simp))) (bS (k:=41+6*j+4) e4 rfl rfl rfl) ey) rfl)]
  exact bj (aN (t:=.tup ls) (u:=.tup [.tup [A,B,.int d3,y]]) rfl (cH (aj (cH (aj (t:=A) (aN (t:=.lst (fW 0 cs)) (u:=.int (i:Nat)) rfl rfl iA) (aj (t:=B) (aN (t:=.lst (fW 0 cs)) (u:=.int ((i+1+d2) % n:Nat)) rfl rfl iB) (aj (t:=.int d3) rfl (aj (t:=y) rfl ax)))) (fh (by simp))) ax) (fh (by simp))) (d6 _ _ (by simp;omega))) rfl
 ·show(dY (.int d3) y&&(bg cs A&&(bg cs B&& !bU A B)))=true
  rw[eA,eB,yj eA eB eN]
  have hd:dY (.int d3) y=true:=by
   unfold dY;rcases hy with rfl | ⟨k,rfl,k1,k2⟩
   ·simp only[within,Hu,decide_eq_true_eq];exact⟨by omega,trivial⟩
   ·simp only[within,Hu,decide_eq_true_eq];omega
  rw[hd];rfl
 ·refine sm_tup.mpr ⟨by simp,λt ht=> ?_⟩
  rcases HB.mp ht with rfl | ht
  ·exact qg eA
  ·rcases HB.mp ht with rfl | ht
   ·exact qg eB
   ·rcases HB.mp ht with rfl | ht
    ·simp[sm]
    ·rw[HJ]at ht;subst ht
     rcases hy with rfl | ⟨k,rfl,_⟩ <;> simp[sm]
theorem tQ (ns:List Int)(hn:ns.length<=63)(cs:List T)(hc:bf (.tup cs)=true)(h2:2<=(fW 0 cs).length)(s5 s6 s7:Sl):∀(js:List Nat) (ls:List T) (s3 s4 s10 s11 s12 s13:Sl),A4 cs ls->ls.length+js.length<=100 →
  ∃ls2 t3 t4 t10 t11 t12 t13,bO (gN 3) GB (js.map λ(j:Nat)=>T.int j) [.va (.scr ns),.va (.int 0),.va (.tup cs),s3,s4,s5,s6,s7,.va (.lst (fW 0 cs)),.va (.tup ls),s10,s11,s12,s13] = .ok (.nx [.va (.scr ns),.va (.int 0),.va (.tup cs),t3,t4,s5,s6,s7,.va (.lst (fW 0 cs)),.va (.tup ls2),t10,t11,t12,t13])/\A4 cs ls2/\ls2.length=ls.length+js.length
 | [],ls,s3,s4,s10,s11,s12,s13,h,_=>⟨ls,s3,s4,s10,s11,s12,s13,rfl,h,rfl⟩
 | j::js,ls,s3,s4,s10,s11,s12,s13,h,hl=>by
  rw[HC]at hl;obtain⟨c,u4,u10,u11,u12,u13,e2,i2,n2⟩:=z6 ns hn j cs ls hc h2 (by omega) s4 s5 s6 s7 s10 s11 s12 s13
  obtain⟨l3,t3,t4,t10,t11,t12,t13,e3,h3,n3⟩:=tQ ns hn cs hc h2 s5 s6 s7 js (ls++ [c]) (.va (.int j)) u4 u10 u11 u12 u13 (λx hx=>(HA.mp hx).elim (h x) λz=>by rw[HJ]at z;subst z;exact⟨i2,n2⟩) (by rw[Ht];show _+1+_<=_;omega)
  refine⟨l3,t3,t4,t10,t11,t12,t13,?_,h3,by simp only[n3,Ht,HC,IK];omega⟩
  rw[HN,jY (ρ1:=[.va (.scr ns),.va (.int 0),.va (.tup cs),.va (.int (j:Nat)),s4,s5,s6,s7,.va (.lst (fW 0 cs)),.va (.tup ls),s10,s11,s12,s13]) rfl e2];exact e3
theorem DG (ns:List Int)(hn:ns.length<=63):∃cs ls,d9 [.scr ns,.int 0] = .ok (RR cs ls)/\gf (RR cs ls)=true/\sm 8 (RR cs ls)=true:=by
 obtain⟨d1,e1,p1,q1⟩:=b9 ns 0 4 hn (by omega)
 obtain⟨d2,e2,p2,q2⟩:=b9 ns 40 9 hn (by omega)
 obtain⟨d1,rfl⟩:=HY p1;obtain⟨d2,rfl⟩:=HY p2;obtain⟨cs,t3,t4,t5,t6,t7,el,hcs,nc⟩:=uv ns hn (Iy (1+d1)) [] .em .em .em .em .em (λc h=>by cases h) (by simp;omega)
 rw[Kn,IK]at nc
 have hc:bf (.tup cs)=true:=by
  show(dD (.tup cs) 1 4&&cs.all b8)=true
  rw[Hu,HW];exact⟨by simp[dD];omega,λc h=>(hcs c h).1⟩
 have er:=yr cs hc
 have key:∃ls u3 u4 u10 u11 u12 u13,i6 (iR (ae (o2 dm (cl ao (ae (vr 0) (ae (o2 aw (vr 1) (cn (.int 40))) (ae (cn (.int 9)) ag)))) (cl mI (ae (o2 Dx (cl bW (ae (vr 8) ag)) (cn (.int 1))) ag))) ag)) (gN 3) GB [.va (.scr ns),.va (.int 0),.va (.tup cs),t3,t4,t5,t6,t7,.va (.lst (fW 0 cs)),.va (.tup []),.em,.em,.em,.em] = .ok (.nx [.va (.scr ns),.va (.int 0),.va (.tup cs),u3,u4,t5,t6,t7,.va (.lst (fW 0 cs)),.va (.tup ls),u10,u11,u12,u13])/\A4 cs ls/\ls.length<=8:=by
  have gt:cl mI (ae (o2 Dx (cl bW (ae (vr 8) ag)) (cn (.int 1))) ag) [.va (.scr ns),.va (.int 0),.va (.tup cs),t3,t4,t5,t6,t7,.va (.lst (fW 0 cs)),.va (.tup []),.em,.em,.em,.em] = .ok (.int (if decide (((fW 0 cs).length:Int) > 1)then 1 else 0)):=rfl
  by_cases h2:2<=(fW 0 cs).length
  ·rw[decide_eq_true (by omega)]at gt
   obtain⟨ls,u3,u4,u10,u11,u12,u13,e3,h3,n3⟩:=tQ ns hn cs hc h2 t5 t6 t7 (Iy d2) [] t3 t4 .em .em .em .em (λt h=>by cases h) (by simp;omega)
   refine⟨ls,u3,u4,u10,u11,u12,u13,kn (Ek (j:=(d2:Int)) (aj (aN (t:=.int (d2:Int)) (u:=.int 1) (bS (k:=40) e2 rfl rfl rfl) gt ((jB (by omega) (by omega)).trans (by rw[Int.mul_one]))) ax) (by omega) (by omega)) (by rw[og];exact e3),h3,by rw[n3];simp;omega⟩
  ·rw[decide_eq_false (by omega)]at gt
   exact⟨[],t3,t4,.em,.em,.em,.em,kn (Ek (j:=0) (aj (aN (t:=.int (d2:Int)) (u:=.int 0) (bS (k:=40) e2 rfl rfl rfl) gt ((jB (by omega) (by omega)).trans (by rw[Int.mul_zero]))) ax) (by omega) (by omega)) rfl,λt h=>(by cases h),Je _⟩
 obtain⟨ls,u3,u4,u10,u11,u12,u13,ef,hl,n8⟩:=key;refine⟨cs,ls,cO rfl ?_,B8 hc (λc h=>(hcs c h).2) hl n8⟩
 show ie [.va (.scr ns),.va (.int 0),.em,.em,.em,.em,.em,.em,.em,.em,.em,.em,.em,.em] =_
 unfold ie;rw[aE (ρ':=[.va (.scr ns),.va (.int 0),.va (.tup []),.em,.em,.em,.em,.em,.em,.em,.em,.em,.em,.em]) (bj (cH (ts:=[]) rfl (fh (by simp))) rfl)]
 rw[aE (kn (Ek (aj (t:=.int ((1+d1:Nat):Int)) (aN (t:=.int 1) (u:=.int d1) rfl (bS (k:=0) e1 rfl rfl rfl) rfl) ax) (by omega) (by omega)) (by rw[og];exact el))]
 rw[aE (ρ':=[.va (.scr ns),.va (.int 0),.va (.tup cs),t3,t4,t5,t6,t7,.va (.lst (fW 0 cs)),.em,.em,.em,.em,.em]) (bj (a7 (ts:=[.tup cs]) rfl er) rfl)];rw[aE (ρ':=[.va (.scr ns),.va (.int 0),.va (.tup cs),t3,t4,t5,t6,t7,.va (.lst (fW 0 cs)),.va (.tup []),.em,.em,.em,.em]) (bj (cH (ts:=[]) rfl (fh (by simp))) rfl)]
 rw[aE ef];exact c6 (cH (aj (t:=.tup cs) rfl (aj (t:=.tup ls) rfl ax)) (fh (by simp)))
def gW (c:Nat):Bool:=decide (48<=c)&&decide (c<=57)
def o9 (w:List Nat):Bool:=(decide (1<=w.length)&&decide (w.length<=3))&&w.all gW&&(w.head? != some 48||w == [48])
def eJ (w:List Nat):T:=if o9 w=true then eW (tx w)else .non
theorem yy:(Iy 1000).all (λn=>o9 (dg ((n:Nat):Int)))=true:=by decide+kernel
theorem DQ:(Iy 10).all (λa=>dg ((a:Nat):Int) == [48+a])=true:=by decide+kernel
theorem DO:(Iy 10).all (λa=>(Iy 10).all λb=>a == 0||dg ((10*a+b:Nat):Int) == [48+a,48+b])=true:=by decide+kernel
theorem DP:(Iy 10).all (λa=>(Iy 10).all λb=>(Iy 10).all λc=>a == 0||dg ((100*a+10*b+c:Nat):Int) == [48+a,48+b,48+c])=true:=by decide+kernel
theorem tZ {i:Int}(h:0<=i/\i<1000):o9 (dg i)=true:=by
 obtain⟨n,rfl⟩:=HY h.1;exact HW.mp yy n (IX.mpr (by omega))
theorem oZ {c:Nat}(h:gW c=true):∃a,a<10/\c=48+a:=by
 unfold gW at h;rw[Hu,decide_eq_true_eq,decide_eq_true_eq]at h;exact⟨c - 48,by omega,by omega⟩
theorem o8 {w:List Nat}(h:o9 w=true):∃i:Int,(0<=i/\i<1000)/\w=dg i:=by
 unfold o9 at h;rw[Hu,Hu,Hu,decide_eq_true_eq,decide_eq_true_eq]at h;obtain⟨⟨⟨h1,h3⟩,hd⟩,h0⟩:=h
 cases w with
 | nil=>simp at h1
 | cons x w=>
  rw[LU,Hu]at hd;obtain⟨a,ha,rfl⟩:=oZ hd.1
  cases w with
  | nil=>exact⟨(a:Nat),by omega,(eq_of_beq (HW.mp DQ a (IX.mpr ha))).symm⟩
  | cons y w=>
   have hd:=hd.2;rw[LU,Hu]at hd;obtain⟨b,hb,rfl⟩:=oZ hd.1
   have na:a≠0:=λz=>by subst z;simp at h0
   cases w with
   | nil=>
    have:=HW.mp (HW.mp DO a (IX.mpr ha)) b (IX.mpr hb);rw[Ln]at this;rcases this with z | z
    ·exact absurd (eq_of_beq z) na
    ·exact⟨((10*a+b:Nat):Int),by omega,(eq_of_beq z).symm⟩
   | cons z w=>
    have hd:=hd.2;rw[LU,Hu]at hd;obtain⟨c,hc,rfl⟩:=oZ hd.1
    cases w with
    | nil=>
     have:=HW.mp (HW.mp (HW.mp DP a (IX.mpr ha)) b (IX.mpr hb)) c (IX.mpr hc);rw[Ln]at this;rcases this with z | z
     ·exact absurd (eq_of_beq z) na
     ·exact⟨((100*a+10*b+c:Nat):Int),by omega,(eq_of_beq z).symm⟩
    | cons z w=>simp at h3
theorem oO {i:Int}(h:0<=i/\i<1000):eJ (dg i)= .int i:=by
 unfold eJ;rw[if_pos (tZ h),gm h.1 h.2]
theorem jz {w:List Nat}{i:Int}(h:eJ w= .int i):(0<=i/\i<1000)/\w=dg i:=by
 unfold eJ at h
 split at h
 ·rename_i hg
  obtain⟨j,hj,rfl⟩:=o8 hg;rw[gm hj.1 hj.2]at h;injection h with h
  subst h;exact⟨hj,rfl⟩
 ·cases h
theorem oN (w:List Nat):eJ w= .non\/∃i:Int,eJ w= .int i:=by
 unfold eJ;split
 ·rename_i hg
  obtain⟨j,hj,rfl⟩:=o8 hg;exact .inr ⟨j,gm hj.1 hj.2⟩
 ·exact .inl rfl
theorem C5 {l:List T}(h:(T.lst l).pl=true):Tr.neT (.lst l) (.lst [])= .ok (.bl (!l.isEmpty)):=by
 unfold Tr.neT;rw[if_pos (qQ (by simp[T.dep,deps]) (T.GM _ h) rfl)]
 cases l <;> rfl
theorem xy (a b:List Nat):Tr.neT (.str (tx a)) (.str (tx b))= .ok (.bl (!decide (a=b))):=by
 unfold Tr.neT;rw[if_pos (eE (by simp[T.dep]) rfl rfl)]
 congr 3
 by_cases h:a=b
 ·subst h;rw[decide_eq_true rfl,bU];simp
 ·rw[decide_eq_false h,bU]
  simp only[beq_eq_false_iff_ne,decide_eq_false_iff_not,ne_eq];intro z;exact h (rC z)
theorem jF (a b:List Nat):Tr.eqT (.str (tx a)) (.str (tx b))= .ok (.bl (decide (a=b))):=by
 unfold Tr.eqT;rw[if_pos (eE (by simp[T.dep]) rfl rfl)]
 congr 2
 by_cases h:a=b
 ·subst h;rw[decide_eq_true rfl,bU];simp
 ·rw[decide_eq_false h,bU]
  simp only[beq_eq_false_iff_ne,decide_eq_false_iff_not,ne_eq];intro z;exact h (rC z)
def BY (w:List Nat):List T:=(w.map BZ).map .str
theorem yo {w:List Nat}(hl:w.length<=640)(h8:∀c∈w,c<128):aY [.str (tx w)] = .ok (eJ w):=by
 refine cO rfl ?_
 show fV [.va (.str (tx w))] =_
 unfold fV
 have e1:cl bW (ae (vr 0) ag) [.va (.str (tx w))] = .ok (.int (w.length:Nat)):=a7 (aj (t:=.str (tx w)) rfl ax) (by show(if (tx w).length<=sizeLine then Rs.ok (T.int ((tx w).length:Nat))else .bad)=_;rw[bJ,if_pos (fh (by omega))])
 have e2:ch sf sf (cn (.int 1)) (cl bW (ae (vr 0) ag)) (cn (.int 3)) [.va (.str (tx w))] = .ok (.bl (decide (1<=w.length)&&decide (w.length<=3))):=by
  have l1:sf (.int 1) (.int (w.length:Nat))= .ok (.bl (decide (1<=w.length))):=by
   show Rs.ok (T.bl (decide ((1:Int)<=(w.length:Nat))))=_
   congr 2
   exact decide_eq_decide.mpr (by omega)
  have l2:sf (.int (w.length:Nat)) (.int 3)= .ok (.bl (decide (w.length<=3))):=by
   show Rs.ok (T.bl (decide (((w.length:Nat):Int)<=3)))=_
   congr 2
   exact decide_eq_decide.mpr (by omega)
  unfold ch;rw[e1]
  show(sf (.int 1) (.int (w.length:Nat)) >>= λz=>match z with
   | .bl true=>sf (.int (w.length:Nat)) (.int 3)
   | .bl false=> .ok (.bl false)
   | _=> .bad)=_
  rw[l1,l2,aH];cases decide (1<=w.length) <;> rfl
 have hall:(tx w).cps.all (· <128)=true:=by
  rw[JE];intro c hc
  have hm:c∈w:=by simpa [tx]using hc
  have:=h8 c hm
  simpa using this
 have e3:Ej (vr 0) [.va (.str (tx w))] = .ok (BY w):=by
  show(if (tx w).cps.all (· <128)=true then Rs.ok (((tx w).cps.toList.map BZ).map T.str)else .bad)=_
  rw[if_pos hall,df]
  rfl
 have e4:=Bj (fc:=tb (o2 jS (vr 0) (cn (.str "0123456789")))) (fe:=vr 0) (p:=λt=>match t with | .str s=> !gW (s.cps.toList.headD 0) | _=>false) (h:=λt=>t) (src:=[none]) (ρ:=[.va (.str (tx w))]) e3 (by unfold BY;rw[Hw,Hw];exact fh (by omega)) (by decide) (λt ht=>by
  unfold BY at ht;obtain⟨x,hx,rfl⟩:=HI.mp ht;obtain⟨c,hc,rfl⟩:=HI.mp hx;refine⟨eC (aN (t:=.str (BZ c)) (u:=.str (tx [48,49,50,51,52,53,54,55,56,57])) rfl rfl ?_),λ_=>rfl⟩
  show Rs.ok (T.bl (!(!(Jj (tx [48,49,50,51,52,53,54,55,56,57]) (BZ c) 0 (tx [48,49,50,51,52,53,54,55,56,57]).length 1).isEmpty)))=_
  congr 2
  show(!(!(Jj (tx [48,49,50,51,52,53,54,55,56,57]) ⟨#[c]⟩ 0 (tx [48,49,50,51,52,53,54,55,56,57]).length 1).isEmpty))= !gW c
  rw[found_one,df]
  congr 1
  unfold gW;rw[J2,Hu,decide_eq_true_eq,decide_eq_true_eq,decide_eq_true_eq];simp only[HB,IH,or_false]
  omega)
 have e5:((BY w).filter λt=>match t with | .str s=> !gW (s.cps.toList.headD 0) | _=>false).isEmpty=w.all gW:=by
  unfold BY;rw[Iq,Qi];rw[J2,Nb,K7,Nk,HW];refine⟨λh c hc=> ?_,λh c hc z=> ?_⟩
  ·have:=h c hc
   cases hd:gW c with
   | true=>rfl
   | false=>exact absurd (show(!gW c)=true by rw[hd];rfl) this
  ·have z':(!gW c)=true:=z
   rw[h c hc]at z';cases z'
 have hpl:(T.lst (((BY w).filter λt=>match t with | .str s=> !gW (s.cps.toList.headD 0) | _=>false).map λt=>t)).pl=true:=by
  rw[T.pl];refine jQ λt ht=> ?_
  rw[List.map_id']at ht
  have:=(Lk.mp ht).1;unfold BY at this;obtain⟨x,_,rfl⟩:=HI.mp this
  rfl
 have e6:tb (o2 Tr.neT (eH (Ej (vr 0)) [none] (gN 0) (tb (o2 jS (vr 0) (cn (.str "0123456789")))) (vr 0)) (dz ag)) [.va (.str (tx w))] = .ok (!w.all gW):=by
  refine eC (aN e4 (jC (ts:=[]) rfl (fh (by simp))) ((C5 hpl).trans ?_))
  rw[List.map_id',e5]
 have e7:mj (di (tb (ch sf sf (cn (.int 1)) (cl bW (ae (vr 0) ag)) (cn (.int 3))))) (tb (o2 Tr.neT (eH (Ej (vr 0)) [none] (gN 0) (tb (o2 jS (vr 0) (cn (.str "0123456789")))) (vr 0)) (dz ag))) [.va (.str (tx w))] = .ok (!(decide (1<=w.length)&&decide (w.length<=3))|| !w.all gW):=FQ (lK (eC e2)) λ_=>e6
 unfold eJ o9
 cases hb:((decide (1<=w.length)&&decide (w.length<=3))&&w.all gW)with
 | false=>
  rw[LC,if_neg (by decide)]
  have:(!(decide (1<=w.length)&&decide (w.length<=3))|| !w.all gW)=true:=by rw[<-Bool.not_and,hb];rfl
  rw[this]at e7
  exact lJ ((nk e7).trans rfl)
 | true=>
  have:(!(decide (1<=w.length)&&decide (w.length<=3))|| !w.all gW)=false:=by rw[<-Bool.not_and,hb];rfl
  rw[this]at e7;rw[aE ((iW e7).trans rfl),LX];rw[Hu,Hu,decide_eq_true_eq,decide_eq_true_eq]at hb;obtain⟨⟨h1,h3⟩,hd⟩:=hb
  cases w with
  | nil=>simp at h1
  | cons x w=>
   have i0:o2 Bp (vr 0) (cn (.int 0)) [.va (.str (tx (x::w)))] = .ok (.str (tx [x])):=by
    refine aN (t:=.str (tx (x::w))) (u:=.int ((0:Nat):Int)) rfl rfl ?_
    show(if (tx (x::w)).length<=1000000 then _ else _)=_
    rw[if_pos (by rw[bJ];omega),df,gu (t:=x) rfl]
    rfl
   have c1:tb (o2 Tr.neT (o2 Bp (vr 0) (cn (.int 0))) (cn (.str "0"))) [.va (.str (tx (x::w)))] = .ok (!decide ([x] = [48])):=eC (aN i0 (u:=.str (tx [48])) rfl (xy _ _))
   have c2:tb (o2 Tr.eqT (vr 0) (cn (.str "0"))) [.va (.str (tx (x::w)))] = .ok (decide (x::w= [48])):=eC (aN (t:=.str (tx (x::w))) (u:=.str (tx [48])) rfl rfl (jF _ _))
   have c3:=FQ c1 (λ_=>c2)
   have same:(!decide ([x] = [48])||decide (x::w= [48]))=((x::w).head? != some 48||(x::w) == [48]):=by
    congr 1
    ·show(!decide ([x] = [48]))= !(some x == some 48)
     congr 1
     rw[J2,decide_eq_true_eq,beq_iff_eq];simp
    ·rw[J2,decide_eq_true_eq,beq_iff_eq]
   rw[same]at c3;refine c6 ((km c3).trans ?_)
   split
   ·rename_i hg
    have hg':o9 (x::w)=true:=by
     unfold o9;rw[Hu,Hu,Hu,decide_eq_true_eq,decide_eq_true_eq];exact⟨⟨⟨h1,h3⟩,hd⟩,hg⟩
    obtain⟨i,hi,e⟩:=o8 hg';rw[e];refine a7 (aj (t:=.str (tx (dg i))) rfl ax) ?_
    have key:NX (tx (dg i))=some i:=by
     have hv:=gm hi.1 hi.2
     unfold eW at hv
     cases hn:NX (tx (dg i)) with
     | none=>rw[hn]at hv;cases hv
     | some n=>rw[hn]at hv;injection hv with hv;rw[hv]
    show(if (tx (dg i)).length<=640 then(match NX (tx (dg i))with | some n=>Rs.ok (T.int n) | none=> .bad)else .bad)=_
    rw[gm hi.1 hi.2,if_pos (by rw[bJ,<-e];omega),key]
   ·rfl
def parts (c:Nat):List Nat->List (List Nat)
 | [] => [[]]
 | a::l=>if a=c then [] ::parts c l else(match parts c l with
  | [] => [[a]]
  | p::r=>(a::p)::r)
theorem dy (c:Nat):∀w,parts c w≠ []
 | [] =>by simp[parts]
 | a::l=>by
  unfold parts;split
  ·simp
  ·split <;> simp
theorem ft (c:Nat):∀w,∀p∈parts c w,c∉p
 | [],p,h=>by
  rw[HJ.mp h];simp
 | a::l,p,h=>by
  have ih:=ft c l;unfold parts at h
  split at h
  ·rcases HB.mp h with rfl | h
   ·simp
   ·exact ih p h
  ·rename_i ha
   split at h
   ·rw[HJ.mp h]
    intro z;exact ha (HJ.mp z).symm
   ·rename_i q r e
    rcases HB.mp h with rfl | h
    ·intro z
     rcases HB.mp z with z | z
     ·exact ha z.symm
     ·exact ih q (by rw[e];exact HD) z
    ·exact ih p (by rw[e];exact Hv _ h)
theorem bt (c:Nat):∀w,aA c (parts c w)=w
 | [] =>rfl
 | a::l=>by
  have ih:=bt c l
  have ne:=dy c l;unfold parts;split
  ·rename_i ha
   rw[ha]
   cases h:parts c l with
   | nil=>exact absurd h ne
   | cons p r=>
    rw[h]at ih
    show [] ++c::aA c (p::r)=c::l
    rw[ih];rfl
  ·cases h:parts c l with
   | nil=>exact absurd h ne
   | cons p r=>
    rw[h]at ih
    cases r with
    | nil=>exact congrArg (a:: ·) ih
    | cons q r=>exact congrArg (a:: ·) ih
theorem jy {c:Nat}{ps:List (List Nat)}(hne:ps≠ [])(hf:∀p∈ps,c∉p):parts c (aA c ps)=ps:=
 j0 (dy _ _) hne (ft _ _) hf (bt _ _)
theorem dM (c:Nat):∀w,(parts c w).length<=w.length+1
 | [] =>HE _
 | a::l=>by
  have ih:=dM c l;unfold parts;split
  ·rw[HC,HC];omega
  ·cases h:parts c l with
   | nil=>simp
   | cons p r=>rw[h]at ih;rw[HC]at ih ⊢;rw[HC];omega
theorem nt {c:Nat}:∀{ps:List (List Nat)} {p:List Nat},p∈ps->p.Sublist (aA c ps)
 | [],_,h=>by cases h
 | [q],p,h=>by rw[HJ.mp h];exact List.Sublist.refl _
 | a::b::r,p,h=>by
  show p.Sublist (a++c::aA c (b::r))
  rcases HB.mp h with rfl | h
  ·exact MR _ _
  ·exact((nt h).trans (Nl _ _)).trans (Mx _ _)
theorem f9 {c:Nat}{w p:List Nat}(h:p∈parts c w):p.Sublist w:=by
 have:=nt (c:=c) h
 rwa [bt]at this
def Sh (w:List Nat):Prop:=w.length<=630/\∀c∈w,c<128
theorem Sh.part {c:Nat}{w p:List Nat}(h:Sh w)(hp:p∈parts c w):Sh p:=⟨H0 (f9 hp).length_le h.1,λx hx=>h.2 x ((f9 hp).subset hx)⟩
theorem iI {w:List Nat}(c:Nat)(h:w.length<=700):bV [.str (tx w),.str (tx [c])] = .ok (.lst ((parts c w).map λp=>T.str (tx p))):=by
 have hl:=dM c w
 have:=nZ (dy c w) (ft c w) (by rw[bt];omega) (by omega)
 rwa [bt]at this
theorem DI {w:List Nat}(h:Sh w):aY [.str (tx w)] = .ok (eJ w):=yo (by have:=h.1;omega) h.2
theorem xJ {ps:List (List Nat)}{fi:En->Rs (List T)}{ρ:En}(hi:fi ρ= .ok (ps.map λp=>T.str (tx p)))(hl:ps.length<=1000)(h:∀p∈ps,Sh p):eH fi [none] (gN 0) bT (cl aY (ae (vr 0) ag)) ρ= .ok (.lst (ps.map eJ)):=by
 have:=lL (fe:=cl aY (ae (vr 0) ag)) (h:=λu=>match u with | .str s=>eJ s.cps.toList | _=> .non) (src:=[none]) hi (by rw[Hw];exact fh (by omega)) (by decide) (λu hu=>by
  obtain⟨p,hp,rfl⟩:=HI.mp hu;refine a7 (aj (t:=.str (tx p)) rfl ax) ?_
  show _=Rs.ok (eJ (tx p).cps.toList)
  rw[df];exact DI (h p hp))
 rw[this,Iq]
 congr 2
def dt (c:Nat)(w:List Nat):List T:=if (parts c w).length=2 then(parts c w).map eJ else [.non,.non]
theorem ik (c:Nat)(w:List Nat):∃u v,dt c w= [u,v]/\(u= .non\/∃i:Int,u= .int i)/\(v= .non\/∃i:Int,v= .int i):=by
 unfold dt;split
 ·rename_i h
  match h':parts c w,h with
  | [p,q],_=>exact⟨_,_,rfl,oN p,oN q⟩
 ·exact⟨_,_,rfl,.inl rfl,.inl rfl⟩
theorem kC {c:Nat}{w:List Nat}{i j:Int}(h:dt c w= [.int i,.int j]):(0<=i/\i<1000)/\(0<=j/\j<1000)/\w=dg i++c::dg j:=by
 unfold dt at h
 split at h
 ·rename_i hl
  have hi:=bt c w
  match h':parts c w,hl with
  | [p,q],_=>
   rw[h']at h hi;simp only[HN,Ml,L6,and_true]at h;obtain⟨a,rfl⟩:=jz h.1;obtain⟨b,rfl⟩:=jz h.2;exact⟨a,b,hi.symm⟩
 ·simp at h
theorem kW {c:Nat}(hc:c<48){i j:Int}(hi:0<=i/\i<1000)(hj:0<=j/\j<1000):dt c (dg i++c::dg j)= [.int i,.int j]:=by
 have e:parts c (dg i++c::dg j)= [dg i,dg j]:=jy (ps:=[dg i,dg j]) (by simp) λp hp=>by
  rcases HB.mp hp with rfl | hp
  ·exact bD hi.1 hc
  ·rw[HJ.mp hp];exact bD hj.1 hc
 unfold dt;rw[e,if_pos (show [dg i,dg j].length=2 from rfl),HN,HN,Ml,oO hi,oO hj]
theorem uh (c:Nat){w:List Nat}(h:Sh w):a9 [.str (tx w),.str (tx [c])] = .ok (.tup (dt c w)):=by
 have hw:=h.1
 have hl:=dM c w;refine cO rfl ?_
 show jl [.va (.str (tx w)),.va (.str (tx [c])),.em] =_
 unfold jl;rw[aE (ρ':=[.va (.str (tx w)),.va (.str (tx [c])),.va (.lst ((parts c w).map λp=>T.str (tx p)))]) (bj (fG (s:=tx w) rfl (aj (t:=.str (tx [c])) rfl ax) (iI c (by omega))) rfl)]
 refine c6 ((km (eC (aN (t:=.int ((parts c w).length:Nat)) (u:=.int 2) (a7 (aj (t:=.lst ((parts c w).map λp=>T.str (tx p))) rfl ax) (by show Rs.ok (T.int (((parts c w).map λp=>T.str (tx p)).length:Nat))=_;rw[Hw])) rfl (yk _ _)))).trans ?_)
 unfold dt
 by_cases h2:(parts c w).length=2
 ·rw[if_pos h2,if_pos (by rw[h2];rfl)]
  exact a7 (aj (xJ (iX (l:=(parts c w).map λp=>T.str (tx p)) rfl) (by omega) λp hp=>h.part hp) ax) rfl
 ·rw[if_neg h2,if_neg (by rw[beq_iff_eq];omega)]
  exact cH rfl (fh (by simp))
theorem j4 {l:List Nat}{a b:Nat}{lo hi:Option Int}(hab:a<=b)(hb:b<=l.length)(e:HF lo hi 1 l.length=HF (some (a:Int)) (some (b:Int)) 1 l.length):g8 (tx l) lo hi=tx ((l.drop a).take (b - a)):=by
 have hl:(tx l).length=l.length:=bJ l
 have hp:=sliced_plain (tx l) hab (by rw[hl];exact hb)
 rw[hl,df]at hp
 have hi':=strSliceIndices_plain hab hb;unfold g8;rw[hl,e];split
 ·rename_i z
  rw[hi',Hw,Kn]at z
  have:=eq_of_beq z
  have ha:a=0:=by omega
  subst ha;rw[N7,Ju (by omega)]
 ·rw[hp];rfl
theorem yc (n len:Nat):HF none (some (n:Int)) 1 len=HF (some ((0:Nat):Int)) (some (n:Int)) 1 len:=by
 simp[HF]
 congr 1
theorem yd (n len:Nat):HF (some (n:Int)) none 1 len=HF (some (n:Int)) (some (len:Int)) 1 len:=by
 simp[HF]
 congr 1
 rw[if_neg (by omega)]
 omega
theorem Dv {len:Nat}(h:1<=len):HF none (some (-1)) 1 len=HF (some ((0:Nat):Int)) (some ((len - 1:Nat):Int)) 1 len:=by
 simp[HF]
 congr 1 <;> first | omega | (rw[if_neg (by omega)];omega)
theorem vp {l:List Nat}{n:Nat}(h:n<=l.length):g8 (tx l) none (some (n:Int))=tx (l.take n):=by
 rw[j4 (Je n) h (yc n _)];rfl
theorem vq {l:List Nat}{n:Nat}(h:n<=l.length):g8 (tx l) (some (n:Int)) none=tx (l.drop n):=by
 rw[j4 h (HE _) (yd n _),Ju (by rw[Ih];omega)]
theorem AN {l:List Nat}(h:1<=l.length):g8 (tx l) none (some (-1))=tx (l.take (l.length - 1)):=by
 rw[j4 (Je _) (by omega) (Dv h)];rfl
theorem Ai {n len:Nat}(h:len<=n):HF (some (n:Int)) none 1 len=HF (some (len:Int)) (some (len:Int)) 1 len:=by
 simp[HF]
 congr 1 <;> first | omega | (simp;omega) | (rw[if_neg (by omega)];omega)
theorem sr (l:List Nat)(n:Nat):g8 (tx l) (some (n:Int)) none=tx (l.drop n):=by
 by_cases h:n<=l.length
 ·exact vq h
 ·rw[j4 (HE l.length) (HE _) (Ai (by omega)),JF (HE _),JF (by omega:l.length<=n)]
  simp
theorem qM {fe:En->Rs T}{fl fu:En->Rs (Option Int)}{ρ:En}{s:Str}{lo hi:Option Int}{l:List Nat}(h:fe ρ= .ok (.str s))(h1:fl ρ= .ok lo)(h2:fu ρ= .ok hi)(e:g8 s lo hi=tx l)(hl:l.length<=1000000):fZ fe fl fu ρ= .ok (.str (tx l)):=by
 unfold fZ;rw[h,h1,h2]
 show(if (g8 s lo hi).length<=1000000 then Rs.ok (T.str (g8 s lo hi))else .bad)=_
 rw[e,if_pos (by rw[bJ];exact hl)]
theorem Dw (len:Nat):HF (some (-1)) none 1 len=HF (some ((len - 1:Nat):Int)) (some (len:Int)) 1 len:=by
 simp[HF]
 congr 1 <;> first | omega | (simp;omega) | (split <;> omega)
theorem AO (l:List Nat):g8 (tx l) (some (-1)) none=tx (l.drop (l.length - 1)):=by
 rw[j4 (Nat.sub_le _ _) (HE _) (Dw l.length),Ju (by rw[Ih];omega)]
abbrev El:En->Rs Fl:=(aD (bN (oS bV (vr 4) (ae (cn (.str " ")) ag)) (gN 5)) (gI (hZ (tb (o2 Tr.eqT (o2 aW (vr 5) (cn (.int 0))) (cn (.str "clock")))) (hZ (tb (o2 Dx (Tr.cl bW (ae (vr 5) ag)) (cn (.int 2)))) (tb (o2 Tr.eqT (vr 2) (bQ ag))))) (aD (bN (Tr.cl dh (ae (eH (iS (sl (vr 5) (pS (cn (.int 2))) pN)) [none] (gN 0) bT (Tr.cl aY (ae (vr 0) ag))) ag)) (gN 6)) (bN (o2 aw (vr 1) (bQ (ae (o2 aw (Tr.cl a9 (ae (o2 aW (vr 5) (cn (.int 1))) (ae (cn (.str "-")) ag))) (bQ (ae (vr 6) ag))) ag))) (gN 1))) (gI (hZ (tb (o2 Tr.eqT (o2 aW (vr 5) (cn (.int 0))) (cn (.str "letter")))) (tb (o2 Tr.eqT (Tr.cl bW (ae (vr 5) ag)) (cn (.int 4))))) (aD (bN (Tr.cl a9 (ae (o2 aw (o2 aW (vr 5) (cn (.int 3))) (o2 r6 (cn (.str "0")) (Tr.cl mI (ae (o2 Tr.eqT (fZ (o2 aW (vr 5) (cn (.int 3))) (pS (o1 c9 (cn (.int 1)))) pN) (cn (.str "-"))) ag)))) (ae (cn (.str "-")) ag))) (gT 2 (vk (gN 7) (vk (gN 8) Bq)))) (aD (bN (qN (tb (o2 Tr.eqT (fZ (o2 aW (vr 5) (cn (.int 3))) (pS (o1 c9 (cn (.int 1)))) pN) (cn (.str "-")))) (cn .non) (qN (tb (o2 lN (vr 8) (cn .non))) (o1 c9 (cn (.int 1))) (vr 8))) (gN 9)) (aD (bN (bQ (ae (Tr.cl a9 (ae (o2 aW (vr 5) (cn (.int 1))) (ae (cn (.str ".")) ag))) (ae (Tr.cl a9 (ae (o2 aW (vr 5) (cn (.int 2))) (ae (cn (.str ".")) ag))) ag))) (gN 10)) (bN (o2 aw (vr 2) (bQ (ae (o2 aw (vr 10) (bQ (ae (vr 7) (ae (vr 9) ag)))) ag))) (gN 2))))) (aP (cn .non)))))
def gq:List Nat:=[99,108,111,99,107]
def eY:List Nat:=[108,101,116,116,101,114]
def cB (w:List Nat):Bool:=decide (w.drop (w.length - 1)= [45])
def pq (ps:List (List Nat)):T:=.tup (dt 45 (ps.getD 1 [])++ [.tup ((ps.drop 2).map eJ)])
def i4 (w:List Nat):List T:=dt 45 (if cB w=true then w++ [48]else w)
def gH (w:List Nat)(v:T):T:=if cB w=true then .non else(match v with | .non=> .int (-1) | v=>v)
def pj (ps:List (List Nat)):T:=.tup [.tup (dt 46 (ps.getD 1 [])),.tup (dt 46 (ps.getD 2 [])),(i4 (ps.getD 3 [])).getD 0 .non,gH (ps.getD 3 []) ((i4 (ps.getD 3 [])).getD 1 .non)]
def kr (ps:List (List Nat))(ls:List T):Bool:=decide (ps.getD 0 [] =gq)&&(decide (2<ps.length)&&ls.isEmpty)
def nC (ps:List (List Nat)):Bool:=decide (ps.getD 0 [] =eY)&&decide (ps.length=4)
theorem Ap {l:List T}(h:(T.tup l).pl=true):Tr.eqT (.tup l) (.tup [])= .ok (.bl l.isEmpty):=by
 unfold Tr.eqT;rw[if_pos (qQ (by simp[T.dep,deps]) (T.GM _ h) rfl)]
 cases l <;> rfl
section
variable {S0 L3:T}{cs ls:List T}{w:List Nat}
theorem lg {j:Nat}(hj:j<(parts 32 w).length)(ρ:En)(h:ρ[5]? =some (.va (.lst ((parts 32 w).map λp=>T.str (tx p))))):o2 aW (vr 5) (cn (.int (j:Nat))) ρ= .ok (.str (tx ((parts 32 w).getD j []))):=
 xU (n:=j) (Di h) rfl (by rw[Ib,Jl,HG hj];rfl)
theorem w9 (hw:Sh w)(ρ:En)(h:ρ[5]? =some (.va (.lst ((parts 32 w).map λp=>T.str (tx p))))):Tr.cl bW (ae (vr 5) ag) ρ= .ok (.int ((parts 32 w).length:Nat)):=
 a7 (aj (Di h) ax) (by show Rs.ok (T.int (((parts 32 w).map λp=>T.str (tx p)).length:Nat))=_;rw[Hw])
theorem w8 (w:List Nat):0<(parts 32 w).length:=by
 have:=dy 32 w
 cases h:parts 32 w with
 | nil=>exact absurd h this
 | cons=>simp
theorem Sh.at {j:Nat}(hw:Sh w)(hj:j<(parts 32 w).length):Sh ((parts 32 w).getD j []):=hw.part (c:=32) (by
 rw[Jl,HG hj]
 exact JS hj)
theorem BA (hw:Sh w)(hp:(T.tup ls).pl=true)(s6 s7 s8 s9 s10:Sl):(hZ (tb (o2 Tr.eqT (o2 aW (vr 5) (cn (.int 0))) (cn (.str "clock")))) (hZ (tb (o2 Dx (Tr.cl bW (ae (vr 5) ag)) (cn (.int 2)))) (tb (o2 Tr.eqT (vr 2) (bQ ag))))) [.va S0,.va (.tup cs),.va (.tup ls),.va L3,.va (.str (tx w)),.va (.lst ((parts 32 w).map λp=>T.str (tx p))),s6,s7,s8,s9,s10,.em] = .ok (kr (parts 32 w) ls):=by
 have h0:o2 aW (vr 5) (cn (.int 0)) [.va S0,.va (.tup cs),.va (.tup ls),.va L3,.va (.str (tx w)),.va (.lst ((parts 32 w).map λp=>T.str (tx p))),s6,s7,s8,s9,s10,.em] =_:=lg (j:=0) (w8 w) _ rfl
 refine tU (eC (aN h0 (u:=.str (tx gq)) rfl (jF _ _))) λ_=>tU (eC (aN (w9 hw _ rfl) (u:=.int 2) rfl ?_)) λ_=>eC (aN (t:=.tup ls) (u:=.tup []) rfl (cH rfl (fh (by simp))) (Ap hp))
 show Rs.ok (T.bl (decide (((parts 32 w).length:Int) > 2)))=_
 congr 2
 exact decide_eq_decide.mpr (by omega)
theorem Bz (hw:Sh w)(s6 s7 s8 s9 s10:Sl):(hZ (tb (o2 Tr.eqT (o2 aW (vr 5) (cn (.int 0))) (cn (.str "letter")))) (tb (o2 Tr.eqT (Tr.cl bW (ae (vr 5) ag)) (cn (.int 4))))) [.va S0,.va (.tup cs),.va (.tup ls),.va L3,.va (.str (tx w)),.va (.lst ((parts 32 w).map λp=>T.str (tx p))),s6,s7,s8,s9,s10,.em] = .ok (nC (parts 32 w)):=by
 have h0:o2 aW (vr 5) (cn (.int 0)) [.va S0,.va (.tup cs),.va (.tup ls),.va L3,.va (.str (tx w)),.va (.lst ((parts 32 w).map λp=>T.str (tx p))),s6,s7,s8,s9,s10,.em] =_:=lg (j:=0) (w8 w) _ rfl
 refine tU (eC (aN h0 (u:=.str (tx eY)) rfl (jF _ _))) λ_=>eC (aN (w9 hw _ rfl) (u:=.int 4) rfl ((yk _ _).trans ?_))
 congr 2
 rw[J2,beq_iff_eq,decide_eq_true_eq];omega
theorem D6 (hw:Sh w)(hc:cs.length<=900)(h2:2<(parts 32 w).length)(s6 s7 s8 s9 s10:Sl):(aD (bN (Tr.cl dh (ae (eH (iS (sl (vr 5) (pS (cn (.int 2))) pN)) [none] (gN 0) bT (Tr.cl aY (ae (vr 0) ag))) ag)) (gN 6)) (bN (o2 aw (vr 1) (bQ (ae (o2 aw (Tr.cl a9 (ae (o2 aW (vr 5) (cn (.int 1))) (ae (cn (.str "-")) ag))) (bQ (ae (vr 6) ag))) ag))) (gN 1))) [.va S0,.va (.tup cs),.va (.tup ls),.va L3,.va (.str (tx w)),.va (.lst ((parts 32 w).map λp=>T.str (tx p))),s6,s7,s8,s9,s10,.em] = .ok (.nx [.va S0,.va (.tup (cs++ [pq (parts 32 w)])),.va (.tup ls),.va L3,.va (.str (tx w)),.va (.lst ((parts 32 w).map λp=>T.str (tx p))),.va (.tup (((parts 32 w).drop 2).map eJ)),s7,s8,s9,s10,.em]):=by
 have hl:=dM 32 w
 have hw0:=hw.1
 have e1:(Tr.cl dh (ae (eH (iS (sl (vr 5) (pS (cn (.int 2))) pN)) [none] (gN 0) bT (Tr.cl aY (ae (vr 0) ag))) ag)) [.va S0,.va (.tup cs),.va (.tup ls),.va L3,.va (.str (tx w)),.va (.lst ((parts 32 w).map λp=>T.str (tx p))),s6,s7,s8,s9,s10,.em] = .ok (.tup (((parts 32 w).drop 2).map eJ)):=by
  refine a7 (aj (xJ (ps:=(parts 32 w).drop 2) (iX ((ni (l:=(parts 32 w).map λp=>T.str (tx p)) (lo:=some ((2:Nat):Int)) (hi:=none) rfl rfl rfl).trans (by rw[qU,OJ]))) (by rw[Ih];omega) λp hp=>hw.part (IY hp)) ax) rfl
 rw[aE (ρ':=[.va S0,.va (.tup cs),.va (.tup ls),.va L3,.va (.str (tx w)),.va (.lst ((parts 32 w).map λp=>T.str (tx p))),.va (.tup (((parts 32 w).drop 2).map eJ)),s7,s8,s9,s10,.em]) (bj e1 rfl)]
 have i1:o2 aW (vr 5) (cn (.int 1)) [.va S0,.va (.tup cs),.va (.tup ls),.va L3,.va (.str (tx w)),.va (.lst ((parts 32 w).map λp=>T.str (tx p))),.va (.tup (((parts 32 w).drop 2).map eJ)),s7,s8,s9,s10,.em] =_:=lg (j:=1) (by omega) _ rfl
 have e2:=a7 (aj i1 (aj (f:=cn (.str "-")) (t:=.str (tx [45])) rfl ax)) (uh 45 (hw.at (j:=1) (by omega)))
 obtain⟨u,v,e3,_,_⟩:=ik 45 ((parts 32 w).getD 1 []);refine bj (aN (t:=.tup cs) (u:=.tup [pq (parts 32 w)]) rfl (cH (aj (aN e2 (u:=.tup [.tup (((parts 32 w).drop 2).map eJ)]) (cH rfl (fh (by simp))) (d6 _ _ (by rw[Ht,e3];simp))) ax) (fh (by simp))) (d6 _ _ (by rw[Ht];simp;omega))) rfl
theorem ER (hw:Sh w)(h4:(parts 32 w).length=4)(ρ:En)(h:ρ[5]? =some (.va (.lst ((parts 32 w).map λp=>T.str (tx p))))):(fZ (o2 aW (vr 5) (cn (.int 3))) (pS (o1 c9 (cn (.int 1)))) pN) ρ= .ok (.str (tx (((parts 32 w).getD 3 []).drop (((parts 32 w).getD 3 []).length - 1)))):=by
 have:=(hw.at (j:=3) (by omega)).1
 exact qM (lg (j:=3) (by omega) ρ h) rfl rfl (AO _) (by rw[Ih];omega)
theorem AJ (hw:Sh w)(h4:(parts 32 w).length=4)(ρ:En)(h:ρ[5]? =some (.va (.lst ((parts 32 w).map λp=>T.str (tx p))))):o2 Tr.eqT (fZ (o2 aW (vr 5) (cn (.int 3))) (pS (o1 c9 (cn (.int 1)))) pN) (cn (.str "-")) ρ= .ok (.bl (cB ((parts 32 w).getD 3 []))):=
 aN (ER hw h4 ρ h) (u:=.str (tx [45])) rfl (jF _ _)
theorem D5 (hw:Sh w)(h6:w.length<=600)(hc:ls.length<=900)(h4:(parts 32 w).length=4)(s6 s7 s8 s9 s10:Sl):∃t7 t8 t9 t10:Sl,(aD (bN (Tr.cl a9 (ae (o2 aw (o2 aW (vr 5) (cn (.int 3))) (o2 r6 (cn (.str "0")) (Tr.cl mI (ae (o2 Tr.eqT (fZ (o2 aW (vr 5) (cn (.int 3))) (pS (o1 c9 (cn (.int 1)))) pN) (cn (.str "-"))) ag)))) (ae (cn (.str "-")) ag))) (gT 2 (vk (gN 7) (vk (gN 8) Bq)))) (aD (bN (qN (tb (o2 Tr.eqT (fZ (o2 aW (vr 5) (cn (.int 3))) (pS (o1 c9 (cn (.int 1)))) pN) (cn (.str "-")))) (cn .non) (qN (tb (o2 lN (vr 8) (cn .non))) (o1 c9 (cn (.int 1))) (vr 8))) (gN 9)) (aD (bN (bQ (ae (Tr.cl a9 (ae (o2 aW (vr 5) (cn (.int 1))) (ae (cn (.str ".")) ag))) (ae (Tr.cl a9 (ae (o2 aW (vr 5) (cn (.int 2))) (ae (cn (.str ".")) ag))) ag))) (gN 10)) (bN (o2 aw (vr 2) (bQ (ae (o2 aw (vr 10) (bQ (ae (vr 7) (ae (vr 9) ag)))) ag))) (gN 2))))) [.va S0,.va (.tup cs),.va (.tup ls),.va L3,.va (.str (tx w)),.va (.lst ((parts 32 w).map λp=>T.str (tx p))),s6,s7,s8,s9,s10,.em] = .ok (.nx [.va S0,.va (.tup cs),.va (.tup (ls++ [pj (parts 32 w)])),.va L3,.va (.str (tx w)),.va (.lst ((parts 32 w).map λp=>T.str (tx p))),s6,t7,t8,t9,t10,.em]):=by
 have hd:=λρ h=>AJ hw h4 ρ h
 have i1:∀ρ:En,ρ[5]? =some (.va (.lst ((parts 32 w).map λp=>T.str (tx p))))->o2 aW (vr 5) (cn (.int 1)) ρ= .ok (.str (tx ((parts 32 w).getD 1 []))):=λρ h=>lg (w:=w) (j:=1) (by omega) ρ h
 have i2:∀ρ:En,ρ[5]? =some (.va (.lst ((parts 32 w).map λp=>T.str (tx p))))->o2 aW (vr 5) (cn (.int 2)) ρ= .ok (.str (tx ((parts 32 w).getD 2 []))):=λρ h=>lg (w:=w) (j:=2) (by omega) ρ h
 have i3:∀ρ:En,ρ[5]? =some (.va (.lst ((parts 32 w).map λp=>T.str (tx p))))->o2 aW (vr 5) (cn (.int 3)) ρ= .ok (.str (tx ((parts 32 w).getD 3 []))):=λρ h=>lg (w:=w) (j:=3) (by omega) ρ h
 have S1:=hw.at (j:=1) (by omega)
 have S2:=hw.at (j:=2) (by omega)
 have S3:=hw.at (j:=3) (by omega)
 have l3:((parts 32 w).getD 3 []).length<=600:=by
  have hm:(parts 32 w).getD 3 [] ∈parts 32 w:=by
   rw[Jl,HG (show 3<(parts 32 w).length by omega)]
   exact JS _
  exact H0 (f9 hm).length_le h6
 have hdue:pj (parts 32 w)= .tup ([.tup (dt 46 ((parts 32 w).getD 1 [])),.tup (dt 46 ((parts 32 w).getD 2 []))] ++ [(i4 ((parts 32 w).getD 3 [])).getD 0 .non,gH ((parts 32 w).getD 3 []) ((i4 ((parts 32 w).getD 3 [])).getD 1 .non)]):=rfl;rw[hdue]
 generalize (parts 32 w).getD 1 [] =w1 at*
 generalize (parts 32 w).getD 2 [] =w2 at*
 generalize (parts 32 w).getD 3 [] =w3 at*
 obtain⟨u,v,e3,_,hv⟩:=ik 45 (if cB w3=true then w3++ [48]else w3)
 have e3':i4 w3= [u,v]:=e3
 have a0:(Tr.cl a9 (ae (o2 aw (o2 aW (vr 5) (cn (.int 3))) (o2 r6 (cn (.str "0")) (Tr.cl mI (ae (o2 Tr.eqT (fZ (o2 aW (vr 5) (cn (.int 3))) (pS (o1 c9 (cn (.int 1)))) pN) (cn (.str "-"))) ag)))) (ae (cn (.str "-")) ag))) [.va S0,.va (.tup cs),.va (.tup ls),.va L3,.va (.str (tx w)),.va (.lst ((parts 32 w).map λp=>T.str (tx p))),s6,s7,s8,s9,s10,.em] = .ok (.tup [u,v]):=by
  refine(a7 (aj (t:=.str (tx (if cB w3=true then w3++ [48]else w3))) ?_ (aj (t:=.str (tx [45])) rfl ax)) (uh 45 ?_)).trans (by rw[e3])
  ·have s3:=S3.1
   have m:o2 r6 (cn (.str "0")) (Tr.cl mI (ae (o2 Tr.eqT (fZ (o2 aW (vr 5) (cn (.int 3))) (pS (o1 c9 (cn (.int 1)))) pN) (cn (.str "-"))) ag)) [.va S0,.va (.tup cs),.va (.tup ls),.va L3,.va (.str (tx w)),.va (.lst ((parts 32 w).map λp=>T.str (tx p))),s6,s7,s8,s9,s10,.em] = .ok (.str (tx (if cB w3=true then [48]else []))):=by
    refine aN (t:=.str (tx [48])) (u:=.int (if cB w3=true then 1 else 0)) rfl (a7 (aj (hd _ rfl) ax) rfl) ?_
    cases cB w3 <;> rfl
   refine(bB (i3 _ rfl) m (by split <;> (simp;omega))).trans ?_
   cases cB w3
   ·rw[if_neg (by decide),if_neg (by decide),IA]
   ·rw[if_pos rfl,if_pos rfl]
  ·have s3:=S3
   split
   ·refine⟨?_,λc hc=> ?_⟩
    ·rw[Ht];show _+1<=_;omega
    ·rcases HA.mp hc with hc | hc
     ·exact s3.2 c hc
     ·rw[HJ.mp hc];decide
   ·exact s3
 rw[aE (ρ':=[.va S0,.va (.tup cs),.va (.tup ls),.va L3,.va (.str (tx w)),.va (.lst ((parts 32 w).map λp=>T.str (tx p))),s6,.va u,.va v,s9,s10,.em]) (bj a0 rfl)]
 have a1:(qN (tb (o2 Tr.eqT (fZ (o2 aW (vr 5) (cn (.int 3))) (pS (o1 c9 (cn (.int 1)))) pN) (cn (.str "-")))) (cn .non) (qN (tb (o2 lN (vr 8) (cn .non))) (o1 c9 (cn (.int 1))) (vr 8))) [.va S0,.va (.tup cs),.va (.tup ls),.va L3,.va (.str (tx w)),.va (.lst ((parts 32 w).map λp=>T.str (tx p))),s6,.va u,.va v,s9,s10,.em] = .ok (gH w3 v):=by
  refine(km (eC (hd _ rfl))).trans ?_
  unfold gH;cases cB w3
  ·rw[if_neg (by decide),if_neg (by decide)]
   rcases hv with rfl | ⟨i,rfl⟩
   ·exact(km (p:=true) rfl).trans rfl
   ·exact(km (p:=false) rfl).trans rfl
  ·rw[if_pos rfl,if_pos rfl];rfl
 rw[aE (ρ':=[.va S0,.va (.tup cs),.va (.tup ls),.va L3,.va (.str (tx w)),.va (.lst ((parts 32 w).map λp=>T.str (tx p))),s6,.va u,.va v,.va (gH w3 v),s10,.em]) (bj a1 rfl)]
 rw[aE (ρ':=[.va S0,.va (.tup cs),.va (.tup ls),.va L3,.va (.str (tx w)),.va (.lst ((parts 32 w).map λp=>T.str (tx p))),s6,.va u,.va v,.va (gH w3 v),.va (.tup [.tup (dt 46 w1),.tup (dt 46 w2)]),.em]) (bj (cH (aj (a7 (aj (i1 _ rfl) (aj (t:=.str (tx [46])) rfl ax)) (uh 46 S1)) (aj (a7 (aj (i2 _ rfl) (aj (t:=.str (tx [46])) rfl ax)) (uh 46 S2)) ax)) (fh (by simp))) rfl)]
 refine⟨.va u,.va v,.va (gH w3 v),.va (.tup [.tup (dt 46 w1),.tup (dt 46 w2)]),bj (aN (t:=.tup ls) (u:=.tup [.tup ([.tup (dt 46 w1),.tup (dt 46 w2)] ++ [u,gH w3 v])]) rfl (cH (aj (aN (t:=.tup [.tup (dt 46 w1),.tup (dt 46 w2)]) (u:=.tup [u,gH w3 v]) rfl (cH rfl (fh (by simp))) (d6 _ _ (by simp))) ax) (fh (by simp))) (d6 _ _ (by rw[Ht];simp;omega))) ?_⟩
 rw[e3']
 rfl
end
def dJ (w:List Nat)(st:List T×List T):Option (List T×List T):=
 if kr (parts 32 w) st.2=true then some (st.1++ [pq (parts 32 w)],st.2)
 else if nC (parts 32 w)=true then some (st.1,st.2++ [pj (parts 32 w)])else none
def cQ:List (List Nat)->List T×List T->Option (List T×List T)
 | [],st=>some st
 | w::ws,st=>match dJ w st with
  | some st'=>cQ ws st'
  | none=>none
theorem gk {l:List T}:(T.tup l).pl=plS l:=by unfold T.pl;rfl
theorem kF {a b:List T}(ha:plS a=true)(hb:plS b=true):plS (a++b)=true:=jQ λt ht=>by
 rcases HA.mp ht with ht | ht
 ·exact iu ha ht
 ·exact iu hb ht
theorem C0 (l:List (List Nat)):plS (l.map eJ)=true:=jQ λt ht=>by
 obtain⟨p,_,rfl⟩:=HI.mp ht;rcases oN p with h | ⟨i,h⟩ <;> (rw[h];rfl)
theorem rE (c:Nat)(w:List Nat):plS (dt c w)=true:=by
 obtain⟨u,v,e,hu,hv⟩:=ik c w;rw[e];rcases hu with rfl | ⟨i,rfl⟩ <;> rcases hv with rfl | ⟨j,rfl⟩ <;> rfl
theorem Ay (ps:List (List Nat)):(pq ps).pl=true:=by
 unfold pq;rw[gk];exact kF (rE _ _) (by rw[plS,gk,C0];rfl)
theorem Ax (ps:List (List Nat)):(pj ps).pl=true:=by
 unfold pj;obtain⟨u,v,e,hu,hv⟩:=ik 45 (if cB (ps.getD 3 [])=true then ps.getD 3 [] ++ [48]else ps.getD 3 [])
 have e':i4 (ps.getD 3 [])= [u,v]:=e;rw[e',gk,plS,plS,gk,gk,rE,rE]
 show(u.pl&&((gH (ps.getD 3 []) v).pl&&true))=true
 have h1:u.pl=true:=by rcases hu with rfl | ⟨i,rfl⟩ <;> rfl
 have h2:(gH (ps.getD 3 []) v).pl=true:=by
  unfold gH;split
  ·rfl
  ·rcases hv with rfl | ⟨i,rfl⟩ <;> rfl
 rw[h1,h2];rfl
theorem mX {w:List Nat}{st st':List T×List T}(h:dJ w st=some st')(h1:plS st.1=true)(h2:plS st.2=true):plS st'.1=true/\plS st'.2=true/\st'.1.length<=st.1.length+1/\st'.2.length<=st.2.length+1:=by
 unfold dJ at h
 split at h
 ·cases h
  exact⟨kF h1 (by rw[plS,Ay];rfl),h2,by simp,by simp⟩
 ·split at h
  ·cases h
   exact⟨h1,kF h2 (by rw[plS,Ax];rfl),by simp,by simp⟩
  ·cases h
theorem lb:∀(ws:List (List Nat)) (st st':List T×List T),cQ ws st=some st'->plS st.1=true->plS st.2=true->plS st'.1=true/\plS st'.2=true
 | [],st,st',h,h1,h2=>by cases h;exact⟨h1,h2⟩
 | w::ws,st,st',h,h1,h2=>by
  unfold cQ at h
  split at h
  ·rename_i st1 e
   obtain⟨a,b,_,_⟩:=mX e h1 h2;exact lb ws st1 st' h a b
  ·cases h
section
variable {S0 L3:T}{cs ls:List T}{w:List Nat}
theorem qT (hw:Sh w)(s5 s6 s7 s8 s9 s10:Sl):bN (oS bV (vr 4) (ae (cn (.str " ")) ag)) (gN 5) [.va S0,.va (.tup cs),.va (.tup ls),.va L3,.va (.str (tx w)),s5,s6,s7,s8,s9,s10,.em] = .ok (.nx [.va S0,.va (.tup cs),.va (.tup ls),.va L3,.va (.str (tx w)),.va (.lst ((parts 32 w).map λp=>T.str (tx p))),s6,s7,s8,s9,s10,.em]):=
 bj (fG (s:=tx w) rfl (aj (t:=.str (tx [32])) rfl ax) (iI 32 (by have:=hw.1;omega))) rfl
theorem Az (hw:Sh w)(h6:w.length<=600)(hc:cs.length<=900)(hl:ls.length<=900)(hp:plS ls=true)(s5 s6 s7 s8 s9 s10:Sl){st:List T×List T}(h:dJ w (cs,ls)=some st):∃t5 t6 t7 t8 t9 t10:Sl,El [.va S0,.va (.tup cs),.va (.tup ls),.va L3,.va (.str (tx w)),s5,s6,s7,s8,s9,s10,.em] = .ok (.nx [.va S0,.va (.tup (st.1)),.va (.tup (st.2)),.va L3,.va (.str (tx w)),t5,t6,t7,t8,t9,t10,.em]):=by
 have c1:=BA (S0:=S0) (L3:=L3) (cs:=cs) (ls:=ls) hw (by rw[gk];exact hp) s6 s7 s8 s9 s10
 unfold dJ at h;unfold El;rw[aE (qT hw s5 s6 s7 s8 s9 s10)]
 split at h
 ·rename_i hb
  cases h;rw[hb]at c1
  have h2:2<(parts 32 w).length:=by
   unfold kr at hb;rw[Hu,Hu,decide_eq_true_eq,decide_eq_true_eq]at hb;exact hb.2.1
  exact⟨_,_,s7,s8,s9,s10,(nk c1).trans (D6 hw hc h2 s6 s7 s8 s9 s10)⟩
 ·rename_i hb
  have hb:kr (parts 32 w) ls=false:=by simpa using hb
  split at h
  ·rename_i hb2
   cases h;rw[hb]at c1
   have c2:=Bz (S0:=S0) (L3:=L3) (cs:=cs) (ls:=ls) hw s6 s7 s8 s9 s10;rw[hb2]at c2
   have h4:(parts 32 w).length=4:=by
    unfold nC at hb2;rw[Hu,decide_eq_true_eq,decide_eq_true_eq]at hb2;exact hb2.2
   obtain⟨t7,t8,t9,t10,e⟩:=D5 (S0:=S0) (L3:=L3) (cs:=cs) hw h6 hl h4 s6 s7 s8 s9 s10;exact⟨_,s6,t7,t8,t9,t10,((iW c1).trans (nk c2)).trans e⟩
  ·cases h
theorem AA (hw:Sh w)(hp:plS ls=true)(s5 s6 s7 s8 s9 s10:Sl)(h:dJ w (cs,ls)=none):El [.va S0,.va (.tup cs),.va (.tup ls),.va L3,.va (.str (tx w)),s5,s6,s7,s8,s9,s10,.em] = .ok (.rt .non):=by
 have c1:=BA (S0:=S0) (L3:=L3) (cs:=cs) (ls:=ls) hw (by rw[gk];exact hp) s6 s7 s8 s9 s10
 have c2:=Bz (S0:=S0) (L3:=L3) (cs:=cs) (ls:=ls) hw s6 s7 s8 s9 s10;unfold dJ at h;unfold El;rw[aE (qT hw s5 s6 s7 s8 s9 s10)]
 split at h
 ·cases h
 ·rename_i hb
  have hb:kr (parts 32 w) ls=false:=by simpa using hb
  split at h
  ·cases h
  ·rename_i hb2
   have hb2:nC (parts 32 w)=false:=by simpa using hb2
   rw[hb]at c1;rw[hb2]at c2;exact((iW c1).trans (iW c2)).trans (c6 rfl)
theorem uq:∀(ws:List (List Nat)) (cs ls:List T) (s4 s5 s6 s7 s8 s9 s10:Sl),(∀w∈ws,Sh w/\w.length<=600)->cs.length+ws.length<=900->ls.length+ws.length<=900->plS cs=true->plS ls=true →
  (∀st,cQ ws (cs,ls)=some st->∃t4 t5 t6 t7 t8 t9 t10:Sl,bO (gN 4) El (ws.map λp=>T.str (tx p)) [.va S0,.va (.tup cs),.va (.tup ls),.va L3,s4,s5,s6,s7,s8,s9,s10,.em] = .ok (.nx [.va S0,.va (.tup (st.1)),.va (.tup (st.2)),.va L3,t4,t5,t6,t7,t8,t9,t10,.em]))/\(cQ ws (cs,ls)=none->bO (gN 4) El (ws.map λp=>T.str (tx p)) [.va S0,.va (.tup cs),.va (.tup ls),.va L3,s4,s5,s6,s7,s8,s9,s10,.em] = .ok (.rt .non))
 | [],cs,ls,s4,s5,s6,s7,s8,s9,s10,_,_,_,_,_=>K4 (λst h=>by
  have h':(cs,ls)=st:=Ik h;subst h'
  exact⟨s4,s5,s6,s7,s8,s9,s10,rfl⟩) (λh=>by cases h)
 | w::ws,cs,ls,s4,s5,s6,s7,s8,s9,s10,hw,hc,hl,pc,pl=>by
  rw[HC]at hc hl;obtain⟨w1,w2⟩:=hw w HD
  cases h:dJ w (cs,ls)with
  | none=>
   have e:cQ (w::ws) (cs,ls)=none:=by rw[cQ,h]
   refine⟨λst z=>(by rw[e]at z;cases z),λ_=> ?_⟩
   rw[HN]
   exact Ac (ρ1:=[.va S0,.va (.tup cs),.va (.tup ls),.va L3,.va (.str (tx w)),s5,s6,s7,s8,s9,s10,.em]) rfl (AA w1 pl s5 s6 s7 s8 s9 s10 h)
  | some st1=>
   have e:cQ (w::ws) (cs,ls)=cQ ws st1:=by rw[cQ,h]
   obtain⟨p1,p2,n1,n2⟩:=mX h pc pl;obtain⟨t5,t6,t7,t8,t9,t10,es⟩:=Az (S0:=S0) (L3:=L3) w1 w2 (by omega) (by omega) pl s5 s6 s7 s8 s9 s10 h
   have ih:=uq ws st1.1 st1.2 (.va (.str (tx w))) t5 t6 t7 t8 t9 t10 (λx hx=>hw x (Hv _ hx)) (by have:st1.1.length<=cs.length+1:=n1;omega) (by have:st1.2.length<=ls.length+1:=n2;omega) p1 p2
   rw[e,HN,jY (ρ1:=[.va S0,.va (.tup cs),.va (.tup ls),.va L3,.va (.str (tx w)),s5,s6,s7,s8,s9,s10,.em]) rfl es];exact ih
end
def ky (s:List Nat):T:=match cQ (parts 10 s).dropLast ([],[])with
 | some st=>if ((parts 10 s).getLast? == some [])&&gf (RR st.1 st.2)then RR st.1 st.2 else .non
 | none=> .non
theorem yA (a:List T)(x:T):jh (a++ [x]) none (some (-1))=a:=by
 unfold jh
 have e1:HT.sIx (a++ [x]).length 0 none=0:=rfl
 have e2:HT.sIx (a++ [x]).length (a++ [x]).length (some (-1))=a.length:=by
  simp[HT.sIx]
  try omega
 rw[e1,e2];simp
theorem xW (a:List T)(x:T):aW (.lst (a++ [x])) (.int (-1))= .ok x:=by
 show(match L2.atI (a++ [x]) (-1)with | some t=>Rs.ok t | none=> .bad)=_
 have:L2.atI (a++ [x]) (-1)=some x:=by
  unfold L2.atI L2.ixN;simp;rw[if_pos (by omega)]
  have q:(-1+((a.length:Int)+1)).toNat=a.length:=by omega
  show(a++ [x])[(-1+((a.length:Int)+1)).toNat]? =some x
  rw[q];simp
 rw[this]
theorem Bu {s:List Nat}(h6:s.length<=600)(h8:∀c∈s,c<128):dN [.str (tx s)] = .ok (ky s):=by
 have hs:Sh s:=⟨by omega,h8⟩
 have hl:=dM 10 s
 have hw:∀w∈parts 10 s,Sh w/\w.length<=600:=λw hw=>⟨hs.part hw,H0 (f9 hw).length_le h6⟩
 refine cO rfl ?_
 show jm [.va (.str (tx s)),.em,.em,.em,.em,.em,.em,.em,.em,.em,.em,.em] =_
 unfold jm ky;rw[aE (ρ':=[.va (.str (tx s)),.va (.tup []),.em,.em,.em,.em,.em,.em,.em,.em,.em,.em]) (bj (t:=.tup []) (cH rfl (fh (by simp))) rfl)]
 rw[aE (ρ':=[.va (.str (tx s)),.va (.tup []),.va (.tup []),.em,.em,.em,.em,.em,.em,.em,.em,.em]) (bj (t:=.tup []) (cH rfl (fh (by simp))) rfl)]
 rw[aE (ρ':=[.va (.str (tx s)),.va (.tup []),.va (.tup []),.va (.lst ((parts 10 s).map λp=>T.str (tx p))),.em,.em,.em,.em,.em,.em,.em,.em]) (bj (fG (s:=tx s) rfl (aj (t:=.str (tx [10])) rfl ax) (iI 10 (by omega))) rfl)]
 obtain⟨a,x,hax⟩:∃a x,parts 10 s=a++ [x]:=by
  rcases KM (parts 10 s)with h | ⟨a,x,h⟩
  ·exact absurd h (dy 10 s)
  ·exact⟨a,x,by rw[h,KN]⟩
 rw[hax,LQ,LR]
 rw[hax]at hw hl;rw[Ht,KI]at hl
 have hit:iS (sl (vr 3) pN (pS (o1 c9 (cn (.int 1))))) [.va (.str (tx s)),.va (.tup []),.va (.tup []),.va (.lst ((a++ [x]).map λp=>T.str (tx p))),.em,.em,.em,.em,.em,.em,.em,.em] = .ok (a.map λp=>T.str (tx p)):=
  iX ((ni (l:=(a++ [x]).map λp=>T.str (tx p)) (lo:=none) (hi:=some (-1)) rfl rfl rfl).trans (by rw[J3];exact congrArg (λq=>Rs.ok (T.lst q)) (yA _ _)))
 obtain⟨g1,g2⟩:=uq (S0:=.str (tx s)) (L3:=.lst ((a++ [x]).map λp=>T.str (tx p))) a [] [] .em .em .em .em .em .em .em (λw hm=>hw w (IG _ hm)) (by simp;omega) (by simp;omega) rfl rfl
 cases h:cQ a ([],[])with
 | none=>exact lJ (kn hit (g2 h))
 | some st=>
  obtain⟨t4,t5,t6,t7,t8,t9,t10,e⟩:=g1 st h;obtain⟨p1,p2⟩:=lb a _ _ h rfl rfl
  have hp:(RR st.1 st.2).pl=true:=by
   show(T.tup [.tup st.1,.tup st.2]).pl=true
   rw[gk,plS,plS,gk,gk,p1,p2];rfl
  rw[aE (kn hit e)];rw[aE (ρ':=[.va (.str (tx s)),.va (.tup st.1),.va (.tup st.2),.va (.lst ((a++ [x]).map λp=>T.str (tx p))),t4,t5,t6,t7,t8,t9,t10,.va (RR st.1 st.2)]) (bj (cH (aj (t:=.tup st.1) rfl (aj (t:=.tup st.2) rfl ax)) (fh (by simp))) rfl)]
  have l1:tb (o2 Tr.eqT (o2 aW (vr 3) (o1 c9 (cn (.int 1)))) (cn (.str ""))) [.va (.str (tx s)),.va (.tup st.1),.va (.tup st.2),.va (.lst ((a++ [x]).map λp=>T.str (tx p))),t4,t5,t6,t7,t8,t9,t10,.va (RR st.1 st.2)] = .ok (decide (x= [])):=
   eC (aN (aN (t:=.lst ((a++ [x]).map λp=>T.str (tx p))) (u:=.int (-1)) rfl rfl (by rw[J3];exact xW _ _)) (u:=.str (tx [])) rfl (jF _ _))
  have l2:=tU l1 (λ_=>eC (a7 (aj (f:=vr 11) (t:=RR st.1 st.2) rfl ax) (jG _ hp)))
  refine c6 ((km l2).trans ?_)
  have:(some x == some ([]:List Nat))=decide (x= []):=by rw[J2,decide_eq_true_eq,beq_iff_eq];simp
  show _=Rs.ok (if (some x == some [] &&gf (RR st.1 st.2))=true then RR st.1 st.2 else .non)
  rw[this]
  split <;> rfl
abbrev dC (w:List Nat):T:=pq (parts 32 w)
abbrev dL (w:List Nat):T:=pj (parts 32 w)
theorem tm:∀(ws:List (List Nat)) (cs ls cs' ls':List T),cQ ws (cs,ls)=some (cs',ls')->∃wc wl:List (List Nat),ws=wc++wl/\(ls≠ []->wc= [])/\cs'=cs++wc.map dC/\ls'=ls++wl.map dL/\(∀w∈wc,(parts 32 w).getD 0 [] =gq/\2<(parts 32 w).length)/\∀w∈wl,(parts 32 w).getD 0 [] =eY/\(parts 32 w).length=4
 | [],cs,ls,cs',ls',h=>by
  have h':(cs,ls)=(cs',ls'):=Ik h;cases h'
  exact⟨[],[],rfl,λ_=>rfl,by simp,by simp,λw h=>(by cases h),λw h=>(by cases h)⟩
 | w::ws,cs,ls,cs',ls',h=>by
  unfold cQ at h
  split at h
  ·rename_i st1 e
   obtain⟨c1,l1⟩:=st1;obtain⟨wc,wl,rfl,hn,rfl,rfl,h1,h2⟩:=tm ws c1 l1 cs' ls' h;unfold dJ at e
   split at e
   ·rename_i hb
    have e':=Ik e;injection e' with ea eb
    have eb:ls=l1:=eb;subst ea eb;unfold kr at hb;rw[Hu,Hu,decide_eq_true_eq,decide_eq_true_eq,Nb]at hb
    have hl:ls= []:=hb.2.2;refine⟨w::wc,wl,rfl,λz=>absurd hl z,by simp,rfl,λx hx=> ?_,h2⟩
    rcases HB.mp hx with rfl | hx
    ·exact⟨hb.1,hb.2.1⟩
    ·exact h1 x hx
   ·split at e
    ·rename_i hb
     have e':=Ik e;injection e' with ea eb
     have ea:cs=c1:=ea;subst ea eb;unfold nC at hb;rw[Hu,decide_eq_true_eq,decide_eq_true_eq]at hb
     have hw:wc= []:=hn (by simp)
     subst hw;refine⟨[],w::wl,rfl,λ_=>rfl,by simp,by simp,λx hx=>(by cases hx),λx hx=> ?_⟩
     rcases HB.mp hx with rfl | hx
     ·exact hb
     ·exact h2 x hx
    ·cases e
  ·cases h
theorem qE:∀{rest:List (List Nat)} {rs:List Int},rest.map eJ=rs.map .int->rest=rs.map dg
 | [],[],_=>rfl
 | [],_::_,h=>by cases h
 | _::_,[],h=>by cases h
 | p::rest,r::rs,h=>by
  rw[HN,HN]at h;injection h with h1 h2
  rw[HN,<-qE h2,<-(jz h1).2]
theorem AY {w:List Nat}{x:CK}(h0:(parts 32 w).getD 0 [] =gq)(h2:2<(parts 32 w).length)(h:dC w=dQ x):w=Lc++jk x:=by
 obtain⟨s,f,rs⟩:=x
 have hi:=bt 32 w;unfold dC pq at h
 match hp:parts 32 w,h2 with
 | p0::p1::q::rest,_=>
  rw[hp]at h0 h hi
  have h0:p0=gq:=h0
  have h:T.tup (dt 45 p1++ [.tup ((q::rest).map eJ)])= .tup [.int s,.int f,.tup (rs.map .int)]:=h;obtain⟨u,v,e,_,_⟩:=ik 45 p1;rw[e]at h
  have h:=T.tup.inj h;simp only[Kx,Jx,L6,and_true]at h;obtain⟨rfl,rfl,h3⟩:=h;obtain⟨_,_,e1⟩:=kC e
  have e3:=qE (T.tup.inj h3);subst h0;rw[<-hi]
  show gq++32::(p1++32::aA 32 (q::rest))=Lc++((dg s++45::dg f)++32::aA 32 (rs.map dg))
  rw[e3,e1]
  rfl
theorem AI {w:List Nat}(h:cB w=true):∃q,w=q++ [45]:=by
 unfold cB at h;rw[decide_eq_true_eq]at h;exact⟨w.take (w.length - 1),by rw[<-h,LH]⟩
theorem Aa {w:List Nat}{x:LE}(hx:uC x)(h0:(parts 32 w).getD 0 [] =eY)(h4:(parts 32 w).length=4)(h:dL w=eG x):w=Ll++jW x:=by
 obtain⟨⟨a,b⟩,⟨c,d⟩,l,m⟩:=x
 have hi:=bt 32 w;unfold dL pj at h
 match hp:parts 32 w,h4 with
 | [p0,w1,w2,w3],_=>
  rw[hp]at h0 h hi
  have h0:p0=eY:=h0
  have h:T.tup [.tup (dt 46 w1),.tup (dt 46 w2),(i4 w3).getD 0 .non,gH w3 ((i4 w3).getD 1 .non)] = .tup [.tup [.int a,.int b],.tup [.int c,.int d],.int l,mV m]:=h
  have h:=T.tup.inj h;simp only[L6,and_true]at h;obtain⟨g1,g2,g3,g4⟩:=h;obtain⟨_,_,e1⟩:=kC (T.tup.inj g1);obtain⟨_,_,e2⟩:=kC (T.tup.inj g2)
  have e3:w3=dg l++45::mw m:=by
   obtain⟨u,v,e,hu,hv⟩:=ik 45 (if cB w3=true then w3++ [48]else w3)
   have e':i4 w3= [u,v]:=e;rw[e']at g3 g4
   replace g3:u= .int l:=g3
   replace g4:gH w3 v=mV m:=g4
   unfold gH at g4
   cases hd:cB w3 with
   | true=>
    rw[hd,if_pos rfl]at g4 e
    have hm:m=none:=by
     cases m with
     | none=>rfl
     | some k=>cases g4
    subst hm;obtain⟨q,rfl⟩:=AI hd;unfold dt at e
    split at e
    ·rename_i hl
     have hi:=bt 45 ((q++ [45])++ [48])
     have hf:=ft 45 ((q++ [45])++ [48])
     match hq:parts 45 ((q++ [45])++ [48]),hl with
     | [p,r],_=>
      rw[hq]at e hi hf;simp only[HN,Ml,L6,and_true]at e;rw[g3]at e;obtain⟨_,hpl⟩:=jz e.1
      have hi:p++45::r=(q++ [45])++ [48]:=hi
      have hr:=congrArg List.reverse hi;simp only[List.reverse_append,Km,List.reverse_nil,Jx,IC,Kx]at hr;obtain⟨_,z⟩:=DZ (c:=45) (p:=r.reverse) (q:=[48]) (r:=45::p.reverse) (r':=45::q.reverse) (λz=>hf r (by simp) (Na.mp z)) (by simp) (.inr ⟨_,rfl⟩) (.inr ⟨_,rfl⟩) hr
      injection z with _ z
      have:p=q:=by rw[<-NZ p,z,NZ]
      rw[<-this,hpl]
      rfl
    ·rw[g3]at e
     cases e
   | false=>
    rw[hd,if_neg (by decide)]at g4 e
    rcases hv with rfl | ⟨k,rfl⟩
    ·have g4:T.int (-1)=mV m:=g4
     cases m with
     | none=>cases g4
     | some k=>
      injection g4 with g4
      have:=(hx.m k rfl).1;omega
    ·have g4:T.int k=mV m:=g4
     cases m with
     | none=>cases g4
     | some k'=>
      injection g4 with g4
      subst g4;rw[g3]at e;exact(kC e).2.2
  subst h0;rw[<-hi]
  show eY++32::(w1++32::(w2++32::w3))=Ll++(dF a b++32::(dF c d++32::(dg l++45::mw m)))
  rw[e3,e1,e2]
  rfl
theorem lF {α:Type}{f:α->T}{g:α->List Nat}{d:List Nat->T}{p:α->Prop}:∀{ws:List (List Nat)} {ks:List α},ws.map d=ks.map f->(∀x∈ks,p x)->(∀w∈ws,∀x,p x->d w=f x->w=g x)->ws=ks.map g
 | [],[],_,_,_=>rfl
 | [],_::_,h,_,_=>by cases h
 | _::_,[],h,_,_=>by cases h
 | w::ws,k::ks,h,hp,hb=>by
  rw[HN,HN]at h;injection h with h1 h2
  rw[HN,<-lF h2 (λx hx=>hp x (Hv _ hx)) (λx hx=>hb x (Hv _ hx)),<-hb w HD k (hp k HD) h1]
def Wr (s:List Nat)(t:T):Prop:=∃(ks:List CK) (es:List LE),(∀x∈ks,vH x)/\(∀x∈es,uC x)/\ks.length<=4/\es.length<=8/\t=RR (ks.map dQ) (es.map eG)/\gf t=true/\t.pl=true/\s=kB ks es
theorem yw (s:List Nat):ky s= .non\/Wr s (ky s):=by
 unfold ky;split
 ·rename_i st h
  split
  ·rename_i hb
   rw[Hu,beq_iff_eq]at hb;obtain⟨cs,ls⟩:=st;obtain⟨wc,wl,hw,_,hc,hl,h1,h2⟩:=tm _ _ _ _ _ h;rw[Jx]at hc hl;obtain⟨p1,p2⟩:=lb _ _ _ h rfl rfl;obtain⟨ks,es,e1,e2,hk,he,h4,h8⟩:=la (cs:=cs) (ls:=ls) hb.2;subst hc hl
   have f1:=lF (g:=λx=>Lc++jk x) e1 hk λw hw x _ e=>AY (h1 w hw).1 (h1 w hw).2 e
   have f2:=lF (g:=λx=>Ll++jW x) e2 he λw hw x hx e=>Aa hx (h2 w hw).1 (h2 w hw).2 e
   refine .inr ⟨ks,es,hk,he,h4,h8,by rw[e1,e2],hb.2,?_,?_⟩
   ·show(T.tup [.tup (wc.map dC),.tup (wl.map dL)]).pl=true
    rw[gk,plS,plS,gk,gk]
    have p1:plS (wc.map dC)=true:=p1
    have p2:plS (wl.map dL)=true:=p2;rw[p1,p2];rfl
   ·obtain⟨a,x,hax⟩:∃a x,parts 10 s=a++ [x]:=by
     rcases KM (parts 10 s)with h | ⟨a,x,h⟩
     ·exact absurd h (dy 10 s)
     ·exact⟨a,x,by rw[h,KN]⟩
    have hi:=bt 10 s;rw[hax,LR]at hb
    rw[hax,LQ]at hw
    have hx:x= []:=Ik hb.1;rw[<-hi,hax,hx,hw,f1,f2]
    show _=((lines ks es).map (· ++ [10])).flatten
    rw[gY]
    rfl
  ·exact .inl rfl
 ·exact .inl rfl
theorem qZ {x:CK}(h:vH x):parts 32 (Lc++jk x)=gq::(dg x.1++45::dg x.2.1)::x.2.2.map dg:=by
 obtain⟨s,f,rs⟩:=x
 have hne:=h.n0
 have e:Lc++jk (s,f,rs)=aA 32 (gq::(dg s++45::dg f)::rs.map dg):=by
  cases rs with
  | nil=>exact absurd rfl hne
  | cons r rs=>rfl
 rw[e];refine jy (by simp) λp hp=> ?_
 rcases HB.mp hp with rfl | hp
 ·decide
 ·rcases HB.mp hp with rfl | hp
  ·intro z
   rcases HA.mp z with z | z
   ·exact bD h.s0 (by decide) z
   ·rcases HB.mp z with z | z
    ·cases z
    ·exact bD h.f0 (by decide) z
  ·obtain⟨r,hr,rfl⟩:=HI.mp hp
   exact bD (h.r r hr).1 (by decide)
theorem D2 {x:CK}(h:vH x):dC (Lc++jk x)=dQ x:=by
 unfold dC pq;rw[qZ h]
 show T.tup (dt 45 (dg x.1++45::dg x.2.1)++ [.tup ((x.2.2.map dg).map eJ)])= .tup [.int x.1,.int x.2.1,.tup (x.2.2.map .int)]
 rw[kW (by decide) ⟨h.s0,h.s1⟩ ⟨h.f0,h.f1⟩,Iq]
 have:x.2.2.map (eJ∘dg)=x.2.2.map .int:=IU λr hr=>oO (h.r r hr)
 rw[this]
 rfl
theorem lI {x:LE}(h:uC x):parts 32 (Ll++jW x)= [eY,dF x.1.1 x.1.2,dF x.2.1.1 x.2.1.2,dg x.2.2.1++45::mw x.2.2.2]:=by
 have e:Ll++jW x=aA 32 [eY,dF x.1.1 x.1.2,dF x.2.1.1 x.2.1.2,dg x.2.2.1++45::mw x.2.2.2]:=rfl;rw[e];refine jy (by simp) λp hp=> ?_
 simp only[HB,IH,or_false]at hp;rcases hp with rfl | rfl | rfl | rfl
 ·decide
 ·exact iH h.a.1 h.b.1 (by decide)
 ·exact iH h.c.1 h.d.1 (by decide)
 ·intro z
  rcases HA.mp z with z | z
  ·exact bD h.l.1 (by decide) z
  ·rcases HB.mp z with z | z
   ·cases z
   ·exact tN h.m (by decide) z
theorem nB (a:List Nat)(x:Nat):(a++ [x]).drop ((a++ [x]).length - 1)= [x]:=by simp
theorem AG {k:Int}(h:0<=k):∃q d,dg k=q++ [d]/\48<=d:=by
 rcases KM (dg k)with e | ⟨q,d,e⟩
 ·exact absurd e (Ge h)
 ·rw[KN]at e
  exact⟨q,d,e,(kJ h d (by rw[e];simp)).1⟩
theorem C8 {x:LE}(h:uC x):dL (Ll++jW x)=eG x:=by
 obtain⟨⟨a,b⟩,⟨c,d⟩,l,m⟩:=x;unfold dL pj;rw[lI h]
 show T.tup [.tup (dt 46 (dg a++46::dg b)),.tup (dt 46 (dg c++46::dg d)),(i4 (dg l++45::mw m)).getD 0 .non,gH (dg l++45::mw m) ((i4 (dg l++45::mw m)).getD 1 .non)] = .tup [.tup [.int a,.int b],.tup [.int c,.int d],.int l,mV m]
 rw[kW (by decide) h.a h.b,kW (by decide) h.c h.d]
 cases m with
 | none=>
  have hd:cB (dg l++45::mw none)=true:=by
   unfold cB;rw[decide_eq_true_eq];exact nB (dg l) 45
  have e:i4 (dg l++45::mw none)= [.int l,.int 0]:=by
   unfold i4;rw[if_pos hd]
   have:(dg l++45::mw none)++ [48] =dg l++45::dg 0:=by
    rw[show dg 0= [48]from by decide+kernel,IC];rfl
   rw[this];exact kW (by decide) h.l (by omega)
  rw[e];unfold gH;rw[if_pos hd]
  rfl
 | some k=>
  have hk:=h.m k rfl
  have hd:cB (dg l++45::mw (some k))=false:=by
   unfold cB;rw[decide_eq_false_iff_not];obtain⟨q,z,e,hz⟩:=AG hk.1
   have e2:dg l++45::mw (some k)=(dg l++45::q)++ [z]:=by
    show dg l++45::dg k=_
    rw[e];simp
   rw[e2,nB];intro y;injection y with y _
   omega
  have e:i4 (dg l++45::mw (some k))= [.int l,.int k]:=by
   unfold i4;rw[if_neg (by rw[hd];decide)]
   exact kW (by decide) h.l hk
  rw[e];unfold gH;rw[if_neg (by rw[hd];decide)]
  rfl
theorem Ba:∀(ks:List CK) (rest:List (List Nat)) (cs:List T),(∀x∈ks,vH x)->cQ ((ks.map λx=>Lc++jk x)++rest) (cs,[])=cQ rest (cs++ks.map dQ,[])
 | [],rest,cs,_=>by simp
 | x::ks,rest,cs,h=>by
  have hx:=h x HD
  have e:dJ (Lc++jk x) (cs,[])=some (cs++ [dQ x],[]):=by
   unfold dJ;rw[if_pos,show pq (parts 32 (Lc++jk x))=dQ x from D2 hx]
   unfold kr;rw[qZ hx]
   have:=hx.n0
   have:1<=x.2.2.length:=by cases q:x.2.2 with | nil=>exact absurd q this | cons=>simp
   show(true&&(decide (2<(x.2.2.map dg).length+1+1)&&true))=true
   rw[Hw,decide_eq_true (by omega)];rfl
  rw[HN,Kx,cQ,e]
  show cQ ((ks.map λx=>Lc++jk x)++rest) (cs++ [dQ x],[])=_
  rw[Ba ks rest _ λy hy=>h y (Hv _ hy),HN,IC]
  rfl
theorem A9:∀(es:List LE) (cs ls:List T),(∀x∈es,uC x)->cQ (es.map λx=>Ll++jW x) (cs,ls)=some (cs,ls++es.map eG)
 | [],cs,ls,_=>by simp[cQ]
 | x::es,cs,ls,h=>by
  have hx:=h x HD
  have e:dJ (Ll++jW x) (cs,ls)=some (cs,ls++ [eG x]):=by
   unfold dJ;rw[if_neg,if_pos,show pj (parts 32 (Ll++jW x))=eG x from C8 hx]
   ·unfold nC
    rw[lI hx]
    rfl
   ·unfold kr
    rw[lI hx]
    show ¬(decide (eY=gq)&&_)=true
    rw[decide_eq_false (by decide),LC]
    decide
  rw[HN,cQ,e]
  show cQ (es.map λx=>Ll++jW x) (cs,ls++ [eG x])=_
  rw[A9 es _ _ λy hy=>h y (Hv _ hy),HN,IC]
  rfl
theorem yv {s:List Nat}{t:T}(h:Wr s t):ky s=t:=by
 obtain⟨ks,es,hk,he,h4,h8,rfl,hr,hp,rfl⟩:=h
 have hf:=fy hk he
 have e:parts 10 (kB ks es)=lines ks es++ [[]]:=by
  unfold kB;rw[gY];refine jy (by simp) λp hp=> ?_
  rcases HA.mp hp with hp | hp
  ·exact(hf p hp).1
  ·rw[HJ.mp hp];simp
 unfold ky;rw[e,LQ,LR]
 have e2:cQ (lines ks es) ([],[])=some (ks.map dQ,es.map eG):=by
  unfold lines;rw[Ba ks _ [] hk,Jx,A9 es _ [] he,Jx]
 rw[e2]
 show(if ((some ([]:List Nat) == some [])&&gf (RR (ks.map dQ) (es.map eG)))=true then RR (ks.map dQ) (es.map eG)else .non)=_
 rw[hr]
 rfl
def numOr (u:T):Prop:=u= .non\/∃i:Int,u= .int i
theorem numOr.pl {u:T}(h:numOr u):u.pl=true:=by rcases h with rfl | ⟨i,rfl⟩ <;> rfl
theorem oK (x:Str):numOr (eW x):=by
 unfold eW;split
 ·exact .inr ⟨_,rfl⟩
 ·exact .inl rfl
theorem Sh.sub {w p:List Nat}(h:Sh w)(hp:p.Sublist w):Sh p:=⟨H0 hp.length_le h.1,λx hx=>h.2 x (hp.subset hx)⟩
theorem yp {w:List Nat}(h:Sh w):bz [.str (tx w)] = .ok (eW (tx w)):=by
 refine ui ?_
 show(if (tx w).length<=640/\(tx w).cps.all (· <1114112)=true then Rs.ok (eW (tx w))else .bad)=_
 rw[if_pos ⟨by rw[bJ];have:=h.1;omega,by
  rw[JE];intro c hc
  have hm:c∈w:=by simpa [tx]using hc
  have:=h.2 c hm
  simp;omega⟩]
theorem lV (c:Nat){w:List Nat}(h:Sh w):∃(a b:List Nat) (m:Str),fH [.str (tx w),.str (tx [c])] = .ok (.tup [.str (tx a),.str m,.str (tx b)])/\Sh a/\Sh b:=by
 have hw:=h.1
 have hi:=bt c w
 have hf:=ft c w
 cases hp:parts c w with
 | nil=>exact absurd hp (dy c w)
 | cons p r=>
  rw[hp]at hi hf
  have h1:=hf p HD
  cases r with
  | nil=>
   have hi:p=w:=hi;subst hi;refine⟨p,[],On,?_,h,⟨by simp,by simp⟩⟩
   show(if (tx [c]).length≠0/\(tx p).length<=1000000 then Rs.ok (T.tup [.str (IL (tx p) (tx [c])).1,.str (IL (tx p) (tx [c])).2.1,.str (IL (tx p) (tx [c])).2.2])else .bad)=_
   rw[if_pos ⟨by rw[bJ];simp,by rw[bJ];omega⟩,zQ c p h1]
   rfl
  | cons q r=>
   have hi:p++c::aA c (q::r)=w:=hi;subst hi;refine⟨p,aA c (q::r),tx [c],lh h1 (by omega),h.sub (MR _ _),h.sub ((Nl _ _).trans (Mx _ _))⟩
theorem oQ (c:Nat){w:List Nat}(h:Sh w):∃u v,aV [.str (tx w),.str (tx [c])] = .ok (.tup [u,v])/\numOr u/\numOr v:=by
 obtain⟨a,b,m,e,ha,hb⟩:=lV c h;refine⟨_,_,?_,oK (tx a),oK (tx b)⟩
 refine cO rfl ?_
 show cf [.va (.str (tx w)),.va (.str (tx [c])),.em] =_
 unfold cf;rw[aE (ρ':=[.va (.str (tx w)),.va (.str (tx [c])),.va (.tup [.str (tx a),.str m,.str (tx b)])]) (bj (fG (s:=tx w) rfl (aj (t:=.str (tx [c])) rfl ax) e) rfl)];exact c6 (cH (aj (a7 (aj (t:=.str (tx a)) rfl ax) (yp ha)) (aj (a7 (aj (t:=.str (tx b)) rfl ax) (yp hb)) ax)) (fh (by simp)))
theorem AU {w:List Nat}(h:Sh w):∃t,cj [.str (tx w)] = .ok t/\t.pl=true:=by
 obtain⟨a,b,m,e,ha,hb⟩:=lV 32 h;obtain⟨u,v,e2,hu,hv⟩:=oQ 45 ha
 have hl:=dM 32 b
 have hb1:=hb.1;refine⟨.tup ([u,v] ++ [.tup ((parts 32 b).map λp=>eW (tx p))]),?_,?_⟩
 ·refine cO rfl ?_
  show fF [.va (.str (tx w)),.em,.em] =_
  unfold fF;rw[aE (ρ':=[.va (.str (tx w)),.va (.tup [.str (tx a),.str m,.str (tx b)]),.em]) (bj (fG (s:=tx w) rfl (aj (t:=.str (tx [32])) rfl ax) e) rfl)]
  have e3:=lL (fe:=cl bz (ae (vr 0) ag)) (h:=λu=>match u with | .str s=>eW s | _=> .non) (src:=[none]) (ρ:=[.va (.str (tx w)),.va (.tup [.str (tx a),.str m,.str (tx b)]),.em]) (fi:=iS (oS bV (o2 aW (vr 1) (cn (.int 2))) (ae (cn (.str " ")) ag))) (ts:=(parts 32 b).map λp=>T.str (tx p)) (iX (fG (s:=tx b) rfl (aj (t:=.str (tx [32])) rfl ax) (iI 32 (by omega)))) (by rw[Hw];exact fh (by omega)) (by decide) (λx hx=>by
   obtain⟨p,hp,rfl⟩:=HI.mp hx;exact a7 (aj (t:=.str (tx p)) rfl ax) (yp (hb.part hp)))
  rw[Iq]at e3;rw[aE (ρ':=[.va (.str (tx w)),.va (.tup [.str (tx a),.str m,.str (tx b)]),.va (.lst ((parts 32 b).map λp=>eW (tx p)))]) (bj e3 rfl)]
  refine c6 (aN (a7 (aj (t:=.str (tx a)) rfl (aj (t:=.str (tx [45])) rfl ax)) e2) (u:=.tup [.tup ((parts 32 b).map λp=>eW (tx p))]) (cH (aj (a7 (aj (t:=.lst ((parts 32 b).map λp=>eW (tx p))) rfl ax) rfl) ax) (fh (by simp))) (d6 _ _ (by simp)))
 ·rw[gk]
  refine kF (by rw[plS,plS,hu.pl,hv.pl];rfl) ?_
  rw[plS,gk,jQ (λx hx=>by obtain⟨p,_,rfl⟩:=HI.mp hx;exact(oK _).pl)]
  rfl
theorem z7 {w:List Nat}(h:Sh w):∃t,bL [.str (tx w)] = .ok t/\t.pl=true:=by
 obtain⟨a,b,m,e,ha,hb⟩:=lV 32 h;obtain⟨a',b',m',e',ha',hb'⟩:=lV 32 hb;obtain⟨u1,v1,n1,hu1,hv1⟩:=oQ 46 ha;obtain⟨u2,v2,n2,hu2,hv2⟩:=oQ 46 ha';obtain⟨u3,v3,n3,hu3,hv3⟩:=oQ 45 hb';refine⟨.tup ([.tup [u1,v1],.tup [u2,v2]] ++ [u3,v3]),?_,?_⟩
 ·refine cO rfl ?_
  show eF [.va (.str (tx w)),.em,.em] =_
  unfold eF;rw[aE (ρ':=[.va (.str (tx w)),.va (.tup [.str (tx a),.str m,.str (tx b)]),.em]) (bj (fG (s:=tx w) rfl (aj (t:=.str (tx [32])) rfl ax) e) rfl)];rw[aE (ρ':=[.va (.str (tx w)),.va (.tup [.str (tx a),.str m,.str (tx b)]),.va (.tup [.str (tx a'),.str m',.str (tx b')])]) (bj (fG (s:=tx b) rfl (aj (t:=.str (tx [32])) rfl ax) e') rfl)];exact c6 (aN (cH (aj (a7 (aj (t:=.str (tx a)) rfl (aj (t:=.str (tx [46])) rfl ax)) n1) (aj (a7 (aj (t:=.str (tx a')) rfl (aj (t:=.str (tx [46])) rfl ax)) n2) ax)) (fh (by simp))) (a7 (aj (t:=.str (tx b')) rfl (aj (t:=.str (tx [45])) rfl ax)) n3) (d6 _ _ (by simp)))
 ·show(T.tup [.tup [u1,v1],.tup [u2,v2],u3,v3]).pl=true
  simp only[gk,plS,hu1.pl,hv1.pl,hu2.pl,hv2.pl,hu3.pl,hv3.pl,Bool.and_self]
theorem uA {q:List Nat}{ps:List (List Nat)}(hn:ps.length<=1000)(h:∀p∈ps,Sh p):∃ws:List (List Nat),b6 [.lst (ps.map λp=>T.str (tx p)),.str (tx q)] = .ok (.lst (ws.map λp=>T.str (tx p)))/\ws.length<=1000/\∀w∈ws,Sh w:=by
 have hg:∀p:List Nat,∃b:List Nat,Sh p->Sh b/\∃x y,fH [.str (tx p),.str (tx [32])] = .ok (.tup [x,y,.str (tx b)]):=λp=>by
  by_cases hs:Sh p
  ·obtain⟨a,b,m,e,_,hb⟩:=lV 32 hs
   exact⟨b,λ_=>⟨hb,_,_,e⟩⟩
  ·exact⟨[],λz=>absurd z hs⟩
 refine⟨(ps.filter λp=>JW (tx p) (tx q)).map λp=>(hg p).choose,lW (λp=>(hg p).choose) hn λp hp _=>((hg p).choose_spec (h p hp)).2,?_,λw hw=> ?_⟩
 ·rw[Hw]
  exact H0 (List.length_filter_le _ _) hn
 ·obtain⟨p,hp,rfl⟩:=HI.mp hw
  exact((hg p).choose_spec (h p (Lk.mp hp).1)).1
theorem xM {f:List T->Rs T}{fi:En->Rs (List T)}{ρ:En}{ws:List (List Nat)}(hi:fi ρ= .ok (ws.map λp=>T.str (tx p)))(hn:ws.length<=1000)(h:∀w∈ws,∃t,f [.str (tx w)] = .ok t/\t.pl=true):∃ts,eH fi [none] (gN 0) bT (cl f (ae (vr 0) ag)) ρ= .ok (.lst ts)/\plS ts=true/\ts.length<=1000:=by
 have:=lL (fe:=cl f (ae (vr 0) ag)) (h:=λu=>match f [u]with | .ok t=>t | _=> .non) (src:=[none]) hi (by rw[Hw];exact fh (by omega)) (by decide) (λu hu=>by
  obtain⟨w,hw,rfl⟩:=HI.mp hu;obtain⟨t,e,_⟩:=h w hw;refine a7 (aj (t:=.str (tx w)) rfl ax) ?_
  rw[e])
 refine⟨_,this,jQ λx hx=> ?_,by rw[Hw,Hw];exact hn⟩
 obtain⟨y,hy,rfl⟩:=HI.mp hx;obtain⟨w,hw,rfl⟩:=HI.mp hy;obtain⟨t,e,p⟩:=h w hw
 show(match f [.str (tx w)]with | .ok t=>t | _=> .non).pl=true
 rw[e];exact p
theorem wQ {s:List Nat}(hs:Sh s):cI [.str (tx s)] = .err "NoText"\/∃t,Wr s t/\cI [.str (tx s)] = .ok t:=by
 have hl:=dM 10 s
 have h1:=hs.1;obtain⟨wc,bc,nc,hc⟩:=uA (q:=Lc) (ps:=parts 10 s) (by omega) λp hp=>hs.part hp
 obtain⟨wl,bl_,nl,hl2⟩:=uA (q:=Ll) (ps:=parts 10 s) (by omega) λp hp=>hs.part hp
 generalize hL:(parts 10 s).map (λp=>T.str (tx p))=L at bc bl_
 obtain⟨cs,e1,p1,k1⟩:=xM (f:=cj) (fi:=iS (cl b6 (ae (vr 1) (ae (cn (.str "clock ")) ag)))) (ρ:=[.va (.str (tx s)),.va (.lst L),.em,.em,.em]) (iX (a7 (aj (t:=.lst L) rfl (aj (t:=.str (tx Lc)) rfl ax)) bc)) nc λw hw=>AU (hc w hw)
 obtain⟨ls,e2,p2,k2⟩:=xM (f:=bL) (fi:=iS (cl b6 (ae (vr 1) (ae (cn (.str "letter ")) ag)))) (ρ:=[.va (.str (tx s)),.va (.lst L),.va (.lst cs),.em,.em]) (iX (a7 (aj (t:=.lst L) rfl (aj (t:=.str (tx Ll)) rfl ax)) bl_)) nl λw hw=>z7 (hl2 w hw)
 have hp:(RR cs ls).pl=true:=by
  show(T.tup [.tup cs,.tup ls]).pl=true
  rw[gk,plS,plS,gk,gk,p1,p2];rfl
 have step:de [.va (.str (tx s)),.em,.em,.em,.em] =aD (gI (mj (di (tb (cl aQ (ae (vr 4) ag)))) (tb (o2 Tr.neT (cl bu (ae (vr 4) ag)) (vr 0)))) (uS "NoText") sN) (aP (vr 4)) [.va (.str (tx s)),.va (.lst L),.va (.lst cs),.va (.lst ls),.va (RR cs ls)]:=by
  unfold de;rw[aE ((iW (lK (k:=true) (eC (Dm (t:=.str (tx s)) rfl rfl)))).trans rfl)];rw[aE (ρ':=[.va (.str (tx s)),.va (.lst L),.em,.em,.em]) (bj (fG (s:=tx s) rfl (aj (t:=.str (tx [10])) rfl ax) ((iI 10 (by omega)).trans (by rw[hL]))) rfl)]
  rw[aE (ρ':=[.va (.str (tx s)),.va (.lst L),.va (.lst cs),.em,.em]) (bj e1 rfl)];rw[aE (ρ':=[.va (.str (tx s)),.va (.lst L),.va (.lst cs),.va (.lst ls),.em]) (bj e2 rfl)];rw[aE (ρ':=[.va (.str (tx s)),.va (.lst L),.va (.lst cs),.va (.lst ls),.va (RR cs ls)]) (bj (cH (aj (a7 (x:=.ok (.tup cs)) (aj (t:=.lst cs) rfl ax) rfl) (aj (a7 (x:=.ok (.tup ls)) (aj (t:=.lst ls) rfl ax) rfl) ax)) (fh (by simp))) rfl)]
 have er:=jG (RR cs ls) hp
 cases hr:gf (RR cs ls)with
 | false=>
  rw[hr]at er
  exact .inl (xQ rfl (step.trans (xR ((nk (Bi (lK (k:=false) (eC (a7 (aj (t:=RR cs ls) rfl ax) er))))).trans rfl))))
 | true=>
  rw[hr]at er;obtain⟨ks,es,rfl,rfl,hk,he,h4,h8⟩:=la hr
  have et:=ph hk he h4 h8 er
  by_cases q:s=kB ks es
  ·refine .inr ⟨RR (ks.map dQ) (es.map eG),⟨ks,es,hk,he,h4,h8,rfl,hr,hp,q⟩,?_⟩
   rw[q];exact yn hk he h4 h8 er
  ·refine .inl (xQ rfl (step.trans (xR ((nk (xT (lK (k:=true) (eC (a7 (aj (t:=RR (ks.map dQ) (es.map eG)) rfl ax) er))) (eC (aN (a7 (aj (t:=RR (ks.map dQ) (es.map eG)) rfl ax) et) (u:=.str (tx s)) rfl ((xy _ _).trans ?_))))).trans rfl))))
   rw[decide_eq_false (λz=>q z.symm)]
   rfl
theorem wq {s:List Nat}(hs:Sh s)(h6:s.length<=600):ei [.str (tx s)] = .ok (ky s):=by
 rcases wQ hs with h | ⟨t,hw,h⟩
 ·have hd:ky s= .non:=by
   rcases yw s with hd | hd
   ·exact hd
   ·obtain⟨ks,es,hk,he,h4,h8,et,hr,hp,hq⟩:=hd
    rw[et]at hr hp
    have er:=jG _ hp;rw[hr]at er;rw[hq,yn hk he h4 h8 er]at h;cases h
  rw[hd];exact cO rfl (lJ (Dk (c:="NoText") (Dl (a7 (aj (t:=.str (tx s)) rfl ax) h)) rfl))
 ·rw[yv hw]
  exact cO rfl (lJ (FP (c6 (a7 (aj (t:=.str (tx s)) rfl ax) h))))
def wt (qs:List (List Nat)):Nat:=(qs.map (·.length)).sum+qs.length
theorem fO (a b:List (List Nat)):wt (a++b)=wt a+wt b:=by unfold wt;rw[J3,List.sum_append,Ht];omega
theorem kN (p:List Nat):wt [p] =p.length+1:=by simp[wt]
theorem gi (p:List Nat)(qs:List (List Nat)):wt (p::qs)=p.length+1+wt qs:=by rw[show p::qs= [p] ++qs from rfl,fO,kN]
theorem vQ:∀qs:List (List Nat),wt qs.reverse=wt qs
 | [] =>rfl
 | p::qs=>by rw[Km,fO,vQ qs,kN,gi];omega
theorem rA:∀{a b:List (List Nat)},a.Sublist b->wt a<=wt b
 | _,_,.slnil=>HE _
 | _,_,.cons p h=>by rw[gi];have:=rA h;omega
 | _,_,.cons₂ p h=>by rw[gi,gi];have:=rA h;omega
theorem sP {n:Nat}:∀{qs:List (List Nat)},(∀p∈qs,p.length<=n)->wt qs<=qs.length*(n+1)
 | [],_=>Je _
 | p::qs,h=>by
  have h1:=sP λq hq=>h q (Hv _ hq)
  have h2:=h p HD;rw[gi,HC,Pz];omega
theorem jD (c:Nat)(qs:List (List Nat)):(aA c qs).length<=wt qs:=iD c qs
def Lo (qs:List (List Nat)):Prop:=∀p∈qs,∀c∈p,c<128
theorem gZ {c:Nat}(hc:c<128){qs:List (List Nat)}(h:Lo qs):∀x∈aA c qs,x<128:=λx hx=>by
 rcases jZ hx with rfl | ⟨p,hp,hx⟩
 ·exact hc
 ·exact h p hp x hx
theorem Bx {i:Int}(h:0<=i/\i<1000):(dg i).length<=3:=by
 have:=tZ h;unfold o9 at this;rw[Hu,Hu,Hu,decide_eq_true_eq,decide_eq_true_eq]at this;exact this.1.1.2
theorem ko {i:Int}(h:0<=i):∀c∈dg i,c<128:=λc hc=>by have:=kJ h c hc;omega
theorem AW {x:CK}(h:vH x):(Lc++jk x).length<=30/\∀c∈Lc++jk x,c<128:=by
 obtain⟨s,f,rs⟩:=x
 have h1:=Bx ⟨h.s0,h.s1⟩
 have h2:=Bx ⟨h.f0,h.f1⟩
 have h5:rs.length<=4:=h.n1
 have hr:∀r∈rs,0<=r/\r<1000:=h.r
 have h3:=jD 32 (rs.map dg)
 have h4:=sP (n:=3) (qs:=rs.map dg) λp hp=>by obtain⟨r,hr',rfl⟩:=HI.mp hp;exact Bx (hr r hr')
 rw[Hw]at h4;refine⟨?_,λc hc=> ?_⟩
 ·show(Lc++((dg s++45::dg f)++32::aA 32 (rs.map dg))).length<=30
  simp only[Ht,HC]
  show 6+_<=30
  have h1:(dg s).length<=3:=h1
  have h2:(dg f).length<=3:=h2;omega
 ·rcases HA.mp hc with hc | hc
  ·exact(show ∀c∈Lc,c<128 by decide) c hc
  ·have hc:c∈(dg s++45::dg f)++32::aA 32 (rs.map dg):=hc
   rcases HA.mp hc with hc | hc
   ·rcases HA.mp hc with hc | hc
    ·exact ko h.s0 c hc
    ·rcases HB.mp hc with rfl | hc
     ·decide
     ·exact ko h.f0 c hc
   ·rcases HB.mp hc with rfl | hc
    ·decide
    ·exact gZ (by decide) (λp hp=>by obtain⟨r,hr',rfl⟩:=HI.mp hp;exact ko (hr r hr').1) c hc
theorem ug {c k:Int}(hc:0<=c/\c<1000)(hk:0<=k/\k<1000):(dF c k).length<=7/\∀x∈dF c k,x<128:=by
 have h1:=Bx hc
 have h2:=Bx hk;unfold dF;refine⟨by simp only[Ht,HC];omega,λx hx=> ?_⟩
 rcases HA.mp hx with hx | hx
 ·exact ko hc.1 x hx
 ·rcases HB.mp hx with rfl | hx
  ·decide
  ·exact ko hk.1 x hx
theorem xH {x:LE}(h:uC x):(Ll++jW x).length<=30/\∀c∈Ll++jW x,c<128:=by
 obtain⟨⟨a,b⟩,⟨c,d⟩,l,m⟩:=x;obtain⟨h1,g1⟩:=ug h.a h.b;obtain⟨h2,g2⟩:=ug h.c h.d
 have h3:=Bx h.l
 have h4:(mw m).length<=3/\∀c∈mw m,c<128:=by
  cases m with
  | none=>exact⟨Je _,λc hc=>by cases hc⟩
  | some k=>exact⟨Bx (h.m k rfl),ko (h.m k rfl).1⟩
 refine⟨?_,λy hy=> ?_⟩
 ·show(Ll++(dF a b++32::(dF c d++32::(dg l++45::mw m)))).length<=30
  simp only[Ht,HC]
  show 7+_<=30
  have h1:(dF a b).length<=7:=h1
  have h2:(dF c d).length<=7:=h2
  have h3:(dg l).length<=3:=h3
  have:=h4.1;omega
 ·rcases HA.mp hy with hy | hy
  ·exact(show ∀c∈Ll,c<128 by decide) y hy
  ·have hy:y∈dF a b++32::(dF c d++32::(dg l++45::mw m)):=hy
   rcases HA.mp hy with hy | hy
   ·exact g1 y hy
   ·rcases HB.mp hy with rfl | hy
    ·decide
    ·rcases HA.mp hy with hy | hy
     ·exact g2 y hy
     ·rcases HB.mp hy with rfl | hy
      ·decide
      ·rcases HA.mp hy with hy | hy
       ·exact ko h.l.1 y hy
       ·rcases HB.mp hy with rfl | hy
        ·decide
        ·exact h4.2 y hy
theorem vd {ks:List CK}{es:List LE}(hk:∀x∈ks,vH x)(he:∀x∈es,uC x)(h4:ks.length<=4)(h8:es.length<=8):(∀p∈lines ks es++ [[]],p.length<=30)/\Lo (lines ks es++ [[]])/\(lines ks es++ [[]]).length<=13/\(∀p∈lines ks es++ [[]],10∉p):=by
 have key:∀p∈lines ks es++ [[]],p.length<=30/\∀c∈p,c<128:=λp hp=>by
  rcases HA.mp hp with hp | hp
  ·rcases HA.mp hp with hp | hp
   ·obtain⟨x,hx,rfl⟩:=HI.mp hp
    exact AW (hk x hx)
   ·obtain⟨x,hx,rfl⟩:=HI.mp hp
    exact xH (he x hx)
  ·rw[HJ.mp hp];exact⟨Je _,λc hc=>by cases hc⟩
 refine⟨λp hp=>(key p hp).1,λp hp=>(key p hp).2,?_,λp hp=> ?_⟩
 ·unfold lines
  simp only[Ht,Hw,HC,IK];omega
 ·rcases HA.mp hp with hp | hp
  ·exact(fy hk he p hp).1
  ·rw[HJ.mp hp];simp
abbrev rpF:En->Rs Fl:=(aD (bN (o2 aW (vr 6) (vr 9)) (gN 10)) (aD (bN (dz (ae (o2 aw (fZ (vr 10) pN (pS (o1 c9 (cn (.int 1))))) (Tr.cl gG (ae (Tr.cl ao (ae (vr 0) (ae (o2 aw (cn (.int 130)) (vr 9)) (ae (cn (.int 10)) ag)))) ag))) (ae (o2 aw (vr 10) (cn (.str " 7"))) ag))) (gN 11)) (aD (bN (o2 aw (vr 11) (dz (ae (oS cP (cn (.str " ")) (ae (sl (oS bV (vr 10) (ae (cn (.str " ")) ag)) pN (pS (o1 c9 (cn (.int 1))))) ag)) (ae (o2 aw (vr 10) (cn (.str "0"))) ag)))) (gN 11)) (aD (bN (o2 aW (vr 11) (Tr.cl ao (ae (vr 0) (ae (o2 aw (cn (.int 150)) (vr 9)) (ae (cn (.int 4)) ag))))) (gN 12)) (oa 5 (oS cP (cn (.str "\n")) (ae (o2 aw (o2 aw (sl (vr 6) pN (pS (vr 9))) (dz (ae (vr 12) ag))) (sl (vr 6) (pS (o2 aw (vr 9) (cn (.int 1)))) pN)) ag)))))))
abbrev tdF:En->Rs Fl:=(gI (tb (o2 Tr.neT (Tr.cl ei (ae (vr 13) ag)) (Tr.cl dN (ae (vr 13) ag)))) (aP (cn (.bl false))) sN)
def bh (us:List (List Nat)):List T:=us.map λp=>T.str (tx p)
theorem ir (a b:List (List Nat)):bh (a++b)=bh a++bh b:=J3
theorem cy (a:List (List Nat)):(bh a).length=a.length:=Hw ..
def Ok6 (u:List Nat):Prop:=u.length<=600/\∀c∈u,c<128
theorem Ok6.sh {u:List Nat}(h:Ok6 u):Sh u:=⟨by have:=h.1;omega,h.2⟩
theorem lO (c:Nat):∀ps:List (List Nat),ps≠ []->(aA c ps).length+1=wt ps
 | [],h=>absurd rfl h
 | [p],_=>by rw[kN];rfl
 | p::q::r,_=>by
  have:=lO c (q::r) (by simp)
  rw[gi,<-this]
  show(p++c::aA c (q::r)).length+1=_
  rw[Ht,HC];omega
theorem qO {n len:Nat}(h:len<=n):HF none (some (n:Int)) 1 len=HF (some ((0:Nat):Int)) (some (len:Int)) 1 len:=by
 simp[HF]
 congr 1 <;> first | omega | (simp;omega) | (split <;> omega)
theorem sk (l:List Nat)(n:Nat):g8 (tx l) none (some (n:Int))=tx (l.take n):=by
 by_cases h:n<=l.length
 ·exact vp h
 ·rw[j4 (Je _) (HE _) (qO (by omega)),Ju (by simp),Ju (by omega:l.length<=n)]
  rfl
theorem qW (l:List Nat):g8 (tx l) none (some (-1))=tx (l.take (l.length - 1)):=by
 cases l with
 | nil=>rfl
 | cons a l=>exact AN (by simp)
theorem Ab {f g:En->Rs T}{ρ:En}{l:List Nat}{n:Nat}(h:f ρ= .ok (.str (tx l)))(hg:g ρ= .ok (.int (n:Nat)))(hl:l.length<=1000):fZ f pN (pS g) ρ= .ok (.str (tx (l.take n))):=
 qM (lo:=none) (hi:=some (n:Int)) h rfl (xS hg) (sk l n) (by rw[HV];omega)
theorem Ad {f g:En->Rs T}{ρ:En}{l:List Nat}{n:Nat}(h:f ρ= .ok (.str (tx l)))(hg:g ρ= .ok (.int (n:Nat)))(hl:l.length<=1000):fZ f (pS g) pN ρ= .ok (.str (tx (l.drop n))):=
 qM (lo:=some (n:Int)) (hi:=none) h (xS hg) rfl (sr l n) (by rw[Ih];omega)
theorem tS {f g:En->Rs T}{ρ:En}{l:List (List Nat)}{n:Nat}(h:f ρ= .ok (.lst (bh l)))(hg:g ρ= .ok (.int (n:Nat))):sl f pN (pS g) ρ= .ok (.lst (bh (l.take n))):=
 (ni (lo:=none) (hi:=some (n:Int)) h rfl (xS hg)).trans (by rw[yz];unfold bh;rw[List.map_take])
theorem tT {f g:En->Rs T}{ρ:En}{l:List (List Nat)}{n:Nat}(h:f ρ= .ok (.lst (bh l)))(hg:g ρ= .ok (.int (n:Nat))):sl f (pS g) pN ρ= .ok (.lst (bh (l.drop n))):=
 (ni (lo:=some (n:Int)) (hi:=none) h (xS hg) rfl).trans (by rw[qU];unfold bh;rw[OJ])
theorem jf {f g:En->Rs T}{ρ:En}{a b:List (List Nat)}(h:f ρ= .ok (.lst (bh a)))(hg:g ρ= .ok (.lst (bh b)))(hl:a.length+b.length<=900):o2 aw f g ρ= .ok (.lst (bh (a++b))):=
 aN h hg ((pK _ _ (by rw[Ht,cy,cy];omega)).trans (by rw[ir]))
theorem lM {f:En->Rs T}{ρ:En}{c:Nat}{s:Str}{l:List (List Nat)}(hs:s=tx [c])(h:f ρ= .ok (.lst (bh l)))(hl:wt l<=5000):oS cP (cn (.str s)) (ae f ag) ρ= .ok (.str (tx (aA c l))):=
 fG (s:=s) rfl (aj h ax) (by rw[hs];exact Bo (by have:(l.map (·.length)).sum+l.length<=5000:=hl;omega))
theorem eU (L:List (List Nat))(k:Nat):wt (L.take k)+wt (L.drop k)=wt L:=by rw[<-fO,LH]
theorem ur (L:List (List Nat)){j k:Nat}(h:j<=k):wt (L.drop k)<=wt (L.drop j):=rA (by
 have:L.drop k=(L.drop j).drop (k - j):=by rw[List.drop_drop];congr 1;omega
 rw[this];exact Pk _ _)
theorem Lo.of {a b:List (List Nat)}(h:Lo b)(hs:∀p∈a,p∈b):Lo a:=λp hp=>h p (hs p hp)
theorem DU (x:CK):(dQ x).dep<=2:=by simp[dQ,yU,T.dep,deps,dP]
theorem DR (x:LE):(eG x).dep<=2:=by
 obtain⟨⟨a,b⟩,⟨c,d⟩,l,m⟩:=x;cases m <;> simp[eG,Bg,mV,T.dep,deps]
theorem AH (ks:List CK)(es:List LE):(RR (ks.map dQ) (es.map eG)).dep<=60:=by
 have h1:=pv (n:=2) (l:=ks.map dQ) λt ht=>by obtain⟨x,_,rfl⟩:=HI.mp ht;exact DU x
 have h2:=pv (n:=2) (l:=es.map eG) λt ht=>by obtain⟨x,_,rfl⟩:=HI.mp ht;exact DR x
 simp only[RR,T.dep,deps];omega
section
variable {ns:List Int}{R:T}{W:List Nat}{L us:List (List Nat)}{s3 s4 s7 s8 s9 s13:Sl}
theorem zg (hn:ns.length<=63)(h30:∀p∈L,p.length<=30)(hlo:Lo L)(h13:L.length<=13){k:Nat}(hk:k<L.length)(hus:us.length<=900)(s10 s11 s12:Sl):∃(u:List Nat) (t10 t11 t12:Sl),Ok6 u/\rpF [.va (.scr ns),.va R,.va (.str (tx W)),s3,s4,.ow (.lst (bh us)),.va (.lst (bh L)),s7,s8,.va (.int (k:Nat)),s10,s11,s12,s13] = .ok (.nx [.va (.scr ns),.va R,.va (.str (tx W)),s3,s4,.ow (.lst (bh (us++ [u]))),.va (.lst (bh L)),s7,s8,.va (.int (k:Nat)),t10,t11,t12,s13]):=by
 obtain⟨w,hw⟩:∃w,L[k]? =some w:=⟨L[k],HG hk⟩
 have wm:w∈L:=Jm hw
 have w30:=h30 w wm
 have wlo:=hlo w wm;obtain⟨d,ed,d0,d1⟩:=b9 ns (130+k) 10 hn (by omega)
 obtain⟨e,ee,e0,e1⟩:=b9 ns (150+k) 4 hn (by omega)
 obtain⟨e,rfl⟩:=HY e0
 have hd3:=Bx (i:=d) (by omega)
 obtain⟨a,x,hax⟩:∃a x,parts 32 w=a++ [x]:=by
  rcases KM (parts 32 w)with h | ⟨a,x,h⟩
  ·exact absurd h (dy 32 w)
  ·exact⟨a,x,by rw[h,KN]⟩
 have hwp:wt (parts 32 w)=w.length+1:=by rw[<-lO 32 _ (dy 32 w),bt]
 have hwa:wt a<=w.length:=by rw[hax,fO,kN]at hwp;omega
 have hia:=jD 32 a
 generalize ho1:w.take (w.length - 1)++dg d=o1_
 generalize ho2:w++ [32,55] =o2_
 generalize ho3:aA 32 a=o3_
 generalize ho4:w++ [48] =o4_
 have q1:o1_.length<=33/\∀c∈o1_,c<128:=by
  subst ho1;refine⟨by rw[Ht,HV];omega,λc hc=> ?_⟩
  rcases HA.mp hc with hc | hc
  ·exact wlo c (Jn hc)
  ·exact ko d0 c hc
 have q2:o2_.length<=33/\∀c∈o2_,c<128:=by
  subst ho2;refine⟨by rw[Ht];show _+2<=_;omega,λc hc=> ?_⟩
  rcases HA.mp hc with hc | hc
  ·exact wlo c hc
  ·simp at hc;omega
 have q3:o3_.length<=33/\∀c∈o3_,c<128:=by
  subst ho3;refine⟨by omega,gZ (by decide) λp hp c hc=>wlo c ((f9 (c:=32) (p:=p) (by rw[hax];exact IG _ hp)).subset hc)⟩
 have q4:o4_.length<=33/\∀c∈o4_,c<128:=by
  subst ho4;refine⟨by rw[Ht];show _+1<=_;omega,λc hc=> ?_⟩
  rcases HA.mp hc with hc | hc
  ·exact wlo c hc
  ·simp at hc;omega
 obtain⟨o,eo,oq⟩:∃o,[o1_,o2_,o3_,o4_][e]? =some o/\(o.length<=33/\∀c∈o,c<128):=by
  have:e=0\/e=1\/e=2\/e=3:=by omega
  rcases this with rfl | rfl | rfl | rfl
  ·exact⟨_,rfl,q1⟩
  ·exact⟨_,rfl,q2⟩
  ·exact⟨_,rfl,q3⟩
  ·exact⟨_,rfl,q4⟩
 have hwt:=sP (n:=30) h30
 have hL:wt L<=403:=by have:L.length*(30+1)<=13*31:=N0 31 h13;omega
 have htd:=eU L k
 have hdd:=ur L (show k<=k+1 by omega)
 have hw9:wt ((L.take k++ [o])++L.drop (k+1))<=440:=by rw[fO,fO,kN];omega
 have hj:=jD 10 ((L.take k++ [o])++L.drop (k+1));refine⟨aA 10 ((L.take k++ [o])++L.drop (k+1)),.va (.str (tx w)),.va (.lst (bh [o1_,o2_,o3_,o4_])),.va (.str (tx o)),⟨by omega,gZ (by decide) λp hp=> ?_⟩,?_⟩
 ·rcases HA.mp hp with hp | hp
  ·rcases HA.mp hp with hp | hp
   ·exact hlo p (Jn hp)
   ·rw[HJ.mp hp];exact oq.2
  ·exact hlo p (IY hp)
 unfold rpF;rw[aE (ρ':=[.va (.scr ns),.va R,.va (.str (tx W)),s3,s4,.ow (.lst (bh us)),.va (.lst (bh L)),s7,s8,.va (.int (k:Nat)),.va (.str (tx w)),s11,s12,s13]) (bj (xU (n:=k) (l:=bh L) rfl rfl (by unfold bh;rw[Ib,hw];rfl)) rfl)]
 have a1:(dz (ae (o2 aw (fZ (vr 10) pN (pS (o1 c9 (cn (.int 1))))) (Tr.cl gG (ae (Tr.cl ao (ae (vr 0) (ae (o2 aw (cn (.int 130)) (vr 9)) (ae (cn (.int 10)) ag)))) ag))) (ae (o2 aw (vr 10) (cn (.str " 7"))) ag))) [.va (.scr ns),.va R,.va (.str (tx W)),s3,s4,.ow (.lst (bh us)),.va (.lst (bh L)),s7,s8,.va (.int (k:Nat)),.va (.str (tx w)),s11,s12,s13] = .ok (.lst (bh [o1_,o2_])):=by
  refine jC (aj (t:=.str (tx o1_)) ?_ (aj (t:=.str (tx o2_)) ?_ ax)) (fh (by first | simp | (rw[cy];simp)))
  ·refine(bB (qM (s:=tx w) (lo:=none) (hi:=some (-1)) rfl rfl rfl (qW w) (by rw[HV];omega)) (gU (i:=d) (bS (k:=130+k) ed rfl (aN (t:=.int 130) (u:=.int (k:Nat)) rfl rfl rfl) rfl) (by omega)) (by rw[HV];omega)).trans (by rw[ho1])
  ·exact(bB (a:=w) (b:=[32,55]) rfl rfl (by show _+2<=_;omega)).trans (by rw[ho2])
 rw[aE (ρ':=[.va (.scr ns),.va R,.va (.str (tx W)),s3,s4,.ow (.lst (bh us)),.va (.lst (bh L)),s7,s8,.va (.int (k:Nat)),.va (.str (tx w)),.va (.lst (bh [o1_,o2_])),s12,s13]) (bj a1 rfl)]
 have sp:sl (oS bV (vr 10) (ae (cn (.str " ")) ag)) pN (pS (o1 c9 (cn (.int 1)))) [.va (.scr ns),.va R,.va (.str (tx W)),s3,s4,.ow (.lst (bh us)),.va (.lst (bh L)),s7,s8,.va (.int (k:Nat)),.va (.str (tx w)),.va (.lst (bh [o1_,o2_])),s12,s13] = .ok (.lst (bh a)):=by
  refine(ni (l:=bh (parts 32 w)) (lo:=none) (hi:=some (-1)) (fG (s:=tx w) rfl (aj (t:=.str (tx [32])) rfl ax) (iI 32 (by omega))) rfl rfl).trans ?_
  rw[hax,ir];exact congrArg (λq=>Rs.ok (T.lst q)) (yA _ _)
 have a2:(o2 aw (vr 11) (dz (ae (oS cP (cn (.str " ")) (ae (sl (oS bV (vr 10) (ae (cn (.str " ")) ag)) pN (pS (o1 c9 (cn (.int 1))))) ag)) (ae (o2 aw (vr 10) (cn (.str "0"))) ag)))) [.va (.scr ns),.va R,.va (.str (tx W)),s3,s4,.ow (.lst (bh us)),.va (.lst (bh L)),s7,s8,.va (.int (k:Nat)),.va (.str (tx w)),.va (.lst (bh [o1_,o2_])),s12,s13] = .ok (.lst (bh [o1_,o2_,o3_,o4_])):=by
  refine jf (a:=[o1_,o2_]) (b:=[o3_,o4_]) rfl (jC (aj (t:=.str (tx o3_)) ?_ (aj (t:=.str (tx o4_)) ?_ ax)) (fh (by first | simp | (rw[cy];simp)))) (by simp)
  ·exact(lM (c:=32) rfl sp (by omega)).trans (by rw[ho3])
  ·exact(bB (a:=w) (b:=[48]) rfl rfl (by show _+1<=_;omega)).trans (by rw[ho4])
 rw[aE (ρ':=[.va (.scr ns),.va R,.va (.str (tx W)),s3,s4,.ow (.lst (bh us)),.va (.lst (bh L)),s7,s8,.va (.int (k:Nat)),.va (.str (tx w)),.va (.lst (bh [o1_,o2_,o3_,o4_])),s12,s13]) (bj a2 rfl)];rw[aE (ρ':=[.va (.scr ns),.va R,.va (.str (tx W)),s3,s4,.ow (.lst (bh us)),.va (.lst (bh L)),s7,s8,.va (.int (k:Nat)),.va (.str (tx w)),.va (.lst (bh [o1_,o2_,o3_,o4_])),.va (.str (tx o)),s13]) (bj (xU (n:=e) (l:=bh [o1_,o2_,o3_,o4_]) rfl (bS (k:=150+k) ee rfl (aN (t:=.int 150) (u:=.int (k:Nat)) rfl rfl rfl) rfl) (by unfold bh;rw[Ib,eo];rfl)) rfl)]
 have a4:(oS cP (cn (.str "\n")) (ae (o2 aw (o2 aw (sl (vr 6) pN (pS (vr 9))) (dz (ae (vr 12) ag))) (sl (vr 6) (pS (o2 aw (vr 9) (cn (.int 1)))) pN)) ag)) [.va (.scr ns),.va R,.va (.str (tx W)),s3,s4,.ow (.lst (bh us)),.va (.lst (bh L)),s7,s8,.va (.int (k:Nat)),.va (.str (tx w)),.va (.lst (bh [o1_,o2_,o3_,o4_])),.va (.str (tx o)),s13] = .ok (.str (tx (aA 10 ((L.take k++ [o])++L.drop (k+1))))):=
  lM (c:=10) rfl (jf (jf (tS (l:=L) (n:=k) rfl rfl) (b:=[o]) (jC rfl (fh (by first | simp | (rw[cy];simp)))) (by rw[HV];simp;omega)) (tT (l:=L) (n:=k+1) rfl (aN (t:=.int (k:Nat)) (u:=.int 1) rfl rfl rfl)) (by rw[Ht,HV,Ih];simp;omega)) (by omega)
 exact(Bm (l:=bh us) a4 rfl (by rw[cy];omega)).trans (by rw[ir];rfl)
theorem tj (hn:ns.length<=63)(h30:∀p∈L,p.length<=30)(hlo:Lo L)(h13:L.length<=13):∀(js:List Nat) (us:List (List Nat)) (s9 s10 s11 s12:Sl),(∀j∈js,j<L.length)->us.length+js.length<=900->∃(vs:List (List Nat)) (t9 t10 t11 t12:Sl),(∀v∈vs,Ok6 v)/\vs.length=js.length/\bO (gN 9) rpF (js.map λ(j:Nat)=>T.int (j:Nat)) [.va (.scr ns),.va R,.va (.str (tx W)),s3,s4,.ow (.lst (bh us)),.va (.lst (bh L)),s7,s8,s9,s10,s11,s12,s13] = .ok (.nx [.va (.scr ns),.va R,.va (.str (tx W)),s3,s4,.ow (.lst (bh (us++vs))),.va (.lst (bh L)),s7,s8,t9,t10,t11,t12,s13])
 | [],us,s9,s10,s11,s12,_,_=>⟨[],s9,s10,s11,s12,λv h=>(by cases h),rfl,by rw[IA];rfl⟩
 | k::js,us,s9,s10,s11,s12,hj,hl=>by
  rw[HC]at hl;obtain⟨u,t10,t11,t12,ou,e⟩:=zg (R:=R) (W:=W) (us:=us) (s3:=s3) (s4:=s4) (s7:=s7) (s8:=s8) (s13:=s13) hn h30 hlo h13 (hj k HD) (by omega) s10 s11 s12
  obtain⟨vs,r9,r10,r11,r12,ov,nv,e2⟩:=tj hn h30 hlo h13 js (us++ [u]) (.va (.int (k:Nat))) t10 t11 t12 (λj h=>hj j (Hv _ h)) (by rw[Ht];show _+1+_<=_;omega)
  refine⟨u::vs,r9,r10,r11,r12,λv hv=> ?_,by rw[HC,HC,nv],?_⟩
  ·rcases HB.mp hv with rfl | hv
   ·exact ou
   ·exact ov v hv
  ·rw[HN,jY (ρ1:=[.va (.scr ns),.va R,.va (.str (tx W)),s3,s4,.ow (.lst (bh us)),.va (.lst (bh L)),s7,s8,.va (.int (k:Nat)),s10,s11,s12,s13]) rfl e]
   rw[IC]at e2;exact e2
theorem due_dep {s:List Nat}:(ky s).pl=true/\(ky s).dep<=60:=by
 rcases yw s with h | ⟨ks,es,_,_,_,_,e,_,hp,_⟩
 ·rw[h];exact⟨rfl,by simp[T.dep]⟩
 ·refine⟨hp,?_⟩
  rw[e];exact AH ks es
theorem sV (s10 s11 s12:Sl):∀(vs:List (List Nat)) (s13:Sl),(∀v∈vs,Ok6 v)->∃t13:Sl,bO (gN 13) tdF (bh vs) [.va (.scr ns),.va R,.va (.str (tx W)),s3,s4,.va (.lst (bh us)),.va (.lst (bh L)),s7,s8,s9,s10,s11,s12,s13] = .ok (.nx [.va (.scr ns),.va R,.va (.str (tx W)),s3,s4,.va (.lst (bh us)),.va (.lst (bh L)),s7,s8,s9,s10,s11,s12,t13])
 | [],s13,_=>⟨s13,rfl⟩
 | u::vs,s13,h=>by
  have hu:=h u HD;obtain⟨t13,e⟩:=sV s10 s11 s12 vs (.va (.str (tx u))) λv hv=>h v (Hv _ hv)
  refine⟨t13,?_⟩
  show bO (gN 13) tdF (T.str (tx u)::bh vs) _=_
  rw[jY (ρ1:=[.va (.scr ns),.va R,.va (.str (tx W)),s3,s4,.va (.lst (bh us)),.va (.lst (bh L)),s7,s8,s9,s10,s11,s12,.va (.str (tx u))]) (ρ2:=[.va (.scr ns),.va R,.va (.str (tx W)),s3,s4,.va (.lst (bh us)),.va (.lst (bh L)),s7,s8,s9,s10,s11,s12,.va (.str (tx u))]) rfl ((iW (eC (aN (a7 (aj (t:=.str (tx u)) rfl ax) (wq hu.sh hu.1)) (a7 (aj (t:=.str (tx u)) rfl ax) (Bu hu.1 hu.2)) (tL due_dep.1 due_dep.2)))).trans rfl)]
  exact e
end
theorem Bk {f:En->Rs T}{ρ:En}{i:Nat}{l m:List T}(h:f ρ= .ok (.lst m))(hi:ρ[i]? =some (.ow (.lst l)))(hl:l.length+m.length<=1000):n9 i f ρ= .ok (.nx (ρ.set i (.ow (.lst (l++m))))):=by
 unfold n9;rw[hi];simp only[h,aH];rw[if_pos (by rw[IZ];omega)]
theorem AM (l:List T){a b:Nat}(h:a<=b):jh l (some (a:Int)) (some (b:Int))=(l.drop a).take (b - a):=by
 unfold jh;rw[HT.sIx_nat,HT.sIx_nat]
 by_cases ha:a<=l.length
 ·rw[Qh ha,NC,Ih]
  omega
 ·rw[JF (by omega:l.length<=a),JF (by omega:l.length<=min a l.length)]
  simp
def Ef:List Nat:=[48,49,50,51,32,10,45,46,99,108]
def DY:List Nat:=[99,108,111,99,107,32,49,45,49,32,48,10]
def DX:List Nat:=[99,108,111,99,107,32,49,45,49,10]
def C7:List Nat:=[108,101,116,116,101,114,32,48,46,48,32,48,46,49,32,48,45,10]
theorem B0:∀c∈Ef,c<128:=by decide
theorem cw_ok:Ok6 DY/\Ok6 DX/\Ok6 C7:=⟨⟨by decide,by decide⟩,⟨by decide,by decide⟩,⟨by decide,by decide⟩⟩
theorem oE {a b:List Nat}(hl:a.length+b.length<=600)(ha:∀c∈a,c<128)(hb:∀c∈b,c<128):Ok6 (a++b):=⟨by rw[Ht];exact hl,λc hc=>by
 rcases HA.mp hc with hc | hc
 ·exact ha c hc
 ·exact hb c hc⟩
theorem r0 {qs:List (List Nat)}(h:wt qs<=600)(hl:Lo qs):Ok6 (aA 10 qs):=⟨H0 (jD 10 qs) h,gZ (by decide) hl⟩
theorem Dd {ns:List Int}{R:T}{L:List (List Nat)}{W:List Nat}(hW:W=aA 10 L)(hn:ns.length<=63)(er:d9 [.scr ns,.int 0] = .ok R)(et:bu [R] = .ok (.str (tx W)))(hd:ky W=R)(hne:L≠ [])(h30:∀p∈L,p.length<=30)(hlo:Lo L)(h13:L.length<=13)(hf:∀p∈L,10∉p):m_law [.scr ns] = .ok (.bl true):=by
 have hpos:0<L.length:=by cases L with | nil=>exact absurd rfl hne | cons=>simp
 have hwt:=sP (n:=30) h30
 have hL:wt L<=403:=by have:L.length*(30+1)<=13*31:=N0 31 h13;omega
 have w4:W.length<=402:=by have:=lO 10 L hne;rw[hW];omega
 have wlo:∀c∈W,c<128:=by rw[hW];exact gZ (by decide) hlo
 obtain⟨p,ep,p0,p1⟩:=b9 ns 120 ((W.length+1:Nat):Int) hn (by omega)
 obtain⟨d,ed,d0,d1⟩:=b9 ns 121 10 hn (by omega)
 obtain⟨q,eq,q0,q1⟩:=b9 ns 122 ((L.length:Nat):Int) hn (by omega)
 obtain⟨p,rfl⟩:=HY p0;obtain⟨d,rfl⟩:=HY d0;obtain⟨q,rfl⟩:=HY q0;obtain⟨c,ec⟩:∃c,Ef[d]? =some c:=⟨Ef[d]'(show d<10 by omega),HG _⟩
 have c8:c<128:=B0 c (Jm ec)
 have cl:∀x∈ [c],x<128:=λx hx=>by rw[HJ.mp hx];exact c8
 have tl:∀n:Nat,∀x∈W.take n,x<128:=λn x hx=>wlo x (Jn hx)
 have dl:∀n:Nat,∀x∈W.drop n,x<128:=λn x hx=>wlo x (IY hx)
 have tcl:∀x∈W.take p++ [c],x<128:=λx hx=>by
  rcases HA.mp hx with hx | hx
  ·exact tl p x hx
  ·exact cl x hx
 refine cO rfl ?_
 show yM [.va (.scr ns),.em,.em,.em,.em,.em,.em,.em,.em,.em,.em,.em,.em,.em] =_
 unfold yM;rw[aE (ρ':=[.va (.scr ns),.va R,.em,.em,.em,.em,.em,.em,.em,.em,.em,.em,.em,.em]) (bj (a7 (aj (t:=.scr ns) rfl (aj (t:=.int 0) rfl ax)) er) rfl)];rw[aE (ρ':=[.va (.scr ns),.va R,.va (.str (tx W)),.em,.em,.em,.em,.em,.em,.em,.em,.em,.em,.em]) (bj (a7 (aj (t:=R) rfl ax) et) rfl)];rw[aE (ρ':=[.va (.scr ns),.va R,.va (.str (tx W)),.va (.int (p:Nat)),.em,.em,.em,.em,.em,.em,.em,.em,.em,.em]) (bj (bS (k:=120) ep rfl rfl (aN (t:=.int (W.length:Nat)) (u:=.int 1) (a7 (aj (t:=.str (tx W)) rfl ax) (by show(if (tx W).length<=sizeLine then Rs.ok (T.int ((tx W).length:Nat))else .bad)=_;rw[bJ,if_pos (fh (by omega))])) rfl rfl)) rfl)]
 have es:o2 Bp (cn (.str "0123 \n-.cl")) (Tr.cl ao (ae (vr 0) (ae (cn (.int 121)) (ae (cn (.int 10)) ag)))) [.va (.scr ns),.va R,.va (.str (tx W)),.va (.int (p:Nat)),.em,.em,.em,.em,.em,.em,.em,.em,.em,.em] = .ok (.str (tx [c])):=by
  refine aN (t:=.str (tx Ef)) (u:=.int (d:Nat)) rfl (bS (k:=121) ed rfl rfl rfl) ?_
  show(if (tx Ef).length<=1000000 then(match L2.atI (tx Ef).cps.toList (d:Int)with | some c=>Rs.ok (T.str (BZ c)) | none=> .bad)else .bad)=_
  rw[if_pos (by rw[bJ];decide),df,gu ec]
  rfl
 rw[aE (ρ':=[.va (.scr ns),.va R,.va (.str (tx W)),.va (.int (p:Nat)),.va (.str (tx [c])),.em,.em,.em,.em,.em,.em,.em,.em,.em]) (bj es rfl)]
 have x4:(ae (vr 2) (ae (o2 aw (fZ (vr 2) pN (pS (vr 3))) (fZ (vr 2) (pS (o2 aw (vr 3) (cn (.int 1)))) pN)) (ae (o2 aw (fZ (vr 2) pN (pS (o2 aw (vr 3) (cn (.int 1))))) (fZ (vr 2) (pS (vr 3)) pN)) (ae (o2 aw (o2 aw (fZ (vr 2) pN (pS (vr 3))) (vr 4)) (fZ (vr 2) (pS (o2 aw (vr 3) (cn (.int 1)))) pN)) ag)))) [.va (.scr ns),.va R,.va (.str (tx W)),.va (.int (p:Nat)),.va (.str (tx [c])),.em,.em,.em,.em,.em,.em,.em,.em,.em] = .ok (bh [W,W.take p++W.drop (p+1),W.take (p+1)++W.drop p,(W.take p++ [c])++W.drop (p+1)]):=by
  have p1_:o2 aw (vr 3) (cn (.int 1)) [.va (.scr ns),.va R,.va (.str (tx W)),.va (.int (p:Nat)),.va (.str (tx [c])),.em,.em,.em,.em,.em,.em,.em,.em,.em] = .ok (.int ((p+1:Nat):Int)):=aN (t:=.int (p:Nat)) (u:=.int 1) rfl rfl rfl;refine aj (t:=.str (tx W)) rfl (aj (bB (Ab (l:=W) (n:=p) rfl rfl (by omega)) (Ad (l:=W) (n:=p+1) rfl p1_ (by omega)) ?_) (aj (bB (Ab (l:=W) (n:=p+1) rfl p1_ (by omega)) (Ad (l:=W) (n:=p) rfl rfl (by omega)) ?_) (aj (bB (bB (Ab (l:=W) (n:=p) rfl rfl (by omega)) (b:=[c]) rfl ?_) (Ad (l:=W) (n:=p+1) rfl p1_ (by omega)) ?_) ax)))
  all_goals (simp only[Ht,HV,Ih,HC,IK];omega)
 rw[aE (ρ':=[.va (.scr ns),.va R,.va (.str (tx W)),.va (.int (p:Nat)),.va (.str (tx [c])),.ow (.lst (bh ([W,W.take p++W.drop (p+1),W.take (p+1)++W.drop p,(W.take p++ [c])++W.drop (p+1)]))),.em,.em,.em,.em,.em,.em,.em,.em]) (Dn x4 (show 5<14 by omega) (by rw[cy];show 4<=1000;omega))]
 have x5:(dz (ae (o2 aw (o2 aw (fZ (vr 2) pN (pS (vr 3))) (vr 4)) (fZ (vr 2) (pS (vr 3)) pN)) (ae (cn (.str "")) (ae (cn (.str "clock 1-1 0\n")) (ae (cn (.str "clock 1-1\n")) (ae (cn (.str "letter 0.0 0.1 0-\n")) (ae (fZ (vr 2) pN (pS (o1 c9 (cn (.int 1))))) ag))))))) [.va (.scr ns),.va R,.va (.str (tx W)),.va (.int (p:Nat)),.va (.str (tx [c])),.ow (.lst (bh ([W,W.take p++W.drop (p+1),W.take (p+1)++W.drop p,(W.take p++ [c])++W.drop (p+1)]))),.em,.em,.em,.em,.em,.em,.em,.em] = .ok (.lst (bh [(W.take p++ [c])++W.drop p,[],DY,DX,C7,W.take (W.length - 1)])):=by
  refine jC (aj (bB (bB (Ab (l:=W) (n:=p) rfl rfl (by omega)) (b:=[c]) rfl ?_) (Ad (l:=W) (n:=p) rfl rfl (by omega)) ?_) (aj (t:=.str (tx [])) rfl (aj (t:=.str (tx DY)) rfl (aj (t:=.str (tx DX)) rfl (aj (t:=.str (tx C7)) rfl (aj (qM (s:=tx W) (lo:=none) (hi:=some (-1)) rfl rfl rfl (qW W) (by rw[HV];omega)) ax)))))) (fh (by rw[cy];show 6<=100000;omega))
  all_goals (simp only[Ht,HV,Ih,HC,IK];omega)
 have o12:∀u∈ [W,W.take p++W.drop (p+1),W.take (p+1)++W.drop p,(W.take p++ [c])++W.drop (p+1)] ++ [(W.take p++ [c])++W.drop p,[],DY,DX,C7,W.take (W.length - 1)],Ok6 u:=λu hu=>by
  rcases HA.mp hu with hu | hu
  ·simp only[HB,IH,or_false]at hu
   rcases hu with rfl | rfl | rfl | rfl
   ·exact⟨by omega,wlo⟩
   ·exact oE (by simp only[HV,Ih];omega) (tl _) (dl _)
   ·exact oE (by simp only[HV,Ih];omega) (tl _) (dl _)
   ·exact oE (by simp only[Ht,HV,Ih,HC,IK];omega) tcl (dl _)
  ·simp only[HB,IH,or_false]at hu
   rcases hu with rfl | rfl | rfl | rfl | rfl | rfl
   ·exact oE (by simp only[Ht,HV,Ih,HC,IK];omega) tcl (dl _)
   ·exact⟨by simp,by simp⟩
   ·exact cw_ok.1
   ·exact cw_ok.2.1
   ·exact cw_ok.2.2
   ·exact⟨by rw[HV];omega,tl _⟩
 have n12:([W,W.take p++W.drop (p+1),W.take (p+1)++W.drop p,(W.take p++ [c])++W.drop (p+1)] ++ [(W.take p++ [c])++W.drop p,[],DY,DX,C7,W.take (W.length - 1)]).length=10:=rfl
 have c5:n9 5 (dz (ae (o2 aw (o2 aw (fZ (vr 2) pN (pS (vr 3))) (vr 4)) (fZ (vr 2) (pS (vr 3)) pN)) (ae (cn (.str "")) (ae (cn (.str "clock 1-1 0\n")) (ae (cn (.str "clock 1-1\n")) (ae (cn (.str "letter 0.0 0.1 0-\n")) (ae (fZ (vr 2) pN (pS (o1 c9 (cn (.int 1))))) ag))))))) [.va (.scr ns),.va R,.va (.str (tx W)),.va (.int (p:Nat)),.va (.str (tx [c])),.ow (.lst (bh ([W,W.take p++W.drop (p+1),W.take (p+1)++W.drop p,(W.take p++ [c])++W.drop (p+1)]))),.em,.em,.em,.em,.em,.em,.em,.em] = .ok (.nx ([.va (.scr ns),.va R,.va (.str (tx W)),.va (.int (p:Nat)),.va (.str (tx [c])),.ow (.lst (bh ([W,W.take p++W.drop (p+1),W.take (p+1)++W.drop p,(W.take p++ [c])++W.drop (p+1)]))),.em,.em,.em,.em,.em,.em,.em,.em].set 5 (.ow (.lst (bh ([W,W.take p++W.drop (p+1),W.take (p+1)++W.drop p,(W.take p++ [c])++W.drop (p+1)] ++ [(W.take p++ [c])++W.drop p,[],DY,DX,C7,W.take (W.length - 1)])))))):=(Bk x5 rfl (by rw[cy,cy];show 4+6<=1000;omega)).trans (by rw[ir])
 generalize [W,W.take p++W.drop (p+1),W.take (p+1)++W.drop p,(W.take p++ [c])++W.drop (p+1)] ++ [(W.take p++ [c])++W.drop p,[],DY,DX,C7,W.take (W.length - 1)] =u12 at o12 n12 c5
 rw[aE (ρ':=[.va (.scr ns),.va R,.va (.str (tx W)),.va (.int (p:Nat)),.va (.str (tx [c])),.ow (.lst (bh (u12))),.em,.em,.em,.em,.em,.em,.em,.em]) c5]
 have e6:oS bV (vr 2) (ae (cn (.str "\n")) ag) [.va (.scr ns),.va R,.va (.str (tx W)),.va (.int (p:Nat)),.va (.str (tx [c])),.ow (.lst (bh (u12))),.em,.em,.em,.em,.em,.em,.em,.em] = .ok (.lst (bh L)):=by
  refine fG (s:=tx W) rfl (aj (t:=.str (tx [10])) rfl ax) ?_
  rw[hW];rw[hW]at w4;exact nZ hne hf (by omega) (by omega)
 rw[aE (ρ':=[.va (.scr ns),.va R,.va (.str (tx W)),.va (.int (p:Nat)),.va (.str (tx [c])),.ow (.lst (bh (u12))),.va (.lst (bh L)),.em,.em,.em,.em,.em,.em,.em]) (bj e6 rfl)]
 have len6:∀ρ:En,ρ[6]? =some (.va (.lst (bh L)))->Tr.cl bW (ae (vr 6) ag) ρ= .ok (.int (L.length:Nat)):=λρ h=>a7 (aj (Di h) ax) (by show Rs.ok (T.int ((bh L).length:Nat))=_;rw[cy])
 rw[aE (ρ':=[.va (.scr ns),.va R,.va (.str (tx W)),.va (.int (p:Nat)),.va (.str (tx [c])),.ow (.lst (bh (u12))),.va (.lst (bh L)),.va (.int (q:Nat)),.em,.em,.em,.em,.em,.em]) (bj (bS (k:=122) eq rfl rfl (len6 _ rfl)) rfl)]
 have q1':q<L.length:=by omega
 have htd:=eU L q
 have htd1:=eU L (q+1)
 have hdd:=ur L (show q<=q+1 by omega)
 have hdq:wt (L.drop q)<=31+wt (L.drop (q+1)):=by
  rw[JP q1',gi]
  have:=h30 _ (JS q1');omega
 have wa:wt (L.take q++L.drop (q+1))<=403:=by rw[fO];omega
 have wb:wt (L.take (q+1)++L.drop q)<=440:=by rw[fO];omega
 have wc:wt ((L.take q++((L.drop q).take 2).reverse)++L.drop (q+2))<=403:=by
  have h2:wt ((L.drop q).take 2)+wt (L.drop (q+2))=wt (L.drop q):=by
   have:=eU (L.drop q) 2;rw[List.drop_drop]at this;exact this
  rw[fO,fO,vQ];omega
 have x8:(dz (ae (oS cP (cn (.str "\n")) (ae (o2 aw (sl (vr 6) pN (pS (vr 7))) (sl (vr 6) (pS (o2 aw (vr 7) (cn (.int 1)))) pN)) ag)) (ae (oS cP (cn (.str "\n")) (ae (o2 aw (sl (vr 6) pN (pS (o2 aw (vr 7) (cn (.int 1))))) (sl (vr 6) (pS (vr 7)) pN)) ag)) ag))) [.va (.scr ns),.va R,.va (.str (tx W)),.va (.int (p:Nat)),.va (.str (tx [c])),.ow (.lst (bh (u12))),.va (.lst (bh L)),.va (.int (q:Nat)),.em,.em,.em,.em,.em,.em] = .ok (.lst (bh [aA 10 (L.take q++L.drop (q+1)),aA 10 (L.take (q+1)++L.drop q)])):=by
  have q1_:o2 aw (vr 7) (cn (.int 1)) [.va (.scr ns),.va R,.va (.str (tx W)),.va (.int (p:Nat)),.va (.str (tx [c])),.ow (.lst (bh (u12))),.va (.lst (bh L)),.va (.int (q:Nat)),.em,.em,.em,.em,.em,.em] = .ok (.int ((q+1:Nat):Int)):=aN (t:=.int (q:Nat)) (u:=.int 1) rfl rfl rfl;exact jC (aj (lM (c:=10) rfl (jf (tS (l:=L) (n:=q) rfl rfl) (tT (l:=L) (n:=q+1) rfl q1_) (by rw[HV,Ih];omega)) (by omega)) (aj (lM (c:=10) rfl (jf (tS (l:=L) (n:=q+1) rfl q1_) (tT (l:=L) (n:=q) rfl rfl) (by rw[HV,Ih];omega)) (by omega)) ax)) (fh (by rw[cy];show 2<=100000;omega))
 have o3:∀u∈ [aA 10 (L.take q++L.drop (q+1)),aA 10 (L.take (q+1)++L.drop q)],Ok6 u:=λu hu=>by
  simp only[HB,IH,or_false]at hu;rcases hu with rfl | rfl
  ·exact r0 (by omega) (hlo.of λp hp=>by
    rcases HA.mp hp with hp | hp
    ·exact Jn hp
    ·exact IY hp)
  ·exact r0 (by omega) (hlo.of λp hp=>by
    rcases HA.mp hp with hp | hp
    ·exact Jn hp
    ·exact IY hp)
 have n3:([aA 10 (L.take q++L.drop (q+1)),aA 10 (L.take (q+1)++L.drop q)]).length=2:=rfl
 generalize [aA 10 (L.take q++L.drop (q+1)),aA 10 (L.take (q+1)++L.drop q)] =u3 at o3 n3 x8
 have c8_:n9 5 (dz (ae (oS cP (cn (.str "\n")) (ae (o2 aw (sl (vr 6) pN (pS (vr 7))) (sl (vr 6) (pS (o2 aw (vr 7) (cn (.int 1)))) pN)) ag)) (ae (oS cP (cn (.str "\n")) (ae (o2 aw (sl (vr 6) pN (pS (o2 aw (vr 7) (cn (.int 1))))) (sl (vr 6) (pS (vr 7)) pN)) ag)) ag))) [.va (.scr ns),.va R,.va (.str (tx W)),.va (.int (p:Nat)),.va (.str (tx [c])),.ow (.lst (bh (u12))),.va (.lst (bh L)),.va (.int (q:Nat)),.em,.em,.em,.em,.em,.em] = .ok (.nx [.va (.scr ns),.va R,.va (.str (tx W)),.va (.int (p:Nat)),.va (.str (tx [c])),.ow (.lst (bh (u12++u3))),.va (.lst (bh L)),.va (.int (q:Nat)),.em,.em,.em,.em,.em,.em]):=(Bk (l:=bh u12) x8 rfl (by rw[cy,cy];omega)).trans (by rw[ir];rfl)
 rw[aE c8_]
 have x9:(o2 aw (o2 aw (sl (vr 6) pN (pS (vr 7))) (o1 wN (sl (vr 6) (pS (vr 7)) (pS (o2 aw (vr 7) (cn (.int 2))))))) (sl (vr 6) (pS (o2 aw (vr 7) (cn (.int 2)))) pN)) [.va (.scr ns),.va R,.va (.str (tx W)),.va (.int (p:Nat)),.va (.str (tx [c])),.ow (.lst (bh (u12++u3))),.va (.lst (bh L)),.va (.int (q:Nat)),.em,.em,.em,.em,.em,.em] = .ok (.lst (bh ((L.take q++((L.drop q).take 2).reverse)++L.drop (q+2)))):=by
  have q2_:o2 aw (vr 7) (cn (.int 2)) [.va (.scr ns),.va R,.va (.str (tx W)),.va (.int (p:Nat)),.va (.str (tx [c])),.ow (.lst (bh (u12++u3))),.va (.lst (bh L)),.va (.int (q:Nat)),.em,.em,.em,.em,.em,.em] = .ok (.int ((q+2:Nat):Int)):=aN (t:=.int (q:Nat)) (u:=.int 2) rfl rfl rfl
  have md:sl (vr 6) (pS (vr 7)) (pS (o2 aw (vr 7) (cn (.int 2)))) [.va (.scr ns),.va R,.va (.str (tx W)),.va (.int (p:Nat)),.va (.str (tx [c])),.ow (.lst (bh (u12++u3))),.va (.lst (bh L)),.va (.int (q:Nat)),.em,.em,.em,.em,.em,.em] = .ok (.lst (bh ((L.drop q).take 2))):=by
   refine(ni (l:=bh L) (lo:=some ((q:Nat):Int)) (hi:=some ((q+2:Nat):Int)) rfl rfl (xS q2_)).trans ?_
   rw[AM _ (by omega)]
   unfold bh;rw[List.map_take,OJ,show q+2 - q=2 by omega]
  refine jf (jf (tS (l:=L) (n:=q) rfl rfl) (Dm md ?_) (by rw[HV,K6,HV,Ih];omega)) (tT (l:=L) (n:=q+2) rfl q2_) (by rw[Ht,HV,K6,HV,Ih,Ih];omega)
  show Rs.ok (T.lst (bh ((L.drop q).take 2)).reverse)=_
  unfold bh;rw[List.map_reverse]
 rw[aE (ρ':=[.va (.scr ns),.va R,.va (.str (tx W)),.va (.int (p:Nat)),.va (.str (tx [c])),.ow (.lst (bh (u12++u3))),.va (.lst (bh L)),.va (.int (q:Nat)),.va (.lst (bh ((L.take q++((L.drop q).take 2).reverse)++L.drop (q+2)))),.em,.em,.em,.em,.em]) (bj x9 rfl)]
 have x10:(oS cP (cn (.str "\n")) (ae (vr 8) ag)) [.va (.scr ns),.va R,.va (.str (tx W)),.va (.int (p:Nat)),.va (.str (tx [c])),.ow (.lst (bh (u12++u3))),.va (.lst (bh L)),.va (.int (q:Nat)),.va (.lst (bh ((L.take q++((L.drop q).take 2).reverse)++L.drop (q+2)))),.em,.em,.em,.em,.em] = .ok (.str (tx (aA 10 ((L.take q++((L.drop q).take 2).reverse)++L.drop (q+2))))):=lM (c:=10) rfl (l:=((L.take q++((L.drop q).take 2).reverse)++L.drop (q+2))) rfl (by omega)
 have o4:Ok6 (aA 10 ((L.take q++((L.drop q).take 2).reverse)++L.drop (q+2))):=r0 (by omega) (hlo.of λp hp=>by
  rcases HA.mp hp with hp | hp
  ·rcases HA.mp hp with hp | hp
   ·exact Jn hp
   ·exact IY (Jn (Na.mp hp))
  ·exact IY hp)
 have ou:∀u∈(u12++u3)++ [aA 10 ((L.take q++((L.drop q).take 2).reverse)++L.drop (q+2))],Ok6 u:=λu hu=>by
  rcases HA.mp hu with hu | hu
  ·rcases HA.mp hu with hu | hu
   ·exact o12 u hu
   ·exact o3 u hu
  ·rw[HJ.mp hu];exact o4
 have nu:((u12++u3)++ [aA 10 ((L.take q++((L.drop q).take 2).reverse)++L.drop (q+2))]).length=13:=by rw[Ht,Ht,n12,n3];rfl
 have c10:oa 5 (oS cP (cn (.str "\n")) (ae (vr 8) ag)) [.va (.scr ns),.va R,.va (.str (tx W)),.va (.int (p:Nat)),.va (.str (tx [c])),.ow (.lst (bh (u12++u3))),.va (.lst (bh L)),.va (.int (q:Nat)),.va (.lst (bh ((L.take q++((L.drop q).take 2).reverse)++L.drop (q+2)))),.em,.em,.em,.em,.em] = .ok (.nx ([.va (.scr ns),.va R,.va (.str (tx W)),.va (.int (p:Nat)),.va (.str (tx [c])),.ow (.lst (bh (u12++u3))),.va (.lst (bh L)),.va (.int (q:Nat)),.va (.lst (bh ((L.take q++((L.drop q).take 2).reverse)++L.drop (q+2)))),.em,.em,.em,.em,.em].set 5 (.ow (.lst (bh ((u12++u3)++ [aA 10 ((L.take q++((L.drop q).take 2).reverse)++L.drop (q+2))])))))):=(Bm (l:=bh (u12++u3)) x10 rfl (by rw[cy,Ht];omega)).trans (by rw[ir (u12++u3)];rfl)
 generalize (u12++u3)++ [aA 10 ((L.take q++((L.drop q).take 2).reverse)++L.drop (q+2))] =us at ou nu c10
 rw[aE (ρ':=[.va (.scr ns),.va R,.va (.str (tx W)),.va (.int (p:Nat)),.va (.str (tx [c])),.ow (.lst (bh (us))),.va (.lst (bh L)),.va (.int (q:Nat)),.va (.lst (bh ((L.take q++((L.drop q).take 2).reverse)++L.drop (q+2)))),.em,.em,.em,.em,.em]) c10];obtain⟨vs,t9,t10,t11,t12,ov,nv,el⟩:=tj (R:=R) (W:=W) (s3:=.va (.int (p:Nat))) (s4:=.va (.str (tx [c]))) (s7:=.va (.int (q:Nat))) (s8:=.va (.lst (bh ((L.take q++((L.drop q).take 2).reverse)++L.drop (q+2))))) (s13:=.em) hn h30 hlo h13 (Iy (L.length - 1)) us .em .em .em .em (λj hj=>by have:=IX.mp hj;omega) (by rw[Kn];omega)
 have it:(iR (ae (o2 gK (Tr.cl bW (ae (vr 6) ag)) (cn (.int 1))) ag)) [.va (.scr ns),.va R,.va (.str (tx W)),.va (.int (p:Nat)),.va (.str (tx [c])),.ow (.lst (bh (us))),.va (.lst (bh L)),.va (.int (q:Nat)),.va (.lst (bh ((L.take q++((L.drop q).take 2).reverse)++L.drop (q+2)))),.em,.em,.em,.em,.em] = .ok ((Iy (L.length - 1)).map λ(j:Nat)=>T.int (j:Nat)):=by
  refine(Ek (j:=((L.length - 1:Nat):Int)) (aj (aN (t:=.int (L.length:Nat)) (u:=.int 1) (len6 _ rfl) rfl ?_) ax) (by omega) (by omega)).trans (by rw[og])
  show Rs.ok (T.int ((L.length:Int) - 1))=_
  congr 2
  omega
 rw[aE (kn it el)]
 obtain⟨t13,ed2⟩:=sV (ns:=ns) (R:=R) (W:=W) (L:=L) (us:=us++vs) (s3:=.va (.int (p:Nat))) (s4:=.va (.str (tx [c]))) (s7:=.va (.int (q:Nat))) (s8:=.va (.lst (bh ((L.take q++((L.drop q).take 2).reverse)++L.drop (q+2))))) (s9:=t9) t10 t11 t12 (us++vs) .em (λv hv=>by
  rcases HA.mp hv with hv | hv
  ·exact ou v hv
  ·exact ov v hv)
 rw[aE (FW (kn (iX (l:=bh (us++vs)) rfl) ed2))]
 have hdp:=due_dep (s:=W);refine c6 (aN (a7 (aj (t:=.str (tx W)) rfl ax) (Bu (by omega) wlo)) (u:=R) rfl ?_)
 rw[hd]at hdp ⊢;exact Ao hdp.1 hdp.2
theorem pure_law (ns:List Int)(hn:ns.length<=63):m_law [.scr ns] = .ok (.bl true):=by
 obtain⟨cs,ls,ew,hr,hs⟩:=DG ns hn;obtain⟨ks,es,rfl,rfl,hk,he,h4,h8⟩:=la hr
 have hp:=A8 _ hs
 have er:aQ [RR (ks.map dQ) (es.map eG)] = .ok (.bl true):=by rw[jG _ hp,hr]
 have et:=ph hk he h4 h8 er;obtain⟨h30,hlo,h13,hf⟩:=vd hk he h4 h8;exact Dd (L:=lines ks es++ [[]]) (gY _) hn ew et (yv ⟨ks,es,hk,he,h4,h8,rfl,hr,hp,rfl⟩) (by simp) h30 hlo h13 hf
end G
end
open PySem PySem.W PyProof.Rows
set_option maxRecDepth 100000 in
set_option maxHeartbeats 0 in
theorem PySem.Challenge.cw_farclocks_k91_whole_read_holds : PySem.Challenge.rw_farclocks_k91_whole_read.Holds := by
  w_on; o_law
  refine Tr.holds_C (q := G.vw) (loose := G.lse) (Xt := λ_ => true) (XP := λ_ _ => True) (Yf := λs => ((Tr.hookC G.asks G.top).obs s, Nat.ble 1 s.toks)) (Ya := λw => ((Tr.hookC G.asks G.top).val w, true)) (YP := (Tr.hookC G.asks G.top).says) (N := 9000) (Tr.left_of (by rfl) (by rfl) (λ_ => rfl) λw os => ?hl) (λw s e => (Tr.hookC G.asks G.top).of w s (MY e).1) (Tr.hookC G.asks G.top).keeps (λ_ _ => trivial) (λ_ _ _ _ _ => trivial) (by rfl) (by rfl) (by rfl) (λs _ => recFacts_of (s := s) rfl) (by rfl) (by assumption) (by decide +kernel) ⟨rfl, rfl, rfl, rfl, rfl, by decide +kernel⟩ ?hw (λw s e => Nat.le_of_ble_eq_true (MY e).2) ?hc
  case hl => exact G.He w os
  case hw => w_witness2
  case hc => exact Tr.walk_C (n := 63) (k := 11) (x := "_law_script") (CX := L2.CX0) (sp := λK => Tr.spP K 1 G.m_law) rfl (by decide) rfl ⟨rfl, by decide, by decide⟩ (λw K mg fa h X e g hf => G.all_ok X e g hf) (λK H a ns hl _ hS => Tr.sp_script hS (G.pure_law ns hl)) λ_ _ _ _ z => z
