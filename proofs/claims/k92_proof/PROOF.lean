import PyProof.Rows.All
import Wide.All
import OpenK.AllK
import Wide.FinOn
import Lean
import PyProof.EqAt
import PyProof.EqKinds
import PyProof.TupleCall
import PyProof.ExcClass3
import PyProof.StationsW
import PyProof.ExcBaseAll.ValueError
import PyProof.ExcArgsOwn
import PyProof.IsiBase
import PyProof.IsiH_tuple
import PyProof.ExcAttrAll.ValueError
import PyProof.Rows.RuleN_isinstance
import PyProof.MeetsSeq
import PyProof.RulesAs
import PyProof.IsiH_list
import PyProof.AttrMiss
import KE.KDictOf
import PyProof.Rows.SumAny
import PyProof.Rows.MinMaxN
import PyProof.Rows.SortShellK
import PyProof.Rows.SortWalk
import KE.KSortTup
import PyProof.ZipIter
import PyProof.WalksMore
import PyProof.DictWalks
import PyProof.AutoSeq1
import PyProof.Rows.Range3
import PyProof.CollectWalk
import PyProof.EnumMake
import PyProof.ListRange
import KE.KRevIter
import PyProof.SetScanFacts
import PyProof.SetKind
import PyProof.DictKinds
import PyProof.FactsAll.set_0
import PyProof.FactsAll.set_1
import PyProof.FactsAll.set_2
import PyProof.FactsAll.set_3
import PyProof.FactsLen
import PyProof.TupleIter
import PyProof.Rows.SetFrom
import PyProof.Rows.SortShell
import PyProof.CallStr
import PyProof.RulesTry
import KE.KIntText
import PyProof.Conv_int
import PyProof.ReprStr
import Flt.Str
import PySem.Challenge.RW_farclocks_k92_times_as_texts
noncomputable section
open PySem.Challenge renaming pw_farclocks_k92_times_as_texts→Hh,rw_farclocks_k92_times_as_texts→LI
open PySem.Builtin.SmallTypes renaming ownedTupleHandOut→Ki,ownedTupleIsFree→HK,nextOf→HU
open PySem.AutoListH renaming list___mul___list_int_3→Nt
open Array renaming all_eq_true_iff_forall_mem→JI,getElem?_eq_some_iff→IW,getElem?_toList→MH,length_toList→Jw,find?_toList→Nq,toList→MB
open PyProof.Rows renaming slot_tuple_getitem→Ih,callWith_builtin1→Jh,callWith_type1→IQ,subscriptTail_builtinR→Mx,entry_tuple_getitem→Nh,args_tuple_getitem→NL,call_isinstance_of→NO,subscriptTail→Mk,tupleItemsOf_→NM,Subscript_→Od,boot_all→NW,IntsAre→LQ,AllBare→MS,IsTup→Pa
open PySem.F renaming args_tuple_iterator_next_1→La,entry_tuple_iterator_next→Lk,slot_tuple_iterator_next→JC,excBase_ValueError→Lu,args_tuple_add_2→Km,slot_zip_getattribute→JW,entry_tuple_add→Kt,plainAttrs_list→Ku,slot_tuple_add→KJ,plainAttrs_str→KL,typeOf_object_class→KZ,slot_enumerate_next→MF,slot_str_partition→M0,args_str_split_2→LA,args_zip_next_1→L3,entry_str_split→L5,args_int_rmul_2→N3,slot_tuple_rmul→N5,slot_str_split→K5,slot_tuple_mul→Mp,entry_zip_next→Mq,slot_int_index→Ox,entry_int_rmul→Oy,slot_zip_next→JO,slot_int_rmul→Li,fills_int_mul→OQ,slot_zip_iter→OV,slot_gs_get→Nx,called_int→LB
open PySem.Builtin.Slice renaming slicePartIndex→OJ,sliceApplied→Lq,slicePlaces→JH,sliceAdjust→Kh
open PySem.Builtin.Str renaming strSliceIndices→Ho,occurrences→JV,strKind→HP,strSub→Kv,glued→N0
open List renaming getD_eq_getElem?_getD→HE,getElem?_append_right→IV,nodup_iff_pairwise_ne→Lw,getElem?_eq_some_iff→Hm,getElem?_append_left→II,drop_eq_getElem_cons→Jf,getElem?_eq_getElem→Hv,getElem?_replicate→Ky,getElem?_cons_succ→Me,getElem?_set_self→HI,drop_eq_nil_of_le→JA,take_of_length_le→JB,filter_eq_nil_iff→J3,map_eq_append_iff→Mw,mem_append_right→Hg,length_singleton→Ik,getElem?_eq_none→JE,eq_nil_or_concat→MM,concat_eq_append→MN,length_filter_le→MO,mem_cons_of_mem→G5,mem_append_left→HG,getElem?_set_ne→HH,mem_of_getElem?→Jr,mem_of_mem_drop→JK,mem_of_mem_take→Kg,map_congr_left→IL,filterMap_cons→Ja,replicate_succ→Jd,map_eq_nil_iff→JY,filter_eq_self→Ln,getElem?_range→Ng,length_append→GY,mem_cons_self→G7,mem_singleton→Ht,contains_cons→Jm,length_range'→Jn,filter_append→KC,getElem?_drop→LF,mem_filterMap→Np,forIn_toArray→Nz,count_eq_zero→NG,size_toArray→Hn,append_assoc→Hs,getElem?_map→HN,count_append→Ij,flatten_cons→Ip,length_range→Jv,mem_range'_1→KP,nodup_append→L1,take_sublist→N1,isEmpty_cons→N7,length_cons→G4,all_eq_true→HC,length_drop→Ig,not_mem_nil→Im,lookup_cons→IA,length_take→IK,getElem_mem→Jp,drop_length→Mo,range'_succ→Mr,filter_cons→OA,mem_flatMap→OE,cons_append→OF,length_map→G3,mem_append→G8,length_nil→HJ,append_nil→Ii,nodup_cons→IH,map_append→IJ,length_set→IS,nil_append→Jy,mem_filter→JM,of_mem_zip→JN,find?_cons→Kb,forIn_cons→Kz,range_succ→MJ,replicate→Hy,mem_range→IP,forIn_nil→LL,nodup_nil→LN,drop_zero→LP,drop_left→M8,take_left→M9,map_cons→G9,mem_cons→Hd,sum_cons→JX,any_cons→Mf,mem_map→Hb,map_map→Hu,map_nil→Lz,toArray→Oi,length→Jc,range'→Jq,lookup→Lj,range→Io,Nodup→Lf,foldl→LX,cons→L4
open PySem renaming wpAny_newFunctionEnv_cells→IX,wpAny_binaryOp_repeat_ref→LR,wpAny_callSpecial?_slot→Il,wpAny_Call_method_late→J4,wpAny_nextOf_list_item→My,builtinLookup_eq_fast→JF,codeAny_call_function→K2,wpAny_isTrue_Compare1→MT,pythonCodeMadeTheCall→MV,codeAny_call_builtin→K8,wpAny_loadName_local→M1,wpAny_updateSeq_pair→M4,mem_of_lookup→Jx,wpAny_isSubtype_exc→Kl,plainExc_ValueError→Nj,wpAny_raiseNew_none→Nk,wpAny_Call_Name_kw→Iy,wpAny_pyIter_tuple→J7,wpAny_setField_rec→KI,wpAny_List_spliced→NH,tupleKind_room_in1→NP,wpAny_newExc_plain→NU,wpAny_Constant_str→NV,foldedSetIterable→Hw,wpAny_loadPart_at→Iq,wpAny_truthy_bool→IC,wpAny_newObj_type→IM,wpAny_pyIter_list→L8,wpAny_Return_some→Oa,wpAny_assign_Name→Ob,wpAny_sequenceKey→Oc,wpAny_pyIter_enum→Oe,wpAny_call_entry→IU,checkBuiltinCall→K6,wpAny_execs_cons→Ms,noFill_tuple_add→Mt,wpAny_comp_letGo→Mu,seqSlot_of→Oz,wpAny_isInstance→OG,lookupAlong_cons→OH,wpAny_pyRepr_str→OI,letOwnedTupleGo→JP,wpAny_loadPart'→JR,wpAny_execs_nil→Kd,leftWithCleanup→Ke,pushCells_keeps→KG,typeLookup_type→KH,theTreesLotGoes→Lo,importedModules→MQ,codeAny_builtin→MU,wpAny_seqItems→Jt,recursionLimit→J1,newFunctionEnv→LS,isSubtype_type→LU,wpAny_setField→Na,wpAny_newTuple→Nb,wpAny_holding→IE,attributeBase→Jg,behindInMarks→Js,swapsWithSole→KD,swappedStores→KF,wpAny_standAt→Ld,comprehension→Le,wpAny_attempt→Ml,seq_tuple_add→NJ,evalPart_none→NN,wpAny_onRaise→NQ,plainId_quiet→NR,Comprehension→NS,bootBuiltins→HA,wpAny_typeOf→LG,codeAny_mono→On,codeAny_func→Oo,concat_meets→Oq,callSpecial?→Os,mainGlobals→HL,wpAny_field→H0,excClassObj→IT,sizeLine_eq→Je,sliceBounds→KU,wpAny_of_eq→KW,subscripted→Ni,lookupAlong→O4,wpAny_point→O6,wpAny_bind→G1,wpAny_pure→Ha,wpAny_mono→HX,assignEach→ID,call_meets→JQ,wpAny_rule→Kr,sysModules→KR,typeLookup→KS,builtinsNs→Lh,typeIs_int→MW,wpAny_Name→N9,compareOp→Iw,cellsFrom→Jj,Str→JD,swapsWith→Kj,noteFrame→K3,pushCells→K4,Ctx→LW,Arguments→L6,specialOf→L9,treeTable→MP,tupleKind→MR,numTextOf→NT,strValues→O5,numSeenOf→O7,starEach→Hj,FuncData→Ib,binaryOp→Jo,boot_len→JG,NameKind→J6,compPost→MX,bindArgs→NI,GenState→OK,evalArgs→OL,entryFor→OM,callWith→ON,intText?→OP,Program→Hr,OsState→KQ,BindsTo→Mj,Shared→GX,Around→HF,Result→KN,IsPair→Lp,IsPart→NK,Paired→O9,Value→GZ,World→HS,Scope→J8,Model→L7,CmpOp→O0,Drawn→O8
open PySem.Builtin.Tuple renaming tupleItemsOf→Lr,tupleIsExact→Ls,tupleExact→Jk
open PySem.Calls renaming Name_function_global→Lv,callWith_builtin→J2,evalArgs_plain→JJ,spliced_cons→Jl,Constant_str→Nn,spliced_nil→Ju
open PySem.Builtin.List renaming listTooLong→JL
open Option renaming isSome_iff_exists→Kp,map_eq_some_iff→Mv,isSome_some→Nu,getD_none→Ov,some→Ir
open Int renaming eq_ofNat_of_zero_le→HM,emod_lt_of_pos→LC,toNat_natCast→HV,emod_nonneg→ML
open PySem.Builtin.Dict renaming updateFrom→Mb
open PySem.Heap renaming get?_push_of_some→G2,get?_update_other→KM,get?_update_self→MD,get?_push_size→Hk,NewAttrErr→OU,size_push→IB,lt_size→Hf,SameBut→J9
open PySem.W renaming cellsFrom_some→IY,hideAll_none→K7,hideAll_get→JU,codeRec_of→J5,of_hideAll→Lx,callWith_K→Ly,methodObj→LV,hasDictIn→NX,kitx_list→NY,kitx_dict→NZ,plainGet→Mm,openSeen→Ot,openGood→Ou,kia_one→IF,topFrom→Ks,instObj→Mz,hideAll→MA,keepIn→JZ,codeIn→LH,lookIn→M5,findIn→M6,mg_of→K9,Frag→GW,fnOf→JS,nsIn→Kn
open PySem.Obj renaming isFreed_of_fields→ME,data_mapFields→KB,mapFields→Mh
open Bool renaming and_eq_false_iff→MK,and_eq_true_iff→HY,false_ne_true→Hq,false_eq_true→Iv,not_eq_true'→N6,and_eq_true→G6,eq_iff_iff→Kx,or_eq_true→OS,false_and→LJ,and_false→LK,true_and→Lc,or_false→Mc,false_or→Nv,and_true→ND,true_or→Oj
open PySem.Around renaming frames_deeper→MY,under_plainId→MZ
open PySem.Heap.SameBut renaming update→Nc
open Nat renaming lt_of_lt_of_le→Hl,lt_succ_of_lt→LY,le_of_succ_le→LZ,lt_trichotomy→N8,mod_eq_of_lt→OB,strongRecOn→OZ,lt_irrefl→HB,le_trans→Hz,ne_of_lt→Iz,le_of_eq→JT,sub_zero→Kc,le_of_lt→Ko,zero_add→Kq,ne_of_gt→KY,toDigits→K1,sub_self→LD,succ_mul→MC,mul_comm→Og,lt_trans→Oh,le_refl→He,zero_le→HZ
open PySem.Str renaming ofString→Iu,ofString→Hi,join→NF
open PySem.Heap.IsSliceOf renaming new→Nl
open PySem.Code renaming quiet_builtin→Ny,isCaller→NB
open Option.some renaming inj→HW
open ForInStep renaming yield→Jz
open List.cons renaming injEq→Kw
open PySem.Expr renaming Subscript→M7,ListComp→Lb,Constant→Mg,Compare→Ol,UnaryOp→Om,BoolOp→Kk,Name→IZ,Call→K0
open PySem.NameKind renaming free→HR,cell→IR
open PySem.Txt renaming partition→Ie,replace→Mi,split→Ic
open PySem.Value renaming builtin→Kf,none→HQ,bool→Ia,type→J0,ref→HD,str→IG,int→Ji
open PySem.Value.ref renaming inj→Nm
open PySem.ExcName renaming means→NC
open PySem.Sem renaming wp_mono→Lm,wp→MG
open Prod.mk renaming inj→Ma
open PySem.Shared renaming heap→OR
open PySem.Scope renaming names→OW
open PySem.Stmt renaming Assign→OY
open False renaming elim→Jb
open True renaming intro→KO
open Char renaming toNat→Lg
open And renaming intro→KA
open PySem.Env renaming scope→Ll
open PySem.BoolOp renaming Or→MI
open PyProof.Rows.IsTup renaming new→Nr
open Eq renaming trans→Md
open PySem.Pos renaming line→NA
open Ne renaming symm→Ka
open Iff renaming rfl→LM
open Sum renaming inl→Nd,inr→Nf
open Prod renaming mk→N4
open Or renaming inl→Of
set_option Elab.async false
set_option linter.all false
set_option maxRecDepth 100000
set_option maxHeartbeats 8000000
noncomputable section
abbrev nDb (x:JD):Prop:=(x == Iu "__debug__")=false
theorem qr_ (h:True:=by first | exact .inl rfl | exact .inr rfl | assumption):True:=trivial
def r_:=qr_._auto_1
theorem qs_ (h:True:=by decide):True:=trivial
def s_:=qs_._auto_1
theorem qt_ (h:True:=by intro _;rfl):True:=trivial
def t_:=qt_._auto_1
theorem qu_ (h:True:=by rfl):True:=trivial
def u_:=qu_._auto_1
theorem qv_ (h:True:=by first | exact Of rfl | exact Or.inr (Of rfl) | exact Or.inr (Or.inr rfl)):True:=trivial
def v_:=qv_._auto_1
theorem qw_ (h:True:=by with_unfolding_all rfl):True:=trivial
def w_:=qw_._auto_1
theorem qx_ (h:True:=by intro _ _;rfl):True:=trivial
def x_:=qx_._auto_1
theorem qy_ (h:True:=by first | exact Of rfl | exact Or.inr rfl):True:=trivial
def y_:=qy_._auto_1
theorem qz_ (h:True:=by decide+kernel):True:=trivial
def z_:=qz_._auto_1
theorem qa_ (h:True:=by exact fsc):True:=trivial
def a_:=qa_._auto_1
theorem qb_ (h:True:=by intro x;cases x):True:=trivial
def b_:=qb_._auto_1
namespace L2
open PySem PySem.Spec PyProof.Rows
inductive V where
 | non | bl (b:Bool) | int (i:Int) | str (x:Str) | byt (b:Array UInt8) | flt (b:UInt64) | ref (a:Addr) | ty (n:String)
 deriving DecidableEq
def zv (s:Stmt)(j:Nat):Stmt:=match s with
 | .ClassDef _ _ _ body _ _ _ _ _ _ _=>body.getD j (.Pass ⟨0,0,0,0⟩)
 | _=> .Pass ⟨0,0,0,0⟩
def eQ (s:Stmt):L6:=match s with
 | .FunctionDef _ a _ _ _ _ _ _ _ _=>a
 | _=> { posonlyargs:=[],args:=[],vararg:=none,kwonlyargs:=[],kw_defaults:=[],kwarg:=none,defaults:=[] }
def bq (s:Stmt):List Stmt:=match s with
 | .FunctionDef _ _ b _ _ _ _ _ _ _=>b
 | _=> []
def ao (s:Stmt):J8:=match s with
 | .FunctionDef _ _ _ _ _ _ sc _ _ _=>sc
 | _=> { kind:=.function,names:=[],isGenerator:=false,isCoroutine:=false }
end L2
namespace Tr
open PySem PySem.Spec PyProof.Rows L2
inductive T where
 | non | bl (b:Bool) | int (i:Int) | str (x:Str) | tup (l:List T) | lst (l:List T)
 /-- the law's script: a list of ints that is only read -/
 | scr (l:List Int)
 /-- a dict: its keys,its values -/
 | dct (ks vs:List T)
 /-- an instance: its class,the names of its attributes,what they are -/
 | ob (C:Str) (ns:List Str) (ts:List T)
inductive OT where
 | lst (l:List T) | dct (ks ts:List T) | dd (ks:List T) (rows:List (List T×List T))
 /-- an instance,its attributes own lists -/
 | ob (C:Str) (ns:List Str) (ls:List (List T))
 /-- a list of own lists -/
 | ll (ls:List (List T))
def OT.view:OT->T
 | .lst l=> .lst l
 | .dct ks ts=> .dct ks ts
 | .dd ks rows=> .dct ks (rows.map λr=> .dct r.1 r.2)
 | .ob C ns ls=> .ob C ns (ls.map T.lst)
 | .ll ls=> .lst (ls.map T.lst)
def T.ty:T->Option String
 | .non=>some "NoneType"
 | .bl _=>some "bool"
 | .int _=>some "int"
 | .str _=>some "str"
 | .tup _=>some "tuple"
 | .lst _=>some "list"
 | .scr _=>none
 | .dct _ _=>none
 | .ob _ _ _=>none
def calmNames:List Str:=["__init__","__getattribute__","__getattr__","__class__"]
def vm:GZ->Bool
 | .str _ _=>true
 | _=>false
end Tr
namespace Tr
def fg:List Int->List Int->Bool
 | [],[] =>false
 | [],_::_=>true
 | _::_,[] =>false
 | a::l,b::m=>if a=b then fg l m else decide (a<b)
end Tr
namespace Tr
open PySem PySem.Spec PyProof.Rows L2 PySem.W
structure RK where
 V:Heap->GZ->List Int->Prop
 inj:∀{h v a b},V h v a->V h v b->a=b
 on:∀{h h':Heap} {v a},V h v a->(∀b o,h.get? b=some o->h'.get? b=some o)->V h' v a
 b:Bool
 ty:String
 hb:(J0 ty != J0 "tuple")=b
 ht:(J0 ty == J0 ty)=true
 fst:∀{h v a},V h v a->∃ad o xs n f,v= .ref ad/\h.get? ad=some o/\o.cls= .type "tuple"/\o.data= .seq xs n/\xs[0]? =some f/\∀M,Looks M h (typeOf f) (.type ty)
 lt:∀{prog w A s E x y a c} {Q:Bool->GX->Prop},A.units+60<cLine->V s.heap x a->V s.heap y c->Q (fg a c) s->wpAny (model prog w) A (keyLt' (tuples' b) x y) Q E s
variable (R:RK)
open Classical in
def RK.key (h:Heap)(v:GZ):Option (List Int):=if e:∃ns,R.V h v ns then some e.choose else none
variable {R:RK}
end Tr
namespace Tr
open PySem PySem.Spec PyProof.Rows L2 PySem.W
def pR (h:Heap):Frag:=(Io h.objs.size).filterMap λa=>(h.get? a).map λo=>(a,o)
def obF (K:Frag)(n:Str):Option (Str×Str×L6×FuncBody×J8×Addr×List (Str×Addr)×GZ×Addr×Bool×Bool):=match nsIn K HL n with
 | some (some (.ref f))=>match K.lookup f with
  | some ⟨_,_,.func d,_⟩=>some (d.name,d.qualname,d.params,d.body,d.scope,d.globals,d.closure,d.defaults,d.builtins,codeIn K d.code n,keepIn K (.ref f))
  | _=>none
 | _=>none
def exF (n:Str)(st:Stmt):Option (Str×Str×L6×FuncBody×J8×Addr×List (Str×Addr)×GZ×Addr×Bool×Bool):=
 some (n,n,eQ st,.stmts (bq st),ao st,HL,[],.none,Lh,true,true)
def Eo (K:Frag)(N:Addr)(n:Str):Bool:=match nsIn K N n with | some none=>true | _=>false
def FA (K:Frag)(n:Str):Option Int:=match nsIn K HL n with | some (some (.int i _))=>some i | _=>none
def rK:List GZ->Bool
 | [.type a,.type b,.type c,.type d] =>a == "ValueError" &&b == "Exception" &&c == "BaseException" &&d == "object"
 | _=>false
def under (D:Option Addr)(m:List GZ):Bool:=match D with
 | none=>rK m
 | some D=>match m with
  | .ref E::m=>E == D&&rK m
  | _=>false
def y4 (K:Frag)(D:Option Addr)(n:Str):Option Addr:=match nsIn K HL n with
 | some (some (.ref C))=>match K.lookup C with
  | some ⟨.type t,_,.cls c,⟨[_,_,_,_,some (.builtin b),_]⟩⟩=>match c.mro,K.lookup c.ns with
   | .ref E::m,some ⟨_,_,.dict es _,_⟩=>
    if (t == "type" &&b == "ValueError.__new__" && !c.hasDel&&(es.toList.all λe=>vm e.key)&&calmNames.all (Eo K c.ns)&&E == C&&under D m)=true then some C else none
   | _,_=>none
  | _=>none
 | _=>none
def ro {α:Type}:List (Option α)->Option (List α)
 | [] =>some []
 | none::_=>none
 | some a::r=>match ro r with | some l=>some (a::l) | none=>none
def n4:List Addr->Bool
 | [] =>true
 | a::r=>(r.all λb=> !(a == b))&&n4 r
def Fz (K:Frag):List Str->Bool
 | [] =>true
 | m::es=>match y4 K none m with
  | some D=>match ro (es.map (y4 K (some D)))with | some l=>n4 (l++ [D]) | none=>false
  | none=>false
structure uC where
 tab:List (Str×Nat)
 zs:List Str
 cs:List (Str×Int)
 es:List Str
def nZ (S:uC)(K:Frag):=(S.tab.map (λp=>obF K p.1),S.zs.all (Eo K HL),S.cs.map (λc=>FA K c.1),Fz K S.es)
def nz (S:uC)(top:Nat->Stmt):=(S.tab.map (λp=>exF p.1 (top p.2)),true,S.cs.map (λc=>some c.2),true)
def obM (K:Frag)(C:Addr)(m q:Str):Option (Str×Str×L6×FuncBody×J8×Addr×List (Str×Addr)×GZ×Addr×Bool×Bool×Bool):=match findIn K (.ref C) m with
 | some (some (.ref f))=>match K.lookup f with
  | some ⟨_,_,.func d,_⟩=>some (d.name,d.qualname,d.params,d.body,d.scope,d.globals,d.closure,d.defaults,d.builtins,codeIn K d.code q,keepIn K (.ref f),isFn K (.ref f))
  | _=>none
 | _=>none
def exM (m q:Str)(st:Stmt):Option (Str×Str×L6×FuncBody×J8×Addr×List (Str×Addr)×GZ×Addr×Bool×Bool×Bool):=
 some (m,q,eQ st,.stmts (bq st),ao st,HL,[],.none,Lh,true,true,true)
def noAt (K:Frag)(C:Addr)(f:Str):Bool:=match findIn K (.ref C) f with | some none=>true | _=>false
def saOk (K:Frag)(C:Addr):Bool:=match findIn K (.ref C) "__setattr__" with | some (some (.builtin b))=>b == "object.__setattr__" | _=>false
def Fd (K:Frag)(C:Addr)(as:List Str):Bool:=plainGet K C Str.empty&&hasDictIn K C&&plainOver K C&&saOk K C&&makesIn K C&&keepIn K (.ref C)&&as.all (noAt K C)
structure C2 where
 c:Str
 i:Nat
 as:List Str
 ms:List (Str×Str×Nat)
def obK (K:Frag)(A:C2):=match nsIn K HL A.c with
 | some (some (.ref C))=>some (Fd K C A.as,A.ms.map λ(m:Str×Str×Nat)=>obM K C m.1 m.2.1)
 | _=>none
def exK (top:Nat->Stmt)(A:C2):=some (true,A.ms.map λ(m:Str×Str×Nat)=>exM m.1 m.2.1 (zv (top A.i) m.2.2))
structure qk where
 a:uC
 ks:List C2
def wj (S:qk)(K:Frag):=(nZ S.a K,S.ks.map (obK K))
def uV (S:qk)(top:Nat->Stmt):=(nz S.a top,S.ks.map (exK top))
end Tr
namespace G
open PySem PySem.Spec PyProof.Rows L2 Tr
def top (i:Nat):Stmt:=Hh.main.body.getD i (.Pass ⟨0,0,0,0⟩)
def xH:uC:=⟨([("_law_cell",41),("_law_drawn",42),("_law_events",45),("_law_letter",44),("_law_clock",43),("_law_record",46),("_law_times",47),("_law_text",50),("_law_spoilt",51),("is_long",15),("is_whole",13),("is_within",14),("is_pace",18),("rises",16),("are_readings",17)]:List (Str×Nat))++([("is_clock",19),("are_clocks",20),("is_event",21),("is_delay",22),("is_letter",23),("are_letters",24),("is_record",25),("need_record",26),("events",28),("are_times",31),("can_be_written",36),("need_event",27),("reading_of",29),("line_text",37),("times_text",38)]:List (Str×Nat))++([("number_of",33),("read_times",39),("_law_told",49),("law",52),("_law_refused",48)]:List (Str×Nat)),(["ValueError","all","bool","dict","enumerate","int","isinstance","len","list","range","str","tuple","zip"]:List Str),[("MOST_CLOCKS",4),("MOST_LETTERS",8),("MOST_READINGS",4),("LAST_READING",99),("SLOWEST",9),("LONGEST",999),("FARTHEST",999999999)],["ClockError","NoRecord","NoEvent","NoNumber","NoText"]⟩
def asks:qk:=⟨xH,[]⟩
def vw:Hr:=PySem.W.view Hh [52]
def lse:List Str:=(["ClockError","NoRecord","NoEvent","NoNumber","NoText","MOST_CLOCKS","MOST_LETTERS","MOST_READINGS","LAST_READING","SLOWEST","LONGEST","is_whole","is_within","is_long","rises","are_readings","is_pace","is_clock","are_clocks","is_event"]:List Str)++(["is_delay","is_letter","are_letters","is_record","need_record","need_event","events","reading_of","are_times","number_of","FARTHEST","can_be_written","line_text","times_text","read_times","_law_cell","_law_drawn","_law_clock","_law_letter","_law_events"]:List Str)++(["_law_record","_law_times","_law_refused","_law_told","_law_text","_law_spoilt"]:List Str)
def lhs (w:HS)(h:Heap)(d:O8)(t:Nat)(os:KQ):=(Ks MP Hh w 9000 ⟨h,⟨[]⟩,d,t,os⟩).map (λs=>(Ot vw lse (MQ Hh.main.body) (λ_=>true) true s,(wj asks (pR s.heap),Nat.ble 1 s.toks)))
def rhs (w:HS):=some (Ou vw lse,(uV asks top,true))
end G
namespace G
open PySem Tr PySem.W PyProof.Rows
def lhA (w:HS)(h:Heap)(d:O8)(t:Nat)(os:KQ):=(Ks MP Hh w 9000 ⟨h,⟨[]⟩,d,t,os⟩).map λs=>Ot vw lse (MQ Hh.main.body) (λ_=>true) true s
def rhA (_:HS):=some (Ou vw lse)
theorem lhA_r:lhA=lhA:=rfl
theorem rhA_r:rhA=rhA:=rfl
def lhB (w:HS)(h:Heap)(d:O8)(t:Nat)(os:KQ):=(Ks MP Hh w 9000 ⟨h,⟨[]⟩,d,t,os⟩).map λs=>nZ asks.a (pR s.heap)
def rhB (_:HS):=some (nz asks.a top)
theorem lhB_r:lhB=lhB:=rfl
theorem rhB_r:rhB=rhB:=rfl
def lhC (w:HS)(h:Heap)(d:O8)(t:Nat)(os:KQ):=(Ks MP Hh w 9000 ⟨h,⟨[]⟩,d,t,os⟩).map λs=>asks.ks.map (obK (pR s.heap))
def rhC (_:HS):=some (asks.ks.map (exK top))
theorem lhC_r:lhC=lhC:=rfl
theorem rhC_r:rhC=rhC:=rfl
def lhD (w:HS)(h:Heap)(d:O8)(t:Nat)(os:KQ):=(Ks MP Hh w 9000 ⟨h,⟨[]⟩,d,t,os⟩).map λs=>Nat.ble 1 s.toks
def rhD (_:HS):=some (true)
theorem lhD_r:lhD=lhD:=rfl
theorem rhD_r:rhD=rhD:=rfl
theorem join3 {α β γ δ:Type}{o:Option α}{f:α->β}{g:α->γ}{k:α->δ}{a:β}{b:γ}{c:δ}(h1:o.map f=some a)(h2:o.map g=some b)(h3:o.map k=some c):o.map (λs=>(f s,g s,k s))=some (a,b,c):=by
 cases o with
 | none=>cases h1
 | some s=>cases h1;cases h2;cases h3;rfl
theorem join4 {α β γ δ ε:Type}{o:Option α}{f:α->β}{g:α->γ}{k:α->δ}{m:α->ε}{a:β}{b:γ}{c:δ}{d:ε}(h1:o.map f=some a)(h2:o.map g=some b)(h3:o.map k=some c)(h4:o.map m=some d):o.map (λs=>(f s,((g s,k s),m s)))=some (a,((b,c),d)):=by
 cases o with
 | none=>cases h1
 | some s=>cases h1;cases h2;cases h3;cases h4;rfl
end G
lay_quick G.lhA G.rhA G.lhB G.rhB G.lhC G.rhC G.lhD
name_quick lhAz for G.lhA by G.lhA_r
name_quick rhAz for G.rhA by G.rhA_r
name_quick lhBz for G.lhB by G.lhB_r
name_quick rhBz for G.rhB by G.rhB_r
name_quick lhCz for G.lhC by G.lhC_r
name_quick rhCz for G.rhC by G.rhC_r
name_quick lhDz for G.lhD by G.lhD_r
section
open PySem PySem.W PyProof.Rows
set_option maxRecDepth 100000 in
theorem G.GB (w:HS)(os:KQ):PySem.W.Fast.lhAz w (boot_heap w.params) boot_drawn boot_toks os=PySem.W.Fast.rhAz w:=by kernel_rfl
set_option maxRecDepth 100000 in
theorem G.Gz (w:HS)(os:KQ):PySem.W.Fast.lhBz w (boot_heap w.params) boot_drawn boot_toks os=PySem.W.Fast.rhBz w:=by kernel_rfl
set_option maxRecDepth 100000 in
theorem G.GE (w:HS)(os:KQ):PySem.W.Fast.lhCz w (boot_heap w.params) boot_drawn boot_toks os=PySem.W.Fast.rhCz w:=by kernel_rfl
set_option maxRecDepth 100000 in
theorem G.GI (w:HS)(os:KQ):PySem.W.Fast.lhDz w (boot_heap w.params) boot_drawn boot_toks os=G.rhD w:=by kernel_rfl
theorem G.GF (w:HS)(os:KQ):G.lhs w (boot_heap w.params) boot_drawn boot_toks os=G.rhs w:=G.join4 (((congrFun (congrFun (congrFun (congrFun (congrFun PySem.W.Fast.lhAz_eq w) _) _) _) os).trans (G.GB w os)).trans (congrFun PySem.W.Fast.rhAz_eq w).symm) (((congrFun (congrFun (congrFun (congrFun (congrFun PySem.W.Fast.lhBz_eq w) _) _) _) os).trans (G.Gz w os)).trans (congrFun PySem.W.Fast.rhBz_eq w).symm) (((congrFun (congrFun (congrFun (congrFun (congrFun PySem.W.Fast.lhCz_eq w) _) _) _) os).trans (G.GE w os)).trans (congrFun PySem.W.Fast.rhCz_eq w).symm) ((congrFun (congrFun (congrFun (congrFun (congrFun PySem.W.Fast.lhDz_eq w) _) _) _) os).trans (G.GI w os))
end
namespace L2
open PySem PySem.Spec PyProof.Rows
abbrev Key:=Sum Int Str
def mT:Key->GZ->Bool
 | .inl k,v=>Value.isInt k v
 | .inr x,v=>Value.isStrOf x v
def keyH (w:HS):Key->Int
 | .inl k=>hashInt k
 | .inr x=>hashStr w x
theorem bR:∀{k:Key} {v:GZ},mT k v=true->(∃i t,k=Nd i/\v=Ji i t)\/(∃x t,k=Nf x/\v=IG x t)
 | .inl i,v,h=>by
  obtain⟨t,e⟩:=Value.isInt_shape (k:=i) (v:=v) h
  exact .inl ⟨i,t,rfl,e⟩
 | .inr x,v,h=>by
  obtain⟨t,e⟩:=Value.isStrOf_shape (x:=x) (v:=v) h;exact .inr ⟨x,t,rfl,e⟩
theorem tZ (i:Int)(t:Tok):mT (.inl i) (.int i t)=true:=by simp[mT,Value.isInt]
theorem tY (x:Str)(t:Tok):mT (.inr x) (.str x t)=true:=by simp[mT,Value.isStrOf]
theorem Cf (a b:Int):decide ((Nd a:Key)=Nd b)=(a == b):=by
 by_cases e:a=b
 ·subst e;simp
 ·have h:¬ (Nd a:Key)=Nd b:=λq=>e (Nd.inj q)
  rw[decide_eq_false h];exact(beq_eq_false_iff_ne.mpr e).symm
theorem Cc (a b:Str):decide ((Nf a:Key)=Nf b)=decide (a=b):=by
 by_cases e:a=b
 ·subst e;simp
 ·have h:¬ (Nf a:Key)=Nf b:=λq=>e (Nf.inj q)
  rw[decide_eq_false h,decide_eq_false e]
theorem Ce (a:Int)(b:Str):decide ((Nd a:Key)=Nf b)=false:=decide_eq_false (λq=>nomatch q)
theorem Cd (a:Str)(b:Int):decide ((Nf a:Key)=Nd b)=false:=decide_eq_false (λq=>nomatch q)
def du (prog:Hr)(w:HS):PySem.KeyKind prog w Key where
 is:=mT
 hash:=keyH w
 inj:=λv a b ha hb=>by
  rcases bR ha with⟨i,t,rfl,rfl⟩ | ⟨x,t,rfl,rfl⟩
  ·rcases bR hb with⟨j,u,rfl,e⟩ | ⟨y,u,rfl,e⟩
   ·injection e with e1 _;rw[e1]
   ·exact nomatch e
  ·rcases bR hb with⟨j,u,rfl,e⟩ | ⟨y,u,rfl,e⟩
   ·exact nomatch e
   ·injection e with e1 _;rw[e1]
 byValue:=λk v h=>by
  rcases bR h with⟨i,t,rfl,rfl⟩ | ⟨x,t,rfl,rfl⟩ <;> rfl
 pyHash:=λhv h=>by
  rcases bR hv with⟨i,t,rfl,rfl⟩ | ⟨x,t,rfl,rfl⟩
  ·exact wpAny_pyHash_int h
  ·exact wpAny_pyHash_str h
 eqBool:=λhu hv h=>by
  rcases bR hu with⟨i,t,rfl,rfl⟩ | ⟨x,t,rfl,rfl⟩
  ·rcases bR hv with⟨j,u,rfl,rfl⟩ | ⟨y,u,rfl,rfl⟩
   ·rw[Cf]at h;exact wpAny_eqBool_int h
   ·rw[Ce]at h;exact SeqAt.EqAt.int_str i t y u _ _ _ _ h
  ·rcases bR hv with⟨j,u,rfl,rfl⟩ | ⟨y,u,rfl,rfl⟩
   ·rw[Cd]at h;exact SeqAt.EqAt.str_int x t j u _ _ _ _ h
   ·rw[Cc]at h;exact wpAny_eqBool_str h
 «strs»:=λk x t v h=>by
  rcases bR h with⟨i,u,rfl,e⟩ | ⟨y,u,rfl,e⟩
  ·exact nomatch e
  ·injection e with e1 _
   subst e1;cases v <;> rfl
theorem pK (prog:Hr)(w:HS)(i:Int)(t:Tok):(du prog w).is (.inl i) (.int i t)=true:=tZ i t
theorem pJ (prog:Hr)(w:HS)(x:Str)(t:Tok):(du prog w).is (.inr x) (.str x t)=true:=tY x t
def RelV:V->GZ->Prop
 | .non,u=>u=HQ
 | .bl b,u=>u=Ia b
 | .int i,u=> ∃t,u=Ji i t
 | .str x,u=> ∃t,u=IG x t
 | .byt b,u=> ∃t,u=Value.bytes b t
 | .flt b,u=> ∃t,u=Value.float b t
 | .ref a,u=>u=HD a
 | .ty n,u=>u=J0 n
abbrev Vals:List V->List GZ->Prop:=O9 RelV
theorem Vals.length {xs:List V}{us:List GZ}(r:Vals xs us):xs.length=us.length:=Paired.length r
theorem Vals.get:∀{xs:List V} {us:List GZ} {i:Nat} {x:V},Vals xs us->xs[i]? =some x->∃u,us[i]? =some u/\RelV x u
 | _,_,_,_,.nil,e=>by simp at e
 | _,_,0,_,.cons r _,e=>by simp at e;subst e;exact⟨_,rfl,r⟩
 | _,_,i+1,x,.cons _ t,e=>by
  obtain⟨u,h1,h2⟩:=Vals.get (i:=i) (x:=x) t (by simpa using e)
  exact⟨u,by simpa using h1,h2⟩
theorem Vals.append:∀{xs ys:List V} {us ws:List GZ},Vals xs us->Vals ys ws->Vals (xs++ys) (us++ws)
 | _,_,_,_,.nil,s=>s
 | _,_,_,_,.cons r t,s=> .cons r (Vals.append t s)
theorem Vals.take:∀{xs:List V} {us:List GZ} (n:Nat),Vals xs us->Vals (xs.take n) (us.take n)
 | _,_,0,_=> .nil
 | _,_,_+1,.nil=> .nil
 | _,_,n+1,.cons r t=> .cons r (Vals.take n t)
theorem Vals.drop:∀{xs:List V} {us:List GZ} (n:Nat),Vals xs us->Vals (xs.drop n) (us.drop n)
 | _,_,0,r=>r
 | _,_,_+1,.nil=> .nil
 | _,_,n+1,.cons _ t=>Vals.drop n t
def RelO:Option V->Option GZ->Prop
 | some v,some u=>RelV v u
 | none,none=>True
 | _,_=>False
def KV {κ:Type}:List (κ×V)->List (κ×GZ)->Prop:=O9 λ(p:κ×V) (q:κ×GZ)=>p.1=q.1/\RelV p.2 q.2
def kV:Key->V
 | .inl i=> .int i
 | .inr x=> .str x
inductive HO where
 /-- a list -/
 | lst (xs:List V)
 /-- a tuple (never changes) -/
 | tup (xs:List V)
 /-- a dict whose keys are ints and texts;one whose keys are tuples of ints and texts (the empty one is both) -/
 | dK (kvs:List (Key×V)) | dT (kvs:List (List Key×V))
 /-- a set of ints: its members,its size -/
 | set (S:Int->Bool) (n:Nat)
 /-- an instance of the class at C,its dict at dx,its attributes -/
 | ins (C dx:Addr) (fs:List (Str×V))
 /-- the dict of the instance at x -/
 | own (x:Addr)
 /-- the dict of an exception -/
 | xd (fs:List (Str×V))
 /-- a bound method,f of x -/
 | met (f x:Addr)
 /-- a range object lo,lo+1,.. below hi -/
 | rng (lo hi:Int)
 /-- a thing that is known to the object (the script;a dict while a loop walks it): read,never written while it is so -/
 | frz (o:Obj) (u:HO)
 /-- a code object's table -/
 | tbl (ps:Array GZ)
 /-- any other thing,by what is true of its one object (a def of one's own: SetO a S n:=HO.ext λh=> ..) -/
 | ext (φ:Heap->Prop)
abbrev Hp:=Addr->Option HO
def cz (H:Hp)(a:Addr)(o:HO):Hp:=λb=>if b=a then some o else H b
theorem aT {H:Hp}{a:Addr}{o:HO}:cz H a o a=some o:=by unfold cz;rw[if_pos rfl]
theorem aN {H:Hp}{a b:Addr}{o:HO}(h:b≠a):cz H a o b=H b:=by unfold cz;rw[if_neg h]
theorem kC {H:Hp}{a:Addr}{o u:HO}:cz (cz H a o) a u=cz H a u:=by
 funext b;unfold cz;split <;> rfl
theorem AB {H:Hp}{a b:Addr}{o u:HO}(h:H a=some o)(h':H b=some u)(d:o≠u):a≠b:=by
 intro e;subst e;rw[h]at h';exact d (HW h')
theorem bO {H:Hp}{a b:Addr}{o:HO}(h:H a=some o)(h':H b=none):a≠b:=by
 intro e;subst e;rw[h]at h';cases h'
section
variable (P:Hr)(w:HS)
def ObjOk (H:Hp)(h:Heap)(a:Addr):HO->Prop
 | .lst xs=>xs.length<=sizeLine/\∃(its:List GZ) (n:Nat),Vals xs its/\h.get? a=some { cls:=.type "list",data:=.seq its.toArray n }
 | .tup xs=>xs.length<=sizeLine/\∃its:List GZ,Vals xs its/\Pa h a its.toArray
 | .dK kvs=>kvs.length<=sizeLine/\(a == KR)=false/\∃vs,KV kvs vs/\h.DictOf (du P w) a vs
 | .dT kvs=>kvs.length<=sizeLine/\(a == KR)=false/\∃xs:List (List Key×Addr×GZ),
   O9 (λ(p:List Key×V) (q:List Key×Addr×GZ)=>p.1=q.1/\H q.2.1=some (.tup (p.1.map kV))/\RelV p.2 q.2.2) kvs xs ∧
   ∃o es ep,h.get? a=some o/\o.ExactDict/\o.data= .dict es ep/\es.toList=xs.map (entryOfKey (MR (du P w)))/\(xs.map (·.1)).Nodup
 | .set S n=>h.SetOf (intKind P w) a S n
 | .ins C dx fs=>H dx=some (.own a)/\fs.length<=1000/\dx≠a/\h.get? a=some (Mz C dx) ∧
   ∃mA,h.Ns1 dx mA/\(∀f,RelO (fs.lookup f) (mA f))/\PySem.Within mA (fs.map (·.1))
 | .own _=> ∃o,h.get? a=some o
 | .xd fs=> ∃mA,h.Ns1 a mA/\∀f,RelO (fs.lookup f) (mA f)
 | .rng lo hi=> ∃t u v,h.get? a=some { cls:=.type "range",data:=.fields #[.int lo t,.int hi u,.int 1 v] }
 | .frz o u=>h.get? a=some o/\ObjOk H h a u
 | .tbl ps=>h.get? a=some { cls:=.none,data:=.fields ps }
 | .met f x=>h.get? a=some (LV (.ref f) (.ref x))
 | .ext φ=>φ h/\(∃o,h.get? a=some o)/\∀h1 h2:Heap,φ h1->(∀o,h1.get? a=some o->h2.get? a=some o)->φ h2
def HOk (H:Hp)(h:Heap):Prop:=∀a o,H a=some o->ObjOk P w H h a o
end
section
variable {P:Hr}{w:HS}{H H':Hp}{h h':Heap}{a:Addr}{o:HO}
theorem ObjOk.lt (x:ObjOk P w H h a o):a<h.objs.size:=by
 cases o with
 | lst xs=>obtain⟨_,_,_,_,e⟩:=x;exact Hf e
 | tup xs=>obtain⟨_,_,_,p⟩:=x;exact p.lt
 | dK kvs=>obtain⟨_,_,_,_,o,_,_,e,_⟩:=x;exact Hf e
 | dT kvs=>obtain⟨_,_,_,_,o,_,_,e,_⟩:=x;exact Hf e
 | set S n=>obtain⟨o,_,_,_,e,_⟩:=x;exact Hf e
 | ins C dx fs=>obtain⟨_,_,_,e,_⟩:=x;exact Hf e
 | own y=>obtain⟨_,e⟩:=x;exact Hf e
 | xd fs=>obtain⟨_,⟨_,_,_,e,_⟩,_⟩:=x;exact Hf e
 | rng lo hi=>obtain⟨_,_,_,e⟩:=x;exact Hf e
 | frz ob u=>obtain⟨e,_⟩:=x;exact Hf e
 | tbl ps=>exact Hf (show h.get? a=some _ from x)
 | met f y=>exact Hf (show h.get? a=some _ from x)
 | ext φ=>obtain⟨_,⟨_,e⟩,_⟩:=x;exact Hf e
theorem Paired.Gw {α β:Type}{F G:α->β->Prop}:∀{l₁:List α} {l₂:List β},O9 F l₁ l₂->(∀a b,F a b->G a b)->O9 G l₁ l₂
 | _,_,.nil,_=> .nil
 | _,_,.cons r t,f=> .cons (f _ _ r) (Paired.Gw t f)
theorem ObjOk.FT (x:ObjOk P w H h a o)(k:∀b u,(b=a\/H b=some (.own a))->h.get? b=some u->h'.get? b=some u)
  (ho:∀b,H b=some (.own a)->H' b=some (.own a)) (ht:∀b xs,H b=some (.tup xs)->H' b=some (.tup xs)):ObjOk P w H' h' a o:=by
 induction o with
 | lst xs=>obtain⟨z,its,n,r,e⟩:=x;exact⟨z,its,n,r,k _ _ (.inl rfl) e⟩
 | tup xs=>obtain⟨z,its,r,ob,e,c⟩:=x;exact⟨z,its,r,ob,k _ _ (.inl rfl) e,c⟩
 | dK kvs=>obtain⟨z,y,vs,r,ob,es,ep,e,c⟩:=x;exact⟨z,y,vs,r,ob,es,ep,k _ _ (.inl rfl) e,c⟩
 | dT kvs=>
  obtain⟨z,y,xs,r,ob,es,ep,e,c⟩:=x
  exact⟨z,y,xs,Paired.Gw r λp q z=>⟨z.1,ht _ _ z.2.1,z.2.2⟩,ob,es,ep,k _ _ (.inl rfl) e,c⟩
 | set S n=>obtain⟨ob,es,ep,t,e,c⟩:=x;exact⟨ob,es,ep,t,k _ _ (.inl rfl) e,c⟩
 | ins C dx fs=>
  obtain⟨d,z,ne,e,mA,⟨od,es,ep,e2,c⟩,r⟩:=x
  exact⟨ho _ d,z,ne,k _ _ (.inl rfl) e,mA,⟨od,es,ep,k _ _ (.inr d) e2,c⟩,r⟩
 | own y=>obtain⟨ob,e⟩:=x;exact⟨ob,k _ _ (.inl rfl) e⟩
 | xd fs=>obtain⟨mA,⟨od,es,ep,e,c⟩,r⟩:=x;exact⟨mA,⟨od,es,ep,k _ _ (.inl rfl) e,c⟩,r⟩
 | rng lo hi=>obtain⟨t,u,v,e⟩:=x;exact⟨t,u,v,k _ _ (.inl rfl) e⟩
 | frz ob u ih=>obtain⟨e,q⟩:=x;exact⟨k _ _ (.inl rfl) e,ih q⟩
 | tbl ps=>
  have e:h.get? a=some { cls:=.none,data:=.fields ps }:=x
  show h'.get? a=some { cls:=.none,data:=.fields ps }
  exact k a _ (.inl rfl) e
 | met f y=>
  have e:h.get? a=some (LV (.ref f) (.ref y)):=x
  show h'.get? a=some (LV (.ref f) (.ref y))
  exact k a _ (.inl rfl) e
 | ext φ=>obtain⟨p,⟨o,e⟩,st⟩:=x;exact⟨st _ _ p λo q=>k _ _ (.inl rfl) q,⟨o,k _ _ (.inl rfl) e⟩,st⟩
theorem HOk.lt (x:HOk P w H h)(e:H a=some o):a<h.objs.size:=(x a o e).lt
theorem HOk.fresh (x:HOk P w H h)(e:h.objs.size<=a):H a=none:=by
 cases q:H a with
 | none=>rfl
 | some u=>exact absurd (Hl (x.lt q) e) (HB _)
theorem HOk.kept (x:HOk P w H h)(k:∀b u,h.get? b=some u->h'.get? b=some u):HOk P w H h':=λa o e=>
 (x a o e).FT (λb u _ q=>k b u q) (λ_ q=>q) λ_ _ q=>q
theorem HOk.laid (x:HOk P w H h)(k:∀b u,h.get? b=some u->h'.get? b=some u)(hp:h.objs.size<=a)(new:ObjOk P w (cz H a o) h' a o):HOk P w (cz H a o) h':=λb u e=>by
 have hn:=x.fresh hp
 by_cases hb:b=a
 ·subst hb;rw[aT]at e;cases e;exact new
 ·rw[aN hb]at e
  exact(x b u e).FT (λc v _ q=>k c v q) (λc q=>by rw[aN (bO q hn)];exact q) λc xs q=>by rw[aN (bO q hn)];exact q
end
def Rd (H:Hp)(a:Addr)(u:HO):Prop:=H a=some u\/∃o,H a=some (.frz o u)
theorem Rd.ok {P:Hr}{w:HS}{H:Hp}{h:Heap}{a:Addr}{u:HO}(r:Rd H a u)(x:HOk P w H h):ObjOk P w H h a u:=by
 rcases r with r | ⟨o,r⟩
 ·exact x a u r
 ·obtain⟨_,q⟩:=x a _ r
  exact q
def Fo:Option HO->Prop
 | some (.lst _)=>True
 | some (.dK _)=>True
 | some (.dT _)=>True
 | some (.set _ _)=>True
 | some (.ins _ _ _)=>True
 | some (.ext _)=>True
 | _=>False
section
variable {P:Hr}{w:HS}{H:Hp}{h h':Heap}{x e:Addr}{o':HO}
theorem HOk.write (ok:HOk P w H h)(mu:Fo (H x))(he:e=x\/H e=some (.own x))(k:∀b u,b≠e->h.get? b=some u->h'.get? b=some u)(heo:∃u,h'.get? e=some u)
  (new:ObjOk P w (cz H x o') h' x o'):HOk P w (cz H x o') h':=λb u q=>by
 have nown:∀c y,H c=some (.own y)->c≠x:=λc y r z=>by subst z;rw[r]at mu;exact mu
 have ntup:∀c xs,H c=some (.tup xs)->c≠x:=λc xs r z=>by subst z;rw[r]at mu;exact mu
 by_cases hb:b=x
 ·subst hb;rw[aT]at q;cases q;exact new
 ·rw[aN hb]at q
  by_cases hbe:b=e
  ·have q':H b=some (.own x):=by
    rcases he with z | z
    ·exact absurd (hbe.trans z) hb
    ·rw[hbe];exact z
   rw[q]at q';cases q';obtain⟨v,hv⟩:=heo;exact⟨v,by rw[hbe];exact hv⟩
  ·refine(ok b u q).FT (λc v hc r=>k c v ?_ r) (λc r=>by rw[aN (nown c b r)];exact r) λc xs r=>by rw[aN (ntup c xs r)];exact r
   rcases hc with rfl | hc
   ·exact hbe
   ·rintro rfl
    rcases he with z | z
    ·exact nown c b hc z
    ·rw[hc]at z;cases z;exact hb rfl
end
structure Un (fs ex:List Addr)(H H':Hp)(h h':Heap):Prop where
 keep:∀b o,h.get? b=some o->H b=none->b∉fs->b∉ex->h'.get? b=some o
 slot:∀b o,h.get? b=some o->H b=none->b∈fs->b∉ex->∃sl,h'.get? b=some { o with slots:=sl }
 free:∀b o,h.get? b=some o->H b=none->b∉ex->H' b=none
 there:∀b o,h.get? b=some o->b∉ex->∃o',h'.get? b=some o'
 tups:∀b xs,H b=some (.tup xs)->H' b=some (.tup xs)
 frzs:∀b o u,H b=some (.frz o u)->H' b=some (.frz o u)
 tbls:∀b ps,H b=some (.tbl ps)->∃more,H' b=some (.tbl (ps++more))
section
variable {fs fs' ex ex':List Addr}{H H1 H2:Hp}{h h1 h2 h':Heap}{a x e:Addr}{o:HO}
theorem Un.any (u:Un fs ex H H1 h h1){b:Addr}{ob:Obj}(q:h.get? b=some ob)(n:H b=none)(hx:b∉ex):∃sl,h1.get? b=some { ob with slots:=sl }:=by
 by_cases hb:b∈fs
 ·exact u.slot b ob q n hb hx
 ·exact⟨ob.slots,u.keep b ob q n hb hx⟩
theorem Un.kept (k:∀b u,h.get? b=some u->h'.get? b=some u):Un fs ex H H h h':=
 ⟨λb ob q _ _ _=>k b ob q,λb ob q _ _ _=>⟨ob.slots,k b ob q⟩,λ_ _ _ n _=>n,λb ob q _=>⟨ob,k b ob q⟩,λ_ _ q=>q,λ_ _ _ q=>q,λ_ ps q=>⟨#[],by rw[q];simp⟩⟩
theorem Un.refl:Un fs ex H H h h:=Un.kept λ_ _ q=>q
theorem Un.laid (k:∀b u,h.get? b=some u->h'.get? b=some u)(hp:h.objs.size<=a)(hn:H a=none):Un fs ex H (cz H a o) h h' where
 keep:=λb u q _ _ _=>k b u q
 slot:=λb u q _ _ _=>⟨u.slots,k b u q⟩
 free:=λb u q n _=>by rw[aN (Iz (Hl (Hf q) hp))];exact n
 there:=λb u q _=>⟨u,k b u q⟩
 tups:=λb xs q=>by rw[aN (bO q hn)];exact q
 frzs:=λb u xs q=>by rw[aN (bO q hn)];exact q
 tbls:=λb ps q=>⟨#[],by rw[aN (bO q hn),q];simp⟩
theorem Un.write (mu:Fo (H x))(he:e=x\/H e=some (.own x))(k:∀b u,b≠e->h.get? b=some u->h'.get? b=some u)(heo:∃u,h'.get? e=some u):Un fs ex H (cz H x o) h h':=by
 have hx:∀b,H b=none->b≠x:=λb n z=>by subst z;rw[n]at mu;exact mu
 have hb:∀b,H b=none->b≠e:=λb n z=>by
  subst z;rcases he with r | r
  ·exact hx b n r
  ·rw[n]at r;cases r
 have hm:∀b u,H b=some u->¬ Fo (some u)->b≠x:=λb u q nm z=>by subst z;rw[q]at mu;exact nm mu
 refine⟨λb u q n _ _=>k b u (hb b n) q,λb u q n _ _=>⟨u.slots,k b u (hb b n) q⟩,λb u q n _=>by rw[aN (hx b n)];exact n,λb u q _=> ?_,
  λb xs q=>by rw[aN (hm b _ q λz=>z)];exact q,λb u xs q=>by rw[aN (hm b _ q λz=>z)];exact q,λb ps q=>⟨#[],by rw[aN (hm b _ q λz=>z),q];simp⟩⟩
 by_cases hbe:b=e
 ·subst hbe;exact heo
 ·exact⟨u,k b u hbe q⟩
end
def trk (h:Heap)(H:Hp):List Addr:=(Io h.objs.size).filter λa=>(H a).isSome
def oj (h:Heap)(H:Hp):Heap:=MA h (trk h H)
theorem uf (h:Heap)(H:Hp):(oj h H).objs.size=h.objs.size:=PySem.W.hideAll_size _ _
theorem w6 {h:Heap}{H:Hp}{b:Addr}{o:Obj}(e:h.get? b=some o)(n:H b=none):(oj h H).get? b=some o:=
 JU _ e λhm=>by
  have q:(H b).isSome=true:=(JM.mp hm).2;rw[n]at q;simp at q
theorem y1 {h:Heap}{H:Hp}{b:Addr}{o:Obj}(e:(oj h H).get? b=some o):h.get? b=some o/\H b=none:=by
 have e':h.get? b=some o:=Lx (trk h H) e;refine⟨e',?_⟩
 cases q:H b with
 | none=>rfl
 | some x=>
  have hm:b∈trk h H:=JM.mpr ⟨IP.mpr (Hf e'),by simp[q]⟩
  have z:(oj h H).get? b=none:=K7 (trk h H) hm;rw[z]at e;cases e
def Ad (g h:Heap)(L:Addr):List (Addr×Obj):=(Io h.objs.size).filterMap λa=>if a=L\/(g.get? a).isSome=true then none else(h.get? a).map λo=>(a,o)
def a9 (g h:Heap)(L d:Addr):List (Addr×Obj):=(Ad g h L).filter λp=>decide (p.1≠d)
structure Mod (K:GW)(mg:Str->Option GZ)(base:Heap):Prop where
 kin:K.In base
 glob:base.Ns HL mg
 blt:∃mb,base.Ns Lh mb/\∀x:Str,x≠ "__name__"->mb x=HA x
 nolimit:base.NoLimit
structure Cx where
 prog:Hr
 w:HS
 K:GW
 mg:Str->Option GZ
 base:Heap
 A:HF
 N:List Str
 s₀:GX
 H₀:Hp
 env:Env
 outer:List Env
 stack:List Env
 ex:List Addr
 fn:Str->Bool
 calm:Bool
 pn:List (Addr×Obj)
 xe:GZ->GX->Prop
def iU (l:List Env):List Addr:=l.filterMap (·.frame)
abbrev Cx.fs (X:Cx):List Addr:=iU X.outer
def rz (sc:J8)(x:Str):Prop:=sc.names.lookup x=some .local\/sc.names.lookup x=some .cell\/sc.names.lookup x=some .free
def Loc (sc:J8)(x:Str):Prop:=sc.names.lookup x=some .local\/sc.names.lookup x=some .cell
def Look (env:Env)(h:Heap)(m:Str->Option GZ)(x:Str)(u:GZ):Prop:=
 (env.kindOf x=some .local/\m x=some u)\/((env.kindOf x=some .cell\/env.kindOf x=some .free)/\∃c,env.cells.lookup x=some c/\h.IsCell c (some u))
structure Cx.Ok (X:Cx):Prop where
 mod:Mod X.K X.mg X.base
 kind:X.env.scope.kind= .function
 glob:X.env.globals=HL
 blt:X.env.builtins=Lh
 above:X.s₀.heap.objs.size<=X.env.locals
 inj:∀x y c,X.env.cells.lookup x=some c->X.env.cells.lookup y=some c->x=y
 has:∀x,(X.env.kindOf x=some .cell\/X.env.kindOf x=some .free)->∃c,X.env.cells.lookup x=some c
 cab:∀x c,X.fn x=true->X.env.cells.lookup x=some c->X.s₀.heap.objs.size<=c
 hd:X.calm=true->X.A.handled=none
 frames:X.A.frames=some X.stack
 stk:X.stack=X.outer\/(X.stack=X.env::X.outer/\X.env.frame=some X.env.locals)
 exf:∀b∈X.ex,b≠X.env.locals/\∀x c,X.env.cells.lookup x=some c->c≠b
 bs:∀b o,X.base.get? b=some o->X.s₀.heap.get? b=some o/\X.H₀ b=none
 bsz:X.base.objs.size<=X.s₀.heap.objs.size
 noex:∀b o,X.base.get? b=some o->b∉X.ex
 exfs:∀b∈X.ex,b∉X.fs
 funs:X.s₀.heap.FunFrames X.base X.outer
 frf:∀b∈X.fs,X.H₀ b=none
structure Inv (X:Cx)(pins:List (Addr×Obj))(σ:List (Option V))(H:Hp)(s:GX):Prop where
 ok:X.Ok
 os:s.os=X.s₀.os
 bare:MS s.gens
 base:Un X.fs X.ex X.H₀ H X.s₀.heap s.heap
 loc:∃m,s.heap.Ns X.env.locals m/\∀(i:Nat) (x:Str) (v:V),X.N[i]? =some x->σ[i]? =some (some v)->rz X.env.scope x->∃u,RelV v u/\Look X.env s.heap m x u
 cell:∀x c,X.env.cells.lookup x=some c->∃v,s.heap.IsCell c v
 free:H X.env.locals=none
 freeC:∀x c,X.env.cells.lookup x=some c->H c=none
 pin:∀p∈X.pn++pins,s.heap.get? p.1=some p.2/\H p.1=none/\p.1≠X.env.locals/\p.1∉X.fs/\∀v,p.2.data≠ .cell v
 hok:HOk X.prog X.w H s.heap
 len:σ.length=X.N.length
section
variable {X:Cx}{pins:List (Addr×Obj)}{σ:List (Option V)}{H H':Hp}{s:GX}{h':Heap}
theorem Cx.Ok.GV (ok:X.Ok){b:Addr}{o:Obj}(e:X.base.get? b=some o):b∉X.fs:=λhb=>by
 have:=(ok.funs.mem hb).1;rw[e]at this;cases this
theorem Inv.bs (I:Inv X pins σ H s):∀b o,X.base.get? b=some o->s.heap.get? b=some o/\H b=none:=λb o e=>
 ⟨I.base.keep b o (I.ok.bs b o e).1 (I.ok.bs b o e).2 (I.ok.GV e) (I.ok.noex b o e),I.base.free b o (I.ok.bs b o e).1 (I.ok.bs b o e).2 (I.ok.noex b o e)⟩
theorem Inv.bk (I:Inv X pins σ H s):∀b o,X.base.get? b=some o->s.heap.get? b=some o:=λb o e=>(I.bs b o e).1
theorem Inv.mod (I:Inv X pins σ H s):Mod X.K X.mg X.base:=I.ok.mod
theorem Inv.kIn (I:Inv X pins σ H s):X.K.In s.heap:=I.ok.mod.kin.keeps I.bk
theorem Inv.lt (I:Inv X pins σ H s):X.env.locals<s.heap.objs.size:=let ⟨_,hn,_⟩:=I.loc;hn.lt
theorem Inv.sz (I:Inv X pins σ H s):X.s₀.heap.objs.size<=s.heap.objs.size:=Hz I.ok.above (Ko I.lt)
theorem Inv.GP (I:Inv X pins σ H s){a:Addr}(h:s.heap.objs.size<=a):a∉X.fs:=λhb=>by
 obtain⟨_,o,ho,_⟩:=I.ok.funs.mem hb;exact absurd (Hl (Hf ho) (Hz I.sz h)) (HB _)
theorem Inv.cne (I:Inv X pins σ H s):∀x c,X.env.cells.lookup x=some c->c≠X.env.locals:=λx c e z=>by
 obtain⟨v,o,ho,hd⟩:=I.cell x c e;obtain⟨m,⟨o',es,ep,ho',hd',_⟩,_⟩:=I.loc;rw[z,ho']at ho;cases ho;rw[hd']at hd;cases hd
theorem Inv.funs (I:Inv X pins σ H s):s.heap.FunFrames X.base X.outer:=by
 have all:∀(l:List Env),(∀b∈iU l,b∈X.fs)->X.s₀.heap.FunFrames X.base l->s.heap.FunFrames X.base l:=by
  intro l
  induction l with
  | nil=>intro _ _;trivial
  | cons env r ih=>
   intro hs hl;obtain⟨hk,⟨L,o,hf,hn,ho,hd⟩,hr⟩:=hl
   have hL:L∈X.fs:=hs L (by unfold iU;rw[Ja,hf];exact G7)
   obtain⟨sl,e⟩:=I.base.slot L o ho (I.ok.frf L hL) hL λz=>I.ok.exfs L z hL
   exact⟨hk,⟨L,_,hf,hn,e,hd⟩,ih (λb hb=>hs b (by unfold iU;rw[Ja,hf];exact G5 _ hb)) hr⟩
 exact all X.outer (λ_ hb=>hb) I.ok.funs
theorem Inv.stack (I:Inv X pins σ H s):s.heap.FunFrames X.base X.stack:=by
 rcases I.ok.stk with e | ⟨e,hf⟩
 ·rw[e];exact I.funs
 ·rw[e]
  obtain⟨m,hn,_⟩:=I.loc;refine .cons (by rw[I.ok.kind];decide) hf hn ?_ I.funs
  exact Heap.get?_none_of_le (Hz I.ok.bsz I.ok.above)
theorem Inv.FZ (I:Inv X pins σ H s):∀b∈iU X.stack,b∈X.env.locals::X.fs:=λb hb=>by
 rcases I.ok.stk with e | ⟨e,hf⟩
 ·rw[e]at hb;exact G5 _ hb
 ·rw[e]at hb
  unfold iU at hb;rw[Ja,hf]at hb;exact hb
theorem Inv.FR (I:Inv X pins σ H s):∀b∈iU X.stack,H b=none:=λb hb=>by
 rcases Hd.mp (I.FZ b hb)with e | hb
 ·rw[e];exact I.free
 ·obtain⟨_,o,ho,_⟩:=I.ok.funs.mem hb
  exact I.base.free b o ho (I.ok.frf b hb) λz=>I.ok.exfs b z hb
theorem Inv.step {g':Array OK}{t':Nat}{d':O8}{ch:List Addr}(I:Inv X pins σ H s)
  (hch:∀b∈ch,(b∈X.ex\/X.s₀.heap.objs.size<=b)/\b≠X.env.locals/\(∀x c,X.env.cells.lookup x=some c->c≠b)/\∀p∈X.pn++pins,p.1≠b)
  (keep:∀b o,b≠X.env.locals->b∉X.fs->b∉ch->s.heap.get? b=some o->H b=none->h'.get? b=some o)
  (slot:∀b o,b≠X.env.locals->b∈X.fs->b∉ch->s.heap.get? b=some o->H b=none->∃sl,h'.get? b=some { o with slots:=sl }) (free:∀b o,b∉ch->s.heap.get? b=some o->H b=none->H' b=none)
  (there:∀b o,b∉ch->s.heap.get? b=some o->∃o',h'.get? b=some o')
  (tups:∀b xs,H b=some (.tup xs)->H' b=some (.tup xs)) (frzs:∀b o u,H b=some (.frz o u)->H' b=some (.frz o u)) (tbls:∀b ps,H b=some (.tbl ps)->∃more,H' b=some (.tbl (ps++more)))
  (ns:∀m,s.heap.Ns X.env.locals m->h'.Ns X.env.locals m) (hok:HOk X.prog X.w H' h') (hg:MS g') :
  Inv X pins σ H' { s with heap:=h',gens:=g',drawn:=d',toks:=t' }:=by
 have neL:∀b o,X.s₀.heap.get? b=some o->b≠X.env.locals:=λb o e=>Iz (Hl (Hf e) I.ok.above)
 have neC:∀b o,X.s₀.heap.get? b=some o->b∉X.ex->b∉ch:=λb o e hx hb=>by
  rcases(hch b hb).1 with z | z
  ·exact hx z
  ·exact absurd (Hl (Hf e) z) (HB _)
 have cellK:∀x c,X.env.cells.lookup x=some c->∀v,s.heap.IsCell c v->h'.IsCell c v:=λx c e v hh_=>by
  obtain⟨o,ho,hd⟩:=hh_
  have nch:c∉ch:=λz=>(hch c z).2.2.1 x c e rfl
  by_cases hc:c∈X.fs
  ·obtain⟨sl,q⟩:=slot c o (I.cne x c e) hc nch ho (I.freeC x c e)
   exact⟨_,q,hd⟩
  ·exact⟨o,keep c o (I.cne x c e) hc nch ho (I.freeC x c e),hd⟩
 refine⟨I.ok,I.os,hg,⟨λb o e n hb hx=> ?_,λb o e n hb hx=> ?_,λb o e n hx=> ?_,λb o e hx=> ?_,λb xs e=>tups b xs (I.base.tups b xs e),λb o xs e=>frzs b o xs (I.base.frzs b o xs e),λb ps e=> ?_⟩,?_,λx c e=> ?_,?_,λx c e=> ?_,λp hp=> ?_,hok,I.len⟩
 ·exact keep b o (neL b o e) hb (neC b o e hx) (I.base.keep b o e n hb hx) (I.base.free b o e n hx)
 ·obtain⟨sl,e1⟩:=I.base.slot b o e n hb hx
  obtain⟨sl',e2⟩:=slot b _ (neL b o e) hb (neC b o e hx) e1 (I.base.free b o e n hx);exact⟨sl',e2⟩
 ·obtain⟨o',e1⟩:=I.base.there b o e hx
  exact free b o' (neC b o e hx) e1 (I.base.free b o e n hx)
 ·obtain⟨o',e1⟩:=I.base.there b o e hx
  exact there b o' (neC b o e hx) e1
 ·obtain⟨m1,e1⟩:=I.base.tbls b ps e
  obtain⟨m2,e2⟩:=tbls b _ e1;exact⟨m1++m2,by rw[e2,Array.append_assoc]⟩
 ·obtain⟨m,hn,hl⟩:=I.loc
  refine⟨m,ns m hn,λi x v e1 e2 e3=> ?_⟩
  obtain⟨u,r,l⟩:=hl i x v e1 e2 e3;refine⟨u,r,?_⟩
  rcases l with l | ⟨k,c,e,z⟩
  ·exact .inl l
  ·exact .inr ⟨k,c,e,cellK x c e _ z⟩
 ·obtain⟨v,z⟩:=I.cell x c e
  exact⟨v,cellK x c e v z⟩
 ·obtain⟨m,⟨o,_,_,ho,_⟩,_⟩:=I.loc
  exact free _ o (λz=>(hch _ z).2.1 rfl) ho I.free
 ·obtain⟨v,o,ho,hd⟩:=I.cell x c e
  exact free c o (λz=>(hch c z).2.2.1 x c e rfl) ho (I.freeC x c e)
 ·obtain⟨e,n,ne,nf,d⟩:=I.pin p hp
  have nch:p.1∉ch:=λz=>(hch p.1 z).2.2.2 p hp rfl
  exact⟨keep p.1 p.2 ne nf nch e n,free p.1 p.2 nch e n,ne,nf,d⟩
theorem Inv.un {t':Nat}(I:Inv X pins σ H s)(u:Un X.fs [] H H' s.heap h')(hok:HOk X.prog X.w H' h'):Inv X pins σ H' { s with heap:=h',toks:=t' }:=by
 obtain⟨m,⟨o,es,ep,ho,r⟩,_⟩:=id I.loc;obtain⟨sl,hL⟩:=u.any ho I.free (by simp)
 exact I.step (g':=s.gens) (d':=s.drawn) (ch:=[]) (λ_ z=>nomatch z) (λb o _ hb _ e n=>u.keep b o e n hb (by simp)) (λb o _ hb _ e n=>u.slot b o e n hb (by simp)) (λb o _ e n=>u.free b o e n (by simp)) (λb o _ e=>u.there b o e (by simp)) u.tups u.frzs u.tbls (λm' hm=>by
  obtain⟨o',es',ep',ho',r'⟩:=hm;rw[ho]at ho';cases ho';exact⟨_,es',ep',hL,r'⟩) hok I.bare
theorem Inv.call {g':Array OK}{t':Nat}{d':O8}{ch:List Addr}(I:Inv X pins σ H s)(u:Un (iU X.stack) ch H H' s.heap h')(hok:HOk X.prog X.w H' h')(hg:MS g')
  (hch:∀b∈ch,(b∈X.ex\/X.s₀.heap.objs.size<=b)/\b≠X.env.locals/\(∀x c,X.env.cells.lookup x=some c->c≠b)/\∀p∈X.pn++pins,p.1≠b) :
  Inv X pins σ H' { s with heap:=h',gens:=g',drawn:=d',toks:=t' }:=by
 obtain⟨m,⟨o,es,ep,ho,r⟩,_⟩:=id I.loc;obtain⟨sl,hL⟩:=u.any ho I.free λz=>(hch _ z).2.1 rfl
 exact I.step (ch:=ch) hch (λb o hL hb hc e n=>u.keep b o e n (λz=>(Hd.mp (I.FZ b z)).elim hL hb) hc) (λb o _ _ hc e n=>u.any e n hc) (λb o hc e n=>u.free b o e n hc) (λb o hc e=>u.there b o e hc) u.tups u.frzs u.tbls (λm' hm=>by
  obtain⟨o',es',ep',ho',r'⟩:=hm;rw[ho]at ho';cases ho';exact⟨_,es',ep',hL,r'⟩) hok hg
theorem Inv.turned {t':Nat}{it:Addr}(I:Inv X pins σ H s)(k:∀b o,b≠it->s.heap.get? b=some o->h'.get? b=some o)(hn:H it=none)(hL:it≠X.env.locals)
  (h1:it∈X.ex\/X.s₀.heap.objs.size<=it) (h2:∀x c,X.env.cells.lookup x=some c->c≠it) (h3:∀p∈X.pn++pins,p.1≠it):Inv X pins σ H { s with heap:=h',toks:=t' }:=by
 have nit:∀b u,H b=some u->b≠it:=λb u e z=>by rw[z,hn]at e;cases e
 refine I.step (g':=s.gens) (d':=s.drawn) (ch:=[it]) (λb hb=> ?_) (λb o _ _ hc e _=>k b o (λz=>hc (by simp[z])) e) (λb o _ _ hc e _=>⟨o.slots,k b o (λz=>hc (by simp[z])) e⟩) (λ_ _ _ _ n=>n)
  (λb o hc e=>⟨o,k b o (λz=>hc (by simp[z])) e⟩) (λ_ _ e=>e) (λ_ _ _ e=>e) (λb ps e=>⟨#[],by rw[e];simp⟩) (λm hm=> ?_) (λb u e=> ?_) I.bare
 ·have e:b=it:=by simpa using hb
  subst e;exact⟨h1,hL,h2,h3⟩
 ·obtain⟨o,es,ep,ho,r⟩:=hm
  exact⟨o,es,ep,k _ o (Ka hL) ho,r⟩
 ·refine(I.hok b u e).FT (λc v hc q=>k c v ?_ q) (λ_ q=>q) λ_ _ q=>q
  rcases hc with z | z
  ·rw[z];exact nit b u e
  ·exact nit c _ z
theorem Inv.tok (I:Inv X pins σ H s)(t:Nat):Inv X pins σ H { s with toks:=t }:=I.un (h':=s.heap) (t':=t) Un.refl I.hok
theorem Inv.kept {t':Nat}(I:Inv X pins σ H s)(k:∀b u,s.heap.get? b=some u->h'.get? b=some u):Inv X pins σ H { s with heap:=h',toks:=t' }:=I.un (Un.kept k) (I.hok.kept k)
theorem Inv.laid {a:Addr}{o:HO}{t':Nat}(I:Inv X pins σ H s)(k:∀b u,s.heap.get? b=some u->h'.get? b=some u)(hp:s.heap.objs.size<=a)(new:ObjOk X.prog X.w (cz H a o) h' a o) :
  Inv X pins σ (cz H a o) { s with heap:=h',toks:=t' }:=I.un (Un.laid k hp (I.hok.fresh hp)) (I.hok.laid k hp new)
theorem Inv.write {x e:Addr}{o:HO}{t':Nat}(I:Inv X pins σ H s)(mu:Fo (H x))(he:e=x\/H e=some (.own x))(k:∀b u,b≠e->s.heap.get? b=some u->h'.get? b=some u)(heo:∃u,h'.get? e=some u)
  (new:ObjOk X.prog X.w (cz H x o) h' x o):Inv X pins σ (cz H x o) { s with heap:=h',toks:=t' }:=I.un (Un.write mu he k heo) (I.hok.write mu he k heo new)
theorem Inv.F9 {pins':List (Addr×Obj)}(I:Inv X pins σ H s)(h:∀p∈pins',s.heap.get? p.1=some p.2/\H p.1=none/\p.1≠X.env.locals/\p.1∉X.fs/\∀v,p.2.data≠ .cell v):Inv X pins' σ H s:=
 ⟨I.ok,I.os,I.bare,I.base,I.loc,I.cell,I.free,I.freeC,λp hp=>(G8.mp hp).elim (λz=>I.pin p (HG _ z)) (h p),I.hok,I.len⟩
theorem pF {N:List Str}(hN:N.Nodup){i j:Nat}{x:Str}(a:N[i]? =some x)(b:N[j]? =some x):i=j:=by
 obtain⟨h1,e1⟩:=Hm.mp a
 obtain⟨h2,e2⟩:=Hm.mp b
 exact(List.getElem_inj hN).mp (e1.trans e2.symm)
theorem mE {M:L7}{A:HF}{E:GZ->GX->Prop}{i:Nat}{x:Str}{v:V}{u:GZ}{Q:Unit->GX->Prop}(I:Inv X pins σ H s)(hN:X.N.Nodup)(hi:X.N[i]? =some x)(hx:Loc X.env.scope x)(r:RelV v u)
  (h:∀s',Inv X pins (σ.set i (some v)) H s'->(∃a,J9 a s.heap s'.heap/\(a=X.env.locals\/X.env.cells.lookup x=some a))->Q () s') (hf:autoParam (X.fn x=true\/X.env.scope.names.lookup x=some .local) r_):wpAny M A (storeName X.env x u) Q E s:=by
 obtain⟨m,hn,hl⟩:=id I.loc
 have hcls:(X.env.scope.kind == .class||(X.env.scope.kind == .module&&X.env.locals != X.env.globals))=false:=by rw[I.ok.kind];rfl
 have hiσ:i<σ.length:=by rw[I.len];exact(Hm.mp hi).1
 have cne:=I.cne
 have tracked:∀{a:Addr} {h':Heap},(∃o,s.heap.get? a=some o/\H a=none)->J9 a s.heap h'->HOk X.prog X.w H h':=λ{a h'} ha hs b ob e=>by
  obtain⟨_,_,hfree⟩:=ha;refine(I.hok b ob e).FT (λc w' hc q=>(hs.2 c ?_).trans q) (λ_ q=>q) λ_ _ q=>q
  rintro rfl
  rcases hc with rfl | hc
  ·rw[hfree]at e;cases e
  ·rw[hfree]at hc;cases hc
 rcases hx with hk | hk
 ·refine wpAny_storeName_local hk hn (λh' hn' hs=> ?_) hcls
  obtain⟨oL,_,_,hoL,_⟩:=id hn;refine h _ ⟨I.ok,I.os,I.bare,⟨λb o e n hb hx=> ?_,λb o e n hb hx=> ?_,I.base.free,λb o e hx=> ?_,I.base.tups,I.base.frzs,I.base.tbls⟩,⟨_,hn',λj y v' e1 e2 e3=> ?_⟩,λy c e=> ?_,I.free,I.freeC,λp hp=> ?_,tracked ⟨oL,hoL,I.free⟩ hs,by simpa using I.len⟩ ⟨_,hs,.inl rfl⟩
  ·exact(hs.2 b (Iz (Hl (Hf e) I.ok.above))).trans (I.base.keep b o e n hb hx)
  ·obtain⟨sl,e1⟩:=I.base.slot b o e n hb hx
   exact⟨sl,(hs.2 b (Iz (Hl (Hf e) I.ok.above))).trans e1⟩
  ·obtain⟨o',e1⟩:=I.base.there b o e hx
   exact⟨o',(hs.2 b (Iz (Hl (Hf e) I.ok.above))).trans e1⟩
  ·by_cases hj:j=i
   ·subst hj
    rw[hi]at e1;cases e1;rw[HI hiσ]at e2
    cases e2;exact⟨u,r,.inl ⟨hk,by simp⟩⟩
   ·rw[HH (Ka hj)]at e2
    obtain⟨u',r',q⟩:=hl j y v' e1 e2 e3;refine⟨u',r',?_⟩
    rcases q with⟨k,e⟩ | ⟨k,c,e,z⟩
    ·refine .inl ⟨k,?_⟩
     have:y≠x:=λe=>hj (pF hN e1 (e▸hi))
     simp[this,e]
    ·exact .inr ⟨k,c,e,z.sameBut hs (cne y c e)⟩
  ·obtain⟨w',z⟩:=I.cell y c e
   exact⟨w',z.sameBut hs (cne y c e)⟩
  ·obtain⟨e,n,ne,nf,d⟩:=I.pin p hp
   exact⟨(hs.2 p.1 ne).trans e,n,ne,nf,d⟩
 ·have hfn:X.fn x=true:=by
   rcases hf with z | z
   ·exact z
   ·rw[z]at hk;cases hk
  obtain⟨c,hc⟩:=I.ok.has x (.inl hk);obtain⟨w',z⟩:=I.cell x c hc;refine wpAny_storeName_cell I.ok.kind hk hc z (λh' hc' hs=> ?_)
  obtain⟨oc,hoc,hocd⟩:=id z;refine h { s with heap:=h' } ⟨I.ok,I.os,I.bare,⟨λb o e n hb hx=> ?_,λb o e n hb hx=> ?_,I.base.free,λb o e hx=> ?_,I.base.tups,I.base.frzs,I.base.tbls⟩,⟨m,hn.sameBut hs (Ka (cne x c hc)),λj y v' e1 e2 e3=> ?_⟩,λy c' e=> ?_,I.free,I.freeC,λp hp=> ?_,tracked ⟨oc,hoc,I.freeC x c hc⟩ hs,by simpa using I.len⟩ ⟨c,hs,.inr hc⟩
  ·exact(hs.2 b (Iz (Hl (Hf e) (I.ok.cab x c hfn hc)))).trans (I.base.keep b o e n hb hx)
  ·obtain⟨sl,e1⟩:=I.base.slot b o e n hb hx
   exact⟨sl,(hs.2 b (Iz (Hl (Hf e) (I.ok.cab x c hfn hc)))).trans e1⟩
  ·obtain⟨o',e1⟩:=I.base.there b o e hx
   exact⟨o',(hs.2 b (Iz (Hl (Hf e) (I.ok.cab x c hfn hc)))).trans e1⟩
  ·by_cases hj:j=i
   ·subst hj
    rw[hi]at e1;cases e1;rw[HI hiσ]at e2
    cases e2;exact⟨u,r,.inr ⟨.inl hk,c,hc,hc'⟩⟩
   ·rw[HH (Ka hj)]at e2
    obtain⟨u',r',q⟩:=hl j y v' e1 e2 e3;refine⟨u',r',?_⟩
    rcases q with q | ⟨k,c',e,z'⟩
    ·exact .inl q
    ·refine .inr ⟨k,c',e,z'.sameBut hs ?_⟩
     rintro rfl
     exact hj (pF hN e1 (I.ok.inj _ _ _ e hc▸hi))
  ·by_cases hcc:c'=c
   ·subst hcc;exact⟨_,hc'⟩
   ·obtain⟨w2,z2⟩:=I.cell y c' e
    exact⟨w2,z2.sameBut hs hcc⟩
  ·obtain⟨e,n,ne,nf,d⟩:=I.pin p hp
   refine⟨(hs.2 p.1 ?_).trans e,n,ne,nf,d⟩
   intro q;rw[q,hoc]at e
   have q':oc=p.2:=HW e;exact d w' (by rw[<-q'];exact hocd)
theorem oX {M:L7}{A:HF}{E:GZ->GX->Prop}{i:Nat}{x:Str}{v:V}{u:GZ}{Q:Unit->GX->Prop}(I:Inv X pins σ H s)(hN:X.N.Nodup)(hi:X.N[i]? =some x)(hx:Loc X.env.scope x)(r:RelV v u)
  (h:∀s',Inv X pins (σ.set i (some v)) H s'->Q () s') (hf:autoParam (X.fn x=true\/X.env.scope.names.lookup x=some .local) r_):wpAny M A (storeName X.env x u) Q E s:=
 mE I hN hi hx r (λs' I' _=>h s' I') hf
theorem Inv.F7 {s':GX}{ch:List Addr}(I:Inv X pins σ H s)(ho:s'.os=s.os)(u:Un (iU X.stack) ch H H' s.heap s'.heap)(hok:HOk X.prog X.w H' s'.heap)(hg:MS s'.gens)
  (hch:∀b∈ch,(b∈X.ex\/X.s₀.heap.objs.size<=b)/\b≠X.env.locals/\(∀x c,X.env.cells.lookup x=some c->c≠b)/\∀p∈X.pn++pins,p.1≠b):Inv X pins σ H' s':=by
 obtain⟨h',g',d',t',o'⟩:=s'
 have e:o'=s.os:=ho;subst e;exact I.call (g':=g') (t':=t') (d':=d') u hok hg hch
end
abbrev XK:=GZ->Option Addr->Hp->Prop
abbrev St:=List (Option V)
abbrev VK:=V->Hp->Prop
abbrev TE:=St->Hp->VK->Prop
abbrev TT:=St->Hp->(Bool->Hp->Prop)->Prop
abbrev TA:=St->Hp->(List V->Hp->Prop)->Prop
structure Ends where
 nx:St->Hp->Prop
 rt:VK
 bk:St->Hp->Prop:=λ_ _=>False
 ct:St->Hp->Prop:=λ_ _=>False
abbrev TS:=Ends->St->Hp->Prop
def EP (X:Cx)(pins:List (Addr×Obj))(σ:St)(Q:VK)(u:GZ)(s':GX):Prop:=∃v H',Inv X pins σ H' s'/\RelV v u/\Q v H'
def TP (X:Cx)(pins:List (Addr×Obj))(σ:St)(Q:Bool->Hp->Prop)(b:Bool)(s':GX):Prop:=∃H',Inv X pins σ H' s'/\Q b H'
def AP (X:Cx)(pins:List (Addr×Obj))(σ:St)(Q:List V->Hp->Prop)(us:List GZ)(s':GX):Prop:=∃vs H',Inv X pins σ H' s'/\Vals vs us/\Q vs H'
def SP (X:Cx)(pins:List (Addr×Obj))(D:Ends)(f:Flow)(s':GX):Prop:=
 match f with
 | .next=> ∃σ' H',Inv X pins σ' H' s'/\D.nx σ' H'
 | .brk=> ∃σ' H',Inv X pins σ' H' s'/\D.bk σ' H'
 | .cont=> ∃σ' H',Inv X pins σ' H' s'/\D.ct σ' H'
 | .ret u=> ∃v σ' H',Inv X pins σ' H' s'/\RelV v u/\D.rt v H'
def PE (X:Cx)(e:Expr)(t:TE):Prop:=
 ∀(pins:List (Addr×Obj)) (s:GX) (σ:St) (H:Hp) (Q:VK),Inv X pins σ H s->t σ H Q->wpAny (model X.prog X.w) X.A (eval e X.env) (EP X pins σ Q) X.xe s
def PT (X:Cx)(e:Expr)(t:TT):Prop:=
 ∀(pins:List (Addr×Obj)) (s:GX) (σ:St) (H:Hp) (Q:Bool->Hp->Prop),Inv X pins σ H s->t σ H Q->wpAny (model X.prog X.w) X.A (isTrue e X.env (eval e X.env)) (TP X pins σ Q) X.xe s
def PW (X:Cx)(e:Expr)(t:TT):Prop:=
 ∀(whole:Sem GZ) (pins:List (Addr×Obj)) (s:GX) (σ:St) (H:Hp) (Q:Bool->Hp->Prop),Inv X pins σ H s->t σ H Q->wpAny (model X.prog X.w) X.A (isTrue e X.env whole) (TP X pins σ Q) X.xe s
theorem PW.pt {X:Cx}{e:Expr}{t:TT}(h:PW X e t):PT X e t:=h _
def PA (X:Cx)(es:List Expr)(t:TA):Prop:=
 ∀(pos:Pos) (pins:List (Addr×Obj)) (s:GX) (σ:St) (H:Hp) (Q:List V->Hp->Prop),Inv X pins σ H s->t σ H Q->wpAny (model X.prog X.w) X.A (spliced (backTo pos (Hj es X.env))) (AP X pins σ Q) X.xe s
def PS (X:Cx)(st:Stmt)(t:TS):Prop:=
 ∀(pins:List (Addr×Obj)) (s:GX) (σ:St) (H:Hp) (D:Ends),Inv X pins σ H s->t D σ H->wpAny (model X.prog X.w) X.A (exec st X.env) (SP X pins D) X.xe s
def PSs (X:Cx)(st:List Stmt)(t:TS):Prop:=
 ∀(pins:List (Addr×Obj)) (s:GX) (σ:St) (H:Hp) (D:Ends),Inv X pins σ H s->t D σ H->wpAny (model X.prog X.w) X.A (execs st X.env) (SP X pins D) X.xe s
theorem bJ {α:Type}{t:Sem α}{Q Q':α->GX->Prop}{M:L7}{A:HF}{E:GZ->GX->Prop}{s:GX}(h:wpAny M A t Q E s)(hQ:∀a s,Q a s->Q' a s):wpAny M A t Q' E s:=HX h hQ λ_ _ x=>x
section
variable {X:Cx}
def vg (i:Nat):TE:=λσ H Q=> ∃v,σ[i]? =some (some v)/\Q v H
def tC (v:V):TE:=λ_ H Q=>Q v H
theorem jN {i:Nat}{x:Str}{pos:Pos}(hN:X.N[i]? =some x)(hv:rz X.env.scope x)(hd:autoParam ((x == ("__debug__" : Str))=false) s_)(hcd:autoParam ((x == ("__classdict__" : Str))=false) s_):PE X (.Name x pos) (vg i):=by
 intro pins s σ H Q I h;obtain⟨v,e,h⟩:=h;obtain⟨m,hn,hl⟩:=I.loc;obtain⟨u,r,l⟩:=hl i x v hN e hv
 have fin:EP X pins σ Q u s:=⟨v,H,I,r,h⟩;rcases l with⟨hk,hm⟩ | ⟨hk,c,hc,hcell⟩
 ·exact N9 (M1 I.ok.kind hk hn hm fin) hd
 ·rcases hk with hk | hk
  ·exact N9 (wpAny_loadName_cell I.ok.kind hk hc hcell fin) hd
  ·exact N9 (wpAny_loadName_free I.ok.kind hk hc hcell fin hcd) hd
theorem vW {i j pos}:PE X (.Constant (.int i) j pos) (tC (.int i)):=λ_ _ _ H _ I h=>wpAny_Constant_int ⟨.int i,H,I.tok _,⟨_,rfl⟩,h⟩
theorem vZ {b j pos}:PE X (.Constant (.bool b) j pos) (tC (.bl b)):=λ_ _ _ H _ I h=>Constant_bool ⟨.bl b,H,I,rfl,h⟩
theorem BR {j pos}:PE X (.Constant .none j pos) (tC .non):=λ_ _ _ H _ I h=>Constant_none ⟨.non,H,I,rfl,h⟩
theorem vR {x j pos}:PE X (.Constant (.str x) j pos) (tC (.str x)):=λ_ _ _ H _ I h=>Nn ⟨.str x,H,I.tok _,⟨_,rfl⟩,h⟩
def Gl (X:Cx)(x:Str):Prop:=X.env.kindOf x=some .globalImplicit
theorem ie {E:GZ->GX->Prop}{pins:List (Addr×Obj)}{s:GX}{σ:St}{H:Hp}{x:Str}{u:GZ}{pos:Pos}{Q:GZ->GX->Prop}(I:Inv X pins σ H s)(hg:Gl X x)(hm:X.mg x=some u)(h:Q u s)
  (hd:autoParam ((x == ("__debug__" : Str))=false) s_):wpAny (model X.prog X.w) X.A (eval (.Name x pos) X.env) Q E s:=
 Lv I.ok.kind hg (Calls.loadGlobal_global (by rw[I.ok.glob];exact I.mod.glob.keeps I.bk) hm h) hd
theorem dU {E:GZ->GX->Prop}{pins:List (Addr×Obj)}{s:GX}{σ:St}{H:Hp}{x:Str}{u:GZ}{pos:Pos}{Q:GZ->GX->Prop}(I:Inv X pins σ H s)(hg:Gl X x)(hm:X.mg x=none)(hv:HA x=some u)(h:Q u s)
  (hn:autoParam (x≠ "__name__") s_) (hd:autoParam ((x == ("__debug__" : Str))=false) s_):wpAny (model X.prog X.w) X.A (eval (.Name x pos) X.env) Q E s:=by
 obtain⟨mb,h1,h2⟩:=I.mod.blt;exact Lv I.ok.kind hg (Calls.loadGlobal_builtin (by rw[I.ok.glob];exact I.mod.glob.keeps I.bk) hm (by rw[I.ok.blt];exact h1.keeps I.bk) ((h2 x hn).trans hv) h) hd
theorem rX {x:Str}{v:V}{u:GZ}{pos:Pos}(hg:Gl X x)(hm:X.mg x=some u)(r:RelV v u)(hd:autoParam ((x == ("__debug__" : Str))=false) s_):PE X (.Name x pos) (tC v):=
 λ_ _ _ H _ I h=>ie I hg hm ⟨v,H,I,r,h⟩ hd
theorem rZ {x:Str}{v:V}{u:GZ}{pos:Pos}(hg:Gl X x)(hm:X.mg x=none)(hv:HA x=some u)(r:RelV v u)(hn:autoParam (x≠ "__name__") s_)(hd:autoParam ((x == ("__debug__" : Str))=false) s_):PE X (.Name x pos) (tC v):=
 λ_ _ _ H _ I h=>dU I hg hm hv ⟨v,H,I,r,h⟩ hn hd
variable {a b:Expr}{ta tb:TE}{pos:Pos}
def tB (t:TE):TT:=λσ H Q=>t σ H λx H1=> ∃c,x= .bl c/\Q c H1
theorem vK {e:Expr}{t:TE}(h:PE X e t)(he:autoParam (∀whole,isTrue e X.env whole=(do let v <-whole;standAt e.pos;holding [v] (truthy v))) t_):PT X e (tB t):=by
 intro pins s σ H Q I hw;refine isTrue_plain (bJ (h pins s σ H _ I hw) λv s1 ⟨x,H1,I1,r1,q1⟩=> ?_) (he _)
 obtain⟨d,rfl,q⟩:=q1;cases r1;exact IC ⟨H1,I1,q⟩
variable {tA tB':TT}{a9:List Expr}
def tOr (t u:TT):TT:=λσ H Q=>t σ H λc H1=>if c=true then Q true H1 else u σ H1 Q
def tNot (t:TT):TT:=λσ H Q=>t σ H λc H1=>Q (!c) H1
theorem vJ (ha:PT X a tA):PW X (.BoolOp .Or [a] pos) tA:=by
 intro wh pins s σ H Q I h;refine isTrue_or (bJ (ha pins s σ H Q I h) λc s1 e=> ?_)
 cases c with
 | false=>exact isTrue_or_nil e
 | true=>exact e
theorem Ax (ha:PT X a tA)(hb:PW X (.BoolOp .Or (b::a9) pos) tB'):PW X (.BoolOp .Or (a::b::a9) pos) (tOr tA tB'):=by
 intro wh pins s σ H Q I h;refine isTrue_or (bJ (ha pins s σ H _ I h) λc s1 hh_=> ?_)
 obtain⟨H1,I1,q1⟩:=hh_
 cases c with
 | true=>exact⟨H1,I1,q1⟩
 | false=>exact hb wh pins s1 σ H1 Q I1 q1
theorem vL (ha:PT X a tA):PT X (.UnaryOp .Not a pos) (tNot tA):=by
 intro pins s σ H Q I h;exact isTrue_not (ha pins s σ H (λc H1=>Q (!c) H1) I h)
def Dy (ta tb:TE):TE:=λσ H Q=>ta σ H λx H1=> ∃c,x= .bl c/\if c=true then tb σ H1 Q else Q (.bl false) H1
def tOrV (ta tb:TE):TE:=λσ H Q=>ta σ H λx H1=> ∃c,x= .bl c/\if c=true then Q (.bl true) H1 else tb σ H1 Q
def Dq (ta:TE):TE:=λσ H Q=>ta σ H λx H1=> ∃c,x= .bl c/\Q (.bl (!c)) H1
theorem BP {op}{t:TE}(h:PE X a t):PE X (.BoolOp op [a] pos) t:=λpins s σ H Q I hw=>BoolOp_one (h pins s σ H Q I hw)
theorem BU (ha:PE X a ta)(hb:PE X (.BoolOp .And (b::a9) pos) tb):PE X (.BoolOp .And (a::b::a9) pos) (Dy ta tb):=by
 intro pins s σ H Q I h;refine BoolOp_and (bJ (ha pins s σ H _ I h) λv s1 hh_=> ?_)
 obtain⟨x,H1,I1,r1,q1⟩:=hh_;obtain⟨c,rfl,q1⟩:=q1;cases r1;refine IC ?_
 cases c with
 | true=>exact hb pins s1 σ H1 Q I1 q1
 | false=>exact⟨.bl false,H1,I1,rfl,q1⟩
theorem Ed (ha:PE X a ta)(hb:PE X (.BoolOp .Or (b::a9) pos) tb):PE X (.BoolOp .Or (a::b::a9) pos) (tOrV ta tb):=by
 intro pins s σ H Q I h;refine BoolOp_or (bJ (ha pins s σ H _ I h) λv s1 hh_=> ?_)
 obtain⟨x,H1,I1,r1,q1⟩:=hh_;obtain⟨c,rfl,q1⟩:=q1;cases r1;refine IC ?_
 cases c with
 | false=>exact hb pins s1 σ H1 Q I1 q1
 | true=>exact⟨.bl true,H1,I1,rfl,q1⟩
theorem BQ (ha:PE X a ta):PE X (.UnaryOp .Not a pos) (Dq ta):=by
 intro pins s σ H Q I h;refine UnaryOp_ (bJ (ha pins s σ H _ I h) λv s1 hh_=> ?_)
 obtain⟨x,H1,I1,r1,q1⟩:=hh_;obtain⟨c,rfl,q1⟩:=q1;cases r1;exact not_of (IC ⟨.bl (!c),H1,I1,rfl,q1⟩)
def tIf (t:TT)(ta tb:TE):TE:=λσ H Q=>t σ H λc H1=>if c=true then ta σ H1 Q else tb σ H1 Q
theorem vX {c:Expr}(hc:PT X c tA)(ha:PE X a ta)(hb:PE X b tb):PE X (.IfExp c a b pos) (tIf tA ta tb):=by
 intro pins s σ H Q I h;refine wpAny_IfExp (bJ (hc pins s σ H _ I h) λd s1 hh_=> ?_)
 obtain⟨H1,I1,q1⟩:=hh_
 cases d with
 | true=>exact ha pins s1 σ H1 Q I1 q1
 | false=>exact hb pins s1 σ H1 Q I1 q1
end
def SqL (K:GW)(H:Hp)(a:Addr)(xs:List V):Prop:=
 Rd H a (.lst xs) ∨
  ∃(o:Obj) (its:Array GZ) (n:Nat),K.lookup a=some o/\o.cls= .type "list"/\o.dict=none/\o.data= .seq its n/\its.size<=sizeLine/\Vals xs its.toList
def SqT (K:GW)(H:Hp)(a:Addr)(xs:List V):Prop:=
 Rd H a (.tup xs) ∨
  ∃(o:Obj) (its:Array GZ) (n:Nat),K.lookup a=some o/\o.cls= .type "tuple"/\o.data= .seq its n/\its.size<=sizeLine/\Vals xs its.toList
def absV:GZ->Option V
 | .none=>some .non
 | .bool b=>some (.bl b)
 | .int i _=>some (.int i)
 | .str x _=>some (.str x)
 | .bytes b _=>some (.byt b)
 | .float b _=>some (.flt b)
 | .ref a=>some (.ref a)
 | .type n=>some (.ty n)
 | _=>none
theorem RelV.abs {x:V}{u:GZ}(r:RelV x u):absV u=some x:=by
 cases x with
 | non=>cases r;rfl
 | bl _=>cases r;rfl
 | int _=>obtain⟨t,rfl⟩:=r;rfl
 | str _=>obtain⟨t,rfl⟩:=r;rfl
 | byt _=>obtain⟨t,rfl⟩:=r;rfl
 | flt _=>obtain⟨t,rfl⟩:=r;rfl
 | ref _=>cases r;rfl
 | ty _=>cases r;rfl
theorem RelV.inj {x y:V}{u:GZ}(r:RelV x u)(q:RelV y u):x=y:=HW (r.abs.symm.trans q.abs)
theorem Vals.inj:∀{xs ys:List V} {us:List GZ},Vals xs us->Vals ys us->xs=ys
 | _,_,_,.nil,.nil=>rfl
 | _,_,_,.cons r t,.cons r' t'=>by rw[r.inj r',Vals.inj t t']
section
variable {X:Cx}{pins:List (Addr×Obj)}{σ:St}{H:Hp}{s:GX}{a:Addr}{xs ys:List V}
theorem SqL.of {K:GW}(h:H a=some (.lst xs)):SqL K H a xs:=.inl (.inl h)
theorem SqT.of {K:GW}(h:H a=some (.tup xs)):SqT K H a xs:=.inl (.inl h)
theorem Inv.list (I:Inv X pins σ H s)(h:SqL X.K H a xs):∃its:List GZ,Vals xs its/\PlainL s.heap a its.toArray/\xs.length<=sizeLine:=by
 rcases h with h | ⟨o,its,n,hk,hc,hd,hs,hz,r⟩
 ·obtain⟨z,its,n,r,e⟩:=h.ok I.hok
  exact⟨its,r,⟨_,n,e,rfl,rfl,rfl⟩,z⟩
 ·refine⟨its.toList,r,⟨o,n,I.kIn a o hk,hc,hd,by simpa using hs⟩,?_⟩
  have e:=r.length;simp only[Jw]at e;omega
theorem Inv.tuple (I:Inv X pins σ H s)(h:SqT X.K H a xs):∃its:List GZ,Vals xs its/\Pa s.heap a its.toArray/\xs.length<=sizeLine:=by
 rcases h with h | ⟨o,its,n,hk,hc,hs,hz,r⟩
 ·obtain⟨z,its,r,p⟩:=h.ok I.hok
  exact⟨its,r,p,z⟩
 ·refine⟨its.toList,r,⟨o,I.kIn a o hk,hc,n,by simpa using hs⟩,?_⟩
  have e:=r.length;simp only[Jw]at e;omega
theorem Inv.F2 (I:Inv X pins σ H s)(h:SqL X.K H a xs)(h':SqL X.K H a ys):xs=ys:=by
 obtain⟨its,r,⟨o,n,e,_,_,d⟩,_⟩:=I.list h;obtain⟨its',r',⟨o',n',e',_,_,d'⟩,_⟩:=I.list h';rw[e]at e';cases e';rw[d]at d';injection d' with d1 _
 have:its=its':=by simpa using congrArg MB d1
 subst this;exact r.inj r'
theorem Inv.FX (I:Inv X pins σ H s)(h:SqT X.K H a xs)(h':SqT X.K H a ys):xs=ys:=by
 obtain⟨its,r,⟨o,e,_,n,d⟩,_⟩:=I.tuple h;obtain⟨its',r',⟨o',e',_,n',d'⟩,_⟩:=I.tuple h';rw[e]at e';cases e';rw[d]at d';injection d' with d1 _
 have:its=its':=by simpa using congrArg MB d1
 subst this;exact r.inj r'
end
abbrev Cx.FJ (X:Cx)(E:GZ->GX->Prop):Cx:={ X with xe:=E }
abbrev Cx.nox (X:Cx):Cx:=X.FJ λ_ _=>False
theorem Cx.Ok.FJ {X:Cx}(ok:X.Ok)(E:GZ->GX->Prop):(X.FJ E).Ok:=
 ⟨ok.mod,ok.kind,ok.glob,ok.blt,ok.above,ok.inj,ok.has,ok.cab,ok.hd,ok.frames,ok.stk,ok.exf,ok.bs,ok.bsz,ok.noex,ok.exfs,ok.funs,ok.frf⟩
theorem Cx.Ok.FN {X:Cx}{E:GZ->GX->Prop}(ok:(X.FJ E).Ok):X.Ok:=
 ⟨ok.mod,ok.kind,ok.glob,ok.blt,ok.above,ok.inj,ok.has,ok.cab,ok.hd,ok.frames,ok.stk,ok.exf,ok.bs,ok.bsz,ok.noex,ok.exfs,ok.funs,ok.frf⟩
section
variable {X:Cx}{pins:List (Addr×Obj)}{σ:St}{H:Hp}{s:GX}{E:GZ->GX->Prop}
theorem Inv.FJ (I:Inv X pins σ H s)(E:GZ->GX->Prop):Inv (X.FJ E) pins σ H s:=⟨I.ok.FJ E,I.os,I.bare,I.base,I.loc,I.cell,I.free,I.freeC,I.pin,I.hok,I.len⟩
theorem Inv.FN (I:Inv (X.FJ E) pins σ H s):Inv X pins σ H s:=⟨I.ok.FN,I.os,I.bare,I.base,I.loc,I.cell,I.free,I.freeC,I.pin,I.hok,I.len⟩
theorem SP.FN {D:Ends}{f:Flow}{s':GX}(h:SP (X.FJ E) pins D f s'):SP X pins D f s':=by
 cases f with
 | next=>obtain⟨σ',H',I,q⟩:=h;exact⟨σ',H',I.FN,q⟩
 | brk=>obtain⟨σ',H',I,q⟩:=h;exact⟨σ',H',I.FN,q⟩
 | cont=>obtain⟨σ',H',I,q⟩:=h;exact⟨σ',H',I.FN,q⟩
 | ret u=>obtain⟨v,σ',H',I,r,q⟩:=h;exact⟨v,σ',H',I.FN,r,q⟩
theorem PSs.nox {st:List Stmt}{t:TS}(h:PSs X.nox st t):PSs X st t:=λpins s σ H D I hw=>
 HX (h pins s σ H D (I.FJ _) hw) (λ_ _ q=>q.FN) λ_ _ z=>Jb z
end
section
variable {X:Cx}{st:Stmt}{a9:List Stmt}{t u:TS}{e:Expr}{te:TE}{pos:Pos}
def Dr:TS:=λD σ H=>D.nx σ H
def Dm (t u:TS):TS:=λD σ H=>t { D with nx:=u D } σ H
theorem rS:PSs X [] Dr:=λ_ _ σ H _ I h=>Kd ⟨σ,H,I,h⟩
theorem kZ (h1:PS X st t)(h2:PSs X a9 u):PSs X (st::a9) (Dm t u):=by
 intro pins s σ H D I h;refine Ms (bJ (h1 pins s σ H { D with nx:=u D } I h) λf s1 q=> ?_)
 cases f with
 | next=>
  obtain⟨σ',H',I',q⟩:=q
  exact h2 pins s1 σ' H' D I' q
 | ret v=>exact q
 | brk=>exact q
 | cont=>exact q
theorem hW (h1:PS X st t):PSs X [st] t:=by
 intro pins s σ H D I h;refine Ms (bJ (h1 pins s σ H D I h) λf s1 q=> ?_)
 cases f with
 | next=>exact Kd q
 | ret v=>exact q
 | brk=>exact q
 | cont=>exact q
theorem Inv.quiet {pins:List (Addr×Obj)}{σ:St}{H:Hp}{s:GX}(I:Inv X pins σ H s):interactive X.env=false:=by simp[interactive,I.ok.kind]
def Dv (te:TE):TS:=λD σ H=>te σ H λ_ H1=>D.nx σ H1
theorem rV (he:PE X e te)(hs:autoParam (Kj e none pos.line X.env=pure false) u_):PS X (.Expr e pos) (Dv te):=by
 intro pins s σ H D I h;exact wpAny_Expr_any (bJ (he pins s σ H _ I h) λv s1 ⟨x,H1,I1,r1,q1⟩=>⟨σ,H1,I1,q1⟩) I.quiet hs
def Dn (te:TE):TS:=λD σ H=>te σ H D.rt
theorem k4 (he:PE X e te):PS X (.Return (some e) pos) (Dn te):=by
 intro pins s σ H D I h;exact Oa (bJ (he pins s σ H _ I h) λv s1 ⟨x,H1,I1,r1,q1⟩=>⟨x,σ,H1,I1,r1,q1⟩)
def Dt (c:TT)(t u:TS):TS:=λD σ H=>c σ H λb H1=>if b=true then t D σ H1 else u D σ H1
theorem Ay {c:Expr}{a b:List Stmt}{tc:TT}(hc:PT X c tc)(ha:PSs X a t)(hb:PSs X b u):PS X (.If c a b pos) (Dt tc t u):=by
 intro pins s σ H D I h;refine wpAny_If (bJ (hc pins s σ H _ I h) λd s1 hh_=> ?_)
 obtain⟨H1,I1,q1⟩:=hh_
 cases d with
 | true=>exact ha pins s1 σ H1 D I1 q1
 | false=>exact hb pins s1 σ H1 D I1 q1
def A8:TS:=λ_ _ _=>False
theorem vN:PS X st A8:=λ_ _ _ _ _ _ h=>h.elim
end
abbrev TG:=V->St->Hp->(St->Hp->Prop)->Prop
abbrev Af:=List V->St->Hp->(St->Hp->Prop)->Prop
def PG (X:Cx)(target:Expr)(t:TG):Prop:=
 ∀(pins:List (Addr×Obj)) (s:GX) (σ:St) (H:Hp) (v:V) (u:GZ) (Q:St->Hp->Prop),Inv X pins σ H s->RelV v u->t v σ H Q →
  wpAny (model X.prog X.w) X.A (assign target X.env u) (λ_ s'=> ∃σ' H',Inv X pins σ' H' s'/\Q σ' H') X.xe s
def PGs (X:Cx)(ts:List Expr)(t:Af):Prop:=
 ∀(pins:List (Addr×Obj)) (s:GX) (σ:St) (H:Hp) (vs:List V) (us:List GZ) (Q:St->Hp->Prop),Inv X pins σ H s->Vals vs us->t vs σ H Q →
  wpAny (model X.prog X.w) X.A (assignInOrder ((ID ts X.env).map (·.2)) us) (λ_ s'=> ∃σ' H',Inv X pins σ' H' s'/\Q σ' H') X.xe s
section
variable {X:Cx}{pos:Pos}
def xb (i:Nat):TG:=λv σ H Q=>Q (σ.set i (some v)) H
theorem yT {i:Nat}{x:Str}(hN:X.N.Nodup)(hi:X.N[i]? =some x)(hx:Loc X.env.scope x)(hf:autoParam (X.fn x=true\/X.env.scope.names.lookup x=some .local) r_):PG X (.Name x pos) (xb i):=by
 intro pins s σ H v u Q I r h;exact Ob (oX I hN hi hx r (λs' I'=>⟨_,H,I',h⟩) hf)
def gNil:Af:=λvs σ H Q=>vs= []/\Q σ H
def EM (t:TG)(u:Af):Af:=λvs σ H Q=> ∃v r,vs=v::r/\t v σ H λσ' H'=>u r σ' H' Q
theorem yS:PGs X [] gNil:=by
 intro pins s σ H vs us Q I r h;obtain⟨e,h⟩:=h;subst e;cases r;exact assignInOrder_nil ⟨σ,H,I,h⟩
theorem vP {e:Expr}{es:List Expr}{t:TG}{u:Af}(h1:PG X e t)(h2:PGs X es u)
  (hs:autoParam ((ID (e::es) X.env).map (·.2)=assign e X.env::(ID es X.env).map (·.2)) u_):PGs X (e::es) (EM t u):=by
 intro pins s σ H vs us Q I r h;obtain⟨v,vr,e1,h⟩:=h;subst e1
 cases r with
 | cons r rr=>
  rw[hs];refine assignInOrder_cons (bJ (h1 pins s σ H _ _ _ I r h) λ_ s1 hh_=> ?_)
  obtain⟨σ1,H1,I1,q1⟩:=hh_;exact h2 pins s1 σ1 H1 _ _ Q I1 rr q1
def gTup (K:GW)(n:Nat)(t:Af):TG:=λv σ H Q=> ∃a xs,v= .ref a/\SqT K H a xs/\xs.length=n/\t xs σ H Q
theorem BO {es:List Expr}{k:Nat}{t:Af}{n:Nat}(hc:X.calm=true)(h:PGs X es t)
  (hn:autoParam ((ID es X.env).length=n) u_) (hst:autoParam ((ID es X.env).findIdx? (·.1)=none) u_):PG X (.Tuple es k pos) (gTup X.K n t):=by
 intro pins s σ H v u Q I r hw;obtain⟨a,xs,e1,hq,hl,hw⟩:=hw;subst e1;cases r;obtain⟨its,rv,ht,hz⟩:=I.tuple hq;refine assign_Tuple_tuple (I.ok.hd hc) ht (by simp[hn,<-hl,rv.length]) hst λh' hx=> ?_
 have I1:Inv X pins σ H { s with heap:=h' }:=I.kept (t':=s.toks) λb o e=>hx b o (Iz (Hf e)) e
 exact h pins _ σ H xs _ Q I1 (by simpa using rv) hw
def vi (te:TE)(g:TG):TS:=λD σ H=>te σ H λx H1=>g x σ H1 D.nx
theorem BM {tg e:Expr}{te:TE}{g:TG}(he:PE X e te)(hg:PG X tg g)(hs:autoParam (KD [tg] e pos.line X.env=pure false) u_)(hw:autoParam (KF [tg] e X.env=pure none) u_)
  (h1:autoParam ((ID [tg] X.env).map (·.2)= [assign tg X.env]) u_):PS X (.Assign [tg] e pos) (vi te g):=by
 intro pins s σ H D I h;refine wpAny_Assign_stores (bJ (he pins s σ H _ I h) λv s1 ⟨x,H1,I1,r1,q1⟩=> ?_) hs hw
 rw[h1];exact bJ (hg pins s1 σ H1 x v _ I1 r1 q1) λ_ s2 q=>q
theorem vM {i:Nat}{x:Str}{e:Expr}{te:TE}{pos':Pos}(hN:X.N.Nodup)(hi:X.N[i]? =some x)(hx:Loc X.env.scope x)(he:PE X e te)(hs:autoParam (Kj e (some (.Name x pos')) pos.line X.env=pure false) u_)(hf:autoParam (X.fn x=true\/X.env.scope.names.lookup x=some .local) r_) :
  PS X (.Assign [.Name x pos'] e pos) (vi te (xb i)):=by
 intro pins s σ H D I h;refine wpAny_Assign_Name (bJ (he pins s σ H _ I h) λv s1 ⟨y,H1,I1,r1,q1⟩=> ?_) hs
 exact oX I1 hN hi hx r1 (λs2 I2=>⟨_,H1,I2,q1⟩) hf
end
structure It where
 go:Nat->Hp->Prop
 yld:Nat->Hp->V->Hp->Prop
 stop:Nat->Hp->Prop
def ir (X:Cx)(pins:List (Addr×Obj))(H:Hp)(b:Addr):Prop:=
 H b=none/\b≠X.env.locals/\b∉X.fs/\(b∈X.ex\/X.s₀.heap.objs.size<=b)/\(∀x c,X.env.cells.lookup x=some c->c≠b)/\∀p∈X.pn++pins,p.1≠b
theorem Inv.Gb {X:Cx}{pins:List (Addr×Obj)}{σ:St}{H H':Hp}{s:GX}{b:Addr}(I:Inv X pins σ H s)(hb:s.heap.objs.size<=b)(hn:H' b=none):ir X pins H' b:=by
 refine⟨hn,KY (Hl I.lt hb),I.GP hb,.inr (Hz I.sz hb),λx c e z=> ?_,λp hp z=> ?_⟩
 ·obtain⟨v,q⟩:=I.cell x c e
  exact absurd (Hl q.lt (by rw[z];exact hb)) (HB _)
 ·exact absurd (Hl (Hf (I.pin p hp).1) (by rw[z];exact hb)) (HB _)
structure xJ (P:Hr)(w:HS)(K:GW)(tg:Expr)(J:It)(fp:List Addr)(it:Addr)(tn:Nat->Heap->Prop):Prop where
 mem:it∈fp
 obj:∀i h,tn i h->∀b∈fp,∃o,h.get? b=some o/\∀v,o.data≠ .cell v
 keep:∀i h h',tn i h->(∀b∈fp,∀o,h.get? b=some o->h'.get? b=some o)->tn i h'
 item:∀(X:Cx),X.prog=P->X.w=w->X.K=K->X.calm=true->∀(i:Nat) (pins:List (Addr×Obj)) (s:GX) (σ:St) (H:Hp) (E:GZ->GX->Prop),Inv X pins σ H s->(∀b∈fp,ir X pins H b)->tn i s.heap->J.go i H →
  wpAny (model P w) X.A (pyNext (.ref it)) (λr s1=> ∃u,r=some u ∧
   wpAny (model P w) X.A (JP tg (.ref it) u) (λ_ s2=> ∃x H',Inv X pins σ H' s2/\RelV x u/\J.yld i H x H'/\tn (i+1) s2.heap/\∀b∈fp,H' b=none) E s1) E s
 done:∀(X:Cx),X.prog=P->X.w=w->X.K=K->X.calm=true->∀(i:Nat) (pins:List (Addr×Obj)) (s:GX) (σ:St) (H:Hp) (E:GZ->GX->Prop),Inv X pins σ H s->(∀b∈fp,ir X pins H b)->tn i s.heap->J.stop i H →
  wpAny (model P w) X.A (pyNext (.ref it)) (λr s1=>r=none/\Inv X pins σ H s1) E s
 self:∀(A:HF) (i:Nat) (s:GX) (Q:GZ->GX->Prop) (E:GZ->GX->Prop),tn i s.heap->Q (.ref it) s->wpAny (model P w) A (pyIter (.ref it)) Q E s
abbrev TI:=St->Hp->(It->Hp->Prop)->Prop
def PIE (X:Cx)(pins:List (Addr×Obj))(σ:St)(tg:Expr)(R:It->Hp->Prop)(itv:GZ)(s2:GX):Prop:=
 ∃(it:Addr) (fp:List Addr) (tn:Nat->Heap->Prop) (J:It) (H':Hp),itv= .ref it/\Inv X pins σ H' s2/\xJ X.prog X.w X.K tg J fp it tn/\tn 0 s2.heap/\(∀b∈fp,ir X pins H' b)/\R J H'
def PI (X:Cx)(tg iter:Expr)(wi:TI):Prop:=
 ∀(pins:List (Addr×Obj)) (s:GX) (σ:St) (H:Hp) (R:It->Hp->Prop),Inv X pins σ H s->wi σ H R →
  wpAny (model X.prog X.w) X.A (eval iter X.env) (λv s1=>wpAny (model X.prog X.w) X.A (pyIter v) (PIE X pins σ tg R) X.xe s1) X.xe s
theorem w8 {M:L7}{A:HF}{E:GZ->GX->Prop}{s:GX}{tg:Expr}{it:Addr}{u:GZ}{o:Obj}{n:String}{vs:Array GZ}{Q:Unit->GX->Prop}(ho:s.heap.get? it=some o)(hc:o.cls= .type n)(hd:o.data= .fields vs)
  (hn:["enumerate","zip","dict_itemiterator","dict_reverseitemiterator","odict_iterator","itertools.zip_longest","itertools.pairwise"].contains n=false) (hQ:Q () s):wpAny M A (JP tg (.ref it) u) Q E s:=by
 unfold JP
 cases tg <;> first
  | exact Ha hQ
  | (cases u <;> first
    | exact Ha hQ
    | (refine G1 (wpAny_load ho ?_)
       rw[hc,hd]
       show wpAny M A (if (["enumerate","zip","dict_itemiterator","dict_reverseitemiterator","odict_iterator","itertools.zip_longest","itertools.pairwise"].contains n&&vs[0]? == some (rawInt _))=true then _ else _) Q E s
       rw[if_neg (by intro h;rw[hn,LJ]at h;cases h)]
       exact Ha hQ))
def Itl (K:GW)(a:Addr):It:=
 ⟨λi H=> ∃xs x,SqL K H a xs/\xs[i]? =some x,λi H x H'=>H'=H/\∀xs,SqL K H a xs->xs[i]? =some x,λi H=> ∃xs,SqL K H a xs/\xs.length<=i⟩
def Itt (K:GW)(a:Addr):It:=
 ⟨λi H=> ∃xs x,SqT K H a xs/\xs[i]? =some x,λi H x H'=>H'=H/\∀xs,SqT K H a xs->xs[i]? =some x,λi H=> ∃xs,SqT K H a xs/\xs.length<=i⟩
def Itr (lo:Int)(n:Nat):It:=⟨λi _=>i<n,λi H x H'=>H'=H/\x= .int (lo+i),λi _=>n<=i⟩
theorem tF {P:Hr}{w:HS}{K:GW}{tg:Expr}(a it:Addr):xJ P w K tg (Itl K a) [it] it (λi h=>h.IsListIter it a i) where
 mem:=by simp
 obj:=λi h st b hb=>by
  have e:b=it:=by simpa using hb
  subst e;obtain⟨o,e,c,d⟩:=st;exact⟨o,e,λv z=>by rw[d]at z;cases z⟩
 keep:=λi h h' st k=>st.at λo e=>k it (by simp) o e
 item:=by
  intro X hP hw hK hc i pins s σ H E I hf st hg;subst hP hw hK;obtain⟨xs,x,hq,hx⟩:=hg;obtain⟨its,rv,p,hz⟩:=I.list hq;obtain⟨u,hu,ru⟩:=rv.get hx;obtain⟨f0,f1,f2,f3,f4,f5⟩:=hf it (by simp)
  refine wpAny_pyNext_list_item st p.isList (x:=u) (by simpa using hu) λh' st' sb=> ?_
  have I1:Inv X pins σ H { s with heap:=h' }:=I.turned (t':=s.toks) (λb o hb e=>(sb.2 b hb).trans e) f0 f1 f3 f4 f5
  obtain⟨o,e,c,d⟩:=id st';exact⟨u,rfl,w8 (s:={ s with heap:=h' }) e c d (by decide) ⟨x,H,I1,ru,⟨rfl,λys hy=>by rw[I.F2 hy hq];exact hx⟩,st',λb hb=>(hf b hb).1⟩⟩
 done:=by
  intro X hP hw hK hc i pins s σ H E I hf st hg;subst hP hw hK;obtain⟨xs,hq,hx⟩:=hg;obtain⟨its,rv,p,hz⟩:=I.list hq;obtain⟨f0,f1,f2,f3,f4,f5⟩:=hf it (by simp)
  have hl:=rv.length;exact wpAny_pyNext_list_end (I.ok.hd hc) st p.isList (by simp;omega) λh' eb=>⟨rfl,I.turned (t':=s.toks) (λb o hb e=>eb b o hb e) f0 f1 f3 f4 f5⟩
 self:=λ_ _ _ _ _ st h=>wpAny_pyIter_listiter st h
theorem qv {P:Hr}{w:HS}{K:GW}{tg:Expr}(a it:Addr):xJ P w K tg (Itt K a) [it] it (λi h=>h.IsTupleIter it a i) where
 mem:=by simp
 obj:=λi h st b hb=>by
  have e:b=it:=by simpa using hb
  subst e;obtain⟨o,e,c,d⟩:=st;exact⟨o,e,λv z=>by rw[d]at z;cases z⟩
 keep:=λi h h' st k=>st.at λo e=>k it (by simp) o e
 item:=by
  intro X hP hw hK hc i pins s σ H E I hf st hg;subst hP hw hK;obtain⟨xs,x,hq,hx⟩:=hg;obtain⟨its,rv,p,hz⟩:=I.tuple hq;obtain⟨u,hu,ru⟩:=rv.get hx;obtain⟨f0,f1,f2,f3,f4,f5⟩:=hf it (by simp)
  refine wpAny_pyNext_tuple_item st (show s.heap.IsTuple a its.toArray from p) (x:=u) (by simpa using hu) λh' st' sb=> ?_
  have I1:Inv X pins σ H { s with heap:=h' }:=I.turned (t':=s.toks) (λb o hb e=>(sb.2 b hb).trans e) f0 f1 f3 f4 f5
  obtain⟨o,e,c,d⟩:=id st';exact⟨u,rfl,w8 (s:={ s with heap:=h' }) e c d (by decide) ⟨x,H,I1,ru,⟨rfl,λys hy=>by rw[I.FX hy hq];exact hx⟩,st',λb hb=>(hf b hb).1⟩⟩
 done:=by
  intro X hP hw hK hc i pins s σ H E I hf st hg;subst hP hw hK;obtain⟨xs,hq,hx⟩:=hg;obtain⟨its,rv,p,hz⟩:=I.tuple hq;obtain⟨f0,f1,f2,f3,f4,f5⟩:=hf it (by simp)
  have hl:=rv.length;exact wpAny_pyNext_tuple_end (I.ok.hd hc) st (show s.heap.IsTuple a its.toArray from p) (by simp;omega) λh' eb=>⟨rfl,I.turned (t':=s.toks) (λb o hb e=>eb b o hb e) f0 f1 f3 f4 f5⟩
 self:=λ_ _ _ _ _ st h=>wpAny_pyIter_tupleiter st h
theorem qw {P:Hr}{w:HS}{K:GW}{tg:Expr}(it:Addr)(lo:Int)(n:Nat):xJ P w K tg (Itr lo n) [it] it (λi h=>IsRangeIter h it (lo+(i:Nat)*1) ((n:Int) - (i:Nat)) 1) where
 mem:=by simp
 obj:=λi h st b hb=>by
  have e:b=it:=by simpa using hb
  subst e
  exact⟨_,st,λv z=>by
   have z':Data.fields _=Data.cell v:=z;cases z'⟩
 keep:=λi h h' st k=>k it (by simp) _ st
 item:=by
  intro X hP hw hK hc i pins s σ H E I hf st hg;subst hP hw hK;obtain⟨f0,f1,f2,f3,f4,f5⟩:=hf it (by simp)
  have W:=Walks.range (prog:=X.prog) (w:=X.w) (I.ok.hd hc) it lo 1 n;refine W.item i s _ _ hg st λv h' tk hv st' kk=> ?_
  obtain⟨t,rfl⟩:=hv
  have I1:Inv X pins σ H { s with heap:=h',toks:=tk }:=I.turned (λb o hb e=>kk b o (by simpa using hb) e) f0 f1 f3 f4 f5
  refine⟨_,rfl,w8 (s:={ s with heap:=h',toks:=tk }) (n:="range_iterator") st' rfl rfl (by decide) ⟨.int (lo+i),H,I1,⟨t,?_⟩,⟨rfl,rfl⟩,st',λb hb=>(hf b hb).1⟩⟩
  rw[Int.mul_one]
 done:=by
  intro X hP hw hK hc i pins s σ H E I hf st hg;subst hP hw hK;obtain⟨f0,f1,f2,f3,f4,f5⟩:=hf it (by simp)
  exact wpAny_pyNext_range_end (I.ok.hd hc) st (by have:n<=i:=hg;omega) λh' eb=>⟨rfl,I.turned (t':=s.toks) (λb o hb e=>eb b o hb e) f0 f1 f3 f4 f5⟩
 self:=λ_ _ _ _ _ st h=>wpAny_pyIter_rangeiter st h
section
variable {X:Cx}{tg:Expr}
def EL (K:GW)(tl:TE):TI:=λσ H R=>tl σ H λx H1=> ∃a,x= .ref a/\(∃xs,SqL K H1 a xs)/\R (Itl K a) H1
def iTup (K:GW)(tl:TE):TI:=λσ H R=>tl σ H λx H1=> ∃a,x= .ref a/\(∃xs,SqT K H1 a xs)/\R (Itt K a) H1
theorem yQ {l:Expr}{tl:TE}(hl:PE X l tl):PI X tg l (EL X.K tl):=by
 intro pins s σ H R I h;refine bJ (hl pins s σ H _ I h) λv s1 hh_=> ?_
 obtain⟨x,H1,I1,r1,q1⟩:=hh_;obtain⟨a,e,⟨xs,hq⟩,q⟩:=q1;subst e;cases r1;obtain⟨its,rv,p,hz⟩:=I1.list hq;refine L8 p.isList ?_
 refine⟨s1.heap.objs.size,[s1.heap.objs.size],_,_,H1,rfl,I1.kept (t':=s1.toks) λb o e=>G2 _ e,tF a _,⟨_,Hk _ rfl,rfl,rfl⟩,λb hb=> ?_,q⟩
 have e:b=s1.heap.objs.size:=by simpa using hb
 subst e;exact I1.Gb (He _) (I1.hok.fresh (He _))
theorem BN {l:Expr}{tl:TE}(hl:PE X l tl):PI X tg l (iTup X.K tl):=by
 intro pins s σ H R I h;refine bJ (hl pins s σ H _ I h) λv s1 hh_=> ?_
 obtain⟨x,H1,I1,r1,q1⟩:=hh_;obtain⟨a,e,⟨xs,hq⟩,q⟩:=q1;subst e;cases r1;obtain⟨its,rv,p,hz⟩:=I1.tuple hq;refine J7 (show s1.heap.IsTuple a its.toArray from p) ?_
 refine⟨s1.heap.objs.size,[s1.heap.objs.size],_,_,H1,rfl,I1.kept (t':=s1.toks) λb o e=>G2 _ e,qv a _,⟨_,Hk _ rfl,rfl,rfl⟩,λb hb=> ?_,q⟩
 have e:b=s1.heap.objs.size:=by simpa using hb
 subst e;exact I1.Gb (He _) (I1.hok.fresh (He _))
theorem pk {pins:List (Addr×Obj)}{σ:St}{H:Hp}{s:GX}{R:It->Hp->Prop}{E:GZ->GX->Prop}{lo hi:Int}{t u v:Tok}{tk:Nat}(I:Inv X pins σ H s)(h1 : -(2 ^ 62)<=lo)(h2:lo<2 ^ 62)(h3 : -(2 ^ 62)<=hi)(h4:hi<2 ^ 62)
  (q:R (Itr lo (hi - lo).toNat) H):wpAny (model X.prog X.w) X.A (pyIter (.ref s.heap.objs.size)) (PIE X pins σ tg R) E { s with heap:=s.heap.push { cls:=.type "range",data:=.fields #[.int lo t,.int hi u,.int 1 v] },toks:=tk }:=by
 refine wpAny_pyIter_range (IsRange.new ..) (small_one h1 h2 h3 h4) ?_
 have I1:Inv X pins σ H { s with heap:=s.heap.push { cls:=.type "range",data:=.fields #[.int lo t,.int hi u,.int 1 v] },toks:=tk }:=I.kept λb o e=>G2 _ e
 refine⟨(s.heap.push { cls:=.type "range",data:=.fields #[.int lo t,.int hi u,.int 1 v] }).objs.size,[(s.heap.push { cls:=.type "range",data:=.fields #[.int lo t,.int hi u,.int 1 v] }).objs.size],_,_,H,rfl,
  I1.kept (t':=tk) λb o e=>G2 _ e,qw _ lo (hi - lo).toNat,?_,λb hb=> ?_,q⟩
 ·have e1:lo+((0:Nat):Int)*1=lo:=by simp
  have e2:(((hi - lo).toNat:Nat):Int) - ((0:Nat):Int)=Builtin.Range.rangeSize lo hi 1:=by rw[rangeSize_one];split <;> omega
  show IsRangeIter _ _ (lo+((0:Nat):Int)*1) ((((hi - lo).toNat:Nat):Int) - ((0:Nat):Int)) 1
  rw[e1,e2];exact Hk _ rfl
 ·have e:b=(s.heap.push { cls:=.type "range",data:=.fields #[.int lo t,.int hi u,.int 1 v] }).objs.size:=by simpa using hb
  subst e;exact I1.Gb (He _) (I1.hok.fresh (He _))
def Du (wi:TI)(g:TG)(tb:TS):TS:=λD σ H=>wi σ H λJ H1=> ∃W:Nat->Nat->St->Hp->Prop,(∃m,W 0 m σ H1)/\∀i m σ H,W i m σ H →
 (J.stop i H/\D.nx σ H)\/(J.go i H/\∃N:St->Hp->Prop,(∀σ' H',N σ' H'->∃m',m'<m/\W (i+1) m' σ' H')/\∀x H',J.yld i H x H'->g x σ H' λσ2 H2=>tb { D with nx:=N,ct:=N,bk:=D.nx } σ2 H2)
def iM (fp:List Addr)(h:Heap):List (Addr×Obj):=fp.filterMap λb=>(h.get? b).map λo=>(b,o)
theorem cT {fp:List Addr}{h:Heap}{b:Addr}{o:Obj}(hb:b∈fp)(e:h.get? b=some o):(b,o)∈iM fp h:=Np.mpr ⟨b,hb,by rw[e];rfl⟩
theorem tN {fp:List Addr}{h:Heap}{p:Addr×Obj}(hp:p∈iM fp h):p.1∈fp/\h.get? p.1=some p.2:=by
 obtain⟨b,hb,e⟩:=Np.mp hp
 cases q:h.get? b with
 | none=>rw[q]at e;cases e
 | some o=>
  rw[q]at e
  have e':(b,o)=p:=HW e;subst e';exact⟨hb,q⟩
theorem Inv.pinned {pins:List (Addr×Obj)}{σ:St}{H:Hp}{s:GX}{fp:List Addr}(I:Inv X pins σ H s)(hf:∀b∈fp,ir X pins H b)(ho:∀b∈fp,∃o,s.heap.get? b=some o/\∀v,o.data≠ .cell v):Inv X (pins++iM fp s.heap) σ H s:=
 I.F9 λp hp=>(G8.mp hp).elim (λz=>I.pin p (Hg _ z)) λz=>by
  obtain⟨hb,e⟩:=tN z;obtain⟨f0,f1,f2,_⟩:=hf p.1 hb;obtain⟨o,e',d⟩:=ho p.1 hb;rw[e]at e';cases e';exact⟨e,f0,f1,f2,d⟩
theorem Inv.FM {pins pl:List (Addr×Obj)}{σ:St}{H:Hp}{s:GX}(I:Inv X (pins++pl) σ H s):Inv X pins σ H s:=I.F9 λp hp=>I.pin p (Hg _ (HG _ hp))
end
abbrev R2:=V->V->Hp->VK->Prop
def mx (X:Cx)(f:GZ->GZ->Sem GZ)(r:R2):Prop:=
 ∀(pins:List (Addr×Obj)) (s:GX) (σ:St) (H:Hp) (x y:V) (v u:GZ) (Q:VK),Inv X pins σ H s->RelV x v->RelV y u->r x y H Q →
  wpAny (model X.prog X.w) X.A (f v u) (EP X pins σ Q) X.xe s
def UnR (X:Cx)(f:GZ->Sem GZ)(r:V->Hp->VK->Prop):Prop:=
 ∀(pins:List (Addr×Obj)) (s:GX) (σ:St) (H:Hp) (x:V) (v:GZ) (Q:VK),Inv X pins σ H s->RelV x v->r x H Q →
  wpAny (model X.prog X.w) X.A (f v) (EP X pins σ Q) X.xe s
def CallR (X:Cx)(f:GZ)(r:List V->Hp->VK->Prop):Prop:=
 ∀(pins:List (Addr×Obj)) (s:GX) (σ:St) (H:Hp) (xs:List V) (us:List GZ) (Q:VK),Inv X pins σ H s->Vals xs us->r xs H Q →
  wpAny (model X.prog X.w) X.A (call f us) (EP X pins σ Q) X.xe s
def tOp (r:R2)(ta tb:TE):TE:=λσ H Q=>ta σ H λx H1=>tb σ H1 λy H2=>r x y H2 Q
def tUn (r:V->Hp->VK->Prop)(ta:TE):TE:=λσ H Q=>ta σ H λx H1=>r x H1 Q
def rI (C:Int->Int->Prop)(g:Int->Int->V):R2:=λx y H Q=> ∃i j,x= .int i/\y= .int j/\C i j/\Q (g i j) H
def Br (g:Int->Int->V):R2:=λx y H Q=> ∃i j,x= .int i/\y= .int j/\Q (g i j) H
def rU (g:Int->V):V->Hp->VK->Prop:=λx H Q=> ∃i,x= .int i/\Q (g i) H
section
variable {X:Cx}{a b c:Expr}{ta tb tc:TE}{pos:Pos}
theorem Eb {op:UnaryOp}{r:V->Hp->VK->Prop}(ho:UnR X (unaryOp op) r)(ha:PE X a ta):PE X (.UnaryOp op a pos) (tUn r ta):=by
 intro pins s σ H Q I h;exact UnaryOp_ (bJ (ha pins s σ H _ I h) λv s1 ⟨x,H1,I1,r1,q1⟩=>ho pins s1 σ H1 x v Q I1 r1 q1)
theorem opI {f:GZ->GZ->Sem GZ}{C:Int->Int->Prop}{g:Int->Int->Int}
  (rule:∀(i j:Int) (t u:Tok) (s:GX) (Q:GZ->GX->Prop) (E:GZ->GX->Prop),C i j->Q (.int (g i j) s.toks) { s with toks:=s.toks+1 }->wpAny (model X.prog X.w) X.A (f (.int i t) (.int j u)) Q E s) :
  mx X f (rI C λi j=> .int (g i j)):=by
 intro pins s σ H x y v u Q I rx ry h;obtain⟨i,j,rfl,rfl,hc,q⟩:=h;obtain⟨t,rfl⟩:=rx;obtain⟨t',rfl⟩:=ry;exact rule i j t t' s _ _ hc ⟨.int (g i j),H,I.tok _,⟨_,rfl⟩,q⟩
theorem El {f:GZ->GZ->Sem GZ}{g:Int->Int->Int}
  (rule:∀(i j:Int) (t u:Tok) (s:GX) (Q:GZ->GX->Prop) (E:GZ->GX->Prop),Q (.int (g i j) s.toks) { s with toks:=s.toks+1 }->wpAny (model X.prog X.w) X.A (f (.int i t) (.int j u)) Q E s) :
  mx X f (Br λi j=> .int (g i j)):=by
 intro pins s σ H x y v u Q I rx ry h;obtain⟨i,j,rfl,rfl,q⟩:=h;obtain⟨t,rfl⟩:=rx;obtain⟨t',rfl⟩:=ry;exact rule i j t t' s _ _ ⟨.int (g i j),H,I.tok _,⟨_,rfl⟩,q⟩
theorem Em {f:GZ->GZ->Sem GZ}{g:Int->Int->Bool}
  (rule:∀(i j:Int) (t u:Tok) (s:GX) (Q:GZ->GX->Prop) (E:GZ->GX->Prop),Q (.bool (g i j)) s->wpAny (model X.prog X.w) X.A (f (.int i t) (.int j u)) Q E s) :
  mx X f (Br λi j=> .bl (g i j)):=by
 intro pins s σ H x y v u Q I rx ry h;obtain⟨i,j,rfl,rfl,q⟩:=h;obtain⟨t,rfl⟩:=rx;obtain⟨t',rfl⟩:=ry;exact rule i j t t' s _ _ ⟨.bl (g i j),H,I,rfl,q⟩
def CDiv (i j:Int):Prop:=0<j/\j<1073741824
def CMul (i j:Int):Prop:=(-(2 ^ 64)<i/\i<2 ^ 64)\/(-(2 ^ 64)<j/\j<2 ^ 64)
theorem CMul.ok {i j:Int}(h:CMul i j):IntMulOk i j:=by
 rcases h with⟨h1,h2⟩ | ⟨h1,h2⟩
 ·exact .of_left (intBits_le_64 h1 h2)
 ·exact .of_right (intBits_le_64 h1 h2)
theorem B2:mx X (Jo .Add) (Br λi j=> .int (i+j)):=El λ_ _ _ _ _ _ _ q=>add_int q
theorem BW:mx X (Jo .Sub) (Br λi j=> .int (i - j)):=El λ_ _ _ _ _ _ _ q=>sub_int q
theorem BY:mx X (Jo .Mult) (rI CMul λi j=> .int (i*j)):=opI λ_ _ _ _ _ _ _ hc q=>mul_int q hc.ok
theorem yZ:mx X (Jo .FloorDiv) (rI CDiv λi j=> .int (i / j)):=opI λi j _ _ _ _ _ hc q=>by
 have h1:(0:Int)<j:=hc.1
 have h2:j<1073741824:=hc.2;exact floordiv_int (by omega) (by rw[Int.fdiv_eq_ediv_of_nonneg i (by omega)];exact q) (.inl (PyProof.noPylong_small (by omega)))
theorem BZ:mx X (Jo .Mod) (rI (λ_ j=>0<j) λi j=> .int (i % j)):=opI λi j _ _ _ _ _ hc q=>by
 have h1:(0:Int)<j:=hc;exact mod_int' (by omega) (by rw[Int.fmod_eq_emod_of_nonneg i (by omega)];exact q)
theorem unI {f:GZ->Sem GZ}{g:Int->Int}
  (rule:∀(i:Int) (t:Tok) (s:GX) (Q:GZ->GX->Prop) (E:GZ->GX->Prop),Q (.int (g i) s.toks) { s with toks:=s.toks+1 }->wpAny (model X.prog X.w) X.A (f (.int i t)) Q E s) :
  UnR X f (rU λi=> .int (g i)):=by
 intro pins s σ H x v Q I rx h;obtain⟨i,rfl,q⟩:=h;obtain⟨t,rfl⟩:=rx;exact rule i t s _ _ ⟨.int (g i),H,I.tok _,⟨_,rfl⟩,q⟩
theorem A4:UnR X (unaryOp .USub) (rU λi=> .int (-i)):=unI λ_ _ _ _ _ q=>neg_int q
end
def scal:V->V->Bool
 | .non,.non=>true | .non,.int _=>true | .int _,.non=>true | .non,.bl _=>true | .bl _,.non=>true | .non,.str _=>true | .str _,.non=>true
 | .int _,.int _=>true | .bl _,.bl _=>true | .str _,.str _=>true | .byt _,.byt _=>true
 | .int _,.str _=>true | .str _,.int _=>true | .bl _,.str _=>true | .str _,.bl _=>true
 | _,_=>false
def rNe:R2:=λx y H Q=>scal x y=true/\Q (.bl (!decide (x=y))) H
theorem zR {i j:Int}:decide (V.int i=V.int j)=(i == j):=by
 rw[Kx];simp
theorem CO {i j:Bool}:decide (V.bl i=V.bl j)=(i == j):=by
 rw[Kx];simp
theorem zQ {i j:Str}:decide (V.str i=V.str j)=(i == j):=by
 rw[Kx];simp
theorem zS {i j:Array UInt8}:decide (V.byt i=V.byt j)=(i.toList == j.toList):=by
 rw[Kx];cases i;cases j;simp
section
variable {X:Cx}{a b c:Expr}{ta tb tc:TE}{pos:Pos}
theorem cX {pins:List (Addr×Obj)}{σ:St}{H:Hp}{s:GX}{Q:VK}{k k':Bool}(I:Inv X pins σ H s)(q:Q (.bl k) H)(e:k=k'):EP X pins σ Q (.bool k') s:=by
 subst e;exact⟨.bl k,H,I,rfl,q⟩
theorem Ei:mx X (Iw .NotEq) rNe:=by
 intro pins s σ H x y v u Q I rx ry h;obtain⟨hs,q⟩:=h
 cases x with
 | non=>
  cases rx
  cases y with
  | non=>cases ry;exact PySem.EqNone.ne_none_none (cX I q (by simp))
  | bl j=>cases ry;exact PySem.EqNone.ne_none_bool (cX I q (by simp))
  | int j=>obtain⟨t',rfl⟩:=ry;exact PySem.EqNone.ne_none_int (cX I q (by simp))
  | str j=>obtain⟨t',rfl⟩:=ry;exact PySem.EqNone.ne_none_str (cX I q (by simp))
  | _=>exact absurd (show false=true from hs) Hq
 | bl i=>
  cases rx
  cases y with
  | non=>cases ry;exact PySem.EqNone.ne_bool_none (cX I q (by simp))
  | bl j=>cases ry;exact ne_bool (cX I q (congrArg not CO))
  | str j=>obtain⟨t',rfl⟩:=ry;exact PySem.EqMixed.ne_bool_str (cX I q (by simp))
  | _=>exact absurd (show false=true from hs) Hq
 | int i=>
  obtain⟨t,rfl⟩:=rx
  cases y with
  | non=>cases ry;exact PySem.EqNone.ne_int_none (cX I q (by simp))
  | int j=>obtain⟨t',rfl⟩:=ry;exact ne_int (cX I q (congrArg not zR))
  | str j=>obtain⟨t',rfl⟩:=ry;exact PySem.EqMixed.ne_int_str (cX I q (by simp))
  | _=>exact absurd (show false=true from hs) Hq
 | str i=>
  obtain⟨t,rfl⟩:=rx
  cases y with
  | non=>cases ry;exact PySem.EqNone.ne_str_none (cX I q (by simp))
  | bl j=>cases ry;exact PySem.EqMixed.ne_str_bool (cX I q (by simp))
  | int j=>obtain⟨t',rfl⟩:=ry;exact PySem.EqMixed.ne_str_int (cX I q (by simp))
  | str j=>obtain⟨t',rfl⟩:=ry;exact ne_str (cX I q (congrArg not zQ))
  | _=>exact absurd (show false=true from hs) Hq
 | byt i=>
  obtain⟨t,rfl⟩:=rx
  cases y with
  | byt j=>obtain⟨t',rfl⟩:=ry;exact PySem.W.ne_bytes (cX I q (congrArg not zS))
  | _=>exact absurd (show false=true from hs) Hq
 | _=>cases y <;> exact absurd (show false=true from hs) Hq
theorem Ej:mx X (Iw .Lt) (Br λi j=> .bl (decide (i<j))):=Em λ_ _ _ _ _ _ _ q=>lt_int q
theorem Ek:mx X (Iw .LtE) (Br λi j=> .bl (decide (i<=j))):=Em λ_ _ _ _ _ _ _ q=>le_int q
theorem B0:mx X (Iw .Is) (λx y H Q=>y= .non/\Q (.bl (decide (x= .non))) H):=by
 intro pins s σ H x y v u Q I rx ry h;obtain⟨rfl,q⟩:=h;cases ry;refine is_none_gen (cX I q ?_)
 cases x <;> first
  | (cases rx;rfl)
  | (obtain⟨t,rfl⟩:=rx;rfl)
theorem yY:mx X (Iw .IsNot) (λx y H Q=>y= .non/\Q (.bl (!decide (x= .non))) H):=by
 intro pins s σ H x y v u Q I rx ry h;obtain⟨rfl,q⟩:=h;cases ry;refine isnot_none_gen (cX I q ?_)
 cases x <;> first
  | (cases rx;rfl)
  | (obtain⟨t,rfl⟩:=rx;rfl)
theorem B7 (b:Expr){op:O0}(h:autoParam (op≠ .In) s_)(h2:autoParam (op≠ .NotIn) s_):Js op b=false:=by
 have e1:(op == CmpOp.In)=false:=by cases op <;> first | rfl | exact absurd rfl h
 have e2:(op == CmpOp.NotIn)=false:=by cases op <;> first | rfl | exact absurd rfl h2
 cases b <;> simp[Js,e1,e2]
def Dl (t:TE):TT:=λσ H Q=>t σ H λx H'=> ∃k,x= .bl k/\Q k H'
theorem yJ {op:O0}{r:R2}(ho:mx X (Iw op) r)(ha:PE X a ta)(hb:PE X b tb)(hm:Js op b=false):PT X (.Compare a [op] [b] pos) (Dl (tOp r ta tb)):=by
 intro pins s σ H Q I h
 refine MT (bJ (ha pins s σ H _ I h) λv s1 ⟨x,H1,I1,r1,q1⟩=>bJ (hb pins s1 σ H1 _ I1 q1) λu s2 ⟨y,H2,I2,r2,q2⟩=>
  bJ (ho pins s2 σ H2 x y v u _ I2 r1 r2 q2) λc s3 ⟨z,H3,I3,r3,k,e,q3⟩=> ?_) hm
 subst e;cases r3;exact IC ⟨H3,I3,q3⟩
theorem lr:(sizeLine:Nat)<2 ^ 63:=by rw[Je];decide
theorem qK:mx X (Jo .Add) (λx y H Q=> ∃i j,x= .str i/\y= .str j/\i.length+j.length<=sizeLine/\Q (.str (i++j)) H):=by
 intro pins s σ H x y v u Q I rx ry h;obtain⟨i,j,rfl,rfl,hz,q⟩:=h;obtain⟨t,rfl⟩:=rx;obtain⟨t',rfl⟩:=ry;exact add_str (λt' tk=>⟨.str (i++j),H,I.tok _,⟨_,rfl⟩,q⟩) hz
theorem jd {x:V}{us:List GZ}(r:Vals [x] us):∃u,us= [u]/\RelV x u:=by
 cases r with
 | cons r1 r2=>cases r2;exact⟨_,rfl,r1⟩
theorem uS {x y:V}{us:List GZ}(r:Vals [x,y] us):∃u w',us= [u,w']/\RelV x u/\RelV y w':=by
 cases r with
 | cons r1 r2=>
  cases r2 with
  | cons r3 r4=>cases r4;exact⟨_,_,rfl,r1,r3⟩
theorem ur:CallR X (.type "int") (λxs H Q=>(∃i,xs= [.int i]/\Q (.int i) H)\/∃k,xs= [.bl k]/\Q (.int (if k then 1 else 0)) H):=by
 intro pins s σ H xs us Q I r h;rcases h with⟨i,rfl,q⟩ | ⟨k,rfl,q⟩
 ·obtain⟨u,rfl,t,rfl⟩:=jd r
  exact call_int_int ⟨.int i,H,I,⟨_,rfl⟩,q⟩
 ·obtain⟨u,rfl,r1⟩:=jd r
  cases r1;exact call_int_bool ⟨.int (if k then 1 else 0),H,I.tok _,⟨_,rfl⟩,q⟩
end
structure ObjM (h:Heap)(x dx C:Addr)(mA:Str->Option GZ):Prop where
 obj:h.get? x=some (Mz C dx)
 ns:h.Ns1 dx mA
 ne:dx≠x
theorem tV {h:Heap}{dx:Addr}{mA:Str->Option GZ}(n:h.Ns1 dx mA):∃od,h.get? dx=some od/\∀name,M5 name od=some (mA name):=by
 obtain⟨o,es,ep,ho,hd,hk,_,hm⟩:=n;refine⟨o,ho,λname=> ?_⟩
 have e:=hm name;unfold nsFind findBy at e;rw[<-Nq]at e
 unfold M5;rw[hd]
 dsimp only
 split
 ·rename_i y q
  rw[q]at e;exact congrArg some e
 ·rename_i q
  rw[q]at e
  have a:es.toList.any (·.refKey)=false:=by
   rw[List.any_eq_false];intro y hy;obtain⟨z,t,hkey⟩:=hk y (Array.mem_toList_iff.mp hy);simp[DictEntry.refKey,hkey]
  have a':¬ es.toList.any (·.refKey)=true:=by rw[a];exact Hq
  rw[if_neg a'];exact congrArg some e
theorem ObjM.look {h:Heap}{x dx C:Addr}{mA:Str->Option GZ}(I:ObjM h x dx C mA):∃od,PySem.W.InstAt h x (Mz C dx) C (some od)/\∀name,M5 name od=some (mA name):=
 let ⟨od,ho,hl⟩:=tV I.ns
 ⟨od,⟨I.obj,rfl,rfl,ho⟩,hl⟩
section
variable {prog:Hr}{w:HS}{A:HF}{E:GZ->GX->Prop}{s:GX}{K:GW}{x dx C f:Addr}{mA:Str->Option GZ}{name:Str}{v:GZ}
theorem ij {expr:Bool}{Q:GZ->GX->Prop}(X:K.In s.heap)(I:ObjM s.heap x dx C mA)(hg:Mm K C name=true)(hh:NX K C=true)
  (ha:M6 K (.ref C) name=some none) (hv:mA name=some v) (hv':PySem.W.handedIn v=true) (h:Q v { s with toks:=s.toks+1 }) :
  wpAny (model prog w) A (getAttr (.ref x) name expr) Q E s:=by
 obtain⟨od,J,hl⟩:=I.look;exact PySem.W.get_value X J (PySem.W.plainGet_of hg).1 (PySem.W.findObj_own hh ha rfl (by rw[hl,hv])) hv' h
end
theorem RelO.some_of {v:V}{o:Option GZ}(r:RelO (some v) o):∃u,o=some u/\RelV v u:=by
 cases o with
 | none=>exact(show False from r).elim
 | some u=>exact⟨u,rfl,r⟩
section
variable {P:Hr}{w:HS}{H H':Hp}{h h':Heap}{a C dx:Addr}{fs fs':List (Str×V)}
theorem zu (hok:HOk P w H h)(e:H a=some (.ins C dx fs)):∃mA,ObjM h a dx C mA/\(∀f,RelO (fs.lookup f) (mA f))/\PySem.Within mA (fs.map (·.1))/\fs.length<=1000/\H dx=some (.own a):=by
 obtain⟨d,z,ne,ob,mA,n,r,q⟩:=(show ObjOk P w H h a (.ins C dx fs)from hok a _ e)
 exact⟨mA,⟨ob,n,ne⟩,r,q,z,d⟩
end
structure Cls (K:GW)(C:Addr):Prop where
 pg:Mm K C Str.empty=true
 hd:NX K C=true
 po:PySem.W.plainOver K C=true
 sa:M6 K (.ref C) "__setattr__" =some (some (.builtin "object.__setattr__"))
theorem Cls.get {K:GW}{C:Addr}(c:Cls K C)(f:Str):Mm K C f=true:=c.pg
section
variable {X:Cx}{pins:List (Addr×Obj)}{σ:St}{H:Hp}{s:GX}{A:HF}{E:GZ->GX->Prop}{Q:GZ->GX->Prop}{c:GZ}{b:Bool}
inductive j0 (K:GW) (H:Hp):V->GZ->Prop where
 | non:j0 K H .non (.type "NoneType")
 | bl (x:Bool):j0 K H (.bl x) (.type "bool")
 | int (i:Int):j0 K H (.int i) (.type "int")
 | str (x:Str):j0 K H (.str x) (.type "str")
 | flt (x:UInt64):j0 K H (.flt x) (.type "float")
 | lst {a:Addr} {xs:List V} (e:H a=some (.lst xs)):j0 K H (.ref a) (.type "list")
 | frz {a:Addr} {o:Obj} {xs:List V} (e:H a=some (.frz o (.lst xs))):j0 K H (.ref a) (.type "list")
 | tup {a:Addr} {xs:List V} (e:H a=some (.tup xs)):j0 K H (.ref a) (.type "tuple")
 | dK {a:Addr} {kvs:List (Key×V)} (e:H a=some (.dK kvs)):j0 K H (.ref a) (.type "dict")
 | dT {a:Addr} {kvs:List (List Key×V)} (e:H a=some (.dT kvs)):j0 K H (.ref a) (.type "dict")
 | ins {a C dx:Addr} {fs:List (Str×V)} (e:H a=some (.ins C dx fs)) (cl:Cls K C) (ha:M6 K (.ref C) "__class__" =some (some (.builtin "object.__class__")))
   (hn:PySem.W.specialIn K (.builtin "object.__class__") "__get__" =some (some (.builtin "getset_descriptor.__get__"))) (htk:PySem.W.takesIn K (.builtin "object.__class__")=some true)
   (hm:PySem.W.mroIn K C (.type "object")=some true):j0 K H (.ref a) (.ref C)
theorem ub {x:V}{u t:GZ}(I:Inv X pins σ H s)(rx:RelV x u)(ty:j0 X.K H x t)(e:PySem.W.kitOne X.K t c=some b)(h:∀tk,Q (.bool b) { s with toks:=tk }) :
  wpAny (model X.prog X.w) A (call (.builtin "isinstance") [u,c]) Q E s:=by
 cases ty with
 | non=>cases (show u=HQ from rx);exact IF PySem.W.kitx_none I.kIn KO e (λz=>nomatch z) h
 | bl y=>cases (show u=Ia y from rx);exact IF PySem.W.kitx_bool I.kIn KO e (λz=>nomatch z) h
 | int i=>obtain⟨t,q⟩:=(show ∃t,u=Ji i t from rx);cases q;exact IF PySem.W.kitx_int I.kIn KO e (λz=>nomatch z) h
 | str y=>obtain⟨t,q⟩:=(show ∃t,u=IG y t from rx);cases q;exact IF PySem.W.kitx_str I.kIn KO e (λz=>nomatch z) h
 | flt y=>obtain⟨t,q⟩:=(show ∃t,u=Value.float y t from rx);cases q;exact IF PySem.W.kitx_float I.kIn KO e (λz=>nomatch z) h
 | @lst a xs ea=>
  cases (show u=HD a from rx)
  obtain⟨_,_,n,_,h1⟩:=(show ObjOk X.prog X.w H s.heap a (.lst xs)from I.hok a _ ea)
  exact IF NY I.kIn ⟨_,h1,rfl⟩ e (λz=>nomatch z) h
 | @frz a ob xs ea=>
  cases (show u=HD a from rx)
  obtain⟨_,_,_,n,_,h1⟩:=(show ObjOk X.prog X.w H s.heap a (.frz ob (.lst xs))from I.hok a _ ea)
  exact IF NY I.kIn ⟨_,h1,rfl⟩ e (λz=>nomatch z) h
 | @tup a xs ea=>
  cases (show u=HD a from rx)
  obtain⟨_,_,_,p⟩:=(show ObjOk X.prog X.w H s.heap a (.tup xs)from I.hok a _ ea)
  obtain⟨o,h1,h2,_⟩:=p
  exact IF PySem.W.kitx_tuple I.kIn ⟨o,h1,h2⟩ e (λz=>nomatch z) h
 | @dK a kvs ea=>
  cases (show u=HD a from rx)
  obtain⟨_,_,vs,_,p⟩:=(show ObjOk X.prog X.w H s.heap a (.dK kvs)from I.hok a _ ea)
  obtain⟨o,es,ep,h1,h2,_⟩:=p
  exact IF NZ I.kIn ⟨o,h1,h2.1⟩ e (λz=>nomatch z) h
 | @dT a kvs ea=>
  cases (show u=HD a from rx)
  obtain⟨_,_,xs,_,o,es,ep,h1,h2,_⟩:=(show ObjOk X.prog X.w H s.heap a (.dT kvs)from I.hok a _ ea)
  exact IF NZ I.kIn ⟨o,h1,h2.1⟩ e (λz=>nomatch z) h
 | @ins a C dx fs ea cl ha hn htk hm=>
  cases (show u=HD a from rx)
  obtain⟨mA,O,_⟩:=zu I.hok ea;obtain⟨od,J,_⟩:=O.look;exact IF (PySem.W.kitx_own (cl.get _) cl.hd ha hn htk hm) I.kIn J e (λz=>nomatch z) h
end
structure Room (k:Nat)(A:HF):Prop where
 hd:A.handled=none
 dp:A.depth+3*k+5<J1
 un:A.units+16*k+200<cLine
theorem Room.mono {j k:Nat}{A:HF}(r:Room k A)(h:j<=k):Room j A:=⟨r.hd,by have:=r.dp;omega,by have:=r.un;omega⟩
theorem Room.deeper {k:Nat}{A:HF}(r:Room (k+1) A)(env:Env):Room k (A.deeper env):=
 ⟨r.hd,by have:=r.dp;show A.depth+1+3*k+5<_;omega,by have:=r.un;show A.units+3+16*k+200<_;omega⟩
theorem Room.depth {k:Nat}{A:HF}(r:Room k A):A.depth<J1:=by have:=r.dp;omega
def vh:TA:=λ_ H Q=>Q [] H
def jm (ta:TE)(tr:TA):TA:=λσ H Q=>ta σ H λx H1=>tr σ H1 λxs H2=>Q (x::xs) H2
section
variable {X:Cx}{e:Expr}{es:List Expr}{te:TE}{t:TA}{pos:Pos}
theorem fy:PA X [] vh:=λ_ _ _ _ H Q I h=>Ju ⟨[],H,I,.nil,h⟩
theorem b6 (ha:PE X e te)(hr:PA X es t)(hs:autoParam (Hj (e::es) X.env=(false,eval e X.env)::Hj es X.env) u_):PA X (e::es) (jm te t):=by
 intro pos pins s σ H Q I h;rw[hs]
 show wpAny _ _ (spliced ((false,eval e X.env)::backTo pos (Hj es X.env))) _ _ s
 refine Jl (bJ (ha pins s σ H _ I h) λu s1 hh_=> ?_)
 obtain⟨x,H1,I1,r1,q1⟩:=hh_;exact bJ (hr pos pins s1 σ H1 _ I1 q1) λus s2 ⟨xs,H2,I2,r2,q2⟩=>⟨x::xs,H2,I2,.cons r1 r2,q2⟩
def Dj (t:TA):TE:=λσ H Q=>t σ H λxs H1=>xs.length<=sizeLine/\∀p,H1 p=none->Q (.ref p) (cz H1 p (.tup xs))
def tLst (t:TA):TE:=λσ H Q=>t σ H λxs H1=>xs.length<=sizeLine/\∀p,H1 p=none->Q (.ref p) (cz H1 p (.lst xs))
theorem vQ {x1}(h:PA X es t):PE X (.Tuple es x1 pos) (Dj t):=by
 intro pins s σ H Q I hq;refine wpAny_Tuple_spliced (bJ (h pos pins s σ H _ I hq) λus s1 ⟨xs,H1,I1,r,z,q⟩=>⟨by rw[<-r.length];exact z,?_⟩)
 have hf:H1 s1.heap.objs.size=none:=I1.hok.fresh (He _);refine⟨.ref s1.heap.objs.size,cz H1 s1.heap.objs.size (.tup xs),I1.laid (t':=s1.toks) (λb u e=>G2 _ e) (He _) ?_,rfl,q _ hf⟩
 exact⟨z,us,r,⟨_,Hk _ rfl,rfl,_,rfl⟩⟩
theorem vU (h:PA X es t):PE X (.List es pos) (tLst t):=by
 intro pins s σ H Q I hq;refine NH (bJ (h pos pins s σ H _ I hq) λus s1 ⟨xs,H1,I1,r,z,q⟩=>⟨by rw[<-r.length];exact z,?_⟩)
 have hf:H1 s1.heap.objs.size=none:=I1.hok.fresh (He _);refine⟨.ref s1.heap.objs.size,cz H1 s1.heap.objs.size (.lst xs),I1.laid (t':=s1.toks) (λb u e=>G2 _ e) (He _) ?_,rfl,q _ hf⟩
 exact⟨z,us,0,r,Hk _ rfl⟩
end
abbrev Sp:=List V->Hp->VK->XK->Prop
abbrev uA:=List Env->Hp->GX->XK->GZ->GX->Prop
structure my (P:Hr)(w:HS)(K:GW)(mg:Str->Option GZ)(base:Heap)(A:HF)(outer:List Env)(s:GX)(H:Hp):Prop where
 frames:A.frames=some outer
 mod:Mod K mg base
 bs:∀b o,base.get? b=some o->s.heap.get? b=some o/\H b=none
 bsz:base.objs.size<=s.heap.objs.size
 funs:s.heap.FunFrames base outer
 frf:∀b∈iU outer,H b=none
 hok:HOk P w H s.heap
 bare:MS s.gens
def CE (outer:List Env)(P:Hr)(w:HS)(H:Hp)(s:GX)(Q:VK)(u:GZ)(s':GX):Prop:=
 ∃v H',s'.os=s.os/\MS s'.gens/\Un (iU outer) [] H H' s.heap s'.heap/\HOk P w H' s'.heap/\RelV v u/\Q v H'
def CR (CX:uA)(outer:List Env)(P:Hr)(w:HS)(H:Hp)(s:GX)(Q:VK)(E:XK)(r:KN)(s':GX):Prop:=
 match r with
 | .ok (.ret u)=>CE outer P w H s Q u s'
 | .ok _=>False
 | .error e=>CX outer H s E e s'
structure uz (P:Hr)(w:HS)(K:GW)(mg:Str->Option GZ)(base:Heap)(CX:uA)(k:Nat)(f:Addr)(fd:Ib)(ps:List Str)(sp:Sp):Prop where
 len:∀vs H Q E,sp vs H Q E->vs.length=ps.length
 run:∀(A:HF) (outer:List Env) (s:GX) (H:Hp) (args:Args) (us:List GZ) (vs:List V) (Q:VK) (E:XK),Room k A->my P w K mg base A outer s H->Mj s fd args (ps.zip us)->Vals vs us->sp vs H Q E →
  codeAny (model P w) A (.call (.ref f) args) (CR CX outer P w H s Q E) s
section
variable {X:Cx}{pins:List (Addr×Obj)}{σ:St}{H:Hp}{s s':GX}
theorem Inv.Gc (I:Inv X pins σ H s):my X.prog X.w X.K X.mg X.base X.A X.stack s H:=
 ⟨I.ok.frames,I.ok.mod,I.bs,Hz I.ok.bsz I.sz,I.stack,I.FR,I.hok,I.bare⟩
theorem Inv.after {Q:VK}{u:GZ}(I:Inv X pins σ H s)(h:CE X.stack X.prog X.w H s Q u s'):EP X pins σ Q u s':=by
 obtain⟨v,H',os,bare,un,hok,r,q⟩:=h;obtain⟨hh,g,d,t,os'⟩:=s';obtain rfl:os'=s.os:=os;exact⟨v,H',I.call (h':=hh) (g':=g) (d':=d) (t':=t) (ch:=[]) un hok bare (λb z=>absurd z (by simp)),r,q⟩
end
def Dx (sp:Sp)(dvs:List V)(E:XK)(t:TA):TE:=λσ H Q=>t σ H λvs H1=>sp (vs++dvs) H1 Q E
def Binds (K:GW)(fd:Ib)(ps:List Str)(ds:List GZ):Prop:=
 ∀(s:GX) (us:List GZ),K.In s.heap->(us++ds).length=ps.length->Mj s fd ⟨us,[]⟩ (ps.zip (us++ds))
theorem Binds.all {K:GW}{fd:Ib}{ps:List Str}(h:∀us:List GZ,us.length=ps.length->NI fd ⟨us,[]⟩=pure (ps.zip us)):Binds K fd ps []:=λs us _ hl=>by
 rw[Ii]at hl ⊢;exact .of_eq (h us hl)
def oG (CX:uA)(X:Cx)(E:XK):Prop:=∀(pins:List (Addr×Obj)) (σ:St) (H:Hp) (s:GX) (e:GZ) (s':GX),Inv X pins σ H s->CX X.stack H s E e s'->X.xe e s'
section
variable {X:Cx}{CX:uA}{k:Nat}{f C:Addr}{fd:Ib}{ps:List Str}{sp:Sp}{dvs:List V}{ds:List GZ}{E:XK}{x m:Str}{p pos apos:Pos}{e o:Expr}{es:List Expr}{ta:TE}{t:TA}
theorem Bk {pins:List (Addr×Obj)}{σ:St}{H:Hp}{s:GX}{Q:VK}{us:List GZ}{vs:List V}(F:uz X.prog X.w X.K X.mg X.base CX k f fd ps sp)(hr:Room k X.A)(hb:Binds X.K fd ps ds)(hd:Vals dvs ds)(hx:oG CX X E)
  (I:Inv X pins σ H s) (r:Vals vs us) (h:sp (vs++dvs) H Q E):wpAny (model X.prog X.w) X.A (call (.ref f) us) (EP X pins σ Q) X.xe s:=by
 have r2:Vals (vs++dvs) (us++ds):=r.append hd
 have hl:(us++ds).length=ps.length:=by rw[<-r2.length];exact F.len _ _ _ _ h
 refine wpAny_call (On (F.run X.A X.stack s H ⟨us,[]⟩ (us++ds) (vs++dvs) Q E hr I.Gc (hb s us I.kIn hl) r2 h) λr s' hq=> ?_)
 cases r with
 | error e=>exact hx pins σ H s e s' I hq
 | ok fl=>
  cases fl with
  | ret u=>exact I.after hq
  | next=>exact Jb hq
  | brk=>exact Jb hq
  | cont=>exact Jb hq
theorem rY (F:uz X.prog X.w X.K X.mg X.base CX k f fd ps sp)(hr:Room k X.A)(hg:Gl X x)(hm:X.mg x=some (.ref f))(hk:JZ X.K (.ref f)=true)(hb:Binds X.K fd ps ds)(hd:Vals dvs ds)(hx:oG CX X E)
  (ha:PA X (e::es) t) (hdb:autoParam ((x == ("__debug__" : Str))=false) s_) (he:autoParam (Hj (e::es) X.env=(false,eval e X.env)::Hj es X.env) u_) (hpl:autoParam ((backTo pos (Hj es X.env)).any (·.1)=false) u_) :
  PE X (.Call (.Name x p) (e::es) [] pos) (Dx sp dvs E t):=by
 intro pins s σ H Q I h;refine Iy (ie I hg hm ?_ hdb)
 refine Ly (h₀:=X.base) I.ok.mod.kin hk (bJ (ha pos pins s σ H _ I h) λus s1 ⟨vs,H1,I1,r,q⟩=>⟨I1.kIn,?_⟩) he hpl
 exact Bk F hr hb hd hx I1 r q
end
structure bM (N P:List Str)(sc:J8):Prop where
 kind:sc.kind= .function
 co:sc.isCoroutine=false
 gen:sc.isGenerator=false
 nd:N.Nodup
 pre:N.take P.length=P
 par:∀x∈P,sc.names.lookup x=some .local\/sc.names.lookup x=some .cell
 nofree:∀y∈sc.names,y.2≠ .free
theorem m9 {kindOf:Str->Option J6}{x:Str}:∀{binds:List (Str×GZ)} {m:Str->Option GZ},(∀v,(x,v)∉binds)->bindL kindOf binds m x=m x
 | [],_,_=>rfl
 | (n,v)::r,m,h=>by
  unfold bindL;rw[m9 λw hw=>h w (G5 _ hw)]
  split
  ·have:x≠n:=by rintro rfl;exact h v G7
   simp[this]
  ·rfl
theorem ng {kindOf:Str->Option J6}{x:Str}:∀{binds:List (Str×GZ)} {m:Str->Option GZ},(∀v,(x,v)∉binds)->bindC kindOf binds m x=m x
 | [],_,_=>rfl
 | (n,v)::r,m,h=>by
  unfold bindC;rw[ng λw hw=>h w (G5 _ hw)]
  split
  ·rfl
  ·have:x≠n:=by rintro rfl;exact h v G7
   simp[this]
theorem nc {kindOf:Str->Option J6}{x:Str}{v:GZ}:∀{P:List Str} {vs:List GZ} {i:Nat} {m:Str->Option GZ},P.Nodup->P[i]? =some x->vs[i]? =some v->kindOf x=some .local →
  bindL kindOf (P.zip vs) m x=some v
 | [],_,_,_,_,h,_,_=>by simp at h
 | _::_,[],_,_,_,_,h,_=>by simp at h
 | p::P,w::vs,0,m,nd,h1,h2,hk=>by
  simp at h1 h2;subst h1;subst h2
  show bindL kindOf ((p,w)::P.zip vs) m p=_
  unfold bindL;rw[m9 λv hv=>(IH.mp nd).1 (JN hv).1,if_pos hk]
  simp
 | p::P,w::vs,i+1,m,nd,h1,h2,hk=>by
  show bindL kindOf ((p,w)::P.zip vs) m x=_
  unfold bindL;exact nc (i:=i) (IH.mp nd).2 (by simpa using h1) (by simpa using h2) hk
theorem nh {kindOf:Str->Option J6}{x:Str}{v:GZ}:∀{P:List Str} {vs:List GZ} {i:Nat} {m:Str->Option GZ},P.Nodup->P[i]? =some x->vs[i]? =some v->kindOf x≠some .local →
  bindC kindOf (P.zip vs) m x=some v
 | [],_,_,_,_,h,_,_=>by simp at h
 | _::_,[],_,_,_,_,h,_=>by simp at h
 | p::P,w::vs,0,m,nd,h1,h2,hk=>by
  simp at h1 h2;subst h1;subst h2
  show bindC kindOf ((p,w)::P.zip vs) m p=_
  unfold bindC;rw[ng λv hv=>(IH.mp nd).1 (JN hv).1,if_neg hk]
  simp
 | p::P,w::vs,i+1,m,nd,h1,h2,hk=>by
  show bindC kindOf ((p,w)::P.zip vs) m x=_
  unfold bindC;exact nh (i:=i) (IH.mp nd).2 (by simpa using h1) (by simpa using h2) hk
def start (N:List Str)(vs:List V):St:=vs.map some++Hy (N.length - vs.length) none
def eR (CX:uA)(P:Hr)(w:HS)(K:GW)(mg:Str->Option GZ)(base:Heap)(N:List Str)(qual:Str)(scope:J8)(f:Addr)(cd:GZ)(A:HF)(outer:List Env)(s:GX)(H:Hp)(E:XK):Cx where
 prog:=P
 w:=w
 K:=K
 mg:=mg
 base:=base
 A:=A.deeper (envOfC qual scope s.heap.objs.size f cd)
 N:=N
 s₀:=s
 H₀:=H
 env:=envOfC qual scope s.heap.objs.size f cd
 outer:=outer
 stack:=envOfC qual scope s.heap.objs.size f cd::outer
 ex:=[]
 calm:=true
 fn:=λ_=>true
 pn:=[]
 xe:=λe s'=>wpAny (model P w) (A.deeper (envOfC qual scope s.heap.objs.size f cd)) (leaving (envOfC qual scope s.heap.objs.size f cd) e) (λ_ s''=>CX outer H s E e s'') (λe' s''=>CX outer H s E e' s'') s'
theorem qe {sc:J8}{n:Nat}{x:Str}(h:sc.names.lookup x=some .cell):∃c,(Jj n sc.names []).lookup x=some c:=by
 have q:=IY sc.names n [] (.inl h);exact Kp.mp q
theorem fO {CX:uA}{P:Hr}{w:HS}{K:GW}{mg:Str->Option GZ}{base:Heap}{N ps:List Str}{qual:Str}{scope:J8}{f:Addr}{cd:GZ}{A:HF}{outer:List Env}{s s1:GX}{H:Hp}{E:XK}{us:List GZ}{vs:List V}
  (S:bM N ps scope) (hd:A.handled=none) (e0:my P w K mg base A outer s H) (hl:vs.length=ps.length) (r:Vals vs us)
  (x:InCallC s s.heap.objs.size (bindL (envOfC qual scope s.heap.objs.size f cd).kindOf (ps.zip us) λ_=>none) (Jj (s.heap.objs.size+1) scope.names []) (bindC (envOfC qual scope s.heap.objs.size f cd).kindOf (ps.zip us) λ_=>none) s1) :
  Inv (eR CX P w K mg base N qual scope f cd A outer s H E) [] (start N vs) H s1:=by
 have hpl:ps.length<=N.length:=by have:=congrArg Jc S.pre;rw[IK]at this;omega
 obtain⟨h1,tk,rfl,hk⟩:=x.done
 have noA:∀b:Addr,b∉(eR CX P w K mg base N qual scope f cd A outer s H E).ex:=λb z=>absurd (show b∈([]:List Addr)from z) (by simp)
 refine⟨⟨e0.mod,S.kind,rfl,rfl,He _,λy z c h1 h2=> ?_,λy hy=> ?_,λy c _ h=> ?_,λ_=>hd,MY e0.frames,.inr ⟨rfl,rfl⟩,λb z=>absurd z (noA b),e0.bs,e0.bsz,λb _ _=>noA b,λb z=>absurd z (noA b),e0.funs,e0.frf⟩,
  rfl,e0.bare,Un.kept hk,⟨_,x.toInCall.ns,λi y v h1 h2 h3=> ?_⟩,λy c h=>⟨_,x.cell y c h⟩,e0.hok.fresh (He _),λy c h=> ?_,λp hp=>absurd (show p∈([]:List (Addr×Obj))from hp) (by simp),e0.hok.kept hk,?_⟩
 ·exact name_of_addr x.apart (Jx h1) (Jx h2)
 ·have hy:scope.names.lookup y=some .cell\/scope.names.lookup y=some .free:=hy
  rcases hy with hy | hy
  ·exact qe hy
  ·exact absurd rfl (S.nofree _ (Jx hy))
 ·exact Ko (x.above y c (Jx h))
 ·have hi:i<vs.length:=by
   unfold start at h2
   by_cases hi:i<vs.length
   ·exact hi
   ·rw[IV (by simpa using hi)]at h2
    rw[Ky]at h2
    split at h2 <;> cases h2
  have ha:vs[i]? =some v:=by
   unfold start at h2;rw[II (by simpa using hi),HN]at h2
   cases e:vs[i]? with
   | none=>rw[e]at h2;cases h2
   | some a=>rw[e]at h2;cases h2;rfl
  obtain⟨u,hu,rv⟩:=r.get ha
  have hp:ps[i]? =some y:=by
   rw[<-S.pre,List.getElem?_take_of_lt (by omega)];exact h1
  have ndP:ps.Nodup:=by rw[<-S.pre];exact S.nd.sublist (N1 _ _)
  refine⟨u,rv,?_⟩
  rcases S.par y (Jr hp)with k | k
  ·exact .inl ⟨k,nc ndP hp hu k⟩
  ·obtain⟨c,e⟩:=qe (n:=s.heap.objs.size+1) k
   refine .inr ⟨.inl k,c,e,?_⟩
   have q:=x.cell y c e;rw[nh ndP hp hu (by show scope.names.lookup y≠_;rw[k];decide)]at q
   exact q
 ·exact e0.hok.fresh (Ko (x.above y c (Jx h)))
 ·unfold start
  show _=N.length
  rw[GY,G3,List.length_replicate];omega
theorem pT {CX:uA}{P:Hr}{w:HS}{K:GW}{mg:Str->Option GZ}{base:Heap}{k:Nat}{f:Addr}{name qual:Str}{params:L6}{body:List Stmt}{scope:J8}{dV kV doc pm cdv ct oc:GZ}{an od:Option Addr}
  {osl:Array (Option GZ)} {N ps:List Str} {sp:Sp} (lk:K.lookup f=some ⟨oc,od,.func (JS name qual params body scope dV kV doc pm an cdv ct),osl⟩) (hcd:LH K cdv qual=true) (S:bM N ps scope)
  (len:∀vs H Q E,sp vs H Q E->vs.length=ps.length)
  (hbody:∀(A:HF) (outer:List Env) (s:GX) (H:Hp) (vs:List V) (Q:VK) (E:XK),Room k (A.deeper (envOfC qual scope s.heap.objs.size f cdv))->sp vs H Q E →
   ∃t,PSs (eR CX P w K mg base N qual scope f cdv A outer s H E) body t/\t { nx:=λ_ H'=>Q .non H',rt:=Q } (start N vs) H) :
  uz P w K mg base CX (k+1) f (JS name qual params body scope dV kV doc pm an cdv ct) ps sp:=by
 refine⟨len,λA outer s H args us vs Q E hr e0 hb r hsp=> ?_⟩
 have hl:=len _ _ _ _ hsp
 have KX:K.In s.heap:=e0.mod.kin.keeps λb o e=>(e0.bs b o e).1
 have lim:s.heap.NoLimit:=e0.mod.nolimit.keeps λb o e=>(e0.bs b o e).1
 have hkind:∀y∈ps.zip us,scope.names.lookup y.1=some .local\/(scope.names.lookup y.1=some .cell/\((Jj (s.heap.objs.size+1) scope.names []).lookup y.1).isSome=true):=λ⟨n,v⟩ hy=>by
  rcases S.par n (JN hy).1 with q | q
  ·exact .inl q
  ·exact .inr ⟨q,IY _ _ _ (.inl q)⟩
 refine K2 hr.depth (KX _ _ lk) rfl S.co S.gen rfl (J5 KX hcd) (hb _ _ _ _ ?_)
 refine IX S.kind hkind λenv he s1 x=> ?_
 subst he;refine⟨lim.keeps x.toInCall.keep,Oo ?_⟩
 obtain⟨t,ht,hq⟩:=hbody A outer s H vs Q E (hr.deeper _) hsp
 have I:Inv (eR CX P w K mg base N qual scope f cdv A outer s H E) [] (start N vs) H s1:=fO S hr.hd e0 hl r x;refine HX (ht [] s1 (start N vs) H _ I hq) (λfl s' hs=> ?_) λe s' hs=>hs
 have fin:∀{σ':St} {H':Hp} {v:V} {u:GZ},Inv (eR CX P w K mg base N qual scope f cdv A outer s H E) [] σ' H' s'->RelV v u->Q v H'->CE outer P w H s Q u s':=
  λ{σ' H' v u} J rv q=>⟨v,H',J.os,J.bare,J.base,J.hok,rv,q⟩
 cases fl with
 | ret u=>
  obtain⟨v,σ',H',J,rv,q⟩:=hs
  exact fin J rv q
 | next=>
  obtain⟨σ',H',J,q⟩:=hs
  exact fin (v:=V.non) (u:=HQ) J rfl q
 | brk=>
  obtain⟨_,_,_,q⟩:=hs
  exact Jb q
 | cont=>
  obtain⟨_,_,_,q⟩:=hs;exact Jb q
end L2
namespace HT
open PySem PyProof.Rows
section
variable {prog:Hr}{w:HS}{A:HF}{E:GZ->GX->Prop}{s:GX}
theorem cat_tup {t b:Addr}{vs ws:List GZ}{Q:GZ->GX->Prop}(ht:Pa s.heap t vs.toArray)(hb:Pa s.heap b ws.toArray)(hv:vs≠ [])
  (h1:ws= []->Q (.ref t) s) (h2:ws≠ []->Q (.ref s.heap.objs.size) { s with heap:=s.heap.push { cls:=.type "tuple",data:=.seq (vs++ws).toArray } })
  (hsz:vs.length+ws.length<=sizeLine):wpAny (model prog w) A (Jo .Add (.ref t) (.ref b)) Q E s:=by
 obtain⟨⟨cls,dd,data,sl⟩,ho,hc,n,hd⟩:=id ht;obtain⟨⟨cls2,dd2,data2,sl2⟩,ho2,hc2,n2,hd2⟩:=id hb;simp only at hc hd hc2 hd2;subst hc hd hc2 hd2
 have e:vs.toArray++ws.toArray=(vs++ws).toArray:=by simp
 by_cases hw:ws= []
 ·exact Oq ⟨_,ho,rfl⟩ ⟨_,ho2,rfl⟩ Mt NJ KJ Kt (Km _ _)
   (tuple_addW1 t b vs.toArray ws.toArray n n2 dd dd2 sl sl2 (by simpa using hv) (by simp[hw])) ⟨ho,ho2,h1 hw⟩
 ·refine Oq ⟨_,ho,rfl⟩ ⟨_,ho2,rfl⟩ Mt NJ KJ Kt (Km _ _)
   (tuple_addW2 t b vs.toArray ws.toArray n n2 dd dd2 sl sl2 (by simpa using hv) (by simpa using hw) (by rw[Hn,Hn];exact hsz)) ⟨ho,ho2,?_⟩
  rw[e];exact h2 hw
def sIx (n d:Nat):Option Int->Nat
 | none=>d
 | some v=>if v<0 then(v+(n:Int)).toNat else min v.toNat n
theorem sIx_none (n d:Nat):sIx n d none=d:=rfl
theorem sIx_nat (n d k:Nat):sIx n d (some (k:Int))=min k n:=by
 show(if (k:Int)<0 then((k:Int)+(n:Int)).toNat else min (k:Int).toNat n)=min k n
 rw[if_neg (by omega),HV]
theorem Bi (n d:Nat)(hd:d<=n)(o:Option Int):sIx n d o<=n:=by
 cases o with
 | none=>exact hd
 | some v=>
  show(if v<0 then(v+(n:Int)).toNat else min v.toNat n)<=n
  by_cases hv:v<0
  ·rw[if_pos hv];omega
  ·rw[if_neg hv];exact Nat.min_le_right _ _
theorem sR (v:Int)(n d:Nat):(if v<0 then max (v+(n:Int)) 0 else min v (n:Int))=((sIx n d (some v):Nat):Int):=by
 show(if v<0 then max (v+(n:Int)) 0 else min v (n:Int))=(((if v<0 then(v+(n:Int)).toNat else min v.toNat n):Nat):Int)
 by_cases hv:v<0
 ·simp only[if_pos hv];omega
 ·simp only[if_neg hv];omega
theorem rq (lo hi:Option Int)(n:Nat):Kh lo hi 1 (n:Int)=(((sIx n 0 lo:Nat):Int),((sIx n n hi:Nat):Int)):=by
 have h1:¬ ((1:Int)<0):=by omega
 unfold Kh;simp only[h1,if_false];refine Prod.ext ?_ ?_
 ·cases lo with
  | none=>rfl
  | some v=>exact sR v n 0
 ·cases hi with
  | none=>rfl
  | some v=>exact sR v n n
theorem qI (i j:Nat):JH (i:Int) (j:Int) 1=j - i:=by
 unfold JH
 have h1:(1:Int) > 0:=by omega
 simp only[h1,if_true,Int.ediv_one]
 split <;> omega
theorem kW {v:GZ}{o:Option Int}{Q:Option Int->GX->Prop}(p:NK v o)(h:Q o s):wpAny (model prog w) A (OJ v) Q E s:=by
 cases p with
 | none=>exact slicePart_none h
 | int i t=>exact slicePart_int h
theorem fJ {sl:Addr}{vl vu:GZ}{lo hi:Option Int}{n:Nat}{Q:Int×Int×Nat->GX->Prop}(hs:s.heap.IsSliceOf sl vl vu .none)(pl:NK vl lo)(pu:NK vu hi)
  (h:Q (((sIx n 0 lo:Nat):Int),1,sIx n n hi - sIx n 0 lo) s):wpAny (model prog w) A (Lq (.ref sl) (pure (n:Int))) Q E s:=by
 obtain⟨os,hos,hcs,hds⟩:=id hs;unfold Lq Builtin.Slice.sliceFields;refine G1 (G1 (H0 hos hds (x:=vl) rfl (G1 (H0 hos hds (x:=vu) rfl (G1 (H0 hos hds (x:=.none) rfl (Ha ?_)))))))
 refine G1 (slicePart_none ?_)
 show wpAny _ _ (if ((1:Int) == 0)=true then _ else _) _ _ s
 rw[if_neg (by decide)]
 refine G1 (kW pl (G1 (kW pu (G1 (Ha ?_)))))
 show wpAny _ _ (match Kh lo hi 1 (n:Int)with | (lo,hi)=>pure (lo,(1:Int),JH lo hi 1)) _ _ s
 rw[rq lo hi n]
 show wpAny _ _ (pure (((sIx n 0 lo:Nat):Int),(1:Int),JH ((sIx n 0 lo:Nat):Int) ((sIx n n hi:Nat):Int) 1)) _ _ s
 rw[qI];exact Ha h
theorem vO (xs:Array GZ)(i k:Nat):((Io k).filterMap λ(m:Nat)=>xs[((i:Int)+(m:Int)*1).toNat]?).toArray=((xs.toList.drop i).take k).toArray:=by
 have e:(λ(m:Nat)=>xs[((i:Int)+(m:Int)*1).toNat]?)=λm=>xs[i+m]?:=by
  funext m
  have:((i:Int)+(m:Int)*1).toNat=i+m:=by omega
  rw[this]
 rw[e]
 have:=pick_run xs i k;rw[List.filterMap_map]at this
 have e2:((λx=>xs[x]?)∘λx=>i+x)=λm=>xs[i+m]?:=rfl
 rw[e2]at this;rw[this]
theorem getItem_tuple_cut {t sl:Addr}{items:Array GZ}{vl vu:GZ}{lo hi:Option Int}{Q:GZ->GX->Prop}(ht:Pa s.heap t items)(hs:s.heap.IsSliceOf sl vl vu .none)(pl:NK vl lo)(pu:NK vu hi)
  (hw:¬ (sIx items.size 0 lo=0/\sIx items.size items.size hi=items.size))
  (h:Q (.ref s.heap.objs.size) { s with heap:=s.heap.push { cls:=.type "tuple",data:=.seq ((items.toList.drop (sIx items.size 0 lo)).take (sIx items.size items.size hi - sIx items.size 0 lo)).toArray } })
  (hsz:items.size<=sizeLine):wpAny (model prog w) A (getItem (.ref t) (.ref sl)) Q E s:=by
 have htake:sizeOk (.seq ((items.toList.drop (sIx items.size 0 lo)).take (sIx items.size items.size hi - sIx items.size 0 lo)).toArray):=by
  show((items.toList.drop (sIx items.size 0 lo)).take (sIx items.size items.size hi - sIx items.size 0 lo)).toArray.size<=sizeLine
  rw[Hn,IK,Ig,Jw];omega
 have hj:sIx items.size items.size hi<=items.size:=Bi _ _ (He _) hi;obtain⟨os,hos,hcs,hds⟩:=id hs
 have hTs:s.TypeIs (.ref sl) "slice":=⟨os,hos,hcs⟩;unfold getItem
 try with_reducible refine IE ?_
 first | refine G1 (Ha ?_) | skip
 refine G1 (Oc ht.typeIs (by decide) ?_)
 refine G1 (Il (name:=Hi "__getitem__") ht.typeIs Ih
  (IU Ih ht.typeIs Nh ?_ (NL _ _)))
 show wpAny _ _ (Lr (.ref t) >>= _) _ _ s
 refine G1 (NM ht ?_)
 refine G1 (LG hTs ?_)
 rw[if_pos (by decide)]
 refine G1 (fJ hs pl pu ?_)
 have hno:¬ ((((sIx items.size 0 lo:Nat):Int) == 0&&(1:Int) == 1&&(sIx items.size items.size hi - sIx items.size 0 lo) == items.size)=true):=by
  intro q;rw[G6,G6]at q
  have q1:((sIx items.size 0 lo:Nat):Int)=0:=eq_of_beq q.1.1
  have q2:sIx items.size items.size hi - sIx items.size 0 lo=items.size:=eq_of_beq q.2;exact hw ⟨by omega,by omega⟩
 show wpAny _ _ (if (((sIx items.size 0 lo:Nat):Int) == 0&&(1:Int) == 1&&(sIx items.size items.size hi - sIx items.size 0 lo) == items.size)=true then _ else _) _ _ s
 rw[if_neg hno,vO]
 first
  | exact G1 (m:=Jk _) (IM (Ha ⟨_,rfl,Ha h⟩) htake)
  | exact G1 (m:=Jk _) (IM (G1 (Ha (Ha ⟨_,rfl,Ha h⟩))) htake)
  | exact G1 (G1 (m:=Jk _) (IM (Ha (Ha ⟨_,rfl,Ha h⟩)) htake))
  | exact G1 (G1 (m:=Jk _) (IM (Ha ⟨_,rfl,Ha h⟩) htake))
end
end HT
namespace L2
open PySem PySem.Spec PyProof.Rows
abbrev TO:=St->Hp->(Option Int->Hp->Prop)->Prop
def PO (X:Cx)(e:Option Expr)(t:TO):Prop:=
 ∀(pins:List (Addr×Obj)) (s:GX) (σ:St) (H:Hp) (Q:Option Int->Hp->Prop),Inv X pins σ H s->t σ H Q →
  wpAny (model X.prog X.w) X.A (evalPart e X.env) (λu s'=> ∃o H',Inv X pins σ H' s'/\NK u o/\Q o H') X.xe s
def yg:TO:=λ_ H Q=>Q none H
def Dp (t:TE):TO:=λσ H Q=>t σ H λx H1=> ∃i,x= .int i/\Q (some i) H1
theorem qY {ns:List Int}:∀{us:List GZ},Vals (ns.map V.int) us->LQ us ns:=by
 induction ns with
 | nil=>intro us r;rw[Lz]at r;cases r;exact .nil
 | cons n ns ih=>
  intro us r;rw[G9]at r
  cases r with
  | cons r1 r2=>
   obtain⟨t,e⟩:=r1;subst e;exact .cons n t (ih r2)
section
variable {X:Cx}{e:Expr}{te:TE}{lo hi:Option Expr}{tl th:TO}{pos p2:Pos}
theorem yN:PO X none yg:=by
 intro pins s σ H Q I h;rw[NN];exact Ha ⟨none,H,I,.none,h⟩
theorem yM (h:PE X e te):PO X (some e) (Dp te):=by
 intro pins s σ H Q I hw;rw[evalPart_some];refine bJ (h pins s σ H _ I hw) λu s1 hh_=> ?_
 obtain⟨x,H1,I1,r1,q1⟩:=hh_;obtain⟨i,rfl,q⟩:=q1;obtain⟨t,rfl⟩:=r1;exact⟨some i,H1,I1,.int i t,q⟩
def SlR (X:Cx)(r:V->Option Int->Option Int->Hp->VK->Prop):Prop:=
 ∀(pins:List (Addr×Obj)) (s:GX) (σ:St) (H:Hp) (x:V) (v vl vu:GZ) (lo hi:Option Int) (sl:Addr) (Q:VK),Inv X pins σ H s->RelV x v->s.heap.IsSliceOf sl vl vu .none->NK vl lo->NK vu hi->r x lo hi H Q →
  ∃T id,KS (.type T) "__getitem__" =pure (some (.builtin id))/\s.TypeIs v T/\wpAny (model X.prog X.w) X.A (getItem v (.ref sl)) (EP X pins σ Q) X.xe s
theorem SlR.or {r r':V->Option Int->Option Int->Hp->VK->Prop}(h:SlR X r)(h':SlR X r'):SlR X (λx lo hi H Q=>r x lo hi H Q\/r' x lo hi H Q):=by
 intro pins s σ H x v vl vu lo hi sl Q I rx hs pl pu q;rcases q with q | q
 ·exact h pins s σ H x v vl vu lo hi sl Q I rx hs pl pu q
 ·exact h' pins s σ H x v vl vu lo hi sl Q I rx hs pl pu q
def tSl (r:V->Option Int->Option Int->Hp->VK->Prop)(te:TE)(tl th:TO):TE:=λσ H Q=>te σ H λx H1=>tl σ H1 λl H2=>th σ H2 λu H3=>r x l u H3 Q
theorem vS {r:V->Option Int->Option Int->Hp->VK->Prop}(hr:SlR X r)(he:PE X e te)(hl:PO X lo tl)(hu:PO X hi th):PE X (.Subscript e (.Slice lo hi none p2) pos) (tSl r te tl th):=by
 intro pins s σ H Q I h;refine Od (bJ (he pins s σ H _ I h) λv s1 hh_=> ?_)
 obtain⟨x,H1,I1,r1,q1⟩:=hh_;refine wpAny_Slice (bJ (hl pins s1 σ H1 _ I1 q1) λvl s2 ⟨l,H2,I2,pl,q2⟩=>bJ (hu pins s2 σ H2 _ I2 q2) λvu s3 hh_=> ?_)
 obtain⟨u,H3,I3,pu,q3⟩:=hh_;rw[NN];refine Ha ?_
 have I4:Inv X pins σ H3 { s3 with heap:=s3.heap.push { cls:=.type "slice",data:=.fields #[vl,vu,.none] } }:=I3.kept (t':=s3.toks) λb ob q=>G2 _ q
 obtain⟨T,id,hT,ht,hg⟩:=hr pins { s3 with heap:=s3.heap.push { cls:=.type "slice",data:=.fields #[vl,vu,.none] } } σ H3 x v vl vu l u s3.heap.objs.size Q I4 r1 (Nl ..) pl pu q3
 show wpAny (model X.prog X.w) X.A (Mk e (.Slice lo hi none p2) v (.ref s3.heap.objs.size)) (EP X pins σ Q) X.xe { s3 with heap:=s3.heap.push { cls:=.type "slice",data:=.fields #[vl,vu,.none] } }
 exact tail_any (ops:=[.ref s3.heap.objs.size,v]) ht hT hg (by with_unfolding_all rfl)
def qd (xs:List V)(lo hi:Option Int):List V:=(xs.drop (HT.sIx xs.length 0 lo)).take (HT.sIx xs.length xs.length hi - HT.sIx xs.length 0 lo)
theorem kj (xs:List V)(lo hi:Option Int):(qd xs lo hi).length<=xs.length:=by
 unfold qd;rw[IK,Ig];omega
def rSlT (K:GW):V->Option Int->Option Int->Hp->VK->Prop:=λx lo hi H Q=> ∃a xs,x= .ref a/\SqT K H a xs ∧
 ¬(HT.sIx xs.length 0 lo=0/\HT.sIx xs.length xs.length hi=xs.length)/\∀p,H p=none->Q (.ref p) (cz H p (.tup (qd xs lo hi)))
theorem sl_tup:SlR X (rSlT X.K):=by
 intro pins s σ H x v vl vu lo hi sl Q I rx hs pl pu h;obtain⟨a,xs,rfl,hx,hw,q⟩:=h;cases rx;obtain⟨its,r,ht,hz⟩:=I.tuple hx
 have hlen:its.toArray.size=xs.length:=by rw[Hn];exact r.length.symm
 refine⟨"tuple",_,Ih.lookup,ht.typeIs,?_⟩
 refine HT.getItem_tuple_cut ht hs pl pu (by rw[hlen];exact hw) ?_ (by rw[hlen];exact hz)
 rw[hlen];refine⟨.ref s.heap.objs.size,_,I.laid (t':=s.toks) (o:=.tup (qd xs lo hi)) (λb ob q=>G2 _ q) (He _) ?_,rfl,q _ (I.hok.fresh (He _))⟩
 exact⟨Hz (kj xs lo hi) hz,_,(r.drop (HT.sIx xs.length 0 lo)).take (HT.sIx xs.length xs.length hi - HT.sIx xs.length 0 lo),Nr _ _⟩
def DN (K:GW):R2:=λx y H Q=> ∃a b xs ys,x= .ref a/\y= .ref b/\SqT K H a xs/\SqT K H b ys/\xs≠ []/\xs.length+ys.length<=sizeLine ∧
 (ys= []->Q (.ref a) H)/\(ys≠ []->∀p,H p=none->Q (.ref p) (cz H p (.tup (xs++ys))))
theorem Vals.Da {xs:List V}{us:List GZ}(r:Vals xs us):us= [] ↔xs= []:=by
 cases r with
 | nil=>simp
 | cons _ _=>simp
theorem y0:mx X (Jo .Add) (DN X.K):=by
 intro pins s σ H x y v u Q I rx ry h;obtain⟨a,b,xs,ys,rfl,rfl,ha,hb,hx,hz,q1,q2⟩:=h;cases rx;cases ry;obtain⟨its,r1,p1,_⟩:=I.tuple ha;obtain⟨its2,r2,p2,_⟩:=I.tuple hb;refine HT.cat_tup p1 p2 (λz=>hx (r1.Da.mp z)) (λz=>⟨.ref a,H,I,rfl,q1 (r2.Da.mp z)⟩) (λz=> ?_) (by rw[<-r1.length,<-r2.length];exact hz)
 refine⟨.ref s.heap.objs.size,_,I.laid (t':=s.toks) (o:=.tup (xs++ys)) (λb ob q=>G2 _ q) (He _) ?_,rfl,q2 (λw=>z (r2.Da.mpr w)) _ (I.hok.fresh (He _))⟩
 exact⟨by rw[GY];exact hz,_,r1.append r2,Nr _ _⟩
end
def ixN (n:Nat)(i:Int):Option Nat:=if 0<=i then(if i<n then some i.toNat else none)else if -(n:Int)<=i then some (i+n).toNat else none
def atI {α:Type}(xs:List α)(i:Int):Option α:=(ixN xs.length i).bind λj=>xs[j]?
theorem zo {n:Nat}{i:Int}{j:Nat}(h:ixN n i=some j):seqIndex? i n=some j/\j<n/\-(n:Int)<=i/\i<n:=by
 unfold ixN at h
 by_cases h0:0<=i
 ·rw[if_pos h0]at h
  by_cases h1:i<n
  ·rw[if_pos h1]at h
   have e:i.toNat=j:=HW h;exact⟨by rw[seqIndex_of h0 h1,e],by omega,by omega,h1⟩
  ·rw[if_neg h1]at h;cases h
 ·rw[if_neg h0]at h
  by_cases h1 : -(n:Int)<=i
  ·rw[if_pos h1]at h
   have e:(i+n).toNat=j:=HW h;exact⟨by rw[seqIndex_neg (by omega) h1,e],by omega,h1,by omega⟩
  ·rw[if_neg h1]at h;cases h
theorem oF {α:Type}{xs:List α}{i:Int}{v:α}(h:atI xs i=some v):∃j,seqIndex? i xs.length=some j/\xs[j]? =some v/\j<xs.length/\-(xs.length:Int)<=i/\i<xs.length:=by
 unfold atI at h
 cases e:ixN xs.length i with
 | none=>rw[e]at h;cases h
 | some j=>
  rw[e]at h;obtain⟨h1,h2,h3,h4⟩:=zo e;exact⟨j,h1,h,h2,h3,h4⟩
def sY (b:Expr):Prop:=∀o i,Ni b false o i=operate [o,i] (getItem o i)
def IxR (X:Cx)(r:R2):Prop:=
 ∀(value slice:Expr) (pins:List (Addr×Obj)) (s:GX) (σ:St) (H:Hp) (x y:V) (v u:GZ) (Q:VK),Inv X pins σ H s->RelV x v->RelV y u->r x y H Q →
  Ni slice false v u=operate [v,u] (getItem v u)->wpAny (model X.prog X.w) X.A (Mk value slice v u) (EP X pins σ Q) X.xe s
def MtR (X:Cx)(id:String)(r:V->List V->Hp->VK->Prop):Prop:=
 ∀(pins:List (Addr×Obj)) (s:GX) (σ:St) (H:Hp) (x:V) (xs:List V) (v:GZ) (us:List GZ) (Q:VK),Inv X pins σ H s->RelV x v->Vals xs us->r x xs H Q →
  wpAny (model X.prog X.w) X.A (call (.builtin id) (v::us)) (EP X pins σ Q) X.xe s
section
variable {X:Cx}{a b:Expr}{ta tb:TE}{pos:Pos}
theorem IxR.or {r r':R2}(h:IxR X r)(h':IxR X r'):IxR X (λx y H Q=>r x y H Q\/r' x y H Q):=by
 intro value slice pins s σ H x y v u Q I rx ry q hs;rcases q with q | q
 ·exact h value slice pins s σ H x y v u Q I rx ry q hs
 ·exact h' value slice pins s σ H x y v u Q I rx ry q hs
def DM (K:GW):R2:=λx y H Q=> ∃p xs i v,x= .ref p/\y= .int i/\SqL K H p xs/\atI xs i=some v/\Q v H
def DK (K:GW):R2:=λx y H Q=> ∃p xs i v,x= .ref p/\y= .int i/\SqT K H p xs/\atI xs i=some v/\Q v H
def DL:R2:=λx y H Q=> ∃z i c,x= .str z/\y= .int i/\z.length<=sizeLine/\atI z.cps.toList i=some c/\Q (.str ⟨#[c]⟩) H
theorem ix_list:IxR X (DM X.K):=by
 intro value slice pins s σ H x y v u Q I rx ry h hs;obtain⟨p,xs,i,z,rfl,rfl,hq,he,q⟩:=h;cases rx;obtain⟨t,rfl⟩:=ry;obtain⟨its,r,pl,hz⟩:=I.list hq;obtain⟨j,h1,h2,h3,h4,h5⟩:=oF he;obtain⟨w,ew,rw'⟩:=r.get h2
 have hl:=r.length
 have hn:=lr
 have fin:EP X pins σ Q w s:=⟨z,H,I,rw',q⟩
 by_cases h0:0<=i
 ·have hj:i.toNat=j:=by
   rw[seqIndex_of h0 h5]at h1;exact HW h1
  exact item_listR pl.isList h0 (by omega) (by rw[hj];simpa using ew) fin hs
 ·have hj:(i+(its.toArray.size:Int)).toNat=j:=by
   rw[seqIndex_neg (by omega) h4]at h1
   rw[Hn,<-hl];exact HW h1
  exact Mx (x:=w) pl.isList.typeIs slot_list_getitem.lookup
   (wpAny_getItem_list_neg (Q:=λr s'=>r=w/\EP X pins σ Q r s') pl.isList (by omega) (by rw[Hn] <;> omega) (by omega) (by rw[hj];simpa using ew) ⟨rfl,fin⟩) hs
theorem ix_tup:IxR X (DK X.K):=by
 intro value slice pins s σ H x y v u Q I rx ry h hs;obtain⟨p,xs,i,z,rfl,rfl,hq,he,q⟩:=h;cases rx;obtain⟨t,rfl⟩:=ry;obtain⟨its,r,pl,hz⟩:=I.tuple hq;obtain⟨j,h1,h2,h3,h4,h5⟩:=oF he;obtain⟨w,ew,rw'⟩:=r.get h2
 have hl:=r.length
 have hn:=lr
 have fin:EP X pins σ Q w s:=⟨z,H,I,rw',q⟩
 exact Mx (x:=w) pl.typeIs slot_tuple_getitem.lookup
  (getItem_tuple (j:=j) (Q:=λr s'=>r=w/\EP X pins σ Q r s') pl (by omega) (by omega) (by rw[Hn,<-hl];exact h1) (by simpa using ew) ⟨rfl,fin⟩) hs
theorem Cn:IxR X DL:=by
 intro value slice pins s σ H x y v u Q I rx ry h hs;obtain⟨z,i,c,rfl,rfl,hz,he,q⟩:=h;obtain⟨t,rfl⟩:=rx;obtain⟨t',rfl⟩:=ry;obtain⟨j,h1,h2,h3,h4,h5⟩:=oF he
 have hl:z.cps.toList.length=z.length:=by simp[Str.length]
 rw[hl]at h1 h4 h5
 have hn:=lr
 exact tail_any (typeIs_str s z t) slot_str_getitem.lookup (getItem_str (c:=c) (by
  have e1:decide (i< -(2 ^ 63:Int))=false:=decide_eq_false (by omega)
  have e2:decide (i ≥ 2 ^ 63)=false:=decide_eq_false (by omega)
  rw[e1,e2,Mc]) (by rw[h1];simpa using h2) ⟨.str ⟨#[c]⟩,H,I.tok _,⟨_,rfl⟩,q⟩) hs
def rIx (K:GW):R2:=λx y H Q=>DM K x y H Q\/DK K x y H Q\/DL x y H Q
theorem Co:IxR X (rIx X.K):=ix_list.or (ix_tup.or Cn)
theorem nK (lo hi:Option Int)(n:Nat):(KU lo hi none n).1=((HT.sIx n 0 lo:Nat):Int)/\(KU lo hi none n).2.1=((HT.sIx n n hi:Nat):Int)/\(KU lo hi none n).2.2=1:=by
 refine⟨?_,?_,rfl⟩
 ·cases lo with
  | none=>simp[KU,HT.sIx]
  | some i=>
   simp only[KU,HT.sIx,Ov,show(1:Int) > 0 by decide,if_true]
   by_cases h:i<0
   ·simp only[h,if_true] <;> omega
   ·simp only[h,if_false] <;> omega
 ·cases hi with
  | none=>simp[KU,HT.sIx]
  | some i=>
   simp only[KU,HT.sIx,Ov,show(1:Int) > 0 by decide,if_true]
   by_cases h:i<0
   ·simp only[h,if_true] <;> omega
   ·simp only[h,if_false] <;> omega
theorem l8 (its:List GZ)(lo hi:Option Int):slicePick its.toArray lo hi none=((its.drop (HT.sIx its.length 0 lo)).take (HT.sIx its.length its.length hi - HT.sIx its.length 0 lo)).toArray:=by
 obtain⟨h1,h2,h3⟩:=nK lo hi its.toArray.size;unfold slicePick;rw[h1,h2,h3];simp only[sliceRange_one,pick_run,Hn] <;> rfl
def rSlL (K:GW):V->Option Int->Option Int->Hp->VK->Prop:=λx lo hi H Q=> ∃a xs,x= .ref a/\SqL K H a xs/\∀p,H p=none->Q (.ref p) (cz H p (.lst (qd xs lo hi)))
theorem rN:SlR X (rSlL X.K):=by
 intro pins s σ H x v vl vu lo hi sl Q I rx hs pl pu h;obtain⟨a,xs,rfl,hx,q⟩:=h;cases rx;obtain⟨its,r,ht,hz⟩:=I.list hx
 have hlen:=r.length;refine⟨"list",_,slot_list_getitem.lookup,ht.isList.typeIs,?_⟩
 refine wpAny_getItem_list_slice ht.isList hs pl pu .none (by simp) ?_ (by rw[Hn] <;> omega)
 rw[l8,<-hlen];refine⟨.ref s.heap.objs.size,_,I.laid (t':=s.toks) (o:=.lst (qd xs lo hi)) (λb ob q=>G2 _ q) (He _) ?_,rfl,q _ (I.hok.fresh (He _))⟩
 exact⟨Hz (kj xs lo hi) hz,_,0,(r.drop (HT.sIx xs.length 0 lo)).take (HT.sIx xs.length xs.length hi - HT.sIx xs.length 0 lo),Hk _ rfl⟩
theorem call_len_seq:CallR X (.builtin "len") (λxs H Q=> ∃p ys,xs= [.ref p]/\(SqL X.K H p ys\/SqT X.K H p ys)/\Q (.int ys.length) H):=by
 intro pins s σ H xs us Q I r h;obtain⟨p,ys,rfl,hq,q⟩:=h;obtain⟨u,rfl,rx⟩:=jd r;cases rx
 have hn:=lr;rcases hq with hq | hq
 ·obtain⟨its,r',pl,hz⟩:=I.list hq
  have hlen:=r'.length;exact Calls.call_len_list pl.isList (by simp only[Hn] <;> omega) ⟨.int ys.length,H,I.tok _,⟨s.toks+1,by rw[Hn,hlen]⟩,q⟩
 ·obtain⟨its,r',pl,hz⟩:=I.tuple hq
  have hlen:=r'.length;exact len_tuple pl (by simp only[Hn] <;> omega) ⟨.int ys.length,H,I.tok _,⟨s.toks+1,by rw[Hn,hlen]⟩,q⟩
theorem oA:CallR X (.builtin "len") (λxs H Q=> ∃z,xs= [.str z]/\z.length<=sizeLine/\Q (.int z.length) H):=by
 intro pins s σ H xs us Q I r h;obtain⟨z,rfl,hz,q⟩:=h;obtain⟨u,rfl,t,rfl⟩:=jd r
 have hn:=lr;exact len_str (by omega) ⟨.int z.length,H,I.tok _,⟨_,rfl⟩,q⟩
theorem CallR.or {f:GZ}{r r':List V->Hp->VK->Prop}(h:CallR X f r)(h':CallR X f r'):CallR X f (λxs H Q=>r xs H Q\/r' xs H Q):=by
 intro pins s σ H xs us Q I rs q;rcases q with q | q
 ·exact h pins s σ H xs us Q I rs q
 ·exact h' pins s σ H xs us Q I rs q
theorem oy:CallR X (.type "list") (λxs H Q=> ∃p ys,xs= [.ref p]/\(SqL X.K H p ys\/SqT X.K H p ys)/\∀l,H l=none->Q (.ref l) (cz H l (.lst ys))):=by
 intro pins s σ H xs us Q I r h;obtain⟨p,ys,rfl,hq,q⟩:=h;obtain⟨u,rfl,rx⟩:=jd r;cases rx
 have fin:∀(its:List GZ),Vals ys its->ys.length<=sizeLine->∀(h':Heap) (c':Nat),(∀b o',s.heap.get? b=some o'->h'.get? b=some o') →
   h'.get? s.heap.objs.size=some { cls:=.type "list",dict:=none,data:=.seq its.toArray c',slots:=#[] }->EP X pins σ Q (.ref s.heap.objs.size) { s with heap:=h' }:=λits r' hz h' c' kp e=>
  ⟨.ref s.heap.objs.size,_,I.laid (t':=s.toks) kp (He _) (show ObjOk X.prog X.w _ h' _ (.lst ys)from⟨hz,its,c',r',e⟩),rfl,q _ (I.hok.fresh (He _))⟩
 rcases hq with hq | hq
 ·obtain⟨its,r',pl,hz⟩:=I.list hq
  have hlen:=r'.length;obtain⟨o,ho,hc,n,hd⟩:=pl.isList;exact call_list_seq p (.inl rfl) ho hc hd (λh' c' kp e=>fin its r' hz h' c' kp e) (by simp only[Hn] <;> omega)
 ·obtain⟨its,r',pl,hz⟩:=I.tuple hq
  have hlen:=r'.length;obtain⟨o,ho,hc,n,hd⟩:=pl;exact call_list_seq p (.inr rfl) ho hc hd (λh' c' kp e=>fin its r' hz h' c' kp e) (by simp only[Hn] <;> omega)
theorem mw:CallR X (.type "tuple") (λxs H Q=> ∃p ys,xs= [.ref p]/\((SqL X.K H p ys/\∀l,H l=none->Q (.ref l) (cz H l (.tup ys)))\/(SqT X.K H p ys/\Q (.ref p) H))):=by
 intro pins s σ H xs us Q I r h;obtain⟨p,ys,rfl,h⟩:=h;obtain⟨u,rfl,rx⟩:=jd r;cases rx;rcases h with⟨hq,q⟩ | ⟨hq,q⟩
 ·obtain⟨its,r',pl,hz⟩:=I.list hq
  have hlen:=r'.length;refine call_tuple_list pl.isList (λh' kp=> ?_) (by simp only[Hn] <;> omega)
  have I1:Inv X pins σ H { s with heap:=h' }:=I.kept (t':=s.toks) kp
  have I2:Inv X pins σ (cz H h'.objs.size (.tup ys)) { s with heap:=h'.push { cls:=.type "tuple",data:=.seq its.toArray } }:=
   I1.laid (t':=s.toks) (λb o e=>G2 _ e) (He _) (show ObjOk X.prog X.w _ _ _ (.tup ys)from⟨hz,its,r',Nr _ _⟩)
  exact⟨.ref h'.objs.size,_,I2,rfl,q _ (I1.hok.fresh (He _))⟩
 ·obtain⟨its,r',pl,hz⟩:=I.tuple hq
  exact call_tuple_same pl ⟨.ref p,H,I,rfl,q⟩
def tyV (K:GW)(T:String)(x:V)(H:Hp):Prop:=match x with
 | .str _=>T= "str"
 | .int _=>T= "int"
 | .ref p=>(T= "list"/\∃xs,SqL K H p xs)\/(T= "tuple"/\∃o,K.lookup p=some o/\o.cls= .type "tuple"/\o.dict=none) ∨
   (T= "dict"/\((∃kvs,H p=some (.dK kvs))\/∃kvs,H p=some (.dT kvs)))\/(T= "set"/\∃S n,H p=some (.set S n))
 | _=>False
theorem A6 {pins:List (Addr×Obj)}{σ:St}{H:Hp}{s:GX}{T:String}{x:V}{v:GZ}(I:Inv X pins σ H s)(r:RelV x v)(ty:tyV X.K T x H) :
  s.TypeIs v T/\∀a,v= .ref a->∃ob,s.heap.get? a=some ob/\ob.dict=none:=by
 cases x with
 | str z=>
  obtain⟨t,rfl⟩:=r;cases (show T= "str" from ty)
  exact⟨typeIs_str s z t,λ_ e=>nomatch e⟩
 | int i=>
  obtain⟨t,rfl⟩:=r;cases (show T= "int" from ty)
  exact⟨MW s i t,λ_ e=>nomatch e⟩
 | ref p=>
  cases r;rcases ty with⟨rfl,xs,hq⟩ | ⟨rfl,o,hk,hc,hd⟩ | ⟨rfl,hk⟩ | ⟨rfl,S,n,hk⟩
  ·obtain⟨its,_,pl,_⟩:=I.list hq
   refine⟨pl.isList.typeIs,λa e=> ?_⟩
   cases e;obtain⟨o,n,e,c,hd,_⟩:=pl;exact⟨o,e,hd⟩
  ·refine⟨⟨o,I.kIn p o hk,hc⟩,λa e=> ?_⟩
   cases e;exact⟨o,I.kIn _ o hk,hd⟩
  ·have z:∃o,s.heap.get? p=some o/\o.ExactDict:=by
    rcases hk with⟨kvs,hk⟩ | ⟨kvs,hk⟩
    ·obtain⟨_,_,_,_,o,_,_,e,ex,_⟩:=I.hok p _ hk
     exact⟨o,e,ex⟩
    ·obtain⟨_,_,_,_,o,_,_,e,ex,_⟩:=I.hok p _ hk
     exact⟨o,e,ex⟩
   obtain⟨o,e,ex⟩:=z;refine⟨⟨o,e,ex.1⟩,λa e2=> ?_⟩
   cases e2;exact⟨o,e,ex.2.1⟩
  ·obtain⟨o,_,_,_,e,ex,_⟩:=I.hok p _ hk
   refine⟨⟨o,e,ex.1⟩,λa e2=> ?_⟩
   cases e2
   exact⟨o,e,ex.2.1⟩
 | _=>exact Jb ty
def tBM (K:GW)(T:String)(r:V->List V->Hp->VK->Prop)(to:TE)(t:TA):TE:=λσ H Q=>to σ H λx H1=>tyV K T x H1/\t σ H1 λxs H2=>r x xs H2 Q
variable {o e:Expr}{es:List Expr}{to:TE}{t:TA}{name:Str}{apos cpos:Pos}{T id:String}{r:V->List V->Hp->VK->Prop}
theorem vY (pa:PlainAttrs T)(slot:Slot T name id)(hty:typeOf (.builtin id)=pure (.type "method_descriptor"))(hm:MtR X id r)(ho:PE X o to)(ha:PA X (e::es) t)
  (hbase:autoParam (Jg o name X.env (eval o X.env)=eval o X.env) u_)
  (hfew:((backTo cpos (Hj (e::es) X.env)).all (λx=> !x.1)&&(backToKw cpos (keywordEach [] X.env)).all (λx=>x.1.isSome)
   &&decide ((e::es).length+([]:List Keyword).length+(if ([]:List Keyword).isEmpty then 0 else 1)<30))=true:=by rfl)
  (hline:autoParam ((apos.endLine == cpos.line)=true) u_) (hs:autoParam (Hj (e::es) X.env=(false,eval e X.env)::Hj es X.env) u_) (hplain:autoParam ((backTo cpos (Hj es X.env)).any (·.1)=false) u_) :
  PE X (.Call (.Attribute o name apos) (e::es) [] cpos) (tBM X.K T r to t):=by
 intro pins s σ H Q I h;refine J4 hbase hfew hline rfl (bJ (ho pins s σ H _ I h) λv s1 hh_=> ?_)
 obtain⟨x,H1,I1,r1,ty,q1⟩:=hh_;obtain⟨h1,h2⟩:=A6 I1 r1 ty;refine⟨T,id,pa,slot,hty,h1,h2,?_⟩
 have hA:=ha cpos pins s1 σ H1 _ I1 q1;rw[hs]at hA ⊢;refine J2 (by show(false||(backTo cpos (Hj es X.env)).any (·.1))=false;rw[hplain] <;> rfl) (JJ ?_)
 exact bJ hA λus s2 ⟨vs,H2,I2,r2,q2⟩=>hm pins s2 σ H2 x vs v us Q I2 r1 r2 q2
end
def MtM (X:Cx)(id:String)(r:V->List V->Hp->VK->Prop):Prop:=
 ∀(pins:List (Addr×Obj)) (s:GX) (σ:St) (H:Hp) (x:V) (xs:List V) (v:GZ) (us:List GZ) (Q:VK),Inv X pins σ H s->RelV x v->Vals xs us->r x xs H Q →
  wpAny (model X.prog X.w) X.A (call (.builtin id) (v::us)) (EP X pins σ Q) X.xe s
theorem Vals.one:∀{x:V} {us:List GZ},Vals [x] us->∃u,us= [u]/\RelV x u
 | _,_,.cons r .nil=>⟨_,rfl,r⟩
theorem Vals.rep {xs:List V}{us:List GZ}(h:Vals xs us):∀k:Nat,Vals (Hy k xs).flatten (Hy k us).flatten
 | 0=> .nil
 | k+1=>by
  rw[Jd,Jd,Ip,Ip];exact Vals.append h (Vals.rep h k)
theorem foldl_rep (its:List GZ):∀(k:Nat) (acc:List GZ),
  LX (λx1 x2=>x1++x2) acc.toArray (Hy k its.toArray)=(acc++(Hy k its).flatten).toArray
 | 0,acc=>by simp
 | k+1,acc=>by
  have e:acc.toArray++its.toArray=(acc++its).toArray:=by simp
  have e2:(acc++its)++(Hy k its).flatten=acc++(Hy (k+1) its).flatten:=by
   rw[Jd,Ip,Hs]
  rw[<-e2,<-foldl_rep its k (acc++its),<-e,Jd,List.foldl_cons]
section
variable {X:Cx}{pins:List (Addr×Obj)}{σ:St}{H:Hp}{s:GX}{l b:Addr}{xs ys zs:List V}
theorem Inv.GD {its its':List GZ}{n:Nat}{f:Array GZ->Array GZ}{t':Nat}(I:Inv X pins σ H s)(hH:H l=some (.lst xs))
  (e:s.heap.get? l=some { cls:=.type "list",data:=.seq its.toArray n }) (hf:f its.toArray=its'.toArray) (hv:Vals ys its') (hz:ys.length<=sizeLine) :
  Inv X pins σ (cz H l (.lst ys)) { s with heap:=s.heap.update l (Obj.mapSeq f),toks:=t' }:=by
 have q:=PySem.IsL.update e f;rw[hf]at q;refine I.write (x:=l) (e:=l) (by rw[hH];exact trivial) (.inl rfl) (λb' u hb hu=>(KM s.heap (Obj.mapSeq f) (Ka hb)).trans hu) ⟨_,q⟩ ?_
 exact⟨hz,its',_,hv,q⟩
theorem Inv.Gd {its:List GZ}{t':Nat}(I:Inv X pins σ H s)(hv:Vals ys its)(hz:ys.length<=sizeLine) :
  Inv X pins σ (cz H s.heap.objs.size (.lst ys)) { s with heap:=s.heap.push { cls:=.type "list",data:=.seq its.toArray },toks:=t' }:=
 I.laid (λ_ _ q=>G2 _ q) (He _) ⟨hz,its,0,hv,Hk _ rfl⟩
theorem Inv.fresh (I:Inv X pins σ H s):H s.heap.objs.size=none:=I.hok.fresh (He _)
theorem Inv.FW (I:Inv X pins σ H s)(hH:H l=some (.lst xs)):xs.length<=sizeLine/\∃(its:List GZ) (n:Nat),Vals xs its/\xs.length=its.length/\s.heap.get? l=some { cls:=.type "list",data:=.seq its.toArray n }:=by
 obtain⟨z,its,n,r,e⟩:=I.hok l _ hH;exact⟨z,its,n,r,r.length,e⟩
theorem pE {n:Nat}(h:n<=sizeLine):JL n=false:=by
 unfold JL;exact decide_eq_false (by omega)
end
section
variable {X:Cx}
def yr:V->List V->Hp->VK->Prop:=λx vs H Q=> ∃l xs y,x= .ref l/\vs= [y]/\H l=some (.lst xs)/\xs.length<sizeLine/\Q .non (cz H l (.lst (xs++ [y])))
theorem mQ:MtM X "list.append" yr:=by
 intro pins s σ H x vs v us Q I rx rv h;obtain⟨l,xs,y,rfl,rfl,hH,hz,q⟩:=h;cases rx;obtain⟨u,rfl,ru⟩:=rv.one;obtain⟨z,its,n,r,hl,e⟩:=I.FW hH;refine JQ F.slot_list_append ⟨_,e,rfl⟩ F.entry_list_append (F.args_list_append_2 _ _) (PySem.list_append l its.toArray n u (by rw[Hn];omega)) ⟨e,?_⟩
 refine⟨.non,_,I.GD (its':=its++ [u]) hH e (by simp) (r.append (.cons ru .nil)) ?_,rfl,q⟩
 rw[GY,Ik];omega
def yp:V->List V->Hp->VK->Prop:=λx vs H Q=> ∃l b xs zs,x= .ref l/\vs= [.ref b]/\H l=some (.lst xs)/\H b=some (.lst zs)/\xs.length+zs.length<=sizeLine/\Q .non (cz H l (.lst (xs++zs)))
theorem tS:MtM X "list.extend" yp:=by
 intro pins s σ H x vs v us Q I rx rv h;obtain⟨l,b,xs,zs,rfl,rfl,hH,hB,hz,q⟩:=h;cases rx;obtain⟨u,rfl,ru⟩:=rv.one;cases ru;obtain⟨z,its,n,r,hl,e⟩:=I.FW hH;obtain⟨z2,its2,n2,r2,hl2,e2⟩:=I.FW hB
 have hsz:its.toArray.size+its2.toArray.size<=sizeLine:=by rw[Hn,Hn];omega
 have hlong:¬ (!its.toArray.isEmpty&&JL (its.toArray.size+its2.toArray.size))=true:=by
  rw[pE hsz,LK];exact Hq
 refine JQ F.slot_list_extend ⟨_,e,rfl⟩ F.entry_list_extend (F.args_list_extend_2 _ _)
  (AutoSeq1.list_extend_list_list_0 l its.toArray n b its2.toArray n2 hlong (by rw[Hn];omega) (by omega)) ⟨e,e2,?_⟩
 refine⟨.non,_,I.GD (its':=its++its2) hH e (by simp) (r.append r2) ?_,rfl,q⟩
 rw[GY];omega
def rCat:R2:=λx y H Q=> ∃l b xs zs,x= .ref l/\y= .ref b/\H l=some (.lst xs)/\H b=some (.lst zs)/\xs.length+zs.length<=sizeLine/\∀p,H p=none->Q (.ref p) (cz H p (.lst (xs++zs)))
theorem B1:mx X (Jo .Add) rCat:=by
 intro pins s σ H x y v u Q I rx ry h;obtain⟨l,b,xs,zs,rfl,rfl,hH,hB,hz,q⟩:=h;cases rx;cases ry;obtain⟨z,its,n,r,hl,e⟩:=I.FW hH;obtain⟨z2,its2,n2,r2,hl2,e2⟩:=I.FW hB;refine PySem.P.add_list e e2 ?_ (by rw[Hn,Hn];omega)
 have ea:its.toArray++its2.toArray=(its++its2).toArray:=by simp
 rw[ea];exact⟨.ref _,_,I.Gd (t':=s.toks) (r.append r2) (by rw[GY];omega),rfl,q _ I.fresh⟩
def rRep:R2:=λx y H Q=> ∃l k xs,x= .ref l/\y= .int k/\H l=some (.lst xs)/\-(2 ^ 63)<=k/\k<2 ^ 63/\xs.length*k.toNat<=sizeLine ∧
 ∀p,H p=none->Q (.ref p) (cz H p (.lst (Hy k.toNat xs).flatten))
theorem len_rep {α:Type}(xs:List α)(k:Nat):(Hy k xs).flatten.length=k*xs.length:=by
 induction k with
 | zero=>simp
 | succ k ih=>rw[Jd,Ip,GY,ih,MC,Nat.add_comm]
theorem BX:mx X (Jo .Mult) rRep:=by
 intro pins s σ H x y v u Q I rx ry h;obtain⟨l,k,xs,rfl,rfl,hH,h1,h2,hz,q⟩:=h;cases rx;obtain⟨t,rfl⟩:=ry;obtain⟨z,its,n,r,hl,e⟩:=I.FW hH
 have hlen:its.toArray.size*k.toNat<=sizeLine:=by rw[Hn,<-hl];exact hz
 have hcap:¬ its.toArray.size*k.toNat > (2 ^ 63 - 1) / 8:=by
  have:(sizeLine:Nat)<=(2 ^ 63 - 1) / 8:=by decide
  omega
 have hfit:¬ (!Builtin.List.listFitsIndex k)=true:=by
  rw[fitsIndex_both h1 h2];exact Hq
 have hlong:¬ JL (its.toArray.size*k.toNat)=true:=by
  rw[pE hlen];exact Hq
 have hnew:LX (λx1 x2=>x1++x2) #[] (Hy (if its.toArray.isEmpty=true then 0 else k.toNat) its.toArray)=(Hy k.toNat its).flatten.toArray:=by
  have f0:∀m:Nat,LX (λx1 x2=>x1++x2) #[] (Hy m its.toArray)=(Hy m its).flatten.toArray:=λm=>by
   have:=foldl_rep its m [];rw[Jy]at this;exact this
  rw[f0]
  cases its with
  | nil=>simp
  | cons a r'=>rw[if_neg (by simp)]
 refine LR (T:="list") (U:="int") (by decide) ⟨_,e,rfl⟩ (λs'=>MW s' k t) noFill_list_mul OQ Li repeat_list Ox.lookup
  (JQ Li (MW s k t) Oy (N3 _ _) (int___rmul___int_list k t l its.toArray n)
   ⟨e,rfl,⟨_,e,rfl⟩,JQ F.slot_list_mul ⟨_,e,rfl⟩ F.entry_list_mul (F.args_list_mul_2 _ _) (Nt l its.toArray n k t hfit hcap hlong) ⟨e,?_⟩⟩)
 rw[hnew];exact⟨.ref _,_,I.Gd (t':=s.toks) (r.rep k.toNat) (by rw[len_rep,Og];exact hz),rfl,q _ I.fresh⟩
end
end L2
namespace Att
open PySem PySem.W PySem.Calls PyProof.Rows
theorem ku {P:Params}{h:Heap}:∀(ns:List Int) (vs:List GZ),WellAll P h vs (ns.map WData.int)->LQ vs ns:=by
 intro ns
 induction ns with
 | nil=>
  intro vs w;rw[Lz]at w;cases w
  exact .nil
 | cons n ns ih=>
  intro vs w;rw[G9]at w
  cases w with
  | cons a b=>
   cases a;exact .cons _ _ (ih _ b)
theorem script_of {l:OpenLaw}{n:Nat}(hn:l.most=some n){P:Params}{h:Heap}{args:List WData}{vals:List GZ}
  (hpre:l.row.toRowW.claim.pre args=true) (hwl:WellAll P h vals args) :
  ∃a vs ns,vals= [HD a]/\args= [WData.list (ns.map WData.int)]/\h.get? a=some { cls:=.type "list",data:=.seq vs.toArray }/\LQ vs ns/\ns.length<=n:=by
 have hsh:WShape.hasAll [] args [.list .int] =true:=(pre_splitW hpre).1
 have hc:l.pre.holds [] { args:=args }=true:=(pre_splitW hpre).2;obtain⟨d,r,rfl,h1,h2⟩:=hasAllW_cons hsh;obtain rfl:=hasAllW_nil h2;obtain⟨xs,rfl,h3⟩:=hasW_list h1;obtain⟨ns,rfl⟩:=items_int h3
 have hlen:ns.length<=n:=by
  unfold OpenLaw.pre at hc
  have h4:(WTm.not (.lt (.lit (.int (n:Int))) (.len (.arg 0)))).holds [] { args:=[.list (ns.map .int)] }=true:=by
   have h4:=(holds_andW hc).1;rw[hn]at h4;exact h4
  have h5:=condW_of h4 (w_not (w_lt w_lit (w_len_list (w_arg rfl))));rw[G3]at h5;refine Nat.le_of_not_lt λq=> ?_
  have q':(n:Int)<((ns.length:Nat):Int):=by omega
  first
   | (rw[decide_eq_true q']at h5;exact absurd h5 (by decide))
   | (simp at h5;omega)
 cases hwl with
 | cons w1 w2=>
  cases w2
  cases w1 with
  | list ho hall=>exact⟨_,_,ns,rfl,rfl,ho,ku ns _ hall,hlen⟩
theorem post_true (l:OpenLaw)(args:List WData):l.row.toRowW.claim.post args (.bool true) args=true:=
 postW_of (r:=l.row.toRowW) (X:=(true == true))
  (show WShape.has [] (.bool true) .bool=true by first | rfl | decide | simp[WShape.has,WShape.arms,WShape.armsAll])
  (show(WTm.eq .res (.lit (.bool true))).value [] { args:=args,res:=some (.bool true),after:=args }=some (.bool (true == true))from w_eq_bool (w_res rfl) w_lit) rfl
end Att
namespace L2
open PySem PySem.Spec PyProof.Rows
theorem mC:∀{vs:List GZ} {ns:List Int},LQ vs ns->Vals (ns.map V.int) vs
 | _,_,.nil=> .nil
 | _,_,.cons n t h=> .cons ⟨t,rfl⟩ (mC h)
def CZ (H:Hp):Prop:=∀b,H b=none\/∃o xs,H b=some (.frz o (.lst xs))
abbrev CX0:uA:=λ_ _ _ _ _ _=>False
abbrev E0:XK:=λ_ _ _=>False
theorem v5 {X:Cx}:oG CX0 X E0:=λ_ _ _ _ _ _ _ h=>h.elim
structure Fun (K:GW)(x qual:Str)(st:Stmt)(f:Addr)(fd:Ib):Prop where
 ex:∃(oc:GZ) (od:Option Addr) (kV doc pm:GZ) (an:Option Addr) (cdv ct:GZ) (osl:Array (Option GZ)),
  fd=JS x qual (eQ st) (bq st) (ao st) .none kV doc pm an cdv ct/\K.lookup f=some ⟨oc,od,.func fd,osl⟩/\LH K cdv qual=true
 kp:JZ K (.ref f)=true
section
variable {P:Hr}{w:HS}{K:GW}{mg:Str->Option GZ}{base:Heap}
theorem Fun.ok {x qual:Str}{st:Stmt}{f:Addr}{fd:Ib}{N ps:List Str}{k:Nat}{sp:Sp}(F:Fun K x qual st f fd)(S:bM N ps (ao st))(len:∀vs H Q E,sp vs H Q E->vs.length=ps.length)
  (hbody:∀(cdv:GZ) (A:HF) (outer:List Env) (s:GX) (H:Hp) (vs:List V) (Q:VK) (E:XK),Room k (A.deeper (envOfC qual (ao st) s.heap.objs.size f cdv))->sp vs H Q E →
   ∃t,PSs (eR CX0 P w K mg base N qual (ao st) f cdv A outer s H E).nox (bq st) t/\t { nx:=λ_ H'=>Q .non H',rt:=Q } (start N vs) H):uz P w K mg base CX0 (k+1) f fd ps sp:=by
 obtain⟨oc,od,kV,doc,pm,an,cdv,ct,osl,rfl,lk,hcd⟩:=F.ex;refine pT lk hcd S len λA outer s H vs Q E hr hsp=> ?_
 obtain⟨t,h,q⟩:=hbody cdv A outer s H vs Q E hr hsp;exact⟨t,h.nox,q⟩
theorem Fun.binds {x qual:Str}{st:Stmt}{f:Addr}{fd:Ib}{ps:List Str}(F:Fun K x qual st f fd)
  (h:∀(kV doc pm:GZ) (an:Option Addr) (cdv ct:GZ) (us:List GZ),us.length=ps.length->NI (JS x qual (eQ st) (bq st) (ao st) .none kV doc pm an cdv ct) ⟨us,[]⟩=pure (ps.zip us)):Binds K fd ps []:=by
 obtain⟨oc,od,kV,doc,pm,an,cdv,ct,osl,rfl,lk,hcd⟩:=F.ex;exact .all (h kV doc pm an cdv ct)
theorem Cu {x qual:Str}{st:Stmt}{f:Addr}{oc:GZ}{od an:Option Addr}{osl:Array (Option GZ)}{kV doc pm cdv ct:GZ}(l:K.lookup f=some ⟨oc,od,.func (JS x qual (eQ st) (bq st) (ao st) .none kV doc pm an cdv ct),osl⟩)
  (c:LH K cdv qual=true) (k:JZ K (.ref f)=true):Fun K x qual st f (JS x qual (eQ st) (bq st) (ao st) .none kV doc pm an cdv ct):=⟨⟨oc,od,kV,doc,pm,an,cdv,ct,osl,rfl,l,c⟩,k⟩
end
section
variable {X:Cx}
theorem pv (i:Nat){x:Str}{pos:Pos}(hN:autoParam (X.N[i]? =some x) u_)(hv:autoParam (rz X.env.scope x) v_)(hd:autoParam ((x == ("__debug__" : Str))=false) s_)
  (hcd:autoParam ((x == ("__classdict__" : Str))=false) s_):PE X (.Name x pos) (vg i):=jN hN hv hd hcd
end
theorem iteF {A B:Prop}(h:B):if false=true then A else B:=by
 rw[if_neg Hq];exact h
theorem iteT {A B:Prop}(h:A):if true=true then A else B:=by
 rw[if_pos rfl];exact h
def Same (H H':Hp):Prop:=∀b o,H b=some o->H' b=some o
theorem Same.refl (H:Hp):Same H H:=λ_ _ h=>h
theorem Same.trans {H H1 H2:Hp}(a:Same H H1)(b:Same H1 H2):Same H H2:=λc o h=>b c o (a c o h)
theorem iW {env:Env}:∀(names:List (Str×J6)) (acc:List (Str×Addr)),
  (∀x,(x,HR)∈names->∃c,env.cells.lookup x=some c) →
  (∀x c,acc.lookup x=some c->env.cells.lookup x=some c) →
  ∃cl,(forIn (m:=Sem) names acc (λx cs=>(if (x.2 == HR)=true then do let a <-cellOf env x.1;pure (Jz ((x.1,a)::cs))else pure (Jz cs))))=pure cl ∧
   (∀x c,cl.lookup x=some c->env.cells.lookup x=some c) ∧
   (∀x,(x,HR)∈names->∃c,cl.lookup x=some c)/\(∀x c,acc.lookup x=some c->∃c',cl.lookup x=some c')
 | [],acc,_,h=>⟨acc,rfl,h,λx hx=>by simp at hx,λx c e=>⟨c,e⟩⟩
 | (n,k)::r,acc,hf,h=>by
  by_cases hk:k=HR
  ·subst hk
   obtain⟨c,hc⟩:=hf n (by simp)
   have h':∀x c',((n,c)::acc).lookup x=some c'->env.cells.lookup x=some c':=λx c' e=>by
    rw[IA]at e
    cases q:x == n with
    | true=>
     rw[q]at e
     have e2:c=c':=HW e
     have e3:x=n:=by simpa using q
     rw[<-e2,e3];exact hc
    | false=>rw[q]at e;exact h x c' e
   obtain⟨cl,e1,e2,e3,e4⟩:=iW r ((n,c)::acc) (λx hx=>hf x (G5 _ hx)) h'
   refine⟨cl,?_,e2,λx hx=> ?_,λx c' e=> ?_⟩
   ·rw[Kz]
    simp only[beq_self_eq_true,if_true,cellOf,hc,pure_bind];exact e1
   ·rcases Hd.mp hx with z | z
    ·have z1:x=n:=by injection z
     subst z1;exact e4 x c (by simp[IA])
    ·exact e3 x z
   ·cases q:x == n with
    | true=>exact e4 x c (by simp[IA,q])
    | false=>exact e4 x c' (by simp[IA,q,e])
  ·have hb:(k == HR)=false:=by simpa using hk
   obtain⟨cl,e1,e2,e3,e4⟩:=iW r acc (λx hx=>hf x (G5 _ hx)) h
   refine⟨cl,?_,e2,λx hx=> ?_,e4⟩
   ·rw[Kz]
    simp only[hb,Iv,if_false,pure_bind];exact e1
   ·rcases Hd.mp hx with z | z
    ·have z1:HR=k:=by injection z
     exact absurd z1.symm hk
    ·exact e3 x z
theorem lL {env:Env}{scope:J8}(hf:∀x,(x,HR)∈scope.names->∃c,env.cells.lookup x=some c) :
  ∃cl,closureFor scope env=pure cl/\(∀x c,cl.lookup x=some c->env.cells.lookup x=some c)/\(∀x,(x,HR)∈scope.names->∃c,cl.lookup x=some c):=by
 obtain⟨cl,e1,e2,e3,_⟩:=iW scope.names [] hf (λx c e=>by simp at e)
 refine⟨cl,?_,e2,e3⟩
 unfold closureFor;refine Md ?_ (congrArg (λz=>z >>= pure) e1|>.trans (by simp))
 rfl
theorem ou {pr:Hr}{wd:HS}{Ar:HF}{Rz:KN->GX->Prop}{s0:GX}{el tg it0:Expr}{cs:List Expr}{sc:J8}{ps:Pos}{itv av:GZ}{ev:Env}(W:Nat->GX->Prop)
  (go:∀k st,W k st->wpAny (model pr wd) Ar (pyNext itv) (λr s1=>match r with
   | none=>Rz (.ok .next) s1
   | some v=>wpAny (model pr wd) Ar (JP tg itv v) (λ_ s2=>wpAny (model pr wd) Ar (assign tg ev v) (λ_ s3=>
     wpAny (model pr wd) Ar (forIn cs true λc b=>if b=true then do let z <-isTrue c ev (eval c ev);pure (Jz z)else pure (Jz b)) (λz s4=>
      if z=true then wpAny (model pr wd) Ar (eval el ev) (λy s5=>
       wpAny (model pr wd) Ar (call (.builtin "list.append") [av,y]) (λ_ s6=> ∃m,m<k/\W m s6) (λ_ _=>False) s5) (λ_ _=>False) s4
      else ∃m,m<k/\W m s4) (λ_ _=>False) s3) (λ_ _=>False) s2) (λ_ _=>False) s1) (λ_ _=>False) st)
  (k:Nat) (hk:W k s0):codeAny (model pr wd) Ar (.compLoop (.ListComp el [⟨tg,it0,cs,0⟩] sc ps) 0 itv av ev) Rz s0:=by
 refine codeAny_loop rfl W (λk st hw=> ?_) k hk
 show wpAny (model pr wd) Ar ((compTurn (.ListComp el [⟨tg,it0,cs,0⟩] sc ps) 0 itv av ev).onRaise (λz=>do K3 z ev;Lo z)) _ _ st
 refine wpAny_noted ?_
 rw[compTurn_list]
 have no:∀{α:Type} {t:Sem α} {Q Q':α->GX->Prop} {E':GZ->GX->Prop} {x:GX},wpAny (model pr wd) Ar t Q (λ_ _=>False) x->(∀y z,Q y z->Q' y z)->wpAny (model pr wd) Ar t Q' E' x:=λh f=>HX h f λ_ _ z=>z.elim
 refine G1 (Ld (G1 (no (go k st hw) λr s1 g1=> ?_)))
 cases r with
 | none=>exact Ha g1
 | some v=>
  refine G1 (no g1 λ_ s2 g2=>G1 (no g2 λ_ s3 g3=>G1 (no g3 λz s4 g4=> ?_)))
  cases z with
  | false=>exact Ha (KA rfl g4)
  | true=>exact G1 (G1 (no g4 λy s5 g5=>G1 (no g5 λ_ s6 g6=>Ha (Ha (KA rfl g6)))))
def aY (X:Cx)(scope:J8)(cl:List (Str×Addr))(N':List Str)(C:Addr)(s₀:GX)(H₀:Hp)(fp:List Addr):Cx:=
 { X with N:=N',s₀:=s₀,H₀:=H₀,env:=compEnvC scope cl C X.env,outer:=X.stack,stack:=X.stack,ex:=fp,fn:=λx=>scope.names.lookup x == some .cell,xe:=λ_ _=>False }
def c9 (src:List (Option Nat))(σ:St):St:=src.map λo=>match o with
 | some i=>(σ[i]?).join
 | none=>none
theorem ff {env:Env}:∀{names:List (Str×J6)} {x:Str} {k:J6},
  (names.map λ(n,k)=>if (k == HR&&env.scope.kind == .function&&env.kindOf n == some .cell)then(n,IR)else(n,k)).lookup x=some k →
  ∃k',names.lookup x=some k'/\(k=k'\/k'= .free)
 | [],_,_,h=>by simp at h
 | (n,k0)::r,x,k,h=>by
  have ih:=@ff env r x k
  have h':Lj x ((if (k0 == HR&&env.scope.kind == .function&&env.kindOf n == some .cell)=true then(n,IR)else(n,k0))::(r.map λ(n,k)=>if (k == HR&&env.scope.kind == .function&&env.kindOf n == some .cell)then(n,IR)else(n,k)))=some k:=h
  by_cases hc:(k0 == HR&&env.scope.kind == .function&&env.kindOf n == some .cell)=true
  ·rw[if_pos hc]at h'
   rw[IA]at h' ⊢
   cases hx:x == n with
   | true=>
    refine⟨k0,rfl,.inr ?_⟩
    have:=HY.mp hc|>.1
    have:=HY.mp this|>.1
    simpa using this
   | false=>rw[hx]at h';exact ih h'
  ·rw[if_neg hc]at h'
   rw[IA]at h' ⊢
   cases hx:x == n with
   | true=>rw[hx]at h';exact⟨k0,rfl,.inl (HW h').symm⟩
   | false=>rw[hx]at h';exact ih h'
theorem dw {names:List (Str×J6)}{x:Str}{k:J6}(h:names.lookup x=some k):(x,k)∈names:=Jx h
theorem eG {env:Env}:∀{names:List (Str×J6)} {x:Str},names.lookup x=some .free →
  (names.map λ(n,k)=>if (k == HR&&env.scope.kind == .function&&env.kindOf n == some .cell)then(n,IR)else(n,k)).lookup x=some .cell ∨
  (names.map λ(n,k)=>if (k == HR&&env.scope.kind == .function&&env.kindOf n == some .cell)then(n,IR)else(n,k)).lookup x=some .free
 | [],_,h=>by simp at h
 | (n,k0)::r,x,h=>by
  have ih:=@eG env r x
  show Lj x ((if (k0 == HR&&env.scope.kind == .function&&env.kindOf n == some .cell)=true then(n,IR)else(n,k0))::_)=_\/Lj x ((if (k0 == HR&&env.scope.kind == .function&&env.kindOf n == some .cell)=true then(n,IR)else(n,k0))::_)=_
  rw[IA]at h
  by_cases hc:(k0 == HR&&env.scope.kind == .function&&env.kindOf n == some .cell)=true
  ·rw[if_pos hc]
   rw[IA]
   cases hx:x == n with
   | true=>exact .inl rfl
   | false=>rw[hx]at h;exact ih h
  ·rw[if_neg hc]
   rw[IA]
   cases hx:x == n with
   | true=>rw[hx]at h;exact .inr h
   | false=>rw[hx]at h;exact ih h
section
variable {X:Cx}
structure LcScope (X:Cx)(scope:J8)(N':List Str)(src:List (Option Nat)):Prop where
 kind:scope.kind= .function
 cel:∀y∈scope.names,y.2= .cell->scope.names.lookup y.1=some .cell
 loc:∀y∈scope.names,y.2= .local->scope.names.lookup y.1=some .local
 len:src.length=N'.length
 from_:∀(j i:Nat) (x:Str),src[j]? =some (some i)->N'[j]? =some x->X.N[i]? =some x/\scope.names.lookup x=some .free
 free:∀x,(x,HR)∈scope.names->X.env.kindOf x=some .cell\/X.env.kindOf x=some .free
def A9 (K:GW)(wi:TI)(src:List (Option Nat))(g:TG)(tc:TT)(te:TE):TE:=λσ H Q=>wi σ H λJ H1=> ∀D,H1 D=none->K.lookup D=none →
 ∃W:Nat->Nat->St->List V->Hp->Prop,(∃m,W 0 m (c9 src σ) [] (cz H1 D (.lst [])))/\∀i m σ ys H,W i m σ ys H->H D=some (.lst ys) ∧
  ((J.stop i H/\Q (.ref D) H)\/(J.go i H/\ys.length<sizeLine/\∀x H',J.yld i H x H'->g x σ H' λσ2 H2=>tc σ2 H2 λb H3=>
   if b=true then te σ2 H3 λv H4=>H4 D=some (.lst ys)/\∃m',m'<m/\W (i+1) m' σ2 (ys++ [v]) (cz H4 D (.lst (ys++ [v])))else ∃m',m'<m/\W (i+1) m' σ2 ys H3))
def ql (X:Cx)(ifs:List Expr)(t:TT):Prop:=
 ∀(pins:List (Addr×Obj)) (s:GX) (σ:St) (H:Hp) (Q:Bool->Hp->Prop),Inv X pins σ H s->t σ H Q →
  wpAny (model X.prog X.w) X.A (forIn ifs true λc r=>if r=true then do let ok <-isTrue c X.env (eval c X.env);pure (Jz ok)else pure (Jz r)) (TP X pins σ Q) X.xe s
def Dk:TT:=λ_ H Q=>Q true H
theorem yP:ql X [] Dk:=λ_ _ _ H _ I h=>wpAny_tests_nil ⟨H,I,h⟩
theorem yO {c:Expr}{t:TT}(h:PT X c t):ql X [c] t:=λpins s σ H Q I q=>wpAny_tests_one (h pins s σ H Q I q)
theorem il:∀(names:List (Str×J6)) (h:Heap) (acc:List (Str×Addr)),(∀x y c,acc.lookup x=some c->acc.lookup y=some c->x=y)->(∀x c,acc.lookup x=some c->c<h.objs.size) →
  (∀x c,(Jj h.objs.size names acc).lookup x=some c->acc.lookup x=some c\/(h.objs.size<=c/\(K4 h names).IsCell c none)) ∧
  (∀x y c,(Jj h.objs.size names acc).lookup x=some c->(Jj h.objs.size names acc).lookup y=some c->x=y) ∧
  (∀x,(x,IR)∉names->(Jj h.objs.size names acc).lookup x=acc.lookup x) ∧
  (∀x,((x,IR)∈names\/∃c,acc.lookup x=some c)->∃c,(Jj h.objs.size names acc).lookup x=some c) ∧
  (∀x c,(x,IR)∈names->(Jj h.objs.size names acc).lookup x=some c->h.objs.size<=c)
 | [],h,acc,hi,_=>⟨λ_ _ e=> .inl e,hi,λ_ _=>rfl,λx e=>e.elim (λz=>absurd z Im) id,λ_ _ z=>absurd z Im⟩
 | (n,k)::r,h,acc,hi,hl=>by
  unfold Jj K4
  by_cases hk:k= .cell
  ·subst hk
   rw[if_pos (by rfl),if_pos (by rfl)]
   have hz:(h.push { cls:=.type "cell",data:=.cell none }).objs.size=h.objs.size+1:=IB ..
   have lk:∀x,((n,h.objs.size)::acc).lookup x=if x=n then some h.objs.size else acc.lookup x:=λx=>by
    rw[IA]
    by_cases e:x=n
    ·rw[if_pos e,beq_iff_eq.mpr e]
    ·rw[if_neg e,beq_eq_false_iff_ne.mpr e]
   obtain⟨c1,c2,c3,c4,c5⟩:=il r (h.push { cls:=.type "cell",data:=.cell none }) ((n,h.objs.size)::acc) (λx y c e1 e2=>by
     rw[lk]at e1 e2
     by_cases q1:x=n
     ·by_cases q2:y=n
      ·rw[q1,q2]
      ·rw[if_pos q1]at e1;rw[if_neg q2]at e2
       cases e1;exact absurd (hl _ _ e2) (HB _)
     ·rw[if_neg q1]at e1
      by_cases q2:y=n
      ·rw[if_pos q2]at e2
       cases e2;exact absurd (hl _ _ e1) (HB _)
      ·rw[if_neg q2]at e2;exact hi x y c e1 e2) (λx c e=>by
     rw[lk]at e;rw[hz]
     by_cases q:x=n
     ·rw[if_pos q]at e;cases e;exact Nat.lt_succ_self _
     ·rw[if_neg q]at e;exact LY (hl x c e))
   rw[hz]at c1 c2 c3 c4 c5;refine⟨λx c e=> ?_,c2,λx hx=> ?_,λx hx=> ?_,λx c hx e=> ?_⟩
   ·rcases c1 x c e with z | z
    ·rw[lk]at z
     by_cases q:x=n
     ·rw[if_pos q]at z;cases z
      exact .inr ⟨He _,_,KG r _ _ _ (Hk _ rfl),rfl⟩
     ·rw[if_neg q]at z;exact .inl z
    ·exact .inr ⟨LZ z.1,z.2⟩
   ·rw[c3 x λz=>hx (G5 _ z),lk,if_neg λz=>hx (by rw[z];exact G7)]
   ·refine c4 x ?_
    rcases hx with hx | hx
    ·rcases Hd.mp hx with z | z
     ·cases z
      exact .inr ⟨_,by rw[lk,if_pos rfl]⟩
     ·exact .inl z
    ·by_cases q:x=n
     ·exact .inr ⟨_,by rw[lk,if_pos q]⟩
     ·exact .inr (by rw[lk,if_neg q];exact hx)
   ·rcases Hd.mp hx with z | z
    ·have q:x=n:=(Ma z).1
     rcases c1 x c e with y | y
     ·rw[lk,if_pos q]at y;cases y;exact He _
     ·exact LZ y.1
    ·exact LZ (c5 x c z e)
  ·have hb:¬ (k == IR)=true:=λz=>hk (by simpa using z)
   rw[if_neg hb,if_neg hb];obtain⟨c1,c2,c3,c4,c5⟩:=il r h acc hi hl;exact⟨c1,c2,λx hx=>c3 x λz=>hx (G5 _ z),λx hx=>c4 x (hx.imp (λz=>(Hd.mp z).resolve_left λz=>hk (Ma z).2.symm) id),λx c hx=>c5 x c ((Hd.mp hx).resolve_left λz=>hk (Ma z).2.symm)⟩
theorem mM {M:L7}{A:HF}{E:GZ->GX->Prop}{s:GX}{scope:J8}{globals:Addr}{cl:List (Str×Addr)}{qual:Str}{env:Env}{Q:Env->GX->Prop}
  (q:Q (newEnv scope s.heap.objs.size globals (Jj (s.heap.objs.size+1) scope.names cl) qual none .none (some env) Lh) { s with heap:=K4 (s.heap.push { cls:=.type "dict",data:=.dict #[] }) scope.names }) :
  wpAny M A (LS scope globals cl [] qual none .none (some env)) Q E s:=by
 simp only[LS,Nu,if_true];refine G1 (wpAny_alloc (G1 (wpAny_layCells _ (λname kind cells=>by cases hkc:kind == IR <;> simp[hkc]) _ _ _ _ ?_)))
 rw[show({ s with heap:=s.heap.push { cls:=.type "dict",data:=.dict #[] } }:GX).heap.objs.size=s.heap.objs.size+1 from IB ..]
 rw[LL];exact G1 (Ha (Ha q))
theorem sh {elt tg iter:Expr}{ifs:List Expr}{scope:J8}{pos fpos:Pos}{N':List Str}{src:List (Option Nat)}{wi:TI}{g:TG}{tc:TT}{te:TE}{use:Option (GZ->Sem Unit)}{Qf:GZ->GX->Prop}
  {pins:List (Addr×Obj)} {s:GX} {σ:St} {H:Hp} {Q:VK}
  (hc:X.calm=true) (S:LcScope X scope N' src) (hi:PI X tg iter wi)
  (block:∀cl C s₀ H₀ fp,PG (aY X scope cl N' C s₀ H₀ fp) tg g/\ql (aY X scope cl N' C s₀ H₀ fp) ifs tc/\PE (aY X scope cl N' C s₀ H₀ fp) elt te)
  (hs:∀x,Hw iter X.env x=pure x) (I:Inv X pins σ H s) (h:A9 X.K wi src g tc te σ H Q)
  (hend:∀(D C:Addr) (H':Hp) (s':GX),(∃m,s'.heap.Ns C m)->(∀h',J9 C s'.heap h'->Inv X pins σ H' { s' with heap:=h' })->(H' C=none/\C≠X.env.locals/\X.s₀.heap.objs.size<=C/\(∀x c,X.env.cells.lookup x=some c->c≠C)/\∀p∈X.pn++pins,p.1≠C)->Q (.ref D) H' →
   MX (model X.prog X.w) X.A X.xe use Qf (.ref D) C (.ok .next) s') :
  wpAny (model X.prog X.w) X.A (Le (.ListComp elt [⟨tg,iter,ifs,0⟩] scope pos) scope X.env fpos (newList []) false (eval iter X.env) use) Qf X.xe s:=by
 have hcell:∀x,(x,HR)∈scope.names->∃c,X.env.cells.lookup x=some c:=λx hx=>I.ok.has x (S.free x hx)
 obtain⟨cl0,hcl,cl01,cl02⟩:=lL (env:=X.env) (scope:=scope) hcell;refine wpAny_comprehension_free (use:=use) rfl hs hcl S.kind S.loc (bJ (hi pins s σ H _ I h) λv s1 h1=>bJ h1 λitv s2 h2=> ?_)
 obtain⟨it,fp,tn,J,H2,e,I2,T,st2,f2,hq⟩:=h2;subst e
 -- the new list
 refine IM ?_
 have hD:H2 s2.heap.objs.size=none:=I2.hok.fresh (He _)
 have hDK:X.K.lookup s2.heap.objs.size=none:=by
  cases q:X.K.lookup s2.heap.objs.size with
  | none=>rfl
  | some o=>exact absurd (Hf (I2.kIn _ o q)) (HB _)
 obtain⟨W,⟨m0,w0⟩,turn⟩:=hq s2.heap.objs.size hD hDK
 have I3:=I2.Gd (its:=[]) (ys:=[]) (t':=s2.toks) .nil (HZ _)
 generalize hs3:({ s2 with heap:=s2.heap.push { cls:=.type "list",data:=.seq ([]:List GZ).toArray },toks:=s2.toks }:GX)=s3 at I3
 generalize hH3:cz H2 s2.heap.objs.size (.lst [])=H3 at I3 w0
 have hDsz:s2.heap.objs.size<s3.heap.objs.size:=by rw[<-hs3];simp[IB]
 have fr3:∀b∈fp,H3 b=none:=λb hb=>by
  obtain⟨o,eo,_⟩:=T.obj _ _ st2 b hb;rw[<-hH3,aN (Iz (Hf eo))];exact(f2 b hb).1
 have st3:tn 0 s3.heap:=T.keep _ _ _ st2 λb hb o e=>by rw[<-hs3];exact G2 _ e
 have f3:∀b∈fp,ir X pins H3 b:=λb hb=>⟨fr3 b hb,(f2 b hb).2⟩
 have D3:H3 s2.heap.objs.size=some (.lst []):=by rw[<-hH3];exact aT
 generalize s2.heap.objs.size=D at*
 clear hs3 hH3 hD hDK
 -- the block's frame
 refine mM ?_
 have old:∀b o,s3.heap.get? b=some o->(K4 (s3.heap.push { cls:=.type "dict",data:=.dict #[] }) scope.names).get? b=some o:=λb o e=>KG _ _ b o (G2 _ e)
 have hns₁:(K4 (s3.heap.push { cls:=.type "dict",data:=.dict #[] }) scope.names).Ns s3.heap.objs.size (λ_=>none):=(Heap.Ns.new s3.heap (.type "dict")).keeps (KG _ _)
 have hz3:(s3.heap.push { cls:=.type "dict",data:=.dict #[] }).objs.size=s3.heap.objs.size+1:=IB ..
 have lt0:∀x c,cl0.lookup x=some c->c<s3.heap.objs.size:=λx c e=>let ⟨_,ic⟩:=I3.cell x c (cl01 x c e);ic.lt
 obtain⟨c1,c2,c3,c4,c5⟩:=il scope.names (s3.heap.push { cls:=.type "dict",data:=.dict #[] }) cl0 (λx y c e1 e2=>I3.ok.inj x y c (cl01 x c e1) (cl01 y c e2)) λx c e=>by rw[hz3];exact LY (lt0 x c e)
 rw[hz3]at c1 c2 c3 c4 c5
 generalize hcl':Jj (s3.heap.objs.size+1) scope.names cl0=cl at*
 generalize hh₁:K4 (s3.heap.push { cls:=.type "dict",data:=.dict #[] }) scope.names=h₁ at*
 have below:∀b o,s3.heap.get? b=some o->b≠s3.heap.objs.size:=λb o e=>Iz (Hf e)
 -- a cell of the block's: one from around,or a new one
 have cl1:∀x c,cl.lookup x=some c->X.env.cells.lookup x=some c\/(s3.heap.objs.size<c/\h₁.IsCell c none):=λx c e=>(c1 x c e).imp (cl01 x c) id
 generalize hC:s3.heap.objs.size=C at*
 have stk:∀b,b≠X.env.locals->b∉X.fs->b∉iU X.stack:=λb h1 h2 z=>(Hd.mp (I3.FZ b z)).elim h1 h2
 have apart:∀b∈fp,∀x c,cl.lookup x=some c->c≠b:=λb hb x c e=>by
  rcases cl1 x c e with z | z
  ·exact(f3 b hb).2.2.2.2.1 x c z
  ·obtain⟨o,eo,_⟩:=T.obj _ _ st3 b hb
   have h1:=Hf eo;rw[hC]at h1;exact KY (Oh h1 z.1)
 have I4:Inv (aY X scope cl N' C s3 H3 fp) pins (c9 src σ) H3 { s3 with heap:=h₁ }:=by
  refine⟨⟨I3.ok.mod,S.kind,I3.ok.glob,I3.ok.blt,JT hC,c2,λx hx=> ?_,λx c hx e=>Ko (hC▸c5 x c (dw (beq_iff_eq.mp hx)) e),I3.ok.hd,I3.ok.frames,.inl rfl,
    λb hb=>⟨?_,λx c e=>apart b hb x c e⟩,I3.bs,Hz I3.ok.bsz I3.sz,λb o e z=> ?_,λb hb=>stk b (f3 b hb).2.1 (f3 b hb).2.2.1,I3.stack,I3.FR⟩,
   rfl,I3.bare,Un.kept old,⟨_,hns₁,λj x v e1 e2 e3=> ?_⟩,λx c e=> ?_,I3.hok.fresh (JT hC),λx c e=>(cl1 x c e).elim (I3.freeC x c) λz=>I3.hok.fresh (by rw[hC];exact Ko z.1),λp hp=> ?_,I3.hok.kept old,?_⟩
  ·have key:∀k,(relabel scope X.env).names.lookup x=some k->(k= .cell\/k= .free)->∃c,cl.lookup x=some c:=λk e hk=>by
    obtain⟨k',e',z⟩:=ff e
    have hk':k'= .cell\/k'= .free:=z.elim (λz=>z▸hk) .inr
    rcases hk' with q | q
    ·exact c4 x (.inl (q▸dw e'))
    ·exact c4 x (.inr (cl02 x (q▸dw e')))
   rcases hx with hx | hx
   ·exact key _ hx (.inl rfl)
   ·exact key _ hx (.inr rfl)
  ·obtain⟨o,eo,_⟩:=T.obj _ _ st3 b hb
   show b≠C
   exact below b o eo
  ·have z':b∈fp:=z
   obtain⟨_,_,_,z1,_⟩:=f3 b z';rcases z1 with z1 | z1
   ·exact I3.ok.noex b o e z1
   ·exact absurd (Hl (Hf (I3.ok.bs b o e).1) z1) (HB _)
  ·unfold c9 at e2
   rw[HN]at e2
   cases q:src[j]? with
   | none=>rw[q]at e2;simp at e2
   | some o=>
    rw[q]at e2
    cases o with
    | none=>simp at e2
    | some i=>
     have e2':(σ[i]?).join=some v:=by simpa using e2
     have e2'':σ[i]? =some (some v):=by
      cases q2:σ[i]? with
      | none=>rw[q2]at e2';simp at e2'
      | some z=>rw[q2]at e2';simp at e2';rw[e2']
     obtain⟨hN,hfree⟩:=S.from_ j i x q e1
     have hm:=dw hfree
     have hk:=S.free x hm;obtain⟨m,hn,hl⟩:=I3.loc
     have hv:rz X.env.scope x:=by
      rcases hk with z | z
      ·exact .inr (.inl z)
      ·exact .inr (.inr z)
     obtain⟨u,r,l⟩:=hl i x v hN e2'' hv;refine⟨u,r,.inr ⟨?_,?_⟩⟩
     ·exact eG hfree
     ·rcases l with⟨z,_⟩ | ⟨_,c,ec,ic⟩
      ·rcases hk with z' | z' <;> rw[z']at z <;> cases z
      ·obtain⟨c',ec0⟩:=cl02 x hm
       have ec':cl.lookup x=some c':=(c3 x λz=>by have:=S.cel _ z rfl;rw[hfree]at this;cases this).trans ec0
       have:=cl01 x c' ec0;rw[ec]at this;cases this;obtain⟨o,ho,hd⟩:=ic;exact⟨c,ec',o,old _ _ ho,hd⟩
  ·rcases cl1 x c e with z | z
   ·obtain⟨v,o,ho,hd⟩:=I3.cell x c z
    exact⟨v,o,old _ _ ho,hd⟩
   ·exact⟨none,z.2⟩
  ·obtain⟨e,n,ne,nf,d⟩:=I3.pin p hp
   exact⟨old _ _ e,n,below _ _ e,stk _ ne nf,d⟩
  ·show(c9 src σ).length=N'.length
   unfold c9;rw[G3];exact S.len
 obtain⟨bG,bI,bE⟩:=block cl C s3 H3 fp
 have stat:∀{H':Hp},(∀b∈fp,H' b=none)->∀b∈fp,ir (aY X scope cl N' C s3 H3 fp) pins H' b:=λhn b hb=>by
  obtain⟨o,eo,_⟩:=T.obj _ _ st3 b hb;exact⟨hn b hb,below b o eo,stk b (f3 b hb).2.1 (f3 b hb).2.2.1,.inl hb,apart b hb,(f3 b hb).2.2.2.2.2⟩
 have st4:tn 0 h₁:=T.keep _ _ _ st3 λb hb o e=>old b o e
 -- behind the block
 have after:∀(H':Hp) (s':GX) (σ':St),Inv (aY X scope cl N' C s3 H3 fp) pins σ' H' s'->Q (.ref D) H' →
   MX (model X.prog X.w) X.A X.xe use Qf (.ref D) C (.ok .next) s':=λH' s' σ' I' q=>by
  obtain⟨m,hn,_⟩:=id I'.loc
  have fC:X.s₀.heap.objs.size<=C:=by rw[<-hC];exact I3.sz
  have ltC:∀b o,s3.heap.get? b=some o->b<C:=λb o e=>by rw[<-hC];exact Hf e
  refine hend D C H' s' ⟨m,hn⟩ (λh' hsb=> ?_) ⟨I'.free,?_,fC,λx c e z=> ?_,λp hp z=> ?_⟩ q
  rotate_left
  ·have:=I3.lt;rw[hC]at this;exact KY this
  ·obtain⟨v,ic⟩:=I3.cell x c e
   have:=ic.lt;rw[hC,z]at this;exact HB _ this
  ·have:=ltC _ _ (I3.pin p hp).1;rw[z]at this;exact HB _ this
  have u:Un (iU X.stack) fp H3 H' s3.heap s'.heap:=I'.base
  have lift:∀b o,s3.heap.get? b=some o->∀o',s'.heap.get? b=some o'->h'.get? b=some o':=λb o e o' e'=>hsb.extBut b o' (below b o e) e'
  have u':Un (iU X.stack) fp H3 H' s3.heap h':=
   ⟨λb o e n hb hx=>lift b o e o (u.keep b o e n hb hx),λb o e n hb hx=>by
     obtain⟨sl,z⟩:=u.slot b o e n hb hx;exact⟨sl,lift b o e _ z⟩,u.free,λb o e hx=>by
     obtain⟨o',z⟩:=u.there b o e hx;exact⟨o',lift b o e _ z⟩,u.tups,u.frzs,u.tbls⟩
  have hCn:H' C=none:=I'.free
  have hok':HOk X.prog X.w H' h':=λb ob e=>by
   refine(I'.hok b ob e).FT (λc w' hc' q'=>(hsb.2 c ?_).trans q') (λ_ q=>q) λ_ _ q=>q
   rintro rfl
   rcases hc' with rfl | hc'
   ·rw[hCn]at e;cases e
   ·rw[hCn]at hc';cases hc'
  have I5:Inv X pins σ H' { s' with heap:=h' }:=I3.F7 (s':={ s' with heap:=h' }) (ch:=fp) I'.os u' hok' I'.bare λb hb=>⟨(f3 b hb).2.2.2.1,(f3 b hb).2.1,(f3 b hb).2.2.2.2.1,(f3 b hb).2.2.2.2.2⟩
  exact I5
 have loop:codeAny (model X.prog X.w) X.A (.compLoop (.ListComp elt [⟨tg,iter,ifs,0⟩] scope pos) 0 (.ref it) (.ref D) (compEnvC scope cl C X.env))
   (MX (model X.prog X.w) X.A X.xe use Qf (.ref D) C) { s3 with heap:=h₁ }:=by
  refine ou (λn s'=> ∃i σ' ys H',Inv (aY X scope cl N' C s3 H3 fp) pins σ' H' s'/\tn i s'.heap/\(∀b∈fp,H' b=none)/\W i n σ' ys H') ?_ m0 ⟨0,_,[],H3,I4,st4,fr3,w0⟩
  rintro n s5 ⟨i,σ5,ys,H5,I5,st5,fr5,w5⟩
  obtain⟨hDl,alt⟩:=turn i n σ5 ys H5 w5;rcases alt with⟨stop,qn⟩ | ⟨go,hlen,step⟩
  ·refine bJ (T.done (aY X scope cl N' C s3 H3 fp) rfl rfl rfl hc i pins s5 σ5 H5 _ I5 (stat fr5) st5 stop) λr s6 ⟨hr,I6⟩=> ?_
   subst hr;exact after H5 s6 σ5 I6 qn
  ·refine bJ (T.item (aY X scope cl N' C s3 H3 fp) rfl rfl rfl hc i pins s5 σ5 H5 _ I5 (stat fr5) st5 go) λr s6 ⟨u,hr,h6⟩=> ?_
   subst hr;refine bJ h6 λ_ s7 hh_=> ?_
   obtain⟨x,H7,I7,r7,y7,st7,fr7⟩:=hh_
   have I7':=I7.pinned (stat fr7) (T.obj _ _ st7);refine bJ (bG _ s7 σ5 H7 x u _ I7' r7 (step x H7 y7)) λ_ s8 hh_=> ?_
   obtain⟨σ8,H8,I8,q8⟩:=hh_;refine bJ (bI _ s8 σ8 H8 _ I8 q8) λok s9 hh_=> ?_
   obtain⟨H9,I9,q9⟩:=hh_
   have again:∀{σx:St} {Hx:Hp} {sx:GX} {ys':List V},Inv (aY X scope cl N' C s3 H3 fp) (pins++iM fp s7.heap) σx Hx sx->(∃m',m'<n/\W (i+1) m' σx ys' Hx) →
     ∃m,m<n/\∃i σ' ys H',Inv (aY X scope cl N' C s3 H3 fp) pins σ' H' sx/\tn i sx.heap/\(∀b∈fp,H' b=none)/\W i m σ' ys H':=λ{σx Hx sx ys'} Ix nx=>by
    obtain⟨m',hm,wx⟩:=nx;refine⟨m',hm,i+1,σx,ys',Hx,Ix.FM,T.keep _ _ _ st7 λb hb o e=>(Ix.pin (b,o) (Hg _ (Hg _ (cT hb e)))).1,λb hb=> ?_,wx⟩
    obtain⟨o,e,d⟩:=T.obj _ _ st7 b hb;exact(Ix.pin (b,o) (Hg _ (Hg _ (cT hb e)))).2.1
   cases ok with
   | false=>
    rw[if_neg Hq]at q9 ⊢
    exact again I9 q9
   | true=>
    rw[if_pos rfl]at q9 ⊢;refine bJ (bE _ s9 σ8 H9 _ I9 q9) λv s10 hh_=> ?_
    obtain⟨y,H10,I10,r10,hD10,q10⟩:=hh_;refine bJ (mQ _ s10 σ8 H10 (.ref D) [y] (.ref D) [v] (λ_ H'=>H'=cz H10 D (.lst (ys++ [y]))) I10 rfl (.cons r10 .nil) ⟨D,ys,y,rfl,rfl,hD10,hlen,rfl⟩) λ_ s11 hh_=> ?_
    obtain⟨_,H11,I11,_,e11⟩:=hh_;subst e11;exact again I11 q10
 exact codeAny_compStart_list loop (T.self _ 0 _ _ _ st4 loop)
theorem vV {elt tg iter:Expr}{ifs:List Expr}{scope:J8}{pos:Pos}{N':List Str}{src:List (Option Nat)}{wi:TI}{g:TG}{tc:TT}{te:TE}
  (hc:X.calm=true) (S:LcScope X scope N' src) (hi:PI X tg iter wi)
  (block:∀cl C s₀ H₀ fp,PG (aY X scope cl N' C s₀ H₀ fp) tg g/\ql (aY X scope cl N' C s₀ H₀ fp) ifs tc/\PE (aY X scope cl N' C s₀ H₀ fp) elt te)
  (hs:autoParam (∀x,Hw iter X.env x=pure x) t_) :
  PE X (.ListComp elt [⟨tg,iter,ifs,0⟩] scope pos) (A9 X.K wi src g tc te):=by
 intro pins s σ H Q I h;rw[eval_ListComp];exact sh (use:=none) hc S hi block hs I h λD C H' s' ⟨m,hn⟩ inv _ q=>⟨m,hn,λh' hsb=>⟨.ref D,H',inv h' hsb,rfl,q⟩⟩
theorem Ea {elt tg iter:Expr}{ifs:List Expr}{scope:J8}{pos py spos:Pos}{N':List Str}{src:List (Option Nat)}{wi:TI}{g:TG}{tc:TT}{te:TE}{i:Nat}{y:Str}
  (hc:X.calm=true) (S:LcScope X scope N' src) (hi:PI X tg iter wi)
  (block:∀cl C s₀ H₀ fp,PG (aY X scope cl N' C s₀ H₀ fp) tg g/\ql (aY X scope cl N' C s₀ H₀ fp) ifs tc/\PE (aY X scope cl N' C s₀ H₀ fp) elt te)
  (hN:X.N.Nodup) (hiy:X.N[i]? =some y) (hy:Loc X.env.scope y) (hsw:Kj (.ListComp elt [⟨tg,iter,ifs,0⟩] scope pos) (some (.Name y py)) spos.line X.env=pure true)
  (hf:X.fn y=true\/X.env.scope.names.lookup y=some .local) (hs:autoParam (∀x,Hw iter X.env x=pure x) t_) :
  PS X (.Assign [.Name y py] (.ListComp elt [⟨tg,iter,ifs,0⟩] scope pos) spos) (vi (A9 X.K wi src g tc te) (xb i)):=by
 intro pins s σ H D I h;rw[exec_Assign_Name_used _ _ _ _ hsw];refine G1 (Ld (G1 ?_))
 show wpAny (model X.prog X.w) X.A (do let _ <-Le (.ListComp elt [⟨tg,iter,ifs,0⟩] scope pos) scope X.env _ (newList []) false (eval iter X.env) (some (assign (.Name y py) X.env))) _ _ s
 refine G1 (bJ (sh (use:=some (assign (.Name y py) X.env)) (Qf:=λ_ s'=>SP X pins D .next s') (Q:=λv H'=>D.nx (σ.set i (some v)) H') hc S hi block hs I h λL C H' s' ⟨m,hn⟩ inv ⟨c0,c1,c2,c3,c4⟩ q=> ?_) λ_ s' hq=>Ha (Ha hq))
 have I0:Inv X pins σ H' s':=inv s'.heap (Heap.SameBut.refl ..)
 show wpAny (model X.prog X.w) X.A (assign (.Name y py) X.env (.ref L)) _ _ s'
 refine Ob (mE I0 hN hiy hy (v:=.ref L) rfl (λs2 I2 ⟨b,sb,hb⟩=> ?_) hf)
 have hbC:C≠b:=by
  rcases hb with z | z
  ·rw[z];exact c1
  ·exact λw=>c3 y b z w.symm
 refine⟨m,hn.sameBut sb hbC,λh' hsb=> ?_⟩
 exact⟨_,H',I2.turned (t':=s2.toks) (λb' o hb' e=>(hsb.2 b' hb').trans e) c0 c1 (.inr c2) c3 c4,q⟩
end
end L2
namespace Tr
open PySem PySem.Spec PyProof.Rows L2
def CT (K:GW)(c:Str):Addr:=match Kn K HL c with
 | some (some (.ref C))=>C
 | _=>0
def AF:T->Option Key
 | .int i=>some (.inl i)
 | .str x=>some (.inr x)
 | _=>none
def lz:List T->Option (List Key)
 | [] =>some []
 | t::l=>match AF t,lz l with
  | some k,some r=>some (k::r)
  | _,_=>none
def keyOf:T->Option (List Key)
 | .tup l=>lz l
 | _=>none
inductive Rs (α:Type) where
 | ok (a:α) | err (c:Str) | bad
def Rs.bind {α β:Type}(x:Rs α)(f:α->Rs β):Rs β:=match x with
 | .ok a=>f a
 | .err c=> .err c
 | .bad=> .bad
instance:Monad Rs where
 pure:=Rs.ok
 bind:=Rs.bind
@[simp] theorem aF {α β:Type} (a:α) (f:α->Rs β):(Rs.ok a >>= f)=f a:=rfl
@[simp] theorem Fw {α:Type} (a:α):(pure a:Rs α)=Rs.ok a:=rfl
@[simp] theorem Fj {α β:Type} (f:α->Rs β):((Rs.bad:Rs α) >>= f)= .bad:=rfl
@[simp] theorem EX {α β:Type} (c:Str) (f:α->Rs β):((Rs.err c:Rs α) >>= f)= .err c:=rfl
abbrev Ow:=Addr->Prop
def ObN (O:Ow)(H:Hp)(a dx:Addr)(fs:List (Str×V)):Prop:=(¬O a/\¬ O dx/\H dx=some (.own a))/\∃as:List Addr,fs.map (·.2)=as.map V.ref/\a∉as/\dx∉as/\dx≠a/\as.Nodup/\(fs.map (·.1)).Nodup
mutual
def Rep (K:GW)(O:Ow)(H:Hp):T->V->Prop
 | .non,v=>v= .non
 | .bl b,v=>v= .bl b
 | .int i,v=>v= .int i
 | .str x,v=>v= .str x
 | .tup l,v=> ∃a vs,v= .ref a/\¬ O a/\H a=some (.tup vs)/\Reps K O H l vs
 | .lst l,v=> ∃a vs,v= .ref a/\¬ O a/\H a=some (.lst vs)/\Reps K O H l vs
 | .scr l,v=> ∃a,v= .ref a/\¬ O a/\SqL K H a (l.map V.int)
 | .dct ks ts,v=> ∃a kvs,v= .ref a/\¬ O a/\Rd H a (.dT kvs)/\ks.map keyOf=kvs.map (λp=>some p.1)/\Reps K O H ts (kvs.map (·.2))
 | .ob C ns ts,v=> ∃a dx fs,v= .ref a/\ObN O H a dx fs/\H a=some (.ins (CT K C) dx fs)/\fs.map (·.1)=ns/\Reps K O H ts (fs.map (·.2))
def Reps (K:GW)(O:Ow)(H:Hp):List T->List V->Prop
 | [],vs=>vs= []
 | t::r,vs=> ∃v ws,vs=v::ws/\Rep K O H t v/\Reps K O H r ws
end
def SameO (P:Ow)(H H':Hp):Prop:=∀b o,H b=some o->¬ P b->H' b=some o
theorem SameO.of {P:Ow}{H H':Hp}(h:Same H H'):SameO P H H':=λb o e _=>h b o e
theorem Rd.GJ {P:Ow}{H H':Hp}{a:Addr}{u:HO}(h:SameO P H H')(n:¬ P a)(q:Rd H a u):Rd H' a u:=q.elim (λe=> .inl (h _ _ e n)) λ⟨o,e⟩=> .inr ⟨o,h _ _ e n⟩
theorem SqL.keep {K:GW}{P:Ow}{H H':Hp}{a:Addr}{vs:List V}(h:SameO P H H')(n:¬ P a)(q:SqL K H a vs):SqL K H' a vs:=by
 rcases q with(q | ⟨o,q⟩) | q
 ·exact .inl (.inl (h _ _ q n))
 ·exact .inl (.inr ⟨o,h _ _ q n⟩)
 ·exact .inr q
mutual
theorem Rep.keep {K:GW}{O P:Ow}{H H':Hp}(h:SameO P H H')(sub:∀a,P a->O a):∀{t:T} {v:V},Rep K O H t v->Rep K O H' t v
 | .non,_,r=>by unfold Rep at r ⊢;exact r
 | .bl _,_,r=>by unfold Rep at r ⊢;exact r
 | .int _,_,r=>by unfold Rep at r ⊢;exact r
 | .str _,_,r=>by unfold Rep at r ⊢;exact r
 | .tup l,_,r=>by
  unfold Rep at r ⊢;obtain⟨a,vs,e,n,q,z⟩:=r
  exact⟨a,vs,e,n,h _ _ q (λp=>n (sub a p)),Reps.keep h sub z⟩
 | .lst l,_,r=>by
  unfold Rep at r ⊢;obtain⟨a,vs,e,n,q,z⟩:=r
  exact⟨a,vs,e,n,h _ _ q (λp=>n (sub a p)),Reps.keep h sub z⟩
 | .scr l,_,r=>by
  unfold Rep at r ⊢;obtain⟨a,e,n,q⟩:=r
  exact⟨a,e,n,SqL.keep h (λp=>n (sub a p)) q⟩
 | .dct ks ts,_,r=>by
  unfold Rep at r ⊢;obtain⟨a,kvs,e,n,q,k,z⟩:=r
  exact⟨a,kvs,e,n,Rd.GJ h (λp=>n (sub a p)) q,k,Reps.keep h sub z⟩
 | .ob C ns ts,_,r=>by
  unfold Rep at r ⊢;obtain⟨a,dx,fs,e,n,q,k,z⟩:=r;exact⟨a,dx,fs,e,⟨⟨n.1.1,n.1.2.1,h _ _ n.1.2.2 λp=>n.1.2.1 (sub dx p)⟩,n.2⟩,h _ _ q (λp=>n.1.1 (sub a p)),k,Reps.keep h sub z⟩
theorem Reps.keep {K:GW}{O P:Ow}{H H':Hp}(h:SameO P H H')(sub:∀a,P a->O a):∀{l:List T} {vs:List V},Reps K O H l vs->Reps K O H' l vs
 | [],_,r=>by unfold Reps at r ⊢;exact r
 | t::l,_,r=>by
  unfold Reps at r ⊢;obtain⟨v,ws,e,p,q⟩:=r;exact⟨v,ws,e,Rep.keep h sub p,Reps.keep h sub q⟩
end
mutual
theorem Rep.less {K:GW}{O O':Ow}{H:Hp}(sub:∀a,O' a->O a):∀{t:T} {v:V},Rep K O H t v->Rep K O' H t v
 | .non,_,r=>by unfold Rep at r ⊢;exact r
 | .bl _,_,r=>by unfold Rep at r ⊢;exact r
 | .int _,_,r=>by unfold Rep at r ⊢;exact r
 | .str _,_,r=>by unfold Rep at r ⊢;exact r
 | .tup l,_,r=>by
  unfold Rep at r ⊢;obtain⟨a,vs,e,n,q,z⟩:=r
  exact⟨a,vs,e,λp=>n (sub a p),q,Reps.less sub z⟩
 | .lst l,_,r=>by
  unfold Rep at r ⊢;obtain⟨a,vs,e,n,q,z⟩:=r
  exact⟨a,vs,e,λp=>n (sub a p),q,Reps.less sub z⟩
 | .scr l,_,r=>by
  unfold Rep at r ⊢;obtain⟨a,e,n,z⟩:=r
  exact⟨a,e,λp=>n (sub a p),z⟩
 | .dct ks ts,_,r=>by
  unfold Rep at r ⊢;obtain⟨a,kvs,e,n,q,k,z⟩:=r
  exact⟨a,kvs,e,λp=>n (sub a p),q,k,Reps.less sub z⟩
 | .ob C ns ts,_,r=>by
  unfold Rep at r ⊢;obtain⟨a,dx,fs,e,n,q,k,z⟩:=r;exact⟨a,dx,fs,e,⟨⟨λp=>n.1.1 (sub a p),λp=>n.1.2.1 (sub dx p),n.1.2.2⟩,n.2⟩,q,k,Reps.less sub z⟩
theorem Reps.less {K:GW}{O O':Ow}{H:Hp}(sub:∀a,O' a->O a):∀{l:List T} {vs:List V},Reps K O H l vs->Reps K O' H l vs
 | [],_,r=>by unfold Reps at r ⊢;exact r
 | t::l,_,r=>by
  unfold Reps at r ⊢;obtain⟨v,ws,e,p,q⟩:=r;exact⟨v,ws,e,Rep.less sub p,Reps.less sub q⟩
end
section
variable {K:GW}{O:Ow}{H H':Hp}{t:T}{v:V}{l:List T}{vs:List V}
theorem Rep.same (h:Same H H')(r:Rep K O H t v):Rep K O H' t v:=Rep.keep (P:=λ_=>False) (SameO.of h) (λ_ z=>z.elim) r
theorem Reps.same (h:Same H H')(r:Reps K O H l vs):Reps K O H' l vs:=Reps.keep (P:=λ_=>False) (SameO.of h) (λ_ z=>z.elim) r
theorem Rep.Gi:Rep K O H .non .non:=by unfold Rep;rfl
theorem Rep.bl_ (b:Bool):Rep K O H (.bl b) (.bl b):=by unfold Rep;rfl
theorem Rep.FP (i:Int):Rep K O H (.int i) (.int i):=by unfold Rep;rfl
theorem Rep.F1 (x:Str):Rep K O H (.str x) (.str x):=by unfold Rep;rfl
theorem Rep.Fk:Rep K O H (.tup l) v↔ ∃a vs,v= .ref a/\¬ O a/\H a=some (.tup vs)/\Reps K O H l vs:=by unfold Rep;exact LM
theorem Rep.FB:Rep K O H (.lst l) v↔ ∃a vs,v= .ref a/\¬ O a/\H a=some (.lst vs)/\Reps K O H l vs:=by unfold Rep;exact LM
theorem Rep.FQ {ks ts:List T}:Rep K O H (.dct ks ts) v↔ ∃a kvs,v= .ref a/\¬ O a/\Rd H a (.dT kvs)/\ks.map keyOf=kvs.map (λp=>some p.1)/\Reps K O H ts (kvs.map (·.2)):=by unfold Rep;exact LM
theorem Rep.Gg {C:Str}{ns:List Str}{ts:List T}:Rep K O H (.ob C ns ts) v↔ ∃a dx fs,v= .ref a/\ObN O H a dx fs/\H a=some (.ins (CT K C) dx fs)/\fs.map (·.1)=ns/\Reps K O H ts (fs.map (·.2)):=by unfold Rep;exact LM
theorem Rep.Do {i:Int}:Rep K O H (.int i) v↔v= .int i:=by unfold Rep;exact LM
theorem Rep.FK {b:Bool}:Rep K O H (.bl b) v↔v= .bl b:=by unfold Rep;exact LM
theorem Rep.FI {b:Str}:Rep K O H (.str b) v↔v= .str b:=by unfold Rep;exact LM
theorem Rep.FS:Rep K O H .non v↔v= .non:=by unfold Rep;exact LM
theorem Reps.FO:Reps K O H [] []:=by unfold Reps;rfl
theorem Reps.FL (r:Rep K O H t v)(q:Reps K O H l vs):Reps K O H (t::l) (v::vs):=by unfold Reps;exact⟨v,vs,rfl,r,q⟩
theorem Reps.Da:Reps K O H [] vs↔vs= []:=by unfold Reps;exact LM
theorem Reps.AC:Reps K O H (t::l) vs↔ ∃v ws,vs=v::ws/\Rep K O H t v/\Reps K O H l ws:=by
 constructor
 ·intro h;unfold Reps at h;exact h
 ·intro h;unfold Reps;exact h
end
section
variable {K:GW}{O:Ow}{H H':Hp}
theorem Reps.length:∀{l:List T} {vs:List V},Reps K O H l vs->l.length=vs.length
 | [],vs,r=>by rw[Reps.Da.mp r];rfl
 | t::l,vs,r=>by
  obtain⟨v,ws,rfl,_,q⟩:=Reps.AC.mp r;simp[q.length]
theorem Reps.get:∀{l:List T} {vs:List V} {i:Nat} {t:T},Reps K O H l vs->l[i]? =some t->∃v,vs[i]? =some v/\Rep K O H t v
 | [],_,_,_,_,e=>by simp at e
 | t::l,vs,i,u,r,e=>by
  obtain⟨v,ws,rfl,p,q⟩:=Reps.AC.mp r
  cases i with
  | zero=>simp at e;subst e;exact⟨v,rfl,p⟩
  | succ i=>
   obtain⟨z,e1,e2⟩:=q.get (i:=i) (t:=u) (by simpa using e)
   exact⟨z,by simpa using e1,e2⟩
theorem Reps.append:∀{l m:List T} {vs ws:List V},Reps K O H l vs->Reps K O H m ws->Reps K O H (l++m) (vs++ws)
 | [],_,vs,_,r,s=>by rw[Reps.Da.mp r];exact s
 | t::l,m,vs,ws,r,s=>by
  obtain⟨v,us,rfl,p,q⟩:=Reps.AC.mp r;exact Reps.FL p (q.append s)
theorem Reps.take:∀{l:List T} {vs:List V} (n:Nat),Reps K O H l vs->Reps K O H (l.take n) (vs.take n)
 | _,_,0,_=>Reps.FO
 | [],vs,n+1,r=>by rw[Reps.Da.mp r];exact Reps.FO
 | t::l,vs,n+1,r=>by
  obtain⟨v,us,rfl,p,q⟩:=Reps.AC.mp r;exact Reps.FL p (q.take n)
theorem Reps.drop:∀{l:List T} {vs:List V} (n:Nat),Reps K O H l vs->Reps K O H (l.drop n) (vs.drop n)
 | _,_,0,r=>r
 | [],vs,n+1,r=>by rw[Reps.Da.mp r];exact Reps.FO
 | t::l,vs,n+1,r=>by
  obtain⟨v,us,rfl,p,q⟩:=Reps.AC.mp r;exact q.drop n
theorem Reps.ints:∀{ns:List Int},Reps K O H (ns.map T.int) (ns.map V.int)
 | [] =>Reps.FO
 | n::r=>Reps.FL (Rep.FP n) Reps.ints
end
def RowsR (K:GW)(O:Ow)(H:Hp):List (List T×List T)->List Addr->Prop
 | [],as=>as= []
 | r::rs,as=> ∃b bs kvs,as=b::bs/\H b=some (.dT kvs)/\r.1.map keyOf=kvs.map (λp=>some p.1)/\Reps K O H r.2 (kvs.map (·.2))/\RowsR K O H rs bs
def LsR (K:GW)(O:Ow)(H:Hp):List (List T)->List Addr->Prop
 | [],as=>as= []
 | l::ls,as=> ∃b bs vs,as=b::bs/\H b=some (.lst vs)/\Reps K O H l vs/\LsR K O H ls bs
def ORep (K:GW)(O M:Ow)(H:Hp):OT->V->Prop
 | .lst l,v=> ∃a vs,v= .ref a/\(∀b,M b↔b=a)/\H a=some (.lst vs)/\Reps K O H l vs
 | .dct ks ts,v=> ∃a kvs,v= .ref a/\(∀b,M b↔b=a)/\H a=some (.dT kvs)/\ks.map keyOf=kvs.map (λp=>some p.1)/\Reps K O H ts (kvs.map (·.2))
 | .dd ks rows,v=> ∃a kvs as,v= .ref a/\(∀b,M b↔b=a\/b∈as)/\a∉as/\as.Nodup/\H a=some (.dT kvs)/\ks.map keyOf=kvs.map (λp=>some p.1)/\kvs.map (·.2)=as.map V.ref/\RowsR K O H rows as
 | .ob C ns ls,v=> ∃a dx as,v= .ref a/\(∀b,M b↔b=a\/b=dx\/b∈as)/\(a∉as/\dx∉as/\dx≠a/\as.Nodup)/\H a=some (.ins (CT K C) dx (ns.zip (as.map V.ref)))/\H dx=some (.own a)/\ns.length=as.length/\ns.Nodup/\LsR K O H ls as
 | .ll ls,v=> ∃a as,v= .ref a/\(∀b,M b↔b=a\/b∈as)/\a∉as/\as.Nodup/\H a=some (.lst (as.map V.ref))/\LsR K O H ls as
inductive Sl where
 | em | va (t:T) | ow (o:OT)
abbrev En:=List Sl
abbrev Mn:=Nat->Ow
def Mn.u (M:Mn):Ow:=λa=> ∃i,M i a
def isO:HO->Bool
 | .ins _ _ _=>true
 | .own _=>true
 | _=>false
def Mtb (H:Hp)(a:Addr):Prop:=(∃vs,H a=some (.lst vs))\/(∃kvs,H a=some (.dT kvs))\/∃o,H a=some o/\isO o=true
theorem Mtb.some {H:Hp}{a:Addr}(h:Mtb H a):∃o,H a=some o:=by
 rcases h with⟨_,e⟩ | ⟨_,e⟩ | ⟨_,e,_⟩ <;> exact⟨_,e⟩
theorem Mtb.at {H H':Hp}{a:Addr}(s:∀o,H a=Ir o->H' a=Ir o)(h:Mtb H a):Mtb H' a:=by
 rcases h with⟨vs,e⟩ | ⟨k,e⟩ | ⟨o,e,q⟩
 ·exact .inl ⟨vs,s _ e⟩
 ·exact .inr (.inl ⟨k,s _ e⟩)
 ·exact .inr (.inr ⟨o,s _ e,q⟩)
theorem Mtb.same {H H':Hp}(s:Same H H'){a:Addr}(h:Mtb H a):Mtb H' a:=h.at λo e=>s a o e
structure EnvM (K:GW)(O:Ow)(M:Mn)(H:Hp)(ρ:En)(σ:L2.St):Prop where
 len:ρ.length=σ.length
 val:∀(i:Nat) (t:T),ρ[i]? =some (.va t)->∃v,σ[i]? =some (some v)/\Rep K O H t v
 own:∀(i:Nat) (o:OT),ρ[i]? =some (.ow o)->∃v,σ[i]? =some (some v)/\ORep K O (M i) H o v
 sub:∀(i:Nat) (a:Addr),M i a->O a
 dis:∀(i j:Nat) (a:Addr),M i a->M j a->i=j
 trk:∀(a:Addr),O a->Mtb H a
theorem RowsR.same {K:GW}{O:Ow}{H H':Hp}(h:Same H H'):∀{rs:List (List T×List T)} {as:List Addr},RowsR K O H rs as->RowsR K O H' rs as
 | [],_,r=>r
 | _::_,_,⟨b,bs,kvs,e1,e2,e3,e4,e5⟩=>⟨b,bs,kvs,e1,h _ _ e2,e3,e4.same h,e5.same h⟩
theorem LsR.same {K:GW}{O:Ow}{H H':Hp}(h:Same H H'):∀{ls:List (List T)} {as:List Addr},LsR K O H ls as->LsR K O H' ls as
 | [],_,r=>r
 | _::_,_,⟨b,bs,vs,e1,e2,e3,e4⟩=>⟨b,bs,vs,e1,h _ _ e2,e3.same h,e4.same h⟩
theorem ORep.same {K:GW}{O M:Ow}{H H':Hp}(h:Same H H'){o:OT}{v:V}(r:ORep K O M H o v):ORep K O M H' o v:=by
 cases o with
 | lst l=>obtain⟨a,vs,e1,e2,e3,e4⟩:=r;exact⟨a,vs,e1,e2,h _ _ e3,e4.same h⟩
 | dct ks ts=>obtain⟨a,kvs,e1,e2,e3,e4,e5⟩:=r;exact⟨a,kvs,e1,e2,h _ _ e3,e4,e5.same h⟩
 | dd ks rows=>obtain⟨a,kvs,as,e1,e2,e3,e4,e5,e6,e7,e8⟩:=r;exact⟨a,kvs,as,e1,e2,e3,e4,h _ _ e5,e6,e7,e8.same h⟩
 | ob C ns ls=>obtain⟨a,dx,as,e1,e2,e3,e4,e5,e6,e7,e8⟩:=r;exact⟨a,dx,as,e1,e2,e3,h _ _ e4,h _ _ e5,e6,e7,e8.same h⟩
 | ll ls=>obtain⟨a,as,e1,e2,e3,e4,e5,e6⟩:=r;exact⟨a,as,e1,e2,e3,e4,h _ _ e5,e6.same h⟩
theorem EnvM.same {K:GW}{O:Ow}{M:Mn}{H H':Hp}{ρ:En}{σ:L2.St}(h:Same H H')(e:EnvM K O M H ρ σ):EnvM K O M H' ρ σ where
 len:=e.len
 val:=λi t q=>let ⟨v,e1,e2⟩:=e.val i t q;⟨v,e1,e2.same h⟩
 own:=λi o q=>let ⟨v,e1,e2⟩:=e.own i o q;⟨v,e1,e2.same h⟩
 sub:=e.sub
 dis:=e.dis
 trk:=λa q=>(e.trk a q).same h
def EnvO (K:GW)(O:Ow)(H:Hp)(ρ:En)(σ:L2.St):Prop:=∃M,EnvM K O M H ρ σ
section
variable {K:GW}{O:Ow}{H H':Hp}{ρ:En}{σ:L2.St}
theorem EnvO.val (e:EnvO K O H ρ σ)(i:Nat)(t:T)(q:ρ[i]? =some (.va t)):∃v,σ[i]? =some (some v)/\Rep K O H t v:=e.elim λ_ e=>e.val i t q
theorem EnvO.mtb (e:EnvO K O H ρ σ):∀a,O a->Mtb H a:=e.elim λ_ e=>e.trk
theorem EnvO.trk (e:EnvO K O H ρ σ)(a:Addr)(z:O a):∃o,H a=some o:=(e.mtb a z).some
theorem EnvO.same (h:Same H H')(e:EnvO K O H ρ σ):EnvO K O H' ρ σ:=e.elim λM e=>⟨M,e.same h⟩
theorem EnvO.fresh (e:EnvO K O H ρ σ){p:Addr}(h:H p=none):¬ O p:=λz=>by
 obtain⟨o,q⟩:=e.trk p z;rw[h]at q;cases q
end
def Flt (h:Heap)(C e:Addr):Option Addr->Prop
 | none=> ∃oe vs,h.get? e=some oe/\oe.cls= .ref C/\oe.data= .fields vs/\vs[1]? =some .none
 | some T=>T≠e/\∃oe vs,h.get? e=some oe/\oe.cls= .ref C/\oe.data= .fields vs/\vs[1]? =some (.ref T)/\∃oT ts,h.get? T=some oT/\oT.data= .fields ts/\ts[3]? =some .none
def RzP (X:Cx)(pins:List (Addr×Obj))(P:Ow)(H:Hp)(c:Str)(ev:GZ)(s':GX):Prop:=
 ∃e T C σ' H',ev= .ref e/\X.mg c=some (.ref C)/\Inv X pins σ' H' s'/\SameO P H H'/\H' e=none/\(X.ex= []->X.s₀.heap.get? e=none)/\Flt s'.heap C e T/\(∀t,T=some t->H' t=none/\(X.ex= []->X.s₀.heap.get? t=none))/\∀p∈X.pn++pins,p.1≠e/\T≠some p.1
def Nw (K:GW)(H:Hp):Ow:=λa=>H a=none/\K.lookup a=none
theorem hZ {K:GW}{P:Ow}{H H1:Hp}(h:SameO P H H1){a:Addr}(n:Nw K H1 a):P a\/Nw K H a:=by
 by_cases hp:P a
 ·exact .inl hp
 ·refine .inr ⟨?_,n.2⟩
  cases q:H a with
  | none=>rfl
  | some o=>have:=h a o q hp;rw[n.1]at this;cases this
theorem SameO.trans {K:GW}{P P1:Ow}{H H1 H2:Hp}(h:SameO P H H1)(h1:SameO P1 H1 H2)(sub:∀a,P1 a->P a\/Nw K H a):SameO P H H2:=λb o e n=>
 h1 b o (h b o e n) λz=>(sub b z).elim n λw=>by rw[w.1]at e;cases e
def XA (X:Cx)(P:Ow)(H:Hp)(c:Str):Prop:=∀pins ev s',RzP X pins P H c ev s'->X.xe ev s'
theorem XA.later {X:Cx}{P P1:Ow}{H H1:Hp}{c:Str}(h:XA X P H c)(s:SameO P H H1)(sub:∀a,P1 a->P a\/Nw X.K H a):XA X P1 H1 c:=λpins ev s' ⟨e,T,C,σ',H',a1,a2,a3,a4,a5⟩=>
 h pins ev s' ⟨e,T,C,σ',H',a1,a2,a3,s.trans a4 sub,a5⟩
abbrev wq:Ow:=λ_=>False
def Post {α:Type}(X:Cx)(H:Hp)(r:Rs α)(k:α->Hp->Prop):Prop:=match r with
 | .ok t=> ∀H',Same H H'->k t H'
 | .err c=>XA X wq H c
 | .bad=>False
theorem Post.mono {α:Type}{X:Cx}{H:Hp}{r:Rs α}{k k':α->Hp->Prop}(h:Post X H r k)(f:∀t H',Same H H'->k t H'->k' t H'):Post X H r k':=by
 cases r with
 | ok t=>exact λH' s=>f t H' s (h H' s)
 | err c=>exact h
 | bad=>exact h
theorem Post.later {α:Type}{X:Cx}{H H1:Hp}{r:Rs α}{k:α->Hp->Prop}(h:Post X H r k)(s:Same H H1):Post X H1 r k:=by
 cases r with
 | ok t=>exact λH' s'=>h H' (s.trans s')
 | err c=>exact XA.later h (SameO.of s) λ_ z=>z.elim
 | bad=>exact h
theorem Post.bind {α β:Type}{X:Cx}{H:Hp}{r:Rs α}{f:α->Rs β}{k:β->Hp->Prop}(h:Post X H (r >>= f) k):Post X H r λt H'=>Post X H' (f t) k:=by
 cases r with
 | ok t=>exact λH' s=>Post.later h s
 | err c=>exact h
 | bad=>exact h
def tP (X:Cx)(f:En->Rs T):TE:=λσ H Q=> ∃ρ O,EnvO X.K O H ρ σ/\Post X H (f ρ) λt H'=> ∀v,Rep X.K O H' t v->Q v H'
def tPA (X:Cx)(f:En->Rs (List T)):TA:=λσ H Q=> ∃ρ O,EnvO X.K O H ρ σ/\Post X H (f ρ) λt H'=> ∀v,Reps X.K O H' t v->Q v H'
def uD (X:Cx)(f:En->Rs Bool):TT:=λσ H Q=> ∃ρ O,EnvO X.K O H ρ σ/\Post X H (f ρ) λb H'=>Q b H'
abbrev cR (X:Cx)(e:Expr)(f:En->Rs T):Prop:=PE X e (tP X f)
abbrev oI (X:Cx)(e:List Expr)(f:En->Rs (List T)):Prop:=PA X e (tPA X f)
abbrev xM (X:Cx)(e:Expr)(f:En->Rs Bool):Prop:=PT X e (uD X f)
theorem PE.imp {X:Cx}{e:Expr}{t t':TE}(h:PE X e t)(w:∀σ H Q,t' σ H Q->t σ H Q):PE X e t':=λpins s σ H Q I q=>h pins s σ H Q I (w σ H Q q)
theorem PA.imp {X:Cx}{e:List Expr}{t t':TA}(h:PA X e t)(w:∀σ H Q,t' σ H Q->t σ H Q):PA X e t':=λpos pins s σ H Q I q=>h pos pins s σ H Q I (w σ H Q q)
theorem PS.imp {X:Cx}{e:Stmt}{t t':TS}(h:PS X e t)(w:∀D σ H,t' D σ H->t D σ H):PS X e t':=λpins s σ H D I q=>h pins s σ H D I (w D σ H q)
theorem PSs.imp {X:Cx}{e:List Stmt}{t t':TS}(h:PSs X e t)(w:∀D σ H,t' D σ H->t D σ H):PSs X e t':=λpins s σ H D I q=>h pins s σ H D I (w D σ H q)
section
variable {X:Cx}
theorem aR {σ:L2.St}{H:Hp}{ρ:En}{O:Ow}{α:Type}{f:En->Rs T}{k:T->Rs α}{Q:α->Hp->Prop}(E:EnvO X.K O H ρ σ)(h:Post X H (f ρ >>= k) Q) :
  tP X f σ H λv H'=> ∃t,Rep X.K O H' t v/\Same H H'/\EnvO X.K O H' ρ σ/\Post X H' (k t) Q:=
 ⟨ρ,O,E,Post.mono h.bind λt H' s q v r=>⟨t,r,s,E.same s,q⟩⟩
theorem dG {σ:L2.St}{H:Hp}{ρ:En}{O:Ow}{α:Type}{f:En->Rs (List T)}{k:List T->Rs α}{Q:α->Hp->Prop}(E:EnvO X.K O H ρ σ)(h:Post X H (f ρ >>= k) Q) :
  tPA X f σ H λv H'=> ∃t,Reps X.K O H' t v/\Same H H'/\EnvO X.K O H' ρ σ/\Post X H' (k t) Q:=
 ⟨ρ,O,E,Post.mono h.bind λt H' s q v r=>⟨t,r,s,E.same s,q⟩⟩
theorem jk {σ:L2.St}{H:Hp}{ρ:En}{O:Ow}{α:Type}{f:En->Rs Bool}{k:Bool->Rs α}{Q:α->Hp->Prop}(E:EnvO X.K O H ρ σ)(h:Post X H (f ρ >>= k) Q) :
  uD X f σ H λb H'=>Same H H'/\EnvO X.K O H' ρ σ/\Post X H' (k b) Q:=
 ⟨ρ,O,E,Post.mono h.bind λt H' s q=>⟨s,E.same s,q⟩⟩
noncomputable def vr (i:Nat)(ρ:En):Rs T:=match ρ[i]? with
 | some (.va t)=> .ok t
 | _=> .bad
def cn (t:T)(_:En):Rs T:=.ok t
theorem DR (i:Nat){x:Str}{pos:Pos}(hN:autoParam (X.N[i]? =some x) u_)(hv:autoParam (rz X.env.scope x) v_)(hd:autoParam ((x == ("__debug__" : Str))=false) s_)
  (hcd:autoParam ((x == ("__classdict__" : Str))=false) s_):cR X (.Name x pos) (vr i):=PE.imp (jN hN hv hd hcd) λσ H Q hh_=>by
 obtain⟨ρ,O,E,h⟩:=hh_;unfold vr at h
 split at h
 ·rename_i t e
  obtain⟨v,e1,e2⟩:=E.val i t e;exact⟨v,e1,h H (Same.refl H) v e2⟩
 ·exact h.elim
theorem D5 {i j pos}:cR X (.Constant (.int i) j pos) (cn (.int i)):=PE.imp vW λσ H Q ⟨ρ,O,E,h⟩=>h H (Same.refl H) _ (Rep.FP i)
theorem q_bl {i j pos}:cR X (.Constant (.bool i) j pos) (cn (.bl i)):=PE.imp vZ λσ H Q ⟨ρ,O,E,h⟩=>h H (Same.refl H) _ (Rep.bl_ i)
theorem DZ {j pos}:cR X (.Constant .none j pos) (cn .non):=PE.imp BR λσ H Q ⟨ρ,O,E,h⟩=>h H (Same.refl H) _ Rep.Gi
theorem DV {i j pos}:cR X (.Constant (.str i) j pos) (cn (.str i)):=PE.imp vR λσ H Q ⟨ρ,O,E,h⟩=>h H (Same.refl H) _ (Rep.F1 i)
theorem BH {x:Str}{i:Int}{u:GZ}{pos:Pos}(hm:X.mg x=some u)(r:RelV (.int i) u)(hg:autoParam (Gl X x) u_)(hd:autoParam ((x == ("__debug__" : Str))=false) s_):cR X (.Name x pos) (cn (.int i)):=
 PE.imp (rX hg hm r hd) λσ H Q ⟨ρ,O,E,h⟩=>h H (Same.refl H) _ (Rep.FP i)
def ai (_:En):Rs (List T):=.ok []
def ae (f:En->Rs T)(g:En->Rs (List T))(ρ:En):Rs (List T):=do
 let t <-f ρ
 let r <-g ρ
 .ok (t::r)
theorem BG:oI X [] ai:=PA.imp fy λσ H Q ⟨ρ,O,E,h⟩=>h H (Same.refl H) _ Reps.FO
theorem yE {e:Expr}{es:List Expr}{f:En->Rs T}{g:En->Rs (List T)}(he:cR X e f)(hr:oI X es g)(hs:autoParam (Hj (e::es) X.env=(false,eval e X.env)::Hj es X.env) u_):oI X (e::es) (ae f g):=by
 intro pos pins s σ H Q I h;obtain⟨ρ,O,E,h⟩:=h;refine b6 he hr hs pos pins s σ H Q I ?_
 obtain⟨ρ1,O1,E1,h1⟩:=aR E h;refine⟨ρ1,O1,E1,Post.mono h1 λt H' s q v r=> ?_⟩
 obtain⟨t',r',s',E',q'⟩:=q v r;refine⟨ρ,O,E',Post.mono q'.bind λts H2 s2 q2 vs rs=> ?_⟩
 exact q2 H2 (Same.refl H2) _ (Reps.FL (r'.same s2) rs)
end
section
variable {X:Cx}
def e9 (l:List T):Rs T:=if l.length<=sizeLine then .ok (.tup l)else .bad
def kd (l:List T):Rs T:=if l.length<=sizeLine then .ok (.lst l)else .bad
def br (f:En->Rs (List T))(ρ:En):Rs T:=f ρ >>= e9
def gU (f:En->Rs (List T))(ρ:En):Rs T:=f ρ >>= kd
theorem aW {H:Hp}{p:Addr}(h:H p=none)(o:HO):Same H (cz H p o):=λb u q=>by rw[aN (bO q h)];exact q
theorem dH {K:GW}{O:Ow}{H:Hp}{p:Addr}{l:List T}{vs:List V}(h:H p=none)(n:¬ O p)(r:Reps K O H l vs):Rep K O (cz H p (.tup vs)) (.tup l) (.ref p):=
 Rep.Fk.mpr ⟨p,vs,rfl,n,aT,r.same (aW h _)⟩
theorem eY {K:GW}{O:Ow}{H:Hp}{p:Addr}{l:List T}{vs:List V}(h:H p=none)(n:¬ O p)(r:Reps K O H l vs):Rep K O (cz H p (.lst vs)) (.lst l) (.ref p):=
 Rep.FB.mpr ⟨p,vs,rfl,n,aT,r.same (aW h _)⟩
theorem DU {es:List Expr}{x1:Nat}{pos:Pos}{f:En->Rs (List T)}(h:oI X es f):cR X (.Tuple es x1 pos) (br f):=by
 intro pins s σ H Q I ⟨ρ,O,E,hq⟩;refine vQ h pins s σ H Q I ?_
 obtain⟨ρ1,O1,E1,h1⟩:=dG E hq;refine⟨ρ1,O1,E1,Post.mono h1 λts H1 s1 q vs r=> ?_⟩
 obtain⟨t',r',s',E',q'⟩:=q vs r;unfold e9 at q'
 split at q'
 ·rename_i hz
  refine⟨by rw[<-r'.length];exact hz,λp hp=> ?_⟩
  exact q' _ (aW hp _) _ (dH hp (E'.fresh hp) r')
 ·exact q'.elim
theorem D1 {es:List Expr}{pos:Pos}{f:En->Rs (List T)}(h:oI X es f):cR X (.List es pos) (gU f):=by
 intro pins s σ H Q I ⟨ρ,O,E,hq⟩;refine vU h pins s σ H Q I ?_
 obtain⟨ρ1,O1,E1,h1⟩:=dG E hq;refine⟨ρ1,O1,E1,Post.mono h1 λts H1 s1 q vs r=> ?_⟩
 obtain⟨t',r',s',E',q'⟩:=q vs r;unfold kd at q'
 split at q'
 ·rename_i hz
  refine⟨by rw[<-r'.length];exact hz,λp hp=> ?_⟩
  exact q' _ (aW hp _) _ (eY hp (E'.fresh hp) r')
 ·exact q'.elim
def OpT (X:Cx)(f:GZ->GZ->Sem GZ)(g:T->T->Rs T):Prop:=
 ∀(pins:List (Addr×Obj)) (s:GX) (σ:L2.St) (H:Hp) (O:Ow) (x y:T) (vx vy:V) (ux uy:GZ) (Q:VK),Inv X pins σ H s->(∀p,H p=none->¬ O p)->Rep X.K O H x vx->Rep X.K O H y vy->RelV vx ux->RelV vy uy →
  Post X H (g x y) (λt H'=> ∀v,Rep X.K O H' t v->Q v H')->wpAny (model X.prog X.w) X.A (f ux uy) (EP X pins σ Q) X.xe s
def o2 (g:T->T->Rs T)(fa fb:En->Rs T)(ρ:En):Rs T:=do
 let x <-fa ρ
 let y <-fb ρ
 g x y
variable {a b c:Expr}{fa fb fc:En->Rs T}{pos:Pos}
theorem D8 {op:Operator}{g:T->T->Rs T}(ho:OpT X (Jo op) g)(ha:cR X a fa)(hb:cR X b fb):cR X (.BinOp a op b pos) (o2 g fa fb):=by
 intro pins s σ H Q I ⟨ρ,O,E,hq⟩
 have h1:=aR E hq;refine wpAny_BinOp (bJ (ha pins s σ H _ I h1) λv s1 hh_=> ?_)
 obtain⟨x,H1,I1,r1,t,rt,s',E',q1⟩:=hh_
 have h2:=aR (f:=fb) E' q1;refine bJ (hb pins s1 σ H1 _ I1 h2) λu s2 hh_=> ?_
 obtain⟨y,H2,I2,r2,t2,rt2,s'',E'',q2⟩:=hh_;exact ho pins s2 σ H2 O t t2 x y v u Q I2 (λp=>E''.fresh) (rt.same s'') rt2 r1 r2 q2
theorem D7 {op:O0}{g:T->T->Rs T}(ho:OpT X (Iw op) g)(ha:cR X a fa)(hb:cR X b fb)(hm:autoParam (Js op b=false) u_):cR X (.Compare a [op] [b] pos) (o2 g fa fb):=by
 intro pins s σ H Q I ⟨ρ,O,E,hq⟩
 have h1:=aR E hq;refine wpAny_Compare1 (bJ (ha pins s σ H _ I h1) λv s1 ⟨x,H1,I1,r1,t,rt,s',E',q1⟩=> ?_) hm
 have h2:=aR (f:=fb) E' q1;refine bJ (hb pins s1 σ H1 _ I1 h2) λu s2 hh_=> ?_
 obtain⟨y,H2,I2,r2,t2,rt2,s'',E'',q2⟩:=hh_;exact ho pins s2 σ H2 O t t2 x y v u Q I2 (λp=>E''.fresh) (rt.same s'') rt2 r1 r2 q2
theorem OpT.of {f:GZ->GZ->Sem GZ}{r:R2}(h:mx X f r){g:T->T->Rs T}
  (w:∀(H:Hp) (O:Ow) (x y:T) (vx vy:V) (Q:VK),(∀p,H p=none->¬ O p)->Rep X.K O H x vx->Rep X.K O H y vy->Post X H (g x y) (λt H'=> ∀v,Rep X.K O H' t v->Q v H')->r vx vy H Q):OpT X f g:=
 λpins s σ H O x y vx vy ux uy Q I hf rx ry r1 r2 hp=>h pins s σ H vx vy ux uy Q I r1 r2 (w H O x y vx vy Q hf rx ry hp)
def km:T->T->Rs T
 | .int i,.int j=> .ok (.int (i - j))
 | _,_=> .bad
theorem k7:OpT X (Jo .Sub) km:=OpT.of BW λH O x y vx vy Q hf rx ry hp=>by
 unfold km at hp
 split at hp
 ·exact⟨_,_,Rep.Do.mp rx,Rep.Do.mp ry,hp H (Same.refl H) _ (Rep.FP _)⟩
 ·exact hp.elim
def jF:T->T->Rs T
 | .int i,.int j=>if 0<j/\j<1073741824 then .ok (.int (i / j))else .bad
 | _,_=> .bad
def jA:T->T->Rs T
 | .int i,.int j=>if 0<j then .ok (.int (i % j))else .bad
 | _,_=> .bad
theorem kE:OpT X (Jo .FloorDiv) jF:=OpT.of yZ λH O x y vx vy Q hf rx ry hp=>by
 unfold jF at hp
 split at hp
 ·split at hp
  ·rename_i h
   exact⟨_,_,Rep.Do.mp rx,Rep.Do.mp ry,h,hp H (Same.refl H) _ (Rep.FP _)⟩
  ·exact hp.elim
 ·exact hp.elim
theorem iO:OpT X (Jo .Mod) jA:=OpT.of BZ λH O x y vx vy Q hf rx ry hp=>by
 unfold jA at hp
 split at hp
 ·split at hp
  ·rename_i h
   exact⟨_,_,Rep.Do.mp rx,Rep.Do.mp ry,h,hp H (Same.refl H) _ (Rep.FP _)⟩
  ·exact hp.elim
 ·exact hp.elim
theorem wc:mx X (Jo .Add) (λx y H Q=> ∃a b ys,x= .ref a/\y= .ref b/\SqT X.K H a []/\SqT X.K H b ys/\Q (.ref b) H):=by
 intro pins s σ H x y v u Q I rx ry h;obtain⟨a,b,ys,rfl,rfl,ha,hb,q⟩:=h;cases rx;cases ry;obtain⟨its,r1,p1,_⟩:=I.tuple ha;obtain⟨its2,r2,p2,_⟩:=I.tuple hb;obtain⟨⟨cls,dd,data,sl⟩,ho,hc,n,hd⟩:=id p1;obtain⟨⟨cls2,dd2,data2,sl2⟩,ho2,hc2,n2,hd2⟩:=id p2;simp only at hc hd hc2 hd2;subst hc hd hc2 hd2
 have e:its= []:=by cases r1;rfl
 subst e;exact HT_concat0 ho ho2 ⟨.ref b,H,I,rfl,q⟩
where
 HT_concat0 {prog:Hr} {w:HS} {A:HF} {E:GZ->GX->Prop} {s:GX} {t b:Addr} {ws:Array GZ} {n n2:Nat} {dd dd2:Option Addr} {sl sl2:Array (Option GZ)} {Q:GZ->GX->Prop}
   (ho:s.heap.get? t=some { cls:=.type "tuple",dict:=dd,data:=.seq (([]:List GZ).toArray) n,slots:=sl }) (ho2:s.heap.get? b=some { cls:=.type "tuple",dict:=dd2,data:=.seq ws n2,slots:=sl2 }) (h:Q (.ref b) s) :
   wpAny (model prog w) A (Jo .Add (.ref t) (.ref b)) Q E s:=
  Oq ⟨_,ho,rfl⟩ ⟨_,ho2,rfl⟩ Mt NJ KJ Kt (Km _ _)
   (tuple_addW0 t b _ _ n n2 dd dd2 sl sl2 (by simp)) ⟨ho,ho2,h⟩
def aB:T->T->Rs T
 | .int i,.int j=> .ok (.int (i+j))
 | .str i,.str j=>if i.length+j.length<=sizeLine then .ok (.str (i++j))else .bad
 | .tup l,.tup m=>e9 (l++m)
 | .lst l,.lst m=>kd (l++m)
 | _,_=> .bad
theorem az:OpT X (Jo .Add) aB:=by
 intro pins s σ H O x y vx vy ux uy Q I hf rx ry r1 r2 hp;unfold aB at hp
 split at hp
 ·exact B2 pins s σ H vx vy ux uy Q I r1 r2 ⟨_,_,Rep.Do.mp rx,Rep.Do.mp ry,hp H (Same.refl H) _ (Rep.FP _)⟩
 ·split at hp
  ·rename_i h
   exact qK pins s σ H vx vy ux uy Q I r1 r2 ⟨_,_,Rep.FI.mp rx,Rep.FI.mp ry,h,hp H (Same.refl H) _ (Rep.F1 _)⟩
  ·exact hp.elim
 ·rename_i l m
  unfold e9 at hp
  split at hp
  ·rename_i h
   obtain⟨a,vs,e1,n1,q1,z1⟩:=Rep.Fk.mp rx;obtain⟨b,ws,e2,n2,q2,z2⟩:=Rep.Fk.mp ry
   have hl1:=z1.length
   have hl2:=z2.length;rw[GY]at h
   cases vs with
   | nil=>
    have e:l= []:=by cases l with
     | nil=>rfl
     | cons _ _=>simp at hl1
    subst e
    exact wc pins s σ H vx vy ux uy Q I r1 r2 ⟨a,b,ws,e1,e2,SqT.of q1,SqT.of q2,hp H (Same.refl H) _ (Rep.Fk.mpr ⟨b,ws,rfl,n2,q2,z2⟩)⟩
   | cons v0 vr=>
    refine y0 pins s σ H vx vy ux uy Q I r1 r2 ⟨a,b,v0::vr,ws,e1,e2,SqT.of q1,SqT.of q2,by simp,by omega,λhw=> ?_,λ_ p hpn=> ?_⟩
    ·subst hw
     have e:m= []:=by cases m with
      | nil=>rfl
      | cons _ _=>simp at hl2
     subst e;rw[Ii]at hp;exact hp H (Same.refl H) _ (Rep.Fk.mpr ⟨a,_,rfl,n1,q1,z1⟩)
    ·exact hp _ (aW hpn _) _ (dH hpn (hf p hpn) (z1.append z2))
  ·exact hp.elim
 ·rename_i l m
  unfold kd at hp
  split at hp
  ·rename_i h
   obtain⟨a,vs,e1,n1,q1,z1⟩:=Rep.FB.mp rx;obtain⟨b,ws,e2,n2,q2,z2⟩:=Rep.FB.mp ry
   have hl1:=z1.length
   have hl2:=z2.length;rw[GY]at h;exact B1 pins s σ H vx vy ux uy Q I r1 r2 ⟨a,b,vs,ws,e1,e2,q1,q2,by omega,λp hpn=>hp _ (aW hpn _) _ (eY hpn (hf p hpn) (z1.append z2))⟩
  ·exact hp.elim
 ·exact hp.elim
def qO:T->T->Rs T
 | .int i,.int j=>if (-(2 ^ 64)<i/\i<2 ^ 64)\/(-(2 ^ 64)<j/\j<2 ^ 64)then .ok (.int (i*j))else .bad
 | .lst l,.int k=>if -(2 ^ 63)<=k/\k<2 ^ 63/\l.length*k.toNat<=sizeLine then .ok (.lst (Hy k.toNat l).flatten)else .bad
 | _,_=> .bad
theorem Reps.rep {K:GW}{O:Ow}{H:Hp}{l:List T}{vs:List V}(h:Reps K O H l vs):∀k:Nat,Reps K O H (Hy k l).flatten (Hy k vs).flatten
 | 0=>Reps.FO
 | k+1=>by rw[Jd,Jd,Ip,Ip];exact h.append (h.rep k)
theorem BV:OpT X (Jo .Mult) qO:=by
 intro pins s σ H O x y vx vy ux uy Q I hf rx ry r1 r2 hp;unfold qO at hp
 split at hp
 ·split at hp
  ·rename_i h
   exact BY pins s σ H vx vy ux uy Q I r1 r2 ⟨_,_,Rep.Do.mp rx,Rep.Do.mp ry,h,hp H (Same.refl H) _ (Rep.FP _)⟩
  ·exact hp.elim
 ·split at hp
  ·rename_i l k h
   obtain⟨a,vs,e1,n1,q1,z1⟩:=Rep.FB.mp rx
   have hl1:=z1.length;exact BX pins s σ H vx vy ux uy Q I r1 r2 ⟨a,k,vs,e1,Rep.Do.mp ry,q1,h.1,h.2.1,by rw[<-hl1];exact h.2.2,λp hpn=>hp _ (aW hpn _) _ (eY hpn (hf p hpn) (z1.rep _))⟩
  ·exact hp.elim
 ·exact hp.elim
def gz:T->Rs T
 | .int i=> .ok (.int (-i))
 | _=> .bad
def o1 (g:T->Rs T)(fa:En->Rs T)(ρ:En):Rs T:=fa ρ >>= g
theorem D0 (ha:cR X a fa):cR X (.UnaryOp .USub a pos) (o1 gz fa):=by
 intro pins s σ H Q I ⟨ρ,O,E,hq⟩;refine Eb A4 ha pins s σ H Q I ?_
 obtain⟨ρ1,O1,E1,h1⟩:=aR E hq;refine⟨ρ1,O1,E1,Post.mono h1 λts H1 s1 q vs r=> ?_⟩
 obtain⟨t',r',s',E',q'⟩:=q vs r;unfold gz at q'
 split at q'
 ·exact⟨_,Rep.Do.mp r',q' H1 (Same.refl H1) _ (Rep.FP _)⟩
 ·exact q'.elim
def rj (p:Int->Int->Bool):T->T->Rs T
 | .int i,.int j=> .ok (.bl (p i j))
 | _,_=> .bad
theorem r9 {op:O0}{p:Int->Int->Bool}(h:mx X (Iw op) (Br λi j=> .bl (p i j))):OpT X (Iw op) (rj p):=OpT.of h λH O x y vx vy Q hf rx ry hp=>by
 unfold rj at hp
 split at hp
 ·exact⟨_,_,Rep.Do.mp rx,Rep.Do.mp ry,hp H (Same.refl H) _ (Rep.bl_ _)⟩
 ·exact hp.elim
abbrev AD:=rj λi j=>decide (i<j)
abbrev Ew:=rj λi j=>decide (i<=j)
theorem wa:OpT X (Iw .Lt) AD:=r9 Ej
theorem r8:OpT X (Iw .LtE) Ew:=r9 Ek
def T.isN:T->Bool
 | .non=>true
 | _=>false
theorem Rep.isN {K:GW}{O:Ow}{H:Hp}{t:T}{v:V}(r:Rep K O H t v):decide (v= .non)=t.isN:=by
 cases t with
 | non=>rw[Rep.FS.mp r];rfl
 | bl _=>rw[Rep.FK.mp r];rfl
 | int _=>rw[Rep.Do.mp r];rfl
 | str _=>rw[Rep.FI.mp r];rfl
 | tup _=>obtain⟨a,vs,e,_⟩:=Rep.Fk.mp r;rw[e];rfl
 | lst _=>obtain⟨a,vs,e,_⟩:=Rep.FB.mp r;rw[e];rfl
 | scr _=>unfold Rep at r;obtain⟨a,e,_⟩:=r;rw[e];rfl
 | dct _ _=>obtain⟨a,_,e,_⟩:=Rep.FQ.mp r;rw[e];rfl
 | ob _ _ _=>obtain⟨a,_,_,e,_⟩:=Rep.Gg.mp r;rw[e];rfl
def wX:T->T->Rs T
 | x,.non=> .ok (.bl x.isN)
 | _,_=> .bad
def pD:T->T->Rs T
 | x,.non=> .ok (.bl (!x.isN))
 | _,_=> .bad
theorem Ef:OpT X (Iw .Is) wX:=OpT.of B0 λH O x y vx vy Q hf rx ry hp=>by
 unfold wX at hp
 split at hp
 ·exact⟨Rep.FS.mp ry,hp H (Same.refl H) _ (by rw[rx.isN];exact Rep.bl_ _)⟩
 ·exact hp.elim
theorem wb:OpT X (Iw .IsNot) pD:=OpT.of yY λH O x y vx vy Q hf rx ry hp=>by
 unfold pD at hp
 split at hp
 ·exact⟨Rep.FS.mp ry,hp H (Same.refl H) _ (by rw[rx.isN];exact Rep.bl_ _)⟩
 ·exact hp.elim
end
end Tr
namespace Tr
open PySem PySem.Spec PyProof.Rows L2
open PySem.SeqAt
mutual
def ReV (s:GX):T->GZ->Prop
 | .non,u=>u= .none
 | .bl b,u=>u= .bool b
 | .int i,u=> ∃t,u= .int i t
 | .str x,u=> ∃t,u= .str x t
 | .tup l,u=> ∃a its,u= .ref a/\s.heap.IsTuple a (Oi its)/\ReVs s l its
 | .lst l,u=> ∃a its,u= .ref a/\s.heap.IsList a (Oi its)/\ReVs s l its
 | .scr l,u=> ∃a its,u= .ref a/\s.heap.IsList a (Oi its)/\LQ its l
 | .dct _ _,_=>False
 | .ob _ _ _,_=>False
def ReVs (s:GX):List T->List GZ->Prop
 | [],us=>us= []
 | t::r,us=> ∃u ws,us=u::ws/\ReV s t u/\ReVs s r ws
end
theorem ReVs.Da {s:GX}{us:List GZ}:ReVs s [] us↔us= []:=by unfold ReVs;exact LM
theorem ReVs.AC {s:GX}{t:T}{l:List T}{us:List GZ}:ReVs s (t::l) us↔ ∃u ws,us=u::ws/\ReV s t u/\ReVs s l ws:=by
 constructor
 ·intro h;unfold ReVs at h;exact h
 ·intro h;unfold ReVs;exact h
theorem ReVs.length {s:GX}:∀{l:List T} {us:List GZ},ReVs s l us->l.length=us.length
 | [],us,r=>by rw[ReVs.Da.mp r];rfl
 | t::l,us,r=>by
  obtain⟨v,ws,rfl,_,q⟩:=ReVs.AC.mp r;simp[q.length]
theorem ReVs.get {s:GX}:∀{l:List T} {us:List GZ} {i:Nat} {t:T},ReVs s l us->l[i]? =some t->∃v,us[i]? =some v/\ReV s t v
 | [],_,_,_,_,e=>by simp at e
 | t::l,vs,i,u,r,e=>by
  obtain⟨v,ws,rfl,p,q⟩:=ReVs.AC.mp r
  cases i with
  | zero=>simp at e;subst e;exact⟨v,rfl,p⟩
  | succ i=>
   obtain⟨z,e1,e2⟩:=q.get (i:=i) (t:=u) (by simpa using e)
   exact⟨z,by simpa using e1,e2⟩
mutual
def T.nd:T->Bool
 | .dct _ _=>false
 | .ob _ _ _=>false
 | .tup l=>nds l
 | .lst l=>nds l
 | _=>true
def nds:List T->Bool
 | [] =>true
 | t::l=>t.nd&&nds l
end
theorem pI {t:T}{l:List T}(h:nds (t::l)=true):t.nd=true/\nds l=true:=by unfold nds at h;exact HY.mp h
section
variable {X:Cx}{pins:List (Addr×Obj)}{σ:L2.St}{H:Hp}{s:GX}{O:Ow}
mutual
theorem Rep.val (I:Inv X pins σ H s):∀{t:T} {v:V} {u:GZ},t.nd=true->Rep X.K O H t v->RelV v u->ReV s t u
 | .non,v,u,hn,r,q=>by cases Rep.FS.mp r;unfold ReV;exact q
 | .bl b,v,u,hn,r,q=>by cases Rep.FK.mp r;unfold ReV;exact q
 | .int b,v,u,hn,r,q=>by cases Rep.Do.mp r;unfold ReV;exact q
 | .str b,v,u,hn,r,q=>by cases Rep.FI.mp r;unfold ReV;exact q
 | .tup l,v,u,hn,r,q=>by
  obtain⟨a,vs,rfl,_,z,w⟩:=Rep.Fk.mp r;cases q;obtain⟨its,rv,p,_⟩:=I.tuple (SqT.of z);unfold ReV
  exact⟨a,its,rfl,p,Reps.val I (by unfold T.nd at hn;exact hn) w rv⟩
 | .lst l,v,u,hn,r,q=>by
  obtain⟨a,vs,rfl,_,z,w⟩:=Rep.FB.mp r;cases q;obtain⟨its,rv,p,_⟩:=I.list (SqL.of z);unfold ReV
  exact⟨a,its,rfl,p.isList,Reps.val I (by unfold T.nd at hn;exact hn) w rv⟩
 | .scr l,v,u,hn,r,q=>by
  unfold Rep at r;obtain⟨a,rfl,_,z⟩:=r;cases q;obtain⟨its,rv,p,_⟩:=I.list z;unfold ReV
  exact⟨a,its,rfl,p.isList,qY rv⟩
 | .dct _ _,v,u,hn,r,q=>by cases hn
 | .ob _ _ _,v,u,hn,r,q=>by cases hn
theorem Reps.val (I:Inv X pins σ H s):∀{l:List T} {vs:List V} {us:List GZ},nds l=true->Reps X.K O H l vs->Vals vs us->ReVs s l us
 | [],vs,us,hn,r,q=>by
  cases Reps.Da.mp r;cases q
  exact ReVs.Da.mpr rfl
 | t::l,vs,us,hn,r,q=>by
  obtain⟨v,ws,rfl,p,z⟩:=Reps.AC.mp r
  cases q with
  | cons q1 q2=>exact ReVs.AC.mpr ⟨_,_,rfl,Rep.val I (pI hn).1 p q1,Reps.val I (pI hn).2 z q2⟩
end
end
mutual
def T.dep:T->Nat
 | .tup l=>deps l+1
 | .lst l=>deps l+1
 | .scr _=>1
 | _=>0
def deps:List T->Nat
 | [] =>0
 | t::l=>max t.dep (deps l)
end
def z9 (i:Int):T->Bool
 | .int j=>i == j
 | .bl b=>i == (if b then 1 else 0)
 | _=>false
def iG:List Int->List T->Bool
 | [],[] =>true
 | i::r,t::l=>z9 i t&&iG r l
 | _,_=>false
mutual
def bP:T->T->Bool
 | .non,.non=>true
 | .bl a,.bl b=>a == b
 | .bl a,.int b=>(if a then 1 else 0) == b
 | .int a,.bl b=>a == (if b then 1 else 0)
 | .int a,.int b=>a == b
 | .str a,.str b=>a == b
 | .tup l,.tup m=>beqTs l m
 | .lst l,.lst m=>beqTs l m
 | .lst l,.scr m=>beqTs l (m.map .int)
 | .scr l,.lst m=>iG l m
 | .scr l,.scr m=>l == m
 | _,_=>false
def beqTs:List T->List T->Bool
 | [],[] =>true
 | t::l,u::m=>bP t u&&beqTs l m
 | _,_=>false
end
theorem lV (n:Nat)(e:Nat->Bool):(Io (n+1)).all e=(e 0&&(Io n).all λj=>e (j+1)):=by
 rw[List.range_succ_eq_map,List.all_cons,List.all_map];rfl
theorem jY:∀(l m:List T) (e:Nat->Bool),(∀(j:Nat) t u,l[j]? =some t->m[j]? =some u->e j=bP t u) →
  beqTs l m=((Io (min l.length m.length)).all e&&l.length == m.length)
 | [],[],_,_=>by simp[beqTs]
 | [],_::_,_,_=>by simp[beqTs]
 | _::_,[],_,_=>by simp[beqTs]
 | t::l,u::m,e,h=>by
  have ih:=jY l m (λj=>e (j+1)) λj t' u' h1 h2=>h (j+1) t' u' (by simpa using h1) (by simpa using h2)
  rw[beqTs,ih]
  have h0:=h 0 t u rfl rfl;simp only[G4];rw[Nat.succ_min_succ,lV,h0,Bool.and_assoc]
  congr 2
  simp
theorem ni:∀{l m:List T},l.length≠m.length->beqTs l m=false
 | [],[],h=>absurd rfl h
 | [],_::_,_=>by simp[beqTs]
 | _::_,[],_=>by simp[beqTs]
 | t::l,u::m,h=>by
  rw[beqTs,ni (l:=l) (m:=m) (by intro z;exact h (by simp[z]))]
  simp
theorem lI:∀{l:List T} {i:Nat} {t:T},l[i]? =some t->t.dep<=deps l
 | [],_,_,e=>by simp at e
 | t::l,0,u,e=>by simp at e;subst e;unfold deps;exact Nat.le_max_left _ _
 | t::l,i+1,u,e=>by
  have:=lI (l:=l) (i:=i) (t:=u) (by simpa using e)
  unfold deps;exact Hz this (Nat.le_max_right _ _)
theorem gQ {s:GX}{a:Addr}{x y:List GZ}(h:s.heap.IsTuple a x.toArray)(h':s.heap.IsTuple a y.toArray):x=y:=by
 obtain⟨o,e,_,n,d⟩:=h;obtain⟨o',e',_,n',d'⟩:=h';rw[e]at e';cases e';rw[d]at d';injection d' with d1 _
 simpa using congrArg MB d1
theorem cw {s:GX}{a:Addr}{x y:List GZ}(h:s.heap.IsList a x.toArray)(h':s.heap.IsList a y.toArray):x=y:=by
 obtain⟨o,e,_,n,d⟩:=h;obtain⟨o',e',_,n',d'⟩:=h';rw[e]at e';cases e';rw[d]at d';injection d' with d1 _
 simpa using congrArg MB d1
theorem uu {s:GX}{i:Int}{t:T}{k:Tok}(r:ReV s t (.int i k)):z9 i t=true:=by
 cases t with
 | non=>unfold ReV at r;cases r
 | bl b=>unfold ReV at r;cases r
 | int j=>unfold ReV at r;obtain⟨t,e⟩:=r;injection e with e1 _;subst e1;simp[z9]
 | str x=>unfold ReV at r;obtain⟨t,e⟩:=r;cases e
 | tup l=>unfold ReV at r;obtain⟨a,its,e,_⟩:=r;cases e
 | lst l=>unfold ReV at r;obtain⟨a,its,e,_⟩:=r;cases e
 | scr l=>unfold ReV at r;obtain⟨a,its,e,_⟩:=r;cases e
 | dct _ _=>unfold ReV at r;exact r.elim
 | ob _ _ _=>unfold ReV at r;exact r.elim
theorem lR {s:GX}:∀{ns:List Int} {us:List GZ} {l:List T},LQ us ns->ReVs s l us->iG ns l=true
 | [],us,l,h,r=>by
  cases h
  cases l with
  | nil=>rfl
  | cons t l=>obtain⟨_,_,e,_⟩:=ReVs.AC.mp r;cases e
 | n::ns,us,l,h,r=>by
  cases h with
  | cons a b hh=>
   cases l with
   | nil=>have:=ReVs.Da.mp r;cases this
   | cons t l=>
    obtain⟨u,ws,e,p,q⟩:=ReVs.AC.mp r;injection e with e1 e2
    subst e1 e2;rw[iG,uu p,lR hh q];rfl
theorem dR {s:GX}:∀{us:List GZ} {ns:List Int},LQ us ns->ReVs s (ns.map T.int) us
 | _,_,.nil=>ReVs.Da.mpr rfl
 | _,_,.cons n t h=>ReVs.AC.mpr ⟨_,_,rfl,by unfold ReV;exact⟨_,rfl⟩,dR h⟩
theorem gR:∀{us:List GZ} {ns ms:List Int},LQ us ns->LQ us ms->ns=ms
 | _,_,_,.nil,.nil=>rfl
 | _,_,_,.cons n t h,.cons _ _ h'=>by rw[gR h h']
mutual
theorem ReV.refl {s:GX}:∀{t u:T} {v:GZ},ReV s t v->ReV s u v->bP t u=true
 | .non,u,v,r,q=>by
  unfold ReV at r;subst r
  cases u <;> (unfold ReV at q) <;> first | rfl | (cases q;done) | (obtain⟨_,e⟩:=q;cases e;done) | (obtain⟨_,_,e,_⟩:=q;cases e;done)
 | .bl b,u,v,r,q=>by
  unfold ReV at r;subst r
  cases u <;> (unfold ReV at q) <;> first | (cases q;done) | (cases q;simp[bP];done) | (obtain⟨_,e⟩:=q;cases e;done) | (obtain⟨_,_,e,_⟩:=q;cases e;done)
 | .int b,u,v,r,q=>by
  unfold ReV at r;obtain⟨k,rfl⟩:=r
  cases u <;> (unfold ReV at q) <;> first | (cases q;done) | (obtain⟨_,e⟩:=q;cases e;simp[bP];done) | (obtain⟨_,e⟩:=q;cases e;done) | (obtain⟨_,_,e,_⟩:=q;cases e;done)
 | .str b,u,v,r,q=>by
  unfold ReV at r;obtain⟨k,rfl⟩:=r
  cases u <;> (unfold ReV at q) <;> first | (cases q;done) | (obtain⟨_,e⟩:=q;cases e;simp[bP];done) | (obtain⟨_,e⟩:=q;cases e;done) | (obtain⟨_,_,e,_⟩:=q;cases e;done)
 | .tup l,u,v,r,q=>by
  unfold ReV at r;obtain⟨a,its,rfl,h1,h2⟩:=r
  cases u with
  | non=>unfold ReV at q;cases q
  | dct _ _=>unfold ReV at q;exact q.elim
  | ob _ _ _=>unfold ReV at q;exact q.elim
  | bl _=>unfold ReV at q;cases q
  | int _=>unfold ReV at q;obtain⟨_,e⟩:=q;cases e
  | str _=>unfold ReV at q;obtain⟨_,e⟩:=q;cases e
  | tup m=>
   unfold ReV at q;obtain⟨a',its',e,h1',h2'⟩:=q;injection e with e;subst e
   have:=gQ h1 h1';subst this;unfold bP
   exact ReVs.refl h2 h2'
  | lst m=>unfold ReV at q;obtain⟨a',its',e,h1',h2'⟩:=q;injection e with e;subst e;exact absurd rfl (ne_of_list_tuple h1' h1)
  | scr m=>unfold ReV at q;obtain⟨a',its',e,h1',h2'⟩:=q;injection e with e;subst e;exact absurd rfl (ne_of_list_tuple h1' h1)
 | .lst l,u,v,r,q=>by
  unfold ReV at r;obtain⟨a,its,rfl,h1,h2⟩:=r
  cases u with
  | non=>unfold ReV at q;cases q
  | dct _ _=>unfold ReV at q;exact q.elim
  | ob _ _ _=>unfold ReV at q;exact q.elim
  | bl _=>unfold ReV at q;cases q
  | int _=>unfold ReV at q;obtain⟨_,e⟩:=q;cases e
  | str _=>unfold ReV at q;obtain⟨_,e⟩:=q;cases e
  | lst m=>
   unfold ReV at q;obtain⟨a',its',e,h1',h2'⟩:=q;injection e with e;subst e
   have:=cw h1 h1';subst this;unfold bP
   exact ReVs.refl h2 h2'
  | tup m=>unfold ReV at q;obtain⟨a',its',e,h1',h2'⟩:=q;injection e with e;subst e;exact absurd rfl (ne_of_list_tuple h1 h1')
  | scr m=>
   unfold ReV at q;obtain⟨a',its',e,h1',h2'⟩:=q;injection e with e;subst e
   have:=cw h1 h1';subst this;unfold bP
   exact ReVs.refl h2 (dR h2')
 | .scr l,u,v,r,q=>by
  unfold ReV at r;obtain⟨a,its,rfl,h1,h2⟩:=r
  cases u with
  | non=>unfold ReV at q;cases q
  | dct _ _=>unfold ReV at q;exact q.elim
  | ob _ _ _=>unfold ReV at q;exact q.elim
  | bl _=>unfold ReV at q;cases q
  | int _=>unfold ReV at q;obtain⟨_,e⟩:=q;cases e
  | str _=>unfold ReV at q;obtain⟨_,e⟩:=q;cases e
  | lst m=>
   unfold ReV at q;obtain⟨a',its',e,h1',h2'⟩:=q;injection e with e;subst e
   have:=cw h1 h1';subst this;unfold bP
   exact lR h2 h2'
  | tup m=>unfold ReV at q;obtain⟨a',its',e,h1',h2'⟩:=q;injection e with e;subst e;exact absurd rfl (ne_of_list_tuple h1 h1')
  | scr m=>
   unfold ReV at q;obtain⟨a',its',e,h1',h2'⟩:=q;injection e with e;subst e
   have:=cw h1 h1';subst this;unfold bP
   have:=gR h2 h2'
   simp[this]
 | .dct _ _,u,v,r,q=>by unfold ReV at r;exact r.elim
 | .ob _ _ _,u,v,r,q=>by unfold ReV at r;exact r.elim
theorem ReVs.refl {s:GX}:∀{l m:List T} {us:List GZ},ReVs s l us->ReVs s m us->beqTs l m=true
 | [],m,us,r,q=>by
  cases ReVs.Da.mp r
  cases m with
  | nil=>simp[beqTs]
  | cons _ _=>obtain⟨_,_,e,_⟩:=ReVs.AC.mp q;cases e
 | t::l,m,us,r,q=>by
  obtain⟨v,ws,rfl,p,z⟩:=ReVs.AC.mp r
  cases m with
  | nil=>cases ReVs.Da.mp q
  | cons u m=>
   obtain⟨v',ws',e,p',z'⟩:=ReVs.AC.mp q;injection e with e1 e2
   subst e1 e2;rw[beqTs,ReV.refl p p',ReVs.refl z z'];rfl
end
theorem qf:∀(l:List Int) (m:List T),iG l m=beqTs (l.map T.int) m
 | [],[] =>by simp[iG,beqTs]
 | [],_::_=>by simp[iG,beqTs]
 | _::_,[] =>by simp[iG,beqTs]
 | i::l,t::m=>by
  rw[iG,G9,beqTs,qf l m]
  congr 1
  cases t <;> simp[z9,bP]
theorem rO:∀(l m:List Int),(l == m)=beqTs (l.map T.int) (m.map T.int)
 | [],[] =>by simp[beqTs]
 | [],_::_=>by simp[beqTs]
 | _::_,[] =>by simp[beqTs]
 | i::l,t::m=>by
  rw[G9,G9,beqTs,<-rO l m];simp[bP]
theorem eV:∀(l:List Int),deps (l.map T.int)=0
 | [] =>rfl
 | i::l=>by rw[G9,deps,eV l];simp[T.dep]
def ia:T->T->Prop
 | .tup _,.tup _=>False
 | .lst _,.lst _=>False
 | .lst _,.scr _=>False
 | .scr _,.lst _=>False
 | .scr _,.scr _=>False
 | _,_=>True
theorem pV (A:HF)(s:GX)(x y:T)(u v:GZ)(hn:ia x y)(hu:A.units<cLine)(rx:ReV s x u)(ry:ReV s y v):EqAt A s u v (bP x y)/\RcAt A s u v (bP x y)/\RcNeAt A s u v (!bP x y):=by
 match x,y,hn,rx,ry with
 | .dct _ _,_,_,rx,_=>exact(by unfold ReV at rx;exact rx:False).elim
 | .ob _ _ _,_,_,rx,_=>exact(by unfold ReV at rx;exact rx:False).elim
 | _,.dct _ _,_,_,ry=>exact(by unfold ReV at ry;exact ry:False).elim
 | _,.ob _ _ _,_,_,ry=>exact(by unfold ReV at ry;exact ry:False).elim
 | .non,.non,hn,rx,ry=>
  obtain rfl:u=HQ:=by unfold ReV at rx;exact rx
  obtain rfl:v=HQ:=by unfold ReV at ry;exact ry
  exact⟨EqAt.same _,RcAt.none_none ,RcNeAt.none_none ⟩
 | .non,.bl b2,hn,rx,ry=>
  obtain rfl:u=HQ:=by unfold ReV at rx;exact rx
  obtain rfl:v=Ia b2:=by unfold ReV at ry;exact ry
  exact⟨EqAt.none_bool b2,RcAt.none_bool b2,RcNeAt.none_bool b2⟩
 | .non,.int i2,hn,rx,ry=>
  obtain rfl:u=HQ:=by unfold ReV at rx;exact rx
  obtain⟨k2,rfl⟩:∃k,v=Ji i2 k:=by unfold ReV at ry;exact ry
  exact⟨EqAt.none_int i2 k2,RcAt.none_int i2 k2,RcNeAt.none_int i2 k2⟩
 | .non,.str x2,hn,rx,ry=>
  obtain rfl:u=HQ:=by unfold ReV at rx;exact rx
  obtain⟨k2,rfl⟩:∃k,v=IG x2 k:=by unfold ReV at ry;exact ry
  exact⟨EqAt.none_str x2 k2,RcAt.none_str x2 k2,RcNeAt.none_str x2 k2⟩
 | .non,.tup l2,hn,rx,ry=>
  obtain rfl:u=HQ:=by unfold ReV at rx;exact rx
  unfold ReV at ry;obtain⟨a2,us2,rfl,h2,q2⟩:=ry
  exact⟨EqAt.none_tuple h2 hu,RcAt.none_tuple h2 hu,RcNeAt.none_tuple h2 hu⟩
 | .non,.lst l2,hn,rx,ry=>
  obtain rfl:u=HQ:=by unfold ReV at rx;exact rx
  unfold ReV at ry;obtain⟨a2,us2,rfl,h2,q2⟩:=ry
  exact⟨EqAt.none_list h2 hu,RcAt.none_list h2 hu,RcNeAt.none_list h2 hu⟩
 | .non,.scr l2,hn,rx,ry=>
  obtain rfl:u=HQ:=by unfold ReV at rx;exact rx
  unfold ReV at ry;obtain⟨a2,us2,rfl,h2,q2⟩:=ry
  exact⟨EqAt.none_list h2 hu,RcAt.none_list h2 hu,RcNeAt.none_list h2 hu⟩
 | .bl b1,.non,hn,rx,ry=>
  obtain rfl:u=Ia b1:=by unfold ReV at rx;exact rx
  obtain rfl:v=HQ:=by unfold ReV at ry;exact ry
  exact⟨EqAt.bool_none b1,RcAt.bool_none b1,RcNeAt.bool_none b1⟩
 | .bl b1,.bl b2,hn,rx,ry=>
  obtain rfl:u=Ia b1:=by unfold ReV at rx;exact rx
  obtain rfl:v=Ia b2:=by unfold ReV at ry;exact ry
  exact⟨EqAt.bool_bool b1 b2,RcAt.bool_bool b1 b2,RcNeAt.bool_bool b1 b2⟩
 | .bl b1,.int i2,hn,rx,ry=>
  obtain rfl:u=Ia b1:=by unfold ReV at rx;exact rx
  obtain⟨k2,rfl⟩:∃k,v=Ji i2 k:=by unfold ReV at ry;exact ry
  exact⟨EqAt.bool_int b1 i2 k2,RcAt.bool_int b1 i2 k2,RcNeAt.bool_int b1 i2 k2⟩
 | .bl b1,.str x2,hn,rx,ry=>
  obtain rfl:u=Ia b1:=by unfold ReV at rx;exact rx
  obtain⟨k2,rfl⟩:∃k,v=IG x2 k:=by unfold ReV at ry;exact ry
  exact⟨EqAt.bool_str b1 x2 k2,RcAt.bool_str b1 x2 k2,RcNeAt.bool_str b1 x2 k2⟩
 | .bl b1,.tup l2,hn,rx,ry=>
  obtain rfl:u=Ia b1:=by unfold ReV at rx;exact rx
  unfold ReV at ry;obtain⟨a2,us2,rfl,h2,q2⟩:=ry
  exact⟨EqAt.bool_tuple b1 h2 hu,RcAt.bool_tuple b1 h2 hu,RcNeAt.bool_tuple b1 h2 hu⟩
 | .bl b1,.lst l2,hn,rx,ry=>
  obtain rfl:u=Ia b1:=by unfold ReV at rx;exact rx
  unfold ReV at ry;obtain⟨a2,us2,rfl,h2,q2⟩:=ry
  exact⟨EqAt.bool_list b1 h2 hu,RcAt.bool_list b1 h2 hu,RcNeAt.bool_list b1 h2 hu⟩
 | .bl b1,.scr l2,hn,rx,ry=>
  obtain rfl:u=Ia b1:=by unfold ReV at rx;exact rx
  unfold ReV at ry;obtain⟨a2,us2,rfl,h2,q2⟩:=ry
  exact⟨EqAt.bool_list b1 h2 hu,RcAt.bool_list b1 h2 hu,RcNeAt.bool_list b1 h2 hu⟩
 | .int i1,.non,hn,rx,ry=>
  obtain⟨k1,rfl⟩:∃k,u=Ji i1 k:=by unfold ReV at rx;exact rx
  obtain rfl:v=HQ:=by unfold ReV at ry;exact ry
  exact⟨EqAt.int_none i1 k1,RcAt.int_none i1 k1,RcNeAt.int_none i1 k1⟩
 | .int i1,.bl b2,hn,rx,ry=>
  obtain⟨k1,rfl⟩:∃k,u=Ji i1 k:=by unfold ReV at rx;exact rx
  obtain rfl:v=Ia b2:=by unfold ReV at ry;exact ry
  exact⟨EqAt.int_bool i1 k1 b2,RcAt.int_bool i1 k1 b2,RcNeAt.int_bool i1 k1 b2⟩
 | .int i1,.int i2,hn,rx,ry=>
  obtain⟨k1,rfl⟩:∃k,u=Ji i1 k:=by unfold ReV at rx;exact rx
  obtain⟨k2,rfl⟩:∃k,v=Ji i2 k:=by unfold ReV at ry;exact ry
  exact⟨EqAt.int_int i1 k1 i2 k2,RcAt.int_int i1 k1 i2 k2,RcNeAt.int_int i1 k1 i2 k2⟩
 | .int i1,.str x2,hn,rx,ry=>
  obtain⟨k1,rfl⟩:∃k,u=Ji i1 k:=by unfold ReV at rx;exact rx
  obtain⟨k2,rfl⟩:∃k,v=IG x2 k:=by unfold ReV at ry;exact ry
  exact⟨EqAt.int_str i1 k1 x2 k2,RcAt.int_str i1 k1 x2 k2,RcNeAt.int_str i1 k1 x2 k2⟩
 | .int i1,.tup l2,hn,rx,ry=>
  obtain⟨k1,rfl⟩:∃k,u=Ji i1 k:=by unfold ReV at rx;exact rx
  unfold ReV at ry;obtain⟨a2,us2,rfl,h2,q2⟩:=ry
  exact⟨EqAt.int_tuple i1 k1 h2 hu,RcAt.int_tuple i1 k1 h2 hu,RcNeAt.int_tuple i1 k1 h2 hu⟩
 | .int i1,.lst l2,hn,rx,ry=>
  obtain⟨k1,rfl⟩:∃k,u=Ji i1 k:=by unfold ReV at rx;exact rx
  unfold ReV at ry;obtain⟨a2,us2,rfl,h2,q2⟩:=ry
  exact⟨EqAt.int_list i1 k1 h2 hu,RcAt.int_list i1 k1 h2 hu,RcNeAt.int_list i1 k1 h2 hu⟩
 | .int i1,.scr l2,hn,rx,ry=>
  obtain⟨k1,rfl⟩:∃k,u=Ji i1 k:=by unfold ReV at rx;exact rx
  unfold ReV at ry;obtain⟨a2,us2,rfl,h2,q2⟩:=ry
  exact⟨EqAt.int_list i1 k1 h2 hu,RcAt.int_list i1 k1 h2 hu,RcNeAt.int_list i1 k1 h2 hu⟩
 | .str x1,.non,hn,rx,ry=>
  obtain⟨k1,rfl⟩:∃k,u=IG x1 k:=by unfold ReV at rx;exact rx
  obtain rfl:v=HQ:=by unfold ReV at ry;exact ry
  exact⟨EqAt.str_none x1 k1,RcAt.str_none x1 k1,RcNeAt.str_none x1 k1⟩
 | .str x1,.bl b2,hn,rx,ry=>
  obtain⟨k1,rfl⟩:∃k,u=IG x1 k:=by unfold ReV at rx;exact rx
  obtain rfl:v=Ia b2:=by unfold ReV at ry;exact ry
  exact⟨EqAt.str_bool x1 k1 b2,RcAt.str_bool x1 k1 b2,RcNeAt.str_bool x1 k1 b2⟩
 | .str x1,.int i2,hn,rx,ry=>
  obtain⟨k1,rfl⟩:∃k,u=IG x1 k:=by unfold ReV at rx;exact rx
  obtain⟨k2,rfl⟩:∃k,v=Ji i2 k:=by unfold ReV at ry;exact ry
  exact⟨EqAt.str_int x1 k1 i2 k2,RcAt.str_int x1 k1 i2 k2,RcNeAt.str_int x1 k1 i2 k2⟩
 | .str x1,.str x2,hn,rx,ry=>
  obtain⟨k1,rfl⟩:∃k,u=IG x1 k:=by unfold ReV at rx;exact rx
  obtain⟨k2,rfl⟩:∃k,v=IG x2 k:=by unfold ReV at ry;exact ry
  exact⟨EqAt.str_str x1 k1 x2 k2,RcAt.str_str x1 k1 x2 k2,RcNeAt.str_str x1 k1 x2 k2⟩
 | .str x1,.tup l2,hn,rx,ry=>
  obtain⟨k1,rfl⟩:∃k,u=IG x1 k:=by unfold ReV at rx;exact rx
  unfold ReV at ry;obtain⟨a2,us2,rfl,h2,q2⟩:=ry
  exact⟨EqAt.str_tuple x1 k1 h2 hu,RcAt.str_tuple x1 k1 h2 hu,RcNeAt.str_tuple x1 k1 h2 hu⟩
 | .str x1,.lst l2,hn,rx,ry=>
  obtain⟨k1,rfl⟩:∃k,u=IG x1 k:=by unfold ReV at rx;exact rx
  unfold ReV at ry;obtain⟨a2,us2,rfl,h2,q2⟩:=ry
  exact⟨EqAt.str_list x1 k1 h2 hu,RcAt.str_list x1 k1 h2 hu,RcNeAt.str_list x1 k1 h2 hu⟩
 | .str x1,.scr l2,hn,rx,ry=>
  obtain⟨k1,rfl⟩:∃k,u=IG x1 k:=by unfold ReV at rx;exact rx
  unfold ReV at ry;obtain⟨a2,us2,rfl,h2,q2⟩:=ry
  exact⟨EqAt.str_list x1 k1 h2 hu,RcAt.str_list x1 k1 h2 hu,RcNeAt.str_list x1 k1 h2 hu⟩
 | .tup l1,.non,hn,rx,ry=>
  unfold ReV at rx;obtain⟨a1,us1,rfl,h1,q1⟩:=rx;obtain rfl:v=HQ:=by unfold ReV at ry;exact ry
  exact⟨EqAt.tuple_none h1 hu,RcAt.tuple_none h1 hu,RcNeAt.tuple_none h1 hu⟩
 | .tup l1,.bl b2,hn,rx,ry=>
  unfold ReV at rx;obtain⟨a1,us1,rfl,h1,q1⟩:=rx;obtain rfl:v=Ia b2:=by unfold ReV at ry;exact ry
  exact⟨EqAt.tuple_bool b2 h1 hu,RcAt.tuple_bool b2 h1 hu,RcNeAt.tuple_bool b2 h1 hu⟩
 | .tup l1,.int i2,hn,rx,ry=>
  unfold ReV at rx;obtain⟨a1,us1,rfl,h1,q1⟩:=rx;obtain⟨k2,rfl⟩:∃k,v=Ji i2 k:=by unfold ReV at ry;exact ry
  exact⟨EqAt.tuple_int i2 k2 h1 hu,RcAt.tuple_int i2 k2 h1 hu,RcNeAt.tuple_int i2 k2 h1 hu⟩
 | .tup l1,.str x2,hn,rx,ry=>
  unfold ReV at rx;obtain⟨a1,us1,rfl,h1,q1⟩:=rx;obtain⟨k2,rfl⟩:∃k,v=IG x2 k:=by unfold ReV at ry;exact ry
  exact⟨EqAt.tuple_str x2 k2 h1 hu,RcAt.tuple_str x2 k2 h1 hu,RcNeAt.tuple_str x2 k2 h1 hu⟩
 | .tup _,.tup _,hn,_,_=>exact hn.elim
 | .tup l1,.lst l2,hn,rx,ry=>
  unfold ReV at rx;obtain⟨a1,us1,rfl,h1,q1⟩:=rx;unfold ReV at ry;obtain⟨a2,us2,rfl,h2,q2⟩:=ry
  exact⟨EqAt.tuple_list h1 h2 hu,RcAt.tuple_list h1 h2 hu,RcNeAt.tuple_list h1 h2 hu⟩
 | .tup l1,.scr l2,hn,rx,ry=>
  unfold ReV at rx;obtain⟨a1,us1,rfl,h1,q1⟩:=rx;unfold ReV at ry;obtain⟨a2,us2,rfl,h2,q2⟩:=ry
  exact⟨EqAt.tuple_list h1 h2 hu,RcAt.tuple_list h1 h2 hu,RcNeAt.tuple_list h1 h2 hu⟩
 | .lst l1,.non,hn,rx,ry=>
  unfold ReV at rx;obtain⟨a1,us1,rfl,h1,q1⟩:=rx;obtain rfl:v=HQ:=by unfold ReV at ry;exact ry
  exact⟨EqAt.list_none h1 hu,RcAt.list_none h1 hu,RcNeAt.list_none h1 hu⟩
 | .lst l1,.bl b2,hn,rx,ry=>
  unfold ReV at rx;obtain⟨a1,us1,rfl,h1,q1⟩:=rx;obtain rfl:v=Ia b2:=by unfold ReV at ry;exact ry
  exact⟨EqAt.list_bool b2 h1 hu,RcAt.list_bool b2 h1 hu,RcNeAt.list_bool b2 h1 hu⟩
 | .lst l1,.int i2,hn,rx,ry=>
  unfold ReV at rx;obtain⟨a1,us1,rfl,h1,q1⟩:=rx;obtain⟨k2,rfl⟩:∃k,v=Ji i2 k:=by unfold ReV at ry;exact ry
  exact⟨EqAt.list_int i2 k2 h1 hu,RcAt.list_int i2 k2 h1 hu,RcNeAt.list_int i2 k2 h1 hu⟩
 | .lst l1,.str x2,hn,rx,ry=>
  unfold ReV at rx;obtain⟨a1,us1,rfl,h1,q1⟩:=rx;obtain⟨k2,rfl⟩:∃k,v=IG x2 k:=by unfold ReV at ry;exact ry
  exact⟨EqAt.list_str x2 k2 h1 hu,RcAt.list_str x2 k2 h1 hu,RcNeAt.list_str x2 k2 h1 hu⟩
 | .lst l1,.tup l2,hn,rx,ry=>
  unfold ReV at rx;obtain⟨a1,us1,rfl,h1,q1⟩:=rx;unfold ReV at ry;obtain⟨a2,us2,rfl,h2,q2⟩:=ry
  exact⟨EqAt.list_tuple h1 h2 hu,RcAt.list_tuple h1 h2 hu,RcNeAt.list_tuple h1 h2 hu⟩
 | .lst _,.lst _,hn,_,_=>exact hn.elim
 | .lst _,.scr _,hn,_,_=>exact hn.elim
 | .scr l1,.non,hn,rx,ry=>
  unfold ReV at rx;obtain⟨a1,us1,rfl,h1,q1⟩:=rx;obtain rfl:v=HQ:=by unfold ReV at ry;exact ry
  exact⟨EqAt.list_none h1 hu,RcAt.list_none h1 hu,RcNeAt.list_none h1 hu⟩
 | .scr l1,.bl b2,hn,rx,ry=>
  unfold ReV at rx;obtain⟨a1,us1,rfl,h1,q1⟩:=rx;obtain rfl:v=Ia b2:=by unfold ReV at ry;exact ry
  exact⟨EqAt.list_bool b2 h1 hu,RcAt.list_bool b2 h1 hu,RcNeAt.list_bool b2 h1 hu⟩
 | .scr l1,.int i2,hn,rx,ry=>
  unfold ReV at rx;obtain⟨a1,us1,rfl,h1,q1⟩:=rx;obtain⟨k2,rfl⟩:∃k,v=Ji i2 k:=by unfold ReV at ry;exact ry
  exact⟨EqAt.list_int i2 k2 h1 hu,RcAt.list_int i2 k2 h1 hu,RcNeAt.list_int i2 k2 h1 hu⟩
 | .scr l1,.str x2,hn,rx,ry=>
  unfold ReV at rx;obtain⟨a1,us1,rfl,h1,q1⟩:=rx;obtain⟨k2,rfl⟩:∃k,v=IG x2 k:=by unfold ReV at ry;exact ry
  exact⟨EqAt.list_str x2 k2 h1 hu,RcAt.list_str x2 k2 h1 hu,RcNeAt.list_str x2 k2 h1 hu⟩
 | .scr l1,.tup l2,hn,rx,ry=>
  unfold ReV at rx;obtain⟨a1,us1,rfl,h1,q1⟩:=rx;unfold ReV at ry;obtain⟨a2,us2,rfl,h2,q2⟩:=ry
  exact⟨EqAt.list_tuple h1 h2 hu,RcAt.list_tuple h1 h2 hu,RcNeAt.list_tuple h1 h2 hu⟩
 | .scr _,.lst _,hn,_,_=>exact hn.elim
 | .scr _,.scr _,hn,_,_=>exact hn.elim
theorem EZ:∀(n:Nat) (A:HF) (s:GX) (x y:T) (u v:GZ),(x.dep<=n\/y.dep<=n)->A.units+n<cLine->ReV s x u->ReV s y v->EqAt A s u v (bP x y)/\RcAt A s u v (bP x y)/\RcNeAt A s u v (!bP x y):=by
 intro n
 induction n with
 | zero=>
  intro A s x y u v hd hu rx ry
  exact pV A s x y u v (by cases x <;> cases y <;> simp_all [ia,T.dep]) (by omega) rx ry
 | succ n ih=>
  intro A s x y u v hd hu rx ry
  have hin:A.in1.units+n<cLine:=by show A.units+1+n<cLine;omega
  have items:∀(l m:List T) (us vs:List GZ),(deps l<=n\/deps m<=n)->ReVs s l us->ReVs s m vs->∃e:Nat->Bool,(∀j (h1:j<us.toArray.size) (h2:j<vs.toArray.size),EqAt A.in1 s us.toArray[j] vs.toArray[j] (e j)) ∧
    (∀(j:Nat) t u,l[j]? =some t->m[j]? =some u->e j=bP t u):=λl m us vs hd r1 r2=>by
   refine⟨λj=>bP (l.getD j .non) (m.getD j .non),λj h1 h2=> ?_,λj t u e1 e2=>by simp[List.getD,e1,e2]⟩
   have l1:=r1.length
   have l2:=r2.length
   have h1':j<l.length:=by rw[l1];simpa using h1
   have h2':j<m.length:=by rw[l2];simpa using h2
   have e1:l[j]? =some l[j]:=by simp
   have e2:m[j]? =some m[j]:=by simp
   obtain⟨u1,z1,w1⟩:=r1.get e1;obtain⟨u2,z2,w2⟩:=r2.get e2
   have q1:us.toArray[j] =u1:=by
    have:us[j]? =some us.toArray[j]:=by simp
    rw[z1]at this;exact(HW this).symm
   have q2:vs.toArray[j] =u2:=by
    have:vs[j]? =some vs.toArray[j]:=by simp
    rw[z2]at this;exact(HW this).symm
   rw[q1,q2]
   have g1:l.getD j .non=l[j]:=by simp[List.getD,e1]
   have g2:m.getD j .non=m[j]:=by simp[List.getD,e2]
   show EqAt A.in1 s u1 u2 (bP (l.getD j .non) (m.getD j .non))
   rw[g1,g2];refine(ih A.in1 s l[j] m[j] u1 u2 ?_ hin w1 w2).1
   rcases hd with hd | hd
   ·exact .inl (Hz (lI e1) hd)
   ·exact .inr (Hz (lI e2) hd)
  have lists:∀(l m:List T) (a b:Addr) (us vs:List GZ),(deps l<=n\/deps m<=n)->ReVs s l us->ReVs s m vs->s.heap.IsList a us.toArray->s.heap.IsList b vs.toArray →
    EqAt A s (.ref a) (.ref b) (beqTs l m)/\RcAt A s (.ref a) (.ref b) (beqTs l m)/\RcNeAt A s (.ref a) (.ref b) (!beqTs l m):=λl m a b us vs hd r1 r2 h1 h2=>by
   have l1:=r1.length
   have l2:=r2.length
   have key:RcAt A s (.ref a) (.ref b) (beqTs l m)/\RcNeAt A s (.ref a) (.ref b) (!beqTs l m):=by
    by_cases hl:l.length=m.length
    ·obtain⟨e,he,hb⟩:=items l m us vs hd r1 r2
     have q:=jY l m e hb
     have q2:beqTs l m=(Io us.toArray.size).all e:=by
      rw[q,hl,Nat.min_self];simp[l2.symm,hl.symm,l1]
     rw[q2]
     have hsz:us.toArray.size=vs.toArray.size:=by simp;omega
     exact⟨RcAt.lists h1 h2 hsz (by omega) he,RcNeAt.lists h1 h2 hsz (by omega) he⟩
    ·rw[ni hl]
     have hsz:(us.toArray.size != vs.toArray.size)=true:=by simp;omega
     exact⟨RcAt.lists_lengths h1 h2 hsz (by omega),RcNeAt.lists_lengths h1 h2 hsz (by omega)⟩
   refine⟨?_,key⟩
   by_cases hab:a=b
   ·subst hab
    have:=cw h1 h2;subst this;rw[ReVs.refl r1 r2];exact EqAt.same _
   ·exact EqAt.of_refs hab key.1
  cases x with
  | tup l=>
   cases y with
   | tup m=>
    unfold ReV at rx ry;obtain⟨a,us,rfl,h1,r1⟩:=rx;obtain⟨b,vs,rfl,h2,r2⟩:=ry
    have hd':deps l<=n\/deps m<=n:=by
     simp only[T.dep]at hd;omega
    have l1:=r1.length
    have l2:=r2.length;obtain⟨e,he,hb⟩:=items l m us vs hd' r1 r2
    have q:=jY l m e hb
    have q2:beqTs l m=((Io (min us.toArray.size vs.toArray.size)).all e&&us.toArray.size == vs.toArray.size):=by
     rw[q];simp[l1,l2]
    have key:RcAt A s (.ref a) (.ref b) (beqTs l m)/\RcNeAt A s (.ref a) (.ref b) (!beqTs l m):=by
     rw[q2];exact⟨RcAt.tuples h1 h2 (by omega) he,RcNeAt.tuples h1 h2 (by omega) he⟩
    unfold bP;refine⟨?_,key⟩
    by_cases hab:a=b
    ·subst hab
     have:=gQ h1 h2;subst this;rw[ReVs.refl r1 r2];exact EqAt.same _
    ·exact EqAt.of_refs hab key.1
   | _=>exact pV A s _ _ u v (by simp[ia]) (by omega) rx ry
  | lst l=>
   cases y with
   | lst m=>
    unfold ReV at rx ry;obtain⟨a,us,rfl,h1,r1⟩:=rx;obtain⟨b,vs,rfl,h2,r2⟩:=ry;unfold bP
    exact lists l m a b us vs (by simp only[T.dep]at hd;omega) r1 r2 h1 h2
   | scr m=>
    unfold ReV at rx ry;obtain⟨a,us,rfl,h1,r1⟩:=rx;obtain⟨b,vs,rfl,h2,r2⟩:=ry;unfold bP
    exact lists l (m.map T.int) a b us vs (by rw[eV];omega) r1 (dR r2) h1 h2
   | _=>exact pV A s _ _ u v (by simp[ia]) (by omega) rx ry
  | scr l=>
   cases y with
   | lst m=>
    unfold ReV at rx ry;obtain⟨a,us,rfl,h1,r1⟩:=rx;obtain⟨b,vs,rfl,h2,r2⟩:=ry;unfold bP;rw[qf]
    exact lists (l.map T.int) m a b us vs (by rw[eV];omega) (dR r1) r2 h1 h2
   | scr m=>
    unfold ReV at rx ry;obtain⟨a,us,rfl,h1,r1⟩:=rx;obtain⟨b,vs,rfl,h2,r2⟩:=ry;unfold bP;rw[rO]
    exact lists (l.map T.int) (m.map T.int) a b us vs (by rw[eV];omega) (dR r1) (dR r2) h1 h2
   | _=>exact pV A s _ _ u v (by simp[ia]) (by omega) rx ry
  | _=>exact pV A s _ _ u v (by simp[ia]) (by omega) rx ry
mutual
def T.nf:T->T
 | .tup l=> .tup (nfs l)
 | .lst l=> .lst (nfs l)
 | .scr l=> .lst (l.map .int)
 | .non=> .non
 | .bl b=> .bl b
 | .int b=> .int b
 | .str b=> .str b
 | .dct a b=> .dct a b
 | .ob a b c=> .ob a b c
def nfs:List T->List T
 | [] => []
 | t::l=>t.nf::nfs l
end
theorem pH:∀(l:List Int),nfs (l.map T.int)=l.map T.int
 | [] =>rfl
 | i::l=>by rw[G9,nfs,pH l];simp[T.nf]
theorem Cp {s:GX}{t:T}{i:Int}{k:Tok}(r:ReV s t (.int i k)):t.nf= .int i:=by
 cases t with
 | non=>unfold ReV at r;cases r
 | bl b=>unfold ReV at r;cases r
 | int j=>unfold ReV at r;obtain⟨t,e⟩:=r;injection e with e1 _;subst e1;rfl
 | str x=>unfold ReV at r;obtain⟨t,e⟩:=r;cases e
 | tup l=>unfold ReV at r;obtain⟨a,its,e,_⟩:=r;cases e
 | lst l=>unfold ReV at r;obtain⟨a,its,e,_⟩:=r;cases e
 | scr l=>unfold ReV at r;obtain⟨a,its,e,_⟩:=r;cases e
 | dct _ _=>unfold ReV at r;exact r.elim
 | ob _ _ _=>unfold ReV at r;exact r.elim
theorem sC {s:GX}:∀{l:List T} {us:List GZ} {ns:List Int},ReVs s l us->LQ us ns->nfs l=ns.map T.int
 | [],us,ns,r,h=>by cases ReVs.Da.mp r;cases h;rfl
 | t::l,us,ns,r,h=>by
  obtain⟨u,ws,rfl,p,q⟩:=ReVs.AC.mp r
  cases h with
  | cons a b hh=>rw[nfs,Cp p,sC q hh];rfl
mutual
theorem ReV.nf {s:GX}:∀{t u:T} {v:GZ},ReV s t v->ReV s u v->t.nf=u.nf
 | .non,u,v,r,q=>by
  unfold ReV at r;subst r
  cases u <;> (unfold ReV at q) <;> first | rfl | (cases q;done) | (obtain⟨_,e⟩:=q;cases e;done) | (obtain⟨_,_,e,_⟩:=q;cases e;done)
 | .bl b,u,v,r,q=>by
  unfold ReV at r;subst r
  cases u <;> (unfold ReV at q) <;> first | (cases q;done) | (cases q;rfl) | (obtain⟨_,e⟩:=q;cases e;done) | (obtain⟨_,_,e,_⟩:=q;cases e;done)
 | .int b,u,v,r,q=>by
  unfold ReV at r;obtain⟨k,rfl⟩:=r
  cases u <;> (unfold ReV at q) <;> first | (cases q;done) | (obtain⟨_,e⟩:=q;cases e;done) | (obtain⟨_,e⟩:=q;cases e;rfl) | (obtain⟨_,_,e,_⟩:=q;cases e;done)
 | .str b,u,v,r,q=>by
  unfold ReV at r;obtain⟨k,rfl⟩:=r
  cases u <;> (unfold ReV at q) <;> first | (cases q;done) | (obtain⟨_,e⟩:=q;cases e;done) | (obtain⟨_,e⟩:=q;cases e;rfl) | (obtain⟨_,_,e,_⟩:=q;cases e;done)
 | .tup l,u,v,r,q=>by
  unfold ReV at r;obtain⟨a,its,rfl,h1,h2⟩:=r
  cases u with
  | non=>unfold ReV at q;cases q
  | dct _ _=>unfold ReV at q;exact q.elim
  | ob _ _ _=>unfold ReV at q;exact q.elim
  | bl _=>unfold ReV at q;cases q
  | int _=>unfold ReV at q;obtain⟨_,e⟩:=q;cases e
  | str _=>unfold ReV at q;obtain⟨_,e⟩:=q;cases e
  | tup m=>
   unfold ReV at q;obtain⟨a',its',e,h1',h2'⟩:=q;injection e with e;subst e
   have:=gQ h1 h1';subst this;unfold T.nf
   rw[ReVs.nf h2 h2']
  | lst m=>unfold ReV at q;obtain⟨a',its',e,h1',h2'⟩:=q;injection e with e;subst e;exact absurd rfl (ne_of_list_tuple h1' h1)
  | scr m=>unfold ReV at q;obtain⟨a',its',e,h1',h2'⟩:=q;injection e with e;subst e;exact absurd rfl (ne_of_list_tuple h1' h1)
 | .lst l,u,v,r,q=>by
  unfold ReV at r;obtain⟨a,its,rfl,h1,h2⟩:=r
  cases u with
  | non=>unfold ReV at q;cases q
  | dct _ _=>unfold ReV at q;exact q.elim
  | ob _ _ _=>unfold ReV at q;exact q.elim
  | bl _=>unfold ReV at q;cases q
  | int _=>unfold ReV at q;obtain⟨_,e⟩:=q;cases e
  | str _=>unfold ReV at q;obtain⟨_,e⟩:=q;cases e
  | lst m=>
   unfold ReV at q;obtain⟨a',its',e,h1',h2'⟩:=q;injection e with e;subst e
   have:=cw h1 h1';subst this;unfold T.nf
   rw[ReVs.nf h2 h2']
  | tup m=>unfold ReV at q;obtain⟨a',its',e,h1',h2'⟩:=q;injection e with e;subst e;exact absurd rfl (ne_of_list_tuple h1 h1')
  | scr m=>
   unfold ReV at q;obtain⟨a',its',e,h1',h2'⟩:=q;injection e with e;subst e
   have:=cw h1 h1';subst this;unfold T.nf
   rw[ReVs.nf h2 (dR h2'),pH]
 | .scr l,u,v,r,q=>by
  unfold ReV at r;obtain⟨a,its,rfl,h1,h2⟩:=r
  cases u with
  | non=>unfold ReV at q;cases q
  | dct _ _=>unfold ReV at q;exact q.elim
  | ob _ _ _=>unfold ReV at q;exact q.elim
  | bl _=>unfold ReV at q;cases q
  | int _=>unfold ReV at q;obtain⟨_,e⟩:=q;cases e
  | str _=>unfold ReV at q;obtain⟨_,e⟩:=q;cases e
  | lst m=>
   unfold ReV at q;obtain⟨a',its',e,h1',h2'⟩:=q;injection e with e;subst e
   have:=cw h1 h1';subst this
   have z:=sC h2' h2;unfold T.nf
   rw[z]
  | tup m=>unfold ReV at q;obtain⟨a',its',e,h1',h2'⟩:=q;injection e with e;subst e;exact absurd rfl (ne_of_list_tuple h1 h1')
  | scr m=>
   unfold ReV at q;obtain⟨a',its',e,h1',h2'⟩:=q;injection e with e;subst e
   have:=cw h1 h1';subst this
   rw[gR h2 h2']
 | .dct _ _,u,v,r,q=>by unfold ReV at r;exact r.elim
 | .ob _ _ _,u,v,r,q=>by unfold ReV at r;exact r.elim
theorem ReVs.nf {s:GX}:∀{l m:List T} {us:List GZ},ReVs s l us->ReVs s m us->nfs l=nfs m
 | [],m,us,r,q=>by
  cases ReVs.Da.mp r
  cases m with
  | nil=>rfl
  | cons _ _=>obtain⟨_,_,e,_⟩:=ReVs.AC.mp q;cases e
 | t::l,m,us,r,q=>by
  obtain⟨v,ws,rfl,p,z⟩:=ReVs.AC.mp r
  cases m with
  | nil=>cases ReVs.Da.mp q
  | cons u m=>
   obtain⟨v',ws',e,p',z'⟩:=ReVs.AC.mp q;injection e with e1 e2
   subst e1 e2;rw[nfs,nfs,ReV.nf p p',ReVs.nf z z']
end
section
variable {X:Cx}{a b c:Expr}{fa fb fc:En->Rs T}{pos:Pos}
def fY (x y:T):Bool:=(decide (x.dep<=60)||decide (y.dep<=60))&&(x.nd&&y.nd)
def eqT (x y:T):Rs T:=if fY x y=true then .ok (.bl (bP x y))else .bad
def neT (x y:T):Rs T:=if fY x y=true then .ok (.bl (!bP x y))else .bad
theorem dM {x y:T}(h:x.dep<=60)(hx:x.nd=true)(hy:y.nd=true):fY x y=true:=by unfold fY;rw[decide_eq_true h,hx,hy];rfl
theorem ik {x y:T}(h:fY x y=true):x.nd=true/\y.nd=true:=by
 unfold fY at h;exact HY.mp (HY.mp h).2
theorem mY {x y:T}(h:fY x y=true):x.dep<=60\/y.dep<=60:=by
 unfold fY at h
 replace h:=(HY.mp h).1
 rcases Bool.or_eq_true_iff.mp h with h | h
 ·exact .inl (of_decide_eq_true h)
 ·exact .inr (of_decide_eq_true h)
theorem ka (hu:X.A.units+60<cLine):OpT X (Iw .Eq) eqT:=by
 intro pins s σ H O x y vx vy ux uy Q I hf rx ry r1 r2 hp;unfold eqT at hp
 split at hp
 ·rename_i h
  have z:=EZ 60 X.A s x y ux uy (mY h) hu (Rep.val I (ik h).1 rx r1) (Rep.val I (ik h).2 ry r2);exact z.2.1 _ _ _ _ ⟨.bl _,H,I,rfl,hp H (Same.refl H) _ (Rep.bl_ _)⟩
 ·exact hp.elim
theorem fL (hu:X.A.units+60<cLine):OpT X (Iw .NotEq) neT:=by
 intro pins s σ H O x y vx vy ux uy Q I hf rx ry r1 r2 hp;unfold neT at hp
 split at hp
 ·rename_i h
  have z:=EZ 60 X.A s x y ux uy (mY h) hu (Rep.val I (ik h).1 rx r1) (Rep.val I (ik h).2 ry r2);exact z.2.2 _ _ _ _ ⟨.bl _,H,I,rfl,hp H (Same.refl H) _ (Rep.bl_ _)⟩
 ·exact hp.elim
def T.items:T->Option (List T)
 | .tup l=>some l
 | .lst l=>some l
 | .scr l=>some (l.map T.int)
 | _=>none
def ch (g g':T->T->Rs T)(fa fb fc:En->Rs T)(ρ:En):Rs T:=do
 let x <-fa ρ
 let y <-fb ρ
 let z <-g x y
 match z with
 | .bl true=>do
  let w <-fc ρ
  g' y w
 | .bl false=> .ok (.bl false)
 | _=> .bad
theorem yG {op op':O0}{g g':T->T->Rs T}(ho:OpT X (Iw op) g)(ho':OpT X (Iw op') g')(ha:cR X a fa)(hb:cR X b fb)(hc:cR X c fc)
  (hm:autoParam (lastMarks [op,op'] [b,c] =false) w_):cR X (.Compare a [op,op'] [b,c] pos) (ch g g' fa fb fc):=by
 intro pins s σ H Q I ⟨ρ,O,E,hq⟩
 have h1:=aR E hq;refine Compare_chain (bJ (ha pins s σ H _ I h1) λv s1 ⟨x,H1,I1,r1,t,rt,s',E',q1⟩=>chain_link ?_) hm
 have h2:=aR (f:=fb) E' q1;refine bJ (hb pins s1 σ H1 _ I1 h2) λu s2 hh_=> ?_
 obtain⟨y,H2,I2,r2,t2,rt2,s'',E'',q2⟩:=hh_
 refine bJ (ho pins s2 σ H2 O t t2 x y v u (λv' H'=> ∃t',Rep X.K O H' t' v'/\Same H2 H'/\Post X H' (match t' with
  | .bl true=>fc ρ >>= λw=>g' t2 w
  | .bl false=> .ok (.bl false)
  | _=> .bad) (λt H'=> ∀v,Rep X.K O H' t v->Q v H')) I2 (λp=>E''.fresh) (rt.same s'') rt2 r1 r2 (Post.mono q2.bind λt' H' s3 q v rv=>⟨t',rv,s3,q⟩)) λd s3 ⟨z,H3,I3,r3,t3,rt3,sm3,q3⟩=> ?_
 have E3:=E''.same sm3
 split at q3
 ·cases Rep.FK.mp rt3
  cases r3;refine IC (ite_tt (chain_last ?_))
  have h4:=aR (f:=fc) E3 q3;refine bJ (hc pins s3 σ H3 _ I3 h4) λw' s4 ⟨z',H4,I4,r4,t4,rt4,s4',E4,q4⟩=> ?_
  exact ho' pins s4 σ H4 O t2 t4 y z' u w' Q I4 (λp=>E4.fresh) ((rt2.same sm3).same s4') rt4 r2 r4 q4
 ·cases Rep.FK.mp rt3
  cases r3;refine IC (ite_ff ⟨.bl false,H3,I3,rfl,q3 H3 (Same.refl H3) _ (Rep.bl_ false)⟩)
 ·exact q3.elim
def tb (f:En->Rs T)(ρ:En):Rs Bool:=do
 let x <-f ρ
 match x with
 | .bl k=> .ok k
 | _=> .bad
theorem Bt {e:Expr}{f:En->Rs T}(h:cR X e f)(he:autoParam (∀whole,isTrue e X.env whole=(do let v <-whole;standAt e.pos;holding [v] (truthy v))) t_):xM X e (tb f):=by
 intro pins s σ H Q I ⟨ρ,O,E,hq⟩;refine vK h he pins s σ H Q I ?_
 obtain⟨ρ1,O1,E1,h1⟩:=aR E hq;refine⟨ρ1,O1,E1,Post.mono h1 λts H1 s1 q vs r=> ?_⟩
 obtain⟨t',r',s',E',q'⟩:=q vs r
 split at q'
 ·exact⟨_,Rep.FK.mp r',q' H1 (Same.refl H1)⟩
 ·exact q'.elim
theorem Bv {op:O0}{g:T->T->Rs T}(ho:OpT X (Iw op) g)(ha:cR X a fa)(hb:cR X b fb)(hm:autoParam (Js op b=false) u_):xM X (.Compare a [op] [b] pos) (tb (o2 g fa fb)):=by
 intro pins s σ H Q I ⟨ρ,O,E,hq⟩
 have hq':Post X H (o2 g fa fb ρ) λt H'=> ∀v,Rep X.K O H' t v->∃k,v= .bl k/\Q k H':=Post.mono hq.bind λt H' s' q v r=>by
  split at q
  ·exact⟨_,Rep.FK.mp r,q H' (Same.refl H')⟩
  ·exact q.elim
 have h1:=aR E hq';refine MT (bJ (ha pins s σ H _ I h1) λv s1 ⟨x,H1,I1,r1,t,rt,s',E',q1⟩=> ?_) hm
 have h2:=aR (f:=fb) E' q1;refine bJ (hb pins s1 σ H1 _ I1 h2) λu s2 hh_=> ?_
 obtain⟨y,H2,I2,r2,t2,rt2,s'',E'',q2⟩:=hh_;refine bJ (ho pins s2 σ H2 O t t2 x y v u _ I2 (λp=>E''.fresh) (rt.same s'') rt2 r1 r2 q2) λd s3 hh_=> ?_
 obtain⟨z,H3,I3,r3,k,e,q3⟩:=hh_;subst e;cases r3;exact IC ⟨H3,I3,q3⟩
def kn (f g:En->Rs Bool)(ρ:En):Rs Bool:=do
 let k <-f ρ
 if k then .ok true else g ρ
def dj (f:En->Rs Bool)(ρ:En):Rs Bool:=do
 let k <-f ρ
 .ok (!k)
variable {f g:En->Rs Bool}{a9:List Expr}
abbrev Fm (X:Cx)(e:Expr)(f:En->Rs Bool):Prop:=PW X e (uD X f)
theorem Bs (ha:xM X a f):Fm X (.BoolOp .Or [a] pos) f:=vJ ha
theorem DO (ha:xM X a f)(hb:Fm X (.BoolOp .Or (b::a9) pos) g):Fm X (.BoolOp .Or (a::b::a9) pos) (kn f g):=by
 intro wh pins s σ H Q I ⟨ρ,O,E,hq⟩;refine Ax ha hb wh pins s σ H Q I ?_
 obtain⟨ρ1,O1,E1,h1⟩:=jk E hq;refine⟨ρ1,O1,E1,Post.mono h1 λk H1 s1 q=> ?_⟩
 obtain⟨s',E',q'⟩:=q
 cases k with
 | true=>rw[if_pos rfl];exact q' H1 (Same.refl H1)
 | false=>rw[if_neg Hq];exact⟨ρ,O,E',by simpa using q'⟩
theorem qt_w {e:Expr}(h:Fm X e f):xM X e f:=h.pt
theorem Bu (ha:xM X a f):xM X (.UnaryOp .Not a pos) (dj f):=by
 intro pins s σ H Q I ⟨ρ,O,E,hq⟩;refine vL ha pins s σ H Q I ?_
 obtain⟨ρ1,O1,E1,h1⟩:=jk E hq;exact⟨ρ1,O1,E1,Post.mono h1 λk H1 s1 ⟨s',E',q'⟩=>q' H1 (Same.refl H1)⟩
def bL (f g:En->Rs T)(ρ:En):Rs T:=do
 let x <-f ρ
 match x with
 | .bl true=>g ρ
 | .bl false=> .ok (.bl false)
 | _=> .bad
def Eh (f g:En->Rs T)(ρ:En):Rs T:=do
 let x <-f ρ
 match x with
 | .bl true=> .ok (.bl true)
 | .bl false=>g ρ
 | _=> .bad
def zc:T->Rs T
 | .bl k=> .ok (.bl (!k))
 | _=> .bad
theorem DX {op}(h:cR X a fa):cR X (.BoolOp op [a] pos) fa:=BP h
theorem D9 (ha:cR X a fa)(hb:cR X (.BoolOp .And (b::a9) pos) fb):cR X (.BoolOp .And (a::b::a9) pos) (bL fa fb):=by
 intro pins s σ H Q I ⟨ρ,O,E,hq⟩;refine BU ha hb pins s σ H Q I ?_
 obtain⟨ρ1,O1,E1,h1⟩:=aR E hq;refine⟨ρ1,O1,E1,Post.mono h1 λts H1 s1 q vs r=> ?_⟩
 obtain⟨t',r',s',E',q'⟩:=q vs r
 split at q'
 ·exact⟨true,Rep.FK.mp r',by rw[if_pos rfl];exact⟨ρ,O,E',q'⟩⟩
 ·exact⟨false,Rep.FK.mp r',by rw[if_neg Hq];exact q' H1 (Same.refl H1) _ (Rep.bl_ false)⟩
 ·exact q'.elim
theorem q_or (ha:cR X a fa)(hb:cR X (.BoolOp .Or (b::a9) pos) fb):cR X (.BoolOp .Or (a::b::a9) pos) (Eh fa fb):=by
 intro pins s σ H Q I ⟨ρ,O,E,hq⟩;refine Ed ha hb pins s σ H Q I ?_
 obtain⟨ρ1,O1,E1,h1⟩:=aR E hq;refine⟨ρ1,O1,E1,Post.mono h1 λts H1 s1 q vs r=> ?_⟩
 obtain⟨t',r',s',E',q'⟩:=q vs r
 split at q'
 ·exact⟨true,Rep.FK.mp r',by rw[if_pos rfl];exact q' H1 (Same.refl H1) _ (Rep.bl_ true)⟩
 ·exact⟨false,Rep.FK.mp r',by rw[if_neg Hq];exact⟨ρ,O,E',q'⟩⟩
 ·exact q'.elim
theorem DY (ha:cR X a fa):cR X (.UnaryOp .Not a pos) (o1 zc fa):=by
 intro pins s σ H Q I ⟨ρ,O,E,hq⟩;refine BQ ha pins s σ H Q I ?_
 obtain⟨ρ1,O1,E1,h1⟩:=aR E hq;refine⟨ρ1,O1,E1,Post.mono h1 λts H1 s1 q vs r=> ?_⟩
 obtain⟨t',r',s',E',q'⟩:=q vs r;unfold zc at q'
 split at q'
 ·exact⟨_,Rep.FK.mp r',q' H1 (Same.refl H1) _ (Rep.bl_ _)⟩
 ·exact q'.elim
def Cq (f:En->Rs Bool)(fa fb:En->Rs T)(ρ:En):Rs T:=do
 let k <-f ρ
 if k then fa ρ else fb ρ
theorem q_if (hc:xM X c f)(ha:cR X a fa)(hb:cR X b fb):cR X (.IfExp c a b pos) (Cq f fa fb):=by
 intro pins s σ H Q I ⟨ρ,O,E,hq⟩;refine vX hc ha hb pins s σ H Q I ?_
 obtain⟨ρ1,O1,E1,h1⟩:=jk E hq;refine⟨ρ1,O1,E1,Post.mono h1 λk H1 s1 q=> ?_⟩
 obtain⟨s',E',q'⟩:=q
 cases k with
 | true=>rw[if_pos rfl];exact⟨ρ,O,E',by simpa using q'⟩
 | false=>rw[if_neg Hq];exact⟨ρ,O,E',by simpa using q'⟩
end
end Tr
namespace HT
open PySem PyProof.Rows
section
variable {prog:Hr}{w:HS}{A:HF}{E:GZ->GX->Prop}{s:GX}
theorem iu {t:Addr}{items:Array GZ}{Q:Bool->GX->Prop}(ht:Pa s.heap t items)(h:Q true s):wpAny (model prog w) A (Ls (.ref t)) Q E s:=by
 unfold Ls;refine G1 (LG ht.typeIs (Ha ?_))
 exact h
theorem getItem_tuple_whole {t sl:Addr}{items:Array GZ}{vl vu:GZ}{lo hi:Option Int}{Q:GZ->GX->Prop}(ht:Pa s.heap t items)(hs:s.heap.IsSliceOf sl vl vu .none)(pl:NK vl lo)(pu:NK vu hi)
  (hw:sIx items.size 0 lo=0/\sIx items.size items.size hi=items.size) (h:Q (.ref t) s):wpAny (model prog w) A (getItem (.ref t) (.ref sl)) Q E s:=by
 obtain⟨os,hos,hcs,hds⟩:=id hs
 have hTs:s.TypeIs (.ref sl) "slice":=⟨os,hos,hcs⟩;unfold getItem
 try with_reducible refine IE ?_
 first | refine G1 (Ha ?_) | skip
 refine G1 (Oc ht.typeIs (by decide) ?_)
 refine G1 (Il (name:=Hi "__getitem__") ht.typeIs Ih
  (IU Ih ht.typeIs Nh ?_ (NL _ _)))
 show wpAny _ _ (Lr (.ref t) >>= _) _ _ s
 refine G1 (NM ht ?_)
 refine G1 (LG hTs ?_)
 rw[if_pos (by decide)]
 refine G1 (fJ hs pl pu ?_)
 have hyes:(((sIx items.size 0 lo:Nat):Int) == 0&&(1:Int) == 1&&(sIx items.size items.size hi - sIx items.size 0 lo) == items.size)=true:=by
  rw[hw.1,hw.2];simp
 show wpAny _ _ (if (((sIx items.size 0 lo:Nat):Int) == 0&&(1:Int) == 1&&(sIx items.size items.size hi - sIx items.size 0 lo) == items.size)=true then _ else _) _ _ s
 rw[if_pos hyes]
 first
  | refine G1 (iu ht ?_)
  | refine iu ht ?_
 try rw[if_pos rfl]
 first
  | exact G1 (Kr (Ha ⟨_,rfl,Ha h⟩))
  | exact G1 (Kr (G1 (Ha (Ha ⟨_,rfl,Ha h⟩))))
end
end HT
namespace Tr
open PySem PySem.Spec PyProof.Rows L2
section
variable {X:Cx}{a b c:Expr}{fa fb fc:En->Rs T}{pos:Pos}
theorem Reps.atI {K:GW}{O:Ow}{H:Hp}{l:List T}{vs:List V}{i:Int}{t:T}(r:Reps K O H l vs)(e:L2.atI l i=some t):∃v,L2.atI vs i=some v/\Rep K O H t v:=by
 unfold L2.atI at e ⊢;rw[r.length]at e
 cases q:ixN vs.length i with
 | none=>rw[q]at e;cases e
 | some j=>
  rw[q]at e;obtain⟨v,e1,e2⟩:=r.get (i:=j) (t:=t) e;exact⟨v,e1,e2⟩
def bY (x y:T):Rs T:=match x.items,y with
 | some l,.int i=>match L2.atI l i with
  | some t=> .ok t
  | none=> .bad
 | _,_=> .bad
theorem q_ix (ha:cR X a fa)(hb:cR X b fb)(hs:autoParam (sY b) x_):cR X (.Subscript a b pos) (o2 bY fa fb):=by
 intro pins s σ H Q I ⟨ρ,O,E,hq⟩
 have h1:=aR E hq;refine Od (bJ (ha pins s σ H _ I h1) λv s1 hh_=> ?_)
 obtain⟨x,H1,I1,r1,t,rt,s',E',q1⟩:=hh_
 have h2:=aR (f:=fb) E' q1;refine bJ (hb pins s1 σ H1 _ I1 h2) λu s2 hh_=> ?_
 obtain⟨y,H2,I2,r2,t2,rt2,s'',E'',q2⟩:=hh_
 have rt':=rt.same s'';unfold bY at q2
 split at q2
 ·rename_i l i hl
  split at q2
  ·rename_i z hz
   have hy:=Rep.Do.mp rt2;refine Co a b pins s2 σ H2 x y v u Q I2 r1 r2 ?_ (hs _ _)
   cases t with
   | tup m=>
    cases hl;obtain⟨p,vs,e,n,q,rr⟩:=Rep.Fk.mp rt';obtain⟨w,ew,rw'⟩:=rr.atI hz
    exact .inr (.inl ⟨p,vs,i,w,e,hy,SqT.of q,ew,q2 H2 (Same.refl H2) _ rw'⟩)
   | lst m=>
    cases hl;obtain⟨p,vs,e,n,q,rr⟩:=Rep.FB.mp rt';obtain⟨w,ew,rw'⟩:=rr.atI hz
    exact .inl ⟨p,vs,i,w,e,hy,SqL.of q,ew,q2 H2 (Same.refl H2) _ rw'⟩
   | scr m=>
    cases hl;unfold Rep at rt';obtain⟨p,e,n,q⟩:=rt';obtain⟨w,ew,rw'⟩:=(Reps.ints (K:=X.K) (O:=O) (H:=H2) (ns:=m)).atI hz
    exact .inl ⟨p,_,i,w,e,hy,q,ew,q2 H2 (Same.refl H2) _ rw'⟩
   | _=>cases hl
  ·exact q2.elim
 ·exact q2.elim
def fZ (l:List T)(lo hi:Option Int):List T:=(l.drop (HT.sIx l.length 0 lo)).take (HT.sIx l.length l.length hi - HT.sIx l.length 0 lo)
theorem Reps.cut {K:GW}{O:Ow}{H:Hp}{l:List T}{vs:List V}(r:Reps K O H l vs)(lo hi:Option Int):Reps K O H (fZ l lo hi) (qd vs lo hi):=by
 unfold fZ qd;rw[r.length];exact(r.drop _).take _
theorem m7 {l:List T}{lo hi:Option Int}(h:HT.sIx l.length 0 lo=0/\HT.sIx l.length l.length hi=l.length):fZ l lo hi=l:=by
 unfold fZ;rw[h.1,h.2];simp
theorem sl_tup_whole:SlR X (λx lo hi H Q=> ∃a xs,x= .ref a/\SqT X.K H a xs/\(HT.sIx xs.length 0 lo=0/\HT.sIx xs.length xs.length hi=xs.length)/\Q (.ref a) H):=by
 intro pins s σ H x v vl vu lo hi sl Q I rx hs pl pu h;obtain⟨a,xs,rfl,hx,hw,q⟩:=h;cases rx;obtain⟨its,r,ht,hz⟩:=I.tuple hx
 have hlen:its.toArray.size=xs.length:=by rw[Hn];exact r.length.symm
 refine⟨"tuple",_,Ih.lookup,ht.typeIs,?_⟩
 exact HT.getItem_tuple_whole ht hs pl pu (by rw[hlen];exact hw) ⟨.ref a,H,I,rfl,q⟩
def pN (_:En):Rs (Option Int):=.ok none
def pS (f:En->Rs T)(ρ:En):Rs (Option Int):=do
 let x <-f ρ
 match x with
 | .int i=> .ok (some i)
 | _=> .bad
def tPO (X:Cx)(f:En->Rs (Option Int)):TO:=λσ H Q=> ∃ρ O,EnvO X.K O H ρ σ/\Post X H (f ρ) λb H'=>Q b H'
abbrev CY (X:Cx)(e:Option Expr)(f:En->Rs (Option Int)):Prop:=PO X e (tPO X f)
theorem yy:CY X none pN:=by
 intro pins s σ H Q I ⟨ρ,O,E,hq⟩;exact yN pins s σ H Q I (hq H (Same.refl H))
theorem yx (ha:cR X a fa):CY X (some a) (pS fa):=by
 intro pins s σ H Q I ⟨ρ,O,E,hq⟩;refine yM ha pins s σ H Q I ?_
 obtain⟨ρ1,O1,E1,h1⟩:=aR E hq;refine⟨ρ1,O1,E1,Post.mono h1 λts H1 s1 q vs r=> ?_⟩
 obtain⟨t',r',s',E',q'⟩:=q vs r
 split at q'
 ·exact⟨_,Rep.Do.mp r',q' H1 (Same.refl H1)⟩
 ·exact q'.elim
def slT (x:T)(lo hi:Option Int):Rs T:=match x with
 | .tup l=> .ok (.tup (fZ l lo hi))
 | .lst l=> .ok (.lst (fZ l lo hi))
 | _=> .bad
def sl (fe:En->Rs T)(fl fu:En->Rs (Option Int))(ρ:En):Rs T:=do
 let x <-fe ρ
 let l <-fl ρ
 let u <-fu ρ
 slT x l u
theorem jl {σ:L2.St}{H:Hp}{ρ:En}{O:Ow}{α:Type}{f:En->Rs (Option Int)}{k:Option Int->Rs α}{Q:α->Hp->Prop}(E:EnvO X.K O H ρ σ)(h:Post X H (f ρ >>= k) Q) :
  tPO X f σ H λb H'=>Same H H'/\EnvO X.K O H' ρ σ/\Post X H' (k b) Q:=
 ⟨ρ,O,E,Post.mono h.bind λt H' s q=>⟨s,E.same s,q⟩⟩
theorem yF {lo hi:Option Expr}{p2:Pos}{fl fu:En->Rs (Option Int)}(ha:cR X a fa)(hl:CY X lo fl)(hu:CY X hi fu):cR X (.Subscript a (.Slice lo hi none p2) pos) (sl fa fl fu):=by
 intro pins s σ H Q I ⟨ρ,O,E,hq⟩;refine vS (sl_tup.or (sl_tup_whole.or rN)) ha hl hu pins s σ H Q I ?_
 obtain⟨ρ1,O1,E1,h1⟩:=aR E hq;refine⟨ρ1,O1,E1,Post.mono h1 λts H1 s1 q vs r=> ?_⟩
 obtain⟨t',r',s',E',q'⟩:=q vs r;obtain⟨ρ2,O2,E2,h2⟩:=jl E' q';refine⟨ρ2,O2,E2,Post.mono h2 λo1 H2 s2 q=> ?_⟩
 obtain⟨s2',E2',q2⟩:=q;obtain⟨ρ3,O3,E3,h3⟩:=jl E2' q2;refine⟨ρ3,O3,E3,Post.mono h3 λo2 H3 s3 q=> ?_⟩
 obtain⟨s3',E3',q3⟩:=q
 have rt:=(r'.same s2').same s3';unfold slT at q3
 split at q3
 ·rename_i l
  obtain⟨p,ws,e,n,q,rr⟩:=Rep.Fk.mp rt
  have hlen:=rr.length
  by_cases hw:HT.sIx ws.length 0 o1=0/\HT.sIx ws.length ws.length o2=ws.length
  ·refine .inr (.inl ⟨p,ws,e,SqT.of q,hw,?_⟩)
   rw[<-hlen]at hw;refine q3 H3 (Same.refl H3) _ ?_
   rw[m7 hw];exact Rep.Fk.mpr ⟨p,ws,rfl,n,q,rr⟩
  ·exact .inl ⟨p,ws,e,SqT.of q,hw,λp' hp=>q3 _ (aW hp _) _ (dH hp (E3'.fresh hp) (rr.cut o1 o2))⟩
 ·rename_i l
  obtain⟨p,ws,e,n,q,rr⟩:=Rep.FB.mp rt;exact .inr (.inr ⟨p,ws,e,SqL.of q,λp' hp=>q3 _ (aW hp _) _ (eY hp (E3'.fresh hp) (rr.cut o1 o2))⟩)
 ·exact q3.elim
def CallT (X:Cx)(f:GZ)(g:List T->Rs T):Prop:=
 ∀(pins:List (Addr×Obj)) (s:GX) (σ:L2.St) (H:Hp) (O:Ow) (ts:List T) (vs:List V) (us:List GZ) (Q:VK),Inv X pins σ H s->(∀p,H p=none->¬ O p)->Reps X.K O H ts vs->Vals vs us →
  Post X H (g ts) (λt H'=> ∀v,Rep X.K O H' t v->Q v H')->wpAny (model X.prog X.w) X.A (call f us) (EP X pins σ Q) X.xe s
theorem CallT.of {f:GZ}{r:List V->Hp->VK->Prop}(h:CallR X f r){g:List T->Rs T}
  (w:∀(H:Hp) (O:Ow) (ts:List T) (vs:List V) (Q:VK),(∀p,H p=none->¬ O p)->Reps X.K O H ts vs->Post X H (g ts) (λt H'=> ∀v,Rep X.K O H' t v->Q v H')->r vs H Q):CallT X f g:=
 λpins s σ H O ts vs us Q I hf rs rv hp=>h pins s σ H vs us Q I rv (w H O ts vs Q hf rs hp)
def cl (g:List T->Rs T)(fs:En->Rs (List T))(ρ:En):Rs T:=fs ρ >>= g
variable {e:Expr}{es:List Expr}{fs:En->Rs (List T)}{x:Str}{p:Pos}{id:String}{g:List T->Rs T}
theorem yH (hc:CallT X (.builtin id) g)(hm:X.mg x=none)(hv:HA x=some (.builtin id))(ha:oI X (e::es) fs)(hg:autoParam (Gl X x) u_)(hn:autoParam (x≠ "__name__") s_)(hdb:autoParam ((x == ("__debug__" : Str))=false) s_)
  (he:autoParam (Hj (e::es) X.env=(false,eval e X.env)::Hj es X.env) u_) (hpl:autoParam ((backTo pos (Hj es X.env)).any (·.1)=false) u_):cR X (.Call (.Name x p) (e::es) [] pos) (cl g fs):=by
 intro pins s σ H Q I ⟨ρ,O,E,hq⟩;refine Iy (dU I hg hm hv ?_ hn hdb)
 have h1:=dG E hq;exact Jh (bJ (ha pos pins s σ H _ I h1) λus s1 ⟨vs,H1,I1,r1,ts,rs,s',E',q1⟩=>hc pins s1 σ H1 O ts vs us Q I1 (λp=>E'.fresh) rs r1 q1) he hpl
theorem vH {Ty:String}(hc:CallT X (.type Ty) g)(hm:X.mg x=none)(hv:HA x=some (.type Ty))(ha:oI X (e::es) fs)(hg:autoParam (Gl X x) u_)(hn:autoParam (x≠ "__name__") s_)(hdb:autoParam ((x == ("__debug__" : Str))=false) s_)
  (he:autoParam (Hj (e::es) X.env=(false,eval e X.env)::Hj es X.env) u_) (hpl:autoParam ((backTo pos (Hj es X.env)).any (·.1)=false) u_):cR X (.Call (.Name x p) (e::es) [] pos) (cl g fs):=by
 intro pins s σ H Q I ⟨ρ,O,E,hq⟩;refine Iy (dU I hg hm hv ?_ hn hdb)
 have h1:=dG E hq;exact IQ (bJ (ha pos pins s σ H _ I h1) λus s1 ⟨vs,H1,I1,r1,ts,rs,s',E',q1⟩=>hc pins s1 σ H1 O ts vs us Q I1 (λp=>E'.fresh) rs r1 q1) he hpl
theorem Reps.one {K:GW}{O:Ow}{H:Hp}{t:T}{vs:List V}(r:Reps K O H [t] vs):∃v,vs= [v]/\Rep K O H t v:=by
 obtain⟨v,ws,rfl,p,q⟩:=Reps.AC.mp r;cases Reps.Da.mp q;exact⟨v,rfl,p⟩
theorem Rep.sq {K:GW}{O:Ow}{H:Hp}{t:T}{v:V}{l:List T}(r:Rep K O H t v)(h:t.items=some l):∃a vs,v= .ref a/\¬ O a/\Reps K O H l vs/\(SqL K H a vs\/SqT K H a vs):=by
 cases t with
 | tup m=>cases h;obtain⟨a,vs,e,n,q,z⟩:=Rep.Fk.mp r;exact⟨a,vs,e,n,z,.inr (SqT.of q)⟩
 | lst m=>cases h;obtain⟨a,vs,e,n,q,z⟩:=Rep.FB.mp r;exact⟨a,vs,e,n,z,.inl (SqL.of q)⟩
 | scr m=>cases h;unfold Rep at r;obtain⟨a,e,n,q⟩:=r;exact⟨a,_,e,n,Reps.ints,.inl q⟩
 | _=>cases h
def cF:List T->Rs T
 | [.str x] =>if x.length<=sizeLine then .ok (.int x.length)else .bad
 | [x] =>match x.items with
  | some l=> .ok (.int l.length)
  | none=> .bad
 | _=> .bad
theorem cL:CallT X (.builtin "len") cF:=CallT.of (call_len_seq.or oA) λH O ts vs Q hf rs hp=>by
 unfold cF at hp
 split at hp
 ·obtain⟨v,rfl,r⟩:=rs.one
  split at hp
  ·rename_i h
   exact .inr ⟨_,by rw[Rep.FI.mp r],h,hp H (Same.refl H) _ (Rep.FP _)⟩
  ·exact hp.elim
 ·obtain⟨v,rfl,r⟩:=rs.one
  split at hp
  ·rename_i l hl
   obtain⟨a,vs,rfl,n,z,q⟩:=r.sq hl;exact .inl ⟨a,vs,rfl,q,hp H (Same.refl H) _ (by rw[<-z.length];exact Rep.FP _)⟩
  ·exact hp.elim
 ·exact hp.elim
def jK:List T->Rs T
 | [.tup l] => .ok (.tup l)
 | [.lst l] => .ok (.tup l)
 | _=> .bad
theorem lK:CallT X (.type "tuple") jK:=CallT.of mw λH O ts vs Q hf rs hp=>by
 unfold jK at hp
 split at hp
 ·obtain⟨v,rfl,r⟩:=rs.one
  obtain⟨a,ws,rfl,n,q,z⟩:=Rep.Fk.mp r;exact⟨a,ws,rfl,.inr ⟨SqT.of q,hp H (Same.refl H) _ (Rep.Fk.mpr ⟨a,ws,rfl,n,q,z⟩)⟩⟩
 ·obtain⟨v,rfl,r⟩:=rs.one
  obtain⟨a,ws,rfl,n,q,z⟩:=Rep.FB.mp r;exact⟨a,ws,rfl,.inl ⟨SqL.of q,λl hl=>hp _ (aW hl _) _ (dH hl (hf l hl) z)⟩⟩
 ·exact hp.elim
def sf:List T->Rs T
 | [x] =>match x.items with
  | some l=> .ok (.lst l)
  | none=> .bad
 | _=> .bad
theorem zY:CallT X (.type "list") sf:=CallT.of oy λH O ts vs Q hf rs hp=>by
 unfold sf at hp
 split at hp
 ·obtain⟨v,rfl,r⟩:=rs.one
  split at hp
  ·rename_i l hl
   obtain⟨a,ws,rfl,n,z,q⟩:=r.sq hl;exact⟨a,ws,rfl,q,λl hl=>hp _ (aW hl _) _ (eY hl (hf l hl) z)⟩
  ·exact hp.elim
 ·exact hp.elim
def pQ:List T->Rs T
 | [.int i] => .ok (.int i)
 | [.bl k] => .ok (.int (if k then 1 else 0))
 | _=> .bad
theorem xu:CallT X (.type "int") pQ:=CallT.of ur λH O ts vs Q hf rs hp=>by
 unfold pQ at hp
 split at hp
 ·obtain⟨v,rfl,r⟩:=rs.one
  exact .inl ⟨_,by rw[Rep.Do.mp r],hp H (Same.refl H) _ (Rep.FP _)⟩
 ·obtain⟨v,rfl,r⟩:=rs.one
  exact .inr ⟨_,by rw[Rep.FK.mp r],hp H (Same.refl H) _ (Rep.FP _)⟩
 ·exact hp.elim
def lP:List T->Option (List Bool)
 | [] =>some []
 | .bl k::r=>(lP r).map (k:: ·)
 | _=>none
def kB:List T->Rs T
 | [.lst l] =>match lP l with
  | some ks=> .ok (.bl (ks.all λk=>k))
  | none=> .bad
 | _=> .bad
theorem lO {K:GW}{O:Ow}{H:Hp}:∀{l:List T} {ks:List Bool} {vs:List V} {us:List GZ},lP l=some ks->Reps K O H l vs->Vals vs us->us=ks.map Ia
 | [],ks,vs,us,e,r,v=>by cases e;cases Reps.Da.mp r;cases v;rfl
 | t::l,ks,vs,us,e,r,v=>by
  obtain⟨w,ws,rfl,p,q⟩:=Reps.AC.mp r
  cases t with
  | bl k=>
   unfold lP at e
   cases z:lP l with
   | none=>rw[z]at e;cases e
   | some ks'=>
    rw[z]at e;cases e
    cases v with
    | cons v1 v2=>
     cases Rep.FK.mp p;cases v1
     rw[lO z q v2];rfl
  | _=>cases e
theorem jX (hc:X.calm=true):CallT X (.builtin "all") kB:=by
 intro pins s σ H O ts vs us Q I hf rs rv hp;unfold kB at hp
 split at hp
 ·obtain⟨v,rfl,r⟩:=rs.one
  split at hp
  ·rename_i ks hk
   obtain⟨a,ws,rfl,n,q,z⟩:=Rep.FB.mp r;obtain⟨u,rfl,ru⟩:=jd rv;cases ru;obtain⟨its,r',pl,hz⟩:=I.list (SqL.of q)
   have hits:=lO hk z r';refine call_all_walk (L8 pl.isList ?_)
   have hne:a≠s.heap.objs.size:=λe=>by
    obtain⟨o,ho,_⟩:=pl.isList;rw[e]at ho;exact absurd (Hf ho) (HB _)
   refine⟨s.heap.objs.size,_,_,_,_,_,λi=>(ks[i]?).getD true,rfl,Walks.list (A:=X.A.in1) (I.ok.hd hc) s.heap.objs.size a hne its.toArray,⟨⟨_,Hk _ rfl,rfl,rfl⟩,?_⟩,?_,?_⟩
   ·obtain⟨o,ho,hh⟩:=pl.isList
    exact⟨o,G2 _ ho,hh⟩
   ·intro i v s' Q' E' hP hQ'
    subst hits
    dsimp only at hQ'
    have hP':(ks.map Ia)[i]? =some v:=by simpa using hP
    rw[HN]at hP'
    cases e:ks[i]? with
    | none=>rw[e]at hP';cases hP'
    | some k=>
     rw[e]at hP' hQ';cases hP';exact IC hQ'
   ·intro h' tk hk'
    have hlen:its.toArray.size=ks.length:=by rw[hits];simp
    have e:((Io its.toArray.size).all λi=>(ks[i]?).getD true)=(ks.all λk=>k):=by
     rw[hlen];rw[Kx,HC,HC]
     constructor
     ·intro h x hx
      obtain⟨i,hi,rfl⟩:=List.getElem_of_mem hx
      have:=h i (IP.mpr hi)
      simpa [hi]using this
     ·intro h i hi
      have hi':=IP.mp hi
      have:=h ks[i] (Jp hi')
      simpa [hi']using this
    rw[e]
    have I1:Inv X pins σ H { s with heap:=s.heap.push { cls:=.type "list_iterator",data:=.fields #[.ref a,.int 0 0] } }:=I.kept (t':=s.toks) λb o e=>G2 _ e
    have I2:Inv X pins σ H { s with heap:=h',toks:=tk }:=by
     have:=I1.turned (h':=h') (t':=tk) (it:=s.heap.objs.size) (λb o hb e=>hk' b o (by simpa using hb) e) (I.hok.fresh (He _))
      (KY I.lt) (.inr I.sz) (λx c e z=> ?_) (λp hp z=> ?_)
     ·exact this
     ·obtain⟨v,q⟩:=I.cell x c e
      exact absurd (Hl q.lt (JT z.symm)) (HB _)
     ·exact absurd (Hl (Hf (I.pin p hp).1) (JT z.symm)) (HB _)
    exact⟨.bl _,H,I2,rfl,hp H (Same.refl H) _ (Rep.bl_ _)⟩
  ·exact hp.elim
 ·exact hp.elim
end
def pU (i b t l s:Bool)(Ty:String):Option Bool:=match Ty with
 | "int" =>some i | "bool" =>some b | "tuple" =>some t | "list" =>some l | "str" =>some s
 | _=>none
def sy (n Ty:String):Option Bool:=match n with
 | "NoneType" =>pU false false false false false Ty
 | "bool" =>pU true true false false false Ty
 | "int" =>pU true false false false false Ty
 | "str" =>pU false false false false true Ty
 | "tuple" =>pU false false true false false Ty
 | "list" =>pU false false false true false Ty
 | _=>none
theorem ud (K:GW){n Ty:String}{b:Bool}(h:sy n Ty=some b):PySem.W.kitOne K (.type n) (.type Ty)=some b:=by
 unfold sy at h
 split at h <;> first | (cases h;done) | (unfold pU at h;split at h <;> first | (cases h;done) | (cases h;kernel_rfl))
def xU (Ty:String)(t:T):Rs T:=match t.ty with
 | some n=>match sy n Ty with
  | some b=> .ok (.bl b)
  | none=> .bad
 | none=> .bad
theorem Rep.GR {K:GW}{O:Ow}{H:Hp}{t:T}{v:V}{n:String}(r:Rep K O H t v)(h:t.ty=some n):j0 K H v (.type n):=by
 cases t with
 | non=>cases h;cases Rep.FS.mp r;exact .non
 | bl b=>cases h;cases Rep.FK.mp r;exact .bl b
 | int b=>cases h;cases Rep.Do.mp r;exact .int b
 | str b=>cases h;cases Rep.FI.mp r;exact .str b
 | tup l=>cases h;obtain⟨a,vs,rfl,_,q,_⟩:=Rep.Fk.mp r;exact .tup q
 | lst l=>cases h;obtain⟨a,vs,rfl,_,q,_⟩:=Rep.FB.mp r;exact .lst q
 | scr l=>cases h
 | dct _ _=>cases h
 | ob _ _ _=>cases h
section
variable {X:Cx}{a b c e:Expr}{es:List Expr}{fa fb fc:En->Rs T}{fs:En->Rs (List T)}{pos p p2:Pos}{x:Str}
theorem eH:HA "isinstance" =some (.builtin "isinstance"):=by decide+kernel
theorem D2 {tn:Str}{Ty:String}(hm:X.mg "isinstance" =none)(hmt:X.mg tn=none)(hv:HA tn=some (.type Ty))(ha:cR X a fa)(hg:autoParam (Gl X "isinstance") u_)(hgt:autoParam (Gl X tn) u_)
  (hn:autoParam (tn≠ "__name__") s_) (hd:autoParam ((tn == ("__debug__" : Str))=false) s_)
  (he:autoParam (Hj [a,.Name tn p2] X.env=(false,eval a X.env)::Hj [.Name tn p2] X.env) u_) (hpl:autoParam ((backTo pos (Hj [.Name tn p2] X.env)).any (·.1)=false) u_)
  (hs:autoParam (Hj [.Name tn p2] X.env=(false,eval (.Name tn p2) X.env)::Hj [] X.env) u_) :
  cR X (.Call (.Name "isinstance" p) [a,.Name tn p2] [] pos) (o1 (xU Ty) fa):=by
 intro pins s σ H Q I ⟨ρ,O,E,hq⟩;refine Iy (dU I hg hm eH ?_ (by decide) (by decide))
 have hA:PA X [a,.Name tn p2] (jm (tP X fa) (jm (tC (.ty Ty)) vh)):=b6 ha (b6 (rZ (v:=.ty Ty) hgt hmt hv rfl hn hd) fy hs) he;obtain⟨ρ1,O1,E1,h1⟩:=aR E hq;refine Jh (bJ (hA pos pins s σ H (λvs H'=> ∃v t,vs= [v,.ty Ty]/\Rep X.K O H' t v/\Post X H' (xU Ty t) (λt H'=> ∀v,Rep X.K O H' t v->Q v H')) I ?_) λus s1 ⟨vs,H1,I1,r1,v,t,e1,rt,q⟩=> ?_) he hpl
 ·refine⟨ρ1,O1,E1,Post.mono h1 λts H1 s1 q vs r=> ?_⟩
  obtain⟨t',r',s',E',q'⟩:=q vs r;exact⟨vs,t',rfl,r',q'⟩
 ·subst e1
  obtain⟨u,w',rfl,ru,rw'⟩:=uS r1;cases rw';unfold xU at q
  split at q
  ·rename_i n hn'
   split at q
   ·rename_i bb hb
    exact ub I1 ru (rt.GR hn') (ud _ hb) λtk=>⟨.bl bb,H1,I1.tok _,rfl,q H1 (Same.refl H1) _ (Rep.bl_ _)⟩
   ·exact q.elim
  ·exact q.elim
def spP (K:GW)(n:Nat)(g:List T->Rs T):Sp:=λvs H Q _=> ∃ts O,Reps K O H ts vs/\(∀a,O a->Mtb H a)/\ts.length=n ∧
 match g ts with
 | .ok t=> ∀v H',Same H H'->Rep K O H' t v->Q v H'
 | _=>False
def RzC (P:Hr)(w:HS)(mg:Str->Option GZ)(outer:List Env)(H:Hp)(s:GX)(c:Str)(ev:GZ)(s':GX):Prop:=
 ∃e T C H',ev= .ref e/\mg c=some (.ref C)/\s'.os=s.os/\MS s'.gens/\Un (iU outer) [] H H' s.heap s'.heap/\HOk P w H' s'.heap/\Same H H'/\H' e=none/\s.heap.get? e=none/\Flt s'.heap C e (some T)/\H' T=none/\s.heap.get? T=none
def FnX (P:Hr)(w:HS)(K:GW)(mg:Str->Option GZ)(base:Heap)(k:Nat)(f:Addr)(fd:Ib)(ps:List Str)(n:Nat)(g:List T->Rs T):Prop:=
 ∀(A:HF) (outer:List Env) (s:GX) (H:Hp) (args:Args) (us:List GZ) (vs:List V) (O:Ow) (ts:List T) (c:Str) (R:KN->GX->Prop),Room k A->my P w K mg base A outer s H->Mj s fd args (ps.zip us)->Vals vs us →
  Reps K O H ts vs->(∀a,O a->Mtb H a)->ts.length=n->g ts= .err c->(∀ev s',RzC P w mg outer H s c ev s'->R (.error ev) s')->codeAny (model P w) A (.call (.ref f) args) R s
structure C6 (P:Hr)(w:HS)(K:GW)(mg:Str->Option GZ)(base:Heap)(k:Nat)(f:Addr)(fd:Ib)(ps:List Str)(n:Nat)(g:List T->Rs T):Prop where
 h:uz P w K mg base CX0 k f fd ps (spP K n g)
 x:FnX P w K mg base k f fd ps n g
theorem we {P:Hr}{w:HS}{H:Hp}{h:Heap}{a:Addr}{o:HO}(x:ObjOk P w H h a o):∃u,h.get? a=some u:=by
 cases o with
 | lst xs=>obtain⟨_,_,_,_,e⟩:=x;exact⟨_,e⟩
 | tup xs=>obtain⟨_,_,_,ob,e,_⟩:=x;exact⟨_,e⟩
 | dK kvs=>obtain⟨_,_,_,_,o,_,_,e,_⟩:=x;exact⟨_,e⟩
 | dT kvs=>obtain⟨_,_,_,_,o,_,_,e,_⟩:=x;exact⟨_,e⟩
 | set S n=>obtain⟨o,_,_,_,e,_⟩:=x;exact⟨_,e⟩
 | ins C dx fs=>obtain⟨_,_,_,e,_⟩:=x;exact⟨_,e⟩
 | own y=>obtain⟨_,e⟩:=x;exact⟨_,e⟩
 | xd fs=>obtain⟨_,⟨_,_,_,e,_⟩,_⟩:=x;exact⟨_,e⟩
 | rng lo hi=>obtain⟨_,_,_,e⟩:=x;exact⟨_,e⟩
 | frz ob u=>obtain⟨e,_⟩:=x;exact⟨_,e⟩
 | tbl ps=>exact⟨_,(show h.get? a=some _ from x)⟩
 | met f y=>exact⟨_,(show h.get? a=some _ from x)⟩
 | ext φ=>obtain⟨_,⟨_,e⟩,_⟩:=x;exact⟨_,e⟩
theorem gI {X:Cx}{pins:List (Addr×Obj)}{σ:L2.St}{H:Hp}{s:GX}(I:Inv X pins σ H s){e:Addr}(n:s.heap.get? e=none):H e=none:=by
 cases z:H e with
 | none=>rfl
 | some o=>
  obtain⟨o',ho'⟩:=we (I.hok e o z);rw[n]at ho';cases ho'
theorem fW {X:Cx}{pins:List (Addr×Obj)}{σ:L2.St}{H:Hp}{s:GX}(I:Inv X pins σ H s)(hex:X.ex= []){e:Addr}(n:s.heap.get? e=none):X.s₀.heap.get? e=none:=by
 cases z:X.s₀.heap.get? e with
 | none=>rfl
 | some o=>
  obtain⟨o',ho'⟩:=I.base.there e o z (by rw[hex];simp)
  rw[n]at ho';cases ho'
theorem BJ {n k:Nat}{f:Addr}{fd:Ib}{ps:List Str}{g:List T->Rs T}(F:C6 X.prog X.w X.K X.mg X.base k f fd ps n g)(hr:Room k X.A)(hm:X.mg x=some (.ref f))(hk:JZ X.K (.ref f)=true)(hb:Binds X.K fd ps [])(hps:ps.length=n)
  (hl:∀ρ ts,fs ρ= .ok ts->ts.length=n) (ha:oI X (e::es) fs) (hg:autoParam (Gl X x) u_) (hdb:autoParam ((x == ("__debug__" : Str))=false) s_) (he:autoParam (Hj (e::es) X.env=(false,eval e X.env)::Hj es X.env) u_) (hpl:autoParam ((backTo pos (Hj es X.env)).any (·.1)=false) u_) :
  cR X (.Call (.Name x p) (e::es) [] pos) (cl g fs):=by
 intro pins s σ H Q I ⟨ρ,O,E,hq⟩
 have hq':Post X H (fs ρ >>= g) λt H'=> ∀v,Rep X.K O H' t v->Q v H':=hq
 cases q:fs ρ with
 | bad=>rw[q]at hq';exact hq'.elim
 | err c=>
  rw[q]at hq';refine rY (E:=E0) F.h hr hg hm hk hb .nil v5 ha hdb he hpl pins s σ H Q I ⟨ρ,O,E,?_⟩
  rw[q]
  exact hq'
 | ok ts=>
  rw[q]at hq'
  have hq2:Post X H (g ts) λt H'=> ∀v,Rep X.K O H' t v->Q v H':=hq'
  cases q2:g ts with
  | bad=>rw[q2]at hq2;exact hq2.elim
  | ok t=>
   rw[q2]at hq2;refine rY (E:=E0) F.h hr hg hm hk hb .nil v5 ha hdb he hpl pins s σ H Q I ⟨ρ,O,E,?_⟩
   rw[q];intro H1 s1 vs rs;rw[Ii];refine⟨ts,O,rs,(E.same s1).mtb,hl ρ ts q,?_⟩
   rw[q2]
   exact λv H' s2 r=>hq2 H' (s1.trans s2) v r
  | err c=>
   rw[q2]at hq2;refine Iy (ie I hg hm ?_ hdb)
   refine Ly (h₀:=X.base) I.ok.mod.kin hk (bJ (ha pos pins s σ H (λvs H'=>Same H H'/\Reps X.K O H' ts vs) I ⟨ρ,O,E,?_⟩) (λus s1 ⟨vs,H1,I1,r,sm,rs⟩=>⟨I1.kIn,?_⟩)) he hpl
   ·rw[q];exact λH' sm vs rs=>⟨sm,rs⟩
   ·have hlen:us.length=ps.length:=by rw[<-r.length,<-rs.length,hl ρ ts q,hps]
    have hb':=hb s1 us I1.kIn (by rw[Ii];exact hlen)
    rw[Ii]at hb';refine wpAny_call (On (F.x X.A X.stack s1 H1 ⟨us,[]⟩ us vs O ts c (λr s'=>match r with | .error ev=>X.xe ev s' | _=>False) hr I1.Gc hb' r rs (E.same sm).mtb (hl ρ ts q) q2 λev s' w=> ?_) λr s' hq=> ?_)
    ·obtain⟨ea,T,C,H',rfl,hmc,ho,hbare,hun,hok,sm2,hea,heo,fl,hT,hTo⟩:=w
     have I2:Inv X pins σ H' s':=I1.F7 ho hun hok hbare (λb z=>absurd z (by simp))
     exact hq2 pins _ _ ⟨ea,some T,C,σ,H',rfl,hmc,I2,λb o q _=>sm2 b o (sm b o q),hea,λhex=>fW I1 hex heo,fl,(λt zt=>by cases zt;exact⟨hT,λhex=>fW I1 hex hTo⟩),λpp hpp=>⟨λzz=>(by have:=(I1.pin pp hpp).1;rw[zz,heo]at this;cases this),λzz=>(by cases zz;have:=(I1.pin pp hpp).1;rw[hTo]at this;cases this)⟩⟩
    ·cases r with
     | error ev=>exact hq
     | ok fl=>exact hq.elim
def xT (X:Cx)(g:T->En->Rs En):TG:=λv σ H Q=> ∃ρ O M t,EnvM X.K O M H ρ σ/\Rep X.K O H t v/\match g t ρ with
 | .ok ρ'=> ∀σ',EnvM X.K O M H ρ' σ'->Q σ' H
 | _=>False
abbrev xO (X:Cx)(tg:Expr)(g:T->En->Rs En):Prop:=PG X tg (xT X g)
def tPGs (X:Cx)(g:List T->En->Rs En):Af:=λvs σ H Q=> ∃ρ O M ts,EnvM X.K O M H ρ σ/\Reps X.K O H ts vs/\match g ts ρ with
 | .ok ρ'=> ∀σ',EnvM X.K O M H ρ' σ'->Q σ' H
 | _=>False
abbrev xP (X:Cx)(tg:List Expr)(g:List T->En->Rs En):Prop:=PGs X tg (tPGs X g)
theorem PG.imp {X:Cx}{e:Expr}{t t':TG}(h:PG X e t)(w:∀v σ H Q,t' v σ H Q->t v σ H Q):PG X e t':=λpins s σ H v u Q I r q=>h pins s σ H v u Q I r (w v σ H Q q)
theorem PGs.imp {X:Cx}{e:List Expr}{t t':Af}(h:PGs X e t)(w:∀v σ H Q,t' v σ H Q->t v σ H Q):PGs X e t':=λpins s σ H v u Q I r q=>h pins s σ H v u Q I r (w v σ H Q q)
def gN (i:Nat)(t:T)(ρ:En):Rs En:=if i<ρ.length then .ok (ρ.set i (.va t))else .bad
theorem EnvM.set {K:GW}{O:Ow}{M:Mn}{H:Hp}{ρ:En}{σ:L2.St}{i:Nat}{t:T}{v:V}(E:EnvM K O M H ρ σ)(hi:i<ρ.length)(r:Rep K O H t v):EnvM K O M H (ρ.set i (.va t)) (σ.set i (some v)) where
 len:=by rw[IS,IS];exact E.len
 val:=λj u e=>by
  by_cases hj:i=j
  ·subst hj
   rw[HI hi]at e
   cases e;exact⟨v,HI (by rw[<-E.len];exact hi),r⟩
  ·rw[HH hj]at e
   obtain⟨w,e1,e2⟩:=E.val j u e;exact⟨w,by rw[HH hj];exact e1,e2⟩
 own:=λj o e=>by
  by_cases hj:i=j
  ·subst hj
   rw[HI hi]at e
   cases e
  ·rw[HH hj]at e
   obtain⟨w,e1,e2⟩:=E.own j o e;exact⟨w,by rw[HH hj];exact e1,e2⟩
 sub:=E.sub
 dis:=E.dis
 trk:=E.trk
theorem yD (i:Nat)(hN:X.N.Nodup)(hi:autoParam (X.N[i]? =some x) u_)(hx:autoParam (Loc X.env.scope x) y_)(hf:autoParam (X.fn x=true\/X.env.scope.names.lookup x=some .local) r_):xO X (.Name x pos) (gN i):=
 PG.imp (yT hN hi hx hf) λv σ H Q hh_=>by
  obtain⟨ρ,O,M,t,E,r,h⟩:=hh_;unfold gN at h
  split at h
  ·rename_i ρ' e
   split at e
   ·rename_i hl
    cases e;exact h _ (E.set hl r)
   ·cases e
  ·exact h.elim
def ug (ts:List T)(ρ:En):Rs En:=match ts with
 | [] => .ok ρ
 | _=> .bad
def kx (g:T->En->Rs En)(gs:List T->En->Rs En)(ts:List T)(ρ:En):Rs En:=match ts with
 | t::r=>do
  let ρ1 <-g t ρ
  gs r ρ1
 | [] => .bad
theorem yC:xP X [] ug:=PGs.imp yS λvs σ H Q hh_=>by
 obtain⟨ρ,O,M,ts,E,r,h⟩:=hh_;unfold ug at h
 cases ts with
 | nil=>exact⟨Reps.Da.mp r,h σ E⟩
 | cons _ _=>exact h.elim
theorem vG {g:T->En->Rs En}{gs:List T->En->Rs En}(h1:xO X e g)(h2:xP X es gs)
  (hs:autoParam ((ID (e::es) X.env).map (·.2)=assign e X.env::(ID es X.env).map (·.2)) u_):xP X (e::es) (kx g gs):=
 PGs.imp (vP h1 h2 hs) λvs σ H Q hh_=>by
  obtain⟨ρ,O,M,ts,E,r,h⟩:=hh_
  cases ts with
  | nil=>exact h.elim
  | cons t ts=>
   obtain⟨v,ws,rfl,p,q⟩:=Reps.AC.mp r;refine⟨v,ws,rfl,ρ,O,M,t,E,p,?_⟩
   unfold kx at h
   cases e1:g t ρ with
   | bad=>simp[e1]at h
   | err c=>simp[e1]at h
   | ok ρ1=>
    intro σ1 E1;refine⟨ρ1,O,M,ts,E1,q,?_⟩
    simp only[e1,aF]at h
    cases e2:gs ts ρ1 with
    | bad=>simp[e2]at h
    | err c=>simp[e2]at h
    | ok ρ2=>
     simp only[e2]at h;exact λσ2 E2=>h σ2 E2
def gT (n:Nat)(gs:List T->En->Rs En)(t:T)(ρ:En):Rs En:=match t with
 | .tup l=>if l.length=n then gs l ρ else .bad
 | _=> .bad
theorem BF {k n:Nat}{gs:List T->En->Rs En}(hc:X.calm=true)(h:xP X es gs)(hn:autoParam ((ID es X.env).length=n) u_)(hst:autoParam ((ID es X.env).findIdx? (·.1)=none) u_):xO X (.Tuple es k pos) (gT n gs):=
 PG.imp (BO hc h hn hst) λv σ H Q hh_=>by
  obtain⟨ρ,O,M,t,E,r,h⟩:=hh_;unfold gT at h
  cases t with
  | tup l=>
   obtain⟨a,vs,rfl,n',q,z⟩:=Rep.Fk.mp r
   by_cases hl:l.length=n
   ·simp only[if_pos hl]at h
    exact⟨a,vs,rfl,SqT.of q,by rw[<-z.length];exact hl,ρ,O,M,l,E,z,h⟩
   ·simp only[if_neg hl]at h
  | _=>exact h.elim
theorem SqL.nn {K:GW}{H:Hp}{a:Addr}{vs:List V}(q:SqL K H a vs):¬ Nw K H a:=λ⟨h1,h2⟩=>by
 rcases q with(q | ⟨o,q⟩) | ⟨o,_,_,q,_⟩
 ·rw[h1]at q;cases q
 ·rw[h1]at q;cases q
 ·rw[h2]at q;cases q
mutual
theorem Rep.more {K:GW}{O O':Ow}{H:Hp}(sub:∀a,O' a->O a\/Nw K H a):∀{t:T} {v:V},Rep K O H t v->Rep K O' H t v
 | .non,_,r=>by unfold Rep at r ⊢;exact r
 | .bl _,_,r=>by unfold Rep at r ⊢;exact r
 | .int _,_,r=>by unfold Rep at r ⊢;exact r
 | .str _,_,r=>by unfold Rep at r ⊢;exact r
 | .tup l,_,r=>by
  unfold Rep at r ⊢;obtain⟨a,vs,e,n,q,z⟩:=r
  exact⟨a,vs,e,λp=>(sub a p).elim n λw=>(by rw[w.1]at q;cases q),q,Reps.more sub z⟩
 | .lst l,_,r=>by
  unfold Rep at r ⊢;obtain⟨a,vs,e,n,q,z⟩:=r
  exact⟨a,vs,e,λp=>(sub a p).elim n λw=>(by rw[w.1]at q;cases q),q,Reps.more sub z⟩
 | .scr l,_,r=>by
  unfold Rep at r ⊢;obtain⟨a,e,n,q⟩:=r
  exact⟨a,e,λp=>(sub a p).elim n λw=>Tr.SqL.nn q w,q⟩
 | .dct ks ts,_,r=>by
  unfold Rep at r ⊢;obtain⟨a,kvs,e,n,q,k,z⟩:=r
  exact⟨a,kvs,e,λp=>(sub a p).elim n λw=>(by rcases q with q | ⟨_,q⟩ <;> rw[w.1]at q <;> cases q),q,k,Reps.more sub z⟩
 | .ob C ns ts,_,r=>by
  unfold Rep at r ⊢;obtain⟨a,dx,fs,e,n,q,k,z⟩:=r;exact⟨a,dx,fs,e,⟨⟨λp=>(sub a p).elim n.1.1 λw=>(by rw[w.1]at q;cases q),λp=>(sub dx p).elim n.1.2.1 λw=>(by have:=n.1.2.2;rw[w.1]at this;cases this),n.1.2.2⟩,n.2⟩,q,k,Reps.more sub z⟩
theorem Reps.more {K:GW}{O O':Ow}{H:Hp}(sub:∀a,O' a->O a\/Nw K H a):∀{l:List T} {vs:List V},Reps K O H l vs->Reps K O' H l vs
 | [],_,r=>by unfold Reps at r ⊢;exact r
 | t::l,_,r=>by
  unfold Reps at r ⊢;obtain⟨v,ws,e,p,q⟩:=r;exact⟨v,ws,e,Rep.more sub p,Reps.more sub q⟩
end
theorem Rep.move {K:GW}{O O' P:Ow}{H H':Hp}{t:T}{v:V}(hP:∀a,P a->O a\/Nw K H a)(hO:∀a,O' a->O a\/Nw K H a)(h:SameO P H H')(r:Rep K O H t v):Rep K O' H' t v:=
 Rep.less (O:=λa=>O' a\/P a) (λ_ z=> .inl z) (Rep.keep h (λ_ z=> .inr z) (Rep.more (λa z=>z.elim (hO a) (hP a)) r))
theorem Reps.move {K:GW}{O O' P:Ow}{H H':Hp}{t:List T}{v:List V}(hP:∀a,P a->O a\/Nw K H a)(hO:∀a,O' a->O a\/Nw K H a)(h:SameO P H H')(r:Reps K O H t v):Reps K O' H' t v:=
 Reps.less (O:=λa=>O' a\/P a) (λ_ z=> .inl z) (Reps.keep h (λ_ z=> .inr z) (Reps.more (λa z=>z.elim (hO a) (hP a)) r))
def ItT (K:GW)(O:Ow)(H:Hp)(ts:List T)(J:It):Prop:=∀(P O':Ow),(∀a,P a->O a\/Nw K H a)->(∀a,O' a->O a\/Nw K H a)->∀(i:Nat) (Hc:Hp),SameO P H Hc->(∀a,O' a->∃o,Hc a=some o) →
 (ts.length<=i->J.stop i Hc)/\(∀t,ts[i]? =some t->J.go i Hc/\∀x Hc',J.yld i Hc x Hc'->Same Hc Hc'/\Rep K O' Hc' t x)
def tPI (X:Cx)(f:En->Rs (List T)):TI:=λσ H R=> ∃ρ O,EnvO X.K O H ρ σ/\Post X H (f ρ) λts H'=> ∀J,ItT X.K O H' ts J->R J H'
abbrev xN (X:Cx)(tg iter:Expr)(f:En->Rs (List T)):Prop:=PI X tg iter (tPI X f)
theorem PI.imp {tg iter:Expr}{t t':TI}(h:PI X tg iter t)(w:∀σ H R,t' σ H R->t σ H R):PI X tg iter t':=λpins s σ H R I q=>h pins s σ H R I (w σ H R q)
def iL (f:En->Rs T)(ρ:En):Rs (List T):=do
 let x <-f ρ
 match x with
 | .lst l=> .ok l
 | _=> .bad
def iT (f:En->Rs T)(ρ:En):Rs (List T):=do
 let x <-f ρ
 match x with
 | .tup l=> .ok l
 | _=> .bad
theorem rR {tg:Expr}(ha:cR X a fa):xN X tg a (iL fa):=PI.imp (yQ ha) λσ H R hh_=>by
 obtain⟨ρ,O,E,h⟩:=hh_;obtain⟨ρ1,O1,E1,h1⟩:=aR E h;refine⟨ρ1,O1,E1,Post.mono h1 λts H1 s1 q vs r=> ?_⟩
 obtain⟨t',r',s',E',q'⟩:=q vs r
 split at q'
 ·rename_i l
  obtain⟨a,ws,rfl,n,q,z⟩:=Rep.FB.mp r';refine⟨a,rfl,⟨ws,SqL.of q⟩,q' H1 (Same.refl H1) _ λP O' hP hO i Hc hs ht=> ?_⟩
  have hnP:¬ P a:=λz=>(hP a z).elim n λw=>by rw[w.1]at q;cases q
  refine⟨λhi=>⟨ws,SqL.of (hs _ _ q hnP),by rw[<-z.length];exact hi⟩,λt ht'=> ?_⟩
  obtain⟨v,e1,e2⟩:=z.get ht';refine⟨⟨ws,v,SqL.of (hs _ _ q hnP),e1⟩,λx Hc' y=> ?_⟩
  obtain⟨e,y⟩:=y;subst e
  have:=y ws (SqL.of (hs _ _ q hnP));rw[e1]at this;cases this;exact⟨Same.refl _,e2.move hP hO hs⟩
 ·exact q'.elim
theorem BD {tg:Expr}(ha:cR X a fa):xN X tg a (iT fa):=PI.imp (BN ha) λσ H R hh_=>by
 obtain⟨ρ,O,E,h⟩:=hh_;obtain⟨ρ1,O1,E1,h1⟩:=aR E h;refine⟨ρ1,O1,E1,Post.mono h1 λts H1 s1 q vs r=> ?_⟩
 obtain⟨t',r',s',E',q'⟩:=q vs r
 split at q'
 ·rename_i l
  obtain⟨a,ws,rfl,n,q,z⟩:=Rep.Fk.mp r';refine⟨a,rfl,⟨ws,SqT.of q⟩,q' H1 (Same.refl H1) _ λP O' hP hO i Hc hs ht=> ?_⟩
  have hnP:¬ P a:=λz=>(hP a z).elim n λw=>by rw[w.1]at q;cases q
  refine⟨λhi=>⟨ws,SqT.of (hs _ _ q hnP),by rw[<-z.length];exact hi⟩,λt ht'=> ?_⟩
  obtain⟨v,e1,e2⟩:=z.get ht';refine⟨⟨ws,v,SqT.of (hs _ _ q hnP),e1⟩,λx Hc' y=> ?_⟩
  obtain⟨e,y⟩:=y;subst e
  have:=y ws (SqT.of (hs _ _ q hnP));rw[e1]at this;cases this;exact⟨Same.refl _,e2.move hP hO hs⟩
 ·exact q'.elim
def rng (lo hi:Int):List T:=(Io (hi - lo).toNat).map λ(k:Nat)=>T.int (lo+(k:Int))
def xV (i:Int):Bool:=decide (-(2 ^ 62)<=i)&&decide (i<2 ^ 62)
def iR (f:En->Rs (List T))(ρ:En):Rs (List T):=do
 let x <-f ρ
 match x with
 | [.int j] =>if xV j then .ok (rng 0 j)else .bad
 | [.int i,.int j] =>if xV i&&xV j then .ok (rng i j)else .bad
 | _=> .bad
theorem oi {i:Int}(h:xV i=true) : -(2 ^ 62)<=i/\i<2 ^ 62:=by
 unfold xV at h;rw[G6]at h;exact⟨of_decide_eq_true h.1,of_decide_eq_true h.2⟩
theorem sr {K:GW}{O:Ow}{H:Hp}(lo hi:Int):ItT K O H (rng lo hi) (Itr lo (hi - lo).toNat):=λP O' hP hO i Hc hs ht=>by
 refine⟨λh=> ?_,λt h=> ?_⟩
 ·show(hi - lo).toNat<=i
  unfold rng at h;rw[G3,Jv]at h;exact h
 ·unfold rng at h
  rw[HN]at h
  by_cases hi':i<(hi - lo).toNat
  ·rw[Ng hi']at h
   cases h;refine⟨hi',λx Hc' y=> ?_⟩
   obtain⟨e,y⟩:=y;subst e y;exact⟨Same.refl _,Rep.FP _⟩
  ·rw[JE (by simpa using hi')]at h
   cases h
theorem tJ {tg:Expr}(hm:X.mg "range" =none)(ha:oI X [a] fs)(hg:autoParam (Gl X "range") u_)(hs:autoParam (Hj [a] X.env= [(false,eval a X.env)]) u_):xN X tg (.Call (.Name "range" p) [a] [] pos) (iR fs):=by
 intro pins s σ H R I ⟨ρ,O,E,h⟩
 have h1:=dG E h;refine Call_ (dU I hg hm boot_range (IQ (bJ (ha pos pins s σ H _ I h1) λus s1 ⟨vs,H1,I1,r1,ts,rs,s',E',q1⟩=> ?_) hs rfl))
 split at q1
 ·obtain⟨v,rfl,r⟩:=rs.one
  split at q1
  ·rename_i j hj
   obtain⟨b1,b2⟩:=oi hj;cases Rep.Do.mp r
   cases r1 with
   | cons r rr=>
    cases rr;obtain⟨t,rfl⟩:=r;exact call_range_1 (pk I1 (by omega) (by omega) b1 b2 (q1 H1 (Same.refl H1) _ (sr 0 j)))
  ·exact q1.elim
 ·obtain⟨v,ws,rfl,p1,q⟩:=Reps.AC.mp rs
  obtain⟨v2,rfl,r⟩:=q.one
  split at q1
  ·rename_i i j hj
   rw[G6]at hj;obtain⟨b1,b2⟩:=oi hj.1;obtain⟨b3,b4⟩:=oi hj.2;cases Rep.Do.mp p1;cases Rep.Do.mp r
   cases r1 with
   | cons r rr=>
    cases rr with
    | cons r' rr=>
     cases rr;obtain⟨t,rfl⟩:=r;obtain⟨t',rfl⟩:=r';exact call_range_2 (pk I1 b1 b2 b3 b4 (q1 H1 (Same.refl H1) _ (sr i j)))
  ·exact q1.elim
 ·exact q1.elim
end
section
variable {X:Cx}{a b c e:Expr}{es:List Expr}{fa fb fc:En->Rs T}{fs:En->Rs (List T)}{pos p p2:Pos}{x:Str}
def cj (src:List (Option Nat))(ρ:En):En:=src.map λo=>match o with
 | some i=>match ρ[i]? with
  | some (.va t)=> .va t
  | _=> .em
 | none=> .em
def cv (tgt:T->En->Rs En)(fc:En->Rs Bool)(fe:En->Rs T):List T->En->Rs (List T)
 | [],_=> .ok []
 | t::r,ρ=>do
  let ρ1 <-tgt t ρ
  let k <-fc ρ1
  if k then do
   let y <-fe ρ1
   let ys <-cv tgt fc fe r ρ1
   .ok (y::ys)
  else cv tgt fc fe r ρ1
def fz (fi:En->Rs (List T))(src:List (Option Nat))(tgt:T->En->Rs En)(fc:En->Rs Bool)(fe:En->Rs T)(ρ:En):Rs T:=do
 let ts <-fi ρ
 if ts.length<=sizeLine then match cv tgt fc fe ts (cj src ρ)with
  | .ok ys=> .ok (.lst ys)
  | _=> .bad
 else .bad
def bT (_:En):Rs Bool:=.ok true
def tP0 (K:GW)(f:En->Rs T):TE:=λσ H Q=> ∃ρ O,EnvO K O H ρ σ/\match f ρ with
 | .ok t=> ∀H',Same H H'->∀v,Rep K O H' t v->Q v H'
 | _=>False
def tPT0 (K:GW)(f:En->Rs Bool):TT:=λσ H Q=> ∃ρ O,EnvO K O H ρ σ/\match f ρ with
 | .ok t=> ∀H',Same H H'->Q t H'
 | _=>False
theorem tP0.up {f:En->Rs T}{σ:L2.St}{H:Hp}{Q:VK}(h:tP0 X.K f σ H Q):tP X f σ H Q:=by
 obtain⟨ρ,O,E,h⟩:=h;refine⟨ρ,O,E,?_⟩
 cases q:f ρ with
 | ok t=>rw[q]at h;exact h
 | err c=>rw[q]at h;exact h.elim
 | bad=>rw[q]at h;exact h.elim
theorem tPT0.up {f:En->Rs Bool}{σ:L2.St}{H:Hp}{Q:Bool->Hp->Prop}(h:tPT0 X.K f σ H Q):uD X f σ H Q:=by
 obtain⟨ρ,O,E,h⟩:=h;refine⟨ρ,O,E,?_⟩
 cases q:f ρ with
 | ok t=>rw[q]at h;exact h
 | err c=>rw[q]at h;exact h.elim
 | bad=>rw[q]at h;exact h.elim
theorem yA:ql X [] (uD X bT):=λpins s σ H Q I ⟨ρ,O,E,h⟩=>yP pins s σ H Q I (h H (Same.refl H))
theorem yz {f:En->Rs Bool}(h:xM X c f):ql X [c] (uD X f):=yO h
abbrev noM:Mn:=λ_ _=>False
theorem tW {src:List (Option Nat)}{ρ:En}{j:Nat}{o:OT}(e:(cj src ρ)[j]? =some (.ow o)):False:=by
 unfold cj at e;rw[HN]at e
 cases q:src[j]? with
 | none=>rw[q]at e;cases e
 | some o'=>
  rw[q]at e
  cases o' with
  | none=>cases e
  | some i=>
   have e':(match ρ[i]? with | some (Sl.va t)=>Sl.va t | _=>Sl.em)=Sl.ow o:=HW e
   split at e' <;> cases e'
theorem wH {K:GW}{O:Ow}{H:Hp}{ρ:En}{σ:L2.St}(E:EnvO K O H ρ σ)(src:List (Option Nat)):EnvM K O noM H (cj src ρ) (c9 src σ) where
 len:=by unfold cj c9;rw[G3,G3]
 val:=λj t e=>by
  unfold cj at e;unfold c9;rw[HN]at e ⊢
  cases q:src[j]? with
  | none=>rw[q]at e;cases e
  | some o=>
   rw[q]at e
   cases o with
   | none=>cases e
   | some i=>
    have e':(match ρ[i]? with | some (Sl.va t)=>Sl.va t | _=>Sl.em)=Sl.va t:=HW e
    cases q2:ρ[i]? with
    | none=>rw[q2]at e';cases e'
    | some z=>
     rw[q2]at e'
     cases z with
     | em=>cases e'
     | ow l=>cases e'
     | va t'=>
      cases e';obtain⟨v,e1,e2⟩:=E.val i _ q2;exact⟨v,by simp[e1],e2⟩
 own:=λj o e=>(tW e).elim
 sub:=λ_ _ z=>z.elim
 dis:=λ_ _ _ z=>z.elim
 trk:=E.mtb
theorem ORep.no {K:GW}{O:Ow}{H:Hp}{o:OT}{v:V}(r:ORep K O wq H o v):False:=by
 cases o with
 | lst l=>obtain⟨a,_,_,e,_⟩:=r;exact(e a).mpr rfl
 | dct ks ts=>obtain⟨a,_,_,e,_⟩:=r;exact(e a).mpr rfl
 | dd ks rows=>obtain⟨a,_,_,_,e,_⟩:=r;exact(e a).mpr (.inl rfl)
 | ob C ns ls=>obtain⟨a,_,_,_,e,_⟩:=r;exact(e a).mpr (.inl rfl)
 | ll ls=>obtain⟨a,_,_,e,_⟩:=r;exact(e a).mpr (.inl rfl)
theorem EnvM.move {K:GW}{O O' P:Ow}{H H':Hp}{ρ:En}{σ:L2.St}(E:EnvM K O noM H ρ σ)(hP:∀a,P a->O a\/Nw K H a)(hO:∀a,O' a->O a\/Nw K H a)(h:SameO P H H')(trk:∀a,O' a->Mtb H' a):EnvM K O' noM H' ρ σ where
 len:=E.len
 val:=λi t e=>let ⟨v,e1,e2⟩:=E.val i t e;⟨v,e1,e2.move hP hO h⟩
 own:=λi o e=>let ⟨_,_,r⟩:=E.own i o e;r.no.elim
 sub:=λ_ _ z=>z.elim
 dis:=λ_ _ _ z=>z.elim
 trk:=trk
def C3 (fi:En->Rs (List T))(src:List (Option Nat))(tgt:T->En->Rs En)(fc:En->Rs Bool)(fe:En->Rs T)(ρ:En):Rs (List T):=fi ρ >>= λts=>if ts.length<=sizeLine then(match cv tgt fc fe ts (cj src ρ)with | .ok ys=>Rs.ok ys | _=> .bad)else .bad
theorem wG {src:List (Option Nat)}{fi:En->Rs (List T)}{tgt:T->En->Rs En}{fc:En->Rs Bool}{fe:En->Rs T}{ρ:En}:fz fi src tgt fc fe ρ=C3 fi src tgt fc fe ρ >>= λl=> .ok (.lst l):=by
 unfold fz C3
 cases fi ρ with
 | bad=>rfl
 | err c=>rfl
 | ok ts=>
  rw[aF,aF]
  by_cases hz:ts.length<=sizeLine
  ·rw[if_pos hz,if_pos hz]
   cases cv tgt fc fe ts (cj src ρ) <;> rfl
  ·rw[if_neg hz,if_neg hz];rfl
abbrev LcW (K:GW)(O':Ow)(D:Addr)(H1:Hp)(ts:List T)(tgt:T->En->Rs En)(fc:En->Rs Bool)(fe:En->Rs T)(all:List T)(i m:Nat)(σ':L2.St)(ys:List V)(H':Hp):Prop:=m=ts.length - i/\i<=ts.length/\ys.length<=i/\H' D=some (.lst ys)/\SameO (λa=>a=D) (cz H1 D (.lst [])) H'/\∃ρ' yts zs,EnvM K O' noM H' ρ' σ'/\Reps K O' H' yts ys/\cv tgt fc fe (ts.drop i) ρ'= .ok zs/\yts++zs=all
theorem LcW.use {K:GW}{O':Ow}{D:Addr}{H1 H':Hp}{ts all:List T}{tgt:T->En->Rs En}{fc:En->Rs Bool}{fe:En->Rs T}{i m:Nat}{σ':L2.St}{ys:List V}(w:LcW K O' D H1 ts tgt fc fe all i m σ' ys H'){Pp:Prop}(k:m=ts.length - i->i<=ts.length->ys.length<=i->H' D=some (.lst ys)->SameO (λa=>a=D) (cz H1 D (.lst [])) H'->∀ρ' yts zs,EnvM K O' noM H' ρ' σ'->Reps K O' H' yts ys->cv tgt fc fe (ts.drop i) ρ'= .ok zs->yts++zs=all->Pp):Pp:=by
 obtain⟨a1,a2,a3,a4,a5,ρ',yts,zs,b1,b2,b3,b4⟩:=w;exact k a1 a2 a3 a4 a5 ρ' yts zs b1 b2 b3 b4
theorem wB {src:List (Option Nat)}{fi:En->Rs (List T)}{tgt:T->En->Rs En}{fc:En->Rs Bool}{fe:En->Rs T}{σ:L2.St}{H:Hp}{Q:VK}{ρ:En}{O:Ow}(E:EnvO X.K O H ρ σ)
  (hq1:Post X H (C3 fi src tgt fc fe ρ) λall H1=> ∀D ys H',Nw X.K H1 D->Same H1 H'->H' D=some (.lst ys)->Reps X.K (λa=>O a\/a=D) H' all ys->Q (.ref D) H'):A9 X.K (tPI X fi) src (xT X tgt) (tPT0 X.K fc) (tP0 X.K fe) σ H Q:=by
 unfold C3 at hq1;refine⟨ρ,O,E,Post.mono hq1.bind λts H1 s1 q1 J hJ D hD hK=> ?_⟩
 have E1:=E.same s1
 by_cases hz:ts.length<=sizeLine
 ·rw[if_pos hz]at q1
  cases hall:cv tgt fc fe ts (cj src ρ)with
  | bad=>rw[hall]at q1;exact q1.elim
  | err c=>rw[hall]at q1;exact q1.elim
  | ok all=>
   rw[hall]at q1
   have q2:∀D ys H',Nw X.K H1 D->Same H1 H'->H' D=some (.lst ys)->Reps X.K (λa=>O a\/a=D) H' all ys->Q (.ref D) H':=q1 H1 (Same.refl H1)
   have nD:Nw X.K H1 D:=⟨hD,hK⟩
   let O':Ow:=λa=>O a\/a=D
   have subO:∀a,O' a->O a\/Nw X.K H1 a:=λa z=>z.elim .inl λw=> .inr (w▸nD)
   -- the walk's word
   refine⟨LcW X.K O' D H1 ts tgt fc fe all,⟨ts.length,?_⟩,?_⟩
   ·have sN:Same H1 (cz H1 D (.lst [])):=aW hD _
    refine⟨by omega,HZ _,He _,aT,λb o e _=>e,cj src ρ,[],all,?_,Reps.FO,by simpa using hall,rfl⟩
    have E2:EnvM X.K O noM H1 (cj src ρ) (c9 src σ):=wH E1 src
    exact E2.move (P:=λa=>a=D) (λa z=> .inr (z▸nD)) subO (λb o e _=>sN b o e) λa z=>by
     rcases z with z | z
     ·exact(E1.mtb a z).same sN
     ·rw[z];exact .inl ⟨_,aT⟩
   ·refine λi m σ' ys H' w=>w.use λe0 hi' hyl hDl hsm ρ' yts zs E' ry hl hyz=> ?_
    subst e0;refine⟨hDl,?_⟩
    have sm1:SameO (λa=>a=D) H1 H':=λb o e nb=>hsm b o (by rw[aN nb];exact e) nb
    have it:=hJ (λa=>a=D) O' (λa z=> .inr (z▸nD)) subO i H' sm1 (λa z=>(E'.trk a z).some)
    by_cases hlt:i<ts.length
    ·refine .inr ?_
     have hti:ts[i]? =some ts[i]:=by simp
     obtain⟨go,yl⟩:=it.2 ts[i] hti;refine⟨go,by omega,λxx Hc y=> ?_⟩
     obtain⟨sc,rx⟩:=yl xx Hc y
     have Ec:=E'.same sc;rw[Jf hlt]at hl;unfold cv at hl;refine⟨ρ',O',noM,ts[i],Ec,rx,?_⟩
     cases e1:tgt ts[i] ρ' with
     | bad=>rw[e1]at hl;cases hl
     | err cc=>rw[e1]at hl;cases hl
     | ok ρ1=>
      rw[e1,aF]at hl;intro σ1 Eg;refine⟨ρ1,O',⟨noM,Eg⟩,?_⟩
      cases e2:fc ρ1 with
      | bad=>rw[e2]at hl;cases hl
      | err cc=>rw[e2]at hl;cases hl
      | ok k=>
       rw[e2,aF]at hl;intro H3 s3
       have E3:=Eg.same s3
       have tot:Same H' H3:=sc.trans s3
       have D3:H3 D=some (.lst ys):=tot _ _ hDl
       have sm3:SameO (λa=>a=D) (cz H1 D (.lst [])) H3:=λb o e nb=>tot _ _ (hsm b o e nb)
       cases k with
       | false=>
        refine L2.iteF ?_
        have hl':cv tgt fc fe (ts.drop (i+1)) ρ1= .ok zs:=by simpa using hl
        exact⟨ts.length - (i+1),by omega,rfl,hlt,by omega,D3,sm3,ρ1,yts,zs,E3,ry.same tot,hl',hyz⟩
       | true=>
        refine L2.iteT ?_
        have hl':(fe ρ1 >>= λy=>cv tgt fc fe (ts.drop (i+1)) ρ1 >>= λys=>Rs.ok (y::ys))= .ok zs:=by simpa using hl
        refine⟨ρ1,O',⟨noM,E3⟩,?_⟩
        cases e3:fe ρ1 with
        | bad=>rw[e3]at hl';cases hl'
        | err cc=>rw[e3]at hl';cases hl'
        | ok yt=>
         rw[e3,aF]at hl'
         cases e4:cv tgt fc fe (ts.drop (i+1)) ρ1 with
         | bad=>rw[e4]at hl';cases hl'
         | err cc=>rw[e4]at hl';cases hl'
         | ok zs'=>
          rw[e4,aF]at hl'
          have hzs:yt::zs'=zs:=by injection hl'
          intro H4 s4 v rv
          have D4:H4 D=some (.lst ys):=s4 _ _ D3
          have E4:=E3.same s4
          have tot4:Same H' H4:=tot.trans s4
          have smD:SameO (λa=>a=D) H4 (cz H4 D (.lst (ys++ [v]))):=λb o e nb=>by rw[aN nb];exact e
          have inO:∀a,a=D->O' a\/Nw X.K H4 a:=λa z=> .inl (.inr z)
          refine⟨D4,ts.length - (i+1),by omega,rfl,hlt,?_,aT,λb o e nb=>smD b o (s4 _ _ (sm3 b o e nb)) nb,ρ1,yts++ [yt],zs',?_,?_,e4,?_⟩
          ·rw[GY,Ik];omega
          ·exact E4.move inO (λa z=> .inl z) smD λaa z=>by
            by_cases hz:aa=D
            ·rw[hz];exact .inl ⟨_,aT⟩
            ·unfold Mtb;rw[aN hz];exact E4.trk aa z
          ·have r1:Reps X.K O' H4 (yts++ [yt]) (ys++ [v]):=(ry.same tot4).append (Reps.FL rv Reps.FO)
           exact r1.move inO (λa z=> .inl z) smD
          ·rw[Hs,List.singleton_append,hzs];exact hyz
    ·refine .inl ⟨it.1 (by omega),?_⟩
     have hi2:i=ts.length:=by omega
     subst hi2;rw[Mo]at hl
     have hzs:zs= []:=by unfold cv at hl;injection hl with hl;exact hl.symm
     subst hzs;rw[Ii]at hyz;subst hyz
     have sF:Same H1 H':=λb o e=>sm1 b o e λz=>by rw[z,hD]at e;cases e
     exact q2 D ys H' nD sF hDl ry
 ·rw[if_neg hz]at q1
  exact q1.elim
theorem oa {src:List (Option Nat)}{fi:En->Rs (List T)}{tgt:T->En->Rs En}{fc:En->Rs Bool}{fe:En->Rs T}{σ:L2.St}{H:Hp}{Q:VK}(h0:tP X (fz fi src tgt fc fe) σ H Q):A9 X.K (tPI X fi) src (xT X tgt) (tPT0 X.K fc) (tP0 X.K fe) σ H Q:=by
 obtain⟨ρ,O,E,hq⟩:=h0;refine wB E ?_
 have e:fz fi src tgt fc fe ρ=C3 fi src tgt fc fe ρ >>= λl=> .ok (.lst l):=wG
 rw[e]at hq
 cases q:C3 fi src tgt fc fe ρ with
 | bad=>rw[q]at hq;exact hq.elim
 | err c=>rw[q]at hq;exact hq
 | ok l=>
  rw[q,aF]at hq;intro H1 s1 D ys H' nD sD eD rD;exact hq H' (s1.trans sD) _ (Rep.FB.mpr ⟨D,ys,rfl,λz=>(E.same s1).fresh nD.1 z,eD,rD.less λa z=> .inl z⟩)
theorem q_lc {elt tg iter:Expr}{ifs:List Expr}{scope:J8}{N':List Str}{src:List (Option Nat)}{fi:En->Rs (List T)}{tgt:T->En->Rs En}{fc:En->Rs Bool}{fe:En->Rs T}
  (hc:X.calm=true) (S:LcScope X scope N' src) (hi:xN X tg iter fi)
  (block:∀cl C s₀ H₀ fp,xO (aY X scope cl N' C s₀ H₀ fp) tg tgt/\ql (aY X scope cl N' C s₀ H₀ fp) ifs (uD (aY X scope cl N' C s₀ H₀ fp) fc)/\cR (aY X scope cl N' C s₀ H₀ fp) elt fe)
  (hs:autoParam (∀x,Hw iter X.env x=pure x) t_) :
  cR X (.ListComp elt [⟨tg,iter,ifs,0⟩] scope pos) (fz fi src tgt fc fe):=by
 have hPG:∀cl C s₀ H₀ fp,PG (aY X scope cl N' C s₀ H₀ fp) tg (xT X tgt):=λcl C s₀ H₀ fp=>(block cl C s₀ H₀ fp).1
 have hPI:∀cl C s₀ H₀ fp,ql (aY X scope cl N' C s₀ H₀ fp) ifs (tPT0 X.K fc):=λcl C s₀ H₀ fp pins s σ H Q I h=>(block cl C s₀ H₀ fp).2.1 pins s σ H Q I (tPT0.up (X:=aY X scope cl N' C s₀ H₀ fp) h)
 have hPE:∀cl C s₀ H₀ fp,PE (aY X scope cl N' C s₀ H₀ fp) elt (tP0 X.K fe):=λcl C s₀ H₀ fp pins s σ H Q I h=>(block cl C s₀ H₀ fp).2.2 pins s σ H Q I (tP0.up (X:=aY X scope cl N' C s₀ H₀ fp) h)
 exact PE.imp (vV (g:=xT X tgt) (tc:=tPT0 X.K fc) (te:=tP0 X.K fe) hc S hi (λcl C s₀ H₀ fp=>⟨hPG cl C s₀ H₀ fp,hPI cl C s₀ H₀ fp,hPE cl C s₀ H₀ fp⟩) hs) λσ H Q h=>oa h
inductive Fl where
 | nx (ρ:En) | rt (t:T) | bk (ρ:En) | ct (ρ:En)
def OO (B:Ow)(M:Mn):Ow:=λa=>B a\/M.u a
structure Ev (K:GW)(B:Ow)(M:Mn)(H:Hp)(ρ:En)(σ:L2.St):Prop where
 env:EnvM K (OO B M) M H ρ σ
 mine:∀a,M.u a->¬ B a
theorem Ev.same {K:GW}{B:Ow}{M:Mn}{H H':Hp}{ρ:En}{σ:L2.St}(h:Same H H')(e:Ev K B M H ρ σ):Ev K B M H' ρ σ:=⟨e.env.same h,e.mine⟩
theorem Ev.o {K:GW}{B:Ow}{M:Mn}{H:Hp}{ρ:En}{σ:L2.St}(e:Ev K B M H ρ σ):EnvO K (OO B M) H ρ σ:=⟨M,e.env⟩
def PostF (X:Cx)(B P:Ow)(H:Hp)(r:Rs Fl)(D:Ends):Prop:=match r with
 | .ok (.nx ρ')=> ∀σ' H' M',SameO P H H'->Ev X.K B M' H' ρ' σ'->(∀a,M'.u a->P a\/Nw X.K H a)->D.nx σ' H'
 | .ok (.rt t)=> ∀v H',SameO P H H'->Rep X.K B H' t v->D.rt v H'
 | .ok (.bk ρ')=> ∀σ' H' M',SameO P H H'->Ev X.K B M' H' ρ' σ'->(∀a,M'.u a->P a\/Nw X.K H a)->D.bk σ' H'
 | .ok (.ct ρ')=> ∀σ' H' M',SameO P H H'->Ev X.K B M' H' ρ' σ'->(∀a,M'.u a->P a\/Nw X.K H a)->D.ct σ' H'
 | .err c=>XA X P H c
 | .bad=>False
def Fv (X:Cx)(F:En->Rs Fl):TS:=λD σ H=> ∃ρ B M,Ev X.K B M H ρ σ/\PostF X B M.u H (F ρ) D
abbrev sZ (X:Cx)(s:Stmt)(F:En->Rs Fl):Prop:=PS X s (Fv X F)
abbrev lW (X:Cx)(s:List Stmt)(F:En->Rs Fl):Prop:=PSs X s (Fv X F)
theorem PostF.later {B P P1:Ow}{H H1:Hp}{r:Rs Fl}{D:Ends}(h:PostF X B P H r D)(s:SameO P H H1)(sub:∀a,P1 a->P a\/Nw X.K H a):PostF X B P1 H1 r D:=by
 have back:∀a,P1 a\/Nw X.K H1 a->P a\/Nw X.K H a:=λa z=>z.elim (sub a) (hZ s)
 cases r with
 | bad=>exact h
 | err c=>exact XA.later h s sub
 | ok f=>
  cases f with
  | nx ρ'=>exact λσ' H' M' s' E' o'=>h σ' H' M' (s.trans s' sub) E' λa z=>back a (o' a z)
  | rt t=>exact λv H' s' r=>h v H' (s.trans s' sub) r
  | bk ρ'=>exact λσ' H' M' s' E' o'=>h σ' H' M' (s.trans s' sub) E' λa z=>back a (o' a z)
  | ct ρ'=>exact λσ' H' M' s' E' o'=>h σ' H' M' (s.trans s' sub) E' λa z=>back a (o' a z)
theorem PostF.xa {B P:Ow}{H:Hp}{c:Str}{D:Ends}(h:PostF X B P H (.err c) D):XA X wq H c:=XA.later (P:=P) h (λ_ _ e _=>e) λ_ z=>z.elim
def sN (ρ:En):Rs Fl:=.ok (.nx ρ)
def aI (F G:En->Rs Fl)(ρ:En):Rs Fl:=do
 let f <-F ρ
 match f with
 | .nx ρ'=>G ρ'
 | f=> .ok f
theorem By:lW X [] sN:=PSs.imp rS λD σ H ⟨ρ,B,M,E,h⟩=>h σ H M (λ_ _ e _=>e) E λa z=> .inl z
theorem yw {st:Stmt}{a9:List Stmt}{F G:En->Rs Fl}(h1:sZ X st F)(h2:lW X a9 G):lW X (st::a9) (aI F G):=PSs.imp (kZ h1 h2) λD σ H hh_=>by
 obtain⟨ρ,B,M,E,h⟩:=hh_;refine⟨ρ,B,M,E,?_⟩
 unfold aI at h
 cases q:F ρ with
 | bad=>rw[q]at h;exact h.elim
 | err c=>rw[q]at h;exact h
 | ok f=>
  rw[q,aF]at h
  cases f with
  | nx ρ'=>exact λσ' H' M' s' E' o'=>⟨ρ',B,M',E',h.later s' o'⟩
  | rt t=>exact h
  | bk ρ'=>exact h
  | ct ρ'=>exact h
theorem Bx {st:Stmt}{F:En->Rs Fl}(h:sZ X st F):lW X [st] F:=hW h
def aL (f:En->Rs T)(ρ:En):Rs Fl:=do
 let t <-f ρ
 .ok (.rt t)
theorem Bw (ha:cR X a fa):sZ X (.Return (some a) pos) (aL fa):=PS.imp (k4 ha) λD σ H hh_=>by
 obtain⟨ρ,B,M,E,h⟩:=hh_;refine⟨ρ,OO B M,E.o,?_⟩
 unfold aL at h
 cases q:fa ρ with
 | bad=>rw[q]at h;exact h.elim
 | err c=>rw[q]at h;exact PostF.xa h
 | ok t=>
  rw[q,aF]at h;exact λH' s v r=>h v H' (SameO.of s) (r.less λ_ z=> .inl z)
def ei (f:En->Rs Bool)(F G:En->Rs Fl)(ρ:En):Rs Fl:=do
 let k <-f ρ
 if k then F ρ else G ρ
theorem DQ {f:En->Rs Bool}{A B:List Stmt}{F G:En->Rs Fl}(hc:xM X c f)(ha:lW X A F)(hb:lW X B G):sZ X (.If c A B pos) (ei f F G):=PS.imp (Ay hc ha hb) λD σ H hh_=>by
 obtain⟨ρ,B,M,E,h⟩:=hh_;refine⟨ρ,OO B M,E.o,?_⟩
 unfold ei at h
 cases q:f ρ with
 | bad=>rw[q]at h;exact h.elim
 | err c=>rw[q]at h;exact PostF.xa h
 | ok k=>
  rw[q,aF]at h;intro H' s
  have E':Ev X.K B M H' ρ σ:=E.same s
  cases k with
  | true=>refine L2.iteT ?_;exact⟨ρ,B,M,E',PostF.later (by simpa using h) (SameO.of s) λa z=> .inl z⟩
  | false=>refine L2.iteF ?_;exact⟨ρ,B,M,E',PostF.later (by simpa using h) (SameO.of s) λa z=> .inl z⟩
def c6 (f:En->Rs T)(g:T->En->Rs En)(ρ:En):Rs Fl:=do
 let t <-f ρ
 match g t ρ with
 | .ok ρ'=> .ok (.nx ρ')
 | _=> .bad
theorem qC {B:Ow}{M:Mn}{ρ:En}{σ:L2.St}{H:Hp}{D:Ends}{g:T->En->Rs En}{f:En->Rs T}(E:Ev X.K B M H ρ σ)(h:PostF X B M.u H (c6 f g ρ) D):vi (tP X f) (xT X g) D σ H:=by
 refine⟨ρ,OO B M,E.o,?_⟩
 unfold c6 at h
 cases q:f ρ with
 | bad=>rw[q]at h;exact h.elim
 | err c=>rw[q]at h;exact PostF.xa h
 | ok t=>
  rw[q,aF]at h;intro H' s v r;refine⟨ρ,OO B M,M,t,E.env.same s,r,?_⟩
  cases q2:g t ρ with
  | bad=>rw[q2]at h;exact h.elim
  | err c=>rw[q2]at h;exact h.elim
  | ok ρ'=>
   rw[q2]at h;exact λσ' E'=>h σ' H' M (SameO.of s) ⟨E',E.mine⟩ λa z=> .inl z
theorem yf {f:En->Rs T}{σ:L2.St}{H:Hp}{Q Q':VK}(h:tP X f σ H Q)(w:∀v H',Q v H'->Q' v H'):tP X f σ H Q':=by
 obtain⟨ρ,O,E,q⟩:=h;exact⟨ρ,O,E,Post.mono q λt H' _ z v r=>w v H' (z v r)⟩
theorem DP {elt tg iter:Expr}{ifs:List Expr}{scope:J8}{spos py:Pos}{N':List Str}{src:List (Option Nat)}{fi:En->Rs (List T)}{tgt:T->En->Rs En}{fc:En->Rs Bool}{fe:En->Rs T}(i:Nat){y:Str}
  (hc:X.calm=true) (S:LcScope X scope N' src) (hi:xN X tg iter fi)
  (block:∀cl C s₀ H₀ fp,xO (aY X scope cl N' C s₀ H₀ fp) tg tgt/\ql (aY X scope cl N' C s₀ H₀ fp) ifs (uD (aY X scope cl N' C s₀ H₀ fp) fc)/\cR (aY X scope cl N' C s₀ H₀ fp) elt fe)
  (hN:X.N.Nodup) (hiy:autoParam (X.N[i]? =some y) u_) (hy:autoParam (Loc X.env.scope y) y_) (hsw:autoParam (Kj (.ListComp elt [⟨tg,iter,ifs,0⟩] scope pos) (some (.Name y py)) spos.line X.env=pure true) u_)
  (hf:autoParam (X.fn y=true\/X.env.scope.names.lookup y=some .local) r_) (hs:autoParam (∀x,Hw iter X.env x=pure x) t_) :
  sZ X (.Assign [.Name y py] (.ListComp elt [⟨tg,iter,ifs,0⟩] scope pos) spos) (c6 (fz fi src tgt fc fe) (gN i)):=by
 have hPG:∀cl C s₀ H₀ fp,PG (aY X scope cl N' C s₀ H₀ fp) tg (xT X tgt):=λcl C s₀ H₀ fp=>(block cl C s₀ H₀ fp).1
 have hPI:∀cl C s₀ H₀ fp,ql (aY X scope cl N' C s₀ H₀ fp) ifs (tPT0 X.K fc):=λcl C s₀ H₀ fp pins s σ H Q I h=>(block cl C s₀ H₀ fp).2.1 pins s σ H Q I (tPT0.up (X:=aY X scope cl N' C s₀ H₀ fp) h)
 have hPE:∀cl C s₀ H₀ fp,PE (aY X scope cl N' C s₀ H₀ fp) elt (tP0 X.K fe):=λcl C s₀ H₀ fp pins s σ H Q I h=>(block cl C s₀ H₀ fp).2.2 pins s σ H Q I (tP0.up (X:=aY X scope cl N' C s₀ H₀ fp) h)
 refine PS.imp (Ea (g:=xT X tgt) (tc:=tPT0 X.K fc) (te:=tP0 X.K fe) (i:=i) hc S hi (λcl C s₀ H₀ fp=>⟨hPG cl C s₀ H₀ fp,hPI cl C s₀ H₀ fp,hPE cl C s₀ H₀ fp⟩) hN hiy hy hsw hf hs) λD σ H ⟨ρ,B,M,E,h⟩=>oa (yf (qC E h) λv H' z=> ?_)
 obtain⟨ρ',O,M',t,E',r,q⟩:=z;unfold gN at q
 split at q
 ·rename_i ρ2 e
  split at e
  ·rename_i hl
   cases e;exact q _ (E'.set hl r)
  ·cases e
 ·exact q.elim
theorem BC {tg:Expr}{g:T->En->Rs En}(ha:cR X a fa)(hg:xO X tg g)(hs:autoParam (KD [tg] a pos.line X.env=pure false) u_)(hw:autoParam (KF [tg] a X.env=pure none) u_)
  (h1:autoParam ((ID [tg] X.env).map (·.2)= [assign tg X.env]) u_):sZ X (.Assign [tg] a pos) (c6 fa g):=PS.imp (BM ha hg hs hw h1) λD σ H ⟨ρ,B,M,E,h⟩=>qC E h
def vz (f:En->Rs T)(ρ:En):Rs Fl:=do
 let _ <-f ρ
 .ok (.nx ρ)
theorem yv (ha:cR X a fa)(hs:autoParam (Kj a none pos.line X.env=pure false) u_):sZ X (.Expr a pos) (vz fa):=PS.imp (rV ha hs) λD σ H hh_=>by
 obtain⟨ρ,B,M,E,h⟩:=hh_;refine⟨ρ,OO B M,E.o,?_⟩
 unfold vz at h
 cases q:fa ρ with
 | bad=>rw[q]at h;exact h.elim
 | err c=>rw[q]at h;exact PostF.xa h
 | ok t=>
  rw[q,aF]at h;exact λH' s v r=>h σ H' M (SameO.of s) (E.same s) λa z=> .inl z
def bF (g:T->En->Rs En)(F:En->Rs Fl):List T->En->Rs Fl
 | [],ρ=> .ok (.nx ρ)
 | t::r,ρ=>do
  let ρ1 <-g t ρ
  let f <-F ρ1
  match f with
  | .nx ρ2=>bF g F r ρ2
  | .ct ρ2=>bF g F r ρ2
  | .bk ρ2=> .ok (.nx ρ2)
  | .rt t=> .ok (.rt t)
def gy (fi:En->Rs (List T))(g:T->En->Rs En)(F:En->Rs Fl)(ρ:En):Rs Fl:=do
 let ts <-fi ρ
 match bF g F ts ρ with
 | .ok f=> .ok f
 | _=> .bad
theorem fV {α:Type}{t:Sem α}{Q:α->GX->Prop}{s:GX}{E:GZ->GX->Prop}{P:Hr}{w:HS}{A:HF}(h:wpAny (model P w) A t Q (λ_ _=>False) s):wpAny (model P w) A t Q E s:=HX h (λ_ _ q=>q) λ_ _ z=>z.elim
theorem yK {tg iter:Expr}{body:List Stmt}{wi:TI}{g:TG}{tb:TS}{pos:Pos}(hc:X.calm=true)(hi:PI X tg iter wi)(hg:PG X.nox tg g)(hb:PSs X.nox body tb)
  (hs:autoParam (∀x,Hw iter X.env x=pure x) t_):PS X (.For tg iter body [] pos) (Du wi g tb):=by
 intro pins s σ H D I h;refine wpAny_For (bJ (hi pins s σ H _ I h) λv s1 h1=>bJ h1 λitv s2 h2=> ?_) hs
 obtain⟨it,fp,tn,J,H2,e,I2,T,st2,f2,W,⟨m0,w0⟩,turn⟩:=h2;subst e
 have stat:∀{H':Hp},(∀b∈fp,H' b=none)->∀b∈fp,ir X pins H' b:=λhn b hb=>⟨hn b hb,(f2 b hb).2⟩
 refine codeAny_forLoop_any (λn s'=> ∃i σ' H',Inv X pins σ' H' s'/\tn i s'.heap/\(∀b∈fp,H' b=none)/\W i n σ' H') ?_ m0 ⟨0,σ,H2,I2,st2,λb hb=>(f2 b hb).1,w0⟩
 rintro n s3 ⟨i,σ3,H3,I3,st3,fr3,w3⟩
 rcases turn i n σ3 H3 w3 with⟨stop,qn⟩ | ⟨go,N,hN,step⟩
 ·refine fV (bJ (T.done X.nox rfl rfl rfl hc i pins s3 σ3 H3 _ (I3.FJ _) (stat fr3) st3 stop) λr s4 ⟨hr,I4⟩=> ?_)
  subst hr;exact Kd ⟨σ3,H3,I4.FJ _,qn⟩
 ·refine fV (bJ (T.item X.nox rfl rfl rfl hc i pins s3 σ3 H3 _ (I3.FJ _) (stat fr3) st3 go) λr s4 ⟨u,hr,h4⟩=> ?_)
  subst hr;refine fV (bJ h4 λ_ s5 hh_=> ?_)
  obtain⟨x,H5,I5,r5,y5,st5,fr5⟩:=hh_
  have I5':=Inv.pinned (X:=X.nox) I5 (stat fr5) (T.obj _ _ st5);refine fV (bJ (hg _ s5 σ3 H5 x u _ I5' r5 (step x H5 y5)) λ_ s6 hh_=> ?_)
  obtain⟨σ6,H6,I6,q6⟩:=hh_;refine fV (bJ (hb _ s6 σ6 H6 _ I6 q6) λf s7 q7=> ?_)
  have again:∀{σ7:L2.St} {H7:Hp},Inv X.nox (pins++iM fp s5.heap) σ7 H7 s7->N σ7 H7->∃m,m<n/\∃i σ' H',Inv X pins σ' H' s7/\tn i s7.heap/\(∀b∈fp,H' b=none)/\W i m σ' H':=λ{σ7 H7} I7 n7=>by
   obtain⟨m',hm,w7⟩:=hN σ7 H7 n7;refine⟨m',hm,i+1,σ7,H7,(Inv.FM (X:=X.nox) I7).FJ _,T.keep _ _ _ st5 λb hb o e=>(I7.pin (b,o) (Hg _ (Hg _ (cT hb e)))).1,λb hb=> ?_,w7⟩
   obtain⟨o,e,d⟩:=T.obj _ _ st5 b hb;exact(I7.pin (b,o) (Hg _ (Hg _ (cT hb e)))).2.1
  cases f with
  | next=>obtain⟨σ7,H7,I7,n7⟩:=q7;exact again I7 n7
  | cont=>obtain⟨σ7,H7,I7,n7⟩:=q7;exact again I7 n7
  | brk=>obtain⟨σ7,H7,I7,q7⟩:=q7;exact⟨σ7,H7,(Inv.FM (X:=X.nox) I7).FJ _,q7⟩
  | ret v=>obtain⟨x7,σ7,H7,I7,r7,q7⟩:=q7;exact⟨x7,σ7,H7,(Inv.FM (X:=X.nox) I7).FJ _,r7,q7⟩
theorem Bz {tg iter:Expr}{body:List Stmt}{fi:En->Rs (List T)}{g:T->En->Rs En}{F:En->Rs Fl}(hc:X.calm=true)(hi:xN X tg iter fi)(hg:xO X.nox tg g)(hb:lW X.nox body F)
  (hs:autoParam (∀x,Hw iter X.env x=pure x) t_):sZ X (.For tg iter body [] pos) (gy fi g F):=PS.imp (yK hc hi hg hb hs) λD σ H hh_=>by
 obtain⟨ρ,B,M,E,h⟩:=hh_;refine⟨ρ,OO B M,E.o,?_⟩
 unfold gy at h
 cases q:fi ρ with
 | bad=>rw[q]at h;exact h.elim
 | err c=>rw[q]at h;exact PostF.xa h
 | ok ts=>
  rw[q,aF]at h
  cases qq:bF g F ts ρ with
  | bad=>rw[qq]at h;exact h.elim
  | err c=>rw[qq]at h;exact h.elim
  | ok fin=>
  rw[qq]at h;intro H1 s1 J hJ
  have E1:Ev X.K B M H1 ρ σ:=E.same s1
  have h1:PostF X B M.u H1 (.ok fin) D:=PostF.later h (SameO.of s1) λa z=> .inl z
  refine⟨λi m σ' H'=>m=ts.length - i/\i<=ts.length/\SameO M.u H1 H'/\∃ρ' M',Ev X.K B M' H' ρ' σ'/\(∀a,M'.u a->M.u a\/Nw X.K H1 a)/\bF g F (ts.drop i) ρ'= .ok fin,
   ⟨ts.length,by omega,HZ _,λ_ _ e _=>e,ρ,M,E1,λa z=> .inl z,by simpa using qq⟩,?_⟩
  rintro i m σ' H' ⟨rfl,hi',sm,ρ',M',E',ow,hl⟩
  have it:=hJ M.u (OO B M') (λa z=> .inl (.inr z)) (λa z=>z.elim (λw=> .inl (.inl w)) λw=>(ow a w).elim (λy=> .inl (.inr y)) .inr) i H' sm (λa z=>(E'.env.trk a z).some)
  by_cases hlt:i<ts.length
  ·have hti:ts[i]? =some ts[i]:=by simp
   obtain⟨go,yl⟩:=it.2 ts[i] hti;rw[Jf hlt]at hl;unfold bF at hl;refine .inr ⟨go,λσ2 H2=> ∃m',m'<ts.length - i/\(m'=ts.length - (i+1)/\i+1<=ts.length/\SameO M.u H1 H2/\∃ρ2 M2,Ev X.K B M2 H2 ρ2 σ2/\(∀a,M2.u a->M.u a\/Nw X.K H1 a)/\bF g F (ts.drop (i+1)) ρ2= .ok fin),λσ2 H2 z=>z,λx Hc y=> ?_⟩
   obtain⟨sc,rx⟩:=yl x Hc y;refine⟨ρ',OO B M',M',ts[i],E'.env.same sc,rx,?_⟩
   cases e1:g ts[i] ρ' with
   | bad=>rw[e1]at hl;cases hl
   | err cc=>rw[e1]at hl;cases hl
   | ok ρ1=>
    rw[e1,aF]at hl;intro σ1 Eg
    have E2:Ev X.K B M' Hc ρ1 σ1:=⟨Eg,E'.mine⟩;refine⟨ρ1,B,M',E2,?_⟩
    have smc:SameO M.u H1 Hc:=λb o e n=>sc _ _ (sm b o e n)
    have onward:∀{σ3:L2.St} {H3:Hp} {ρ3:En} {M3:Mn},SameO M'.u Hc H3->Ev X.K B M3 H3 ρ3 σ3->(∀a,M3.u a->M'.u a\/Nw X.K Hc a)->bF g F (ts.drop (i+1)) ρ3= .ok fin →
      ∃m',m'<ts.length - i/\(m'=ts.length - (i+1)/\i+1<=ts.length/\SameO M.u H1 H3/\∃ρ2 M2,Ev X.K B M2 H3 ρ2 σ3/\(∀a,M2.u a->M.u a\/Nw X.K H1 a)/\bF g F (ts.drop (i+1)) ρ2= .ok fin):=
     λ{σ3 H3 ρ3 M3} s3 E3 o3 p3=>⟨_,by omega,rfl,hlt,smc.trans s3 ow,ρ3,M3,E3,λa z=>(o3 a z).elim (ow a) (hZ smc),p3⟩
    cases e2:F ρ1 with
    | bad=>rw[e2]at hl;cases hl
    | err cc=>rw[e2]at hl;cases hl
    | ok f=>
     rw[e2,aF]at hl
     cases f with
     | nx ρ2=>exact λσ3 H3 M3 s3 E3 o3=>onward s3 E3 o3 hl
     | ct ρ2=>exact λσ3 H3 M3 s3 E3 o3=>onward s3 E3 o3 hl
     | bk ρ2=>
      cases hl
      exact λσ3 H3 M3 s3 E3 o3=>h1 σ3 H3 M3 (smc.trans s3 ow) E3 λa z=>(o3 a z).elim (ow a) (hZ smc)
     | rt t=>
      cases hl;exact λv H3 s3 r=>h1 v H3 (smc.trans s3 ow) r
  ·refine .inl ⟨it.1 (by omega),?_⟩
   have hi2:i=ts.length:=by omega
   subst hi2;rw[Mo]at hl;cases hl;exact h1 σ' H' M' sm E' ow
end
def bh (F:En->Rs Fl)(ρ:En):Rs T:=do
 let f <-F ρ
 match f with
 | .nx _=> .ok .non
 | .rt t=> .ok t
 | _=> .bad
def aG (n:Nat)(ts:List T):En:=ts.map Sl.va++Hy (n - ts.length) Sl.em
theorem tH {n:Nat}{ts:List T}{i:Nat}{o:OT}(e:(aG n ts)[i]? =some (.ow o)):False:=by
 unfold aG at e
 by_cases hi:i<ts.length
 ·rw[II (by simpa using hi),HN,Hv hi]at e
  cases e
 ·rw[IV (by simpa using hi),Ky]at e
  split at e <;> cases e
theorem hG {K:GW}{O:Ow}{H:Hp}{N:List Str}{ts:List T}{vs:List V}(r:Reps K O H ts vs)(hl:ts.length<=N.length)(trk:∀a,O a->Mtb H a):Ev K O noM H (aG N.length ts) (start N vs):=by
 have hlen:=r.length
 have sub:∀a,OO O noM a->O a:=λa z=>z.elim id λ⟨_,w⟩=>w.elim
 refine⟨⟨by unfold aG L2.start;simp;omega,λi t e=> ?_,λi o e=>(tH e).elim,λ_ _ z=>z.elim,λ_ _ _ z=>z.elim,λa z=>trk a (sub a z)⟩,λa ⟨_,z⟩=>z.elim⟩
 unfold aG at e;unfold L2.start
 by_cases hi:i<ts.length
 ·rw[II (by simpa using hi),HN,Hv hi]at e
  have e':ts[i] =t:=by injection e with e;injection e
  obtain⟨v,e1,e2⟩:=r.get (i:=i) (t:=t) (by rw[<-e'];simp)
  refine⟨v,?_,e2.less sub⟩
  rw[II (by simp;omega),HN,e1];rfl
 ·rw[IV (by simpa using hi),Ky]at e
  split at e <;> cases e
section
variable {P:Hr}{w:HS}{K:GW}{mg:Str->Option GZ}{base:Heap}
theorem ES {x qual:Str}{st:Stmt}{f:Addr}{fd:Ib}{N ps:List Str}{k n:Nat}{g:List T->Rs T}(Fn:L2.Fun K x qual st f fd)(S:bM N ps (ao st))(hn:ps.length=n)
  (hbody:∀(cdv:GZ) (A:HF) (outer:List Env) (s:GX) (H:Hp) (E:XK),Room k (A.deeper (envOfC qual (ao st) s.heap.objs.size f cdv)) →
   ∃F,lW (eR CX0 P w K mg base N qual (ao st) f cdv A outer s H E).nox (bq st) F/\∀ts,ts.length=n->∀t,g ts= .ok t->bh F (aG N.length ts)= .ok t):uz P w K mg base CX0 (k+1) f fd ps (spP K n g):=by
 have hpl:ps.length<=N.length:=by have:=congrArg Jc S.pre;rw[IK]at this;omega
 refine Fn.ok S (λvs H Q E h=> ?_) (λcdv A outer s H vs Q E hr h=> ?_)
 ·obtain⟨ts,O,r,_,hl,_⟩:=h
  rw[<-r.length,hl,hn]
 ·obtain⟨ts,O,r,trk,hl,h⟩:=h
  obtain⟨F,hF,hv⟩:=hbody cdv A outer s H E hr;refine⟨_,hF,aG N.length ts,O,noM,hG r (by omega) trk,?_⟩
  have no:∀a,¬noM.u a:=λa ⟨_,z⟩=>z
  cases q:g ts with
  | bad=>rw[q]at h;exact h.elim
  | err c=>rw[q]at h;exact h.elim
  | ok t=>
   rw[q]at h
   have hb:=hv ts hl t q;unfold bh at hb
   cases q2:F (aG N.length ts)with
   | bad=>rw[q2]at hb;cases hb
   | err c=>rw[q2]at hb;cases hb
   | ok fl=>
    rw[q2,aF]at hb
    have sameOf:∀H',SameO noM.u H H'->Same H H':=λH' s b o e=>s b o e (no b)
    cases fl with
    | nx ρ'=>cases hb;exact λσ' H' M' s' E' o'=>h .non H' (sameOf H' s') Rep.Gi
    | rt t'=>cases hb;exact λv H' s' r'=>h v H' (sameOf H' s') r'
    | bk ρ'=>cases hb
    | ct ρ'=>cases hb
end
end Tr
namespace Enu
open PySem
open AutoSeq1 (wpAny_loadPart')
section
variable {prog:Hr}{w:HS}{A:HF}{E:GZ->GX->Prop}{s:GX}
theorem tupNext {it tt:Addr}{k:Nat}{its:Array GZ}{x:GZ}{Q:GZ->GX->Prop}(hi:s.heap.IsTupleIter it tt k)(ht:s.heap.IsTuple tt its)(hx:its[k]? =some x)
  (hQ:∀h',h'.IsTupleIter it tt (k+1)->J9 it s.heap h'->Q x { s with heap:=h' }):wpAny (model prog w) A (HU (.ref it)) Q E s:=by
 obtain⟨ob,g1,g2,g3⟩:=id hi;obtain⟨ot,k1,_,m,k3⟩:=ht;unfold HU;refine G1 (Il (name:=Hi "__next__") hi.typeIs JC (IU JC hi.typeIs Lk ?_ (La _)))
 show wpAny (model prog w) _ (field (.ref it) 0 >>= _) _ _ s
 refine G1 (H0 g1 g3 (x:=.ref tt) rfl ?_)
 show wpAny (model prog w) _ (if (HD tt == HQ)=true then _ else _) _ _ s
 rw[if_neg (show ¬((HD tt == HQ)=true)by exact Hq)]
 show wpAny (model prog w) _ (field (.ref it) 1 >>= _) _ _ s
 refine G1 (H0 g1 g3 (x:=.int k 0) rfl ?_)
 show wpAny (model prog w) _ (seqItems? (.ref tt) >>= _) _ _ s
 refine G1 (Jt k1 k3 ?_)
 simp only[hx,HV];refine G1 (Na g1 g3 (by simp) (Ha ⟨x,rfl,Ha (hQ _ ?_ (Nc ..))⟩))
 refine⟨_,MD _ g1 (ME (KB g3 _)),(Obj.cls_mapFields ..).trans g2,?_⟩
 rw[KB g3];simp[rawInt]
theorem tupStop {it tt:Addr}{k:Nat}{its:Array GZ}{Q:GZ->GX->Prop}(hh:A.handled=none)(hi:s.heap.IsTupleIter it tt k)(ht:s.heap.IsTuple tt its)(hx:its[k]? =none)
  (hE:∀h' e,Heap.ExtBut it s.heap h'->(∃o,h'.get? e=some o/\o.cls= .type "StopIteration")->E (.ref e) { s with heap:=h' }):wpAny (model prog w) A (HU (.ref it)) Q E s:=by
 obtain⟨ob,g1,g2,g3⟩:=id hi;obtain⟨ot,k1,_,m,k3⟩:=ht;unfold HU;refine G1 (Il (name:=Hi "__next__") hi.typeIs JC (IU JC hi.typeIs Lk ?_ (La _)))
 show wpAny (model prog w) _ (field (.ref it) 0 >>= _) _ _ s
 refine G1 (H0 g1 g3 (x:=.ref tt) rfl ?_)
 show wpAny (model prog w) _ (if (HD tt == HQ)=true then _ else _) _ _ s
 rw[if_neg (show ¬((HD tt == HQ)=true)by exact Hq)]
 show wpAny (model prog w) _ (field (.ref it) 1 >>= _) _ _ s
 refine G1 (H0 g1 g3 (x:=.int k 0) rfl ?_)
 show wpAny (model prog w) _ (seqItems? (.ref tt) >>= _) _ _ s
 refine G1 (Jt k1 k3 ?_)
 simp only[hx,HV];refine G1 (Kr (G1 (Na g1 g3 (by simp) ?_)))
 show wpAny (model prog w) _ (newExc (.type "StopIteration") [] >>= _) _ _ _
 refine G1 ?_
 simp only[newTuple,newExc];refine G1 (IM ?_ (by size_fits))
 refine G1 (m:=firstArgMember _ _) (KW (a:=HQ) (by first | (simp only[firstArgMember];rfl) | rfl) ?_)
 refine IM ?_ (by size_fits)
 simp only[raiseNew];refine G1 (wpAny_handled ?_)
 first | rw[hh] | rw[show A.in1.handled=none from hh]
 refine G1 (Ha (wpAny_throw ?_))
 refine hE _ _ (((Nc ..).extBut.push _).push _) ⟨_,Hk _ rfl,rfl⟩
end
theorem tupDraws {prog:Hr}{w:HS}{A:HF}(hh:A.handled=none)(it tt:Addr)(hne:tt≠it)(its:Array GZ) :
  Draws prog w A it [it,tt] its.size (λi v=>its[i]? =some v) (λi h=>h.IsTupleIter it tt i/\h.IsTuple tt its) where
 live:=λ_ _ st=>by obtain⟨o,ho,_⟩:=st.1;exact⟨o,ho⟩
 frame:=λ_ _ _ st hk=>by
  obtain⟨⟨o,e,r⟩,⟨o',e',r'⟩⟩:=st;exact⟨⟨o,hk it (by simp) o e,r⟩,⟨o',hk tt (by simp) o' e',r'⟩⟩
 item:=λi s Q E hi st hQ=>by
  refine tupNext st.1 st.2 (x:=its[i]) (by simp[hi]) λh' hit' hs'=> ?_
  obtain⟨o',e',r'⟩:=st.2;exact hQ _ h' s.toks (by simp[hi]) ⟨hit',⟨o',(hs'.2 tt hne).trans e',r'⟩⟩ hs'
 done:=λs Q E st hE=>tupStop hh st.1 st.2 (by simp) hE
theorem newT (l:Addr)(items:Array GZ)(n:Nat)(dct:Option Addr)(sl:Array (Option GZ)) :
  Meets (Builtin.«enumerate.__new__» ⟨[.type "enumerate",.ref l],[]⟩) (λ_ R s=>s.heap.get? l=some { cls:=.type "tuple",dict:=dct,data:=.seq items n,slots:=sl } ∧
   R (.ok (.ret (.ref (s.heap.push { cls:=.type "tuple_iterator",data:=.fields #[.ref l,.int 0 0] }).objs.size)))
    { s with heap:=(s.heap.push { cls:=.type "tuple_iterator",data:=.fields #[.ref l,.int 0 0] }).push { cls:=.type "enumerate",data:=.fields #[.none,.bool false,.ref s.heap.objs.size,rawInt 0,.none,.none] } }):=
 .of_wp λprog w A R s h=>by
  obtain⟨hp,g,d,tk,os⟩:=s;obtain⟨hl,h⟩:=h
  have hsub:=sub_enumerate
  have hT:Heap.IsTuple (OR ⟨hp,g,d,tk,os⟩) l items:=⟨_,hl,rfl,n,rfl⟩
  wp_walk using JR hl
  refine wpAny_stack_any λst=>Ha ?_
  split
  ·rename_i c _ _ _ _ _
   cases (c == J0 "enumerate")
   ·wp_walk using JR hl,J7 hT
    exact⟨_,rfl,h⟩
   ·wp_walk using JR hl,J7 hT
    exact⟨_,rfl,h⟩
  ·wp_walk using JR hl,J7 hT
   exact⟨_,rfl,h⟩
theorem callT {prog:Hr}{w:HS}{A:HF}{E:GZ->GX->Prop}{s:GX}{l:Addr}{items:Array GZ}{Q:GZ->GX->Prop}(hL:s.heap.IsTuple l items)
  (h:∀h',IsEnum h' (s.heap.objs.size+1) s.heap.objs.size 0 .none->h'.IsTupleIter s.heap.objs.size l 0->h'.objs.size=s.heap.objs.size+2 →
   (∀b o,s.heap.get? b=some o->h'.get? b=some o)->Q (.ref (s.heap.objs.size+1)) { s with heap:=h' }):wpAny (model prog w) A (call (.type "enumerate") [.ref l]) Q E s:=by
 obtain⟨⟨cc,dc,dd,ss⟩,hl,hc,n,hd⟩:=hL
 replace hc:cc= .type "tuple":=hc
 replace hd:dd= .seq items n:=hd
 subst hc hd;refine callType_new F.called_enumerate (by decide) (F.typeCall_enumerate_1 _) (F.newCall_enumerate_1 _) (λobj=>F.args_object_init_2 obj _) F.entry_enumerate_new (newT l items n dc ss) ⟨hl,?_⟩
 have hz:(s.heap.push { cls:=.type "tuple_iterator",data:=.fields #[.ref l,.int 0 0] }).objs.size=s.heap.objs.size+1:=IB ..
 show _/\_
 rw[hz]
 have he:IsEnum ((s.heap.push { cls:=.type "tuple_iterator",data:=.fields #[.ref l,.int 0 0] }).push
   { cls:=.type "enumerate",data:=.fields #[.none,.bool false,.ref s.heap.objs.size,rawInt 0,.none,.none] }) (s.heap.objs.size+1) s.heap.objs.size 0 .none:=by
  have q:=Hk (s.heap.push { cls:=.type "tuple_iterator",data:=.fields #[.ref l,.int 0 0] })
   (o:={ cls:=.type "enumerate",data:=.fields #[.none,.bool false,.ref s.heap.objs.size,rawInt 0,.none,.none] }) rfl
  rw[hz]at q;exact q
 refine⟨⟨_,he,rfl⟩,h _ he ⟨_,G2 _ (Hk _ rfl),rfl,rfl⟩ (by rw[IB,hz]) λb o x=>G2 _ (G2 _ x)⟩
end Enu
namespace L2
open PySem PySem.Spec PyProof.Rows
section
variable {X:Cx}{pins:List (Addr×Obj)}{σ:L2.St}{H:Hp}{s:GX}{h':Heap}
theorem Inv.Gh {t':Nat}{fp:List Addr}{Tp:Addr}{xs:List V}(I:Inv X pins σ H s)(hf:∀b∈fp,ir X pins H b)(k:∀b o,b∉fp->s.heap.get? b=some o->h'.get? b=some o)
  (ht:∀b∈fp,∃o,h'.get? b=some o) (hT:s.heap.objs.size<=Tp) (new:ObjOk X.prog X.w (cz H Tp (.tup xs)) h' Tp (.tup xs)):Inv X pins σ (cz H Tp (.tup xs)) { s with heap:=h',toks:=t' }:=by
 have hn:H Tp=none:=I.hok.fresh hT
 have neT:∀b o,s.heap.get? b=some o->b≠Tp:=λb o e=>Iz (Hl (Hf e) hT)
 have nf:∀b u,H b=some u->b∉fp:=λb u e z=>by rw[(hf b z).1]at e;cases e
 refine I.step (g':=s.gens) (d':=s.drawn) (ch:=fp) (λb hb=>⟨(hf b hb).2.2.2.1,(hf b hb).2.1,(hf b hb).2.2.2.2.1,(hf b hb).2.2.2.2.2⟩) (λb o _ _ hc e _=>k b o hc e) (λb o _ _ hc e _=>⟨o.slots,k b o hc e⟩)
  (λb o _ e n=>by rw[aN (neT b o e)];exact n) (λb o hc e=>⟨o,k b o hc e⟩) (λb ys e=>by rw[aN (bO e hn)];exact e) (λb o u e=>by rw[aN (bO e hn)];exact e)
  (λb ps e=>⟨#[],by rw[aN (bO e hn),e];simp⟩) (λm hm=> ?_) (λb u e=> ?_) I.bare
 ·obtain⟨o,es,ep,ho,r⟩:=hm
  exact⟨o,es,ep,k _ o (λz=>(hf _ z).2.1 rfl) ho,r⟩
 ·by_cases hb:b=Tp
  ·subst hb;rw[aT]at e;cases e;exact new
  ·rw[aN hb]at e
   refine(I.hok b u e).FT (λc v hc q=>k c v ?_ q) (λc q=>by rw[aN (bO q hn)];exact q) λc ys q=>by rw[aN (bO q hn)];exact q
   rcases hc with z | z
   ·rw[z];exact nf b u e
   ·exact nf c _ z
theorem Inv.FU {t':Nat}{fp:List Addr}(I:Inv X pins σ H s)(hf:∀b∈fp,ir X pins H b)(k:∀b o,b∉fp->s.heap.get? b=some o->h'.get? b=some o):Inv X pins σ H { s with heap:=h',toks:=t' }:=by
 have nf:∀b u,H b=some u->b∉fp:=λb u e z=>by rw[(hf b z).1]at e;cases e
 refine I.step (g':=s.gens) (d':=s.drawn) (ch:=fp) (λb hb=>⟨(hf b hb).2.2.2.1,(hf b hb).2.1,(hf b hb).2.2.2.2.1,(hf b hb).2.2.2.2.2⟩) (λb o _ _ hc e _=>k b o hc e) (λb o _ _ hc e _=>⟨o.slots,k b o hc e⟩)
  (λb o _ e n=>n) (λb o hc e=>⟨o,k b o hc e⟩) (λb ys e=>e) (λb o u e=>e)
  (λb ps e=>⟨#[],by rw[e];simp⟩) (λm hm=> ?_) (λb u e=> ?_) I.bare
 ·obtain⟨o,es,ep,ho,r⟩:=hm
  exact⟨o,es,ep,k _ o (λz=>(hf _ z).2.1 rfl) ho,r⟩
 ·refine(I.hok b u e).FT (λc v hc q=>k c v ?_ q) (λc q=>q) λc ys q=>q
  rcases hc with z | z
  ·rw[z];exact nf b u e
  ·exact nf c _ z
end
def AY (K:GW)(H:Hp)(a:Addr)(tt:Bool)(xs:List V):Prop:=if tt then SqT K H a xs else SqL K H a xs
def FG (K:GW)(a:Addr)(tt:Bool):It:=
 ⟨λi H=> ∃xs x,AY K H a tt xs/\xs[i]? =some x,λi H x H'=> ∃p v,x= .ref p/\H p=none/\H'=cz H p (.tup [.int (i:Nat),v])/\∀xs,AY K H a tt xs->xs[i]? =some v,λi H=> ∃xs,AY K H a tt xs/\xs.length<=i⟩
def itAt (tt:Bool)(h:Heap)(it a:Addr)(i:Nat):Prop:=if tt then h.IsTupleIter it a i else h.IsListIter it a i
theorem itAt.obj {tt:Bool}{h:Heap}{it a:Addr}{i:Nat}(st:itAt tt h it a i):∃o,h.get? it=some o/\∀v,o.data≠ .cell v:=by
 cases tt with
 | true=>obtain⟨o,e,c,d⟩:=(show h.IsTupleIter it a i from st);exact⟨o,e,λv z=>by rw[d]at z;cases z⟩
 | false=>obtain⟨o,e,c,d⟩:=(show h.IsListIter it a i from st);exact⟨o,e,λv z=>by rw[d]at z;cases z⟩
theorem itAt.keep {tt:Bool}{h h':Heap}{it a:Addr}{i:Nat}(st:itAt tt h it a i)(k:∀o,h.get? it=some o->h'.get? it=some o):itAt tt h' it a i:=by
 cases tt with
 | true=>obtain⟨o,e,r⟩:=(show h.IsTupleIter it a i from st);exact(show h'.IsTupleIter it a i from⟨o,k o e,r⟩)
 | false=>obtain⟨o,e,r⟩:=(show h.IsListIter it a i from st);exact(show h'.IsListIter it a i from⟨o,k o e,r⟩)
theorem tG {P:Hr}{w:HS}{K:GW}{elts:List Expr}{kk:Nat}{pos:Pos}(tt:Bool)(a e it:Addr)(hei:e≠it) :
  xJ P w K (.Tuple elts kk pos) (FG K a tt) [e,it] e (λi h=>(∃old,IsEnum h e it i old)/\itAt tt h it a i) where
 mem:=by simp
 obj:=λi h st b hb=>by
  obtain⟨⟨old,he⟩,hi⟩:=st;rcases Hd.mp hb with rfl | hb
  ·exact⟨_,he,λv z=>by have z':Data.fields _=Data.cell v:=z;cases z'⟩
  ·rw[Ht.mp hb];exact hi.obj
 keep:=λi h h' st k=>by
  obtain⟨⟨old,he⟩,hi⟩:=st;exact⟨⟨old,k e (by simp) _ he⟩,hi.keep λo q=>k it (by simp) o q⟩
 item:=by
  intro X hP hw hK hc i pins s σ H E I hf st hg;subst hP hw hK;obtain⟨xs,x,hq,hx⟩:=hg;obtain⟨⟨old,he⟩,hi⟩:=st
  -- by what is walked
  have key:∀(its:List GZ),Vals xs its->(∀ys,AY X.K H a tt ys->ys=xs)->∀(fp0:List Addr) (St:Nat->Heap->Prop),Draws X.prog X.w X.A.in1 it fp0 its.toArray.size (λi v=>its.toArray[i]? =some v) St->e∉fp0->it∈fp0->St i s.heap →
    (∀h',St (i+1) h'->itAt tt h' it a (i+1)) →
    wpAny (model X.prog X.w) X.A (pyNext (.ref e)) (λr s1=> ∃u,r=some u/\wpAny (model X.prog X.w) X.A (JP (.Tuple elts kk pos) (.ref e) u) (λ_ s2=> ∃x' H',Inv X pins σ H' s2/\RelV x' u/\(FG X.K a tt).yld i H x' H' ∧
     ((∃old,IsEnum s2.heap e it (i+1:Nat) old)/\itAt tt s2.heap it a (i+1))/\∀b∈ [e,it],H' b=none) E s1) E s:=by
   intro its rv uniq fp0 St D hef hif hst hnext;obtain⟨u,hu,ru⟩:=rv.get hx
   have hlt:i<its.toArray.size:=by
    have:=(Hm.mp hu).1
    simpa using this
   have W:=WalksT.enumerateD D e hei hef hif;refine W.item i s _ _ hlt ⟨⟨old,he⟩,hst⟩ λTp vals h1 tk hPt hTsz hTup hMid hk=>⟨.ref Tp,rfl,?_⟩
   refine W.go elts kk pos i Tp { s with heap:=h1,toks:=tk } _ _ hMid λh2 hst2 hk2=> ?_
   obtain⟨t,x',hPx,hvals⟩:=hPt;subst hvals
   have hxe:x'=u:=by
    have h1':its.toArray[i]? =some x':=hPx
    have h2':its.toArray[i]? =some u:=by simpa using hu
    rw[h1']at h2';exact HW h2'
   subst hxe
   have hTw:=W.apart i Tp h1 hMid;obtain⟨oT,eT,rT⟩:=hTup
   have eT2:h2.get? Tp=some oT:=hk2 Tp oT hTw eT
   have kAll:∀b o,b∉ [e,it]->s.heap.get? b=some o->h2.get? b=some o:=λb o hb q=>hk2 b o hb (hk b o hb q)
   obtain⟨⟨old2,he2⟩,hs2⟩:=hst2
   have hit2:=hnext h2 hs2
   have there:∀b∈ [e,it],∃o,h2.get? b=some o:=λb hb=>by
    rcases Hd.mp hb with rfl | hb
    ·exact⟨_,he2⟩
    ·rw[Ht.mp hb];obtain⟨o,q,_⟩:=hit2.obj;exact⟨o,q⟩
   have hn:H Tp=none:=I.hok.fresh hTsz
   have new:ObjOk X.prog X.w (cz H Tp (.tup [.int (i:Nat),x])) h2 Tp (.tup [.int (i:Nat),x]):=
    ⟨by show 2<=sizeLine;decide,[.int (i:Nat) t,x'],.cons ⟨t,rfl⟩ (.cons ru .nil),⟨oT,eT2,rT⟩⟩
   have I2:=I.Gh (t':=tk) hf kAll there hTsz new;refine⟨.ref Tp,_,I2,rfl,⟨Tp,x,rfl,hn,rfl,λys hy=>by rw[uniq ys hy];exact hx⟩,⟨⟨old2,he2⟩,hit2⟩,λb hb=> ?_⟩
   have hbT:b≠Tp:=λz=>by
    obtain⟨o,q⟩:∃o,s.heap.get? b=some o:=by
     rcases Hd.mp hb with rfl | hb
     ·exact⟨_,he⟩
     ·rw[Ht.mp hb];obtain⟨o,q,_⟩:=hi.obj;exact⟨o,q⟩
    exact absurd (Hl (Hf q) hTsz) (by rw[z];exact HB _)
   rw[aN hbT];exact(hf b hb).1
  have hne:∀b∈ [e,it],a≠b:=λb hb z=>by
   have hb':=(hf b hb).1;rw[<-z]at hb'
   have hbs:=hf b hb
   cases tt with
   | true=>
    have hq':SqT X.K H a xs:=hq;rcases hq' with(q | ⟨o,q⟩) | ⟨o,its,n,q,_⟩
    ·rw[hb']at q;cases q
    ·rw[hb']at q;cases q
    ·rcases hbs.2.2.2.1 with z1 | z1
     ·exact I.ok.noex a o (I.ok.mod.kin a o q) (z▸z1)
     ·exact absurd (Hl (Hf (I.ok.bs a o (I.ok.mod.kin a o q)).1) (z▸z1)) (HB _)
   | false=>
    have hq':SqL X.K H a xs:=hq;rcases hq' with(q | ⟨o,q⟩) | ⟨o,its,n,q,_⟩
    ·rw[hb']at q;cases q
    ·rw[hb']at q;cases q
    ·rcases hbs.2.2.2.1 with z1 | z1
     ·exact I.ok.noex a o (I.ok.mod.kin a o q) (z▸z1)
     ·exact absurd (Hl (Hf (I.ok.bs a o (I.ok.mod.kin a o q)).1) (z▸z1)) (HB _)
  have hea:e≠a:=λz=>hne e (by simp) z.symm
  have hia:it≠a:=λz=>hne it (by simp) z.symm
  cases tt with
  | true=>
   have hq':SqT X.K H a xs:=hq;obtain⟨its,rv,p,hz⟩:=I.tuple hq'
   exact key its rv (λys hy=>I.FX hy hq') _ _ (Enu.tupDraws (A:=X.A.in1) (I.ok.hd hc) it a (Ka hia) its.toArray) (by simp[hei,hea]) (by simp) ⟨hi,p⟩ λh' z=>z.1
  | false=>
   have hq':SqL X.K H a xs:=hq;obtain⟨its,rv,p,hz⟩:=I.list hq';exact key its rv (λys hy=>I.F2 hy hq') _ _ (Draws.list (A:=X.A.in1) (I.ok.hd hc) it a (Ka hia) its.toArray) (by simp[hei,hea]) (by simp) ⟨hi,p.isList⟩ λh' z=>z.1
 done:=by
  intro X hP hw hK hc i pins s σ H E I hf st hg;subst hP hw hK;obtain⟨xs,hq,hx⟩:=hg;obtain⟨⟨old,he⟩,hi⟩:=st
  have fin:∀h',Heap.ExtBut it s.heap h'->(none:Option GZ)=none/\Inv X pins σ H { s with heap:=h' }:=λh' eb=>⟨rfl,I.FU (t':=s.toks) hf λb o hb q=>eb b o (λz=>hb (by simp[z])) q⟩
  cases tt with
  | true=>
   have hq':SqT X.K H a xs:=hq;obtain⟨its,rv,p,hz⟩:=I.tuple hq'
   have hl:=rv.length
   have hnone:its.toArray[i]? =none:=by simp;omega
   have hT:s.TypeIs (.ref e) "enumerate":=⟨_,he,rfl⟩;unfold pyNext;refine G1 (Ml (Il (name:=Hi "__next__") hT MF (IU MF hT F.entry_enumerate_next ?_ (F.args_enumerate_next_1 _))))
   show wpAny (model X.prog X.w) _ (field (.ref e) 2 >>= _) _ _ _
   refine G1 (H0 he rfl (x:=.ref it) rfl ?_)
   refine G1 (Enu.tupStop (I.ok.hd hc) hi p hnone λh' x he' hx'=> ?_)
   obtain⟨o,ho,hcl⟩:=hx'
   exact G1 (OG (T:="StopIteration") (b:=true) ⟨o,ho,hcl⟩ isSubtype_stop (Ha (fin h' he')))
  | false=>
   have hq':SqL X.K H a xs:=hq;obtain⟨its,rv,p,hz⟩:=I.list hq'
   have hl:=rv.length
   have hnone:its.toArray[i]? =none:=by simp;omega
   exact wpAny_pyNext_enum_end (I.ok.hd hc) he hi p.isList hnone fin
 self:=λ_ _ _ _ _ st h=>by
  obtain⟨⟨old,he⟩,_⟩:=st;exact Oe he h
section
variable {X:Cx}{elts:List Expr}{kk:Nat}{tpos:Pos}
theorem lN:HA "enumerate" =some (.type "enumerate"):=by decide+kernel
def iEnu (K:GW)(tl:TA):TI:=λσ H R=>tl σ H λvs H1=> ∃a tt,vs= [.ref a]/\(∃xs,AY K H1 a tt xs)/\R (FG K a tt) H1
theorem yR {l:Expr}{tl:TA}{p pos:Pos}(hg:Gl X "enumerate")(hm:X.mg "enumerate" =none)(hl:PA X [l] tl)(hs:autoParam (Hj [l] X.env= [(false,eval l X.env)]) u_):PI X (.Tuple elts kk tpos) (.Call (.Name "enumerate" p) [l] [] pos) (iEnu X.K tl):=by
 intro pins s σ H R I h;refine Call_ (dU I hg hm lN (IQ (bJ (hl pos pins s σ H _ I h) λus s1 ⟨vs,H1,I1,r1,q1⟩=> ?_) hs rfl))
 obtain⟨a,tt,e,⟨xs,hq⟩,q⟩:=q1;subst e;obtain⟨u,rfl,ru⟩:=jd r1;cases ru
 have fin:∀h',IsEnum h' (s1.heap.objs.size+1) s1.heap.objs.size 0 .none->itAt tt h' s1.heap.objs.size a 0->h'.objs.size=s1.heap.objs.size+2->(∀b o,s1.heap.get? b=some o->h'.get? b=some o) →
   wpAny (model X.prog X.w) X.A (pyIter (.ref (s1.heap.objs.size+1))) (PIE X pins σ (.Tuple elts kk tpos) R) X.xe { s1 with heap:=h' }:=λh' he hi hsz hk=>by
  refine Oe he ?_
  have I2:Inv X pins σ H1 { s1 with heap:=h' }:=I1.kept (t':=s1.toks) hk
  refine⟨s1.heap.objs.size+1,[s1.heap.objs.size+1,s1.heap.objs.size],_,_,H1,rfl,I2,tG tt a (s1.heap.objs.size+1) s1.heap.objs.size (Nat.succ_ne_self _),⟨⟨_,he⟩,hi⟩,λb hb=> ?_,q⟩
  rcases Hd.mp hb with rfl | hb
  ·exact I1.Gb (by omega) (I1.hok.fresh (by omega))
  ·rw[Ht.mp hb];exact I1.Gb (He _) (I1.hok.fresh (He _))
 cases tt with
 | true=>
  have hq':SqT X.K H1 a xs:=hq;obtain⟨its,rv,pl,hz⟩:=I1.tuple hq'
  exact Enu.callT pl λh' he hi hsz hk=>fin h' he hi hsz hk
 | false=>
  have hq':SqL X.K H1 a xs:=hq;obtain⟨its,rv,pl,hz⟩:=I1.list hq';exact call_enumerate_list pl.isList λh' he hi hsz hk=>fin h' he hi hsz hk
end
end L2
namespace Tr
open PySem PySem.Spec PyProof.Rows L2
section
variable {X:Cx}{a:Expr}{fa:En->Rs T}{fs:En->Rs (List T)}{p pos:Pos}
def iS (f:En->Rs T)(ρ:En):Rs (List T):=do
 let x <-f ρ
 match x with
 | .lst l=> .ok l
 | .tup l=> .ok l
 | _=> .bad
theorem BE {tg:Expr}(ha:cR X a fa):xN X tg a (iS fa):=by
 intro pins s σ H R I ⟨ρ,O,E,h⟩;unfold iS at h
 cases q:fa ρ with
 | bad=>rw[q]at h;exact h.elim
 | err c=>exact rR ha pins s σ H R I ⟨ρ,O,E,by unfold iL;rw[q]at h ⊢;exact h⟩
 | ok x=>
  rw[q,aF]at h
  cases x with
  | lst l=>exact rR ha pins s σ H R I ⟨ρ,O,E,by unfold iL;rw[q];exact h⟩
  | tup l=>exact BD ha pins s σ H R I ⟨ρ,O,E,by unfold iT;rw[q];exact h⟩
  | _=>exact h.elim
def de:Nat->List T->List T
 | _,[] => []
 | n,t::r=> .tup [.int n,t] ::de (n+1) r
theorem jV:∀(l:List T) (n i:Nat),(de n l)[i]? =(l[i]?).map λt=>T.tup [.int ((n+i:Nat):Int),t]
 | [],n,i=>by simp[de]
 | t::l,n,0=>by simp[de]
 | t::l,n,i+1=>by
  rw[de,Me,jV l (n+1) i,Me]
  congr 2
  funext t
  congr 4
  omega
theorem m3:∀(l:List T) (n:Nat),(de n l).length=l.length
 | [],n=>rfl
 | t::l,n=>by rw[de,G4,G4,m3 l]
def iE (f:En->Rs (List T))(ρ:En):Rs (List T):=do
 let xs <-f ρ
 match xs with
 | [x] =>match x.items with
  | some l=> .ok (de 0 l)
  | none=> .bad
 | _=> .bad
theorem yB {elts:List Expr}{kk:Nat}{tpos:Pos}(hm:X.mg "enumerate" =none)(ha:oI X [a] fs)(hg:autoParam (Gl X "enumerate") u_)(hs:autoParam (Hj [a] X.env= [(false,eval a X.env)]) u_) :
  xN X (.Tuple elts kk tpos) (.Call (.Name "enumerate" p) [a] [] pos) (iE fs):=PI.imp (yR hg hm ha hs) λσ H R hh_=>by
 obtain⟨ρ,O,E,h⟩:=hh_;obtain⟨ρ1,O1,E1,h1⟩:=dG E h;refine⟨ρ1,O1,E1,Post.mono h1 λts H1 s1 q vs r=> ?_⟩
 obtain⟨t',r',s',E',q'⟩:=q vs r
 split at q'
 ·rename_i x0
  obtain⟨v,rfl,rv⟩:=r'.one
  split at q'
  ·rename_i l hl
   have main:∀(aa:Addr) (tt:Bool) (ws:List V),v= .ref aa->¬ O aa->Reps X.K O H1 l ws->AY X.K H1 aa tt ws->(∀P Hc,SameO P H1 Hc->¬ P aa->AY X.K Hc aa tt ws)->¬ Nw X.K H1 aa →
     ∃a tt,[v] = [V.ref a]/\(∃xs,AY X.K H1 a tt xs)/\R (FG X.K a tt) H1:=λaa tt ws e n z sq mv nn=>by
    refine⟨aa,tt,by rw[e],⟨ws,sq⟩,q' H1 (Same.refl H1) _ λP O' hP hO i Hc hsm htr=> ?_⟩
    have hnP:¬ P aa:=λy=>(hP aa y).elim n nn
    have sqc:=mv P Hc hsm hnP;refine⟨λhi=>⟨ws,sqc,by rw[<-z.length,<-m3 l 0];exact hi⟩,λt ht=> ?_⟩
    rw[jV]at ht
    cases e1:l[i]? with
    | none=>rw[e1]at ht;cases ht
    | some t0=>
     rw[e1]at ht;cases ht;obtain⟨v0,f1,f2⟩:=z.get e1;refine⟨⟨ws,v0,sqc,f1⟩,λx Hc' y=> ?_⟩
     obtain⟨pp,vv,e2,hpn,e3,hy⟩:=y
     have:=hy ws sqc;rw[f1]at this;cases this;subst e2 e3;refine⟨aW hpn _,dH hpn (λzz=> ?_) (Reps.FL (by simpa using Rep.FP _) (Reps.FL (f2.move hP hO hsm) Reps.FO))⟩
     obtain⟨o,w⟩:=htr pp zz;rw[hpn]at w;cases w
   cases x0 with
   | tup m=>
    cases hl;obtain⟨aa,ws,e,n,qq,z⟩:=Rep.Fk.mp rv
    exact main aa true ws e n z (show SqT X.K H1 aa ws from SqT.of qq) (λP Hc hsm hn=>show SqT X.K Hc aa ws from SqT.of (hsm _ _ qq hn)) λw=>by rw[w.1]at qq;cases qq
   | lst m=>
    cases hl;obtain⟨aa,ws,e,n,qq,z⟩:=Rep.FB.mp rv
    exact main aa false ws e n z (show SqL X.K H1 aa ws from SqL.of qq) (λP Hc hsm hn=>show SqL X.K Hc aa ws from SqL.of (hsm _ _ qq hn)) λw=>by rw[w.1]at qq;cases qq
   | scr m=>
    cases hl;unfold Rep at rv;obtain⟨aa,e,n,qq⟩:=rv
    exact main aa false _ e n Reps.ints (show SqL X.K H1 aa _ from qq) (λP Hc hsm hn=>show SqL X.K Hc aa _ from Tr.SqL.keep hsm hn qq) (Tr.SqL.nn qq)
   | _=>cases hl
  ·exact q'.elim
 ·exact q'.elim
end
end Tr
namespace Tm
open PySem PyProof.Rows
theorem jP:fillsNumberSlot (.type "tuple") "mul" =pure false:=
 PySem.fillsNumberSlot_seq (id:="tuple.__mul__") (r:=some (.builtin "tuple.__rmul__")) Mp.lookup (by decide+kernel) N5.lookup (by decide+kernel)
theorem nL:seqRepeat? (.type "tuple")=pure (some (.builtin "tuple.__mul__")):=by
 unfold seqRepeat?;rw[Oz (T:="tuple") (name:="__mul__") (id:="tuple.__mul__") Mp.lookup (by decide+kernel),Oz (T:="tuple") (name:="__rmul__") (id:="tuple.__rmul__") N5.lookup (by decide+kernel)]
 rfl
theorem qE (a:Int)(t:Tok)(l:Addr)(items:Array GZ)(n:Nat)(dd:Option Addr)(sl:Array (Option GZ)) :
  Meets (Builtin.«int.__rmul__» ⟨[.int a t,.ref l],[]⟩) (λ_ R s=>s.heap.get? l=some { cls:=.type "tuple",dict:=dd,data:=.seq items n,slots:=sl }/\R (.ok (.ret Value.notImplemented)) s):=
 .of_wp λprog w A R s h=>by obtain⟨hp,g,d,tk,os⟩:=s;obtain⟨hl,h⟩:=h;wp_walk;exact⟨_,rfl,h⟩
open AutoSeq1 (wpAny_loadPart')
theorem wu (l:Addr)(items:Array GZ)(n:Nat)(dd:Option Addr)(sl:Array (Option GZ))(x:Int)(u:Tok)(h1:1<x)(h2:x<2 ^ 31)(hne:items.isEmpty=false)(hz:items.size*x.toNat<=sizeLine)
  (hz2:(LX (λa b=>a++b) #[] (Hy x.toNat items)).size<=sizeLine) :
  Meets (Builtin.«tuple.__mul__» ⟨[.ref l,.int x u],[]⟩) (λ_ R s=>s.heap.get? l=some { cls:=.type "tuple",dict:=dd,data:=.seq items n,slots:=sl } ∧
   R (.ok (.ret (HD s.heap.objs.size))) { s with heap:=s.heap.push { cls:=J0 "tuple",data:=Data.seq (LX (λa b=>a++b) #[] (Hy x.toNat items)) } }):=
 .of_wp λprog w A R s h=>by
  obtain⟨hp,g,d,tk,os⟩:=s;obtain⟨hl,h⟩:=h
  have hT:Pa hp l items:=⟨_,hl,rfl,n,rfl⟩
  have hx:((items.size:Nat):Int)*x=((items.size*x.toNat:Nat):Int):=by
   have e:x=((x.toNat:Nat):Int):=by omega
   rw[Int.natCast_mul,<-e]
  wp_walk using JR hl
  rw[if_neg (by simp;omega)]
  refine G1 (NM (s:=⟨hp,g,d,tk,os⟩) hT ?_)
  dsimp only
  rw[if_neg (by rw[hne];simp;omega),if_neg (by rw[hne];simp;omega),hx,if_neg (by have:(sizeLine:Nat)<=1000000000:=(by decide);omega),if_neg (by unfold Builtin.Tuple.tupleTooMany;rw[decide_eq_true_iff];omega)]
  refine G1 (m:=Jk _) (IM ?_ hz2)
  exact Ha ⟨_,rfl,h⟩
section
variable {prog:Hr}{w:HS}{A:HF}{E:GZ->GX->Prop}{s:GX}
theorem mul_tuple {t:Addr}{vs:List GZ}{k:Int}{tk:Tok}{Q:GZ->GX->Prop}(ht:Pa s.heap t vs.toArray)(h1:1<k)(h2:k<2 ^ 31)(hv:vs≠ [])(hz:vs.length*k.toNat<=sizeLine)
  (h:Q (.ref s.heap.objs.size) { s with heap:=s.heap.push { cls:=.type "tuple",data:=.seq (Hy k.toNat vs).flatten.toArray } }) :
  wpAny (model prog w) A (Jo .Mult (.ref t) (.int k tk)) Q E s:=by
 obtain⟨⟨cls,dd,data,sl⟩,ho,hc,n,hd⟩:=id ht;simp only at hc hd;subst hc hd
 have e:LX (λa b=>a++b) #[] (Hy k.toNat vs.toArray)=(Hy k.toNat vs).flatten.toArray:=by
  have q:=L2.foldl_rep vs k.toNat []
  simpa using q
 refine LR (T:="tuple") (U:="int") (by decide) ⟨_,ho,rfl⟩ (λs'=>MW s' k tk) jP OQ Li nL Ox.lookup
  (JQ Li (MW s k tk) Oy (N3 _ _) (qE k tk t vs.toArray n dd sl)
   ⟨ho,rfl,⟨_,ho,rfl⟩,JQ Mp ⟨_,ho,rfl⟩ F.entry_tuple_mul (F.args_tuple_mul_2 _ _) (wu t vs.toArray n dd sl k tk h1 h2 (by simpa using hv) (by simpa using hz) (by rw[e,Hn,L2.len_rep,Og];exact hz)) ⟨ho,?_⟩⟩)
 rw[e];exact h
end
end Tm
namespace Tr
open PySem PySem.Spec PyProof.Rows L2
section
variable {X:Cx}
def cb (x y:T):Rs T:=match x,y with
 | .tup l,.int k=>if 1<k/\k<2 ^ 31/\l≠ []/\l.length*k.toNat<=sizeLine then .ok (.tup (Hy k.toNat l).flatten)else .bad
 | x,y=>qO x y
instance (l:List T):Decidable (l≠ []):=by cases l <;> simp <;> infer_instance
theorem dI:OpT X (Jo .Mult) cb:=by
 intro pins s σ H O x y vx vy ux uy Q I hf rx ry r1 r2 hp;unfold cb at hp
 split at hp
 ·rename_i l k
  split at hp
  ·rename_i h
   obtain⟨a,vs,e1,n1,q1,z1⟩:=Rep.Fk.mp rx;subst e1;cases Rep.Do.mp ry;cases r1;obtain⟨tk,rfl⟩:=r2;obtain⟨its,rv,pl,hz⟩:=I.tuple (SqT.of q1)
   have hl1:=z1.length
   have hl2:=rv.length
   have hne:its≠ []:=λz=>h.2.2.1 (List.eq_nil_of_length_eq_zero (by rw[hl1,hl2,z];rfl))
   refine Tm.mul_tuple pl h.1 h.2.1 hne (by rw[<-hl2,<-hl1];exact h.2.2.2) ?_
   have hn:=I.hok.fresh (He _);refine⟨.ref _,_,I.laid (t':=s.toks) (o:=.tup (Hy k.toNat vs).flatten) (λb ob q=>G2 _ q) (He _) ?_,rfl,hp _ (aW hn _) _ (dH hn (hf _ hn) (z1.rep _))⟩
   refine⟨?_,_,rv.rep k.toNat,Nr _ _⟩
   rw[len_rep,Og,<-hl1];exact h.2.2.2
  ·exact hp.elim
 ·exact BV pins s σ H O _ _ vx vy ux uy Q I hf rx ry r1 r2 hp
end
def zh (outer:List (Str×J6))(N:List Str)(names:List (Str×J6))(N':List Str)(src:List (Option Nat)):Bool:=
 names.all (λy=>y.2 != .cell||names.lookup y.1 == some .cell)&&names.all (λy=>y.2 != .local||names.lookup y.1 == some .local)&&src.length == N'.length&&
 (Io N'.length).all (λj=>match src[j]? with
  | some (some i)=>match N'[j]? with
   | some x=>N[i]? == some x&&names.lookup x == some .free
   | none=>true
  | _=>true)&&
 names.all (λy=>y.2 != .free||(outer.lookup y.1 == some .cell||outer.lookup y.1 == some .free))
theorem LcScope.by {X:Cx}{scope:J8}{N N':List Str}{src:List (Option Nat)}{names:List (Str×J6)}(hN:X.N=N)(hs:X.env.scope.names=names)(hk:scope.kind= .function)(h:zh names N scope.names N' src=true):LcScope X scope N' src:=by
 unfold zh at h;simp only[G6]at h;obtain⟨⟨⟨⟨h1,h2⟩,h3⟩,h4⟩,h5⟩:=h
 have a1:=HC.mp h1
 have a2:=HC.mp h2
 have a4:=HC.mp h4
 have a5:=HC.mp h5;refine⟨hk,λy hy hl=>by have:=a1 y hy;rw[hl]at this;simpa using this,λy hy hl=> ?_,by simpa using h3,λj i x e1 e2=> ?_,λx hx=> ?_⟩
 ·have:=a2 y hy
  rw[hl]at this
  simpa using this
 ·have hj:j<N'.length:=(Hm.mp e2).1
  have:=a4 j (IP.mpr hj);rw[e1]at this;simp only[e2]at this;rw[G6]at this;rw[hN];exact⟨by simpa using this.1,by simpa using this.2⟩
 ·have:=a5 _ hx
  simp only[bne_self_eq_false,Nv,OS]at this
  show X.env.scope.names.lookup x=_\/X.env.scope.names.lookup x=_
  rw[hs];rcases this with z | z
  ·exact .inl (by simpa using z)
  ·exact .inr (by simpa using z)
def cP:Expr->Bool
 | .Starred .. =>false
 | _=>true
def a0:List Expr->Bool
 | [] =>true
 | e::r=>cP e&&a0 r
theorem bt {e:Expr}{es:List Expr}{env:Env}(h:cP e=true):Hj (e::es) env=(false,eval e env)::Hj es env:=by
 cases e <;> first | rfl | cases h
theorem ef {pos:Pos}{env:Env}:∀{es:List Expr},a0 es=true->(backTo pos (Hj es env)).any (·.1)=false
 | [],_=>rfl
 | e::r,h=>by
  unfold a0 at h;rw[G6]at h;rw[bt h.1]
  have ih:=ef (pos:=pos) (env:=env) h.2
  show(false||(backTo pos (Hj r env)).any (·.1))=false
  rw[ih];rfl
section
variable {X:Cx}{a b e:Expr}{es:List Expr}{fa:En->Rs T}{fs:En->Rs (List T)}{pos p p2:Pos}{x:Str}
theorem qa_c {f:En->Rs T}{g:En->Rs (List T)}(he:cR X e f)(hr:oI X es g)(hn:autoParam (cP e=true) u_):oI X (e::es) (ae f g):=yE he hr (bt hn)
theorem q_cB {id:String}{g:List T->Rs T}(hc:CallT X (.builtin id) g)(hm:X.mg x=none)(hv:HA x=some (.builtin id))(ha:oI X (e::es) fs)(hn:autoParam (a0 (e::es)=true) u_)(hg:autoParam (Gl X x) u_)(h1:autoParam (x≠ "__name__") s_)(h2:autoParam ((x == ("__debug__" : Str))=false) s_) :
  cR X (.Call (.Name x p) (e::es) [] pos) (cl g fs):=by
 unfold a0 at hn;rw[G6]at hn;exact yH hc hm hv ha hg h1 h2 (bt hn.1) (ef hn.2)
theorem q_cT {Ty:String}{g:List T->Rs T}(hc:CallT X (.type Ty) g)(hm:X.mg x=none)(hv:HA x=some (.type Ty))(ha:oI X (e::es) fs)(hn:autoParam (a0 (e::es)=true) u_)(hg:autoParam (Gl X x) u_)(h1:autoParam (x≠ "__name__") s_)(h2:autoParam ((x == ("__debug__" : Str))=false) s_) :
  cR X (.Call (.Name x p) (e::es) [] pos) (cl g fs):=by
 unfold a0 at hn;rw[G6]at hn;exact vH hc hm hv ha hg h1 h2 (bt hn.1) (ef hn.2)
theorem q_c {n k:Nat}{f:Addr}{fd:Ib}{ps:List Str}{g:List T->Rs T}(F:C6 X.prog X.w X.K X.mg X.base k f fd ps n g)(hr:Room k X.A)(hm:X.mg x=some (.ref f))(hk:JZ X.K (.ref f)=true)(hb:Binds X.K fd ps [])
  (hl:∀ρ ts,fs ρ= .ok ts->ts.length=n) (ha:oI X (e::es) fs) (hps:autoParam (ps.length=n) u_) (hn:autoParam (a0 (e::es)=true) u_) (hg:autoParam (Gl X x) u_) (h2:autoParam ((x == ("__debug__" : Str))=false) s_):cR X (.Call (.Name x p) (e::es) [] pos) (cl g fs):=by
 unfold a0 at hn;rw[G6]at hn;exact BJ F hr hm hk hb hps hl ha hg h2 (bt hn.1) (ef hn.2)
theorem q_is {tn:Str}{Ty:String}(hm:X.mg "isinstance" =none)(hmt:X.mg tn=none)(hv:HA tn=some (.type Ty))(ha:cR X a fa)(hn:autoParam (cP a=true) u_)(hg:autoParam (Gl X "isinstance") u_)(hgt:autoParam (Gl X tn) u_)
  (h1:autoParam (tn≠ "__name__") s_) (h2:autoParam ((tn == ("__debug__" : Str))=false) s_):cR X (.Call (.Name "isinstance" p) [a,.Name tn p2] [] pos) (o1 (xU Ty) fa):=
 D2 hm hmt hv ha hg hgt h1 h2 (bt hn) (ef rfl) (bt rfl)
end
theorem AW (ρ:En)(ts:List T)(h:ai ρ= .ok ts):ts.length=0:=by cases h;rfl
theorem AV {n:Nat}{f:En->Rs T}{g:En->Rs (List T)}(hg:∀ρ ts,g ρ= .ok ts->ts.length=n)(ρ:En)(ts:List T)(h:ae f g ρ= .ok ts):ts.length=n+1:=by
 unfold ae at h
 cases q:f ρ with
 | bad=>rw[q]at h;cases h
 | err c=>rw[q]at h;cases h
 | ok t=>
  rw[q,aF]at h
  cases q2:g ρ with
  | bad=>rw[q2]at h;cases h
  | err c=>rw[q2]at h;cases h
  | ok r=>
   rw[q2,aF]at h;cases h;rw[G4,hg ρ r q2]
theorem fB {k:Nat}{A:HF}(h:Room k A):A.units+60<cLine:=by have:=h.un;omega
structure Fn (K:GW)(mg:Str->Option GZ)(x:Str)(st:Stmt)(ps:List Str)(f:Addr)(fd:Ib):Prop where
 fn:L2.Fun K x x st f fd
 bd:Binds K fd ps []
 mg:mg x=some (.ref f)
def val (n m:Nat)(F:En->Rs Fl)(ts:List T):Rs T:=if ts.length=n then bh F (aG m ts)else .bad
theorem uT {n m:Nat}{F:En->Rs Fl}{ts:List T}{t:T}(h:val n m F ts= .ok t):bh F (aG m ts)= .ok t:=by
 unfold val at h
 split at h
 ·exact h
 ·cases h
theorem sp_script {K:GW}{H:Hp}{a:Addr}{ns:List Int}{g:List T->Rs T}{E:XK}(hS:SqL K H a (ns.map V.int))(h:g [.scr ns] = .ok (.bl true)):spP K 1 g [.ref a] H (λv _=>v= .bl true) E:=by
 refine⟨[.scr ns],λ_=>False,Reps.FL ?_ Reps.FO,λ_ z=>z.elim,rfl,?_⟩
 ·unfold Rep;exact⟨a,rfl,λz=>z,hS⟩
 ·rw[h];exact λv H' _ r=>Rep.FK.mp r
theorem o9 {α:Type}{l:List α}{i:Nat}{z:α}(h:l[i]? =some z):l.set i z=l:=by
 obtain⟨hi,rfl⟩:=Hm.mp h
 exact List.set_getElem_self hi
def Mn.set (M:Mn)(i:Nat)(m:Ow):Mn:=λj=>if j=i then m else M j
theorem Mn.F3 {M:Mn}{i:Nat}{m:Ow}{a:Addr}(h:(M.set i m).u a):m a\/M.u a:=by
 obtain⟨j,h⟩:=h;unfold Mn.set at h
 by_cases z:j=i
 ·rw[if_pos z]at h;exact .inl h
 ·rw[if_neg z]at h;exact .inr ⟨j,h⟩
theorem Mn.Gx {M:Mn}{i:Nat}{m:Ow}:M.set i m i=m:=by unfold Mn.set;rw[if_pos rfl]
theorem Mn.F6 {M:Mn}{i j:Nat}{m:Ow}(h:j≠i):M.set i m j=M j:=by unfold Mn.set;rw[if_neg h]
theorem RowsR.move {K:GW}{O O' P:Ow}{H H':Hp}(hP:∀a,P a->O a\/Nw K H a)(hO:∀a,O' a->O a\/Nw K H a)(h:SameO P H H'):∀{rs:List (List T×List T)} {as:List Addr},(∀b∈as,¬P b)->RowsR K O H rs as->RowsR K O' H' rs as
 | [],_,_,r=>r
 | _::_,_,hb,⟨b,bs,kvs,e1,e2,e3,e4,e5⟩=>by
  subst e1;exact⟨b,bs,kvs,rfl,h _ _ e2 (hb b G7),e3,e4.move hP hO h,e5.move hP hO h λc hc=>hb c (G5 _ hc)⟩
theorem LsR.move {K:GW}{O O' P:Ow}{H H':Hp}(hP:∀a,P a->O a\/Nw K H a)(hO:∀a,O' a->O a\/Nw K H a)(h:SameO P H H'):∀{rs:List (List T)} {as:List Addr},(∀b∈as,¬P b)->LsR K O H rs as->LsR K O' H' rs as
 | [],_,_,r=>r
 | _::_,_,hb,⟨b,bs,vs,e1,e2,e4,e5⟩=>by
  subst e1;exact⟨b,bs,vs,rfl,h _ _ e2 (hb b G7),e4.move hP hO h,e5.move hP hO h λc hc=>hb c (G5 _ hc)⟩
theorem ORep.move {K:GW}{O O' P M:Ow}{H H':Hp}{o:OT}{v:V}(hP:∀a,P a->O a\/Nw K H a)(hO:∀a,O' a->O a\/Nw K H a)(h:SameO P H H')(hM:∀a,M a->¬ P a)(r:ORep K O M H o v):ORep K O' M H' o v:=by
 cases o with
 | lst l=>obtain⟨a,vs,e1,e2,e3,e4⟩:=r;exact⟨a,vs,e1,e2,h _ _ e3 (hM a ((e2 a).mpr rfl)),e4.move hP hO h⟩
 | dct ks ts=>obtain⟨a,kvs,e1,e2,e3,e4,e5⟩:=r;exact⟨a,kvs,e1,e2,h _ _ e3 (hM a ((e2 a).mpr rfl)),e4,e5.move hP hO h⟩
 | dd ks rows=>
  obtain⟨a,kvs,as,e1,e2,e3,e4,e5,e6,e7,e8⟩:=r
  exact⟨a,kvs,as,e1,e2,e3,e4,h _ _ e5 (hM a ((e2 a).mpr (.inl rfl))),e6,e7,e8.move hP hO h λb hb=>hM b ((e2 b).mpr (.inr hb))⟩
 | ob C ns ls=>
  obtain⟨a,dx,as,e1,e2,e3,e4,e5,e6,e7,e8⟩:=r
  exact⟨a,dx,as,e1,e2,e3,h _ _ e4 (hM a ((e2 a).mpr (.inl rfl))),h _ _ e5 (hM dx ((e2 dx).mpr (.inr (.inl rfl)))),e6,e7,e8.move hP hO h λb hb=>hM b ((e2 b).mpr (.inr (.inr hb)))⟩
 | ll ls=>
  obtain⟨a,as,e1,e2,e3,e4,e5,e6⟩:=r;exact⟨a,as,e1,e2,e3,e4,h _ _ e5 (hM a ((e2 a).mpr (.inl rfl))),e6.move hP hO h λb hb=>hM b ((e2 b).mpr (.inr hb))⟩
theorem RowsR.mtb {K:GW}{O:Ow}{H:Hp}:∀{rs:List (List T×List T)} {as:List Addr},RowsR K O H rs as->∀b∈as,∃kvs,H b=some (.dT kvs)
 | [],_,r,b,hb=>by unfold RowsR at r;subst r;simp at hb
 | _::_,_,⟨b0,bs,kvs,e1,e2,e3,e4,e5⟩,b,hb=>by
  subst e1;rcases Hd.mp hb with rfl | hb
  ·exact⟨kvs,e2⟩
  ·exact e5.mtb b hb
theorem LsR.mtb {K:GW}{O:Ow}{H:Hp}:∀{rs:List (List T)} {as:List Addr},LsR K O H rs as->∀b∈as,∃vs,H b=some (.lst vs)
 | [],_,r,b,hb=>by unfold LsR at r;subst r;simp at hb
 | _::_,_,⟨b0,bs,kvs,e1,e2,e4,e5⟩,b,hb=>by
  subst e1;rcases Hd.mp hb with rfl | hb
  ·exact⟨kvs,e2⟩
  ·exact e5.mtb b hb
def LO (H:Hp)(a:Addr):Prop:=(∃vs,H a=some (.lst vs))\/∃o,H a=some o/\isO o=true
def OT.isD:OT->Bool
 | .lst _=>false
 | .ob _ _ _=>false
 | .ll _=>false
 | _=>true
theorem ORep.kind {K:GW}{O M:Ow}{H:Hp}{o:OT}{v:V}(r:ORep K O M H o v):∀a,M a->if o.isD then ∃kvs,H a=some (.dT kvs)else LO H a:=λa z=>by
 cases o with
 | lst l=>obtain⟨b,vs,e1,e2,e3,e4⟩:=r;cases (e2 a).mp z;exact .inl ⟨vs,e3⟩
 | dct ks ts=>obtain⟨b,kvs,e1,e2,e3,e4,e5⟩:=r;cases (e2 a).mp z;exact⟨kvs,e3⟩
 | dd ks rows=>
  obtain⟨b,kvs,as,e1,e2,e3,e4,e5,e6,e7,e8⟩:=r
  rcases(e2 a).mp z with z | z
  ·cases z;exact⟨kvs,e5⟩
  ·exact e8.mtb a z
 | ob C ns ls=>
  obtain⟨b,dx,as,e1,e2,e3,e4,e5,e6,e7,e8⟩:=r
  rcases(e2 a).mp z with z | z | z
  ·cases z;exact .inr ⟨_,e4,rfl⟩
  ·cases z;exact .inr ⟨_,e5,rfl⟩
  ·exact .inl (e8.mtb a z)
 | ll ls=>
  obtain⟨b,as,e1,e2,e3,e4,e5,e6⟩:=r
  rcases(e2 a).mp z with z | z
  ·cases z;exact .inl ⟨_,e5⟩
  ·exact .inl (e6.mtb a z)
theorem ORep.mtb {K:GW}{O M:Ow}{H:Hp}{o:OT}{v:V}(r:ORep K O M H o v)(a:Addr)(z:M a):Mtb H a:=by
 have:=r.kind a z
 split at this
 ·exact .inr (.inl this)
 ·exact this.imp_right .inr
theorem ph {K:GW}{O:Ow}{H:Hp}:∀{rs:List (List T×List T)} {as:List Addr},(∀b∈as,¬O b)->RowsR K O H rs as->Reps K O H (rs.map λr=>T.dct r.1 r.2) (as.map V.ref)
 | [],_,_,r=>by unfold RowsR at r;subst r;exact Reps.FO
 | _::_,_,hn,⟨b,bs,kvs,e1,e2,e3,e4,e5⟩=>by
  subst e1;exact Reps.FL (Rep.FQ.mpr ⟨b,kvs,rfl,hn b G7,.inl e2,e3,e4⟩) (ph (λc hc=>hn c (G5 _ hc)) e5)
theorem RowsR.less {K:GW}{O O':Ow}{H:Hp}(sub:∀a,O' a->O a):∀{rs:List (List T×List T)} {as:List Addr},RowsR K O H rs as->RowsR K O' H rs as
 | [],_,r=>r
 | _::_,_,⟨b,bs,kvs,e1,e2,e3,e4,e5⟩=>⟨b,bs,kvs,e1,e2,e3,e4.less sub,e5.less sub⟩
theorem LsR.less {K:GW}{O O':Ow}{H:Hp}(sub:∀a,O' a->O a):∀{rs:List (List T)} {as:List Addr},LsR K O H rs as->LsR K O' H rs as
 | [],_,r=>r
 | _::_,_,⟨b,bs,kvs,e1,e2,e4,e5⟩=>⟨b,bs,kvs,e1,e2,e4.less sub,e5.less sub⟩
theorem LsR.rep {K:GW}{O:Ow}{H:Hp}:∀{rs:List (List T)} {as:List Addr},(∀b∈as,¬O b)->LsR K O H rs as->Reps K O H (rs.map T.lst) (as.map V.ref)
 | [],_,_,r=>by unfold LsR at r;subst r;exact Reps.FO
 | _::_,_,hn,⟨b,bs,kvs,e1,e2,e4,e5⟩=>by
  subst e1;exact Reps.FL (Rep.FB.mpr ⟨b,kvs,rfl,hn b G7,e2,e4⟩) (LsR.rep (λc hc=>hn c (G5 _ hc)) e5)
theorem nt {α β:Type}:∀{l:List α} {m:List β},l.length=m.length->(l.zip m).map (·.1)=l
 | [],[],_=>rfl
 | a::l,b::m,h=>by
  have h':l.length=m.length:=by simpa using h
  show a::(l.zip m).map (·.1)=_
  rw[nt h']
theorem nr {α β:Type}:∀{l:List α} {m:List β},l.length=m.length->(l.zip m).map (·.2)=m
 | [],[],_=>rfl
 | a::l,b::m,h=>by
  have h':l.length=m.length:=by simpa using h
  show b::(l.zip m).map (·.2)=_
  rw[nr h']
theorem ORep.rep {K:GW}{O O' M:Ow}{H:Hp}{o:OT}{v:V}(sub:∀a,O' a->O a)(hn:∀a,M a->¬ O' a)(r:ORep K O M H o v):Rep K O' H o.view v:=by
 cases o with
 | lst l=>obtain⟨a,vs,e1,e2,e3,e4⟩:=r;exact Rep.FB.mpr ⟨a,vs,e1,hn a ((e2 a).mpr rfl),e3,e4.less sub⟩
 | dct ks ts=>obtain⟨a,kvs,e1,e2,e3,e4,e5⟩:=r;exact Rep.FQ.mpr ⟨a,kvs,e1,hn a ((e2 a).mpr rfl),.inl e3,e4,e5.less sub⟩
 | dd ks rows=>
  obtain⟨a,kvs,as,e1,e2,e3,e4,e5,e6,e7,e8⟩:=r;refine Rep.FQ.mpr ⟨a,kvs,e1,hn a ((e2 a).mpr (.inl rfl)),.inl e5,e6,?_⟩
  rw[e7]
  exact ph (λb hb=>hn b ((e2 b).mpr (.inr hb))) (e8.less sub)
 | ob C ns ls=>
  obtain⟨a,dx,as,e1,e2,e3,e4,e5,e6,e7,e8⟩:=r
  have hl:ns.length=(as.map V.ref).length:=by rw[G3];exact e6
  refine Rep.Gg.mpr ⟨a,dx,_,e1,⟨⟨hn a ((e2 a).mpr (.inl rfl)),hn dx ((e2 dx).mpr (.inr (.inl rfl))),e5⟩,as,nr hl,e3.1,e3.2.1,e3.2.2.1,e3.2.2.2,by rw[nt hl];exact e7⟩,e4,nt hl,?_⟩
  rw[nr hl]
  exact(e8.less sub).rep λb hb=>hn b ((e2 b).mpr (.inr (.inr hb)))
 | ll ls=>
  obtain⟨a,as,e1,e2,e3,e4,e5,e6⟩:=r;exact Rep.FB.mpr ⟨a,_,e1,hn a ((e2 a).mpr (.inl rfl)),e5,(e6.less sub).rep λb hb=>hn b ((e2 b).mpr (.inr hb))⟩
section
variable {K:GW}{B:Ow}{M:Mn}{H H':Hp}{ρ:En}{σ:L2.St}{i:Nat}{o o':OT}{v:V}{m:Ow}
theorem Ev.new (E:Ev K B M H ρ σ)(hl:i<ρ.length)(hm:∀a,m a->Nw K H a)(s:Same H H')(r:ORep K (OO B (M.set i m)) m H' o v) :
  Ev K B (M.set i m) H' (ρ.set i (.ow o)) (σ.set i (some v))/\∀a,(M.set i m).u a->M.u a\/Nw K H a:=by
 have hls:i<σ.length:=by rw[<-E.env.len];exact hl
 have sub:∀a,(M.set i m).u a->M.u a\/Nw K H a:=λa z=>(Mn.F3 z).elim (λw=> .inr (hm a w)) .inl
 have subO:∀a,OO B (M.set i m) a->OO B M a\/Nw K H a:=λa z=>z.elim (λw=> .inl (.inl w)) λw=>(sub a w).elim (λy=> .inl (.inr y)) .inr
 have dj:∀a,Nw K H a->¬ OO B M a:=λa w z=>by
  obtain⟨o,e⟩:=(E.env.trk a z).some;rw[w.1]at e;cases e
 refine⟨⟨⟨by rw[IS,IS];exact E.env.len,λj t e=> ?_,λj o' e=> ?_,λj a z=> .inr ⟨j,z⟩,λj k a z1 z2=> ?_,λa z=> ?_⟩,λa z=> ?_⟩,sub⟩
 ·by_cases hj:i=j
  ·subst hj;rw[HI hl]at e;cases e
  ·rw[HH hj]at e
   obtain⟨w,e1,e2⟩:=E.env.val j t e;exact⟨w,by rw[HH hj];exact e1,(e2.more subO).same s⟩
 ·by_cases hj:i=j
  ·subst hj
   rw[HI hl]at e
   cases e;exact⟨v,HI hls,by rw[Mn.Gx];exact r⟩
  ·rw[HH hj]at e
   obtain⟨w,e1,e2⟩:=E.env.own j o' e;refine⟨w,by rw[HH hj];exact e1,?_⟩
   rw[Mn.F6 (λz=>hj z.symm)]
   exact(e2.move (P:=wq) (λ_ z=>z.elim) subO (λb u q _=>q) λ_ _ z=>z).same s
 ·unfold Mn.set at z1 z2
  by_cases hj:j=i
  ·by_cases hk:k=i
   ·exact hj.trans hk.symm
   ·rw[if_pos hj]at z1;rw[if_neg hk]at z2
    exact(dj a (hm a z1) (.inr ⟨k,z2⟩)).elim
  ·by_cases hk:k=i
   ·rw[if_neg hj]at z1;rw[if_pos hk]at z2
    exact(dj a (hm a z2) (.inr ⟨j,z1⟩)).elim
   ·rw[if_neg hj]at z1;rw[if_neg hk]at z2
    exact E.env.dis j k a z1 z2
 ·rcases z with z | z
  ·exact(E.env.trk a (.inl z)).same s
  ·rcases Mn.F3 z with w | w
   ·exact r.mtb a w
   ·exact(E.env.trk a (.inr w)).same s
 ·intro hb
  rcases Mn.F3 z with w | w
  ·exact dj a (hm a w) (.inl hb)
  ·exact E.mine a w hb
theorem Ev.put (E:Ev K B M H ρ σ)(hi:ρ[i]? =some (.ow o))(hs:σ[i]? =some (some v))(s:SameO (M i) H H')(r:ORep K (OO B M) (M i) H' o' v):Ev K B M H' (ρ.set i (.ow o')) σ/\SameO M.u H H':=by
 have hl:i<ρ.length:=(Hm.mp hi).1
 have inO:∀a,M i a->OO B M a\/Nw K H a:=λa z=> .inl (.inr ⟨i,z⟩)
 have idO:∀a,OO B M a->OO B M a\/Nw K H a:=λa z=> .inl z
 refine⟨⟨⟨by rw[IS];exact E.env.len,λj t e=> ?_,λj o2 e=> ?_,E.env.sub,E.env.dis,λa z=> ?_⟩,E.mine⟩,λb u e n=>s b u e λz=>n ⟨i,z⟩⟩
 ·by_cases hj:i=j
  ·subst hj;rw[HI hl]at e;cases e
  ·rw[HH hj]at e
   obtain⟨w,e1,e2⟩:=E.env.val j t e;exact⟨w,e1,e2.move inO idO s⟩
 ·by_cases hj:i=j
  ·subst hj
   rw[HI hl]at e
   cases e;exact⟨v,hs,r⟩
  ·rw[HH hj]at e
   obtain⟨w,e1,e2⟩:=E.env.own j o2 e;exact⟨w,e1,e2.move inO idO s λa z y=>hj (E.env.dis i j a y z)⟩
 ·by_cases hz:M i a
  ·exact r.mtb a hz
  ·exact(E.env.trk a z).at λo e=>s _ _ e hz
def disown (i:Nat)(ρ:En):En:=match ρ[i]? with
 | some (.ow o)=>ρ.set i (.va o.view)
 | _=>ρ
theorem EnvM.disown {O O':Ow}{ρ:En}(E:EnvM K O M H ρ σ)(i:Nat)(sub:∀a,O' a->O a)(hn:∀a,M i a->¬ O' a)(hin:∀j a,j≠i->M j a->O' a):EnvM K O' (M.set i wq) H (disown i ρ) σ:=by
 have base:EnvM K O' (M.set i wq) H (ρ.set i (match ρ[i]? with | some (.ow o)=> .va o.view | some x=>x | none=> .em)) σ:=by
  refine⟨by rw[IS];exact E.len,λj t e=> ?_,λj o e=> ?_,λj a z=> ?_,λj k a z1 z2=> ?_,λa z=>E.trk a (sub a z)⟩
  ·by_cases hj:i=j
   ·subst hj
    by_cases hl:i<ρ.length
    ·rw[HI hl]at e
     cases q:ρ[i]? with
     | none=>rw[q]at e;cases e
     | some z=>
      rw[q]at e
      cases z with
      | em=>cases e
      | va t'=>cases e;obtain⟨w,e1,e2⟩:=E.val i _ q;exact⟨w,e1,e2.less sub⟩
      | ow o=>cases e;obtain⟨w,e1,e2⟩:=E.own i _ q;exact⟨w,e1,e2.rep sub hn⟩
    ·rw[JE (by rw[IS];omega)]at e;cases e
   ·rw[HH hj]at e
    obtain⟨w,e1,e2⟩:=E.val j t e;exact⟨w,e1,e2.less sub⟩
  ·by_cases hj:i=j
   ·subst hj
    by_cases hl:i<ρ.length
    ·rw[HI hl]at e
     cases q:ρ[i]? with
     | none=>rw[q]at e;cases e
     | some z=>
      rw[q]at e
      cases z with
      | em=>cases e
      | va t'=>cases e
      | ow o=>cases e
    ·rw[JE (by rw[IS];omega)]at e;cases e
   ·rw[HH hj]at e
    obtain⟨w,e1,e2⟩:=E.own j o e;refine⟨w,e1,?_⟩
    rw[Mn.F6 (λz=>hj z.symm)]
    exact e2.move (P:=wq) (λ_ z=>z.elim) (λa z=> .inl (sub a z)) (λb u q _=>q) λ_ _ z=>z
  ·unfold Mn.set at z
   by_cases hj:j=i
   ·rw[if_pos hj]at z;exact z.elim
   ·rw[if_neg hj]at z;exact hin j a hj z
  ·unfold Mn.set at z1 z2
   by_cases hj:j=i
   ·rw[if_pos hj]at z1;exact z1.elim
   ·by_cases hk:k=i
    ·rw[if_pos hk]at z2;exact z2.elim
    ·rw[if_neg hj]at z1;rw[if_neg hk]at z2;exact E.dis j k a z1 z2
 unfold Tr.disown
 cases q:ρ[i]? with
 | none=>rw[q,List.set_eq_of_length_le (List.getElem?_eq_none_iff.mp q)]at base;exact base
 | some z=>
  rw[q]at base
  cases z with
  | em=>rw[o9 q]at base;exact base
  | va t=>rw[o9 q]at base;exact base
  | ow o=>exact base
theorem Ev.disown (E:Ev K B M H ρ σ)(i:Nat):Ev K B (M.set i wq) H (disown i ρ) σ/\∀a,(M.set i wq).u a->M.u a:=by
 have sub:∀a,(M.set i wq).u a->M.u a:=λa z=>(Mn.F3 z).elim (λw=>w.elim) id
 refine⟨⟨E.env.disown i (λa z=>z.elim .inl λw=> .inr (sub a w)) (λa z y=> ?_) λj a hj z=> .inr ⟨j,by rw[Mn.F6 hj];exact z⟩,λa z=>E.mine a (sub a z)⟩,sub⟩
 rcases y with y | ⟨j,y⟩
 ·exact E.mine a ⟨i,z⟩ y
 ·unfold Mn.set at y
  by_cases hj:j=i
  ·rw[if_pos hj]at y;exact y
  ·rw[if_neg hj]at y;exact hj (E.env.dis j i a y z)
end
section
variable {X:Cx}{a:Expr}{es:List Expr}{fa:En->Rs T}{pos p2 p3:Pos}{x:Str}
theorem Ev.subO {K:GW}{B:Ow}{M:Mn}{H:Hp}{i:Nat}{m:Ow}(hm:∀a,m a->Nw K H a)(a:Addr)(z:OO B (M.set i m) a):OO B M a\/Nw K H a:=
 z.elim (λw=> .inl (.inl w)) λw=>(Mn.F3 w).elim (λy=> .inr (hm a y)) λy=> .inl (.inr y)
theorem y6 {K:GW}{H H1:Hp}(s:Same H H1){a:Addr}(n:Nw K H1 a):Nw K H a:=(hZ (SameO.of (P:=wq) s) n).elim (λz=>z.elim) id
def Ds (X:Cx)(t:TA):TE:=λσ H Q=>t σ H λxs H1=>xs.length<=sizeLine/\∀p,Nw X.K H1 p->Q (.ref p) (cz H1 p (.lst xs))
theorem yU {t:TA}(h:PA X es t):PE X (.List es pos) (Ds X t):=by
 intro pins s σ H Q I hq;refine NH (bJ (h pos pins s σ H _ I hq) λus s1 ⟨xs,H1,I1,r,z,q⟩=>⟨by rw[<-r.length];exact z,?_⟩)
 have hf:H1 s1.heap.objs.size=none:=I1.hok.fresh (He _)
 have hk:X.K.lookup s1.heap.objs.size=none:=by
  cases q:X.K.lookup s1.heap.objs.size with
  | none=>rfl
  | some o=>exact absurd (Hf (I1.kIn _ o q)) (HB _)
 refine⟨.ref s1.heap.objs.size,cz H1 s1.heap.objs.size (.lst xs),I1.laid (t':=s1.toks) (λb u e=>G2 _ e) (He _) ?_,rfl,q _ ⟨hf,hk⟩⟩
 exact⟨z,us,0,r,Hk _ rfl⟩
def kX (i:Nat)(f:En->Rs (List T))(ρ:En):Rs Fl:=do
 let l <-f ρ
 if i<ρ.length/\l.length<=sizeLine then .ok (.nx (ρ.set i (.ow (.lst l))))else .bad
theorem yu (i:Nat){f:En->Rs (List T)}(hN:X.N.Nodup)(ha:oI X es f)(hi:autoParam (X.N[i]? =some x) u_)(hx:autoParam (Loc X.env.scope x) y_)(hs:autoParam (Kj (.List es p2) (some (.Name x p3)) pos.line X.env=pure false) u_)
  (hf:autoParam (X.fn x=true\/X.env.scope.names.lookup x=some .local) r_):sZ X (.Assign [.Name x p3] (.List es p2) pos) (kX i f):=PS.imp (vM hN hi hx (yU ha) hs hf) λD σ H hh_=>by
 obtain⟨ρ,B,M,E,h⟩:=hh_;refine⟨ρ,OO B M,E.o,?_⟩
 unfold kX at h
 cases q:f ρ with
 | bad=>rw[q]at h;exact h.elim
 | err c=>rw[q]at h;exact PostF.xa h
 | ok l=>
  rw[q,aF]at h;intro H1 s1 vs rs
  by_cases hl:i<ρ.length/\l.length<=sizeLine
  ·rw[if_pos hl]at h
   refine⟨by rw[<-rs.length];exact hl.2,λp hp=> ?_⟩
   have hm:∀a,a=p->Nw X.K H1 a:=λa z=>z▸hp
   obtain⟨E2,sub⟩:=(E.same s1).new (m:=λa=>a=p) (o:=.lst l) (v:=.ref p) (H':=cz H1 p (.lst vs)) hl.1 hm (aW hp.1 _) ⟨p,vs,rfl,λb=>LM,aT,(rs.more (Ev.subO hm)).same (aW hp.1 _)⟩
   exact h _ _ _ (SameO.of (s1.trans (aW hp.1 _))) E2 λa z=>(sub a z).imp_right (y6 s1)
  ·rw[if_neg hl]at h
   exact h.elim
theorem Ev.putL {K:GW}{B:Ow}{M:Mn}{H:Hp}{ρ:En}{σ:L2.St}{i:Nat}{o:OT}{l':List T}{b:Addr}{vs':List V}(E:Ev K B M H ρ σ)(hi:ρ[i]? =some (.ow o))(hs:σ[i]? =some (some (.ref b)))(hM:∀c,M i c↔c=b)(r:Reps K (OO B M) H l' vs') :
  Ev K B M (cz H b (.lst vs')) (ρ.set i (.ow (.lst l'))) σ/\SameO M.u H (cz H b (.lst vs')):=by
 have sm:SameO (M i) H (cz H b (.lst vs')):=λc u e nb=>by rw[aN (λz=>nb ((hM c).mpr z))];exact e
 exact E.put hi hs sm ⟨b,vs',rfl,hM,aT,r.move (P:=M i) (λa z=> .inl (.inr ⟨i,z⟩)) (λa z=> .inl z) sm⟩
def CB (i:Nat)(l:List T)(ρ:En):T->Rs Fl
 | .lst m=>if l.length+m.length<=sizeLine then .ok (.nx (ρ.set i (.ow (.lst (l++m)))))else .bad
 | _=> .bad
def qB (i:Nat)(f:En->Rs T)(ρ:En):Rs Fl:=match ρ[i]? with
 | some (.ow (.lst l))=>f ρ >>= CB i l ρ
 | _=> .bad
theorem BA (i:Nat){apos cpos:Pos}(ha:cR X a fa)(hN:autoParam (X.N[i]? =some x) u_)(hv:autoParam (rz X.env.scope x) v_)(hn:autoParam (cP a=true) u_)
  (hbase:autoParam (Jg (.Name x p2) "extend" X.env (eval (.Name x p2) X.env)=eval (.Name x p2) X.env) u_) (hline:autoParam ((apos.endLine == cpos.line)=true) u_)
  (hd:autoParam ((x == ("__debug__" : Str))=false) s_) (hcd:autoParam ((x == ("__classdict__" : Str))=false) s_)
  (hsw:autoParam (Kj (.Call (.Attribute (.Name x p2) "extend" apos) [a] [] cpos) none pos.line X.env=pure false) u_):sZ X (.Expr (.Call (.Attribute (.Name x p2) "extend" apos) [a] [] cpos) pos) (qB i fa):=by
 have h1:Hj [a] X.env=(false,eval a X.env)::Hj [] X.env:=bt hn;refine PS.imp (rV (vY Ku PySem.F.slot_list_extend PySem.F.type_list_extend tS (jN hN hv hd hcd) (b6 ha fy h1) hbase ?_ hline h1 rfl) hsw) λD σ H ⟨ρ,B,M,E,h⟩=> ?_
 ·rw[h1];rfl
 unfold qB at h
 split at h
 ·rename_i l hl
  obtain⟨v0,e1,b,vs,rfl,hM,e3,e4⟩:=E.env.own i _ hl;refine⟨.ref b,e1,.inl ⟨rfl,vs,SqL.of e3⟩,ρ,OO B M,E.o,?_⟩
  cases q:fa ρ with
  | bad=>rw[q]at h;exact h.elim
  | err c=>rw[q]at h;exact PostF.xa h
  | ok t=>
   rw[q,aF]at h;unfold CB at h
   split at h
   ·rename_i m
    split at h
    ·rename_i hz
     intro H1 s1 v r;obtain⟨c,ws,rfl,nO,hc,rm⟩:=Rep.FB.mp r
     have e3':=s1 _ _ e3;refine⟨b,c,vs,ws,rfl,rfl,e3',hc,by rw[<-e4.length,<-rm.length];exact hz,?_⟩
     obtain⟨g1,g2⟩:=(E.same s1).putL (l':=l++m) (vs':=vs++ws) hl e1 hM ((e4.same s1).append rm);exact h σ _ M (λc o e nb=>g2 c o (s1 _ _ e) nb) g1 λc z=> .inl z
    ·exact h.elim
   ·exact h.elim
 ·exact h.elim
def Bj (i:Nat)(F:En->Rs Fl)(ρ:En):Rs Fl:=F (disown i ρ)
theorem BB (i:Nat){st:Stmt}{F:En->Rs Fl}(h:sZ X st F):sZ X st (Bj i F):=PS.imp h λD σ H hh_=>by
 obtain⟨ρ,B,M,E,q⟩:=hh_;obtain⟨E',sub⟩:=E.disown i;exact⟨disown i ρ,B,_,E',PostF.later q (λ_ _ e _=>e) λa z=> .inl (sub a z)⟩
end
end Tr
namespace Tr
open PySem L2
def qb:List T->List T->List Key->Option T
 | k'::ks,v::vs,k=>if keyOf k'=some k then some v else qb ks vs k
 | _,_,_=>none
def lH (k v:T):List T->List T->List T×List T
 | k'::ks,v'::vs=>if keyOf k'=keyOf k then(k'::ks,v::vs)else(k'::(lH k v ks vs).1,v'::(lH k v ks vs).2)
 | _,_=>([k],[v])
def mr (x y:T):Rs T:=match x,keyOf y with
 | .dct ks vs,some k=>match qb ks vs k with
  | some t=> .ok t
  | none=> .bad
 | _,_=> .bad
def oD (g:T->T->Rs T)(fa fb:En->Rs T)(ρ:En):Rs T:=fa ρ >>= λx=>match x with
 | .dct ks vs=>fb ρ >>= g (.dct ks vs)
 | _=> .bad
def oL (g:T->T->Rs T)(fa fb:En->Rs T)(ρ:En):Rs T:=fa ρ >>= λx=>match x with
 | .lst l=>fb ρ >>= g (.lst l)
 | _=> .bad
def jG:List (T×T)->List T×List T->List T×List T
 | [],d=>d
 | (k,v)::r,d=>jG r (lH k v d.1 d.2)
def kg:List T->Bool
 | [] =>true
 | k::l=>(keyOf k).isSome&&kg l
end Tr
namespace Tr
open PySem PySem.Spec PyProof.Rows L2
theorem fD {h b b':Heap}:∀{l:List Env},h.FunFrames b l->(∀a∈l.filterMap (·.frame),b'.get? a=none)->h.FunFrames b' l
 | [],_,_=>trivial
 | env::a9,⟨hk,⟨L,o,hf,hn,ho,hd⟩,hr⟩,q=>by
  rw[Ja,hf]at q;exact⟨hk,⟨L,o,hf,q L G7,ho,hd⟩,fD hr λa ha=>q a (G5 _ ha)⟩
section
variable {M:L7}{A:HF}{E:GZ->GX->Prop}{s:GX}
structure Gone (fs:List Addr)(C e:Addr)(T:Option Addr)(h h':Heap)(T':Addr):Prop where
 flt:Flt h' C e (some T')
 new:T=some T'\/h.get? T'=none
 keep:∀b o,b∉fs->b≠e->T≠some b->h.get? b=some o->h'.get? b=some o
 slot:∀b o,b∈fs->h.get? b=some o->∃sl,h'.get? b=some { o with slots:=sl }
theorem wA {base:Heap}{env:Env}{outer:List Env}{L C e:Addr}{T:Option Addr}{Q:Unit->GX->Prop}(hfr:A.frames=some (env::outer))(hl:s.heap.FunFrames base (env::outer))(hf:env.frame=some L)
  (F:Flt s.heap C e T) (h:∀h' T',Gone ((env::outer).filterMap (·.frame)) C e T s.heap h' T'->Q () { s with heap:=h' }):wpAny M A (leaving env (.ref e)) Q E s:=by
 generalize hB:MA s.heap (e::(T.toList++(env::outer).filterMap (·.frame)))=B
 have bm:∀b,b∈e::(T.toList++(env::outer).filterMap (·.frame))->B.get? b=none:=λb m=>by rw[<-hB];exact K7 _ m
 have hl':s.heap.FunFrames B (env::outer):=fD hl λa ha=>bm a (G5 _ (Hg _ ha))
 have hst:B.StaysIn s.heap:=λb o q=>by rw[<-hB]at q;exact Lx _ q
 have hen:B.get? e=none:=bm e G7
 have main:∀h',Heap.Left B (env::outer) e (.ref C) s.heap h'->Q () { s with heap:=h' }:=λh' ⟨x1,x2,⟨oe,vs,T',oT,ts,he,hc,hd,h1,hnT,hTe,hT,hdT,h3⟩,x4⟩=>by
  refine h h' T' ⟨⟨hTe,oe,vs,he,hc,hd,h1,oT,ts,hT,hdT,h3⟩,?_,λb o n1 n2 n3 q=> ?_,λb o m q=> ?_⟩
  ·cases q:s.heap.get? T' with
   | none=>exact .inr rfl
   | some o=>
    left
    by_cases z:T'∈e::(T.toList++(env::outer).filterMap (·.frame))
    ·rcases Hd.mp z with z | z
     ·exact absurd z hTe
     ·rcases G8.mp z with z | z
      ·cases T with
       | none=>simp at z
       | some t=>simp at z;rw[z]
      ·obtain⟨_,o',ho',hnf⟩:=x2.mem z
       rw[hT]at ho';cases ho';exact absurd hdT (hnf ts)
    ·rw[<-hB,JU _ q z]at hnT;cases hnT
  ·refine x1 b o ?_
   rw[<-hB];refine JU _ q λz=> ?_
   rcases Hd.mp z with z | z
   ·exact n2 z
   ·rcases G8.mp z with z | z
    ·cases T with
     | none=>simp at z
     | some t=>simp at z;exact n3 (by rw[z])
    ·exact n1 z
  ·obtain⟨_,o',ho',hnf⟩:=hl.mem m
   rw[q]at ho';cases ho';exact x4 b o q hnf
 cases T with
 | none=>
  obtain⟨oe,vs,he,hc,hd,h1⟩:=F;refine wpAny_leaving_first hfr hl' hf he hst hen hd h1 λh' x=>main h' ?_
  rw[hc]at x;exact x
 | some t=>
  obtain⟨hte,oe,vs,he,hc,hd,h1,oT,ts,hT,hdT,h3⟩:=F;exact wpAny_leaving_next hfr hl' hf ⟨oe,vs,t,oT,ts,he,hc,hd,h1,bm t (G5 _ (HG _ (by simp))),hte,hT,hdT,h3⟩ hst hen main
end
abbrev lQ:List GZ:=[.type "ValueError",.type "Exception",.type "BaseException",.type "object"]
structure OwnExc (K:GW)(C:Addr)(bm:List GZ):Prop where
 at_:∀h:Heap,K.In h->∃nm q N bs hdct sn sub ab col dd k0 k1 k2 k3 k5 mN,h.get? C=some (IT nm q C N bs bm hdct sn sub ab col dd k0 k1 k2 k3 k5 "ValueError.__new__")/\h.Ns N mN/\mN "__init__" =none/\OwnTail h lQ bm
theorem OwnExc.base {K:GW}{C:Addr}{bm:List GZ}(O:OwnExc K C bm){h:Heap}(k:K.In h):bm.contains (.type "BaseException")=true:=by
 obtain⟨_,_,_,_,_,_,_,_,_,_,_,_,_,_,_,_,_,_,_,T⟩:=O.at_ h k;exact T.hasType (by decide)
def pe (c:Str)(_:En):Rs Fl:=.err c
section
variable {X:Cx}
theorem vF {c:Str}{msg:Str}{C:Addr}{bm:List GZ}{np p1 cpos pos:Pos}{j:Nat}(O:OwnExc X.K C bm)(hc:X.calm=true)(hm:X.mg c=some (.ref C))(hg:autoParam (Gl X c) u_)(hd:autoParam ((c == ("__debug__" : Str))=false) s_) :
  sZ X (.Raise (some (.Call (.Name c np) [.Constant (.str msg) j p1] [] cpos)) none pos) (pe c):=by
 intro pins s σ H D I ⟨ρ,B,M,E,k⟩
 have k:XA X M.u H c:=k;obtain⟨nm,q,N,bs,hdct,sn,sub,ab,col,dd,k0,k1,k2,k3,k5,mN,hC,hN,hni,T⟩:=O.at_ s.heap I.kIn;refine wpAny_Raise_call_subU (C:=C) (mN:=mN) (nm:=nm) (q:=q) (N:=N) (bs:=bs) (hdct:=hdct) (sn:=sn) (sub:=sub) (ab:=ab) (col:=col) (dd:=dd) (k0:=k0) (k1:=k1) (k2:=k2) (k3:=k3) (k5:=k5) Lu (Bn:="ValueError") (by decide) Lu (O.base I.kIn) (I.ok.hd hc) (by rfl) hni (ie I hg hm ⟨rfl,?_⟩ hd)
 show wpAny _ _ (OL (.ref C) true ((false,eval (.Constant (.str msg) j p1) X.env)::backTo cpos (Hj [] X.env)) []) _ _ s
 refine JJ (Jl (Nn (Ju ?_)))
 refine⟨rfl,by show 1<=sizeLine;decide,hC,hN,T,λh' e hm'=>k pins _ _ ?_⟩
 obtain⟨t,ht,ht2,ht3⟩:=hm'.there
 have I':Inv X pins σ H { s with heap:=h',toks:=s.toks+1 }:=I.kept (t':=s.toks+1) λb o z=>hm'.keeps b o z
 refine⟨e,none,C,σ,H,rfl,hm,I',λb o z _=>z,?_,?_,⟨_,_,ht,rfl,rfl,rfl⟩,(λt z=>by cases z),λp hp=>⟨λz=> ?_,λz=>by cases z⟩⟩
 ·exact gI I hm'.new
 ·exact λhex=>fW I hex hm'.new
 ·have:=(I.pin p hp).1
  rw[z,show s.heap.get? e=none from hm'.new]at this
  cases this
end
section
variable {P:Hr}{w:HS}{K:GW}{mg:Str->Option GZ}{base:Heap}
theorem Cv {x qual:Str}{st:Stmt}{f:Addr}{fd:Ib}{N ps:List Str}{k n:Nat}{g:List T->Rs T}(Fn:L2.Fun K x qual st f fd)(S:bM N ps (ao st))(hn:ps.length=n)
  (hbody:∀(cdv:GZ) (A:HF) (outer:List Env) (s:GX) (H:Hp) (E:XK),Room k (A.deeper (envOfC qual (ao st) s.heap.objs.size f cdv)) →
   ∃F,(∀xe,lW ((eR CX0 P w K mg base N qual (ao st) f cdv A outer s H E).FJ xe) (bq st) F)/\∀ts,ts.length=n->∀c,g ts= .err c->F (aG N.length ts)= .err c):FnX P w K mg base (k+1) f fd ps n g:=by
 intro A outer s H args us vs O ts c R hr e0 hb r rs trk hl hg hR
 have hpl:ps.length<=N.length:=by have:=congrArg Jc S.pre;rw[IK]at this;omega
 obtain⟨oc,od,kV,doc,pm,an,cdv,ct,osl,rfl,lk,hcd⟩:=Fn.ex
 have hlen:vs.length=ps.length:=by rw[<-rs.length,hl,hn]
 have KX:K.In s.heap:=e0.mod.kin.keeps λb o e=>(e0.bs b o e).1
 have lim:s.heap.NoLimit:=e0.mod.nolimit.keeps λb o e=>(e0.bs b o e).1
 have hkind:∀y∈ps.zip us,(ao st).names.lookup y.1=some .local\/((ao st).names.lookup y.1=some .cell/\((Jj (s.heap.objs.size+1) (ao st).names []).lookup y.1).isSome=true):=λ⟨n,v⟩ hy=>by
  rcases S.par n (JN hy).1 with q | q
  ·exact .inl q
  ·exact .inr ⟨q,IY _ _ _ (.inl q)⟩
 refine K2 hr.depth (KX _ _ lk) rfl S.co S.gen rfl (J5 KX hcd) (hb _ _ _ _ ?_)
 refine IX S.kind hkind λenv he s1 x=> ?_
 subst he;refine⟨lim.keeps x.toInCall.keep,Oo ?_⟩
 obtain⟨F,hF,hv⟩:=hbody cdv A outer s H E0 (hr.deeper _)
 let xe:GZ->GX->Prop:=λev s'=>wpAny (model P w) (A.deeper (envOfC qual (ao st) s.heap.objs.size f cdv)) (leaving (envOfC qual (ao st) s.heap.objs.size f cdv) ev) (λ_ s''=>R (.error ev) s'') (λe' s''=>R (.error e') s'') s'
 have I:Inv ((eR CX0 P w K mg base N qual (ao st) f cdv A outer s H E0).FJ xe) [] (start N vs) H s1:=(fO S hr.hd e0 hlen r x).FJ _
 have no:∀a,¬noM.u a:=λa ⟨_,z⟩=>z
 refine HX (hF xe [] s1 (start N vs) H { nx:=λ_ _=>False,rt:=λ_ _=>False,bk:=λ_ _=>False,ct:=λ_ _=>False } I ⟨aG N.length ts,O,noM,hG rs (by omega) trk,?_⟩) (λfl s' z=> ?_) λe s' hs=>hs
 rotate_left
 ·cases fl with
  | next=>obtain⟨_,_,_,z⟩:=z;exact z.elim
  | cont=>obtain⟨_,_,_,z⟩:=z;exact z.elim
  | brk=>obtain⟨_,_,_,z⟩:=z;exact z.elim
  | ret v=>obtain⟨_,_,_,_,_,z⟩:=z;exact z.elim
 rw[hv ts hl c hg];intro pins ev s' w'
 show wpAny _ _ _ _ _ _
 obtain⟨e,T,C,σ',H',rfl,hm,I',sm,he,heo,fl,hT,_⟩:=w'
 have heo:=heo rfl
 have hT:∀t,T=some t->H' t=none/\s.heap.get? t=none:=λt z=>⟨(hT t z).1,(hT t z).2 rfl⟩
 refine wA (base:=base) (outer:=outer) (L:=s.heap.objs.size) I'.ok.frames I'.stack rfl fl λh' T' g=>hR _ _ ?_
 have hex:((eR CX0 P w K mg base N qual (ao st) f cdv A outer s H E0).FJ xe).ex= []:=rfl
 have Tn:H' T'=none/\s.heap.get? T'=none:=by
  rcases g.new with z | z
  ·exact hT T' z
  ·exact⟨gI I' z,fW I' hex z⟩
 have out:∀b o,s.heap.get? b=some o->b≠s.heap.objs.size:=λb o q z=>by
  have:=Hf q;rw[z]at this;exact absurd this (HB _)
 have mem:∀b,b∈iU ((envOfC qual (ao st) s.heap.objs.size f cdv)::outer)->b=s.heap.objs.size\/b∈iU outer:=λb z=>by
  have z':b∈s.heap.objs.size::iU outer:=z;exact Hd.mp z'
 have ne:∀b o,s.heap.get? b=some o->b≠e/\T≠some b:=λb o q=>⟨λz=>(by subst z;rw[show s.heap.get? b=none from heo]at q;cases q),λz=>(by rw[show s.heap.get? b=none from(hT b z).2]at q;cases q)⟩
 have keepH:∀b u,H' b≠none->s'.heap.get? b=some u->h'.get? b=some u:=λb u hb q=>by
  refine g.keep b u (λz=>hb (I'.FR b z)) (λz=>hb (by rw[z];exact he)) (λz=>hb (hT b z).1) q
 refine⟨e,T',C,H',rfl,hm,I'.os,I'.bare,⟨λb o q n hb hx=> ?_,λb o q n hb hx=> ?_,λb o q n hx=>I'.base.free b o q n hx,λb o q hx=> ?_,I'.base.tups,I'.base.frzs,I'.base.tbls⟩,λa o q=> ?_,λb o q=>sm b o q (no b),he,heo,g.flt,Tn.1,Tn.2⟩
 ·exact g.keep b o (λz=>(mem b z).elim (out b o q) hb) (ne b o q).1 (ne b o q).2 (I'.base.keep b o q n hb hx)
 ·obtain⟨sl,q1⟩:=I'.base.slot b o q n hb hx
  obtain⟨sl',q2⟩:=g.slot b _ (G5 _ hb) q1;exact⟨sl',q2⟩
 ·obtain⟨o',q1⟩:=I'.base.there b o q hx
  by_cases z:b∈iU ((envOfC qual (ao st) s.heap.objs.size f cdv)::outer)
  ·obtain⟨sl,q2⟩:=g.slot b o' z q1
   exact⟨_,q2⟩
  ·exact⟨o',g.keep b o' z (ne b o q).1 (ne b o q).2 q1⟩
 ·refine(I'.hok a o q).FT (λb u hb z=>keepH b u ?_ z) (λ_ z=>z) λ_ _ z=>z
  rcases hb with rfl | hb
  ·rw[q];simp
  ·rw[hb];simp
end
theorem rH {n m:Nat}{F:En->Rs Fl}{ts:List T}{c:Str}(h:val n m F ts= .err c):F (aG m ts)= .err c:=by
 unfold val at h
 split at h
 ·unfold bh at h
  cases z:F (aG m ts)with
  | bad=>rw[z]at h;cases h
  | err c'=>rw[z]at h;cases h;rfl
  | ok f=>
   rw[z,aF]at h;cases f <;> cases h
 ·cases h
section
variable {P:Hr}{w:HS}{K:GW}{mg:Str->Option GZ}{base:Heap}
theorem Cy {x qual:Str}{st:Stmt}{f:Addr}{fd:Ib}{N ps:List Str}{k n:Nat}{F:En->Rs Fl}(Fn:L2.Fun K x qual st f fd)(S:bM N ps (ao st))(hn:ps.length=n)
  (hbody:∀(cdv:GZ) (A:HF) (outer:List Env) (s:GX) (H:Hp) (E:XK),Room k (A.deeper (envOfC qual (ao st) s.heap.objs.size f cdv)) →
   ∀xe,lW ((eR CX0 P w K mg base N qual (ao st) f cdv A outer s H E).FJ xe) (bq st) F):C6 P w K mg base (k+1) f fd ps n (val n N.length F):=
 ⟨ES Fn S hn λcdv A outer s H E hr=>⟨F,hbody cdv A outer s H E hr _,λts _ _ h=>uT h⟩,Cv Fn S hn λcdv A outer s H E hr=>⟨F,hbody cdv A outer s H E hr,λts _ c h=>rH h⟩⟩
end
inductive OTail (h:Heap):List GZ->Prop
 | base:OTail h lQ
 | own {A:Addr} {c0:GZ} {dd:Option Addr} {cd:ClassData} {sl:Array (Option GZ)} {mA:Str->Option GZ} {tl:List GZ} :
   h.get? A=some { cls:=c0,dict:=dd,data:=.cls cd,slots:=sl }->h.Ns cd.ns mA->(∀n∈calmNames,mA n=none)->OTail h tl->OTail h (.ref A::tl)
theorem OTail.tail {h:Heap}{tl:List GZ}(T:OTail h tl):OwnTail h lQ tl:=by
 induction T with
 | base=>exact .base
 | own hA hN hq _ ih=>exact .own hA hN (hq _ (.head _)) ih
section
variable {M:L7}{prog:Hr}{w:HS}{A:HF}{E:GZ->GX->Prop}{h:Heap}{g:Array OK}{d:O8}{t:Nat}{os:KQ}
theorem Ac {tl:List GZ}{n:Str}{y:Option GZ}{Q:Option GZ->GX->Prop}(hn:n∈calmNames)(T:OTail h tl)(hrest:O4 lQ n=pure y)(hq:Q y ⟨h,g,d,t,os⟩) :
  wpAny M A (O4 tl n) Q E ⟨h,g,d,t,os⟩:=by
 induction T with
 | base=>rw[hrest];exact Ha hq
 | own hA hN hni _ ih=>
  rw[OH];refine G1 (wpAny_classOwn_cls hA hN ?_)
  rw[hni n hn];exact ih
theorem Es:mroOf (.type "ValueError")=pure lQ:=by rw[mroOf_type];kernel_rfl
variable {nm q:Str}{C N:Addr}{bs bm:List GZ}{hdct:Bool}{sn:List Str}{sub:List GZ}{ab:Bool}{col:Option Bool}{dd:Option Addr}{k0 k1 k2 k3 k5:Option GZ}{newId:String}{mN:Str->Option GZ}
theorem qP {n:Str}{y:Option GZ}{Q:Option GZ->GX->Prop}(hn:n∈calmNames)(hC:h.get? C=some (IT nm q C N bs bm hdct sn sub ab col dd k0 k1 k2 k3 k5 newId))(hN:h.Ns N mN)(hmN:∀n∈calmNames,mN n=none)(T:OTail h bm)
  (hB:KS (.type "ValueError") n=pure y) (hq:Q y ⟨h,g,d,t,os⟩):wpAny M A (KS (.ref C) n) Q E ⟨h,g,d,t,os⟩:=by
 have hrest:O4 lQ n=pure y:=by rw[typeLookup_eq,Es]at hB;exact hB
 rw[typeLookup_eq];refine G1 (wpAny_mroOf_exc hC ?_)
 rw[OH];refine G1 (wpAny_classOwn_exc hC hN ?_)
 rw[hmN n hn];exact Ac hn T hrest hq
theorem wy:KS (.type "ValueError") "__class__" =pure (some (.builtin "object.__class__")):=by rw[KH,JF];kernel_rfl
theorem qQ:KS (.type "ValueError") "__getattr__" =pure none:=by rw[KH,JF];kernel_rfl
theorem ga_V:Slot "ValueError" "__getattribute__" "BaseException.__getattribute__":=.of (owner:="BaseException") (n:="__getattribute__") (by rw[KH,JF];kernel_rfl) (by decide+kernel) (by decide+kernel) (by decide+kernel) (by first | exact .inl (by decide+kernel) | exact .inr (by decide+kernel)) (by rw[LU];kernel_rfl)
variable {a:Addr}{o:Obj}{vs:Array GZ}
theorem z6 {R:KN->GX->Prop}(hC:h.get? C=some (IT nm q C N bs bm hdct sn sub ab col dd k0 k1 k2 k3 k5 newId))(T:OTail h bm)
  (hx:h.get? a=some o) (hc:o.cls= .ref C) (hq:R (.ok (.ret (.ref C))) ⟨h,g,d,t,os⟩) :
  codeAny (model prog w) A (.call (.builtin "getset_descriptor.__get__") ⟨[.builtin "object.__class__",.ref a,.ref C],[]⟩) R ⟨h,g,d,t,os⟩:=by
 have hT5:(⟨h,g,d,t,os⟩:GX).TypeIs (.builtin "object.__class__") "getset_descriptor":=KZ
 have hcB:(HD C::bm).contains (.type (".".intercalate ("object.__class__".cutAt '.').dropLast))=true:=by
  rw[F.owner_object_class,Jm,T.tail.hasType (b:=true) (by decide)];rfl
 refine K8 Nx.plain F.entry_gs_get (Nx.check _ _ _ _ _ _ _ _ hT5 (F.args_gs_get _ _ _) ?_)
 repeat (any_goals (first | assumption | (with_reducible refine Iq hx ?_;rw[hc]) | (with_reducible refine Kl hC ?_;rw[hcB]) | wp_step))
 refine⟨Ny _ (by decide+kernel),MU F.entry_object_class ?_⟩
 repeat (any_goals (first | assumption | (with_reducible refine Iq hx ?_;rw[hc]) | wp_step))
theorem w9 {nameV:GZ}{Q:Unit->GX->Prop}(hC:h.get? C=some (IT nm q C N bs bm hdct sn sub ab col dd k0 k1 k2 k3 k5 newId))(T:OTail h bm)
  (hx:h.get? a=some o) (hc:o.cls= .ref C) (hq:Q () ⟨h,g,d,t,os⟩):wpAny M A (K6 "BaseException.__getattribute__" ⟨[.ref a,nameV],[]⟩) Q E ⟨h,g,d,t,os⟩:=by
 have hk:builtinKind "BaseException.__getattribute__" =some .slot:=by decide+kernel
 have hsplit:splitId "BaseException.__getattribute__" =some ("BaseException","__getattribute__"):=by decide+kernel
 have hcB:(HD C::bm).contains (.type "BaseException")=true:=by rw[Jm,T.tail.hasType (b:=true) (by decide)];rfl
 have ha:=F.args_bexc_ga (.ref a) nameV;simp only[K6,hk,hsplit];refine G1 ?_
 ·unfold isInstance
  repeat (first | (with_reducible refine Iq hx ?_;rw[hc]) | (with_reducible refine Kl hC ?_;rw[hcB]) | wp_step)
  exact hq
theorem uq {tk:Tok}{Q:Fin->GX->Prop}(hC:h.get? C=some (IT nm q C N bs bm hdct sn sub ab col dd k0 k1 k2 k3 k5 newId))(hN:h.Ns N mN)
  (hmN:∀n∈calmNames,mN n=none) (T:OTail h bm) (hx:h.get? a=some o) (hc:o.cls= .ref C) (hd:o.data= .fields vs) (hq:Q (.done (.ret (.ref C))) ⟨h,g,d,t,os⟩) :
  wpAny (model prog w) A (Builtin.«object.__getattribute__» ⟨[.ref a,.str "__class__" tk],[]⟩) Q E ⟨h,g,d,t,os⟩:=by
 have hT5:(⟨h,g,d,t,os⟩:GX).TypeIs (.builtin "object.__class__") "getset_descriptor":=KZ
 have f5:=KZ
 have f6:=Nx.lookup
 have f7:=F.slot_gs_set.lookup
 have hmA:("__class__" : Str)∈calmNames:=.tail _ (.tail _ (.tail _ (.head _)))
 repeat (any_goals (first | assumption | (with_reducible refine Iq hx ?_;rw[hc]) | with_reducible refine qP hmA hC hN hmN T wy ?_ | wp_step))
 refine z6 hC T hx hc ?_
 repeat (any_goals (first | assumption | wp_step))
theorem xv {tk:Tok}{R:KN->GX->Prop}(hC:h.get? C=some (IT nm q C N bs bm hdct sn sub ab col dd k0 k1 k2 k3 k5 newId))(hN:h.Ns N mN)
  (hmN:∀n∈calmNames,mN n=none) (T:OTail h bm) (hx:h.get? a=some o) (hc:o.cls= .ref C) (hd:o.data= .fields vs) (hq:R (.ok (.ret (.ref C))) ⟨h,g,d,t,os⟩) :
  codeAny (model prog w) A (.call (.builtin "BaseException.__getattribute__") ⟨[.ref a,.str "__class__" tk],[]⟩) R ⟨h,g,d,t,os⟩:=
 K8 ga_V.plain F.entry_bexc_ga (w9 hC T hx hc (uq hC hN hmN T hx hc hd hq))
theorem CS {tk:Tok}{fill expr:Bool}{Q:GZ->GX->Prop}(hC:h.get? C=some (IT nm q C N bs bm hdct sn sub ab col dd k0 k1 k2 k3 k5 newId))(hN:h.Ns N mN)
  (hmN:∀n∈calmNames,mN n=none) (T:OTail h bm) (hx:h.get? a=some o) (hc:o.cls= .ref C) (hd:o.data= .fields vs) (hq:Q (.ref C) ⟨h,g,d,t,os⟩) :
  wpAny (model prog w) A (getAttrBy (.ref a) (.str "__class__" tk) fill expr) Q E ⟨h,g,d,t,os⟩:=by
 have f3:=ga_V.bind (.ref a)
 have hx0:(expr&&onTheHeap (Kf "BaseException.__getattribute__"))=false:=by cases expr <;> rfl
 have hx2:(Kf "BaseException.__getattribute__" == Kf "object.__getattribute__")=false:=by decide+kernel
 have hx1:(onTheHeap (HD C)&&Kf "BaseException.__getattribute__" == Kf "object.__getattribute__")=false:=by rw[hx2];rfl
 have hm1:("__getattribute__" : Str)∈calmNames:=.tail _ (.head _)
 have hm2:("__getattr__" : Str)∈calmNames:=.tail _ (.tail _ (.head _))
 repeat (any_goals (first | assumption | (with_reducible refine Iq hx ?_;rw[hc]) | with_reducible refine qP hm1 hC hN hmN T ga_V.lookup ?_ | with_reducible refine qP hm2 hC hN hmN T qQ ?_ | wp_step))
 refine xv hC hN hmN T hx hc hd ?_
 repeat (any_goals (first | assumption | wp_step))
theorem xw {Q:Option GZ->GX->Prop}(hC:h.get? C=some (IT nm q C N bs bm hdct sn sub ab col dd k0 k1 k2 k3 k5 newId))(hN:h.Ns N mN)
  (hmN:∀n∈calmNames,mN n=none) (T:OTail h bm) (hx:h.get? a=some o) (hc:o.cls= .ref C) (hd:o.data= .fields vs) (hq:Q (some (.ref C)) ⟨h,g,d,t+1,os⟩) :
  wpAny (model prog w) A (getAttr? (.ref a) "__class__") Q E ⟨h,g,d,t,os⟩:=by
 unfold getAttr? getAttrBy?
 repeat (any_goals (first | assumption | with_reducible apply CS hC hN hmN T hx hc hd | wp_step))
end
section
variable {M:L7}{prog:Hr}{w:HS}{A:HF}{E:GZ->GX->Prop}{h:Heap}{g:Array OK}{d:O8}{t:Nat}{os:KQ}
variable {nm q:Str}{C N:Addr}{bs bm:List GZ}{hdct:Bool}{sn:List Str}{sub:List GZ}{ab:Bool}{col:Option Bool}{dd:Option Addr}{k0 k1 k2 k3 k5:Option GZ}{newId:String}{mN:Str->Option GZ}
variable {a:Addr}{o:Obj}{vs:Array GZ}
theorem tQ {dep:Int}{tk:Tok}{Q:Fin->GX->Prop}(hx:h.get? a=some o)(hc:o.cls= .ref C)(hq:Q (.done (.ret (.bool true))) ⟨h,g,d,t,os⟩) :
  wpAny (model prog w) A (Builtin.«isinstance.nested» ⟨[.ref a,.ref C,.int dep tk],[]⟩) Q E ⟨h,g,d,t,os⟩:=by
 have e:(HD C == HD C)=true:=by simp
 repeat (any_goals (first | assumption | (with_reducible refine Iq hx ?_;rw[hc]) | wp_step))
theorem B9 {dep:Int}{tk:Tok}{Q:Fin->GX->Prop}(hC:h.get? C=some (IT nm q C N bs bm hdct sn sub ab col dd k0 k1 k2 k3 k5 newId))(T:OTail h bm)(hx:h.get? a=some o)(hc:o.cls= .ref C)
  (hq:Q (.done (.ret (.bool true))) ⟨h,g,d,t,os⟩):wpAny (model prog w) A (Builtin.«isinstance.nested» ⟨[.ref a,.type "ValueError",.int dep tk],[]⟩) Q E ⟨h,g,d,t,os⟩:=by
 have e:(HD C == J0 "ValueError")=false:=rfl
 have hty:typeOf (.type "ValueError")=pure (.type "type"):=by kernel_rfl
 have hcB:(HD C::bm).contains (.type "ValueError")=true:=by rw[Jm,T.tail.hasType (b:=true) (by decide)];rfl
 repeat (any_goals (first | assumption | (with_reducible refine Iq hx ?_;rw[hc]) | (with_reducible refine Kl hC ?_;rw[hcB]) | wp_step))
theorem wt {D:Addr}{oD:Obj}{cD:ClassData}{dep:Int}{tk:Tok}{Q:Fin->GX->Prop}(hC:h.get? C=some (IT nm q C N bs bm hdct sn sub ab col dd k0 k1 k2 k3 k5 newId))(hN:h.Ns N mN)(hmN:∀n∈calmNames,mN n=none)(T:OTail h bm)
  (hx:h.get? a=some o) (hc:o.cls= .ref C) (hd:o.data= .fields vs) (hD:h.get? D=some oD) (hDt:oD.cls= .type "type") (hDd:oD.data= .cls cD) (hne:(HD C == HD D)=false) (hnb:(HD C::bm).contains (.ref D)=false)
  (hq:Q (.done (.ret (.bool false))) ⟨h,g,d,t+1,os⟩):wpAny (model prog w) A (Builtin.«isinstance.nested» ⟨[.ref a,.ref D,.int dep tk],[]⟩) Q E ⟨h,g,d,t,os⟩:=by
 repeat (any_goals (first | assumption | (with_reducible refine Iq hx ?_;rw[hc]) | (with_reducible refine Iq hD ?_;rw[hDt]) | (with_reducible refine Iq hD ?_;rw[hDd]) | (with_reducible refine Iq hC ?_) | (with_reducible refine Kl hC ?_;rw[hnb]) | with_reducible refine xw hC hN hmN T hx hc hd ?_ | wp_step))
end
structure OX (K:GW)(C:Addr)(bm:List GZ):Prop where
 at_:∀h:Heap,K.In h->∃nm q N bs hdct sn sub ab col dd k0 k1 k2 k3 k5 mN,h.get? C=some (IT nm q C N bs bm hdct sn sub ab col dd k0 k1 k2 k3 k5 "ValueError.__new__")/\h.Ns N mN/\(∀n∈calmNames,mN n=none)/\OTail h bm
theorem OX.own {K:GW}{C:Addr}{bm:List GZ}(O:OX K C bm):OwnExc K C bm:=⟨λh k=>by
 obtain⟨nm,q,N,bs,hdct,sn,sub,ab,col,dd,k0,k1,k2,k3,k5,mN,h1,h2,h3,h4⟩:=O.at_ h k;exact⟨nm,q,N,bs,hdct,sn,sub,ab,col,dd,k0,k1,k2,k3,k5,mN,h1,h2,h3 _ (.head _),h4.tail⟩⟩
section
variable {X:Cx}{e C D:Addr}{oe:Obj}{ev:Array GZ}{bm bmD:List GZ}
def tIs (e:Addr)(b:Bool):TE:=λσ H Q=>σ[0]? =some (some (.ref e))/\Q (.bl b) H
theorem wV {pins:List (Addr×Obj)}{σ:L2.St}{H:Hp}{s:GX}{Q:VK}(hp:(e,oe)∈X.pn)(hc:oe.cls= .ref C)(hd:oe.data= .fields ev)(OC:OX X.K C bm)(OD:OX X.K D bmD)(b:Bool)(hb:(decide (C=D))=b)(hnb:C≠D->bm.contains (.ref D)=false)
  (I:Inv X pins σ H s) (q:Q (.bl b) H):wpAny (model X.prog X.w) X.A (call (.builtin "isinstance") [.ref e,.ref D]) (EP X pins σ Q) X.xe s:=by
 have hx:s.heap.get? e=some oe:=(I.pin (e,oe) (HG _ hp)).1;obtain⟨nm,qq,N,bs,hdct,sn,sub,ab,col,dd,k0,k1,k2,k3,k5,mN,hC,hN,hmN,T⟩:=OC.at_ s.heap I.kIn;obtain⟨nm',qq',N',bs',hdct',sn',sub',ab',col',dd',k0',k1',k2',k3',k5',mN',hD,_⟩:=OD.at_ s.heap I.kIn;obtain⟨h,g,d,t,os⟩:=s;refine NO ?_ (by intro z;cases z)
 by_cases z:C=D
 ·subst z
  have:b=true:=by rw[<-hb];simp
  subst this;exact tQ hx hc ⟨.bl true,H,I,rfl,q⟩
 ·have:b=false:=by rw[<-hb];simp[z]
  subst this;refine wt hC hN hmN T hx hc hd hD rfl rfl ?_ ?_ ⟨.bl false,H,I.tok _,rfl,q⟩
  ·rw[beq_eq_false_iff_ne];exact λy=>z (Nm y)
  ·rw[Jm,hnb z,Mc,beq_eq_false_iff_ne]
   exact λy=>z (Nm y).symm
theorem wW {pins:List (Addr×Obj)}{σ:L2.St}{H:Hp}{s:GX}{Q:VK}(hp:(e,oe)∈X.pn)(hc:oe.cls= .ref C)(OC:OX X.K C bm)
  (I:Inv X pins σ H s) (q:Q (.bl true) H):wpAny (model X.prog X.w) X.A (call (.builtin "isinstance") [.ref e,.type "ValueError"]) (EP X pins σ Q) X.xe s:=by
 have hx:s.heap.get? e=some oe:=(I.pin (e,oe) (HG _ hp)).1;obtain⟨nm,qq,N,bs,hdct,sn,sub,ab,col,dd,k0,k1,k2,k3,k5,mN,hC,hN,hmN,T⟩:=OC.at_ s.heap I.kIn;obtain⟨h,g,d,t,os⟩:=s;refine NO ?_ (by intro z;cases z)
 exact B9 hC T hx hc ⟨.bl true,H,I,rfl,q⟩
theorem qJ {en dn:Str}{p p1 p2 pos:Pos}(hN:X.N[0]? =some en)(hv:rz X.env.scope en)(hp:(e,oe)∈X.pn)(hc:oe.cls= .ref C)(hd:oe.data= .fields ev)(OC:OX X.K C bm)(OD:OX X.K D bmD)(b:Bool)(hb:(decide (C=D))=b)(hnb:C≠D->bm.contains (.ref D)=false)
  (hm:X.mg "isinstance" =none) (hmD:X.mg dn=some (.ref D)) (hg:autoParam (Gl X "isinstance") u_) (hgD:autoParam (Gl X dn) u_) (hde:autoParam ((en == ("__debug__" : Str))=false) s_) (hce:autoParam ((en == ("__classdict__" : Str))=false) s_) (hdd:autoParam ((dn == ("__debug__" : Str))=false) s_)
  (he:autoParam (Hj [.Name en p1,.Name dn p2] X.env=(false,eval (.Name en p1) X.env)::Hj [.Name dn p2] X.env) u_) (hpl:autoParam ((backTo pos (Hj [.Name dn p2] X.env)).any (·.1)=false) u_)
  (hs:autoParam (Hj [.Name dn p2] X.env=(false,eval (.Name dn p2) X.env)::Hj [] X.env) u_) :
  PE X (.Call (.Name "isinstance" p) [.Name en p1,.Name dn p2] [] pos) (tIs e b):=by
 intro pins s σ H Q I ⟨hσ,q⟩;refine Iy (dU I hg hm eH ?_ (by decide) (by decide))
 have hA:PA X [.Name en p1,.Name dn p2] (jm (vg 0) (jm (tC (.ref D)) vh)):=b6 (jN hN hv hde hce) (b6 (rX hgD hmD rfl hdd) fy hs) he;refine Jh (bJ (hA pos pins s σ H (λvs H'=>vs= [.ref e,.ref D]/\H'=H) I ⟨.ref e,hσ,rfl,rfl⟩) λus s1 ⟨vs,H1,I1,r1,e1,e2⟩=> ?_) he hpl
 subst e1;obtain⟨u,w',rfl,ru,rw'⟩:=uS r1;cases ru;cases rw';subst e2;exact wV hp hc hd OC OD b hb hnb I1 q
end
theorem eqB (a b:Bool):MeetsSeq.EqGives (.bool a) (.bool b) (a == b):=λprog w A E s Q h=>(PySem.SeqAt.EqAt.bool_bool a b (A:=A) (s:=s)) prog w E Q h
section
variable {X:Cx}
theorem ny:∀{ks:List Bool} {us:List GZ},Vals (ks.map V.bl) us->us=ks.map Ia
 | [],us,r=>by cases r;rfl
 | k::ks,us,r=>by
  cases r with
  | cons r1 r2=>cases r1;rw[ny r2];rfl
def jC:GZ->Bool
 | .bool b=>b
 | _=>false
def yq:V->List V->Hp->VK->Prop:=λx vs H Q=> ∃(l:Addr) (ks:List Bool),x= .ref l/\vs= [.bl true]/\H l=some (.lst (ks.map V.bl))/\Q (.int (ks.countP id:Nat)) H
theorem tT:MtR X "list.count" yq:=by
 intro pins s σ H x vs v us Q I rx rv h;obtain⟨l,ks,rfl,rfl,hH,q⟩:=h;cases rx;obtain⟨u,rfl,ru⟩:=rv.one;cases ru;obtain⟨z,its,n,r,hl,e⟩:=I.FW hH
 have hi:=ny r;subst hi;refine JQ F.slot_list_count ⟨_,e,rfl⟩ F.entry_list_count (F.args_list_count_2 _ _) (MeetsSeq.list_count l (ks.map Ia).toArray n (.bool true) jC λy hy=> ?_) ⟨e,?_⟩
 ·have hy':y∈ks.map Ia:=by simpa using hy
  obtain⟨k,_,rfl⟩:=Hb.mp hy'
  have:=eqB k true;cases k <;> exact this
 ·have hc:(ks.map Ia).toArray.toList.countP jC=ks.countP id:=by
   simp only[List.countP_map];rfl
  rw[hc];exact⟨.int _,H,I.tok _,⟨_,rfl⟩,q⟩
def yo:V->List V->Hp->VK->Prop:=λx vs H Q=> ∃(l:Addr) (ks:List Bool) (j:Nat),x= .ref l/\vs= [.bl true]/\H l=some (.lst (ks.map V.bl))/\ks[j]? =some true/\(∀m,m<j->ks[m]? =some false)/\j<=1000/\Q (.int (j:Nat)) H
theorem tR:MtR X "list.index" yo:=by
 intro pins s σ H x vs v us Q I rx rv h;obtain⟨l,ks,j,rfl,rfl,hH,hj,hno,hs,q⟩:=h;cases rx;obtain⟨u,rfl,ru⟩:=rv.one;cases ru;obtain⟨z,its,n,r,hl,e⟩:=I.FW hH
 have hi:=ny r;subst hi
 have hjl:j<ks.length:=(Hm.mp hj).1
 refine JQ F.slot_list_index ⟨_,e,rfl⟩ F.entry_list_index (F.args_list_index_2 _ _) (MeetsSeq.list_index l (ks.map Ia).toArray n (.bool true) jC (λy hy=> ?_) j (by simpa using hjl) (by omega) ?_ ?_) ⟨e,?_⟩
 ·have hy':y∈ks.map Ia:=by simpa using hy
  obtain⟨k,_,rfl⟩:=Hb.mp hy'
  have:=eqB k true;cases k <;> exact this
 ·have:ks[j] =true:=by have:=(Hm.mp hj).2;exact this
  simp[this,jC]
 ·intro m hm hmj
  have hmk:m<ks.length:=by simpa using hm
  have:=(Hm.mp (hno m hmj)).2
  simp[this,jC]
 ·exact⟨.int _,H,I.tok _,⟨_,rfl⟩,q⟩
end
abbrev FD (P:Hr)(w:HS)(K:GW)(mg:Str->Option GZ)(base:Heap)(N:List Str)(qual:Str)(scope:J8)(f:Addr)(cd:GZ)(A:HF)(outer:List Env)(s:GX)(H:Hp)(e:Addr)(oe:Obj):Cx:=
 { eR CX0 P w K mg base N qual scope f cd A outer s H E0 with calm:=false,pn:=[(e,oe)],xe:=λ_ _=>False }
section
variable {P:Hr}{w:HS}{K:GW}{mg:Str->Option GZ}{base:Heap}
theorem qX {N ps:List Str}{qual:Str}{scope:J8}{f:Addr}{cd:GZ}{A:HF}{outer:List Env}{s s1:GX}{H:Hp}{us:List GZ}{vs:List V}{e:Addr}{oe:Obj}
  (S:bM N ps scope) (e0:my P w K mg base A outer s H) (hl:vs.length=ps.length) (r:Vals vs us)
  (x:InCallC s s.heap.objs.size (bindL (envOfC qual scope s.heap.objs.size f cd).kindOf (ps.zip us) λ_=>none) (Jj (s.heap.objs.size+1) scope.names []) (bindC (envOfC qual scope s.heap.objs.size f cd).kindOf (ps.zip us) λ_=>none) s1)
  (he:s.heap.get? e=some oe) (hH:H e=none) (hf:e∉iU outer) (hc:∀v,oe.data≠ .cell v) :
  Inv (FD P w K mg base N qual scope f cd A outer s H e oe) [] (start N vs) H s1:=by
 have e0':my P w K mg base { A with handled:=none } outer s H:=⟨e0.frames,e0.mod,e0.bs,e0.bsz,e0.funs,e0.frf,e0.hok,e0.bare⟩
 have I:=fO (CX:=CX0) (E:=E0) S (A:={ A with handled:=none }) rfl e0' hl r x
 obtain⟨h1,tk,hs1,hk⟩:=x.done
 have ok:=I.ok;refine⟨⟨ok.mod,ok.kind,ok.glob,ok.blt,ok.above,ok.inj,ok.has,ok.cab,(λz=>by cases z),MY e0.frames,.inr ⟨rfl,rfl⟩,ok.exf,ok.bs,ok.bsz,ok.noex,ok.exfs,ok.funs,ok.frf⟩,I.os,I.bare,I.base,I.loc,I.cell,I.free,I.freeC,λp hp=> ?_,I.hok,I.len⟩
 have hp':p=(e,oe):=by simpa using hp
 subst hp';refine⟨?_,hH,?_,hf,hc⟩
 ·rw[hs1];exact hk e oe he
 ·exact Iz (Hf he)
theorem Cw {x qual:Str}{st:Stmt}{f:Addr}{fd:Ib}{N ps:List Str}{A:HF}{outer:List Env}{s:GX}{H:Hp}{args:Args}{us:List GZ}{vs:List V}{Q:VK}{e:Addr}{oe:Obj}(Fn:L2.Fun K x qual st f fd)(S:bM N ps (ao st))(hlen:vs.length=ps.length)
  (hr:A.depth+3<J1) (e0:my P w K mg base A outer s H) (hb:Mj s fd args (ps.zip us)) (r:Vals vs us) (he:s.heap.get? e=some oe) (hH:H e=none) (hf:e∉iU outer) (hc:∀v,oe.data≠ .cell v)
  (hbody:∀(cdv:GZ),∃t,PSs (FD P w K mg base N qual (ao st) f cdv A outer s H e oe) (bq st) t/\t { nx:=λ_ _=>False,rt:=Q } (start N vs) H) :
  codeAny (model P w) A (.call (.ref f) args) (CR CX0 outer P w H s Q E0) s:=by
 obtain⟨oc,od,kV,doc,pm,an,cdv,ct,osl,rfl,lk,hcd⟩:=Fn.ex
 have KX:K.In s.heap:=e0.mod.kin.keeps λb o e=>(e0.bs b o e).1
 have lim:s.heap.NoLimit:=e0.mod.nolimit.keeps λb o e=>(e0.bs b o e).1
 have hkind:∀y∈ps.zip us,(ao st).names.lookup y.1=some .local\/((ao st).names.lookup y.1=some .cell/\((Jj (s.heap.objs.size+1) (ao st).names []).lookup y.1).isSome=true):=λ⟨n,v⟩ hy=>by
  rcases S.par n (JN hy).1 with q | q
  ·exact .inl q
  ·exact .inr ⟨q,IY _ _ _ (.inl q)⟩
 refine K2 (by omega) (KX _ _ lk) rfl S.co S.gen rfl (J5 KX hcd) (hb _ _ _ _ ?_)
 refine IX S.kind hkind λenv hen s1 x=> ?_
 subst hen;refine⟨lim.keeps x.toInCall.keep,Oo ?_⟩
 obtain⟨t,ht,hq⟩:=hbody cdv
 have I:=qX S e0 hlen r x he hH hf hc;refine HX (ht [] s1 (start N vs) H _ I hq) (λfl s' hs=> ?_) λe s' hs=>hs.elim
 cases fl with
 | ret u=>
  obtain⟨v,σ',H',J,rv,q⟩:=hs
  exact⟨v,H',J.os,J.bare,J.base,J.hok,rv,q⟩
 | next=>obtain⟨_,_,_,q⟩:=hs;exact q.elim
 | brk=>obtain⟨_,_,_,q⟩:=hs;exact q.elim
 | cont=>obtain⟨_,_,_,q⟩:=hs;exact q.elim
end
abbrev rh (X:Cx)(e:Addr)(oe:Obj):Cx:={ X with A:=X.A.mark (some (.ref e)),calm:=false,pn:=(e,oe)::X.pn,xe:=λ_ _=>False }
section
variable {X:Cx}{pins:List (Addr×Obj)}{σ:L2.St}{H:Hp}{s:GX}{e:Addr}{oe:Obj}
theorem sA (I:Inv X pins σ H s)(he:s.heap.get? e=some oe)(hH:H e=none)(hne:e≠X.env.locals)(hf:e∉X.fs)(hc:∀v,oe.data≠ .cell v):Inv (rh X e oe) pins σ H s:=by
 have ok:=I.ok;refine⟨⟨ok.mod,ok.kind,ok.glob,ok.blt,ok.above,ok.inj,ok.has,ok.cab,(λz=>by cases z),?_,ok.stk,ok.exf,ok.bs,ok.bsz,ok.noex,ok.exfs,ok.funs,ok.frf⟩,I.os,I.bare,I.base,I.loc,I.cell,I.free,I.freeC,λp hp=> ?_,I.hok,I.len⟩
 ·exact ok.frames
 ·rcases Hd.mp (show p∈(e,oe)::(X.pn++pins)from hp)with z | z
  ·subst z;exact⟨he,hH,hne,hf,hc⟩
  ·exact I.pin p z
theorem zp (ok:X.Ok)(I:Inv (rh X e oe) pins σ H s):Inv X pins σ H s:=
 ⟨ok,I.os,I.bare,I.base,I.loc,I.cell,I.free,I.freeC,λp hp=>I.pin p (G5 _ hp),I.hok,I.len⟩
end
def vt (F:En->Rs Fl)(h:Str->Rs T)(ρ:En):Rs Fl:=match F ρ with
 | .err c=>match h c with
  | .ok t=> .ok (.rt t)
  | _=> .bad
 | r=>r
def Ag (X:Cx)(i:Nat)(suite:List Stmt)(CE:Addr)(h:Str->Rs T):Prop:=
 ∀(c:Str) (C:Addr) (t:T),X.mg c=some (.ref C)->h c= .ok t->∃bm,OX X.K C bm/\(HD C::bm).contains (.ref CE)=true ∧
  ∀(e:Addr) (oe:Obj) (ev:Array GZ),oe.cls= .ref C->oe.data= .fields ev->∀(pins:List (Addr×Obj)) (s:GX) (σ:L2.St) (H:Hp) (O:Ow) (Q:VK),Inv (rh X e oe) pins σ H s->H e=none->e∉iU X.stack->σ[i]? =some (some (.ref e))->(∀p,H p=none->¬ O p) →
   (∀v H',Same H H'->Rep X.K O H' t v->Q v H')->wpAny (model X.prog X.w) (rh X e oe).A (execs suite X.env) (SP (rh X e oe) pins { nx:=λ_ _=>False,rt:=Q }) (λ_ _=>False) s
section
variable {X:Cx}{e C:Addr}{oe:Obj}{bm:List GZ}
theorem CV:HA "ValueError" =some (.type "ValueError"):=by decide+kernel
theorem BS {en:Str}{p p1 p2 pos:Pos}(hN:X.N[0]? =some en)(hv:rz X.env.scope en)(hp:(e,oe)∈X.pn)(hc:oe.cls= .ref C)(OC:OX X.K C bm)
  (hm:X.mg "isinstance" =none) (hmD:X.mg "ValueError" =none) (hg:autoParam (Gl X "isinstance") u_) (hgD:autoParam (Gl X "ValueError") u_) (hde:autoParam ((en == ("__debug__" : Str))=false) s_) (hce:autoParam ((en == ("__classdict__" : Str))=false) s_)
  (he:autoParam (Hj [.Name en p1,.Name "ValueError" p2] X.env=(false,eval (.Name en p1) X.env)::Hj [.Name "ValueError" p2] X.env) u_) (hpl:autoParam ((backTo pos (Hj [.Name "ValueError" p2] X.env)).any (·.1)=false) u_)
  (hs:autoParam (Hj [.Name "ValueError" p2] X.env=(false,eval (.Name "ValueError" p2) X.env)::Hj [] X.env) u_) :
  PE X (.Call (.Name "isinstance" p) [.Name en p1,.Name "ValueError" p2] [] pos) (tIs e true):=by
 intro pins s σ H Q I ⟨hσ,q⟩;refine Iy (dU I hg hm eH ?_ (by decide) (by decide))
 have hA:PA X [.Name en p1,.Name "ValueError" p2] (jm (vg 0) (jm (tC (.ty "ValueError")) vh)):=b6 (jN hN hv hde hce) (b6 (rZ (v:=.ty "ValueError") hgD hmD CV rfl) fy hs) he;refine Jh (bJ (hA pos pins s σ H (λvs H'=>vs= [.ref e,.ty "ValueError"]/\H'=H) I ⟨.ref e,hσ,rfl,rfl⟩) λus s1 ⟨vs,H1,I1,r1,e1,e2⟩=> ?_) he hpl
 subst e1;obtain⟨u,w',rfl,ru,rw'⟩:=uS r1;cases ru;cases rw';subst e2;exact wW hp hc OC I1 q
end
theorem Ep {K:GW}{N:Addr}{ob:GZ}{oe:Option Addr}{es:Array DictEntry}{n:Nat}{oz:Array (Option GZ)}(r:K.lookup N=some ⟨ob,oe,.dict es n,oz⟩)(s:(es.toList.all λe=>vm e.key)=true)
  (u0:Kn K N "__init__" =some none) (u1:Kn K N "__getattribute__" =some none) (u2:Kn K N "__getattr__" =some none) (u3:Kn K N "__class__" =some none) :
  ∀h:Heap,K.In h->∃mN,h.Ns N mN/\∀n∈calmNames,mN n=none:=λh k=>by
 refine⟨nsFind es,⟨_,es,n,k _ _ r,rfl,λe he=> ?_,λ_=>rfl⟩,λx hx=> ?_⟩
 ·have:=HC.mp s e (by simpa using he)
  cases q:e.key <;> rw[q]at this <;> first | exact⟨_,_,rfl⟩ | cases this
 ·have key:∀x,Kn K N x=some none->nsFind es x=none:=λx u=>by
   unfold Kn at u;rw[r]at u;simp only at u
   split at u
   ·cases u
   ·rename_i he
    unfold nsFind findBy;rw[<-Nq,he];rfl
  unfold calmNames at hx;simp only[Hd,Im,or_false]at hx;rcases hx with rfl | rfl | rfl | rfl
  ·exact key _ u0
  ·exact key _ u1
  ·exact key _ u2
  ·exact key _ u3
section
variable {K:GW}{nm q:Str}{C N:Addr}{bs:List GZ}{hdct:Bool}{sn:List Str}{sub:List GZ}{ab:Bool}{col:Option Bool}{dd:Option Addr}{k0 k1 k2 k3 k5:Option GZ}
variable {nm' q':Str}{D N':Addr}{bs':List GZ}{hdct':Bool}{sn':List Str}{sub':List GZ}{ab':Bool}{col':Option Bool}{dd':Option Addr}{k0' k1' k2' k3' k5':Option GZ}
theorem yX (w:K.lookup C=some (IT nm q C N bs lQ hdct sn sub ab col dd k0 k1 k2 k3 k5 "ValueError.__new__"))(ns:∀h:Heap,K.In h->∃mN,h.Ns N mN/\∀n∈calmNames,mN n=none):OX K C lQ:=⟨λh k=>by
 obtain⟨mN,h1,h2⟩:=ns h k;exact⟨nm,q,N,bs,hdct,sn,sub,ab,col,dd,k0,k1,k2,k3,k5,mN,k _ _ w,h1,h2,.base⟩⟩
theorem v9 (w:K.lookup C=some (IT nm q C N bs (.ref D::lQ) hdct sn sub ab col dd k0 k1 k2 k3 k5 "ValueError.__new__"))(ns:∀h:Heap,K.In h->∃mN,h.Ns N mN/\∀n∈calmNames,mN n=none)
  (wD:K.lookup D=some (IT nm' q' D N' bs' lQ hdct' sn' sub' ab' col' dd' k0' k1' k2' k3' k5' "ValueError.__new__")) (nsD:∀h:Heap,K.In h->∃mN,h.Ns N' mN/\∀n∈calmNames,mN n=none):OX K C (.ref D::lQ):=⟨λh k=>by
 obtain⟨mN,h1,h2⟩:=ns h k;obtain⟨mD,d1,d2⟩:=nsD h k;exact⟨nm,q,N,bs,hdct,sn,sub,ab,col,dd,k0,k1,k2,k3,k5,mN,k _ _ w,h1,h2,.own (k _ _ wD) d1 d2 .base⟩⟩
end
theorem DB {k:Nat}{A:HF}(h:Room k A):A.depth+3<J1:=by have:=h.dp;omega
end Tr
namespace L2
open PySem PySem.Spec PyProof.Rows
section
variable {κ:Type}[DecidableEq κ]
def jg (kvs:List (κ×V))(k:κ):Option V:=(kvs.find? λkv=>decide (kv.1=k)).map (·.2)
def eJ (kvs:List (κ×V))(k:κ)(v:V):List (κ×V):=
 if (kvs.any λkv=>decide (kv.1=k))=true then kvs.map (λkv=>if kv.1=k then(kv.1,v)else kv)else kvs++ [(k,v)]
theorem uU {k:κ}:jg ([]:List (κ×V)) k=none:=rfl
theorem je {p:κ×V}{r:List (κ×V)}{k:κ}(e:p.1=k):jg (p::r) k=some p.2:=by simp[jg,Kb,e]
theorem jf {p:κ×V}{r:List (κ×V)}{k:κ}(e:¬ p.1=k):jg (p::r) k=jg r k:=by simp[jg,Kb,e]
theorem oR (k:κ):∀kvs:List (κ×V),(kvs.any λkv=>decide (kv.1=k))=(jg kvs k).isSome
 | [] =>rfl
 | p::r=>by
  rw[Mf]
  by_cases e:p.1=k
  ·simp only[je e,decide_eq_true e,Oj,Nu]
  ·rw[jf e,decide_eq_false e,Nv];exact oR k r
theorem kf (kvs:List (κ×V))(k:κ)(v:V):(eJ kvs k v).length<=kvs.length+1:=by
 unfold eJ;split
 ·rw[G3];omega
 ·rw[GY,G4,HJ];omega
theorem RelO.Ga {o:Option V}{u:Option GZ}(r:RelO o u):o.isSome=u.isSome:=by
 cases o with
 | none=>cases u with
  | none=>rfl
  | some _=>exact(show False from r).elim
 | some _=>cases u with
  | none=>exact(show False from r).elim
  | some _=>rfl
theorem KV.val {kvs:List (κ×V)}{vs:List (κ×GZ)}(r:KV kvs vs)(k:κ):RelO (jg kvs k) (valueAt vs k):=by
 unfold KV at r
 induction r with
 | nil=>exact KO
 | @cons p q ps qs h t ih=>
  obtain⟨h1,h2⟩:=h
  by_cases e:p.1=k
  ·have e':q.1=k:=h1.symm.trans e
   have b:valueAt (q::qs) k=some q.2:=by simp[valueAt,Kb,e']
   rw[je e,b];exact h2
  ·have e':¬ q.1=k:=λz=>e (h1.trans z)
   have b:valueAt (q::qs) k=valueAt qs k:=by simp[valueAt,Kb,e']
   rw[jf e,b];exact ih
end
theorem AK {P:Hr}{w:HS}{k:Key}{u:GZ}(r:RelV (kV k) u):(du P w).is k u=true:=by
 cases k with
 | inl i=>obtain⟨t,e⟩:=(show ∃t,u=Ji i t from r);subst e;exact pK P w i t
 | inr x=>obtain⟨t,e⟩:=(show ∃t,u=IG x t from r);subst e;exact pJ P w x t
theorem mV {P:Hr}{w:HS}:∀{ks:List Key} {us:List GZ},Vals (ks.map kV) us->ItemsAre (du P w) ks us
 | [],_,r=>by rw[Lz]at r;cases r;exact .nil
 | k::ks,_,r=>by
  rw[G9]at r
  cases r with
  | cons h t=>exact .cons (AK h) (mV t)
abbrev KT (H:Hp):List (List Key×V)->List (List Key×Addr×GZ)->Prop:=O9 λp q=>p.1=q.1/\H q.2.1=some (.tup (p.1.map kV))/\RelV p.2 q.2.2
theorem KT.val {H:Hp}{kvs:List (List Key×V)}{xs:List (List Key×Addr×GZ)}(r:KT H kvs xs)(k:List Key):RelO (jg kvs k) ((atKey xs k).map (·.2)):=by
 induction r with
 | nil=>exact KO
 | @cons p q ps qs h t ih=>
  obtain⟨h1,_,h2⟩:=h
  by_cases e:p.1=k
  ·have e':q.1=k:=h1.symm.trans e
   have b:atKey (q::qs) k=some q.2:=by simp[atKey,Kb,e']
   rw[je e,b];exact h2
  ·have e':¬ q.1=k:=λz=>e (h1.trans z)
   have b:atKey (q::qs) k=atKey qs k:=by simp[atKey,Kb,e']
   rw[jf e,b];exact ih
theorem KT.GL {H:Hp}{kvs:List (List Key×V)}{xs:List (List Key×Addr×GZ)}(r:KT H kvs xs)(k:List Key){y:V}{u:GZ}(ry:RelV y u) :
  KT H (kvs.map λkv=>if kv.1=k then(kv.1,y)else kv) (xs.map (putAt k u)):=by
 induction r with
 | nil=>exact .nil
 | @cons p q ps qs h t ih=>
  rw[G9,G9];refine .cons ?_ ih
  obtain⟨h1,h2,h3⟩:=h;unfold putAt
  by_cases e:p.1=k
  ·rw[if_pos e,if_pos (h1.symm.trans e)];exact⟨h1,h2,ry⟩
  ·rw[if_neg e,if_neg (λz=>e (h1.trans z))];exact⟨h1,h2,h3⟩
theorem KT.put {H:Hp}{kvs:List (List Key×V)}{xs:List (List Key×Addr×GZ)}(r:KT H kvs xs)(k:List Key){b:Addr}{y:V}{u:GZ}(hb:H b=some (.tup (k.map kV)))(ry:RelV y u) :
  KT H (eJ kvs k y) (storedH xs k b u):=by
 have e:(kvs.any λkv=>decide (kv.1=k))=(atKey xs k).isSome:=by
  rw[oR,(r.val k).Ga,Option.isSome_map]
 unfold eJ storedH;rw[e]
 by_cases q:(atKey xs k).isSome=true
 ·rw[if_pos q,if_pos q];exact r.GL k ry
 ·rw[if_neg q,if_neg q];exact Paired.snoc r ⟨rfl,hb,ry⟩
theorem KT.keeps {H H':Hp}{kvs:List (List Key×V)}{xs:List (List Key×Addr×GZ)}(r:KT H kvs xs)(ht:∀b ys,H b=some (.tup ys)->H' b=some (.tup ys)):KT H' kvs xs:=
 Paired.Gw r λ_ _ z=>⟨z.1,ht _ _ z.2.1,z.2.2⟩
section
variable {P:Hr}{w:HS}{H:Hp}{h:Heap}{a:Addr}
theorem rQ {u:HO}(ok:HOk P w H h)(e:Rd H a u):ObjOk P w H h a u:=e.ok ok
theorem AQ {kvs:List (Key×V)}(ok:HOk P w H h)(e:Rd H a (.dK kvs)):kvs.length<=sizeLine/\(a == KR)=false/\∃vs,KV kvs vs/\h.DictOf (du P w) a vs:=
 show ObjOk P w H h a (.dK kvs)from rQ ok e
theorem qT {ks:List Key}(ok:HOk P w H h)(e:H a=some (.tup (ks.map kV))):(MR (du P w)).is h ks a:=by
 obtain⟨_,its,r,o,h1,h2,n,h3⟩:=(show ObjOk P w H h a (.tup (ks.map kV))from ok a _ e)
 exact⟨o,its.toArray,n,h1,h2,h3,by simpa using mV r⟩
theorem xn {kvs:List (List Key×V)}(ok:HOk P w H h)(e:Rd H a (.dT kvs)):kvs.length<=sizeLine/\(a == KR)=false ∧
  ∃xs,KT H kvs xs/\h.DictOfH (MR (du P w)) a xs:=by
 obtain⟨z,y,xs,r,o,es,ep,h1,h2,h3,h4,h5⟩:=(show ObjOk P w H h a (.dT kvs)from rQ ok e)
 refine⟨z,y,xs,r,o,es,ep,h1,h2,h3,h4,λx hx=> ?_,h5⟩
 have all:∀{l:List (List Key×V)} {m:List (List Key×Addr×GZ)},KT H l m->∀x∈m,(MR (du P w)).is h x.1 x.2.1:=by
  intro l m q
  induction q with
  | nil=>intro x hx;exact nomatch hx
  | @cons p q ps qs hq t ih=>
   intro x hx;rcases Hd.mp hx with e | hx
   ·subst e
    exact qT ok (by rw[<-hq.1];exact hq.2.1)
   ·exact ih x hx
 exact all r x hx
theorem E6 {kvs:List (List Key×V)}(ok:HOk P w H h)(e:H a=some (.dT kvs)):kvs.length<=sizeLine/\(a == KR)=false ∧
  ∃xs,KT H kvs xs/\h.DictOfH (MR (du P w)) a xs:=xn ok (.inl e)
end
def DGet (H:Hp)(a:Addr)(y:V)(r:Option V):Prop:=
 (∃kvs k,Rd H a (.dK kvs)/\y=kV k/\r=jg kvs k)\/∃kvs k b,Rd H a (.dT kvs)/\y= .ref b/\H b=some (.tup (k.map kV))/\r=jg kvs k
section
variable {X:Cx}{pins:List (Addr×Obj)}{σ:St}{H:Hp}{s:GX}{a:Addr}{y v:V}{u r:GZ}{o:Option V}{A:HF}{E:GZ->GX->Prop}
theorem Inv.big (I:Inv X pins σ H s):KR<s.heap.objs.size:=by
 have h:HL<s.heap.objs.size:=(I.mod.glob.keeps I.bk).lt;exact Oh (by decide) h
theorem uj {Q:GZ->GX->Prop}(hu:A.units+1<cLine)(I:Inv X pins σ H s)(g:DGet H a y (some v))(ry:RelV y u)(h:∀w' s',Inv X pins σ H s'->RelV v w'->Q w' s') :
  wpAny (model X.prog X.w) A (getItem (.ref a) u) Q E s:=by
 rcases g with⟨kvs,k,e,ey,l⟩ | ⟨kvs,k,b,e,ey,eb,l⟩
 ·subst ey
  obtain⟨z,hd,vs,rel,dd⟩:=AQ I.hok e;obtain⟨w',hw,rw'⟩:=RelO.some_of (v:=v) (o:=valueAt vs k) (by rw[l];exact rel.val k)
  exact wpAny_getItem_of (AK ry) dd.mapOf hw (h w' _ (I.tok _) rw')
 ·subst ey
  cases (show u=HD b from ry)
  obtain⟨z,hd,xs,rel,dd⟩:=xn I.hok e;obtain⟨w',hw,rw'⟩:=RelO.some_of (v:=v) (o:=(atKey xs k).map (·.2)) (by rw[l];exact rel.val k)
  obtain⟨p,hp,hp2⟩:=Mv.mp hw;refine wpAny_getItem_heap (NP hu) (qT I.hok eb) dd hp ?_
  rw[hp2];exact h w' _ (I.tok _) rw'
theorem zU {h':Heap}{t':Nat}{ob:HO}(I:Inv X pins σ H s)(mu:Fo (H a))(hs:J9 a s.heap h')(he:∃q,h'.get? a=some q)(new:ObjOk X.prog X.w (cz H a ob) h' a ob) :
  Inv X pins σ (cz H a ob) { s with heap:=h',toks:=t' }:=
 I.write (x:=a) (e:=a) mu (.inl rfl) (λb q hb z=>(hs.2 b hb).trans z) he new
end
def Ah (i:Expr):Prop:=∀ov iv,Ni i false ov iv=operate [ov,iv] (getItem ov iv)
theorem yh {prog:Hr}{w:HS}{A:HF}{E:GZ->GX->Prop}{s:GX}{env:Env}{value slice:Expr}{pos:Pos}{T id:String}{Q:GZ->GX->Prop}
  (hl:KS (.type T) "__getitem__" =pure (some (.builtin id))) (hs:Ah slice)
  (h:wpAny (model prog w) A (eval value env) (λo s₁=>wpAny (model prog w) A (eval slice env) (λi s₂=>s₂.TypeIs o T/\wpAny (model prog w) A (getItem o i) Q E s₂) E s₁) E s) :
  wpAny (model prog w) A (eval (.Subscript value slice pos) env) Q E s:=by
 refine Od (HX h (λo s₁ h₁=>HX h₁ (λi s₂ h₂=> ?_) λ_ _ x=>x) λ_ _ x=>x)
 obtain⟨hT,h₂⟩:=h₂;unfold Mk;refine G1 ?_
 rw[getitemInPython_of_ne hT.not_modules];refine G1 (wpAny_specialOf hT hl ?_)
 have fin:wpAny (model prog w) A (Ni slice false o i) (λr s₃=>wpAny (model prog w) A (letTemporaryGo value o r >>= λ_=>pure r) Q E s₃) E s₂:=by
  rw[hs o i];exact wpAny_operating (HX h₂ (λr s₃ h₃=>G1 (wpAny_letTemporaryGo (Ha h₃))) λ_ _ x=>x)
 first
  | exact Ha (G1 fin)
  | exact G1 (Ha (G1 fin))
  | exact G1 fin
theorem p8 {X:Cx}{pins:List (Addr×Obj)}{σ:St}{H:Hp}{s:GX}{a:Addr}{y:V}{o:Option V}(I:Inv X pins σ H s)(g:DGet H a y o):s.TypeIs (.ref a) "dict":=by
 rcases g with⟨kvs,k,e,_,_⟩ | ⟨kvs,k,b,e,_,_,_⟩
 ·obtain⟨_,_,vs,_,dd⟩:=AQ I.hok e
  exact dd.typeIs
 ·obtain⟨_,_,xs,_,dd⟩:=xn I.hok e
  exact dd.typeIs
def Dw (td ty:TE):TE:=λσ H Q=>td σ H λx H1=>ty σ H1 λy H2=> ∃a v,x= .ref a/\DGet H2 a y (some v)/\Q v H2
section
variable {X:Cx}{o i e value:Expr}{pos pos' tpos:Pos}{td ty tv:TE}
theorem yV (hu:X.A.units+1<cLine)(ho:PE X o td)(hi:PE X i ty)(hs:Ah i):PE X (.Subscript o i pos) (Dw td ty):=by
 intro pins s σ H Q I h;refine yh PySem.F.slot_dict_getitem.lookup hs (bJ (ho pins s σ H _ I h) λu s1 ⟨x,H1,I1,rx,q1⟩=>bJ (hi pins s1 σ H1 _ I1 q1) λiv s2 hh_=> ?_)
 obtain⟨y,H2,I2,ry,a,v,ex,g,q2⟩:=hh_;subst ex;obtain rfl:u=HD a:=rx;exact⟨p8 I2 g,uj hu I2 g ry λw' s3 I3 rw'=>⟨v,H2,I3,rw',q2⟩⟩
end
theorem xo {P:Hr}{w:HS}{H:Hp}(h:Heap)(hb:KR<h.objs.size):ObjOk P w H (h.push { cls:=.type "dict",data:=.dict #[] }) h.objs.size (.dT []):=
 ⟨HZ _,beq_eq_false_iff_ne.mpr (Ka (Iz hb)),[],.nil,_,#[],0,Hk _ rfl,⟨rfl,rfl,rfl⟩,rfl,rfl,LN⟩
structure M2 (X:Cx)(o:Expr)(m:Str)(apos:Pos)(e f:Expr)(cpos:Pos):Prop where
 base:Jg o m X.env (eval o X.env)=eval o X.env
 few:((backTo cpos (Hj [e,f] X.env)).all (λx=> !x.1)&&(backToKw cpos (keywordEach [] X.env)).all (λx=>x.1.isSome)
  &&decide (([e,f]:List Expr).length+([]:List Keyword).length+(if ([]:List Keyword).isEmpty then 0 else 1)<30))=true
 line:(apos.endLine == cpos.line)=true
 trees:backTo cpos (Hj [e,f] X.env)= [(false,eval e X.env),(false,eval f X.env)]
end L2
namespace Tr
open PySem PySem.Spec PyProof.Rows L2
theorem DGet.GM {H:Hp}{a b:Addr}{kvs:List (List Key×V)}{k:List Key}(e:Rd H a (.dT kvs))(eb:H b=some (.tup (k.map kV))):DGet H a (.ref b) (jg kvs k):=.inr ⟨kvs,k,b,e,rfl,eb,rfl⟩
theorem hu1 {k:Nat}{A:HF}(h:Room k A):A.units+1<cLine:=by have:=h.un;omega
theorem ly {K:GW}{O:Ow}{H:Hp}:∀{l:List T} {vs:List V} {k:List Key},lz l=some k->Reps K O H l vs->vs=k.map kV
 | [],vs,k,h,r=>by cases Reps.Da.mp r;cases h;rfl
 | t::l,vs,k,h,r=>by
  obtain⟨v,ws,rfl,p,q⟩:=Reps.AC.mp r;unfold lz at h
  cases e1:AF t with
  | none=>rw[e1]at h;cases h
  | some a=>
   cases e2:lz l with
   | none=>rw[e1,e2]at h;cases h
   | some b=>
    rw[e1,e2]at h;cases h;rw[ly e2 q,G9]
    congr 1
    cases t with
    | int i=>cases e1;exact Rep.Do.mp p
    | str x=>cases e1;exact Rep.FI.mp p
    | _=>cases e1
theorem sj {K:GW}{O:Ow}{H:Hp}{y:T}{v:V}{k:List Key}(h:keyOf y=some k)(r:Rep K O H y v):∃b,v= .ref b/\H b=some (.tup (k.map kV)):=by
 cases y with
 | tup l=>
  obtain⟨a,vs,e1,_,e3,e4⟩:=Rep.Fk.mp r;rw[ly h e4]at e3
  exact⟨a,e1,e3⟩
 | _=>cases h
theorem p9 {K:GW}{O:Ow}{H:Hp}{k:List Key}:∀{ks ts:List T} {kvs:List (List Key×V)},ks.map keyOf=kvs.map (λp=>some p.1)->Reps K O H ts (kvs.map (·.2))->match qb ks ts k with
  | some t=> ∃v,jg kvs k=some v/\Rep K O H t v
  | none=>jg kvs k=none
 | [],ts,kvs,h,r=>by
  cases kvs with
  | nil=>unfold qb;exact uU
  | cons _ _=>cases h
 | k'::ks,ts,kvs,h,r=>by
  cases kvs with
  | nil=>cases h
  | cons p kvs=>
   rw[G9,G9]at h;injection h with h1 h2
   rw[G9]at r
   cases ts with
   | nil=>have:=Reps.Da.mp r;cases this
   | cons t ts=>
    obtain⟨v,ws,e,q1,q2⟩:=Reps.AC.mp r;injection e with e1 e2
    subst e1 e2;unfold qb
    by_cases hk:keyOf k'=some k
    ·rw[if_pos hk]
     rw[h1]at hk;injection hk with hk
     exact⟨_,je hk,q1⟩
    ·rw[if_neg hk]
     have hk2:¬ p.1=k:=λz=>hk (by rw[h1,z])
     rw[jf hk2];exact p9 h2 q2
theorem nN {κ:Type}[DecidableEq κ]{k:κ}{p:κ×V}{r:List (κ×V)}{v:V}(h:¬ p.1=k):eJ (p::r) k v=p::eJ r k v:=by
 unfold eJ;rw[Mf,decide_eq_false h,Nv]
 by_cases q:(r.any λkv=>decide (kv.1=k))=true
 ·rw[if_pos q,if_pos q,G9,if_neg h]
 ·rw[if_neg q,if_neg q];rfl
theorem nP {κ:Type}[DecidableEq κ]{k:κ}{p:κ×V}{r:List (κ×V)}{v:V}(h:p.1=k)(hn:∀q∈r,q.1≠k):eJ (p::r) k v=(p.1,v)::r:=by
 unfold eJ;rw[Mf,decide_eq_true h,Oj,if_pos rfl,G9,if_pos h]
 congr 1
 conv=>rhs;rw[<-List.map_id r]
 exact IL λq hq=>if_neg (hn q hq)
theorem pZ {K:GW}{O:Ow}{H:Hp}{kT vT:T}{k:List Key}{v:V}(hk:keyOf kT=some k)(hv:Rep K O H vT v):∀{ks ts:List T} {kvs:List (List Key×V)},ks.map keyOf=kvs.map (λp=>some p.1)->Reps K O H ts (kvs.map (·.2))->(kvs.map (·.1)).Nodup →
  (lH kT vT ks ts).1.map keyOf=(eJ kvs k v).map (λp=>some p.1)/\Reps K O H (lH kT vT ks ts).2 ((eJ kvs k v).map (·.2))
 | [],ts,kvs,h,r,_=>by
  cases kvs with
  | nil=>
   unfold lH;refine⟨?_,Reps.FL hv Reps.FO⟩
   simp[eJ,hk]
  | cons _ _=>cases h
 | k'::ks,ts,kvs,h,r,hn=>by
  cases kvs with
  | nil=>cases h
  | cons p kvs=>
   rw[G9,G9]at h;injection h with h1 h2
   rw[G9]at r;rw[G9]at hn;obtain⟨n1,n2⟩:=IH.mp hn
   cases ts with
   | nil=>have:=Reps.Da.mp r;cases this
   | cons t ts=>
    obtain⟨v',ws,e,q1,q2⟩:=Reps.AC.mp r;injection e with e1 e2
    subst e1 e2;unfold lH
    by_cases hz:keyOf k'=keyOf kT
    ·rw[if_pos hz]
     have hp:p.1=k:=by rw[hz,hk]at h1;injection h1 with h1;exact h1.symm
     rw[nP hp λq hq z=>n1 (by rw[hp,<-z];exact List.mem_map_of_mem hq)]
     exact⟨by rw[G9,G9,h1,h2],Reps.FL hv q2⟩
    ·rw[if_neg hz]
     have hp:¬ p.1=k:=λz=>hz (by rw[h1,z,hk])
     obtain⟨a1,a2⟩:=pZ hk hv h2 q2 n2;rw[nN hp];exact⟨by rw[G9,G9,h1,a1],Reps.FL q1 a2⟩
section
variable {X:Cx}{a b:Expr}{fa fb:En->Rs T}{pos:Pos}
theorem D6 (hu:X.A.units+1<cLine)(ha:cR X a fa)(hb:cR X b fb)(hs:autoParam (Ah b) x_):cR X (.Subscript a b pos) (o2 mr fa fb):=by
 refine PE.imp (yV hu ha hb hs) λσ H Q ⟨ρ,O,E,hq⟩=> ?_
 obtain⟨ρ1,O1,E1,h1⟩:=aR E hq;refine⟨ρ1,O1,E1,Post.mono h1 λt H1 s1 q v r=> ?_⟩
 obtain⟨t',r',s',E',q'⟩:=q v r;obtain⟨ρ2,O2,E2,h2⟩:=aR (f:=fb) E' q';refine⟨ρ2,O2,E2,Post.mono h2 λt2 H2 s2 q2 v2 r2=> ?_⟩
 obtain⟨t2',r2',s2',E2',q2'⟩:=q2 v2 r2
 have r'':=r'.same s2';unfold mr at q2'
 split at q2'
 ·rename_i ks vs k hk
  split at q2'
  ·rename_i x hx
   obtain⟨a,kvs,e1,e2,e3,e4,e5⟩:=Rep.FQ.mp r'';obtain⟨b,f1,f2⟩:=sj hk r2'
   have g:=p9 (k:=k) e4 e5;rw[hx]at g;obtain⟨w,g1,g2⟩:=g;exact⟨a,w,e1,by rw[f1,<-g1];exact DGet.GM e3 f2,q2' H2 (Same.refl H2) w g2⟩
  ·exact q2'.elim
 ·exact q2'.elim
end
end Tr
namespace PySem.F
theorem entry_dict_update_loop:OM table "dict.update.loop" =some Builtin.«dict.update.loop»:=entryFor_of_tree (by kernel_rfl)
theorem plain_dict_update_loop:plainId "dict.update.loop" =true:=by decide+kernel
end PySem.F
namespace Tr
open PySem PySem.Spec PyProof.Rows L2
def j9 (kvs:List (List Key×V)):List (List Key×V)->List (List Key×V)
 | [] =>kvs
 | p::ps=>j9 (eJ kvs p.1 p.2) ps
theorem kC {H:Hp}{d:Addr}{a b:HO}:cz (cz H d a) d b=cz H d b:=by
 funext c
 by_cases h:c=d
 ·rw[h,aT,aT]
 ·rw[aN h,aN h,aN h]
theorem hu8 {k:Nat}{A:HF}(h:Room k A):A.units+8<cLine:=by have:=h.un;omega
theorem qN {kvs:List (List Key×V)}{k:List Key}{v:V}(h:(kvs.map (·.1)).Nodup):((eJ kvs k v).map (·.1)).Nodup:=by
 unfold eJ
 by_cases a:(kvs.any λkv=>decide (kv.1=k))=true
 ·rw[if_pos a,Hu]
  have:((λx=>x.1)∘λkv:List Key×V=>if kv.1=k then(kv.1,v)else kv)=λx=>x.1:=by
   funext x
   show(if x.1=k then(x.1,v)else x).1=x.1
   by_cases e:x.1=k
   ·rw[if_pos e]
   ·rw[if_neg e]
  rw[this];exact h
 ·rw[if_neg a,IJ,L1]
  refine⟨h,by simp,λx hx y hy=> ?_⟩
  simp only[G9,Lz,Ht]at hy;subst hy;intro z;subst z;obtain⟨p,hp,e⟩:=Hb.mp hx;exact a (List.any_eq_true.mpr ⟨p,hp,decide_eq_true e⟩)
def FF (K:GW)(O:Ow)(H:Hp):List (T×T)->List (List Key×V)->Prop
 | [],ps=>ps= []
 | a::l,ps=> ∃p r,ps=p::r/\keyOf a.1=some p.1/\Rep K O H a.2 p.2/\FF K O H l r
theorem m6 {K:GW}{O:Ow}{H:Hp}:∀{l:List (T×T)} {ps:List (List Key×V)} {ks ts:List T} {kvs:List (List Key×V)},FF K O H l ps->ks.map keyOf=kvs.map (λp=>some p.1)->Reps K O H ts (kvs.map (·.2))->(kvs.map (·.1)).Nodup →
  (jG l (ks,ts)).1.map keyOf=(j9 kvs ps).map (λp=>some p.1)/\Reps K O H (jG l (ks,ts)).2 ((j9 kvs ps).map (·.2))
 | [],ps,ks,ts,kvs,h,h1,h2,hn=>by unfold FF at h;subst h;exact⟨h1,h2⟩
 | (a,b)::l,ps,ks,ts,kvs,h,h1,h2,hn=>by
  obtain⟨p,r,rfl,e1,e2,e3⟩:=h;obtain⟨g1,g2⟩:=pZ (vT:=b) e1 e2 h1 h2 hn
  show(jG l (lH a b ks ts)).1.map keyOf=(j9 (eJ kvs p.1 p.2) r).map (λp=>some p.1)/\Reps K O H (jG l (lH a b ks ts)).2 ((j9 (eJ kvs p.1 p.2) r).map (·.2))
  exact m6 (l:=l) e3 g1 g2 (qN hn)
end Tr
namespace Tr
theorem pL:∀l,fg l l=false
 | [] =>rfl
 | a::l=>by unfold fg;rw[if_pos rfl];exact pL l
theorem n8:∀a b c,fg a b=true->fg b c=true->fg a c=true
 | [],[],_,h,_=>absurd h (by simp[fg])
 | _::_,[],_,h,_=>absurd h (by simp[fg])
 | [],_::_,[],_,h=>absurd h (by simp[fg])
 | [],_::_,_::_,_,_=>rfl
 | _::_,_::_,[],_,h=>absurd h (by simp[fg])
 | x::a,y::b,z::c,h,g=>by
  unfold fg at h g ⊢
  by_cases e:x=y
  ·subst e
   rw[if_pos rfl]at h
   by_cases e2:x=z
   ·rw[if_pos e2]at g ⊢;exact n8 a b c h g
   ·rw[if_neg e2]at g ⊢;exact g
  ·rw[if_neg e]at h
   by_cases e2:y=z
   ·subst e2;rw[if_neg e];exact h
   ·rw[if_neg e2]at g
    have h1:=of_decide_eq_true h
    have h2:=of_decide_eq_true g;rw[if_neg (by omega)]
    exact decide_eq_true (by omega)
theorem lu:∀a b,fg a b=false->fg b a=false->a=b
 | [],[],_,_=>rfl
 | [],_::_,h,_=>absurd h (by simp[fg])
 | _::_,[],_,h=>absurd h (by simp[fg])
 | x::a,y::b,h,g=>by
  unfold fg at h g
  by_cases e:x=y
  ·subst e
   rw[if_pos rfl]at h g;rw[lu a b h g]
  ·rw[if_neg e]at h
   rw[if_neg (λz=>e z.symm)]at g
   have h1:=of_decide_eq_false h
   have h2:=of_decide_eq_false g;omega
theorem wz (a b c:List Int)(h:fg a c=true):fg a b=true\/fg b c=true:=by
 cases h1:fg a b with
 | true=>exact .inl rfl
 | false=>
  cases h2:fg b a with
  | true=>exact .inr (n8 _ _ _ h2 h)
  | false=>rw[<-lu _ _ h1 h2];exact .inr h
end Tr
namespace Tr
open PySem PySem.Spec PyProof.Rows L2 PySem.W
variable (R:RK)
variable {R:RK}
def RK.kind (R:RK)(h:Heap):PyProof.Rows.KeyKind:={ α:=List Int,blt:=fg,irrefl:=pL,trans:=n8,negTrans:=wz,total:=lu,keyOf:=R.key h,dflt:=[] }
def RK.row (R:RK)(h:Heap)(v:GZ):List Int:=(R.key h v).getD []
end Tr
namespace Tr
def C4:List T->Rs T
 | [.lst l,.tup m] =>if kg l=true/\l.length=m.length/\1<=l.length/\l.length<=1000 then .ok (.dct (jG (l.zip m) ([],[])).1 (jG (l.zip m) ([],[])).2)else .bad
 | _=> .bad
end Tr
namespace PySem
open Sem (wp)
namespace F
theorem zk_keys:KS (.type "zip") "keys" =pure none:=by rw[KH,JF];kernel_rfl
theorem zk_ga:KS (.type "zip") "__getattr__" =pure none:=by rw[KH,JF];kernel_rfl
theorem zk_entry:OM table "zip.__getattribute__" =some Builtin.«object.__getattribute__»:=
 entryFor_alias (id':="object.__getattribute__") (by kernel_rfl) (by first | rfl | decide+kernel | (unfold String.splitOn;simp+decide [String.splitOnAux])) (by decide+kernel) (by kernel_rfl)
end F
abbrev zO (h:Heap)(z ti to:Addr)(f0 f1:GZ):Prop:=h.get? z=some { cls:=.type "zip",dict:=none,data:=.fields #[f0,f1,.bool false,.ref ti,.ref to],slots:=#[] }
section
variable {prog:Hr}{w:HS}{A:HF}{E:GZ->GX->Prop}{h:Heap}{g:Array OK}{d:O8}{t:Nat}{os:KQ}{z ti to:Addr}{f0 f1:GZ}
theorem zk1 {tk:Tok}{Q:Fin->GX->Prop}(hx:zO h z ti to f0 f1)(hh:A.handled=none)(hq:∀h' tk' e,OU h h' e (.ref z) "keys"->E (.ref e) ⟨h',g,d,tk',os⟩) :
  wpAny (model prog w) A (Builtin.«object.__getattribute__» ⟨[.ref z,.str "keys" tk],[]⟩) Q E ⟨h,g,d,t,os⟩:=by
 have hT:(⟨h,g,d,t,os⟩:GX).TypeIs (.ref z) "zip":=⟨_,hx,rfl⟩
 have f4:=F.zk_keys
 repeat (any_goals (first | assumption | wp_step))
 exact wpAny_raiseAttrError hh (λh' tk e hx=>hq h' tk e hx) (attrMsg_fits (by decide+kernel) (by rw[Je];decide))
theorem zk2 {tk:Tok}{R:KN->GX->Prop}(hx:zO h z ti to f0 f1)(hh:A.handled=none)(hq:∀h' tk' e,OU h h' e (.ref z) "keys"->R (.error (.ref e)) ⟨h',g,d,tk',os⟩) :
  codeAny (model prog w) A (.call (.builtin "zip.__getattribute__") ⟨[.ref z,.str "keys" tk],[]⟩) R ⟨h,g,d,t,os⟩:=
 K8 JW.plain F.zk_entry (JW.check _ _ _ _ _ _ _ _ (show(⟨h,g,d,t,os⟩:GX).TypeIs (.ref z) "zip" from⟨_,hx,rfl⟩) (F.args_zip_getattribute_2 _ _) (zk1 hx hh hq))
theorem zk3 {Q:Option GZ->GX->Prop}(hx:zO h z ti to f0 f1)(hh:A.handled=none)(hq:∀h' tk',(∀b o,h.get? b=some o->h'.get? b=some o)->Q none ⟨h',g,d,tk',os⟩):wpAny (model prog w) A (getAttr? (.ref z) "keys") Q E ⟨h,g,d,t,os⟩:=by
 have hT:∀tk,(⟨h,g,d,tk,os⟩:GX).TypeIs (.ref z) "zip":=λ_=>⟨_,hx,rfl⟩
 have f1:=sub_AttributeError
 have f2:=JW.lookup
 have f3:=JW.bind (.ref z)
 have f5:=F.zk_ga;unfold getAttr? getAttrBy? getAttrBy
 repeat (any_goals (first | assumption | exact hT _ | wp_step))
 refine zk2 hx hh λh' tk' e hx'=> ?_
 obtain⟨t',u',he⟩:=hx'.there
 repeat (any_goals (first | assumption | exact hT _ | wp_step))
 exact hq _ _ hx'.keeps
end
structure Zp (h:Heap)(n l1 t2 k:Nat)(xs ys:Array GZ):Prop where
 b1:l1<n
 b2:t2<n
 pr:Lp h (n+2) (.ref n) (.ref (n+1))
 i1:h.IsListIter n l1 k
 i2:h.IsTupleIter (n+1) t2 k
 s1:h.IsList l1 xs
 s2:h.IsTuple t2 ys
theorem fR {h h':Heap}{a:Addr}{xs:Array GZ}(x:h.IsTuple a xs)(e:∀o,h.get? a=some o->h'.get? a=some o):h'.IsTuple a xs:=let ⟨o,ho,r⟩:=x;⟨o,e _ ho,r⟩
theorem Zp.keep {h h':Heap}{n l1 t2 k:Nat}{xs ys:Array GZ}(q:Zp h n l1 t2 k xs ys)(e:∀c o,c<n+3->h.get? c=some o->h'.get? c=some o):Zp h' n l1 t2 k xs ys where
 b1:=q.b1
 b2:=q.b2
 pr:=e _ _ (by omega) q.pr
 i1:=q.i1.at λo=>e _ o (by omega)
 i2:=q.i2.at λo=>e _ o (by omega)
 s1:=q.s1.at λo=>e _ o (by have:=q.b1;omega)
 s2:=fR q.s2 λo=>e _ o (by have:=q.b2;omega)
section
variable {prog:Hr}{w:HS}{A:HF}{E:GZ->GX->Prop}{s:GX}{n l1 t2 k:Nat}{xs ys:Array GZ}{x y:GZ}
theorem oN {a:Addr}{Q:Option Obj->GX->Prop}(q:Q (s.heap.get? a) s):wpAny (model prog w) A (loadIfAlive a) Q E s:=λΓ p _=>by
 show MG _ _ (Sem.loadIfAlive a pure) _ _ _ _
 rw[Sem.wp_loadIfAlive];exact q
end
section
variable {prog:Hr}{w:HS}{A:HF}{E:GZ->GX->Prop}{s:GX}{n l1 t2 k:Nat}{xs ys:Array GZ}{x y:GZ}
theorem dO {a b:Nat}(h:a<b\/b<a):a≠b:=by omega
theorem Zp.one {h h':Heap}(q:Zp h n l1 t2 k xs ys)(i:h'.IsListIter n l1 (k+1))(e:J9 n h h'):h'.IsTupleIter (n+1) t2 k/\h'.IsList l1 xs/\h'.IsTuple t2 ys/\Lp h' (n+2) (.ref n) (.ref (n+1)):=by
 have b1:=q.b1
 have b2:=q.b2;exact⟨q.i2.at λo g=>e.extBut _ _ (dO (by omega)) g,q.s1.at λo g=>e.extBut _ _ (dO (by omega)) g,fR q.s2 λo g=>e.extBut _ _ (dO (by omega)) g,e.extBut _ _ (dO (by omega)) q.pr⟩
theorem oM {T:Addr}{ob:Obj}{f:Bool}{Q:Bool->GX->Prop}(kz:zO s.heap (n+4) (n+2) (n+3) (rawInt T) (.bool f))(kT:s.heap.get? T=some ob)
  (hk:∀h',zO h' (n+4) (n+2) (n+3) (rawInt T) (.bool true)->(∀c o,c≠n+4->s.heap.get? c=some o->h'.get? c=some o)->h'.objs.size=s.heap.objs.size->Q false { s with heap:=h' }):wpAny (model prog w) A (HK (.ref (n+4))) Q E s:=by
 unfold HK;refine G1 (H0 kz rfl (x:=rawInt T) rfl ?_)
 show wpAny _ _ (loadIfAlive (Int.toNat (T:Int)) >>= _) _ _ _
 rw[HV];refine G1 (oN ?_)
 rw[kT]
 show wpAny _ _ (field (.ref (n+4)) 1 >>= _) _ _ _
 refine G1 (H0 kz rfl (x:=.bool f) rfl ?_)
 cases f with
 | true=>
  rw[if_neg (by decide)]
  exact Ha (hk _ kz (λ_ _ _ e=>e) rfl)
 | false=>
  rw[if_pos (by decide)]
  refine G1 (KI kz (by simp) λh₁ kz₁ hs₁=>Ha (hk h₁ kz₁ (λc o c1 e=>hs₁.extBut _ _ c1 e) hs₁.1))
theorem uK {T:Addr}{ob:Obj}{f:Bool}{Q:GZ->GX->Prop}(q:Zp s.heap n l1 t2 k xs ys)(kz:zO s.heap (n+4) (n+2) (n+3) (rawInt T) (.bool f))(kT:s.heap.get? T=some ob)(hx:xs[k]? =some x)(hy:ys[k]? =some y)
  (kq:∀h' p,s.heap.objs.size<=p->Lp h' p x y->zO h' (n+4) (n+2) (n+3) (rawInt T) (.bool true)->Zp h' n l1 t2 (k+1) xs ys->(∀c o,c≠n->c≠n+1->c≠n+4->s.heap.get? c=some o->h'.get? c=some o)->Q (.ref p) { s with heap:=h' }) :
  wpAny (model prog w) A (Builtin.«zip.__next__» ⟨[.ref (n+4)],[]⟩) (λfin s'=> ∃v,fin= .done (.ret v)/\Q v s') E s:=by
 have b1:=q.b1
 have b2:=q.b2
 show wpAny _ _ (field (.ref (n+4)) 2 >>= _) _ _ _
 refine G1 (H0 kz rfl (x:=.bool false) rfl ?_)
 show wpAny _ _ (field (.ref (n+4)) 3 >>= _) _ _ _
 refine G1 (H0 kz rfl (x:=.ref (n+2)) rfl ?_)
 refine G1 (Jt q.pr rfl ?_)
 show wpAny _ _ (HK (.ref (n+4)) >>= _) _ _ _
 refine G1 (oM kz kT λh₁ kz₁ e₁ z₁=> ?_)
 have q₁:Zp h₁ n l1 t2 k xs ys:=q.keep λc o hc g=>e₁ c o (by omega) g
 simp only[Iv,if_false,Nz,Kz,LL];refine G1 (G1 (G1 (IE ?_)))
 show wpAny _ _ (HU (.ref n) >>= _) _ _ _
 refine G1 (My q₁.i1 q₁.s1 hx λh₂ g₂ e₂=>Ha ?_)
 obtain⟨r1,r2,r3,r4⟩:=q₁.one g₂ e₂;refine Ha (G1 (G1 (IE ?_)))
 show wpAny _ _ (HU (.ref (n+1)) >>= _) _ _ _
 refine G1 (Enu.tupNext r1 r3 hy λh₃ g₃ e₃=>Ha (Ha (Ha ?_)))
 show wpAny _ _ (newTuple [x,y] >>= _) _ _ _
 refine G1 (Nb (Ha ⟨_,rfl,?_⟩))
 have z₃:h₃.objs.size=s.heap.objs.size:=by rw[e₃.1,e₂.1,z₁]
 have up:∀c o,c≠n->c≠n+1->h₁.get? c=some o->(h₃.push { cls:=.type "tuple",data:=.seq #[x,y] }).get? c=some o:=λc o c1 c2 g=>G2 _ (e₃.extBut _ _ c2 (e₂.extBut _ _ c1 g))
 refine kq _ h₃.objs.size (JT z₃.symm) (Hk _ rfl) (up _ _ (dO (by omega)) (dO (by omega)) kz₁) ⟨b1,b2,up _ _ (dO (by omega)) (dO (by omega)) q₁.pr,?_,?_,?_,?_⟩ λc o c1 c2 c4 g=>up c o c1 c2 (e₁ c o c4 g)
 ·exact g₂.at λo g=>G2 _ (e₃.extBut _ _ (dO (by omega)) g)
 ·exact g₃.at λo g=>G2 _ g
 ·exact q₁.s1.at λo g=>up _ o (dO (by omega)) (dO (by omega)) g
 ·exact fR q₁.s2 λo g=>up _ o (dO (by omega)) (dO (by omega)) g
theorem tm {a b:GZ}{Q:GZ->GX->Prop}(q:Zp s.heap n l1 t2 k xs ys)(kz:zO s.heap (n+4) (n+2) (n+3) .none (.bool false))(ho:Lp s.heap (n+3) a b)(hx:xs[k]? =some x)(hy:ys[k]? =some y)
  (kq:∀h' p,s.heap.objs.size<=p->Lp h' p x y->zO h' (n+4) (n+2) (n+3) (rawInt p) (.bool false)->Zp h' n l1 t2 (k+1) xs ys->(∀c o,c≠n->c≠n+1->c≠n+3->c≠n+4->s.heap.get? c=some o->h'.get? c=some o)->Q (.ref p) { s with heap:=h' }) :
  wpAny (model prog w) A (Builtin.«zip.__next__» ⟨[.ref (n+4)],[]⟩) (λfin s'=> ∃v,fin= .done (.ret v)/\Q v s') E s:=by
 have b1:=q.b1
 have b2:=q.b2
 show wpAny _ _ (field (.ref (n+4)) 2 >>= _) _ _ _
 refine G1 (H0 kz rfl (x:=.bool false) rfl ?_)
 show wpAny _ _ (field (.ref (n+4)) 3 >>= _) _ _ _
 refine G1 (H0 kz rfl (x:=.ref (n+2)) rfl ?_)
 refine G1 (Jt q.pr rfl ?_)
 show wpAny _ _ (HK (.ref (n+4)) >>= _) _ _ _
 have fr:wpAny (model prog w) A (HK (.ref (n+4))) (λv s'=>v=true/\s'=s) E s:=by
  unfold HK;exact G1 (H0 kz rfl (x:=.none) rfl (Ha ⟨rfl,rfl⟩))
 refine G1 (HX fr (λv s' hv=> ?_) λ_ _ z=>z)
 obtain⟨rfl,rfl⟩:=hv;simp only[if_true];refine G1 (Kr (G1 (H0 kz rfl (x:=.ref (n+3)) rfl (G1 (KI kz (by simp) λh₁ kz₁ e₁=> ?_)))))
 replace kz₁:zO h₁ (n+4) (n+2) (n+3) .ellipsis (.bool false):=kz₁
 have q₁:Zp h₁ n l1 t2 k xs ys:=q.keep λc o hc g=>e₁.extBut c o (dO (by omega)) g
 simp only[List.zipIdx_cons,List.zipIdx_nil,Kz,LL];refine G1 (G1 (G1 (NQ ?_)))
 show wpAny _ _ (HU (.ref n) >>= _) _ _ _
 refine G1 (My q₁.i1 q₁.s1 hx λh₂ g₂ e₂=>Ha ?_)
 obtain⟨r1,r2,r3,r4⟩:=q₁.one g₂ e₂
 have o₂:Lp h₂ (n+3) a b:=e₂.extBut _ _ (dO (by omega)) (e₁.extBut _ _ (dO (by omega)) ho)
 refine G1 (Jt o₂ rfl (G1 (M4 o₂ λh₃ o₃ e₃=>G1 (wpAny_letGo (Ha ?_)))))
 replace o₃:Lp h₃ (n+3) x b:=o₃
 refine G1 (G1 (NQ ?_))
 show wpAny _ _ (HU (.ref (n+1)) >>= _) _ _ _
 refine G1 (Enu.tupNext (r1.at λo g=>e₃.extBut _ _ (dO (by omega)) g) (fR r3 λo g=>e₃.extBut _ _ (dO (by omega)) g) hy λh₄ g₄ e₄=>Ha ?_)
 have o₄:Lp h₄ (n+3) x b:=e₄.extBut _ _ (dO (by omega)) o₃
 refine G1 (Jt o₄ rfl (G1 (M4 o₄ λh₅ o₅ e₅=>G1 (wpAny_letGo (Ha (Ha ?_))))))
 replace o₅:Lp h₅ (n+3) x y:=o₅
 refine G1 (Jt o₅ rfl (G1 (Nb ?_)))
 have z₅:h₅.objs.size=s'.heap.objs.size:=by rw[e₅.1,e₄.1,e₃.1,e₂.1,e₁.1]
 have up:∀c o,c≠n->c≠n+1->c≠n+3->h₁.get? c=some o->h₅.get? c=some o:=λc o c1 c2 c3 g=>e₅.extBut _ _ c3 (e₄.extBut _ _ c2 (e₃.extBut _ _ c3 (e₂.extBut _ _ c1 g)))
 show wpAny _ _ (Ki (.ref (n+4)) (.ref h₅.objs.size) >>= _) _ _ _
 have z5:zO (h₅.push { cls:=.type "tuple",data:=.seq #[x,y] }) (n+4) (n+2) (n+3) .ellipsis (.bool false):=G2 _ (up _ _ (dO (by omega)) (dO (by omega)) (dO (by omega)) kz₁)
 have hn:n+4<h₅.objs.size:=Hf (up _ _ (dO (by omega)) (dO (by omega)) (dO (by omega)) kz₁)
 refine G1 ?_
 unfold Ki;refine G1 (KI z5 (by simp) λh₇ z₇ e₇=> ?_)
 replace z₇:zO h₇ (n+4) (n+2) (n+3) (rawInt h₅.objs.size) (.bool false):=z₇
 refine KI z₇ (by simp) λh₈ z₈ e₈=>Ha ⟨_,rfl,?_⟩
 replace z₈:zO h₈ (n+4) (n+2) (n+3) (rawInt h₅.objs.size) (.bool false):=z₈
 have up8:∀c o,c≠n+4->h₅.get? c=some o->h₈.get? c=some o:=λc o c1 g=>e₈.extBut _ _ c1 (e₇.extBut _ _ c1 (G2 _ g))
 refine kq h₈ h₅.objs.size (JT z₅.symm) (e₈.extBut _ _ (dO (by omega)) (e₇.extBut _ _ (dO (by omega)) (Hk _ rfl))) z₈ ⟨b1,b2,up8 _ _ (dO (by omega)) (up _ _ (dO (by omega)) (dO (by omega)) (dO (by omega)) q₁.pr),?_,?_,?_,?_⟩ λc o c1 c2 c3 c4 g=>up8 c o c4 (up c o c1 c2 c3 (e₁.extBut _ _ c4 g))
 ·exact g₂.at λo g=>up8 _ _ (dO (by omega)) (e₅.extBut _ _ (dO (by omega)) (e₄.extBut _ _ (dO (by omega)) (e₃.extBut _ _ (dO (by omega)) g)))
 ·exact g₄.at λo g=>up8 _ _ (dO (by omega)) (e₅.extBut _ _ (dO (by omega)) g)
 ·exact q₁.s1.at λo g=>up8 _ _ (dO (by omega)) (up _ o (dO (by omega)) (dO (by omega)) (dO (by omega)) g)
 ·exact fR q₁.s2 λo g=>up8 _ _ (dO (by omega)) (up _ o (dO (by omega)) (dO (by omega)) (dO (by omega)) g)
theorem uJ {T:Addr}{ob:Obj}{f:Bool}{Q:Fin->GX->Prop}(hh:A.handled=none)(q:Zp s.heap n l1 t2 k xs ys)(kz:zO s.heap (n+4) (n+2) (n+3) (rawInt T) (.bool f))(kT:s.heap.get? T=some ob)(hx:xs[k]? =none)
  (ke:∀h' e,(∀c o,c≠n->c≠n+4->s.heap.get? c=some o->h'.get? c=some o)->(∃o,h'.get? e=some o/\o.cls= .type "StopIteration")->E (.ref e) { s with heap:=h' }) :
  wpAny (model prog w) A (Builtin.«zip.__next__» ⟨[.ref (n+4)],[]⟩) Q E s:=by
 show wpAny _ _ (field (.ref (n+4)) 2 >>= _) _ _ _
 refine G1 (H0 kz rfl (x:=.bool false) rfl ?_)
 show wpAny _ _ (field (.ref (n+4)) 3 >>= _) _ _ _
 refine G1 (H0 kz rfl (x:=.ref (n+2)) rfl ?_)
 refine G1 (Jt q.pr rfl ?_)
 show wpAny _ _ (HK (.ref (n+4)) >>= _) _ _ _
 refine G1 (oM kz kT λh₁ kz₁ e₁ z₁=> ?_)
 have q₁:Zp h₁ n l1 t2 k xs ys:=q.keep λc o hc g=>e₁ c o (by omega) g
 simp only[Iv,if_false,Nz,Kz,LL];refine G1 (G1 (G1 (IE ?_)))
 show wpAny _ _ (HU (.ref n) >>= _) _ _ _
 exact G1 (wpAny_nextOf_list_end hh q₁.i1 q₁.s1 hx λh₂ e e₂ he=>ke h₂ e (λc o c1 c4 g=>e₂ _ _ c1 (e₁ c o c4 g)) he)
theorem x5 {T:Addr}{ob:Obj}{f:Bool}{Q:Option GZ->GX->Prop}(q:Zp s.heap n l1 t2 k xs ys)(kz:zO s.heap (n+4) (n+2) (n+3) (rawInt T) (.bool f))(kT:s.heap.get? T=some ob)(hx:xs[k]? =some x)(hy:ys[k]? =some y)
  (kq:∀h' p,s.heap.objs.size<=p->Lp h' p x y->zO h' (n+4) (n+2) (n+3) (rawInt T) (.bool true)->Zp h' n l1 t2 (k+1) xs ys->(∀c o,c≠n->c≠n+1->c≠n+4->s.heap.get? c=some o->h'.get? c=some o)->Q (some (.ref p)) { s with heap:=h' }) :
  wpAny (model prog w) A (pyNext (.ref (n+4))) Q E s:=by
 have hy':s.TypeIs (.ref (n+4)) "zip":=⟨_,kz,rfl⟩;unfold pyNext;exact G1 (Ml (Il (name:=Hi "__next__") hy' JO (IU JO hy' Mq (uK q kz kT hx hy λh' p a1 a2 a3 a4 a5=>Ha (kq h' p a1 a2 a3 a4 a5)) (L3 _))))
theorem uI {a b:GZ}{Q:Option GZ->GX->Prop}(q:Zp s.heap n l1 t2 k xs ys)(kz:zO s.heap (n+4) (n+2) (n+3) .none (.bool false))(ho:Lp s.heap (n+3) a b)(hx:xs[k]? =some x)(hy:ys[k]? =some y)
  (kq:∀h' p,s.heap.objs.size<=p->Lp h' p x y->zO h' (n+4) (n+2) (n+3) (rawInt p) (.bool false)->Zp h' n l1 t2 (k+1) xs ys->(∀c o,c≠n->c≠n+1->c≠n+3->c≠n+4->s.heap.get? c=some o->h'.get? c=some o)->Q (some (.ref p)) { s with heap:=h' }) :
  wpAny (model prog w) A (pyNext (.ref (n+4))) Q E s:=by
 have hy':s.TypeIs (.ref (n+4)) "zip":=⟨_,kz,rfl⟩;unfold pyNext;exact G1 (Ml (Il (name:=Hi "__next__") hy' JO (IU JO hy' Mq (tm q kz ho hx hy λh' p a1 a2 a3 a4 a5=>Ha (kq h' p a1 a2 a3 a4 a5)) (L3 _))))
theorem xZ {T:Addr}{ob:Obj}{f:Bool}{Q:Option GZ->GX->Prop}(hh:A.handled=none)(q:Zp s.heap n l1 t2 k xs ys)(kz:zO s.heap (n+4) (n+2) (n+3) (rawInt T) (.bool f))(kT:s.heap.get? T=some ob)(hx:xs[k]? =none)
  (kq:∀h',(∀c o,c≠n->c≠n+4->s.heap.get? c=some o->h'.get? c=some o)->Q none { s with heap:=h' }):wpAny (model prog w) A (pyNext (.ref (n+4))) Q E s:=by
 have hy':s.TypeIs (.ref (n+4)) "zip":=⟨_,kz,rfl⟩;unfold pyNext;refine G1 (Ml (Il (name:=Hi "__next__") hy' JO (IU JO hy' Mq (uJ hh q kz kT hx λh' e a1 he=> ?_) (L3 _))))
 obtain⟨o,ho,hc⟩:=he;exact G1 (OG (T:="StopIteration") (b:=true) ⟨o,ho,hc⟩ isSubtype_stop (Ha (kq _ a1)))
theorem x6 {f0 f1:GZ}{Q:GZ->GX->Prop}(kz:zO s.heap (n+4) (n+2) (n+3) f0 f1)(h:Q (.ref (n+4)) s):wpAny (model prog w) A (pyIter (.ref (n+4))) Q E s:=by
 have hy':s.TypeIs (.ref (n+4)) "zip":=⟨_,kz,rfl⟩;refine wpAny_pyIter_slot hy' OV (IU OV hy' F.entry_zip_iter ?_ (F.args_zip_iter_1 _))
 show wpAny _ _ (ret (.ref (n+4))) _ _ s
 exact Ha ⟨_,rfl,"zip",_,hy',JO.lookup,h⟩
end
abbrev De (h:Heap)(l t:Addr):Heap:=h.push { cls:=.type "list_iterator",data:=.fields #[.ref l,.int 0 0] }
abbrev Fu (h:Heap)(l t:Addr):Heap:=(De h l t).push { cls:=.type "tuple_iterator",data:=.fields #[.ref t,.int 0 0] }
abbrev Ft (h:Heap)(l t:Addr):Heap:=(Fu h l t).push { cls:=.type "tuple",data:=.seq #[.ref h.objs.size,.ref (De h l t).objs.size] }
abbrev Fs (h:Heap)(l t:Addr):Heap:=(Ft h l t).push { cls:=.type "tuple",data:=.seq #[.none,.none] }
abbrev Ai (h:Heap)(l t:Addr):Heap:=(Fs h l t).push { cls:=.type "zip",data:=.fields #[.none,.bool false,.bool false,.ref (Fu h l t).objs.size,.ref (Ft h l t).objs.size] }
theorem tU (l t:Addr)(xs ys:Array GZ):Meets (Builtin.«zip.__new__» ⟨[.type "zip",.ref l,.ref t],[]⟩) (λ_ R s=>s.heap.IsList l xs/\s.heap.IsTuple t ys/\R (.ok (.ret (.ref (Fs s.heap l t).objs.size))) { s with heap:=Ai s.heap l t }):=
 .of_wp λprog w A R s q=>by
  obtain⟨hp,g,d,tk,os⟩:=s;obtain⟨a1,a2,q⟩:=q
  have k0:=sub_zip
  have k1:Heap.IsList (OR ⟨hp,g,d,tk,os⟩) l xs:=a1
  have k2:Heap.IsTuple (OR ⟨De hp l t,g,d,tk,os⟩) t ys:=fR a2 λo e=>G2 _ e
  wp_walk using L8 k1,J7 k2
  exact⟨_,rfl,q⟩
section
variable {prog:Hr}{w:HS}{A:HF}{E:GZ->GX->Prop}{s:GX}
theorem x8 {l t:Addr}{xs ys:Array GZ}{Q:GZ->GX->Prop}(a1:s.heap.IsList l xs)(a2:s.heap.IsTuple t ys)
  (q:∀h',Zp h' s.heap.objs.size l t 0 xs ys->zO h' (s.heap.objs.size+4) (s.heap.objs.size+2) (s.heap.objs.size+3) .none (.bool false)->Lp h' (s.heap.objs.size+3) .none .none->h'.objs.size=s.heap.objs.size+5 →
   (∀c o,s.heap.get? c=some o->h'.get? c=some o)->Q (.ref (s.heap.objs.size+4)) { s with heap:=h' }) :
  wpAny (model prog w) A (call (.type "zip") [.ref l,.ref t]) Q E s:=by
 refine callType_new F.called_zip (by decide) (F.typeCall_zip_2 _ _) (F.newCall_zip_2 _ _) (λobj=>F.args_object_init_3 obj _ _) F.entry_zip_new (tU l t xs ys) ⟨a1,a2,?_⟩
 have z1:(De s.heap l t).objs.size=s.heap.objs.size+1:=IB ..
 have z2:(Fu s.heap l t).objs.size=s.heap.objs.size+2:=by rw[IB,z1]
 have z3:(Ft s.heap l t).objs.size=s.heap.objs.size+3:=by rw[IB,z2]
 have z4:(Fs s.heap l t).objs.size=s.heap.objs.size+4:=by rw[IB,z3]
 have z5:(Ai s.heap l t).objs.size=s.heap.objs.size+5:=by rw[IB,z4]
 have g5:(Ai s.heap l t).get? (Fs s.heap l t).objs.size=some _:=Hk _ rfl
 have g4:(Ai s.heap l t).get? (Ft s.heap l t).objs.size=some _:=G2 _ (Hk _ rfl)
 have g3:(Ai s.heap l t).get? (Fu s.heap l t).objs.size=some _:=G2 _ (G2 _ (Hk _ rfl))
 have g2:(Ai s.heap l t).get? (De s.heap l t).objs.size=some _:=G2 _ (G2 _ (G2 _ (Hk _ rfl)))
 have g1:(Ai s.heap l t).get? s.heap.objs.size=some _:=G2 _ (G2 _ (G2 _ (G2 _ (Hk _ rfl))))
 have up:∀c o,s.heap.get? c=some o->(Ai s.heap l t).get? c=some o:=λc o e=>G2 _ (G2 _ (G2 _ (G2 _ (G2 _ e))))
 show _/\_
 rw[z2,z3,z4]at g5;rw[z1,z2]at g3;rw[z3]at g4;rw[z1]at g2;rw[z4]
 have lt1:l<s.heap.objs.size:=by obtain⟨o,e,_⟩:=a1;exact Hf e
 have lt2:t<s.heap.objs.size:=by obtain⟨o,e,_⟩:=a2;exact Hf e
 exact⟨⟨_,g5,rfl⟩,q _ ⟨lt1,lt2,g3,⟨_,g1,rfl,rfl⟩,⟨_,g2,rfl,rfl⟩,a1.at λo e=>up _ o e,fR a2 λo e=>up _ o e⟩ g5 g4 z5 up⟩
end
end PySem
namespace Tr
open PySem PySem.Spec PyProof.Rows L2
def ZAt (H:Hp):List V->List V->List (List Key×V)->Prop
 | [],[],ps=>ps= []
 | x::xs,y::ys,ps=> ∃kb p r,ps=p::r/\x= .ref kb/\H kb=some (.tup (p.1.map kV))/\p.2=y/\ZAt H xs ys r
 | _,_,_=>False
theorem ZAt.mono {H H':Hp}(h:∀b vs,H b=some (.tup vs)->H' b=some (.tup vs)):∀{xs ys:List V} {ps:List (List Key×V)},ZAt H xs ys ps->ZAt H' xs ys ps
 | [],[],_,z=>z
 | [],_::_,_,z=>z
 | _::_,[],_,z=>z
 | x::xs,y::ys,_,⟨kb,p,r,e1,e2,e3,e4,e5⟩=>⟨kb,p,r,e1,e2,h _ _ e3,e4,e5.mono h⟩
theorem ZAt.len {H:Hp}:∀{xs ys:List V} {ps:List (List Key×V)},ZAt H xs ys ps->xs.length=ys.length
 | [],[],_,_=>rfl
 | [],_::_,_,z=>z.elim
 | _::_,[],_,z=>z.elim
 | x::xs,y::ys,_,⟨kb,p,r,e1,e2,e3,e4,e5⟩=>by rw[G4,G4,e5.len]
section
variable {X:Cx}{pins:List (Addr×Obj)}{σ:L2.St}{A:HF}{res:GZ}{R:KN->GX->Prop}{d it:Addr}
theorem sM {Ex:Heap->Prop}{i:Nat}{s:GX}{H:Hp}{kvs:List (List Key×V)}{kb:Addr}{kk:List Key}{v:V}(hu:A.units+3<cLine)(hd:H d=some (.dT kvs))(hz:kvs.length<1000)(hk:H kb=some (.tup (kk.map kV)))
  (hn:∀{Q:Option GZ->GX->Prop} {E:GZ->GX->Prop},(∀h' p u2,Inv X pins σ H { s with heap:=h' }->Lp h' p (.ref kb) u2->RelV v u2->Ex h'->Q (some (.ref p)) { s with heap:=h' })->wpAny (model X.prog X.w) A.in1 (pyNext (.ref it)) Q E s)
  (nx:∀h' h2 tk,Ex h'->(∀c,c≠d->h2.get? c=h'.get? c)->Inv X pins σ (cz H d (.dT (eJ kvs kk v))) { s with heap:=h2,toks:=tk }->codeAny (model X.prog X.w) A (.builtin "dict.update.loop" ⟨[.ref d,.ref it,rawInt ((i+1:Nat):Int),res],[]⟩) R { s with heap:=h2,toks:=tk }) :
  codeAny (model X.prog X.w) A (.builtin "dict.update.loop" ⟨[.ref d,.ref it,rawInt (i:Nat),res],[]⟩) R s:=by
 refine MU F.entry_dict_update_loop ?_
 rw[MZ F.plain_dict_update_loop _]
 show wpAny _ A.in1 (pyNext (.ref it) >>= _) _ _ s
 refine G1 (hn λh' p u2 I1 hp q2 hx=> ?_)
 show wpAny _ A.in1 (holding [HD p] _ >>= _) _ _ _
 refine G1 (IE (G1 (wpAny_tryCatch ?_)))
 unfold Builtin.Dict.pairItems;refine G1 (LG (s:={ s with heap:=h' }) (T:="tuple") ⟨_,hp,rfl⟩ ?_)
 rw[if_pos (by decide)]
 refine G1 (Jt (s:={ s with heap:=h' }) hp rfl (Ha ?_))
 show wpAny _ _ (holding [HD kb,u2] (dictSet d (.ref kb) u2)) _ _ _
 refine IE ?_
 obtain⟨zz,hds,xs2,rel,dd⟩:=E6 I1.hok hd
 have hzl:xs2.length<=sizeLine:=by rw[<-Paired.length rel];exact zz
 have hkl:kvs.length<sizeLine:=by rw[Je];omega
 have hl2:(eJ kvs kk v).length<=sizeLine:=by have:=kf kvs kk v;omega
 refine wpAny_dictSet_heap (hsz:=hzl) (NP (by show A.units+1<cLine;omega)) (qT I1.hok hk) dd λh2 dd2 hs2=> ?_
 obtain⟨q,es,ep,hq,h22,h3,h4,_,h5⟩:=dd2
 have I2:Inv X pins σ (cz H d (.dT (eJ kvs kk v))) { s with heap:=h2,toks:=s.toks+(MR (du X.prog X.w)).draws kk }:=
  zU (s:={ s with heap:=h' }) I1 (by rw[hd];exact KO) hs2 ⟨q,hq⟩ ⟨hl2,hds,_,(rel.put kk hk q2).keeps λc ys ec=>by rw[aN (AB ec hd (λz=>nomatch z))];exact ec,q,es,ep,hq,h22,h3,h4,h5⟩
 have hcast:(i:Int)+1=((i+1:Nat):Int):=by omega
 refine Ha ⟨NR F.plain_dict_update_loop _,?_⟩
 rw[hcast];exact nx h' h2 _ hx (λc hc=>hs2.2 c hc) I2
theorem CM {s:GX}{i:Nat}(hn:∀{Q:Option GZ->GX->Prop} {E:GZ->GX->Prop},(∀h',R (.ok (.ret res)) { s with heap:=h' }->Q none { s with heap:=h' })->wpAny (model X.prog X.w) A.in1 (pyNext (.ref it)) Q E s) :
  codeAny (model X.prog X.w) A (.builtin "dict.update.loop" ⟨[.ref d,.ref it,rawInt (i:Nat),res],[]⟩) R s:=by
 refine MU F.entry_dict_update_loop ?_
 rw[MZ F.plain_dict_update_loop _]
 show wpAny _ A.in1 (pyNext (.ref it) >>= _) _ _ s
 refine G1 (hn λh' hr=> ?_)
 show wpAny _ _ (Builtin.Dict.addKeywords d [] >>= _) _ _ _
 exact G1 (Ha (Ha hr))
theorem ya {n l1 t2:Nat}{us ws:Array GZ}{xs ys:List V}{T:Addr}(hh:A.handled=none)(hu:A.units+3<cLine)(rx:Vals xs us.toList)(ry:Vals ys ws.toList)(hTn:n+4<T)(hTd:T≠d):∀(k i:Nat) (s:GX) (H:Hp) (kvs ps:List (List Key×V)) (f:Bool) (ob:Obj),xs.length - i=k->i<=xs.length->H d=some (.dT kvs)->kvs.length+(xs.length - i)<=1000 →
  Inv X pins σ H s->Zp s.heap n l1 t2 i us ws->zO s.heap (n+4) (n+2) (n+3) (rawInt T) (.bool f)->s.heap.get? T=some ob->(∀j:Nat,j<5->ir X pins H (n+j))->l1≠d->t2≠d->ZAt H (xs.drop i) (ys.drop i) ps →
  (∀s',Inv X pins σ (cz H d (.dT (j9 kvs ps))) s'->R (.ok (.ret res)) s')->codeAny (model X.prog X.w) A (.builtin "dict.update.loop" ⟨[.ref d,.ref (n+4),rawInt i,res],[]⟩) R s:=by
 have lenx:=rx.length
 have leny:=ry.length;intro k
 induction k with
 | zero=>
  intro i s H kvs ps f ob hk hi hd hz I q kz kT hf hl1 ht2 hp hR
  have hnil:xs.drop i= []:=JA (by omega)
  have hny:ys.drop i= []:=by
   have:=hp.len;rw[hnil]at this;exact List.length_eq_zero_iff.mp this.symm
  rw[hnil,hny]at hp;unfold ZAt at hp;subst hp
  have e2:cz H d (.dT (j9 kvs []))=H:=by
   funext b
   by_cases hb:b=d
   ·rw[hb,aT,hd];rfl
   ·rw[aN hb]
  rw[e2]at hR;refine CM λ{Q E} hq=>xZ hh q kz kT (by rw[Array.getElem?_eq_none];rw[<-Jw];omega) λh' e=>hq h' (hR _ ?_)
  exact I.FU (fp:=[n,n+4]) (t':=s.toks) (λb hb=>by
   simp only[Hd,Im,or_false]at hb;rcases hb with rfl | rfl
   ·exact hf 0 (by omega)
   ·exact hf 4 (by omega)) λb o hb eb=>e b o (λz=>hb (by rw[z];simp)) (λz=>hb (by rw[z];simp)) eb
 | succ k ih=>
  intro i s H kvs ps f ob hk hi hd hz I q kz kT hf hl1 ht2 hp hR
  have hlt:i<xs.length:=by omega
  have hdx:xs.drop i=xs[i] ::xs.drop (i+1):=Jf hlt
  have hyl:i<ys.length:=by
   have:=hp.len;rw[Ig,Ig]at this;omega
  have hdy:ys.drop i=ys[i] ::ys.drop (i+1):=Jf hyl;rw[hdx,hdy]at hp;obtain⟨kb,p,r,rfl,ex,hkb,ep,hp'⟩:=hp;obtain⟨u1,q1,q2⟩:=rx.get (Hv hlt)
  obtain⟨u2,q3,q4⟩:=ry.get (Hv hyl)
  rw[MH]at q1 q3
  rw[ex]at q2;obtain rfl:u1=HD kb:=q2;rw[<-ep]at q4
  have hd0:∀j:Nat,j<5->n+j≠d:=λj hj z=>by have:=(hf j hj).1;rw[z,hd]at this;cases this
  refine sM (pins:=pins) (σ:=σ) (Ex:=λh'=>Zp h' n l1 t2 (i+1) us ws/\zO h' (n+4) (n+2) (n+3) (rawInt T) (.bool true)/\h'.get? T=some ob) hu hd (by omega) hkb (λ{Q E} hq=>x5 q kz kT q1 q3 λh' b _ a2 a3 a4 a5=>hq h' b u2 ?_ a2 q4 ⟨a4,a3,a5 _ _ (dO (by omega)) (dO (by omega)) (dO (by omega)) kT⟩) λh1 h2 tk hx3 e2 I2=> ?_
  ·exact I.FU (fp:=[n,n+1,n+4]) (t':=s.toks) (λb hb=>by
    simp only[Hd,Im,or_false]at hb;rcases hb with rfl | rfl | rfl
    ·exact hf 0 (by omega)
    ·exact hf 1 (by omega)
    ·exact hf 4 (by omega)) λb o hb eb=>a5 b o (λz=>hb (by rw[z];simp)) (λz=>hb (by rw[z];simp)) (λz=>hb (by rw[z];simp)) eb
  ·obtain⟨x1,x2,x3⟩:=hx3
   have lt1:=x1.b1
   have lt2:=x1.b2
   have x1':Zp h2 n l1 t2 (i+1) us ws:=⟨x1.b1,x1.b2,(e2 _ (hd0 2 (by omega))).trans x1.pr,x1.i1.at λo g=>(e2 _ (hd0 0 (by omega))).trans g,x1.i2.at λo g=>(e2 _ (hd0 1 (by omega))).trans g,x1.s1.at λo g=>(e2 _ hl1).trans g,fR x1.s2 λo g=>(e2 _ ht2).trans g⟩
   refine ih (i+1) _ (cz H d (.dT (eJ kvs p.1 p.2))) (eJ kvs p.1 p.2) r true ob (by omega) (by omega) aT (by have:=kf kvs p.1 p.2;omega) I2 x1' ((e2 _ (hd0 4 (by omega))).trans x2) ((e2 _ hTd).trans x3) (λj hj=>⟨by rw[aN (hd0 j hj)];exact(hf j hj).1,(hf j hj).2⟩) hl1 ht2 (hp'.mono λb vs e=>by rw[aN (AB e hd (λz=>nomatch z))];exact e) λs' I'=> ?_
   rw[kC]at I';exact hR s' I'
end
section
variable {X:Cx}{pins:List (Addr×Obj)}{σ:L2.St}{A:HF}{E:GZ->GX->Prop}{H:Hp}{s:GX}{n l1 t2:Nat}{us ws:Array GZ}{xs ys:List V}{ps:List (List Key×V)}
theorem zV {Q:GZ->GX->Prop}(hh:A.handled=none)(hu:A.units+8<cLine)(I:Inv X pins σ H s)(q:Zp s.heap n l1 t2 0 us ws)(kz:zO s.heap (n+4) (n+2) (n+3) .none (.bool false))(ko:Lp s.heap (n+3) .none .none)
  (hf:∀j:Nat,j<5->ir X pins H (n+j)) (rx:Vals xs us.toList) (ry:Vals ys ws.toList) (h1:1<=xs.length) (hz:xs.length<=1000) (hp:ZAt H xs ys ps)
  (h:∀p s',Nw X.K H p->Inv X pins σ (cz H p (.dT (j9 [] ps))) s'->Q (.ref p) s'):wpAny (model X.prog X.w) A (call (.type "dict") [.ref (n+4)]) Q E s:=by
 have hk:X.K.lookup s.heap.objs.size=none:=by
  cases q:X.K.lookup s.heap.objs.size with
  | none=>rfl
  | some o=>exact absurd (Hf (I.kIn _ o q)) (HB _)
 have hn:H s.heap.objs.size=none:=I.hok.fresh (He _)
 have z4:n+4<s.heap.objs.size:=Hf kz
 have b1:=q.b1
 have b2:=q.b2;refine callType_codes (Q₁:=λobj s₁=>obj= .ref s.heap.objs.size/\s₁= { s with heap:=s.heap.push { cls:=.type "dict",data:=.dict #[] } }) F.kt_called_dict (F.kt_typeCall_dict_1 _) F.entry_dict_init (kt_code_dict_new _ ⟨rfl,rfl⟩) ?_
 rintro obj s₁ ⟨rfl,rfl⟩
 have I1:Inv X pins σ (cz H s.heap.objs.size (.dT [])) { s with heap:=s.heap.push { cls:=.type "dict",data:=.dict #[] } }:=I.laid (a:=s.heap.objs.size) (o:=.dT []) (t':=s.toks) (λ_ _ q=>G2 _ q) (He _) (xo s.heap I.big)
 have hT:({ s with heap:=s.heap.push { cls:=.type "dict",data:=.dict #[] } }:GX).TypeIs (.ref s.heap.objs.size) "dict":=⟨_,Hk _ rfl,rfl⟩
 have kz1:zO (s.heap.push { cls:=.type "dict",data:=.dict #[] }) (n+4) (n+2) (n+3) .none (.bool false):=G2 _ kz
 refine⟨hT,F.args_dict_init_2 _ _,?_⟩
 unfold Builtin.«dict.__init__»;refine G1 ?_
 unfold Builtin.Dict.selfAndRest;refine G1 (wpAny_notOrdered_dict hT ?_)
 show wpAny _ _ (pure (s.heap.objs.size,[HD (n+4)])) _ _ _
 refine Ha ?_
 show wpAny _ _ (Mb "dict.__init__" s.heap.objs.size (.ref (n+4)) [] .none) _ _ _
 unfold Mb;refine G1 (LG (T:="zip") ⟨_,kz1,rfl⟩ ?_)
 rw[if_pos (by decide)]
 refine G1 (zk3 kz1 hh λh' tk' kp=> ?_)
 have I2:Inv X pins σ (cz H s.heap.objs.size (.dT [])) { s with heap:=h',toks:=tk' }:=I1.kept (t':=tk') kp
 have up:∀c o,s.heap.get? c=some o->h'.get? c=some o:=λc o e=>kp c o (G2 _ e)
 rw[if_pos (by rfl)]
 refine G1 (Kr ?_)
 have kz2:zO h' (n+4) (n+2) (n+3) .none (.bool false):=up _ _ kz;refine G1 (x6 (s:={ s with heap:=h',toks:=tk' }) kz2 ?_)
 refine Ha ⟨NR F.plain_dict_update_loop _,?_⟩
 have q2:Zp h' n l1 t2 0 us ws:=q.keep λc o _ e=>up c o e
 have hsz:s.heap.objs.size<h'.objs.size:=Hf (kp _ _ (Hk _ rfl))
 have hf2:∀j:Nat,j<5->ir X pins (cz H s.heap.objs.size (.dT [])) (n+j):=λj hj=>⟨by rw[aN (dO (by omega))];exact(hf j hj).1,(hf j hj).2⟩
 obtain⟨x,xs',rfl⟩:∃x xs',xs=x::xs':=by
  cases xs with
  | nil=>simp at h1
  | cons x xs'=>exact⟨x,xs',rfl⟩
 obtain⟨y,ys',rfl⟩:∃y ys',ys=y::ys':=by
  cases ys with
  | nil=>exact hp.elim
  | cons y ys'=>exact⟨y,ys',rfl⟩
 obtain⟨kb,p,r,rfl,ex,hkb,ep,hp'⟩:=hp;obtain⟨u1,v1,v2⟩:=rx.get (i:=0) rfl;obtain⟨u2,v3,v4⟩:=ry.get (i:=0) rfl;rw[MH]at v1 v3
 rw[ex]at v2;obtain rfl:u1=HD kb:=v2;rw[<-ep]at v4;rw[G4]at hz
 have tupk:∀(o:List (List Key×V)) b vs,H b=some (.tup vs)->cz H s.heap.objs.size (.dT o) b=some (.tup vs):=λo b vs e=>by rw[aN (λz=>by rw[z,hn]at e;cases e)];exact e
 refine sM (A:=A.in1) (X:=X) (pins:=pins) (σ:=σ) (i:=0) (kvs:=[]) (Ex:=λh1=>Zp h1 n l1 t2 1 us ws/\∃T ob,h'.objs.size<=T/\zO h1 (n+4) (n+2) (n+3) (rawInt T) (.bool false)/\h1.get? T=some ob) (by show A.units+1+3<cLine;omega) aT (by simp) (tupk _ _ _ hkb)
  (λ{Q E} hq=>uI q2 kz2 (up _ _ ko) v1 v3 λh1 b a1 a2 a3 a4 a5=>hq h1 b u2 ?_ a2 v4 ⟨a4,b,_,a1,a3,a2⟩) λh1 h2 tk hx3 e2 I3=> ?_
 ·exact I2.FU (fp:=[n,n+1,n+3,n+4]) (t':=tk') (λb hb=>by
   simp only[Hd,Im,or_false]at hb;rcases hb with rfl | rfl | rfl | rfl
   ·exact hf2 0 (by omega)
   ·exact hf2 1 (by omega)
   ·exact hf2 3 (by omega)
   ·exact hf2 4 (by omega)) λb o hb eb=>a5 b o (λz=>hb (by rw[z];simp)) (λz=>hb (by rw[z];simp)) (λz=>hb (by rw[z];simp)) (λz=>hb (by rw[z];simp)) eb
 ·obtain⟨x1,T,ob,hTs,x2,x3⟩:=hx3
  have hd0:∀j:Nat,j<5->n+j≠s.heap.objs.size:=λj hj=>dO (by omega)
  have x1':Zp h2 n l1 t2 1 us ws:=⟨x1.b1,x1.b2,(e2 _ (hd0 2 (by omega))).trans x1.pr,x1.i1.at λo g=>(e2 _ (hd0 0 (by omega))).trans g,x1.i2.at λo g=>(e2 _ (hd0 1 (by omega))).trans g,x1.s1.at λo g=>(e2 _ (dO (by omega))).trans g,fR x1.s2 λo g=>(e2 _ (dO (by omega))).trans g⟩
  rw[kC]at I3;refine ya (A:=A.in1) (X:=X) (pins:=pins) (σ:=σ) (xs:=x::xs') (ys:=y::ys') (T:=T) hh (by show A.units+1+3<cLine;omega) rx ry (by omega) (dO (by omega)) xs'.length 1 _ (cz H s.heap.objs.size (.dT (eJ [] p.1 p.2))) (eJ [] p.1 p.2) r false ob (by rw[G4];omega) (by rw[G4];omega) aT (by rw[G4];show 1+_<=1000;omega) I3 x1' ((e2 _ (hd0 4 (by omega))).trans x2) ((e2 _ (dO (by omega))).trans x3) (λj hj=>⟨by rw[aN (hd0 j hj)];exact(hf j hj).1,(hf j hj).2⟩) (dO (by omega)) (dO (by omega)) (hp'.mono (tupk _)) λs' I'=> ?_
  rw[kC]at I';exact⟨rfl,h _ _ ⟨hn,hk⟩ I'⟩
theorem Aj {K:GW}{O:Ow}{H:Hp}:∀{l m:List T} {xs ys:List V},kg l=true->l.length=m.length->Reps K O H l xs->Reps K O H m ys->∃ps,ZAt H xs ys ps/\FF K O H (l.zip m) ps
 | [],[],xs,ys,_,_,r1,r2=>by cases Reps.Da.mp r1;cases Reps.Da.mp r2;exact⟨[],rfl,rfl⟩
 | [],_::_,_,_,_,h,_,_=>by simp at h
 | _::_,[],_,_,_,h,_,_=>by simp at h
 | a::l,b::m,xs,ys,hk,h,r1,r2=>by
  obtain⟨v,vs,rfl,p1,q1⟩:=Reps.AC.mp r1;obtain⟨w,ws,rfl,p2,q2⟩:=Reps.AC.mp r2;unfold kg at hk;rw[G6]at hk;obtain⟨kk,ek⟩:=Kp.mp hk.1;obtain⟨ps,g1,g2⟩:=Aj hk.2 (by simpa using h) q1 q2
  obtain⟨kb,f5,f6⟩:=sj ek p1;exact⟨(kk,w)::ps,⟨kb,(kk,w),ps,rfl,f5,f6,rfl,g1⟩,⟨(kk,w),ps,rfl,ek,p2,g2⟩⟩
end
section
variable {X:Cx}{a b:Expr}{fs:En->Rs (List T)}{p p1 p2 pos:Pos}
theorem BI (hu:X.A.units+8<cLine)(hc:X.calm=true)(hm:X.mg "dict" =none)(hmz:X.mg "zip" =none)(ha:oI X [a,b] fs)(hst:autoParam (a0 [a,b] =true) u_)(hg:autoParam (Gl X "dict") u_)(hgz:autoParam (Gl X "zip") u_) :
  cR X (.Call (.Name "dict" p) [.Call (.Name "zip" p1) [a,b] [] p2] [] pos) (cl C4 fs):=by
 intro pins s σ H Q I ⟨ρ,O,Ev,hq⟩
 have e1:Hj [K0 (.Name "zip" p1) [a,b] [] p2] X.env=(false,eval (.Call (.Name "zip" p1) [a,b] [] p2) X.env)::Hj [] X.env:=bt rfl;unfold a0 at hst;rw[G6]at hst
 have e2:Hj [a,b] X.env=(false,eval a X.env)::Hj [b] X.env:=bt hst.1;refine Iy (dU I hg hm (show HA "dict" =some (.type "dict")by decide+kernel) ?_ (by decide) (by decide))
 refine IQ ?_ e1 rfl
 rw[e1];refine Jl ?_
 refine Iy (dU I hgz hmz (show HA "zip" =some (.type "zip")by decide+kernel) ?_ (by decide) (by decide))
 refine IQ (bJ (ha p2 pins s σ H _ I (dG Ev hq)) λus s1 ⟨vs,H1,I1,r1,ts,rs,s',E',q1⟩=> ?_) e2 (ef hst.2)
 unfold C4 at q1
 split at q1
 ·rename_i l m
  by_cases hz:kg l=true/\l.length=m.length/\1<=l.length/\l.length<=1000
  ·rw[if_pos hz]at q1
   obtain⟨v1,vs1,rfl,ra,rb⟩:=Reps.AC.mp rs;obtain⟨v2,rfl,rc⟩:=rb.one;obtain⟨c1,xs,rfl,_,hx,rx⟩:=Rep.FB.mp ra;obtain⟨c2,ys,rfl,_,hy,ry⟩:=Rep.Fk.mp rc
   cases r1 with
   | cons w1 w2=>
    obtain⟨u2,rfl,w3⟩:=Vals.one w2;cases w1;obtain rfl:u2=HD c2:=w3;obtain⟨z,its,n,rv,hlen,e⟩:=I1.FW hx;obtain⟨z2,its2,r2,ob,hob1,hob2,nb,hob3⟩:=(show ObjOk X.prog X.w H1 s1.heap c2 (.tup ys)from I1.hok c2 _ hy)
    refine x8 (xs:=its.toArray) (ys:=its2.toArray) ⟨_,e,rfl,n,rfl⟩ ⟨ob,hob1,hob2,nb,hob3⟩ λh' g1 g2 g3 g4 g5=> ?_
    refine Ju ?_
    have I2:Inv X pins σ H1 { s1 with heap:=h' }:=I1.kept (t':=s1.toks) g5
    obtain⟨ps,k1,k2⟩:=Aj hz.1 hz.2.1 rx ry;refine zV (I2.ok.hd hc) hu I2 g1 g2 g3 (λj hj=>I1.Gb (by omega) (I1.hok.fresh (by omega))) rv r2 (by rw[<-rx.length];exact hz.2.2.1) (by rw[<-rx.length];exact hz.2.2.2) k1 λq s' nw I'=>⟨.ref q,_,I',rfl,q1 _ (aW nw.1 _) _ ?_⟩
    obtain⟨d1,d2⟩:=m6 (ks:=[]) (ts:=[]) (kvs:=[]) k2 rfl Reps.FO LN;exact Rep.FQ.mpr ⟨q,_,rfl,E'.fresh nw.1,.inl aT,d1,d2.same (aW nw.1 _)⟩
  ·rw[if_neg hz]at q1;exact q1.elim
 ·exact q1.elim
end
end Tr
namespace L2
open PySem PySem.Spec PyProof.Rows
theorem pU {n b:Nat}:b∈ [n+4,n,n+1,n+2,n+3] ↔n<=b/\b<n+5:=by
 simp only[Hd,Im,or_false];omega
end L2
namespace Tr
open PySem
def c0 (g:List T->Rs T)(_:En):Rs T:=match g []with
 | .ok t=> .ok t
 | _=> .bad
end Tr
namespace PySem
open Sem (wp)
open L2 (itAt)
structure PW (prog:Hr)(w:HS)(A:HF)(I:Addr)(T:String)(fp wr:List Addr)(n:Nat)(R:Nat->GZ->GZ->Prop)(St:Nat->Option Addr->Heap->Prop):Prop where
 sub:∀b∈wr,b∈fp
 ty:∀i o (s:GX),St i o s.heap->s.TypeIs (.ref I) T
 frame:∀i o h h',St i o h->(∀b∈fp,∀ob,h.get? b=some ob->h'.get? b=some ob)->St i o h'
 item:∀i o (s:GX) (Q:Option GZ->GX->Prop) (E:GZ->GX->Prop),i<n->St i o s.heap->(∀t,o=some t->∃ob,s.heap.get? t=some ob) →
  (∀p h' tk x y,R i x y->s.heap.objs.size<=p->Lp h' p x y->St (i+1) (some (o.getD p)) h'->(∀b ob,b∉wr->s.heap.get? b=some ob->h'.get? b=some ob)->Q (some (.ref p)) { s with heap:=h',toks:=tk })->wpAny (model prog w) A (pyNext (.ref I)) Q E s
 done:∀o (s:GX) (Q:Option GZ->GX->Prop) (E:GZ->GX->Prop),St n o s.heap->(∀t,o=some t->∃ob,s.heap.get? t=some ob)->(∀h' tk,(∀b ob,b∉wr->s.heap.get? b=some ob->h'.get? b=some ob)->Q none { s with heap:=h',toks:=tk })->wpAny (model prog w) A (pyNext (.ref I)) Q E s
 self:∀i o (s:GX) (Q:GZ->GX->Prop) (E:GZ->GX->Prop),St i o s.heap->Q (.ref I) s->wpAny (model prog w) A (pyIter (.ref I)) Q E s
end PySem
namespace Tr
open PySem
inductive Fx where
 | nx (ρ:En) | rt (t:T) (ρ:En)
def mN (ρ:En):Rs Fx:=.ok (.nx ρ)
end Tr
namespace Tr
open PySem PySem.Spec PyProof.Rows L2
abbrev one (j:Nat)(m:Ow):Mn:=noM.set j m
structure QE (X:Cx)(e:Expr)(f:En->Rs T):Prop where
 h:cR X e f
structure QA (X:Cx)(e:List Expr)(f:En->Rs (List T)):Prop where
 h:oI X e f
structure QT (X:Cx)(e:Expr)(f:En->Rs Bool):Prop where
 h:xM X e f
structure QW (X:Cx)(e:Expr)(f:En->Rs Bool):Prop where
 h:Fm X e f
structure QS (X:Cx)(e:Stmt)(f:En->Rs Fl):Prop where
 h:sZ X e f
structure xK (X:Cx)(e:List Stmt)(f:En->Rs Fl):Prop where
 h:lW X e f
structure QG (X:Cx)(e:Expr)(f:T->En->Rs En):Prop where
 h:xO X e f
structure FE (X:Cx)(e:List Expr)(f:List T->En->Rs En):Prop where
 h:xP X e f
structure QI (X:Cx)(t e:Expr)(f:En->Rs (List T)):Prop where
 h:xN X t e f
structure QO (X:Cx)(e:Option Expr)(f:En->Rs (Option Int)):Prop where
 h:CY X e f
structure C5 (X:Cx)(e:List Expr)(f:En->Rs Bool):Prop where
 h:ql X e (uD X f)
theorem af {X:Cx}(i:Nat){x:Str}{pos:Pos}(hN:autoParam ((Cx.N X)[i]? =some x) u_)(hv:autoParam (rz (Ll (Cx.env X)) x) v_)(hd:autoParam ((x == Hi "__debug__")=false) s_)(hcd:autoParam ((x == Hi "__classdict__")=false) s_):QE X (IZ x pos) (vr i):=
 ⟨DR (i:=i) (hN:=hN) (hv:=hv) (hd:=hd) (hcd:=hcd)⟩
theorem ak {X:Cx}{i:Int}{j:Nat}{pos:Pos}:QE X (Mg (Const.int i) j pos) (cn (T.int i)):=
 ⟨D5 ⟩
theorem fI {X:Cx}{i:Bool}{j:Nat}{pos:Pos}:QE X (Mg (Const.bool i) j pos) (cn (T.bl i)):=
 ⟨q_bl ⟩
theorem kK {X:Cx}{j:Nat}{pos:Pos}:QE X (Mg Const.none j pos) (cn T.non):=
 ⟨DZ ⟩
theorem bj {X:Cx}{i:Str}{j:Nat}{pos:Pos}:QE X (Mg (Const.str i) j pos) (cn (T.str i)):=
 ⟨DV ⟩
theorem xY {X:Cx}{x:Str}{i:Int}{u:GZ}{pos:Pos}(hm:Cx.mg X x=some u)(r:L2.RelV (V.int i) u)(hg:autoParam (Gl X x) u_)(hd:autoParam ((x == Hi "__debug__")=false) s_):QE X (IZ x pos) (cn (T.int i)):=
 ⟨BH (hm:=hm) (r:=r) (hg:=hg) (hd:=hd)⟩
theorem ag {X:Cx}:QA X [] ai:=
 ⟨BG ⟩
theorem ah {X:Cx}{e:Expr}{es:List Expr}{f:En->Rs T}{g:En->Rs (List T)}(he:QE X e f)(hr:QA X es g)(hn:autoParam (cP e=true) u_):QA X (e::es) (ae f g):=
 ⟨qa_c (he:=he.h) (hr:=hr.h) (hn:=hn)⟩
theorem bz {X:Cx}{es:List Expr}{x1:Nat}{pos:Pos}{f:En->Rs (List T)}(h:QA X es f):QE X (Expr.Tuple es x1 pos) (br f):=
 ⟨DU (h:=h.h)⟩
theorem iJ {X:Cx}{es:List Expr}{pos:Pos}{f:En->Rs (List T)}(h:QA X es f):QE X (Expr.List es pos) (gU f):=
 ⟨D1 (h:=h.h)⟩
theorem ar {X:Cx}{a b:Expr}{fa fb:En->Rs T}{pos:Pos}{op:Operator}{g:T->T->Rs T}(ho:OpT X (Jo op) g)(ha:QE X a fa)(hb:QE X b fb):QE X (Expr.BinOp a op b pos) (o2 g fa fb):=
 ⟨D8 (ho:=ho) (ha:=ha.h) (hb:=hb.h)⟩
theorem kL {X:Cx}{a b:Expr}{fa fb:En->Rs T}{pos:Pos}{op:O0}{g:T->T->Rs T}(ho:OpT X (Iw op) g)(ha:QE X a fa)(hb:QE X b fb)(hm:autoParam (Js op b=false) u_):QE X (Ol a [op] [b] pos) (o2 g fa fb):=
 ⟨D7 (ho:=ho) (ha:=ha.h) (hb:=hb.h) (hm:=hm)⟩
theorem iI {X:Cx}{a:Expr}{fa:En->Rs T}{pos:Pos}(ha:QE X a fa):QE X (Om UnaryOp.USub a pos) (o1 gz fa):=
 ⟨D0 (ha:=ha.h)⟩
theorem oK {X:Cx}{a b c:Expr}{fa fb fc:En->Rs T}{pos:Pos}{op op':O0}{g g':T->T->Rs T}(ho:OpT X (Iw op) g)(ho':OpT X (Iw op') g')(ha:QE X a fa)(hb:QE X b fb)(hc:QE X c fc)(hm:autoParam (lastMarks [op,op'] [b,c] =false) w_):QE X (Ol a [op,op'] [b,c] pos) (ch g g' fa fb fc):=
 ⟨yG (ho:=ho) (ho':=ho') (ha:=ha.h) (hb:=hb.h) (hc:=hc.h) (hm:=hm)⟩
theorem dZ {X:Cx}{e:Expr}{f:En->Rs T}(h:QE X e f)(he:autoParam (∀(whole:Sem GZ),PySem.isTrue e (Cx.env X) whole=(do let v <-whole;standAt (Expr.pos e);holding [v] (truthy v))) t_):QT X e (tb f):=
 ⟨Bt (h:=h.h) (he:=he)⟩
theorem dE {X:Cx}{a b:Expr}{fa fb:En->Rs T}{pos:Pos}{op:O0}{g:T->T->Rs T}(ho:OpT X (Iw op) g)(ha:QE X a fa)(hb:QE X b fb)(hm:autoParam (Js op b=false) u_):QT X (Ol a [op] [b] pos) (tb (o2 g fa fb)):=
 ⟨Bv (ho:=ho) (ha:=ha.h) (hb:=hb.h) (hm:=hm)⟩
theorem i8 {X:Cx}{a:Expr}{pos:Pos}{f:En->Rs Bool}(ha:QT X a f):QW X (Kk MI [a] pos) f:=
 ⟨Bs (ha:=ha.h)⟩
theorem kJ {X:Cx}{a b:Expr}{pos:Pos}{f g:En->Rs Bool}{a9:List Expr}(ha:QT X a f)(hb:QW X (Kk MI (b::a9) pos) g):QW X (Kk MI (a::b::a9) pos) (kn f g):=
 ⟨DO (ha:=ha.h) (hb:=hb.h)⟩
theorem oJ {X:Cx}{f:En->Rs Bool}{e:Expr}(h:QW X e f):QT X e f:=
 ⟨qt_w (h:=h.h)⟩
theorem d6 {X:Cx}{a:Expr}{pos:Pos}{f:En->Rs Bool}(ha:QT X a f):QT X (Om UnaryOp.Not a pos) (dj f):=
 ⟨Bu (ha:=ha.h)⟩
theorem dF {X:Cx}{a:Expr}{fa:En->Rs T}{pos:Pos}{op:BoolOp}(h:QE X a fa):QE X (Kk op [a] pos) fa:=
 ⟨DX (h:=h.h)⟩
theorem df {X:Cx}{a b:Expr}{fa fb:En->Rs T}{pos:Pos}{a9:List Expr}(ha:QE X a fa)(hb:QE X (Kk BoolOp.And (b::a9) pos) fb):QE X (Kk BoolOp.And (a::b::a9) pos) (bL fa fb):=
 ⟨D9 (ha:=ha.h) (hb:=hb.h)⟩
theorem C8 {X:Cx}{a b:Expr}{fa fb:En->Rs T}{pos:Pos}{a9:List Expr}(ha:QE X a fa)(hb:QE X (Kk MI (b::a9) pos) fb):QE X (Kk MI (a::b::a9) pos) (Eh fa fb):=
 ⟨q_or (ha:=ha.h) (hb:=hb.h)⟩
theorem A0 {X:Cx}{a:Expr}{fa:En->Rs T}{pos:Pos}(ha:QE X a fa):QE X (Om UnaryOp.Not a pos) (o1 zc fa):=
 ⟨DY (ha:=ha.h)⟩
theorem Dd {X:Cx}{a b c:Expr}{fa fb:En->Rs T}{pos:Pos}{f:En->Rs Bool}(hc:QT X c f)(ha:QE X a fa)(hb:QE X b fb):QE X (Expr.IfExp c a b pos) (Cq f fa fb):=
 ⟨q_if (hc:=hc.h) (ha:=ha.h) (hb:=hb.h)⟩
theorem bc {X:Cx}{a b:Expr}{fa fb:En->Rs T}{pos:Pos}(ha:QE X a fa)(hb:QE X b fb)(hs:autoParam (sY b) x_):QE X (M7 a b pos) (o2 bY fa fb):=
 ⟨q_ix (ha:=ha.h) (hb:=hb.h) (hs:=hs)⟩
theorem cy {X:Cx}:QO X none pN:=
 ⟨yy ⟩
theorem cx {X:Cx}{a:Expr}{fa:En->Rs T}(ha:QE X a fa):QO X (some a) (pS fa):=
 ⟨yx (ha:=ha.h)⟩
theorem d9 {X:Cx}{a:Expr}{fa:En->Rs T}{pos:Pos}{lo hi:Option Expr}{p2:Pos}{fl fu:En->Rs (Option Int)}(ha:QE X a fa)(hl:QO X lo fl)(hu:QO X hi fu):QE X (M7 a (Expr.Slice lo hi none p2) pos) (sl fa fl fu):=
 ⟨yF (ha:=ha.h) (hl:=hl.h) (hu:=hu.h)⟩
theorem cN {X:Cx}{e:Expr}{es:List Expr}{fs:En->Rs (List T)}{pos p:Pos}{x:Str}{id:String}{g:List T->Rs T}(hc:CallT X (Kf id) g)(hm:Cx.mg X x=none)(hv:HA x=some (Kf id))(ha:QA X (e::es) fs)(hn:autoParam (a0 (e::es)=true) u_)(hg:autoParam (Gl X x) u_)(h1:autoParam (x≠Hi "__name__") s_)(h2:autoParam ((x == Hi "__debug__")=false) s_):QE X (K0 (IZ x p) (e::es) [] pos) (cl g fs):=
 ⟨q_cB (hc:=hc) (hm:=hm) (hv:=hv) (ha:=ha.h) (hn:=hn) (hg:=hg) (h1:=h1) (h2:=h2)⟩
theorem gq {X:Cx}{e:Expr}{es:List Expr}{fs:En->Rs (List T)}{pos p:Pos}{x:Str}{Ty:String}{g:List T->Rs T}(hc:CallT X (J0 Ty) g)(hm:Cx.mg X x=none)(hv:HA x=some (J0 Ty))(ha:QA X (e::es) fs)(hn:autoParam (a0 (e::es)=true) u_)(hg:autoParam (Gl X x) u_)(h1:autoParam (x≠Hi "__name__") s_)(h2:autoParam ((x == Hi "__debug__")=false) s_):QE X (K0 (IZ x p) (e::es) [] pos) (cl g fs):=
 ⟨q_cT (hc:=hc) (hm:=hm) (hv:=hv) (ha:=ha.h) (hn:=hn) (hg:=hg) (h1:=h1) (h2:=h2)⟩
theorem zq_c {X:Cx}{e:Expr}{es:List Expr}{fs:En->Rs (List T)}{pos p:Pos}{x:Str}{n k:Nat}{f:Addr}{fd:Ib}{ps:List Str}{g:List T->Rs T}(F:C6 (Cx.prog X) (Cx.w X) (Cx.K X) (Cx.mg X) (Cx.base X) k f fd ps n g)(hr:Room k (Cx.A X))(hm:Cx.mg X x=some (HD f))(hk:W.keepIn (Cx.K X) (HD f)=true)(hb:L2.Binds (Cx.K X) fd ps [])(hl:∀(ρ:En) (ts:List T),fs ρ=Rs.ok ts->Jc ts=n)(ha:QA X (e::es) fs)(hps:autoParam (Jc ps=n) u_)(hn:autoParam (a0 (e::es)=true) u_)(hg:autoParam (Gl X x) u_)(h2:autoParam ((x == Hi "__debug__")=false) s_):QE X (K0 (IZ x p) (e::es) [] pos) (cl g fs):=
 ⟨q_c (F:=F) (hr:=hr) (hm:=hm) (hk:=hk) (hb:=hb) (hl:=hl) (ha:=ha.h) (hps:=hps) (hn:=hn) (hg:=hg) (h2:=h2)⟩
theorem rC {X:Cx}{a:Expr}{fa:En->Rs T}{pos p p2:Pos}{tn:Str}{Ty:String}(hm:Cx.mg X (Hi "isinstance")=none)(hmt:Cx.mg X tn=none)(hv:HA tn=some (J0 Ty))(ha:QE X a fa)(hn:autoParam (cP a=true) u_)(hg:autoParam (Gl X (Hi "isinstance")) u_)(hgt:autoParam (Gl X tn) u_)(h1:autoParam (tn≠Hi "__name__") s_)(h2:autoParam ((tn == Hi "__debug__")=false) s_):QE X (K0 (IZ (Hi "isinstance") p) [a,IZ tn p2] [] pos) (o1 (xU Ty) fa):=
 ⟨q_is (hm:=hm) (hmt:=hmt) (hv:=hv) (ha:=ha.h) (hn:=hn) (hg:=hg) (hgt:=hgt) (h1:=h1) (h2:=h2)⟩
theorem aq {X:Cx}{pos:Pos}{x:Str}(i:Nat)(hN:Lf (Cx.N X))(hi:autoParam ((Cx.N X)[i]? =some x) u_)(hx:autoParam (L2.Loc (Ll (Cx.env X)) x) y_)(hf:autoParam (Cx.fn X x=true\/Lj x (OW (Ll (Cx.env X)))=some NameKind.local) r_):QG X (IZ x pos) (gN i):=
 ⟨yD (i:=i) (hN:=hN) (hi:=hi) (hx:=hx) (hf:=hf)⟩
theorem gB {X:Cx}:FE X [] ug:=
 ⟨yC ⟩
theorem b8 {X:Cx}{e:Expr}{es:List Expr}{g:T->En->Rs En}{gs:List T->En->Rs En}(h1:QG X e g)(h2:FE X es gs)(hs:autoParam (List.map (λx=>Prod.snd x) (ID (e::es) (Cx.env X))=assign e (Cx.env X)::List.map (λx=>Prod.snd x) (ID es (Cx.env X))) u_):FE X (e::es) (kx g gs):=
 ⟨vG (h1:=h1.h) (h2:=h2.h) (hs:=hs)⟩
theorem jb {X:Cx}{es:List Expr}{pos:Pos}{k n:Nat}{gs:List T->En->Rs En}(hc:Cx.calm X=true)(h:FE X es gs)(hn:autoParam (Jc (ID es (Cx.env X))=n) u_)(hst:autoParam (List.findIdx? (λx=>Prod.fst x) (ID es (Cx.env X))=none) u_):QG X (Expr.Tuple es k pos) (gT n gs):=
 ⟨BF (hc:=hc) (h:=h.h) (hn:=hn) (hst:=hst)⟩
theorem cp {X:Cx}{a:Expr}{fs:En->Rs (List T)}{pos p:Pos}{tg:Expr}(hm:Cx.mg X (Hi "range")=none)(ha:QA X [a] fs)(hg:autoParam (Gl X (Hi "range")) u_)(hs:autoParam (Hj [a] (Cx.env X)= [(false,eval a (Cx.env X))]) u_):QI X tg (K0 (IZ (Hi "range") p) [a] [] pos) (iR fs):=
 ⟨tJ (hm:=hm) (ha:=ha.h) (hg:=hg) (hs:=hs)⟩
theorem b7 {X:Cx}:C5 X [] bT:=
 ⟨yA ⟩
theorem uG {X:Cx}{c:Expr}{f:En->Rs Bool}(h:QT X c f):C5 X [c] f:=
 ⟨yz (h:=h.h)⟩
theorem C9 {X:Cx}{pos:Pos}{elt tg iter:Expr}{ifs:List Expr}{scope:J8}{N':List Str}{src:List (Option Nat)}{fi:En->Rs (List T)}{tgt:T->En->Rs En}{fc:En->Rs Bool}{fe:En->Rs T}(hc:Cx.calm X=true)(S:LcScope X scope N' src)(hi:QI X tg iter fi)(block:∀(cl:List (Str×Addr)) (C:Addr) (s₀:GX) (H₀:Hp) (fp:List Addr),QG (aY X scope cl N' C s₀ H₀ fp) tg tgt/\C5 (aY X scope cl N' C s₀ H₀ fp) ifs fc/\QE (aY X scope cl N' C s₀ H₀ fp) elt fe)(hs:autoParam (∀(x:GZ),Hw iter (Cx.env X) x=pure x) t_):QE X (Lb elt [{ target:=tg,iter:=iter,ifs:=ifs,is_async:=0 }] scope pos) (fz fi src tgt fc fe):=
 ⟨q_lc (hc:=hc) (S:=S) (hi:=hi.h) (block:=λa1 a2 a3 a4 a5=>⟨(block a1 a2 a3 a4 a5).1.h,(block a1 a2 a3 a4 a5).2.1.h,(block a1 a2 a3 a4 a5).2.2.h⟩) (hs:=hs)⟩
theorem bH {X:Cx}:xK X [] sN:=
 ⟨By ⟩
theorem aA {X:Cx}{st:Stmt}{a9:List Stmt}{F G:En->Rs Fl}(h1:QS X st F)(h2:xK X a9 G):xK X (st::a9) (aI F G):=
 ⟨yw (h1:=h1.h) (h2:=h2.h)⟩
theorem ax {X:Cx}{st:Stmt}{F:En->Rs Fl}(h:QS X st F):xK X [st] F:=
 ⟨Bx (h:=h.h)⟩
theorem aE {X:Cx}{a:Expr}{fa:En->Rs T}{pos:Pos}(ha:QE X a fa):QS X (Stmt.Return (some a) pos) (aL fa):=
 ⟨Bw (ha:=ha.h)⟩
theorem dQ {X:Cx}{c:Expr}{pos:Pos}{f:En->Rs Bool}{A B:List Stmt}{F G:En->Rs Fl}(hc:QT X c f)(ha:xK X A F)(hb:xK X B G):QS X (Stmt.If c A B pos) (ei f F G):=
 ⟨DQ (hc:=hc.h) (ha:=ha.h) (hb:=hb.h)⟩
theorem qm {X:Cx}{pos:Pos}{elt tg iter:Expr}{ifs:List Expr}{scope:J8}{spos py:Pos}{N':List Str}{src:List (Option Nat)}{fi:En->Rs (List T)}{tgt:T->En->Rs En}{fc:En->Rs Bool}{fe:En->Rs T}(i:Nat){y:Str}(hc:Cx.calm X=true)(S:LcScope X scope N' src)(hi:QI X tg iter fi)(block:∀(cl:List (Str×Addr)) (C:Addr) (s₀:GX) (H₀:Hp) (fp:List Addr),QG (aY X scope cl N' C s₀ H₀ fp) tg tgt/\C5 (aY X scope cl N' C s₀ H₀ fp) ifs fc/\QE (aY X scope cl N' C s₀ H₀ fp) elt fe)(hN:Lf (Cx.N X))(hiy:autoParam ((Cx.N X)[i]? =some y) u_)(hy:autoParam (L2.Loc (Ll (Cx.env X)) y) y_)(hsw:autoParam (Kj (Lb elt [{ target:=tg,iter:=iter,ifs:=ifs,is_async:=0 }] scope pos) (some (IZ y py)) (NA spos) (Cx.env X)=pure true) u_)(hf:autoParam (Cx.fn X y=true\/Lj y (OW (Ll (Cx.env X)))=some NameKind.local) r_)(hs:autoParam (∀(x:GZ),Hw iter (Cx.env X) x=pure x) t_):QS X (OY [IZ y py] (Lb elt [{ target:=tg,iter:=iter,ifs:=ifs,is_async:=0 }] scope pos) spos) (c6 (fz fi src tgt fc fe) (gN i)):=
 ⟨DP (i:=i) (hc:=hc) (S:=S) (hi:=hi.h) (block:=λa1 a2 a3 a4 a5=>⟨(block a1 a2 a3 a4 a5).1.h,(block a1 a2 a3 a4 a5).2.1.h,(block a1 a2 a3 a4 a5).2.2.h⟩) (hN:=hN) (hiy:=hiy) (hy:=hy) (hsw:=hsw) (hf:=hf) (hs:=hs)⟩
theorem aO {X:Cx}{a:Expr}{fa:En->Rs T}{pos:Pos}{tg:Expr}{g:T->En->Rs En}(ha:QE X a fa)(hg:QG X tg g)(hs:autoParam (KD [tg] a (NA pos) (Cx.env X)=pure false) u_)(hw:autoParam (KF [tg] a (Cx.env X)=pure none) u_)(h1:autoParam (List.map (λx=>Prod.snd x) (ID [tg] (Cx.env X))= [assign tg (Cx.env X)]) u_):QS X (OY [tg] a pos) (c6 fa g):=
 ⟨BC (ha:=ha.h) (hg:=hg.h) (hs:=hs) (hw:=hw) (h1:=h1)⟩
theorem i9 {X:Cx}{a:Expr}{fa:En->Rs T}{pos:Pos}(ha:QE X a fa)(hs:autoParam (Kj a none (NA pos) (Cx.env X)=pure false) u_):QS X (Stmt.Expr a pos) (vz fa):=
 ⟨yv (ha:=ha.h) (hs:=hs)⟩
theorem g9 {X:Cx}{pos:Pos}{tg iter:Expr}{body:List Stmt}{fi:En->Rs (List T)}{g:T->En->Rs En}{F:En->Rs Fl}(hc:Cx.calm X=true)(hi:QI X tg iter fi)(hg:QG (Cx.nox X) tg g)(hb:xK (Cx.nox X) body F)(hs:autoParam (∀(x:GZ),Hw iter (Cx.env X) x=pure x) t_):QS X (Stmt.For tg iter body [] pos) (gy fi g F):=
 ⟨Bz (hc:=hc) (hi:=hi.h) (hg:=hg.h) (hb:=hb.h) (hs:=hs)⟩
theorem d7 {X:Cx}{a:Expr}{fa:En->Rs T}{tg:Expr}(ha:QE X a fa):QI X tg a (iS fa):=
 ⟨BE (ha:=ha.h)⟩
theorem ja {X:Cx}{a:Expr}{fs:En->Rs (List T)}{p pos:Pos}{elts:List Expr}{kk:Nat}{tpos:Pos}(hm:Cx.mg X (Hi "enumerate")=none)(ha:QA X [a] fs)(hg:autoParam (Gl X (Hi "enumerate")) u_)(hs:autoParam (Hj [a] (Cx.env X)= [(false,eval a (Cx.env X))]) u_):QI X (Expr.Tuple elts kk tpos) (K0 (IZ (Hi "enumerate") p) [a] [] pos) (iE fs):=
 ⟨yB (hm:=hm) (ha:=ha.h) (hg:=hg) (hs:=hs)⟩
theorem uF {X:Cx}{es:List Expr}{pos p2 p3:Pos}{x:Str}(i:Nat){f:En->Rs (List T)}(hN:Lf (Cx.N X))(ha:QA X es f)(hi:autoParam ((Cx.N X)[i]? =some x) u_)(hx:autoParam (L2.Loc (Ll (Cx.env X)) x) y_)(hs:autoParam (Kj (Expr.List es p2) (some (IZ x p3)) (NA pos) (Cx.env X)=pure false) u_)(hf:autoParam (Cx.fn X x=true\/Lj x (OW (Ll (Cx.env X)))=some NameKind.local) r_):QS X (OY [IZ x p3] (Expr.List es p2) pos) (kX i f):=
 ⟨yu (i:=i) (hN:=hN) (ha:=ha.h) (hi:=hi) (hx:=hx) (hs:=hs) (hf:=hf)⟩
theorem xW {X:Cx}{a:Expr}{fa:En->Rs T}{pos p2:Pos}{x:Str}(i:Nat){apos cpos:Pos}(ha:QE X a fa)(hN:autoParam ((Cx.N X)[i]? =some x) u_)(hv:autoParam (rz (Ll (Cx.env X)) x) v_)(hn:autoParam (cP a=true) u_)(hbase:autoParam (Jg (IZ x p2) (Hi "extend") (Cx.env X) (eval (IZ x p2) (Cx.env X))=eval (IZ x p2) (Cx.env X)) u_)(hline:autoParam ((Pos.endLine apos == NA cpos)=true) u_)(hd:autoParam ((x == Hi "__debug__")=false) s_)(hcd:autoParam ((x == Hi "__classdict__")=false) s_)(hsw:autoParam (Kj (K0 (Expr.Attribute (IZ x p2) (Hi "extend") apos) [a] [] cpos) none (NA pos) (Cx.env X)=pure false) u_):QS X (Stmt.Expr (K0 (Expr.Attribute (IZ x p2) (Hi "extend") apos) [a] [] cpos) pos) (qB i fa):=
 ⟨BA (i:=i) (ha:=ha.h) (hN:=hN) (hv:=hv) (hn:=hn) (hbase:=hbase) (hline:=hline) (hd:=hd) (hcd:=hcd) (hsw:=hsw)⟩
theorem xX {X:Cx}(i:Nat){st:Stmt}{F:En->Rs Fl}(h:QS X st F):QS X st (Bj i F):=
 ⟨BB (i:=i) (h:=h.h)⟩
theorem fH {X:Cx}{c:Str}{msg:Str}{C:Addr}{bm:List GZ}{np p1 cpos pos:Pos}{j:Nat}(O:OX X.K C bm)(hm:X.mg c=some (.ref C))(hc:autoParam (X.calm=true) u_)(hg:autoParam (Gl X c) u_)(hd:autoParam ((c == ("__debug__" : Str))=false) s_) :
  QS X (.Raise (some (.Call (.Name c np) [.Constant (.str msg) j p1] [] cpos)) none pos) (pe c):=⟨vF O.own hc hm hg hd⟩
theorem x9 {P:Hr}{w:HS}{K:GW}{mg:Str->Option GZ}{base:Heap}{x qual:Str}{st:Stmt}{f:Addr}{fd:Ib}{N ps:List Str}{k n:Nat}{F:En->Rs Fl}(Fn:L2.Fun K x qual st f fd)(S:bM N ps (ao st))(hn:ps.length=n)
  (hbody:∀(cdv:GZ) (A:HF) (outer:List Env) (s:GX) (H:Hp) (E:XK),Room k (A.deeper (envOfC qual (ao st) s.heap.objs.size f cdv)) →
   ∀xe,xK ((eR CX0 P w K mg base N qual (ao st) f cdv A outer s H E).FJ xe) (bq st) F):C6 P w K mg base (k+1) f fd ps n (val n N.length F):=Cy Fn S hn λcdv A outer s H E hr xe=>(hbody cdv A outer s H E hr xe).h
theorem uH {X:Cx}{a b:Expr}{fa fb:En->Rs T}{pos:Pos}(hu:Around.units (Cx.A X)+1<cLine)(ha:QE X a fa)(hb:QE X b fb)(hs:autoParam (Ah b) x_):QE X (M7 a b pos) (o2 mr fa fb):=
 ⟨D6 (hu:=hu) (ha:=ha.h) (hb:=hb.h) (hs:=hs)⟩
end Tr
namespace Tr
open PySem PySem.Spec PyProof.Rows L2 PySem.W
theorem xc (h:Heap):(pR h).In h:=by
 have key:∀(l:List Nat) (a:Addr) (o:Obj),(l.filterMap λa=>(h.get? a).map λo=>(a,o)).lookup a=some o->h.get? a=some o:=by
  intro l
  induction l with
  | nil=>intro a o e;cases e
  | cons b r ih=>
   intro a o e
   cases hb:h.get? b with
   | none=>rw[List.filterMap_cons_none (by rw[hb];rfl)]at e;exact ih a o e
   | some ob=>
    rw[List.filterMap_cons_some (b:=(b,ob)) (by rw[hb];rfl),IA]at e
    cases q:a == b with
    | true=>rw[q]at e;cases e;rw[eq_of_beq q];exact hb
    | false=>rw[q]at e;exact ih a o e
 exact λa o e=>key _ a o e
theorem AN {K:Frag}{n:Str}{st:Stmt}(e:obF K n=exF n st):∃f fd,nsIn K HL n=some (some (.ref f))/\L2.Fun K n n st f fd:=by
 unfold obF at e
 split at e
 ·rename_i f hf
  split at e
  ·rename_i oc od d sl hl
   cases d;unfold exF at e;simp only[Ir.injEq,N4.injEq]at e;obtain⟨h1,h2,h3,h4,h5,h6,h7,h8,h9,h10,h11⟩:=e;subst h1 h2 h3 h4 h5 h6 h7 h8 h9;exact⟨f,_,hf,Cu hl h10 h11⟩
  ·cases e
 ·cases e
theorem lj {K:Frag}{N:Addr}{n:Str}(e:Eo K N n=true):nsIn K N n=some none:=by
 unfold Eo at e
 split at e
 ·assumption
 ·cases e
theorem B5 {K:Frag}{n:Str}{i:Int}(e:FA K n=some i):∃t,nsIn K HL n=some (some (.int i t)):=by
 unfold FA at e
 split at e
 ·rename_i i' t h;cases e;exact⟨t,h⟩
 ·cases e
theorem kQ:∀{l:List GZ},rK l=true->l=lQ:=by
 intro l e;unfold rK at e
 split at e
 ·simp only[G6,beq_iff_eq]at e
  obtain⟨⟨⟨h1,h2⟩,h3⟩,h4⟩:=e;subst h1 h2 h3 h4;rfl
 ·cases e
theorem gH {K:Frag}{D:Option Addr}{n:Str}{C:Addr}(e:y4 K D n=some C):nsIn K HL n=some (some (.ref C)) ∧
  ∃nm q N bs bm hd sn su ab co dd k0 k1 k2 k3 k5,under D bm=true/\K.lookup C=some (IT nm q C N bs bm hd sn su ab co dd k0 k1 k2 k3 k5 "ValueError.__new__")/\∀h:Heap,K.In h->∃mN,h.Ns N mN/\∀n∈calmNames,mN n=none:=by
 unfold y4 at e
 split at e
 ·rename_i C' hC
  split at e
  ·rename_i t dd c k0 k1 k2 k3 b k5 hl
   split at e
   ·rename_i E m ob oe es ep oz hm hN
    split at e
    ·rename_i hq
     cases e;simp only[G6,beq_iff_eq,N6]at hq;obtain⟨⟨⟨⟨⟨⟨h1,h2⟩,h3⟩,h4⟩,h5⟩,h6⟩,h7⟩:=hq
     have z:=HC.mp h5;refine⟨hC,c.name,c.qualname,c.ns,c.bases,m,c.hasDict,c.slotNames,c.subclasses,c.abstract,c.collection,dd,k0,k1,k2,k3,k5,h7,?_,Ep hN h4 (lj (z _ (.head _))) (lj (z _ (.tail _ (.head _)))) (lj (z _ (.tail _ (.tail _ (.head _))))) (lj (z _ (.tail _ (.tail _ (.tail _ (.head _))))))⟩
     rw[hl];cases c;simp only at hm h3;subst h1 h2 hm h3 h6
     rfl
    ·cases e
   ·cases e
  ·cases e
 ·cases e
theorem ox0 {K:Frag}{C:Addr}{n:Str}(e:y4 K none n=some C):OX K C lQ:=by
 obtain⟨_,_,_,_,_,_,_,_,_,_,_,_,_,_,_,_,_,hu,hl,hn⟩:=gH e;cases kQ hu;exact yX hl hn
theorem Fy {K:Frag}{C D:Addr}{n m:Str}(e:y4 K (some D) n=some C)(d:y4 K none m=some D):OX K C (.ref D::lQ):=by
 obtain⟨_,_,_,_,_,bm,_,_,_,_,_,_,_,_,_,_,_,hu,hl,hn⟩:=gH e;obtain⟨_,_,_,_,_,_,_,_,_,_,_,_,_,_,_,_,_,hu',hl',hn'⟩:=gH d;cases kQ hu';unfold under at hu;simp only at hu
 split at hu
 ·rw[G6]at hu
  cases eq_of_beq hu.1;cases kQ hu.2;exact v9 hl hn hl' hn'
 ·cases hu
theorem iq {α:Type}{o:Option α}{r:List (Option α)}{l:List α}(e:ro (o::r)=some l):∃a l',o=some a/\l=a::l'/\ro r=some l':=by
 cases o with
 | none=>cases e
 | some a=>
  unfold ro at e
  split at e
  ·rename_i l' h;cases e;exact⟨a,l',rfl,rfl,h⟩
  ·cases e
theorem xI {α:Type}{l:List α}(e:ro ([]:List (Option α))=some l):l= []:=by cases e;rfl
theorem mK:∀{l:List Addr},n4 l=true->l.Nodup
 | [],_=> .nil
 | a::r,h=>by
  unfold n4 at h;rw[G6]at h;refine IH.mpr ⟨λhm=> ?_,mK h.2⟩
  have:=HC.mp h.1 a hm
  simp at this
theorem B4 {K:Frag}{m:Str}{es:List Str}(e:Fz K (m::es)=true):∃D l,y4 K none m=some D/\ro (es.map (y4 K (some D)))=some l/\(l++ [D]).Nodup:=by
 rw[Fz]at e
 split at e
 ·rename_i D hD
  split at e
  ·rename_i l hl;exact⟨D,l,hD,hl,mK e⟩
  ·cases e
 ·cases e
section
variable {S:uC}{top:Nat->Stmt}{K:Frag}{h:Heap}{mg:Str->Option GZ}
theorem n6 {α β:Type}{f g:α->β}:∀{l:List α} (j:Nat) {a:α},l.map f=l.map g->l[j]? =some a->f a=g a
 | [],_,_,_,q=>by cases q
 | b::l,0,a,e,q=>by cases q;exact(L4.inj e).1
 | b::l,j+1,a,e,q=>n6 (l:=l) j (L4.inj e).2 q
theorem EF (j:Nat){n:Str}{i:Nat}{ps:List Str}(X:K.In h)(G:h.Ns HL mg)(e:nZ S K=nz S top)(q:S.tab[j]? =some (n,i))
  (hb:∀(kV doc pm:GZ) (an:Option Addr) (cdv ct:GZ) (us:List GZ),us.length=ps.length->NI (fnOf n n (eQ (top i)) (bq (top i)) (ao (top i)) .none kV doc pm an cdv ct) ⟨us,[]⟩=pure (ps.zip us)) :
  ∃f fd,Fn K mg n (top i) ps f fd:=by
 obtain⟨f,fd,h1,h2⟩:=AN (n6 j (congrArg (·.1) e) q)
 exact⟨f,fd,h2,h2.binds hb,mg_of X G h1⟩
theorem EB (j:Nat){n:Str}{i:Nat}{x:Str}{fa:Addr}(X:K.In h)(G:h.Ns HL mg)(e:nZ S K=nz S top)(q:S.tab[j]? =some (n,i))(hfa:mg n=some (.ref fa))
  (hb:∀(kV doc pm:GZ) (an:Option Addr) (cdv ct u:GZ),NI (fnOf n n (eQ (top i)) (bq (top i)) (ao (top i)) .none kV doc pm an cdv ct) ⟨[u],[]⟩=pure [(x,u)]) :
  ∃fd,Fn K mg n (top i) [x] fa fd/\∀(s:GX) (u:GZ),Mj s fd ⟨[u],[]⟩ [(x,u)]:=by
 obtain⟨f,fd,h1,h2⟩:=AN (n6 j (congrArg (·.1) e) q)
 have z:=hfa.symm.trans (mg_of X G h1);cases z
 have hh:=h2;obtain⟨oc,od,kV,doc,pm,an,cdv,ct,osl,rfl,lk,hcd⟩:=hh.ex;exact⟨_,⟨h2,.all λus hl=>match us,hl with | [u],_=>hb kV doc pm an cdv ct u,mg_of X G h1⟩,λs u=> .of_eq (hb kV doc pm an cdv ct u)⟩
theorem dW (j:Nat){n:Str}(X:K.In h)(G:h.Ns HL mg)(e:nZ S K=nz S top)(q:S.zs[j]? =some n):mg n=none:=
 mg_none_of X G (lj (HC.mp (congrArg (·.2.1) e:S.zs.all (Eo K HL)=true) n (Jr q)))
theorem lC (j:Nat){n:Str}{i:Int}(X:K.In h)(G:h.Ns HL mg)(e:nZ S K=nz S top)(q:S.cs[j]? =some (n,i)):∃t,mg n=some (.int i t):=by
 obtain⟨t,ht⟩:=B5 (n6 (f:=λc=>FA K c.1) (g:=λc=>some c.2) j (congrArg (·.2.2.1) e) q)
 exact⟨t,mg_of X G ht⟩
theorem EH (e:nZ S K=nz S top):Fz K S.es=true:=congrArg (·.2.2.2) e
end
theorem left_of {p q:Hr}{loose:List Str}{Xt:GX->Bool}{α:Type}{Yf:GX->α}{Ya:HS->α}{N:Nat}{g0:Bool}
  (e:opening p=plainProg p.main.scope.names) (hN:Nat.ble 600 N=true) (f:∀s,fenceModules? p s=some s)
  (h:∀(w:HS) (os:KQ),(topFrom MP p w N ⟨boot_heap w.params,⟨[]⟩,boot_drawn,boot_toks,os⟩).map (λs=>(openSeen q loose (MQ p.main.body) Xt g0 s,Yf s))=some (openGood q loose,Ya w)) :
  LeftO p q loose Xt Yf Ya N g0:=λw=>by
 obtain⟨⟨h0,gs,d,k,os⟩,e1,e2⟩:=Mv.mp (boot_open e hN f w);simp only[N4.injEq]at e2;obtain⟨rfl,rfl,rfl,rfl⟩:=e2;unfold openEnds;rw[e1];exact h w os
structure Cl (P:Hr)(w:HS)(K:Frag)(mg:Str->Option GZ)(base:Heap)(k:Nat)(x:Str)(n:Nat)(m:List T->Rs T):Prop where
 ex:∃f fd ps,mg x=some (.ref f)/\keepIn K (.ref f)=true/\Binds K fd ps []/\ps.length=n/\C6 P w K mg base k f fd ps n m
abbrev gA (K:Frag)(mg:Str->Option GZ)(x:Str)(st:Stmt)(ps:List Str):Prop:=∃f fd,Fn K mg x st ps f fd
section
variable {P:Hr}{w:HS}{K:Frag}{mg:Str->Option GZ}{base:Heap}{x:Str}{st:Stmt}{N ps:List Str}{k n:Nat}{F:En->Rs Fl}
theorem Fe (H:gA K mg x st ps)(S:bM N ps (ao st))(hn:ps.length=n)
  (hbody:∀(f:Addr) (cdv:GZ) (A:HF) (outer:List Env) (s:GX) (H:Hp) (E:XK),Room k (A.deeper (envOfC x (ao st) s.heap.objs.size f cdv)) →
   ∀xe,xK ((eR CX0 P w K mg base N x (ao st) f cdv A outer s H E).FJ xe) (bq st) F):Cl P w K mg base (k+1) x n (val n N.length F):=by
 obtain⟨f,fd,h⟩:=H;exact⟨f,fd,ps,h.mg,h.fn.kp,h.bd,hn,x9 h.fn S hn (hbody f)⟩
end
section
variable {X:Cx}{e:Expr}{es:List Expr}{fs:En->Rs (List T)}{pos p:Pos}{x:Str}{n k k':Nat}{g:List T->Rs T}
theorem aU (c:Cl X.prog X.w X.K X.mg X.base k x n g)(hr:Room k' X.A)(ha:QA X (e::es) fs)(hk:autoParam (k<=k') s_)(hl:∀(ρ:En) (ts:List T),fs ρ= .ok ts->ts.length=n:=by repeat first | exact AW | refine AV ?_)
  (hn:autoParam (a0 (e::es)=true) u_) (hg:autoParam (Gl X x) u_) (h2:autoParam ((x == Hi "__debug__")=false) s_):QE X (.Call (.Name x p) (e::es) [] pos) (cl g fs):=by
 obtain⟨f,fd,ps,h1,h3,h4,h5,h6⟩:=c.ex;exact zq_c h6 (hr.mono hk) h1 h3 h4 hl ha h5 hn hg h2
theorem lZ {i:Int}(h:∃t,X.mg x=some (.int i t))(hg:autoParam (Gl X x) u_)(hd:autoParam ((x == Hi "__debug__")=false) s_):QE X (.Name x pos) (cn (.int i)):=by
 obtain⟨t,h⟩:=h;exact xY h ⟨_,rfl⟩ hg hd
end
def hookC (S:qk)(top:Nat->Stmt):Hook:=
 ⟨_,λs=>wj S (pR s.heap),λ_=>uV S top,λ_ h=> ∃K:Frag,K.In h/\wj S K=uV S top,λ_ s e=>⟨_,xc s.heap,e⟩,λ_ _ _ ⟨K,a,b⟩ k=>⟨K,a.keeps k,b⟩⟩
end Tr
namespace Tr
open PySem PySem.Spec PyProof.Rows L2
theorem rE {X:Cx}{a b:Expr}{fs:En->Rs (List T)}{p p1 p2 pos:Pos}(hu:X.A.units+8<cLine)(hc:X.calm=true)(hm:X.mg "dict" =none)(hmz:X.mg "zip" =none)(ha:QA X [a,b] fs)(hst:autoParam (a0 [a,b] =true) u_)(hg:autoParam (Gl X "dict") u_)(hgz:autoParam (Gl X "zip") u_) :
  QE X (.Call (.Name "dict" p) [.Call (.Name "zip" p1) [a,b] [] p2] [] pos) (cl C4 fs):=⟨BI hu hc hm hmz ha.h hst hg hgz⟩
theorem fsc {N P:List Str}{sc:J8}(h1:autoParam (sc.kind= .function) u_)(h2:autoParam (sc.isCoroutine=false) u_)(h3:autoParam (sc.isGenerator=false) u_)(h4:autoParam (N.Nodup) z_)(h5:autoParam (N.take P.length=P) u_)
  (h6:autoParam (∀x∈P,sc.names.lookup x=some .local\/sc.names.lookup x=some .cell) z_) (h7:autoParam (∀y∈sc.names,y.2≠ .free) z_):bM N P sc:=⟨h1,h2,h3,h4,h5,h6,h7⟩
end Tr
namespace Tr
open PySem
def tbl (pl:List Nat)(L:Bool):SetTable:={ mask:=7,place:=pl.toArray,dummies:=#[],finger:=0,led:=L,moves:=0,plain:=true }
end Tr
namespace Tr
open PySem PySem.Spec PyProof.Rows L2
section
variable {P:Hr}{w:HS}{K:GW}{mg:Str->Option GZ}{base:Heap}{x:Str}{st:Stmt}{ps:List Str}{k n:Nat}{F:En->Rs Fl}
theorem bf (N:List Str)(H:gA K mg x st ps)
  (hbody:N.Nodup->∀(f:Addr) (cdv:GZ) (A:HF) (outer:List Env) (s:GX) (H:Hp) (E:XK),Room k (A.deeper (envOfC x (ao st) s.heap.objs.size f cdv)) →
   ∀xe,xK ((eR CX0 P w K mg base N x (ao st) f cdv A outer s H E).FJ xe) (bq st) F) (S:autoParam (bM N ps (ao st)) a_) (hn:autoParam (ps.length=n) u_):Cl P w K mg base (k+1) x n (val n N.length F):=Fe H S hn (hbody S.nd)
end
theorem fw {X:Cx}{pos:Pos}{elt tg iter:Expr}{ifs:List Expr}{scope:J8}{src:List (Option Nat)}{fi:En->Rs (List T)}{tgt:T->En->Rs En}{fc:En->Rs Bool}{fe:En->Rs T}(N' N:List Str)(st:Stmt)(hi:QI X tg iter fi)
  (block:N'.Nodup->∀(cl:List (Str×Addr)) (C:Addr) (s₀:GX) (H₀:Hp) (fp:List Addr),QG (aY X scope cl N' C s₀ H₀ fp) tg tgt/\C5 (aY X scope cl N' C s₀ H₀ fp) ifs fc/\QE (aY X scope cl N' C s₀ H₀ fp) elt fe)
  (hc:autoParam (Cx.calm X=true) u_) (hN:autoParam (X.N=N) u_) (hm:autoParam (X.env.scope.names=(ao st).names) u_) (hk:autoParam (scope.kind= .function) u_) (h:autoParam (zh (ao st).names N scope.names N' src=true) z_) (nd:autoParam (N'.Nodup) z_) (hs:autoParam (∀(x:GZ),Hw iter (Cx.env X) x=pure x) t_) :
  QE X (Lb elt [{ target:=tg,iter:=iter,ifs:=ifs,is_async:=0 }] scope pos) (fz fi src tgt fc fe):=C9 hc (LcScope.by hN hm hk h) hi (block nd) hs
@[elab_as_elim] theorem AE {α:Type} {p:List α->Prop} (h:∀a,p [a]):∀us:List α,us.length=1->p us
 | [a],_=>h a
@[elab_as_elim] theorem Eu {α:Type} {p:List α->Prop} (h:∀a b,p [a,b]):∀us:List α,us.length=2->p us
 | [a,b],_=>h a b
@[elab_as_elim] theorem Et {α:Type} {p:List α->Prop} (h:∀a b c,p [a,b,c]):∀us:List α,us.length=3->p us
 | [a,b,c],_=>h a b c
section
variable {K:GW}{h:Heap}{mg:Str->Option GZ}{S:uC}{top:Nat->Stmt}
theorem dh (j:Nat){n:Str}{i:Nat}{ps:List Str}(X:K.In h)(G:h.Ns HL mg)(e:nZ S K=nz S top)(q:autoParam (S.tab[j]? =some (n,i)) u_)
  (hb:∀(kV doc pm:GZ) (an:Option Addr) (cdv ct:GZ) (us:List GZ),us.length=ps.length->NI (JS n n (eQ (top i)) (bq (top i)) (ao (top i)) .none kV doc pm an cdv ct) ⟨us,[]⟩=pure (ps.zip us):=by
   intro _ _ _ _ _ _ us hl;first | exact AE (λ_=>rfl) us hl | exact Eu (λ_ _=>rfl) us hl | exact Et (λ_ _ _=>rfl) us hl | exact len_0 rfl us hl) :
  ∃f fd,Fn K mg n (top i) ps f fd:=EF j X G e q hb
end
end Tr
namespace Tr
open PySem
def oS (g:List T->Rs T)(fa:En->Rs T)(fs:En->Rs (List T))(ρ:En):Rs T:=fa ρ >>= λx=>match x with
 | .str s=>fs ρ >>= λts=>g (.str s::ts)
 | _=> .bad
def fS:List T->Rs T
 | [.int i] =>if i.natAbs.log2<1920 then .ok (.str (Hi (toString i)))else .bad
 | _=> .bad
def fK:List T->Rs T
 | [.str a,.str b] =>if b.length≠0/\a.length<=1000000 then .ok (.tup [.str (Ie a b).1,.str (Ie a b).2.1,.str (Ie a b).2.2])else .bad
 | _=> .bad
def gF:List T->Rs T
 | [.str a,.str b] =>if b.length≠0/\a.length<=1000000/\(Ic a b).length<=1000000 then .ok (.lst ((Ic a b).map .str))else .bad
 | _=> .bad
def jn:List T->Option (List Str)
 | [] =>some []
 | .str s::l=>(jn l).map (s:: ·)
 | _=>none
def gP:List T->Rs T
 | [.str a,.lst l] =>match jn l with
  | some ss=>if JoinOk a ss=true then .ok (.str (Txt.join a ss))else .bad
  | none=> .bad
 | _=> .bad
end Tr
namespace Tr
open PySem PySem.Spec PyProof.Rows L2
section
variable {X:Cx}{a b:Expr}{fa:En->Rs T}{fs:En->Rs (List T)}{pos p apos cpos:Pos}
theorem jW:CallT X (.type "str") fS:=by
 intro pins s σ H O ts vs us Q I hf rs rv hp;unfold fS at hp
 split at hp
 ·split at hp
  ·rename_i i hi
   obtain⟨v,rfl,r⟩:=rs.one;obtain⟨u,rfl,z⟩:=Vals.one rv;rw[Rep.Do.mp r]at z;obtain⟨t,rfl⟩:=z;exact PySem.P.str_of_int hi ⟨.str _,H,I.tok _,⟨_,rfl⟩,hp H (Same.refl H) _ (Rep.F1 _)⟩
  ·exact hp.elim
 ·exact hp.elim
theorem oU {x y:Str}{O:Ow}{H:Hp}{vs:List V}{us:List GZ}(rs:Reps X.K O H [.str x,.str y] vs)(rv:Vals vs us):∃t u,us= [IG x t,IG y u]:=by
 obtain⟨v1,w1,rfl,r1,rs⟩:=Reps.AC.mp rs;obtain⟨v2,w2,rfl,r2,rs⟩:=Reps.AC.mp rs;cases Reps.Da.mp rs;rw[Rep.FI.mp r1,Rep.FI.mp r2]at rv
 cases rv with
 | cons z1 rv=>
  cases rv with
  | cons z2 rv=>
   cases rv;obtain⟨t,rfl⟩:=z1;obtain⟨u,rfl⟩:=z2;exact⟨t,u,rfl⟩
theorem mB:∀(l:List (Str×Tok)),Vals ((l.map (·.1)).map V.str) (O5 l)
 | [] => .nil
 | (x,t)::l=> .cons ⟨t,rfl⟩ (mB l)
theorem jM {O:Ow}{H:Hp}:∀(ss:List Str),Reps X.K O H (ss.map T.str) (ss.map V.str)
 | [] =>Reps.FO
 | x::l=>Reps.FL (Rep.F1 _) (jM l)
theorem Inv.GU {pins:List (Addr×Obj)}{σ:L2.St}{H:Hp}{s:GX}{ys:List V}{its:List GZ}{t':Nat}(I:Inv X pins σ H s)(hv:Vals ys its)(hz:ys.length<=sizeLine) :
  Inv X pins σ (cz H s.heap.objs.size (.tup ys)) { s with heap:=s.heap.push { cls:=.type "tuple",data:=.seq its.toArray },toks:=t' }:=
 I.laid (λ_ _ q=>G2 _ q) (He _) ⟨hz,its,hv,Nr _ _⟩
theorem zX:CallT X (.builtin "str.partition") fK:=by
 intro pins s σ H O ts vs us Q I hf rs rv hp;unfold fK at hp
 split at hp
 ·rename_i x y
  split at hp
  ·rename_i hh
   obtain⟨h1,h2⟩:=hh;obtain⟨t,u,rfl⟩:=oU rs rv
   have hy:(y.length == 0)=false:=by rw[beq_eq_false_iff_ne];exact h1
   have hx:x.length<=sizeLine:=by rw[Je];omega
   refine JQ M0 (show typeOf _=_ from rfl) F.entry_str_partition (F.args_str_partition_2 _ _) (meets_str_partition x y t u hy hx) ?_
   have fin:∀(p q r:Str) (tp tq tr:Tok) (k:Nat),(p,q,r)=Ie x y->wants (EP X pins σ Q) X.xe (.ok (.ret (.ref s.heap.objs.size))) { s with heap:=s.heap.push { cls:=.type "tuple",data:=.seq #[.str p tp,.str q tq,.str r tr] },toks:=k }:=λp q r tp tq tr k e=>by
    have np:=I.hok.fresh (He s.heap.objs.size)
    have e1:(Ie x y).1=p:=by rw[<-e]
    have e2:(Ie x y).2.1=q:=by rw[<-e]
    have e3:(Ie x y).2.2=r:=by rw[<-e]
    rw[e1,e2,e3]at hp
    have I2:Inv X pins σ (cz H s.heap.objs.size (.tup [.str p,.str q,.str r])) { s with heap:=s.heap.push { cls:=.type "tuple",data:=.seq #[.str p tp,.str q tq,.str r tr] },toks:=k }:=Inv.GU I (its:=[.str p tp,.str q tq,.str r tr]) (.cons ⟨_,rfl⟩ (.cons ⟨_,rfl⟩ (.cons ⟨_,rfl⟩ .nil))) (by rw[Je];simp)
    exact⟨.ref _,_,I2,rfl,hp _ (aW np _) _ (dH np (hf _ np) (jM [p,q,r]))⟩
   show wants _ _ _ _
   unfold Ie at fin
   cases q:JV x y 0 x.length 1 with
   | nil=>
    rw[q]at fin
    exact fin _ _ _ _ _ _ _ rfl
   | cons i tl=>
    rw[q]at fin;exact fin _ _ _ _ _ _ _ rfl
  ·exact hp.elim
 ·exact hp.elim
theorem j8:∀(ss:List Str) (k:Nat),∃l:List (Str×Tok),strsFrom k ss=O5 l/\l.map (·.1)=ss
 | [],k=>⟨[],rfl,rfl⟩
 | x::ss,k=>by
  obtain⟨l,e1,e2⟩:=j8 ss (k+1);exact⟨(x,k)::l,by show IG x k::strsFrom (k+1) ss=_;rw[e1];rfl,by rw[G9,e2]⟩
theorem xt:CallT X (.builtin "str.split") gF:=by
 intro pins s σ H O ts vs us Q I hf rs rv hp;unfold gF at hp
 split at hp
 ·rename_i x y
  split at hp
  ·rename_i hh
   obtain⟨h1,h2,h3⟩:=hh;obtain⟨t,u,rfl⟩:=oU rs rv
   have hy:(y.length == 0)=false:=by rw[beq_eq_false_iff_ne];exact h1
   have hx:x.length<=sizeLine:=by rw[Je];omega
   have fin:∀(l:List (Str×Tok)) (k:Nat),l.map (·.1)=Ic x y->wants (EP X pins σ Q) X.xe (.ok (.ret (.ref s.heap.objs.size))) { s with heap:=s.heap.push { cls:=.type "list",data:=.seq (O5 l).toArray },toks:=k }:=λl k e=>by
    have np:=I.hok.fresh (He s.heap.objs.size);rw[<-e]at hp h3;exact⟨.ref _,_,I.Gd (t':=k) (mB l) (by rw[G3,Je];omega),rfl,hp _ (aW np _) _ (eY np (hf _ np) (jM _))⟩
   have itself:∀(e:[x] =Ic x y),listOfItself x t X.A (wants (EP X pins σ Q) X.xe) s:=λe=>fin [(x,t)] s.toks e
   unfold Ic at fin itself h3
   cases c1:(decide (x.length<y.length)||decide (HP x<HP y))with
   | true=>
    rw[c1]at itself
    exact JQ K5 (show typeOf _=_ from rfl) L5 (LA _ _) (meets_str_split_cannot_occur x y t u c1) (itself (by simp))
   | false=>
    rw[c1]at itself fin h3
    cases c2:(JV x y 0 x.length (x.length+1)).isEmpty with
    | true=>
     rw[c2]at itself
     exact JQ K5 (show typeOf _=_ from rfl) L5 (LA _ _) (meets_str_split_not_found x y t u c1 hy c2) (itself (by simp))
    | false=>
     rw[c2]at fin h3;rw[if_neg Hq,if_neg Hq]at h3;refine JQ K5 (show typeOf _=_ from rfl) L5 (LA _ _) (meets_str_split_sep x y t u c1 hy c2 hx (by rw[Je];omega)) ?_
     obtain⟨l,e1,e2⟩:=j8 (Builtin.Str.partsBetween x (JV x y 0 x.length (x.length+1)) y.length) s.toks
     show wants _ _ _ _
     rw[e1];exact fin l _ (by rw[e2];simp)
  ·exact hp.elim
 ·exact hp.elim
theorem rL {O:Ow}{H:Hp}:∀{l:List T} {ss:List Str} {vs:List V} {its:List GZ},jn l=some ss->Reps X.K O H l vs->Vals vs its->∃q:List (Str×Tok),its=O5 q/\q.map (·.1)=ss
 | [],ss,vs,its,h,rs,rv=>by
  cases h;cases Reps.Da.mp rs;cases rv
  exact⟨[],rfl,rfl⟩
 | t::l,ss,vs,its,h,rs,rv=>by
  cases t with
  | str x=>
   unfold jn at h
   cases q:jn l with
   | none=>rw[q]at h;cases h
   | some s2=>
    rw[q]at h;cases h;obtain⟨v,w,rfl,r1,rs⟩:=Reps.AC.mp rs
    cases rv with
    | cons z rv=>
     rw[Rep.FI.mp r1]at z;obtain⟨tk,rfl⟩:=z;obtain⟨p,rfl,e⟩:=rL q rs rv
     exact⟨(x,tk)::p,rfl,by rw[G9,e]⟩
  | _=>cases h
theorem zZ:CallT X (.builtin "str.join") gP:=by
 intro pins s σ H O ts vs us Q I hf rs rv hp;unfold gP at hp
 split at hp
 ·rename_i x l
  split at hp
  ·rename_i ss hss
   split at hp
   ·rename_i hj
    obtain⟨v1,w1,rfl,r1,rs⟩:=Reps.AC.mp rs;obtain⟨v2,w2,rfl,r2,rs⟩:=Reps.AC.mp rs;cases Reps.Da.mp rs;obtain⟨c,ws,rfl,n1,hx,rx⟩:=Rep.FB.mp r2;rw[Rep.FI.mp r1]at rv
    cases rv with
    | cons z1 rv=>
     cases rv with
     | cons z2 rv=>
      cases rv;obtain⟨t,rfl⟩:=z1;obtain rfl:=(show _=HD c from z2)
      obtain⟨z,its,n,rv2,hlen,eo⟩:=I.FW hx;obtain⟨q,rfl,e⟩:=rL hss rx rv2;exact SC.join (l:=q) ⟨_,eo,rfl,n,rfl⟩ e hj λt' k=>⟨.str _,H,I.tok _,⟨_,rfl⟩,hp H (Same.refl H) _ (Rep.F1 _)⟩
   ·exact hp.elim
  ·exact hp.elim
 ·exact hp.elim
theorem Aw {nm:Str}{id:String}{g:List T->Rs T}(hsl:Slot "str" nm id)(hty:typeOf (.builtin id)=pure (.type "method_descriptor"))(hc:CallT X (.builtin id) g)(ha:cR X a fa){fb:En->Rs T}(hb:cR X b fb)(hn:cP b=true)
  (hbase:Jg a nm X.env (eval a X.env)=eval a X.env) (hline:(apos.endLine == cpos.line)=true):cR X (.Call (.Attribute a nm apos) [b] [] cpos) (oS g fa (ae fb ai)):=by
 have hs:Hj [b] X.env=(false,eval b X.env)::Hj [] X.env:=bt hn;intro pins s σ H Q I ⟨ρ,O,E,hq⟩;refine J4 hbase (by rw[hs];rfl) hline rfl (bJ (ha pins s σ H _ I (aR E hq)) λv s1 hh_=> ?_)
 obtain⟨x,H1,I1,r1,t,rt,s',E',q1⟩:=hh_
 cases t with
 | str y=>
  rw[Rep.FI.mp rt]at r1;obtain⟨tk,rfl⟩:=r1;refine⟨_,_,KL,hsl,hty,(show typeOf _=_ from rfl),(λa z=>nomatch z),?_⟩
  rw[hs]
  have q1':Post X H1 (fb ρ >>= λu=>g [.str y,u]) λt H'=> ∀v,Rep X.K O H' t v->Q v H':=by
   have:(ae fb ai ρ >>= λts=>g (.str y::ts))=(fb ρ >>= λu=>g [.str y,u]):=by
    unfold ae;cases fb ρ <;> rfl
   rw[<-this];exact q1
  refine J2 rfl (JJ (Jl (bJ (hb pins s1 σ H1 _ I1 (aR (f:=fb) E' q1')) λu s2 ⟨w,H2,I2,r2,t2,rt2,s'',E'',q2⟩=>Ju ?_)))
  exact hc pins s2 σ H2 O [.str y,t2] [.str y,w] [.str y tk,u] Q I2 (λp=>E''.fresh) (Reps.FL (Rep.F1 _) (Reps.FL rt2 Reps.FO)) (.cons ⟨tk,rfl⟩ (.cons r2 .nil)) q2
 | _=>exact q1.elim
end
end Tr
namespace L2
open PySem PySem.Spec PyProof.Rows
open Sem (wp)
theorem jL {M:L7}{Γ:LW}{p:Pos}{t:Sem Fin}{fs:List Frame}{s:GX}{e:End}{s':GX}(h:Runs M Γ p t fs s e s'):s.toks<=s'.toks:=by
 induction h with
 | fresh _ ih=>exact Hz (Nat.le_succ _) ih
 | call _ _ i1 i2=>exact Hz i1 i2
 | resumeFresh _ _ _ _ i1 i2=>exact Hz i1 i2
 | resumeSuspended _ _ _ _ i1 i2=>exact Hz i1 i2
 | segRet _ _ i1 i2=>exact Hz i1 i2
 | segGen _ _ i1 i2=>exact Hz i1 i2
 | segSuspGen _ _ _ _ i1 i2=>exact Hz i1 i2
 | _=>first | exact He _ | assumption
theorem qo {M:L7}{Γ:LW}{p:Pos}{g:Nat}{r:Resume}{s:GX}{res:GenResult}{s':GX}(h:Wakes M Γ p g r s res s'):s.toks<=s'.toks:=by
 unfold Wakes at h
 split at h
 ·exact h.elim
 ·split at h
  ·obtain⟨e,s1,q,_,_,rfl⟩:=h;have:=jL q;exact this
  ·obtain⟨_,rfl⟩:=h;exact He _
  ·obtain⟨_,rfl⟩:=h;exact He _
 ·obtain⟨e,s1,q,_,_,rfl⟩:=h;have:=jL q;exact this
 ·obtain⟨_,rfl⟩:=h;exact He _
 ·obtain⟨_,rfl⟩:=h;exact He _
def vd:Nat:=1
theorem rF {α:Type}{M:L7}{Γ:LW}:∀{t:Sem α} {Q:α->Pos->GX->Prop} {E:GZ->Pos->GX->Prop} {p:Pos} {s:GX},vd<=s.toks->wp M Γ t Q E p s →
  wp M Γ t (λa p' s'=>Q a p' s'/\vd<=s'.toks) (λe p' s'=>E e p' s'/\vd<=s'.toks) p s:=by
 intro t
 induction t with
 | pure a=>intro Q E p s h w;rw[MG]at w ⊢;exact⟨w,h⟩
 | raise e=>intro Q E p s h w;rw[MG]at w ⊢;exact⟨w,h⟩
 | fresh k ih=>intro Q E p s h w;rw[MG]at w ⊢;exact ih _ (Nat.le_succ_of_le h) w
 | load a pt k ih=>intro Q E p s h w;rw[MG]at w ⊢;obtain⟨o,e,w⟩:=w;exact⟨o,e,ih _ h w⟩
 | update a pt f k ih=>intro Q E p s h w;rw[MG]at w ⊢;exact⟨w.1,ih _ (by exact h) w.2⟩
 | choose src n k ih=>intro Q E p s h w;rw[MG]at w ⊢;exact⟨w.1,ih _ (by exact h) w.2⟩
 | genState g k ih=>intro Q E p s h w;rw[MG]at w ⊢;obtain⟨o,e,w⟩:=w;exact⟨o,e,ih _ h w⟩
 | call c hd g l k ih=>intro Q E p s h w;rw[MG]at w ⊢;obtain⟨r,s',q,w⟩:=w;exact⟨r,s',q,ih _ (Hz h (jL q)) w⟩
 | resume g r l k ih=>intro Q E p s h w;rw[MG]at w ⊢;obtain⟨r,s',q,w⟩:=w;exact⟨r,s',q,ih _ (Hz h (qo q)) w⟩
 | _=>intro Q E p s h w;rw[MG]at w ⊢ <;> first | exact w | (rename_i ih;exact ih _ (by exact h) w)
def CalB (Γ:LW):Prop:=(Γ.below.map (·.1)).any NB=true
def Cal (Γ:LW):Prop:=(((Γ.code::Γ.below.map (·.1))).any NB)=true
theorem CalB.cal {Γ:LW}(h:CalB Γ):Cal Γ:=by unfold Cal;rw[Mf,show(Γ.below.map (·.1)).any NB=true from h,Bool.or_true]
theorem Cal.enter {Γ:LW}{c:Code}{h:Option GZ}{p:Pos}(z:Cal Γ):CalB (Γ.enter c h p):=z
section
variable {α β:Type}{M:L7}{A:HF}{E:GZ->GX->Prop}{s:GX}{R R':KN->GX->Prop}{c:Code}
def wC (M:L7)(A:HF)(t:Sem α)(Q:α->GX->Prop)(E:GZ->GX->Prop)(s:GX):Prop:=
 vd<=s.toks->∀Γ p,PySem.Ctx.In Γ A->Cal Γ->wp M Γ t (λa _ s'=>Q a s') (λe _ s'=>E e s') p s
def cC (M:L7)(A:HF)(c:Code)(R:KN->GX->Prop)(s:GX):Prop:=
 vd<=s.toks->∀Γ p,Γ.code=c->PySem.Ctx.Below Γ A->CalB Γ->wpCode M Γ R p s
theorem wC.of {t:Sem α}{Q:α->GX->Prop}(h:wpAny M A t Q E s):wC M A t Q E s:=λ_ Γ p hΓ _=>h Γ p hΓ
theorem cC.of (h:codeAny M A c R s):cC M A c R s:=λ_ Γ p hc hΓ _=>h Γ p hc hΓ
theorem cO {t:Sem α}{Q Q':α->GX->Prop}{E':GZ->GX->Prop}(h:wC M A t Q E s)(hQ:∀a s,Q a s->Q' a s)(hE:∀e s,E e s->E' e s):wC M A t Q' E' s:=
 λk Γ p hΓ z=>Lm M Γ t (λa _ s=>hQ a s) (λe _ s=>hE e s) p s (h k Γ p hΓ z)
theorem iw {t:Sem α}{Q Q':α->GX->Prop}(h:wC M A t Q E s)(hQ:∀a s,Q a s->Q' a s):wC M A t Q' E s:=cO h hQ λ_ _ x=>x
theorem a7 {a:α}{Q:α->GX->Prop}(h:Q a s):wC M A (pure a) Q E s:=.of (Ha h)
theorem aV {m:Sem α}{f:α->Sem β}{Q:β->GX->Prop}(h:wC M A m (λa s'=>wC M A (f a) Q E s') E s):wC M A (m >>= f) Q E s:=λk Γ p hΓ z=>by
 rw[Sem.wp_bind'];exact Lm M Γ m (λa p' s' h'=>h'.1 h'.2 Γ p' hΓ z) (λ_ _ _ h'=>h'.1) p s (rF k (h k Γ p hΓ z))
theorem ay {m:Sem α}{f:α->Sem β}{Q:β->GX->Prop}(h:wpAny M A m (λa s'=>wC M A (f a) Q E s') E s):wC M A (m >>= f) Q E s:=aV (.of h)
theorem fQ {m:Sem α}{k:GZ->Sem Unit}{Q:α->GX->Prop}(h:wC M A m Q (λe s'=>wC M A (k e) (λ_ s''=>E e s'') E s') s):wC M A (m.onRaise k) Q E s:=λkk Γ p hΓ z=>by
 rw[Sem.wp_onRaise];exact Lm M Γ m (λ_ _ _ h'=>h'.1) (λe p' s' h'=>h'.1 h'.2 Γ p' hΓ z) p s (rF kk (h kk Γ p hΓ z))
theorem cq {vs:List GZ}{m:Sem α}{Q:α->GX->Prop}(h:wC M A m Q E s):wC M A (holding vs m) Q E s:=λk Γ p hΓ z=>by rw[Sem.wp_holding];exact h k Γ p hΓ z
theorem qr {vs:List GZ}{m:Sem GZ}{Q:GZ->GX->Prop}(h:wC M A m Q E s):wC M A (operate vs m) Q E s:=λk Γ p hΓ z=>by rw[Sem.wp_operate];exact h k Γ p hΓ z
theorem kN {m:Sem α}{Q:Except GZ α->GX->Prop}(h:wC M A m (λa=>Q (.ok a)) (λe=>Q (.error e)) s):wC M A m.attempt Q E s:=λk Γ p hΓ z=>by rw[Sem.wp_attempt];exact h k Γ p hΓ z
theorem eX {pos:Pos}{f:Unit->Sem β}{Q:β->GX->Prop}(h:wC M A (f ()) Q E s):wC M A (standAt pos >>= f) Q E s:=ay (Ld h)
theorem ip (h:cC M A c R s)(hR:∀r s,R r s->R' r s):cC M A c R' s:=λk Γ p hc hΓ z=>wpCode_mono hR (h k Γ p hc hΓ z)
theorem uN {h:Option GZ}{Q:Flow->GX->Prop}(hc:cC M (A.mark h) c (λr s'=>match r with | .ok f=>Q f s' | .error e=>E e s') s)(hnb:autoParam (h≠some byPass) b_):wC M A (run c h) Q E s:=λk Γ p hΓ z=>by
 rw[Sem.wp_run];exact hc k _ p rfl (hΓ.enter c h p hnb) z.enter
theorem jc {f:GZ}{pos:List GZ}{kw:List (Str×GZ)}{Q:GZ->GX->Prop}(hc:cC M A (.call f ⟨pos,kw⟩) (λr s'=>match r with | .ok (.ret v)=>Q v s' | .ok _=>False | .error e=>E e s') s):wC M A (call f pos kw) Q E s:=λk Γ p hΓ z=>by
 show wp M Γ (runValue (.call f ⟨pos,kw⟩)) _ _ p s
 rw[Sem.wp_runValue];exact hc k _ p rfl (hΓ.enter _ none p (by intro x;cases x)) z.enter
theorem cY (h:wC M (A.under c) (M.den c) (λfin s'=>match fin with | .done f=>R (.ok f) s' | .again c'=>c'.quiet=true/\cC M A c' R s') (λe s'=>R (.error e) s') s):cC M A c R s:=λk Γ p hc hΓ z=>by
 rw[wpCode_iff_wp,hc];refine Lm M Γ _ (λfin p' s' h'=> ?_) (λ_ _ _ h'=>h'.1) p s (rF k (h k Γ p (hc▸hΓ.in) z.cal))
 cases fin with
 | done f=>exact h'.1
 | again c'=>exact⟨h'.1.1,h'.1.2 h'.2 (Γ.goto c') p' rfl (hΓ.goto c') z⟩
theorem z8 (hq:c.quiet=true)(I:Nat->GX->Prop)
  (turn:∀n s,I n s->wC M (A.under c) (M.den c) (λfin s'=>match fin with | .done f=>R (.ok f) s' | .again c'=>c'=c/\∃m,m<n/\I m s') (λe s'=>R (.error e) s') s)
  (n:Nat) (h:I n s):cC M A c R s:=by
 induction n using OZ generalizing s with
 | ind n ih=>
  refine cY (cO (turn n s h) (λfin s' hf=> ?_) λ_ _ h'=>h')
  cases fin with
  | done f=>exact hf
  | again c'=>obtain⟨rfl,m,hm,hI⟩:=hf;exact⟨hq,ih m hm hI⟩
end
end L2
namespace L2
open PySem PySem.Spec PyProof.Rows
section
variable {M:L7}{A:HF}{E:GZ->GX->Prop}{s:GX}{env:Env}{pos:Pos}
theorem fx {st:Stmt}{a9:List Stmt}{Q:Flow->GX->Prop}(h:wC M A (exec st env) (λf s'=>match f with | .next=>wC M A (execs a9 env) Q E s' | f=>Q f s') E s):wC M A (execs (st::a9) env) Q E s:=by
 rw[execs_cons];refine aV (iw h λf s' h'=> ?_)
 cases f <;> first | exact a7 h' | exact h'
theorem Df {c:Expr}{a b:List Stmt}{Q:Flow->GX->Prop}(h:wC M A (isTrue c env (eval c env)) (λk s'=>if k then wC M A (execs a env) Q E s' else wC M A (execs b env) Q E s') E s):wC M A (exec (.If c a b pos) env) Q E s:=by
 rw[exec_If];refine eX (aV (iw h λk s' h'=> ?_))
 cases k <;> exact h'
theorem mz {e:Expr}{Q:Flow->GX->Prop}(h:wC M A (eval e env) (λv=>Q (.ret v)) E s):wC M A (exec (.Return (some e) pos) env) Q E s:=by
 rw[exec_Return_some];exact eX (aV (iw h λv s' q=>a7 q))
theorem yc {l r:Expr}{op:O0}{whole:Sem GZ}{Q:Bool->GX->Prop}(h:wC M A (eval l env) (λa s₁=>wC M A (eval r env) (λb s₂=>wC M A (Iw op a b) (λc s₃=>wC M A (truthy c) Q E s₃) E s₂) E s₁) E s)
  (hm:Js op r=false):wC M A (isTrue (.Compare l [op] [r] pos) env whole) Q E s:=by
 rw[isTrue_Compare1,markedBehindIn_of_false hm];exact aV (iw h λa s₁ h₁=>aV (cq (iw h₁ λb s₂ h₂=>eX (aV (qr (iw h₂ λc s₃ h₃=>cq h₃))))))
theorem uO {x:Expr}{a9:List Expr}{whole:Sem GZ}{Q:Bool->GX->Prop}(h:wC M A (isTrue x env (eval x env)) (λc s'=>if c=true then Q true s' else wC M A (isTrue (.BoolOp .Or a9 pos) env whole) Q E s') E s):wC M A (isTrue (.BoolOp .Or (x::a9) pos) env whole) Q E s:=by
 show wC M A (isTrue x env (eval x env) >>= λb=>match MI,b with
  | .And,false=>pure false
  | .Or,true=>pure true
  | _,_=>allTrue .Or a9 env) Q E s
 refine aV (iw h λc s' h'=> ?_)
 cases c with
 | true=>exact a7 (a:=true) h'
 | false=>exact h'
theorem yb {α:Type}{vs:List GZ}{m:Sem α}{Q:α->GX->Prop}(h:wC M A m Q E s):wC M A (m.keep vs) Q E s:=λk Γ p hΓ z=>by rw[Sem.wp_keep];exact h k Γ p hΓ z
theorem oP {P:Heap->Prop}{f:GZ}{first:List GZ}{Q:GZ->GX->Prop}{args:List (Bool×Sem GZ)}(hplain:args.any (·.1)=false)
  (hk:∀h,P h->∃k,(k=Keeper.frame\/k=Keeper.machine\/k=Keeper.boundFrame)/\PySem.W.Looks M h (keeperOf f) k)
  (h:wC M A (OL f true args []) (λa s₁=>P s₁.heap/\wC M A (call f (first++a.pos) a.kw) Q E s₁) E s):wC M A (ON pos f first args []) Q E s:=by
 unfold ON;refine aV (cq (iw h λa s₁ h₁=>eX ?_))
 obtain⟨k,hk',L⟩:=hk _ h₁.1
 have e:(args.any (·.1)||([]:List (Option Str×Sem GZ)).any (·.1.isNone))=false:=by rw[hplain];rfl
 simp only[e];refine ay (L.here ?_)
 have tail:∀{t:Sem GZ},wC M A t Q E s₁->wC M A (t >>= λr=>holding [r] point >>= λ_=>pure r) Q E s₁:=
  λht=>aV (iw ht λr s₂ hr=>ay (IE (O6 (a7 hr))))
 have mk:∀m:GZ,wC M A (callMarked m f (first++a.pos) a.kw) Q E s₁:=λm=>by unfold callMarked;exact yb h₁.2
 rcases hk' with rfl | rfl | rfl <;> dsimp only <;> first | exact tail h₁.2 | (split <;> first | exact tail h₁.2 | exact tail (mk _))
theorem nu {f:GZ}{x:Sem GZ}{a9:List (Bool×Sem GZ)}{Q:Args->GX->Prop}(h:wC M A (spliced ((false,x)::a9)) (λvs s'=>Q ⟨vs,[]⟩ s') E s):wC M A (OL f true ((false,x)::a9) []) Q E s:=by
 unfold OL
 show wC M A (spliced ((false,x)::a9) >>= _) Q E s
 refine aV (iw h λvs s' h'=>cq ?_)
 exact ay (Ha (ay (Ha (a7 h'))))
theorem kM {x:Sem GZ}{a9:List (Bool×Sem GZ)}{Q:List GZ->GX->Prop}(h:wC M A x (λv s₁=>wC M A (spliced a9) (λvs s₂=>Q (v::vs) s₂) E s₁) E s):wC M A (spliced ((false,x)::a9)) Q E s:=by
 rw[spliced];refine aV (iw h λv s₁ h₁=> ?_)
 simp only[Iv,if_false];exact ay (Ha (aV (cq (iw h₁ λvs s₂ h₂=>a7 h₂))))
theorem nv {id:Str}{p:Pos}{args:List Expr}{Q:GZ->GX->Prop}(h:wpAny M A (eval (.Name id p) env) (λf s₁=>wC M A (ON pos f [] (backTo pos (Hj args env)) []) Q E s₁) E s) :
  wC M A (eval (.Call (.Name id p) args [] pos) env) Q E s:=by
 rw[arm_eval_Call_Name'];exact ay h
theorem oO {α:Type}{m:Sem α}{Q:α->GX->Prop}(h:wC M A m Q (notedBy M A env E) s):wC M A (m.onRaise λx=>do K3 x env;Lo x) Q E s:=
 fQ (cO h (λ_ _ q=>q) λ_ _ hx=>ay (HX hx (λ_ _ e=> .of (wpAny_theTreesLotGoes e)) λ_ _ e=>e))
end
section
variable {prog:Hr}{w:HS}{A:HF}{E:GZ->GX->Prop}{s:GX}{R:KN->GX->Prop}
theorem uR {env:Env}{es:List Expr}{x1:Nat}{pos:Pos}{Q:GZ->GX->Prop}
  (h:wC (model prog w) A (spliced (backTo pos (Hj es env))) (λvs s₁=>vs.length<=sizeLine/\Q (.ref s₁.heap.objs.size) { s₁ with heap:=s₁.heap.push { cls:=.type "tuple",data:=.seq vs.toArray } }) E s) :
  wC (model prog w) A (eval (.Tuple es x1 pos) env) Q E s:=by
 rw[arm_eval_Tuple];exact eX (aV (iw h λvs s₁ h₁=> .of (Nb h₁.2 h₁.1)))
theorem sT {body:List Stmt}{env:Env}
  (h:wC (model prog w) (A.deeper env) (execs body env) (λf s'=>R (.ok (.ret (match f with | .ret v=>v | _=> .none))) s')
   (λe s'=>wpAny (model prog w) (A.deeper env) (leaving env e) (λ_ s''=>R (.error e) s'') (λe' s''=>R (.error e') s'') s') s):cC (model prog w) A (.func body env) R s:=by
 refine cY ?_
 show wC _ (A.deeper env) (do point;match <-(execs body env).onRaise (leaving env)with | .ret v=>ret v | _=>ret .none) _ _ s
 refine ay (O6 (aV (fQ (cO h (λf s' h'=> ?_) λ_ _ h'=> .of h'))))
 cases f <;> exact a7 h'
theorem AS {a:Addr}{args:Args}{o:Obj}{fd:Ib}{body:List Stmt}(hroom:A.depth<J1)(ho:s.heap.get? a=some o)
  (hd':o.data= .func fd) (hco:fd.scope.isCoroutine=false) (hgen:fd.scope.isGenerator=false) (hbody:fd.body= .stmts body) (hcd:s.heap.CodeRec fd.code fd.qualname)
  (h:wpAny (model prog w) A.in1 (NI fd args) (λbinds s₁=>
   wpAny (model prog w) A.in1 (LS fd.scope fd.globals fd.closure binds (fd.qualname++ ".<locals>.") (some a) fd.code none fd.builtins)
    (λenv s₂=>s₂.heap.NoLimit/\cC (model prog w) A (.func body env) R s₂) (λe s'=>R (.error e) s') s₁) (λe s'=>R (.error e) s') s) :
  cC (model prog w) A (.call (.ref a) args) R s:=by
 refine cY ?_
 show wC _ A.in1 (callAny (.ref a) args) _ _ s
 simp only[callAny];refine ay (wpAny_load ho ?_)
 obtain⟨c,oc,vs,tq,hc,hoc,hdc,hq⟩:=hcd;simp only[hd',callFunction,hco,hgen,hbody,hc];rw[hc]at h;refine ay (m:=field (.ref c) 1) (H0 hoc hdc hq (ay (Ha ?_)))
 refine ay (HX h (λbinds s₁ h₁=> ?_) λ_ _ h'=>h')
 refine ay (HX h₁ (λenv s₂ h₂=> ?_) λ_ _ h'=>h')
 exact ay (wpAny_enterFrame h₂.1 hroom (a7 (KA rfl h₂.2)))
end
def DE (X:Cx)(e:Expr)(t:TE):Prop:=
 ∀(pins:List (Addr×Obj)) (s:GX) (σ:St) (H:Hp) (Q:VK),Inv X pins σ H s->t σ H Q->wC (model X.prog X.w) X.A (eval e X.env) (EP X pins σ Q) X.xe s
def DS (X:Cx)(st:Stmt)(t:TS):Prop:=
 ∀(pins:List (Addr×Obj)) (s:GX) (σ:St) (H:Hp) (D:Ends),Inv X pins σ H s->t D σ H->wC (model X.prog X.w) X.A (exec st X.env) (SP X pins D) X.xe s
section
variable {M:L7}{A:HF}{E:GZ->GX->Prop}{s:GX}{env:Env}
theorem uQ {e:Expr}{scope:J8}{pos:Pos}{newAcc first:Sem GZ}{g:NS}{gs:List NS}{cl:List (Str×Addr)}{use:Option (GZ->Sem Unit)}{Q:GZ->GX->Prop}
  (hcl:clausesOf e=g::gs) (hs:∀x,Hw g.iter env x=pure x) (hclos:closureFor scope env=pure cl) (hkind:scope.kind= .function) (hnames:∀x∈scope.names,x.2= .local->scope.names.lookup x.1=some .local)
  (h:wpAny M A first (λx s₁=>wpAny M A (pyIter x) (λit s₂=>wpAny M A newAcc (λacc s₃=>wpAny M A (LS scope env.globals cl [] env.qual none .none (some env)) (λcenv s₄=>
    cC M A (.compStart e 0 it acc { cenv with scope:=relabel scope env }) (MX M A E use Q acc cenv.locals) s₄) E s₃) E s₂) E s₁) E s):wC M A (Le e scope env pos newAcc false first use) Q E s:=by
 unfold Le;rw[hclos,hcl]
 have step:∀{α β:Type} {m:Sem α} {f:α->Sem β} {Z:α->GX->Prop} {Y:β->GX->Prop} {x:GX},wpAny M A m Z E x->(∀a s',Z a s'->wC M A (f a) Y E s')->wC M A (m >>= f) Y E x:=λh1 h2=>ay (HX h1 h2 λ_ _ z=>z)
 have stand:∀{α:Type} {c:Prop} [Decidable c] {pos:Pos} {k:PUnit->Sem α} {Y:α->GX->Prop} {x:GX},wC M A (k ()) Y E x->wC M A (if c then(standAt pos >>= k)else k ()) Y E x:=λh=>by
  split
  ·exact eX h
  ·exact h
 refine step h λx s₁ h₁=>eX (ay (KW (hs x) (step (IE h₁) λit s₂ h₂=>stand (step h₂ λacc s₃ h₃=>ay (Ha (step h₃ λcenv s₄ h₄=> ?_))))))
 dsimp only
 have low:∀y∈scope.names,y.2= .local->Env.kindOf { cenv with scope:=relabel scope env } y.1=some .local:=λy hy hl=>lookup_relabel_local (hnames y hy hl)
 have inn:∀{y:Str×J6},y∈(scope.names.filter λx=>(x.2 == .local||x.2 == .cell)&&x.1 != (".0" : Str)).reverse->y∈scope.names:=λhy=>(JM.mp (List.mem_reverse.mp hy)).1
 refine cq (aV (kN (cq (uN (ip h₄ λr s' hr=> ?_)))))
 cases r with
 | ok f=>
  cases use with
  | none=>
   obtain⟨m,hn,hr⟩:=hr
   exact ay (IE (Mu (cenv:={ cenv with scope:=relabel scope env }) hkind _ s' m (λy hy=>low y (inn hy)) hn λh' m' _ hs'=>a7 (hr h' hs')))
  | some u=>
   refine ay (Kr (step (IE hr) λ_ s'' hr'=> ?_))
   obtain⟨m,hn,hr'⟩:=hr'
   exact ay (Mu (cenv:={ cenv with scope:=relabel scope env }) hkind _ s'' m (λy hy=>low y (inn ((G8.mp hy).elim JK Kg))) hn λh' m' _ hs'=>a7 (hr' h' hs'))
 | error x=>
  have hr':∃m,s'.heap.Ns cenv.locals m/\∀h',J9 cenv.locals s'.heap h'->∀cenv':Env,cenv'.locals=cenv.locals->wpAny M A (passOn "comprehension.variables-let-go" x cenv':Sem GZ) (λ_ _=>False) E { s' with heap:=h' }:=by cases use <;> exact hr
  obtain⟨m,hn,hr⟩:=hr';exact ay (IE (Mu (cenv:={ cenv with scope:=relabel scope env }) hkind _ s' m (λy hy=>low y (inn hy)) hn λh' m' _ hs'=> .of (HX (hr h' hs' _ rfl) (λ_ _ f=>f.elim) λ_ _ y=>y)))
end
theorem uo {pr:Hr}{wd:HS}{Ar:HF}{Rz:KN->GX->Prop}{s0:GX}{el tg it0:Expr}{cs:List Expr}{sc:J8}{ps:Pos}{itv av:GZ}{ev:Env}(W:Nat->GX->Prop)
  (go:∀k st,W k st->wpAny (model pr wd) Ar (pyNext itv) (λr s1=>match r with
   | none=>Rz (.ok .next) s1
   | some v=>wpAny (model pr wd) Ar (JP tg itv v) (λ_ s2=>wpAny (model pr wd) Ar (assign tg ev v) (λ_ s3=>
     wpAny (model pr wd) Ar (forIn cs true λc b=>if b=true then do let z <-isTrue c ev (eval c ev);pure (Jz z)else pure (Jz b)) (λz s4=>
      if z=true then wC (model pr wd) Ar (eval el ev) (λy s5=>
       wpAny (model pr wd) Ar (call (.builtin "list.append") [av,y]) (λ_ s6=> ∃m,m<k/\W m s6) (λ_ _=>False) s5) (λ_ _=>False) s4
      else ∃m,m<k/\W m s4) (λ_ _=>False) s3) (λ_ _=>False) s2) (λ_ _=>False) s1) (λ_ _=>False) st)
  (k:Nat) (hk:W k s0):cC (model pr wd) Ar (.compLoop (.ListComp el [⟨tg,it0,cs,0⟩] sc ps) 0 itv av ev) Rz s0:=by
 refine z8 rfl W (λk st hw=> ?_) k hk
 show wC (model pr wd) Ar ((compTurn (.ListComp el [⟨tg,it0,cs,0⟩] sc ps) 0 itv av ev).onRaise (λz=>do K3 z ev;Lo z)) _ _ st
 refine oO ?_
 rw[compTurn_list]
 have step:∀{α β:Type} {m:Sem α} {f:α->Sem β} {Z:α->GX->Prop} {Y:β->GX->Prop} {E':GZ->GX->Prop} {x:GX},wpAny (model pr wd) Ar m Z (λ_ _=>False) x->(∀a s',Z a s'->wC (model pr wd) Ar (f a) Y E' s')->wC (model pr wd) Ar (m >>= f) Y E' x:=λh1 h2=>ay (HX h1 h2 λ_ _ z=>z.elim)
 refine eX (step (go k st hw) λr s1 g1=> ?_)
 cases r with
 | none=>exact a7 g1
 | some v=>
  refine step g1 λ_ s2 g2=>step g2 λ_ s3 g3=>step g3 λz s4 g4=> ?_
  cases z with
  | false=>exact a7 (KA rfl g4)
  | true=>exact aV (aV (cO g4 (λy s5 g5=>step g5 λ_ s6 g6=>a7 (a7 (KA rfl g6))) λ_ _ z=>z.elim))
theorem oB {prog:Hr}{w:HS}{A:HF}{R:KN->GX->Prop}{s:GX}{elt target iter:Expr}{ifs:List Expr}{a9:List NS}{scope:J8}{pos:Pos}{it acc:GZ}{env:Env}
  (h0:cC (model prog w) A (.compLoop (.ListComp elt (⟨target,iter,ifs,0⟩::a9) scope pos) 0 it acc env) R s)
  (h:wpAny (model prog w) A (pyIter it) (λit' s'=>cC (model prog w) A (.compLoop (.ListComp elt (⟨target,iter,ifs,0⟩::a9) scope pos) 0 it' acc env) R s') (notedBy (model prog w) A env λx s'=>R (.error x) s') s) :
  cC (model prog w) A (.compStart (.ListComp elt (⟨target,iter,ifs,0⟩::a9) scope pos) 0 it acc env) R s:=by
 refine cY ?_
 show wC _ _ ((compStart (.ListComp elt (⟨target,iter,ifs,0⟩::a9) scope pos) 0 it acc env).onRaise (λx=>do K3 x env;standAt theWindowsPlace)) _ _ s
 refine fQ (cO (E:=notedBy (model prog w) A env λx s'=>R (.error x) s') ?_ (λ_ _ q=>q) λ_ _ hx=>ay (HX hx (λ_ _ e=> .of (Ld e)) λ_ _ e=>e))
 unfold compStart
 show wC _ _ (ask >>= _) _ _ s
 refine ay (wpAny_askSetting ?_)
 split
 ·first
   | exact ay (Ha (a7 (KA rfl h0)))
   | exact a7 (KA rfl h0)
 ·refine ay (Kr ?_)
  show wC _ _ (standAt iter.pos >>= _) _ _ s
  exact eX (ay (HX h (λit' s' h'=>a7 (KA rfl h')) λ_ _ x=>x))
section
variable {X:Cx}
theorem wF {elt tg iter:Expr}{ifs:List Expr}{scope:J8}{pos fpos:Pos}{N':List Str}{src:List (Option Nat)}{wi:TI}{g:TG}{tc:TT}{te:TE}{use:Option (GZ->Sem Unit)}{Qf:GZ->GX->Prop}
  {pins:List (Addr×Obj)} {s:GX} {σ:St} {H:Hp} {Q:VK}
  (hc:X.calm=true) (S:LcScope X scope N' src) (hi:PI X tg iter wi)
  (block:∀cl C s₀ H₀ fp,PG (aY X scope cl N' C s₀ H₀ fp) tg g/\ql (aY X scope cl N' C s₀ H₀ fp) ifs tc/\DE (aY X scope cl N' C s₀ H₀ fp) elt te)
  (hs:∀x,Hw iter X.env x=pure x) (I:Inv X pins σ H s) (h:A9 X.K wi src g tc te σ H Q)
  (hend:∀(D C:Addr) (H':Hp) (s':GX),(∃m,s'.heap.Ns C m)->(∀h',J9 C s'.heap h'->Inv X pins σ H' { s' with heap:=h' })->(H' C=none/\C≠X.env.locals/\X.s₀.heap.objs.size<=C/\(∀x c,X.env.cells.lookup x=some c->c≠C)/\∀p∈X.pn++pins,p.1≠C)->Q (.ref D) H' →
   MX (model X.prog X.w) X.A X.xe use Qf (.ref D) C (.ok .next) s') :
  wC (model X.prog X.w) X.A (Le (.ListComp elt [⟨tg,iter,ifs,0⟩] scope pos) scope X.env fpos (newList []) false (eval iter X.env) use) Qf X.xe s:=by
 have hcell:∀x,(x,HR)∈scope.names->∃c,X.env.cells.lookup x=some c:=λx hx=>I.ok.has x (S.free x hx)
 obtain⟨cl0,hcl,cl01,cl02⟩:=lL (env:=X.env) (scope:=scope) hcell;refine uQ (use:=use) rfl hs hcl S.kind S.loc (bJ (hi pins s σ H _ I h) λv s1 h1=>bJ h1 λitv s2 h2=> ?_)
 obtain⟨it,fp,tn,J,H2,e,I2,T,st2,f2,hq⟩:=h2;subst e
 -- the new list
 refine IM ?_
 have hD:H2 s2.heap.objs.size=none:=I2.hok.fresh (He _)
 have hDK:X.K.lookup s2.heap.objs.size=none:=by
  cases q:X.K.lookup s2.heap.objs.size with
  | none=>rfl
  | some o=>exact absurd (Hf (I2.kIn _ o q)) (HB _)
 obtain⟨W,⟨m0,w0⟩,turn⟩:=hq s2.heap.objs.size hD hDK
 have I3:=I2.Gd (its:=[]) (ys:=[]) (t':=s2.toks) .nil (HZ _)
 generalize hs3:({ s2 with heap:=s2.heap.push { cls:=.type "list",data:=.seq ([]:List GZ).toArray },toks:=s2.toks }:GX)=s3 at I3
 generalize hH3:cz H2 s2.heap.objs.size (.lst [])=H3 at I3 w0
 have hDsz:s2.heap.objs.size<s3.heap.objs.size:=by rw[<-hs3];simp[IB]
 have fr3:∀b∈fp,H3 b=none:=λb hb=>by
  obtain⟨o,eo,_⟩:=T.obj _ _ st2 b hb;rw[<-hH3,aN (Iz (Hf eo))];exact(f2 b hb).1
 have st3:tn 0 s3.heap:=T.keep _ _ _ st2 λb hb o e=>by rw[<-hs3];exact G2 _ e
 have f3:∀b∈fp,ir X pins H3 b:=λb hb=>⟨fr3 b hb,(f2 b hb).2⟩
 have D3:H3 s2.heap.objs.size=some (.lst []):=by rw[<-hH3];exact aT
 generalize s2.heap.objs.size=D at*
 clear hs3 hH3 hD hDK
 -- the block's frame
 refine mM ?_
 have old:∀b o,s3.heap.get? b=some o->(K4 (s3.heap.push { cls:=.type "dict",data:=.dict #[] }) scope.names).get? b=some o:=λb o e=>KG _ _ b o (G2 _ e)
 have hns₁:(K4 (s3.heap.push { cls:=.type "dict",data:=.dict #[] }) scope.names).Ns s3.heap.objs.size (λ_=>none):=(Heap.Ns.new s3.heap (.type "dict")).keeps (KG _ _)
 have hz3:(s3.heap.push { cls:=.type "dict",data:=.dict #[] }).objs.size=s3.heap.objs.size+1:=IB ..
 have lt0:∀x c,cl0.lookup x=some c->c<s3.heap.objs.size:=λx c e=>let ⟨_,ic⟩:=I3.cell x c (cl01 x c e);ic.lt
 obtain⟨c1,c2,c3,c4,c5⟩:=il scope.names (s3.heap.push { cls:=.type "dict",data:=.dict #[] }) cl0 (λx y c e1 e2=>I3.ok.inj x y c (cl01 x c e1) (cl01 y c e2)) λx c e=>by rw[hz3];exact LY (lt0 x c e)
 rw[hz3]at c1 c2 c3 c4 c5
 generalize hcl':Jj (s3.heap.objs.size+1) scope.names cl0=cl at*
 generalize hh₁:K4 (s3.heap.push { cls:=.type "dict",data:=.dict #[] }) scope.names=h₁ at*
 have below:∀b o,s3.heap.get? b=some o->b≠s3.heap.objs.size:=λb o e=>Iz (Hf e)
 -- a cell of the block's: one from around,or a new one
 have cl1:∀x c,cl.lookup x=some c->X.env.cells.lookup x=some c\/(s3.heap.objs.size<c/\h₁.IsCell c none):=λx c e=>(c1 x c e).imp (cl01 x c) id
 generalize hC:s3.heap.objs.size=C at*
 have stk:∀b,b≠X.env.locals->b∉X.fs->b∉iU X.stack:=λb h1 h2 z=>(Hd.mp (I3.FZ b z)).elim h1 h2
 have apart:∀b∈fp,∀x c,cl.lookup x=some c->c≠b:=λb hb x c e=>by
  rcases cl1 x c e with z | z
  ·exact(f3 b hb).2.2.2.2.1 x c z
  ·obtain⟨o,eo,_⟩:=T.obj _ _ st3 b hb
   have h1:=Hf eo;rw[hC]at h1;exact KY (Oh h1 z.1)
 have I4:Inv (aY X scope cl N' C s3 H3 fp) pins (c9 src σ) H3 { s3 with heap:=h₁ }:=by
  refine⟨⟨I3.ok.mod,S.kind,I3.ok.glob,I3.ok.blt,JT hC,c2,λx hx=> ?_,λx c hx e=>Ko (hC▸c5 x c (dw (beq_iff_eq.mp hx)) e),I3.ok.hd,I3.ok.frames,.inl rfl,
    λb hb=>⟨?_,λx c e=>apart b hb x c e⟩,I3.bs,Hz I3.ok.bsz I3.sz,λb o e z=> ?_,λb hb=>stk b (f3 b hb).2.1 (f3 b hb).2.2.1,I3.stack,I3.FR⟩,
   rfl,I3.bare,Un.kept old,⟨_,hns₁,λj x v e1 e2 e3=> ?_⟩,λx c e=> ?_,I3.hok.fresh (JT hC),λx c e=>(cl1 x c e).elim (I3.freeC x c) λz=>I3.hok.fresh (by rw[hC];exact Ko z.1),λp hp=> ?_,I3.hok.kept old,?_⟩
  ·have key:∀k,(relabel scope X.env).names.lookup x=some k->(k= .cell\/k= .free)->∃c,cl.lookup x=some c:=λk e hk=>by
    obtain⟨k',e',z⟩:=ff e
    have hk':k'= .cell\/k'= .free:=z.elim (λz=>z▸hk) .inr
    rcases hk' with q | q
    ·exact c4 x (.inl (q▸dw e'))
    ·exact c4 x (.inr (cl02 x (q▸dw e')))
   rcases hx with hx | hx
   ·exact key _ hx (.inl rfl)
   ·exact key _ hx (.inr rfl)
  ·obtain⟨o,eo,_⟩:=T.obj _ _ st3 b hb
   show b≠C
   exact below b o eo
  ·have z':b∈fp:=z
   obtain⟨_,_,_,z1,_⟩:=f3 b z';rcases z1 with z1 | z1
   ·exact I3.ok.noex b o e z1
   ·exact absurd (Hl (Hf (I3.ok.bs b o e).1) z1) (HB _)
  ·unfold c9 at e2
   rw[HN]at e2
   cases q:src[j]? with
   | none=>rw[q]at e2;simp at e2
   | some o=>
    rw[q]at e2
    cases o with
    | none=>simp at e2
    | some i=>
     have e2':(σ[i]?).join=some v:=by simpa using e2
     have e2'':σ[i]? =some (some v):=by
      cases q2:σ[i]? with
      | none=>rw[q2]at e2';simp at e2'
      | some z=>rw[q2]at e2';simp at e2';rw[e2']
     obtain⟨hN,hfree⟩:=S.from_ j i x q e1
     have hm:=dw hfree
     have hk:=S.free x hm;obtain⟨m,hn,hl⟩:=I3.loc
     have hv:rz X.env.scope x:=by
      rcases hk with z | z
      ·exact .inr (.inl z)
      ·exact .inr (.inr z)
     obtain⟨u,r,l⟩:=hl i x v hN e2'' hv;refine⟨u,r,.inr ⟨?_,?_⟩⟩
     ·exact eG hfree
     ·rcases l with⟨z,_⟩ | ⟨_,c,ec,ic⟩
      ·rcases hk with z' | z' <;> rw[z']at z <;> cases z
      ·obtain⟨c',ec0⟩:=cl02 x hm
       have ec':cl.lookup x=some c':=(c3 x λz=>by have:=S.cel _ z rfl;rw[hfree]at this;cases this).trans ec0
       have:=cl01 x c' ec0;rw[ec]at this;cases this;obtain⟨o,ho,hd⟩:=ic;exact⟨c,ec',o,old _ _ ho,hd⟩
  ·rcases cl1 x c e with z | z
   ·obtain⟨v,o,ho,hd⟩:=I3.cell x c z
    exact⟨v,o,old _ _ ho,hd⟩
   ·exact⟨none,z.2⟩
  ·obtain⟨e,n,ne,nf,d⟩:=I3.pin p hp
   exact⟨old _ _ e,n,below _ _ e,stk _ ne nf,d⟩
  ·show(c9 src σ).length=N'.length
   unfold c9;rw[G3];exact S.len
 obtain⟨bG,bI,bE⟩:=block cl C s3 H3 fp
 have stat:∀{H':Hp},(∀b∈fp,H' b=none)->∀b∈fp,ir (aY X scope cl N' C s3 H3 fp) pins H' b:=λhn b hb=>by
  obtain⟨o,eo,_⟩:=T.obj _ _ st3 b hb;exact⟨hn b hb,below b o eo,stk b (f3 b hb).2.1 (f3 b hb).2.2.1,.inl hb,apart b hb,(f3 b hb).2.2.2.2.2⟩
 have st4:tn 0 h₁:=T.keep _ _ _ st3 λb hb o e=>old b o e
 -- behind the block
 have after:∀(H':Hp) (s':GX) (σ':St),Inv (aY X scope cl N' C s3 H3 fp) pins σ' H' s'->Q (.ref D) H' →
   MX (model X.prog X.w) X.A X.xe use Qf (.ref D) C (.ok .next) s':=λH' s' σ' I' q=>by
  obtain⟨m,hn,_⟩:=id I'.loc
  have fC:X.s₀.heap.objs.size<=C:=by rw[<-hC];exact I3.sz
  have ltC:∀b o,s3.heap.get? b=some o->b<C:=λb o e=>by rw[<-hC];exact Hf e
  refine hend D C H' s' ⟨m,hn⟩ (λh' hsb=> ?_) ⟨I'.free,?_,fC,λx c e z=> ?_,λp hp z=> ?_⟩ q
  rotate_left
  ·have:=I3.lt;rw[hC]at this;exact KY this
  ·obtain⟨v,ic⟩:=I3.cell x c e
   have:=ic.lt;rw[hC,z]at this;exact HB _ this
  ·have:=ltC _ _ (I3.pin p hp).1;rw[z]at this;exact HB _ this
  have u:Un (iU X.stack) fp H3 H' s3.heap s'.heap:=I'.base
  have lift:∀b o,s3.heap.get? b=some o->∀o',s'.heap.get? b=some o'->h'.get? b=some o':=λb o e o' e'=>hsb.extBut b o' (below b o e) e'
  have u':Un (iU X.stack) fp H3 H' s3.heap h':=
   ⟨λb o e n hb hx=>lift b o e o (u.keep b o e n hb hx),λb o e n hb hx=>by
     obtain⟨sl,z⟩:=u.slot b o e n hb hx;exact⟨sl,lift b o e _ z⟩,u.free,λb o e hx=>by
     obtain⟨o',z⟩:=u.there b o e hx;exact⟨o',lift b o e _ z⟩,u.tups,u.frzs,u.tbls⟩
  have hCn:H' C=none:=I'.free
  have hok':HOk X.prog X.w H' h':=λb ob e=>by
   refine(I'.hok b ob e).FT (λc w' hc' q'=>(hsb.2 c ?_).trans q') (λ_ q=>q) λ_ _ q=>q
   rintro rfl
   rcases hc' with rfl | hc'
   ·rw[hCn]at e;cases e
   ·rw[hCn]at hc';cases hc'
  have I5:Inv X pins σ H' { s' with heap:=h' }:=I3.F7 (s':={ s' with heap:=h' }) (ch:=fp) I'.os u' hok' I'.bare λb hb=>⟨(f3 b hb).2.2.2.1,(f3 b hb).2.1,(f3 b hb).2.2.2.2.1,(f3 b hb).2.2.2.2.2⟩
  exact I5
 have loop:cC (model X.prog X.w) X.A (.compLoop (.ListComp elt [⟨tg,iter,ifs,0⟩] scope pos) 0 (.ref it) (.ref D) (compEnvC scope cl C X.env))
   (MX (model X.prog X.w) X.A X.xe use Qf (.ref D) C) { s3 with heap:=h₁ }:=by
  refine uo (λn s'=> ∃i σ' ys H',Inv (aY X scope cl N' C s3 H3 fp) pins σ' H' s'/\tn i s'.heap/\(∀b∈fp,H' b=none)/\W i n σ' ys H') ?_ m0 ⟨0,_,[],H3,I4,st4,fr3,w0⟩
  rintro n s5 ⟨i,σ5,ys,H5,I5,st5,fr5,w5⟩
  obtain⟨hDl,alt⟩:=turn i n σ5 ys H5 w5;rcases alt with⟨stop,qn⟩ | ⟨go,hlen,step⟩
  ·refine bJ (T.done (aY X scope cl N' C s3 H3 fp) rfl rfl rfl hc i pins s5 σ5 H5 _ I5 (stat fr5) st5 stop) λr s6 ⟨hr,I6⟩=> ?_
   subst hr;exact after H5 s6 σ5 I6 qn
  ·refine bJ (T.item (aY X scope cl N' C s3 H3 fp) rfl rfl rfl hc i pins s5 σ5 H5 _ I5 (stat fr5) st5 go) λr s6 ⟨u,hr,h6⟩=> ?_
   subst hr;refine bJ h6 λ_ s7 hh_=> ?_
   obtain⟨x,H7,I7,r7,y7,st7,fr7⟩:=hh_
   have I7':=I7.pinned (stat fr7) (T.obj _ _ st7);refine bJ (bG _ s7 σ5 H7 x u _ I7' r7 (step x H7 y7)) λ_ s8 hh_=> ?_
   obtain⟨σ8,H8,I8,q8⟩:=hh_;refine bJ (bI _ s8 σ8 H8 _ I8 q8) λok s9 hh_=> ?_
   obtain⟨H9,I9,q9⟩:=hh_
   have again:∀{σx:St} {Hx:Hp} {sx:GX} {ys':List V},Inv (aY X scope cl N' C s3 H3 fp) (pins++iM fp s7.heap) σx Hx sx->(∃m',m'<n/\W (i+1) m' σx ys' Hx) →
     ∃m,m<n/\∃i σ' ys H',Inv (aY X scope cl N' C s3 H3 fp) pins σ' H' sx/\tn i sx.heap/\(∀b∈fp,H' b=none)/\W i m σ' ys H':=λ{σx Hx sx ys'} Ix nx=>by
    obtain⟨m',hm,wx⟩:=nx;refine⟨m',hm,i+1,σx,ys',Hx,Ix.FM,T.keep _ _ _ st7 λb hb o e=>(Ix.pin (b,o) (Hg _ (Hg _ (cT hb e)))).1,λb hb=> ?_,wx⟩
    obtain⟨o,e,d⟩:=T.obj _ _ st7 b hb;exact(Ix.pin (b,o) (Hg _ (Hg _ (cT hb e)))).2.1
   cases ok with
   | false=>
    rw[if_neg Hq]at q9 ⊢
    exact again I9 q9
   | true=>
    rw[if_pos rfl]at q9 ⊢;refine iw (bE _ s9 σ8 H9 _ I9 q9) λv s10 hh_=> ?_
    obtain⟨y,H10,I10,r10,hD10,q10⟩:=hh_;refine bJ (mQ _ s10 σ8 H10 (.ref D) [y] (.ref D) [v] (λ_ H'=>H'=cz H10 D (.lst (ys++ [y]))) I10 rfl (.cons r10 .nil) ⟨D,ys,y,rfl,rfl,hD10,hlen,rfl⟩) λ_ s11 hh_=> ?_
    obtain⟨_,H11,I11,_,e11⟩:=hh_;subst e11;exact again I11 q10
 exact oB loop (T.self _ 0 _ _ _ st4 loop)
theorem Ff {elt tg iter:Expr}{ifs:List Expr}{scope:J8}{pos:Pos}{N':List Str}{src:List (Option Nat)}{wi:TI}{g:TG}{tc:TT}{te:TE}
  (hc:X.calm=true) (S:LcScope X scope N' src) (hi:PI X tg iter wi)
  (block:∀cl C s₀ H₀ fp,PG (aY X scope cl N' C s₀ H₀ fp) tg g/\ql (aY X scope cl N' C s₀ H₀ fp) ifs tc/\DE (aY X scope cl N' C s₀ H₀ fp) elt te)
  (hs:autoParam (∀x,Hw iter X.env x=pure x) t_) :
  DE X (.ListComp elt [⟨tg,iter,ifs,0⟩] scope pos) (A9 X.K wi src g tc te):=by
 intro pins s σ H Q I h;rw[eval_ListComp];exact wF (use:=none) hc S hi block hs I h λD C H' s' ⟨m,hn⟩ inv _ q=>⟨m,hn,λh' hsb=>⟨.ref D,H',inv h' hsb,rfl,q⟩⟩
end
def DT (X:Cx)(e:Expr)(t:TT):Prop:=
 ∀(pins:List (Addr×Obj)) (s:GX) (σ:St) (H:Hp) (Q:Bool->Hp->Prop),Inv X pins σ H s->t σ H Q->wC (model X.prog X.w) X.A (isTrue e X.env (eval e X.env)) (TP X pins σ Q) X.xe s
def DW (X:Cx)(e:Expr)(t:TT):Prop:=
 ∀(whole:Sem GZ) (pins:List (Addr×Obj)) (s:GX) (σ:St) (H:Hp) (Q:Bool->Hp->Prop),Inv X pins σ H s->t σ H Q->wC (model X.prog X.w) X.A (isTrue e X.env whole) (TP X pins σ Q) X.xe s
def DA (X:Cx)(es:List Expr)(t:TA):Prop:=
 ∀(pos:Pos) (pins:List (Addr×Obj)) (s:GX) (σ:St) (H:Hp) (Q:List V->Hp->Prop),Inv X pins σ H s->t σ H Q->wC (model X.prog X.w) X.A (spliced (backTo pos (Hj es X.env))) (AP X pins σ Q) X.xe s
def DSs (X:Cx)(st:List Stmt)(t:TS):Prop:=
 ∀(pins:List (Addr×Obj)) (s:GX) (σ:St) (H:Hp) (D:Ends),Inv X pins σ H s->t D σ H->wC (model X.prog X.w) X.A (execs st X.env) (SP X pins D) X.xe s
section
variable {X:Cx}{e:Expr}{es:List Expr}{st:Stmt}{sts:List Stmt}{te ue:TE}{tt ut:TT}{ta:TA}{ts us:TS}{pos:Pos}
theorem PE.d (h:PE X e te):DE X e te:=λpins s σ H Q I q=> .of (h pins s σ H Q I q)
theorem PT.d (h:PT X e tt):DT X e tt:=λpins s σ H Q I q=> .of (h pins s σ H Q I q)
theorem PA.d (h:PA X es ta):DA X es ta:=λp pins s σ H Q I q=> .of (h p pins s σ H Q I q)
theorem PS.d (h:PS X st ts):DS X st ts:=λpins s σ H D I q=> .of (h pins s σ H D I q)
theorem PSs.d (h:PSs X sts ts):DSs X sts ts:=λpins s σ H D I q=> .of (h pins s σ H D I q)
theorem DE.imp (h:DE X e te)(w:∀σ H Q,ue σ H Q->te σ H Q):DE X e ue:=λpins s σ H Q I q=>h pins s σ H Q I (w σ H Q q)
theorem DS.imp (h:DS X st ts)(w:∀D σ H,us D σ H->ts D σ H):DS X st us:=λpins s σ H D I q=>h pins s σ H D I (w D σ H q)
theorem DSs.imp (h:DSs X sts ts)(w:∀D σ H,us D σ H->ts D σ H):DSs X sts us:=λpins s σ H D I q=>h pins s σ H D I (w D σ H q)
theorem DSs.nox (h:DSs X.nox sts ts):DSs X sts ts:=λpins s σ H D I hw=>cO (h pins s σ H D (I.FJ _) hw) (λ_ _ q=>q.FN) λ_ _ z=>Jb z
theorem xp (h1:DS X st ts)(h2:DSs X sts us):DSs X (st::sts) (Dm ts us):=by
 intro pins s σ H D I h;refine fx (iw (h1 pins s σ H { D with nx:=us D } I h) λf s1 q=> ?_)
 cases f with
 | next=>
  obtain⟨σ',H',I',q⟩:=q
  exact h2 pins s1 σ' H' D I' q
 | _=>exact q
theorem zJ (h1:DS X st ts):DSs X [st] ts:=by
 intro pins s σ H D I h;refine fx (iw (h1 pins s σ H D I h) λf s1 q=> ?_)
 cases f with
 | next=>exact .of (Kd q)
 | _=>exact q
theorem CJ (he:DE X e te):DS X (.Return (some e) pos) (Dn te):=λpins s σ H D I h=>
 mz (iw (he pins s σ H _ I h) λv s1 ⟨x,H1,I1,r1,q1⟩=>⟨x,σ,H1,I1,r1,q1⟩)
theorem E7 {a b:List Stmt}(hc:DT X e tt)(ha:DSs X a ts)(hb:DSs X b us):DS X (.If e a b pos) (Dt tt ts us):=by
 intro pins s σ H D I h;refine Df (iw (hc pins s σ H _ I h) λd s1 hh_=> ?_)
 obtain⟨H1,I1,q1⟩:=hh_
 cases d with
 | true=>exact ha pins s1 σ H1 D I1 q1
 | false=>exact hb pins s1 σ H1 D I1 q1
theorem CH (ha:DT X e tt):DW X (.BoolOp .Or [e] pos) tt:=by
 intro wh pins s σ H Q I h;refine uO (iw (ha pins s σ H Q I h) λc s1 e=> ?_)
 cases c with
 | false=>exact .of (isTrue_or_nil e)
 | true=>exact e
theorem E5 {b:Expr}{a9:List Expr}(ha:DT X e tt)(hb:DW X (.BoolOp .Or (b::a9) pos) ut):DW X (.BoolOp .Or (e::b::a9) pos) (tOr tt ut):=by
 intro wh pins s σ H Q I h;refine uO (iw (ha pins s σ H _ I h) λc s1 hh_=> ?_)
 obtain⟨H1,I1,q1⟩:=hh_
 cases c with
 | true=>exact⟨H1,I1,q1⟩
 | false=>exact hb wh pins s1 σ H1 Q I1 q1
theorem zT (ha:DE X e te)(hr:DA X es ta)(hs:Hj (e::es) X.env=(false,eval e X.env)::Hj es X.env):DA X (e::es) (jm te ta):=by
 intro pos pins s σ H Q I h;rw[hs]
 show wC _ _ (spliced ((false,eval e X.env)::backTo pos (Hj es X.env))) _ _ s
 refine kM (iw (ha pins s σ H _ I h) λu s1 hh_=> ?_)
 obtain⟨x,H1,I1,r1,q1⟩:=hh_;exact iw (hr pos pins s1 σ H1 _ I1 q1) λus s2 ⟨xs,H2,I2,r2,q2⟩=>⟨x::xs,H2,I2,.cons r1 r2,q2⟩
theorem CP {x1:Nat}(h:DA X es ta):DE X (.Tuple es x1 pos) (Dj ta):=by
 intro pins s σ H Q I hq;refine uR (iw (h pos pins s σ H _ I hq) λus s1 ⟨xs,H1,I1,r,z,q⟩=>⟨by rw[<-r.length];exact z,?_⟩)
 have hf:H1 s1.heap.objs.size=none:=I1.hok.fresh (He _);refine⟨.ref s1.heap.objs.size,cz H1 s1.heap.objs.size (.tup xs),I1.laid (t':=s1.toks) (λb u e=>G2 _ e) (He _) ?_,rfl,q _ hf⟩
 exact⟨z,us,r,⟨_,Hk _ rfl,rfl,_,rfl⟩⟩
end
structure lX (P:Hr)(w:HS)(K:GW)(mg:Str->Option GZ)(base:Heap)(CX:uA)(k:Nat)(f:Addr)(fd:Ib)(ps:List Str)(sp:Sp):Prop where
 len:∀vs H Q E,sp vs H Q E->vs.length=ps.length
 run:∀(A:HF) (outer:List Env) (s:GX) (H:Hp) (args:Args) (us:List GZ) (vs:List V) (Q:VK) (E:XK),Room k A->my P w K mg base A outer s H->Mj s fd args (ps.zip us)->Vals vs us->sp vs H Q E →
  cC (model P w) A (.call (.ref f) args) (CR CX outer P w H s Q E) s
theorem Cz {CX:uA}{P:Hr}{w:HS}{K:GW}{mg:Str->Option GZ}{base:Heap}{k:Nat}{f:Addr}{name qual:Str}{params:L6}{body:List Stmt}{scope:J8}{dV kV doc pm cdv ct oc:GZ}{an od:Option Addr}
  {osl:Array (Option GZ)} {N ps:List Str} {sp:Sp} (lk:K.lookup f=some ⟨oc,od,.func (JS name qual params body scope dV kV doc pm an cdv ct),osl⟩) (hcd:LH K cdv qual=true) (S:bM N ps scope)
  (len:∀vs H Q E,sp vs H Q E->vs.length=ps.length)
  (hbody:∀(A:HF) (outer:List Env) (s:GX) (H:Hp) (vs:List V) (Q:VK) (E:XK),Room k (A.deeper (envOfC qual scope s.heap.objs.size f cdv))->sp vs H Q E →
   ∃t,DSs (eR CX P w K mg base N qual scope f cdv A outer s H E) body t/\t { nx:=λ_ H'=>Q .non H',rt:=Q } (start N vs) H) :
  lX P w K mg base CX (k+1) f (JS name qual params body scope dV kV doc pm an cdv ct) ps sp:=by
 refine⟨len,λA outer s H args us vs Q E hr e0 hb r hsp=> ?_⟩
 have hl:=len _ _ _ _ hsp
 have KX:K.In s.heap:=e0.mod.kin.keeps λb o e=>(e0.bs b o e).1
 have lim:s.heap.NoLimit:=e0.mod.nolimit.keeps λb o e=>(e0.bs b o e).1
 have hkind:∀y∈ps.zip us,scope.names.lookup y.1=some .local\/(scope.names.lookup y.1=some .cell/\((Jj (s.heap.objs.size+1) scope.names []).lookup y.1).isSome=true):=λ⟨n,v⟩ hy=>by
  rcases S.par n (JN hy).1 with q | q
  ·exact .inl q
  ·exact .inr ⟨q,IY _ _ _ (.inl q)⟩
 refine AS hr.depth (KX _ _ lk) rfl S.co S.gen rfl (J5 KX hcd) (hb _ _ _ _ ?_)
 refine IX S.kind hkind λenv he s1 x=> ?_
 subst he;refine⟨lim.keeps x.toInCall.keep,sT ?_⟩
 obtain⟨t,ht,hq⟩:=hbody A outer s H vs Q E (hr.deeper _) hsp
 have I:Inv (eR CX P w K mg base N qual scope f cdv A outer s H E) [] (start N vs) H s1:=fO S hr.hd e0 hl r x;refine cO (ht [] s1 (start N vs) H _ I hq) (λfl s' hs=> ?_) λe s' hs=>hs
 have fin:∀{σ':St} {H':Hp} {v:V} {u:GZ},Inv (eR CX P w K mg base N qual scope f cdv A outer s H E) [] σ' H' s'->RelV v u->Q v H'->CE outer P w H s Q u s':=
  λ{σ' H' v u} J rv q=>⟨v,H',J.os,J.bare,J.base,J.hok,rv,q⟩
 cases fl with
 | ret u=>
  obtain⟨v,σ',H',J,rv,q⟩:=hs
  exact fin J rv q
 | next=>
  obtain⟨σ',H',J,q⟩:=hs
  exact fin (v:=V.non) (u:=HQ) J rfl q
 | brk=>
  obtain⟨_,_,_,q⟩:=hs
  exact Jb q
 | cont=>
  obtain⟨_,_,_,q⟩:=hs;exact Jb q
section
variable {X:Cx}{CX:uA}{k:Nat}{f C:Addr}{fd:Ib}{ps:List Str}{sp:Sp}{dvs:List V}{ds:List GZ}{E:XK}{x m:Str}{p pos apos:Pos}{e o:Expr}{es:List Expr}{ta:TE}{t:TA}
theorem yk {pins:List (Addr×Obj)}{σ:St}{H:Hp}{s:GX}{Q:VK}{us:List GZ}{vs:List V}(F:lX X.prog X.w X.K X.mg X.base CX k f fd ps sp)(hr:Room k X.A)(hb:Binds X.K fd ps ds)(hd:Vals dvs ds)(hx:oG CX X E)
  (I:Inv X pins σ H s) (r:Vals vs us) (h:sp (vs++dvs) H Q E):wC (model X.prog X.w) X.A (call (.ref f) us) (EP X pins σ Q) X.xe s:=by
 have r2:Vals (vs++dvs) (us++ds):=r.append hd
 have hl:(us++ds).length=ps.length:=by rw[<-r2.length];exact F.len _ _ _ _ h
 refine jc (ip (F.run X.A X.stack s H ⟨us,[]⟩ (us++ds) (vs++dvs) Q E hr I.Gc (hb s us I.kIn hl) r2 h) λr s' hq=> ?_)
 cases r with
 | error e=>exact hx pins σ H s e s' I hq
 | ok fl=>
  cases fl with
  | ret u=>exact I.after hq
  | next=>exact Jb hq
  | brk=>exact Jb hq
  | cont=>exact Jb hq
end
end L2
namespace Tr
open PySem PySem.Spec PyProof.Rows L2
def Fp (P:Hr)(w:HS)(K:GW)(mg:Str->Option GZ)(base:Heap)(k:Nat)(f:Addr)(fd:Ib)(ps:List Str)(n:Nat)(g:List T->Rs T):Prop:=
 ∀(A:HF) (outer:List Env) (s:GX) (H:Hp) (args:Args) (us:List GZ) (vs:List V) (O:Ow) (ts:List T) (c:Str) (R:KN->GX->Prop),Room k A->my P w K mg base A outer s H->Mj s fd args (ps.zip us)->Vals vs us →
  Reps K O H ts vs->(∀a,O a->Mtb H a)->ts.length=n->g ts= .err c->(∀ev s',RzC P w mg outer H s c ev s'->R (.error ev) s')->cC (model P w) A (.call (.ref f) args) R s
structure xQ (P:Hr)(w:HS)(K:GW)(mg:Str->Option GZ)(base:Heap)(k:Nat)(f:Addr)(fd:Ib)(ps:List Str)(n:Nat)(g:List T->Rs T):Prop where
 h:lX P w K mg base CX0 k f fd ps (spP K n g)
 x:Fp P w K mg base k f fd ps n g
abbrev oH (X:Cx)(s:List Stmt)(F:En->Rs Fl):Prop:=DSs X s (Fv X F)
section
variable {P:Hr}{w:HS}{K:GW}{mg:Str->Option GZ}{base:Heap}
theorem CA {x qual:Str}{st:Stmt}{f:Addr}{fd:Ib}{N ps:List Str}{k n:Nat}{g:List T->Rs T}(Fn:L2.Fun K x qual st f fd)(S:bM N ps (ao st))(hn:ps.length=n)
  (hbody:∀(cdv:GZ) (A:HF) (outer:List Env) (s:GX) (H:Hp) (E:XK),Room k (A.deeper (envOfC qual (ao st) s.heap.objs.size f cdv)) →
   ∃F,oH (eR CX0 P w K mg base N qual (ao st) f cdv A outer s H E).nox (bq st) F/\∀ts,ts.length=n->∀t,g ts= .ok t->bh F (aG N.length ts)= .ok t):lX P w K mg base CX0 (k+1) f fd ps (spP K n g):=by
 have hpl:ps.length<=N.length:=by have:=congrArg Jc S.pre;rw[IK]at this;omega
 obtain⟨oc,od,kV,doc,pm,an,cdv,ct,osl,rfl,lk,hcd⟩:=Fn.ex;refine Cz lk hcd S (λvs H Q E h=> ?_) λA outer s H vs Q E hr h=> ?_
 ·obtain⟨ts,O,r,_,hl,_⟩:=h
  rw[<-r.length,hl,hn]
 ·obtain⟨ts,O,r,trk,hl,h⟩:=h
  obtain⟨F,hF,hv⟩:=hbody cdv A outer s H E hr;refine⟨_,hF.nox,aG N.length ts,O,noM,hG r (by omega) trk,?_⟩
  have no:∀a,¬noM.u a:=λa ⟨_,z⟩=>z
  cases q:g ts with
  | bad=>rw[q]at h;exact h.elim
  | err c=>rw[q]at h;exact h.elim
  | ok t=>
   rw[q]at h
   have hb:=hv ts hl t q;unfold bh at hb
   cases q2:F (aG N.length ts)with
   | bad=>rw[q2]at hb;cases hb
   | err c=>rw[q2]at hb;cases hb
   | ok fl=>
    rw[q2,aF]at hb
    have sameOf:∀H',SameO noM.u H H'->Same H H':=λH' s b o e=>s b o e (no b)
    cases fl with
    | nx ρ'=>cases hb;exact λσ' H' M' s' E' o'=>h .non H' (sameOf H' s') Rep.Gi
    | rt t'=>cases hb;exact λv H' s' r'=>h v H' (sameOf H' s') r'
    | bk ρ'=>cases hb
    | ct ρ'=>cases hb
theorem zy {x qual:Str}{st:Stmt}{f:Addr}{fd:Ib}{N ps:List Str}{k n:Nat}{g:List T->Rs T}(Fn:L2.Fun K x qual st f fd)(S:bM N ps (ao st))(hn:ps.length=n)
  (hbody:∀(cdv:GZ) (A:HF) (outer:List Env) (s:GX) (H:Hp) (E:XK),Room k (A.deeper (envOfC qual (ao st) s.heap.objs.size f cdv)) →
   ∃F,(∀xe,oH ((eR CX0 P w K mg base N qual (ao st) f cdv A outer s H E).FJ xe) (bq st) F)/\∀ts,ts.length=n->∀c,g ts= .err c->F (aG N.length ts)= .err c):Fp P w K mg base (k+1) f fd ps n g:=by
 intro A outer s H args us vs O ts c R hr e0 hb r rs trk hl hg hR
 have hpl:ps.length<=N.length:=by have:=congrArg Jc S.pre;rw[IK]at this;omega
 obtain⟨oc,od,kV,doc,pm,an,cdv,ct,osl,rfl,lk,hcd⟩:=Fn.ex
 have hlen:vs.length=ps.length:=by rw[<-rs.length,hl,hn]
 have KX:K.In s.heap:=e0.mod.kin.keeps λb o e=>(e0.bs b o e).1
 have lim:s.heap.NoLimit:=e0.mod.nolimit.keeps λb o e=>(e0.bs b o e).1
 have hkind:∀y∈ps.zip us,(ao st).names.lookup y.1=some .local\/((ao st).names.lookup y.1=some .cell/\((Jj (s.heap.objs.size+1) (ao st).names []).lookup y.1).isSome=true):=λ⟨n,v⟩ hy=>by
  rcases S.par n (JN hy).1 with q | q
  ·exact .inl q
  ·exact .inr ⟨q,IY _ _ _ (.inl q)⟩
 refine AS hr.depth (KX _ _ lk) rfl S.co S.gen rfl (J5 KX hcd) (hb _ _ _ _ ?_)
 refine IX S.kind hkind λenv he s1 x=> ?_
 subst he;refine⟨lim.keeps x.toInCall.keep,sT ?_⟩
 obtain⟨F,hF,hv⟩:=hbody cdv A outer s H E0 (hr.deeper _)
 let xe:GZ->GX->Prop:=λev s'=>wpAny (model P w) (A.deeper (envOfC qual (ao st) s.heap.objs.size f cdv)) (leaving (envOfC qual (ao st) s.heap.objs.size f cdv) ev) (λ_ s''=>R (.error ev) s'') (λe' s''=>R (.error e') s'') s'
 have I:Inv ((eR CX0 P w K mg base N qual (ao st) f cdv A outer s H E0).FJ xe) [] (start N vs) H s1:=(fO S hr.hd e0 hlen r x).FJ _
 have no:∀a,¬noM.u a:=λa ⟨_,z⟩=>z
 refine cO (hF xe [] s1 (start N vs) H { nx:=λ_ _=>False,rt:=λ_ _=>False,bk:=λ_ _=>False,ct:=λ_ _=>False } I ⟨aG N.length ts,O,noM,hG rs (by omega) trk,?_⟩) (λfl s' z=> ?_) λe s' hs=>hs
 rotate_left
 ·cases fl with
  | next=>obtain⟨_,_,_,z⟩:=z;exact z.elim
  | cont=>obtain⟨_,_,_,z⟩:=z;exact z.elim
  | brk=>obtain⟨_,_,_,z⟩:=z;exact z.elim
  | ret v=>obtain⟨_,_,_,_,_,z⟩:=z;exact z.elim
 rw[hv ts hl c hg];intro pins ev s' w'
 show wpAny _ _ _ _ _ _
 obtain⟨e,T,C,σ',H',rfl,hm,I',sm,he,heo,fl,hT,_⟩:=w'
 have heo:=heo rfl
 have hT:∀t,T=some t->H' t=none/\s.heap.get? t=none:=λt z=>⟨(hT t z).1,(hT t z).2 rfl⟩
 refine wA (base:=base) (outer:=outer) (L:=s.heap.objs.size) I'.ok.frames I'.stack rfl fl λh' T' g=>hR _ _ ?_
 have hex:((eR CX0 P w K mg base N qual (ao st) f cdv A outer s H E0).FJ xe).ex= []:=rfl
 have Tn:H' T'=none/\s.heap.get? T'=none:=by
  rcases g.new with z | z
  ·exact hT T' z
  ·exact⟨gI I' z,fW I' hex z⟩
 have out:∀b o,s.heap.get? b=some o->b≠s.heap.objs.size:=λb o q z=>by
  have:=Hf q;rw[z]at this;exact absurd this (HB _)
 have mem:∀b,b∈iU ((envOfC qual (ao st) s.heap.objs.size f cdv)::outer)->b=s.heap.objs.size\/b∈iU outer:=λb z=>by
  have z':b∈s.heap.objs.size::iU outer:=z;exact Hd.mp z'
 have ne:∀b o,s.heap.get? b=some o->b≠e/\T≠some b:=λb o q=>⟨λz=>(by subst z;rw[show s.heap.get? b=none from heo]at q;cases q),λz=>(by rw[show s.heap.get? b=none from(hT b z).2]at q;cases q)⟩
 have keepH:∀b u,H' b≠none->s'.heap.get? b=some u->h'.get? b=some u:=λb u hb q=>by
  refine g.keep b u (λz=>hb (I'.FR b z)) (λz=>hb (by rw[z];exact he)) (λz=>hb (hT b z).1) q
 refine⟨e,T',C,H',rfl,hm,I'.os,I'.bare,⟨λb o q n hb hx=> ?_,λb o q n hb hx=> ?_,λb o q n hx=>I'.base.free b o q n hx,λb o q hx=> ?_,I'.base.tups,I'.base.frzs,I'.base.tbls⟩,λa o q=> ?_,λb o q=>sm b o q (no b),he,heo,g.flt,Tn.1,Tn.2⟩
 ·exact g.keep b o (λz=>(mem b z).elim (out b o q) hb) (ne b o q).1 (ne b o q).2 (I'.base.keep b o q n hb hx)
 ·obtain⟨sl,q1⟩:=I'.base.slot b o q n hb hx
  obtain⟨sl',q2⟩:=g.slot b _ (G5 _ hb) q1;exact⟨sl',q2⟩
 ·obtain⟨o',q1⟩:=I'.base.there b o q hx
  by_cases z:b∈iU ((envOfC qual (ao st) s.heap.objs.size f cdv)::outer)
  ·obtain⟨sl,q2⟩:=g.slot b o' z q1
   exact⟨_,q2⟩
  ·exact⟨o',g.keep b o' z (ne b o q).1 (ne b o q).2 q1⟩
 ·refine(I'.hok a o q).FT (λb u hb z=>keepH b u ?_ z) (λ_ z=>z) λ_ _ z=>z
  rcases hb with rfl | hb
  ·rw[q];simp
  ·rw[hb];simp
theorem sE {x qual:Str}{st:Stmt}{f:Addr}{fd:Ib}{N ps:List Str}{k n:Nat}{F:En->Rs Fl}(Fn:L2.Fun K x qual st f fd)(S:bM N ps (ao st))(hn:ps.length=n)
  (hbody:∀(cdv:GZ) (A:HF) (outer:List Env) (s:GX) (H:Hp) (E:XK),Room k (A.deeper (envOfC qual (ao st) s.heap.objs.size f cdv)) →
   ∀xe,oH ((eR CX0 P w K mg base N qual (ao st) f cdv A outer s H E).FJ xe) (bq st) F):xQ P w K mg base (k+1) f fd ps n (val n N.length F):=
 ⟨CA Fn S hn λcdv A outer s H E hr=>⟨F,hbody cdv A outer s H E hr _,λts _ _ h=>uT h⟩,zy Fn S hn λcdv A outer s H E hr=>⟨F,hbody cdv A outer s H E hr,λts _ c h=>rH h⟩⟩
end
section
variable {X:Cx}{k n:Nat}{f:Addr}{fd:Ib}{ps:List Str}{g:List T->Rs T}{pins:List (Addr×Obj)}{σ:L2.St}{H:Hp}{s:GX}{us:List GZ}{vs:List V}{ts:List T}{O:Ow}{Q:VK}
theorem Bm (F:xQ X.prog X.w X.K X.mg X.base k f fd ps n g)(hr:Room k X.A)(hb:Binds X.K fd ps [])(hps:ps.length=n)(I:Inv X pins σ H s)(r:Vals vs us)(rs:Reps X.K O H ts vs)(mt:∀a,O a->Mtb H a)(hl:ts.length=n)
  (hq:Post X H (g ts) λt H'=> ∀v,Rep X.K O H' t v->Q v H'):wC (model X.prog X.w) X.A (call (.ref f) us) (EP X pins σ Q) X.xe s:=by
 cases q2:g ts with
 | bad=>rw[q2]at hq;exact hq.elim
 | ok t=>
  rw[q2]at hq;refine yk (E:=E0) (dvs:=[]) (ds:=[]) F.h hr hb .nil v5 I r ⟨ts,O,by simpa using rs,mt,hl,?_⟩
  rw[q2]
  exact λv H' s2 rr=>hq H' s2 v rr
 | err c=>
  rw[q2]at hq
  have hlen:us.length=ps.length:=by rw[<-r.length,<-rs.length,hl,hps]
  have hb':=hb s us I.kIn (by rw[Ii];exact hlen)
  rw[Ii]at hb';refine jc (ip (F.x X.A X.stack s H ⟨us,[]⟩ us vs O ts c (λr s'=>match r with | .error ev=>X.xe ev s' | _=>False) hr I.Gc hb' r rs mt hl q2 λev s' w=> ?_) λr s' hq=> ?_)
  ·obtain⟨ea,T,C,H',rfl,hmc,ho,hbare,hun,hok,sm2,hea,heo,fl,hT,hTo⟩:=w
   have I2:Inv X pins σ H' s':=I.F7 ho hun hok hbare (λb z=>absurd z (by simp))
   exact hq pins _ _ ⟨ea,some T,C,σ,H',rfl,hmc,I2,λb o q _=>sm2 b o q,hea,λhex=>fW I hex heo,fl,(λt zt=>by cases zt;exact⟨hT,λhex=>fW I hex hTo⟩),λpp hpp=>⟨λzz=>(by have:=(I.pin pp hpp).1;rw[zz,heo]at this;cases this),λzz=>(by cases zz;have:=(I.pin pp hpp).1;rw[hTo]at this;cases this)⟩⟩
  ·cases r with
   | error ev=>exact hq
   | ok fl=>exact hq.elim
end
end Tr
namespace L2
open PySem PySem.Spec PyProof.Rows
theorem CL {X:Cx}{pos:Pos}{tg e:Expr}{te:TE}{g:TG}(he:DE X e te)(hg:PG X tg g)(hs:KD [tg] e pos.line X.env=pure false)(hw:KF [tg] e X.env=pure none)
  (h1:(ID [tg] X.env).map (·.2)= [assign tg X.env]):DS X (.Assign [tg] e pos) (vi te g):=by
 intro pins s σ H D I h;rw[exec_Assign_arm];refine eX ?_
 rw[hs];refine ay (Ha ?_)
 rw[if_neg (by decide)]
 refine aV (iw (he pins s σ H _ I h) λv s1 hh_=> ?_)
 obtain⟨x,H1,I1,r1,q1⟩:=hh_;rw[hw];refine ay (Ha ?_)
 show wC _ _ (do assignAll v ((ID [tg] X.env).map (·.2));pure Flow.next) _ _ s1
 rw[h1];exact .of (G1 (bJ (hg pins s1 σ H1 x v _ I1 r1 q1) λ_ s2 q=>Ha q))
end L2
namespace Tr
open PySem PySem.Spec PyProof.Rows L2
abbrev xS (X:Cx)(e:Expr)(f:En->Rs T):Prop:=DE X e (tP X f)
abbrev C7 (X:Cx)(e:List Expr)(f:En->Rs (List T)):Prop:=DA X e (tPA X f)
abbrev Fq (X:Cx)(e:Expr)(f:En->Rs Bool):Prop:=DT X e (uD X f)
abbrev FH (X:Cx)(e:Expr)(f:En->Rs Bool):Prop:=DW X e (uD X f)
abbrev C1 (X:Cx)(s:Stmt)(F:En->Rs Fl):Prop:=DS X s (Fv X F)
section
variable {X:Cx}{a b c e:Expr}{es a9:List Expr}{fa fb fc:En->Rs T}{f g:En->Rs Bool}{fs:En->Rs (List T)}{pos p:Pos}{x:Str}
theorem E9 {es:List Expr}{x1:Nat}{pos:Pos}{f:En->Rs (List T)}(h:C7 X es f):xS X (.Tuple es x1 pos) (br f):=by
 intro pins s σ H Q I ⟨ρ,O,E,hq⟩;refine CP h pins s σ H Q I ?_
 obtain⟨ρ1,O1,E1,h1⟩:=dG E hq;refine⟨ρ1,O1,E1,Post.mono h1 λts H1 s1 q vs r=> ?_⟩
 obtain⟨t',r',s',E',q'⟩:=q vs r;unfold e9 at q'
 split at q'
 ·rename_i hz
  refine⟨by rw[<-r'.length];exact hz,λp hp=> ?_⟩
  exact q' _ (aW hp _) _ (dH hp (E'.fresh hp) r')
 ·exact q'.elim
theorem da_c {e:Expr}{es:List Expr}{f:En->Rs T}{g:En->Rs (List T)}(he:xS X e f)(hr:C7 X es g)(hs:autoParam (Hj (e::es) X.env=(false,eval e X.env)::Hj es X.env) u_):C7 X (e::es) (ae f g):=by
 intro pos pins s σ H Q I h;obtain⟨ρ,O,E,h⟩:=h;refine zT he hr hs pos pins s σ H Q I ?_
 obtain⟨ρ1,O1,E1,h1⟩:=aR E h;refine⟨ρ1,O1,E1,Post.mono h1 λt H' s q v r=> ?_⟩
 obtain⟨t',r',s',E',q'⟩:=q v r;refine⟨ρ,O,E',Post.mono q'.bind λts H2 s2 q2 vs rs=> ?_⟩
 exact q2 H2 (Same.refl H2) _ (Reps.FL (r'.same s2) rs)
theorem CI {op:O0}{g:T->T->Rs T}(ho:OpT X (Iw op) g)(ha:xS X a fa)(hb:xS X b fb)(hm:autoParam (Js op b=false) u_):Fq X (.Compare a [op] [b] pos) (tb (o2 g fa fb)):=by
 intro pins s σ H Q I ⟨ρ,O,E,hq⟩
 have hq':Post X H (o2 g fa fb ρ) λt H'=> ∀v,Rep X.K O H' t v->∃k,v= .bl k/\Q k H':=Post.mono hq.bind λt H' s' q v r=>by
  split at q
  ·exact⟨_,Rep.FK.mp r,q H' (Same.refl H')⟩
  ·exact q.elim
 have h1:=aR E hq';refine yc (iw (ha pins s σ H _ I h1) λv s1 ⟨x,H1,I1,r1,t,rt,s',E',q1⟩=> ?_) hm
 have h2:=aR (f:=fb) E' q1;refine iw (hb pins s1 σ H1 _ I1 h2) λu s2 hh_=> ?_
 obtain⟨y,H2,I2,r2,t2,rt2,s'',E'',q2⟩:=hh_;refine iw (.of (ho pins s2 σ H2 O t t2 x y v u _ I2 (λp=>E''.fresh) (rt.same s'') rt2 r1 r2 q2)) λd s3 hh_=> ?_
 obtain⟨z,H3,I3,r3,k,e,q3⟩:=hh_;subst e;cases r3;exact .of (IC ⟨H3,I3,q3⟩)
theorem zH (ha:Fq X a f):FH X (.BoolOp .Or [a] pos) f:=CH ha
theorem CG (ha:Fq X a f)(hb:FH X (.BoolOp .Or (b::a9) pos) g):FH X (.BoolOp .Or (a::b::a9) pos) (kn f g):=by
 intro wh pins s σ H Q I ⟨ρ,O,E,hq⟩;refine E5 ha hb wh pins s σ H Q I ?_
 obtain⟨ρ1,O1,E1,h1⟩:=jk E hq;refine⟨ρ1,O1,E1,Post.mono h1 λk H1 s1 q=> ?_⟩
 obtain⟨s',E',q'⟩:=q
 cases k with
 | true=>rw[if_pos rfl];exact q' H1 (Same.refl H1)
 | false=>rw[if_neg Hq];exact⟨ρ,O,E',by simpa using q'⟩
theorem zM {st:Stmt}{a9:List Stmt}{F G:En->Rs Fl}(h1:C1 X st F)(h2:oH X a9 G):oH X (st::a9) (aI F G):=DSs.imp (xp h1 h2) λD σ H hh_=>by
 obtain⟨ρ,B,M,E,h⟩:=hh_;refine⟨ρ,B,M,E,?_⟩
 unfold aI at h
 cases q:F ρ with
 | bad=>rw[q]at h;exact h.elim
 | err c=>rw[q]at h;exact h
 | ok f=>
  rw[q,aF]at h
  cases f with
  | nx ρ'=>exact λσ' H' M' s' E' o'=>⟨ρ',B,M',E',h.later s' o'⟩
  | rt t=>exact h
  | bk ρ'=>exact h
  | ct ρ'=>exact h
theorem zK (ha:xS X a fa):C1 X (.Return (some a) pos) (aL fa):=DS.imp (CJ ha) λD σ H hh_=>by
 obtain⟨ρ,B,M,E,h⟩:=hh_;refine⟨ρ,OO B M,E.o,?_⟩
 unfold aL at h
 cases q:fa ρ with
 | bad=>rw[q]at h;exact h.elim
 | err c=>rw[q]at h;exact PostF.xa h
 | ok t=>
  rw[q,aF]at h;exact λH' s v r=>h v H' (SameO.of s) (r.less λ_ z=> .inl z)
theorem CK {f:En->Rs Bool}{A B:List Stmt}{F G:En->Rs Fl}(hc:Fq X c f)(ha:oH X A F)(hb:oH X B G):C1 X (.If c A B pos) (ei f F G):=DS.imp (E7 hc ha hb) λD σ H hh_=>by
 obtain⟨ρ,B,M,E,h⟩:=hh_;refine⟨ρ,OO B M,E.o,?_⟩
 unfold ei at h
 cases q:f ρ with
 | bad=>rw[q]at h;exact h.elim
 | err c=>rw[q]at h;exact PostF.xa h
 | ok k=>
  rw[q,aF]at h;intro H' s
  have E':Ev X.K B M H' ρ σ:=E.same s
  cases k with
  | true=>refine L2.iteT ?_;exact⟨ρ,B,M,E',PostF.later (by simpa using h) (SameO.of s) λa z=> .inl z⟩
  | false=>refine L2.iteF ?_;exact⟨ρ,B,M,E',PostF.later (by simpa using h) (SameO.of s) λa z=> .inl z⟩
theorem d_lc {elt tg iter:Expr}{ifs:List Expr}{scope:J8}{N':List Str}{src:List (Option Nat)}{fi:En->Rs (List T)}{tgt:T->En->Rs En}{fc:En->Rs Bool}{fe:En->Rs T}
  (hc:X.calm=true) (S:LcScope X scope N' src) (hi:xN X tg iter fi)
  (block:∀cl C s₀ H₀ fp,xO (aY X scope cl N' C s₀ H₀ fp) tg tgt/\ql (aY X scope cl N' C s₀ H₀ fp) ifs (uD (aY X scope cl N' C s₀ H₀ fp) fc)/\xS (aY X scope cl N' C s₀ H₀ fp) elt fe)
  (hs:autoParam (∀x,Hw iter X.env x=pure x) t_) :
  xS X (.ListComp elt [⟨tg,iter,ifs,0⟩] scope pos) (fz fi src tgt fc fe):=by
 have hPG:∀cl C s₀ H₀ fp,PG (aY X scope cl N' C s₀ H₀ fp) tg (xT X tgt):=λcl C s₀ H₀ fp=>(block cl C s₀ H₀ fp).1
 have hPI:∀cl C s₀ H₀ fp,ql (aY X scope cl N' C s₀ H₀ fp) ifs (tPT0 X.K fc):=λcl C s₀ H₀ fp pins s σ H Q I h=>(block cl C s₀ H₀ fp).2.1 pins s σ H Q I (tPT0.up (X:=aY X scope cl N' C s₀ H₀ fp) h)
 have hPE:∀cl C s₀ H₀ fp,DE (aY X scope cl N' C s₀ H₀ fp) elt (tP0 X.K fe):=λcl C s₀ H₀ fp pins s σ H Q I h=>(block cl C s₀ H₀ fp).2.2 pins s σ H Q I (tP0.up (X:=aY X scope cl N' C s₀ H₀ fp) h)
 exact DE.imp (Ff (g:=xT X tgt) (tc:=tPT0 X.K fc) (te:=tP0 X.K fe) hc S hi (λcl C s₀ H₀ fp=>⟨hPG cl C s₀ H₀ fp,hPI cl C s₀ H₀ fp,hPE cl C s₀ H₀ fp⟩) hs) λσ H Q h=>oa h
theorem zN {tg:Expr}{g:T->En->Rs En}(ha:xS X a fa)(hg:xO X tg g)(hs:autoParam (KD [tg] a pos.line X.env=pure false) u_)(hw:autoParam (KF [tg] a X.env=pure none) u_)
  (h1:autoParam ((ID [tg] X.env).map (·.2)= [assign tg X.env]) u_):C1 X (.Assign [tg] a pos) (c6 fa g):=DS.imp (CL ha hg hs hw h1) λD σ H ⟨ρ,B,M,E,h⟩=>qC E h
theorem CQ {n k:Nat}{f:Addr}{fd:Ib}{ps:List Str}{g:List T->Rs T}(F:xQ X.prog X.w X.K X.mg X.base k f fd ps n g)(hr:Room k X.A)(hm:X.mg x=some (.ref f))(hk:JZ X.K (.ref f)=true)(hb:Binds X.K fd ps [])(hps:ps.length=n)
  (hl:∀ρ ts,fs ρ= .ok ts->ts.length=n) (ha:C7 X (e::es) fs) (hg:Gl X x) (hdb:(x == ("__debug__" : Str))=false) (hn:a0 (e::es)=true):xS X (.Call (.Name x p) (e::es) [] pos) (cl g fs):=by
 intro pins s σ H Q I ⟨ρ,O,E,hq⟩
 have hq':Post X H (fs ρ >>= g) λt H'=> ∀v,Rep X.K O H' t v->Q v H':=hq
 refine nv (ie I hg hm ?_ hdb)
 have hs:=ha pos pins s σ H (λvs H'=> ∃ts,fs ρ= .ok ts/\Same H H'/\Reps X.K O H' ts vs) I ⟨ρ,O,E,by
  cases q:fs ρ with
  | bad=>rw[q]at hq';exact hq'.elim
  | err c=>rw[q]at hq';exact hq'
  | ok ts=>exact λH' s v r=>⟨ts,rfl,s,r⟩⟩
 have he:Hj (e::es) X.env=(false,eval e X.env)::Hj es X.env:=bt (by unfold a0 at hn;exact(HY.mp hn).1)
 have hpl:=ef (pos:=pos) (env:=X.env) hn;rw[he]at hs hpl ⊢;refine oP (P:=λh=>X.K.In h) hpl (PySem.W.keeps_K hk) (nu (iw hs λus s1 ⟨vs,H1,I1,r,ts,q,sm,rs⟩=>⟨I1.kIn,?_⟩))
 rw[q]at hq'
 have hq2:Post X H (g ts) λt H'=> ∀v,Rep X.K O H' t v->Q v H':=hq'
 exact Bm F hr hb hps I1 r rs (E.same sm).mtb (hl ρ ts q) (hq2.later sm)
end
structure UE (X:Cx)(e:Expr)(f:En->Rs T):Prop where
 h:xS X e f
structure UA (X:Cx)(e:List Expr)(f:En->Rs (List T)):Prop where
 h:C7 X e f
structure UT (X:Cx)(e:Expr)(f:En->Rs Bool):Prop where
 h:Fq X e f
structure UW (X:Cx)(e:Expr)(f:En->Rs Bool):Prop where
 h:FH X e f
structure US (X:Cx)(e:Stmt)(f:En->Rs Fl):Prop where
 h:C1 X e f
structure Ae (X:Cx)(e:List Stmt)(f:En->Rs Fl):Prop where
 h:oH X e f
section
variable {X:Cx}{a b e:Expr}{es a9:List Expr}{fa fb:En->Rs T}{f g:En->Rs Bool}{fs:En->Rs (List T)}{pos p:Pos}{st:Stmt}{sts A B:List Stmt}{F G:En->Rs Fl}
theorem ee (h:QE X e fa):UE X e fa:=⟨h.h.d⟩
theorem qu (h:QA X es fs):UA X es fs:=⟨h.h.d⟩
theorem u_t (h:QT X e f):UT X e f:=⟨h.h.d⟩
theorem uX (h:QS X st F):US X st F:=⟨h.h.d⟩
theorem jh (h:xK X sts F):Ae X sts F:=⟨h.h.d⟩
theorem Dg {x1:Nat}(h:UA X es fs):UE X (.Tuple es x1 pos) (br fs):=⟨E9 h.h⟩
theorem fm (he:UE X e fa)(hr:UA X es fs)(hn:autoParam (cP e=true) u_):UA X (e::es) (ae fa fs):=⟨da_c he.h hr.h (bt hn)⟩
theorem j7 {op:O0}{g:T->T->Rs T}(ho:OpT X (Iw op) g)(ha:UE X a fa)(hb:UE X b fb)(hm:autoParam (Js op b=false) u_):UT X (.Compare a [op] [b] pos) (tb (o2 g fa fb)):=⟨CI ho ha.h hb.h hm⟩
theorem Dh (ha:UT X a f):UW X (.BoolOp .Or [a] pos) f:=⟨zH ha.h⟩
theorem u_or (ha:UT X a f)(hb:UW X (.BoolOp .Or (b::a9) pos) g):UW X (.BoolOp .Or (a::b::a9) pos) (kn f g):=⟨CG ha.h hb.h⟩
theorem u_w (h:UW X e f):UT X e f:=⟨h.h _⟩
theorem b9 (h1:US X st F)(h2:Ae X sts G):Ae X (st::sts) (aI F G):=⟨zM h1.h h2.h⟩
theorem ji (h1:US X st F):Ae X [st] F:=⟨zJ h1.h⟩
theorem Ao (ha:UE X a fa):US X (.Return (some a) pos) (aL fa):=⟨zK ha.h⟩
theorem qt (hc:UT X e f)(ha:Ae X A F)(hb:Ae X B G):US X (.If e A B pos) (ei f F G):=⟨CK hc.h ha.h hb.h⟩
theorem uZ {tg:Expr}{g:T->En->Rs En}(ha:UE X a fa)(hg:QG X tg g)(hs:autoParam (KD [tg] a pos.line X.env=pure false) u_)(hw:autoParam (KF [tg] a X.env=pure none) u_)
  (h1:autoParam ((ID [tg] X.env).map (·.2)= [assign tg X.env]) u_):US X (.Assign [tg] a pos) (c6 fa g):=⟨zN ha.h hg.h hs hw h1⟩
theorem u_lc {elt tg iter:Expr}{ifs:List Expr}{scope:J8}{src:List (Option Nat)}{fi:En->Rs (List T)}{tgt:T->En->Rs En}{fc:En->Rs Bool}{fe:En->Rs T}(N' N:List Str)(st:Stmt)(hi:QI X tg iter fi)
  (block:N'.Nodup->∀(cl:List (Str×Addr)) (C:Addr) (s₀:GX) (H₀:Hp) (fp:List Addr),QG (aY X scope cl N' C s₀ H₀ fp) tg tgt/\C5 (aY X scope cl N' C s₀ H₀ fp) ifs fc/\UE (aY X scope cl N' C s₀ H₀ fp) elt fe)
  (hc:autoParam (Cx.calm X=true) u_) (hN:autoParam (X.N=N) u_) (hm:autoParam (X.env.scope.names=(ao st).names) u_) (hk:autoParam (scope.kind= .function) u_) (h:autoParam (zh (ao st).names N scope.names N' src=true) z_) (nd:autoParam (N'.Nodup) z_) (hs:autoParam (∀(x:GZ),Hw iter (Cx.env X) x=pure x) t_) :
  UE X (Lb elt [{ target:=tg,iter:=iter,ifs:=ifs,is_async:=0 }] scope pos) (fz fi src tgt fc fe):=
 ⟨d_lc hc (LcScope.by hN hm hk h) hi.h (λcl C s₀ H₀ fp=>⟨(block nd cl C s₀ H₀ fp).1.h,(block nd cl C s₀ H₀ fp).2.1.h,(block nd cl C s₀ H₀ fp).2.2.h⟩) hs⟩
end
structure AZ (P:Hr)(w:HS)(K:GW)(mg:Str->Option GZ)(base:Heap)(k:Nat)(x:Str)(n:Nat)(m:List T->Rs T):Prop where
 ex:∃f fd ps,mg x=some (.ref f)/\JZ K (.ref f)=true/\Binds K fd ps []/\ps.length=n/\xQ P w K mg base k f fd ps n m
section
variable {P:Hr}{w:HS}{K:GW}{mg:Str->Option GZ}{base:Heap}{x:Str}{st:Stmt}{ps:List Str}{k n:Nat}{F:En->Rs Fl}
theorem ox (N:List Str)(H:gA K mg x st ps)
  (hbody:N.Nodup->∀(f:Addr) (cdv:GZ) (A:HF) (outer:List Env) (s:GX) (H:Hp) (E:XK),Room k (A.deeper (envOfC x (ao st) s.heap.objs.size f cdv)) →
   ∀xe,Ae ((eR CX0 P w K mg base N x (ao st) f cdv A outer s H E).FJ xe) (bq st) F) (S:autoParam (bM N ps (ao st)) a_) (hn:autoParam (ps.length=n) u_):AZ P w K mg base (k+1) x n (val n N.length F):=by
 obtain⟨f,fd,h⟩:=H;exact⟨f,fd,ps,h.mg,h.fn.kp,h.bd,hn,sE h.fn S hn λcdv A outer s H E hr xe=>(hbody S.nd f cdv A outer s H E hr xe).h⟩
end
theorem tD {X:Cx}{e:Expr}{es:List Expr}{fs:En->Rs (List T)}{pos p:Pos}{x:Str}{n k k':Nat}{g:List T->Rs T}(c:AZ X.prog X.w X.K X.mg X.base k x n g)(hr:Room k' X.A)(ha:UA X (e::es) fs)(hk:autoParam (k<=k') s_)
  (hl:∀(ρ:En) (ts:List T),fs ρ= .ok ts->ts.length=n:=by repeat first | exact AW | refine AV ?_) (hn:autoParam (a0 (e::es)=true) u_) (hg:autoParam (Gl X x) u_) (h2:autoParam ((x == Hi "__debug__")=false) s_):UE X (.Call (.Name x p) (e::es) [] pos) (cl g fs):=by
 obtain⟨f,fd,ps,h1,h3,h4,h5,h6⟩:=c.ex;exact⟨CQ h6 (hr.mono hk) h1 h3 h4 h5 hl ha.h hg h2 hn⟩
end Tr
namespace L2
open PySem PySem.Spec PyProof.Rows
theorem tX {P:Hr}{w:HS}{K:GW}{mg mb:Str->Option GZ}{CX:uA}{k:Nat}{fa a:Addr}{fd:Ib}{x:Str}{sp:Sp}{s₁:GX}{vs:List GZ}{ns:List Int}
  (KX:K.In s₁.heap) (hns:s₁.heap.Ns HL mg) (hb:s₁.heap.Ns Lh mb) (hbb:∀x:Str,x≠ "__name__"->mb x=HA x) (hlim:s₁.heap.NoLimit) (hg:s₁.gens= #[])
  (ha:s₁.heap.get? a=some { cls:=.type "list",data:=.seq vs.toArray }) (hi:LQ vs ns) (hl:ns.length<=sizeLine) (hr:Room k callerA)
  (F:∀base:Heap,K.In base->base.Ns HL mg->lX P w K mg base CX k fa fd [x] sp) (hbind:∀(s:GX) (u:GZ),Mj s fd ⟨[u],[]⟩ [(x,u)])
  (hsp:∀H:Hp,CZ H->SqL K H a (ns.map V.int)->sp [.ref a] H (λv _=>v= .bl true) λ_ _ _=>False)
  (hCX:∀H e s',CX [] H s₁ (λ_ _ _=>False) e s'->False) :
  cC (model P w) callerA (.call (.ref fa) ⟨[.ref a],[]⟩) (λr s'=>r= .ok (.ret (.bool true))/\OldK s₁.heap s'.heap/\s'.os=s₁.os/\MS s'.gens) s₁:=by
 have rv:=mC hi
 have lenV:=hi.length
 -- from an abstract heap in which nothing but the script may be tracked
 have core:∀H:Hp,CZ H->SqL K H a (ns.map V.int)->HOk P w H s₁.heap->(∀b,H b≠none->b=a)->(H a≠none->K.lookup a=none) →
   cC (model P w) callerA (.call (.ref fa) ⟨[.ref a],[]⟩) (λr s'=>r= .ok (.ret (.bool true))/\OldK s₁.heap s'.heap/\s'.os=s₁.os/\MS s'.gens) s₁:=by
  intro H hO hS hok hA hK
  have base_of:∀{b:Addr} {o:Obj},s₁.heap.get? b=some o->H b=none->(oj s₁.heap H).get? b=some o:=λe n=>w6 e n
  have noA:∀{b:Addr} {o:Obj} {es:Array DictEntry} {ep:Nat},s₁.heap.get? b=some o->o.data= .dict es ep->H b=none:=λ{b o es ep} e d=>by
   cases q:H b with
   | none=>rfl
   | some u=>
    have e':b=a:=hA b (by rw[q];simp)
    subst e';rw[ha]at e;cases e
    have d':Data.seq vs.toArray _=Data.dict es ep:=d;cases d'
  have nsK:∀{b:Addr} {m:Str->Option GZ},s₁.heap.Ns b m->(oj s₁.heap H).Ns b m:=λ{b m} ⟨o,es,ep,e,d,r⟩=>⟨o,es,ep,base_of e (noA e d),d,r⟩
  have hKb:K.In (oj s₁.heap H):=λb o e=>base_of (KX b o e) (by
   cases q:H b with
   | none=>rfl
   | some u=>
    have e':b=a:=hA b (by rw[q];simp)
    subst e';rw[hK (by rw[q];simp)]at e;cases e)
  have hM:Mod K mg (oj s₁.heap H):=⟨hKb,nsK hns,⟨mb,nsK hb,hbb⟩,let ⟨mc,h1,h2⟩:=hlim;⟨mc,nsK h1,h2⟩⟩
  have e0:my P w K mg (oj s₁.heap H) callerA [] s₁ H:=⟨rfl,hM,λb o e=>y1 e,JT (uf _ _),trivial,λb hb=>absurd (show b∈([]:List Addr)from hb) (by simp),hok,.of_eq hg⟩
  refine ip ((F _ hKb (nsK hns)).run callerA [] s₁ H ⟨[.ref a],[]⟩ [.ref a] [.ref a] _ _ hr e0 (hbind s₁ (.ref a)) (.cons rfl .nil) (hsp H hO hS)) λr s' h=> ?_
  cases r with
  | error e=>exact(hCX H e s' h).elim
  | ok fl=>
   cases fl with
   | next=>exact Jb h
   | brk=>exact Jb h
   | cont=>exact Jb h
   | ret u=>
    obtain⟨v,H',os,bare,un,hok',r',q⟩:=h
    have q':v= .bl true:=q;subst q';obtain rfl:u=Ia true:=r';refine⟨rfl,OldK.of_keep λb o e=> ?_,os,bare⟩
    cases q:H b with
    | none=>exact un.keep b o e q (by intro z;exact absurd (show b∈([]:List Addr)from z) (by simp)) (by simp)
    | some u=>
     rcases hO b with z | ⟨ob,xs,z⟩
     ·rw[q]at z;cases z
     ·have z2:=un.frzs b ob _ z
      obtain⟨e1,_⟩:=hok b _ z;obtain⟨e2,_⟩:=hok' b _ z2;rw[e]at e1;cases e1;exact e2
 cases hk:K.lookup a with
 | some o=>
  -- the script is one of the module's own objects
  have e:=KX a o hk;rw[ha]at e;cases e
  refine core (λ_=>none) (λ_=> .inl rfl) (.inr ⟨_,vs.toArray,_,hk,rfl,rfl,rfl,by rw[Hn,lenV];exact hl,by simpa using rv⟩) (λb u z=>by have z':(none:Option HO)=some u:=z;cases z') (λb z=>absurd rfl z) λz=>absurd rfl z
 | none=>
  refine core (λb=>if b=a then some (.frz { cls:=.type "list",data:=.seq vs.toArray } (.lst (ns.map V.int)))else none) (λb=> ?_) (.inl (.inr ⟨{ cls:=.type "list",data:=.seq vs.toArray },if_pos rfl⟩)) (λb u z=> ?_) (λb z=> ?_) λ_=>hk
  ·by_cases hb:b=a
   ·exact .inr ⟨_,_,if_pos hb⟩
   ·exact .inl (if_neg hb)
  ·by_cases hb:b=a
   ·have z':=(if_pos hb).symm.trans z
    cases z';subst hb;exact⟨ha,by rw[G3];exact hl,vs,_,rv,ha⟩
   ·have z':=(if_neg hb).symm.trans z
    cases z'
  ·by_cases hb:b=a
   ·exact hb
   ·exact absurd (if_neg hb) z
end L2
namespace Tr
open PySem PySem.Spec PyProof.Rows L2 PySem.W PySem.Calls
abbrev AX (q:Hr)(loose:List Str)(XP:(Str->Option GZ)->Heap->Prop)(YP:HS->Heap->Prop)(r:RowW)(d:DefRec):Prop:=
 ∀(w:HS) (s₀ s₁:GX) (mg mb:Str->Option GZ),Ground q loose r.records XP w s₀ mg mb s₁.heap->YP w s₁.heap->∀(fa:Addr) (o:Obj) (pm cd doc dV kV:GZ),s₁.heap.get? fa=some o →
  o.data= .func { docDef d.name d.params d.body d.scope pm cd doc with defaults:=dV,kwdefaults:=kV }->s₁.heap.CodeRec cd d.name->Dflts mg s₁.heap d.params [] dV kV->mg d.name=some (.ref fa)->s₁.gens= #[] →
  ∀(args:List WData) (vals:List GZ) (as:List Addr),r.claim.pre args=true->WData.layableAll args=true->ReadsAllW r.records (classAt s₀.heap) s₁.heap vals args as->WellAll w.params s₁.heap vals args->(∀a∈as,(a == KR)=false) →
   wC (model r.prog w) callerA (PySem.call (.ref fa) vals) (λv s'=>GoodWG r.claim (classAt s₀.heap) (NC s₀.heap) args s₁ (.ok (.ret v)) s') (λe s'=>GoodWG r.claim (classAt s₀.heap) (NC s₀.heap) args s₁ (.error e) s') s₁
theorem walk_C {l:OpenLaw}{n k:Nat}{q:Hr}{loose:List Str}{XP:(Str->Option GZ)->Heap->Prop}{d:DefRec}{S:qk}{top:Nat->Stmt}{CX:uA}{sp:Frag->Sp}{x:Str}
  (hn:l.most=some n) (hn2:n<=sizeLine) (hdf:d.params.defaults= []) (hr:Room k callerA)
  (F:∀(w:HS) (K:Frag) (mg:Str->Option GZ) (fa:Addr) (h:Heap),K.In h->wj S K=uV S top->h.Ns HL mg->mg d.name=some (.ref fa) →
   ∃fd:Ib,(∀(s:GX) (u:GZ),Mj s fd ⟨[u],[]⟩ [(x,u)])/\∀base:Heap,K.In base->base.Ns HL mg->lX l.prog w K mg base CX k fa fd [x] (sp K))
  (hsp:∀(K:Frag) (H:Hp) (a:Addr) (ns:List Int),ns.length<=n->CZ H->SqL K H a (ns.map V.int)->sp K [.ref a] H (λv _=>v= .bl true) λ_ _ _=>False)
  (hCX:∀(H:Hp) (s:GX) (e:GZ) (s':GX),CX [] H s (λ_ _ _=>False) e s'->False) :
  AX q loose XP (hookC S top).says l.row.toRowW d:=by
 intro w s₀ s₁ mg mb G Y fa o pm cd doc dV kV ho hd hcd hD hmg hg args vals as hpre hlay hrd hwl hlo;obtain rfl:dV= .none:=Dflts.none hD hdf;obtain rfl:kV= .none:=Dflts.noKw hD;obtain⟨a,vs,ns,rfl,rfl,hobj,hints,hlen⟩:=Att.script_of hn hpre hwl;obtain⟨K,KX,e⟩:=Y;obtain⟨fd,hb,hF⟩:=F w K mg fa _ KX e G.T.g hmg;refine jc (ip (tX KX G.T.g G.T.b G.T.builtins G.T.nolimit hg hobj hints (Hz hlen hn2) hr hF hb (λH hO hS=>hsp K H a ns hlen hO hS) λH e s'=>hCX H s₁ e s') λr s' hq=> ?_)
 obtain⟨rfl,h2,h3,h4⟩:=hq;exact⟨.inl ⟨.bool true,.bool true,[],rfl,λ_=>rfl,.bool true,Att.post_true l _,λ_=>⟨List.Pairwise.nil,λ_ hm=>(nomatch hm)⟩⟩,h2,h3,h4⟩
theorem cal0:Cal ⟨.builtin "claim.caller" {},none,none,[],none⟩:=rfl
theorem ve {prog:Hr}{w:HS}{t:Sem Fin}{s:GX}{R:KN->GX->Prop}(hk:vd<=s.toks)(hreg:s.asleep)
  (h:wC (model prog w) callerA t (λfin s'=> ∃f,fin= .done f/\(R (.ok f) s'/\Ke s'.gens=false)) (λe s'=>R (.error e) s'/\Ke s'.gens=false) s) :
  ∃n r s' s'',runN (denote table) prog w n s ⟨t,.builtin "claim.caller" {},default,[]⟩= .halted (outcomeOf r) s' ∧
   schedN (denote table) prog w n (.single s ⟨t,.builtin "claim.caller" {},default,[]⟩)= .halted (outcomeOf r) s'/\s'.forget=s''.forget/\R r s'':=by
 have z:=h hk ⟨.builtin "claim.caller" {},none,none,[],none⟩ default caller_in cal0
 obtain⟨n,r,s₁,s₂,hs,hn,hfo,hR⟩:=wp_halts_full (M:=model prog w) (R:=R) hreg (Lm (model prog w) _ t (λfin p' s' q=>by
  obtain⟨f,rfl,q⟩:=q;exact(show Sem.finPost (model prog w) _ (λr s'=>R r s'/\Ke s'.gens=false) (.done f) p' s' from q)) (λ_ _ _ q=>q) default s z)
 exact⟨n,r,s₂,s₁,hn,hs,hfo,hR⟩
theorem holds_C {r:OpenRow}{q:Hr}{loose:List Str}{Xt:GX->Bool}{XP:(Str->Option GZ)->Heap->Prop}{α:Type}{Yf:GX->α}{Ya:HS->α}{YP:HS->Heap->Prop}{d:DefRec}{N:Nat}
  (left:LeftO r.prog q loose Xt Yf Ya N) (hY:∀w s,Yf s=Ya w->YP w s.heap) (hYk:∀w h h',YP w h->(∀b o,h.get? b=some o->h'.get? b=some o)->YP w h')
  (hX:∀s,Xt s=true->XP (s.heap.nsMap HL) s.heap) (hXk:∀mg h h',XP mg h->(∀b o,h.get? b=some o->h'.get? b=some o)->XP mg h')
  (hdef:defOf q r.name=some (d,[])) (hp:r.prog.theDef r.name=some (d.params,d.body,d.scope)) (hk:kwWritten? d.params.kwonlyargs d.params.kw_defaults=some []) (hRf:∀s,Xt s=true->RecFacts r.records s.heap) (hwr:(!r.writes||r.records.isEmpty)=true)
  (k1:r.wellSaid=true) (ok:(chainsOk q&&opensWell r.prog&&(frees r.toRowW&&r.within.isEmpty))=true) (hb:r.prog.bare) (hw:r.toRowW.promised)
  (hT0:∀w s,Yf s=Ya w->vd<=s.toks) (call:AX q loose XP YP r.toRowW d):r.Holds:=by
 obtain⟨ok1,k5⟩:=HY.mp ok;obtain⟨hch,o1⟩:=HY.mp ok1;obtain⟨k5,k6⟩:=HY.mp k5;obtain⟨hsame,hu,ha,hap,hm⟩:=frees_parts k5;refine⟨k1,hw,⟨hb,o1,by show r.makers.map _= [];rw[hm];rfl⟩,hw.witness,λw=>⟨(left.behind hX hch w).1,λs' hs'=> ?_⟩⟩
 obtain⟨s₀,hf,hg0,s,hT,hz,hgens,hg,G00,y⟩:=(left.behind (XP:=λmg h=>XP mg h/\RecFacts r.records h) (λs hs=>⟨hX s hs,hRf s hs⟩) hch w).2 s' hs'
 have G0:Ground q loose [] XP w s (s.heap.nsMap HL) (s.heap.nsMap Lh) s.heap:={ G00 with X:=G00.X.1 }
 have RF:=G00.X.2;refine⟨s₀,hf,hg0,s,hT,λn hn=> ?_,RF.1,RF.2.1,?_⟩
 ·obtain rfl:n=r.name:=by split at hn <;> simp_all
  exact pinned_of_view hg G0 hdef hp hk
 have hgens:s.gens= #[]:=Array.eq_empty_of_size_eq_zero (beq_iff_eq.mp hgens)
 have G:Ground q loose r.records XP w s _ _ s.heap:=RF.ground G0;intro args hpre hlay ord hord;obtain⟨⟨vs,s₁⟩,hlaid⟩:=Kp.mp (layAllW_isSome (P:=w.params) (ord:=ord) G.has args r.args s (pre_splitW hpre).1)
 have keeps:=layAllW_keeps _ _ _ hlaid
 have htk:s.toks<=s₁.toks:=(layAllW_grows _ _ _ hlaid).toks
 have hal:=layAllW_rest _ _ _ hlaid;obtain⟨as,hrd,hin,hold⟩:=reads_layAllW hord _ _ _ hlaid hlay s₁.heap (λ_ _ e=>e)
 have L:Laid r.records w s s₁ args vs as:=⟨⟨ord,hord,hlaid⟩,hrd,hin,hold,keeps,hal.1.trans hgens,hal.2.2.1⟩
 have G₁:=G.keeps hXk keeps
 have hi:=ident_freeW hu ha hap
 have hwi:r.claim.within= []:=List.isEmpty_iff.mp k6;obtain⟨fa,o,pm,cd,doc,dV,kV,h1,h2,h3,h4,h5⟩:=G₁.fn hdef
 have body:=call w s s₁ _ _ G₁ (hYk _ _ _ (hY w s y) keeps) fa o pm cd doc dV kV h2 h3 h4 h5 (defOf_name hdef▸h1) L.gens args vs as hpre hlay L.reads L.well (L.low G.low)
 have fin:∀{res:KN} {t:GX},GoodWG r.toRowW.claim (classAt s.heap) (NC s.heap) args s₁ res t->(r.toRowW.claim.Ends s args vs s₁ res t/\t.os=s.os/\(r.writes=true->namesKept r.prog r.keeps s.heap t.heap/\∀x∈r.records,∀a,classAt s.heap x.1=some a->recordClass t.heap a x.1 (x.2.map (·.1))=true))/\Ke t.gens=false:=λg=>by
  have z:=g.laid (c:=r.toRowW.claim) hsame hwi hi L;exact⟨⟨z.1,z.2.1,λq=>⟨namesKept_of hT hg r.keeps keeps g.2.1.old,noTable hwr q⟩⟩,leftWithCleanup_false_of_bare z.2.2⟩
 have tree:wC (model r.prog w) callerA (do match <-nsGet mainNs r.name with | some f=>do ret (<-PySem.call f vs) | none=>unsupported "claim.caller:no-such-global")
   (λfin t=> ∃f,fin= .done f/\((r.toRowW.claim.Ends s args vs s₁ (.ok f) t/\t.os=s.os/\(r.writes=true->namesKept r.prog r.keeps s.heap t.heap/\∀x∈r.records,∀a,classAt s.heap x.1=some a->recordClass t.heap a x.1 (x.2.map (·.1))=true))/\Ke t.gens=false))
   (λe t=>(r.toRowW.claim.Ends s args vs s₁ (.error e) t/\t.os=s.os/\(r.writes=true->namesKept r.prog r.keeps s.heap t.heap/\∀x∈r.records,∀a,classAt s.heap x.1=some a->recordClass t.heap a x.1 (x.2.map (·.1))=true))/\Ke t.gens=false) s₁:=by
  refine ay (wpAny_nsGet G₁.T.g ?_)
  rw[h1];exact aV (cO body (λv t g=>a7 ⟨_,rfl,fin g⟩) λe t g=>fin g)
 obtain⟨k,res,t,t',hrun,hsched,hfo,hcase,hos,hkp⟩:=ve (R:=λres t=>r.toRowW.claim.Ends s args vs s₁ res t/\t.os=s.os/\(r.writes=true->namesKept r.prog r.keeps s.heap t.heap/\∀x∈r.records,∀a,classAt s.heap x.1=some a->recordClass t.heap a x.1 (x.2.map (·.1))=true)) (Hz (hT0 w s y) htk) (Shared.asleep_of_life hal.2.2.2 hz) tree
 obtain⟨eh,_,_,eo,_⟩:=Shared.forget_eq hfo
 have hcase:=hcase.congr eh;rw[<-eh]at hkp;rw[<-eo]at hos
 have hlife:t.heap.life=s.heap.life:=(runN_life _ _ _ hrun).trans hal.2.2.2;refine⟨vs,s₁,hlaid,k,_,t,hsched,?_,(λ_ i x hx=>by rw[hgens]at hx;simp at hx),hkp,by rw[hlife],Shared.rest_eq hos⟩
 rcases hcase with⟨v,rfl,d1,d2,d3,d4,d5⟩ | ⟨e,ob,cls,rfl,d1,d2,d3,d4,d5⟩
 ·exact .inl ⟨v,rfl,d1,d2,d3,λb o y _=>d4 b o y,d5⟩
 ·exact .inr ⟨e,ob,cls,rfl,d1,d2,d3,d4,λb o y _=>d5 b o y⟩
end Tr
namespace Tr
open PySem PySem.Spec PyProof.Rows L2 PySem.NumText
theorem zr (x:JD)(u:Tok):(int_private% "intFromObject") (.str x u)=(int_private% "intFromText") (.str x u) (NT x) 10:=by
 have f6:typeOf (.str x u)=pure (.type "str"):=rfl
 have g1:Os (.str x u) (Iu "__int__")=pure none:=by unfold Os L9;rw[f6,pure_bind,W.KIN.str_int];rfl
 have g2:L9 (.str x u) (Iu "__index__")=pure none:=by unfold L9;rw[f6,pure_bind,W.KIN.str_idx]
 have g3:L9 (.str x u) (Iu "__trunc__")=pure none:=by unfold L9;rw[f6,pure_bind,W.KIN.str_trunc]
 refine Md (show _=(Os (.str x u) (Iu "__int__") >>= _)from rfl) ?_
 rw[g1,pure_bind];refine Md (show _=(L9 (.str x u) (Iu "__index__") >>= _)from rfl) ?_
 rw[g2,pure_bind];refine Md (show _=(L9 (.str x u) (Iu "__trunc__") >>= _)from rfl) ?_
 rw[g3,pure_bind]
 rfl
theorem wY (x:JD)(u:Tok):Builtin.«int.__new__» ⟨[.type "int",.str x u],[]⟩=(do let v <-(int_private% "intFromText") (.str x u) (NT x) 10;ret v):=by
 have f7:isType (.type "int")=pure true:=rfl;rw[<-zr x u];unfold Builtin.«int.__new__»;simp only[f7,F.conv_sub_int,F.madeHere_int,pure_bind,Bool.not_true,Iv,if_false]
 rfl
theorem rG {M:L7}{A:HF}{E:GZ->GX->Prop}{s:GX}{own:List String}{e:GZ}{Q:Unit->GX->Prop}(h:Q () s):wC M A (markTheRefusal own e) Q E s:=λk Γ p hΓ z=>by
 have hc:MV own (((Γ.code,p)::Γ.below).map (·.1))=false:=by
  have tr:∀(A B C:Bool),A=true->((!A&&B)&&C)=false:=by intro A B C h;rw[h];rfl
  exact tr _ _ _ z
 unfold markTheRefusal;rw[Sem.wp_bind']
 show MG M Γ (if MV own (((Γ.code,p)::Γ.below).map (·.1))=true then _ else _) _ _ p s
 rw[hc];exact h
section
variable {prog:Hr}{w:HS}{A:HF}{E:GZ->GX->Prop}{s:GX}{x:JD}{u:Tok}
theorem uP {Q:GZ->GX->Prop}(hl:(O7 x).length<=640)(hn:OP x=none)(hr:(reprText x).length<=sizeLine)(hh:A.handled=none)
  (h:∀h' tk e,Heap.NewExc s.heap h' e "ValueError"->E (.ref e) { s with heap:=h',toks:=tk }):wC (model prog w) A ((int_private% "intFromText") (.str x u) (NT x) 10) Q E s:=by
 have hb:(int_private% "bytesOf?") (.str x u)=pure none:=rfl
 show wC _ _ (if (O7 x).length<=640 then _ else _) _ _ s
 rw[if_pos hl,pure_bind]
 dsimp only
 have hz:∀(y z:JD),y.length<=100->(y++⟨z.cps.extract 0 200⟩:JD).length<=sizeLine:=λy z hy=>by
  have h1:(⟨z.cps.extract 0 200⟩:JD).length<=200:=by show(z.cps.extract 0 200).size<=200;simp;omega
  rw[PySem.Str.length_append,Je];omega
 have h100:(Iu (toString "invalid literal for int() with base " ++toString 10++toString ": ")).length<=100:=by decide+kernel
 rcases read0 x hl with⟨m,h1,_⟩ | ⟨_,h2⟩
 ·rw[hn]at h1;cases h1
 ·rcases h2 with h2 | ⟨i,h2,h3⟩
  ·have h2':(int_private% "readNumeral") 0 10 (List.takeWhile (λx=>x != 0) (NT x))=_:=h2
   rw[h2']
   dsimp only
   refine ay (KW hb ?_)
   simp only[Option.isSome_none,LJ,Iv,if_false];refine ay (Kr ?_)
   refine ay (KW hb ?_)
   dsimp only
   refine ay (OI ?_ hr)
   refine ay (wpAny_mkStr ?_ (hz _ _ h100))
   refine ay (NU Nj (λh' e me=> ?_) (by rw[Je];exact(by decide:1<=16777216)))
   refine aV (rG ?_)
   exact .of (Nk hh (h h' _ e me.newExc))
  ·have h2':(int_private% "readNumeral") 0 10 (List.takeWhile (λx=>x != 0) (NT x))=_:=h2
   rw[h2']
   dsimp only
   rw[if_neg h3];refine ay (Kr ?_)
   refine ay (KW hb ?_)
   dsimp only
   refine ay (OI ?_ hr)
   refine ay (wpAny_mkStr ?_ (hz _ _ h100))
   refine ay (NU Nj (λh' e me=> ?_) (by rw[Je];exact(by decide:1<=16777216)))
   refine aV (rG ?_)
   exact .of (Nk hh (h h' _ e me.newExc))
end
theorem tE (x:JD)(u:Tok):∃K:GZ->Sem Fin,Builtin.«type.__call__» ⟨[.type "int",.str x u],[]⟩=(holding [.builtin "int.__new__"] (call (.builtin "int.__new__") [.type "int",.str x u] []) >>= K):=by
 obtain⟨c,tl,hm⟩:=LB.mro
 have h1:=LB.notType
 have h2:=LB.canCreate;unfold Builtin.«type.__call__»
 dsimp only
 simp only[h1,h2,F.typeCall_int_1,hm,LB.made,pure_bind,Iv,if_false,N7];exact⟨_,rfl⟩
section
variable {prog:Hr}{w:HS}{A:HF}{E:GZ->GX->Prop}{s:GX}{x:JD}{u:Tok}
theorem lM {id:String}{args:Args}{b:Builtin}{R:KN->GX->Prop}(hb:OM table id=some b)
  (h:wC (model prog w) (A.under (.builtin id args)) (b args) (λfin s'=>match fin with | .done f=>R (.ok f) s' | .again c'=>c'.quiet=true/\cC (model prog w) A c' R s') (λe s'=>R (.error e) s') s) :
  cC (model prog w) A (.builtin id args) R s:=by
 refine cY ?_
 show wC _ _ (match OM table id with | some b=>b args | none=>unsupported ((withoutEnding? id "#data").getD id)) _ _ s
 rw[hb];exact h
theorem xA {id:String}{args:Args}{b:Builtin}{R:KN->GX->Prop}(hq:plainId id=true)(hb:OM table id=some b)(hc:K6 id args=pure ())
  (h:wC (model prog w) (A.under (.builtin id args)) (b args) (λfin s'=>match fin with | .done f=>R (.ok f) s' | .again c'=>c'.quiet=true/\cC (model prog w) A c' R s') (λe s'=>R (.error e) s') s) :
  cC (model prog w) A (.call (.builtin id) args) R s:=by
 refine cY ?_
 show wC _ A.in1 (do K6 id args;again (.builtin id args)) _ _ s
 exact ay (KW hc (a7 (KA (NR hq args) (lM hb h))))
theorem tw {Q:GZ->GX->Prop}(hl:(O7 x).length<=640)(hn:OP x=none)(hr:(reprText x).length<=sizeLine)(hh:A.handled=none)
  (h:∀h' tk e,Heap.NewExc s.heap h' e "ValueError"->E (.ref e) { s with heap:=h',toks:=tk }):wC (model prog w) A (call (.type "int") [.str x u]) Q E s:=by
 refine jc (cY ?_)
 show wC _ _ (callAny (.type "int") _) _ _ _
 refine a7 (KA (Ny _ (by decide+kernel)) (lM F.entry_type_call ?_))
 obtain⟨K,hK⟩:=tE x u;rw[hK];refine aV (cq (jc (xA LB.plain F.entry_int_new (F.newCall_int_1 _) ?_)))
 rw[wY];exact aV (uP hl hn hr (by exact hh) λh' tk e me=>h h' tk e me)
end
def C0 (h:Heap)(C:GZ)(e:Addr):Option Addr->Prop
 | none=> ∃oe vs,h.get? e=some oe/\oe.cls=C/\oe.data= .fields vs/\vs[1]? =some .none
 | some T=>T≠e/\∃oe vs,h.get? e=some oe/\oe.cls=C/\oe.data= .fields vs/\vs[1]? =some (.ref T)/\∃oT ts,h.get? T=some oT/\oT.data= .fields ts/\ts[3]? =some .none
structure tf (fs:List Addr)(C:GZ)(e:Addr)(T:Option Addr)(h h':Heap)(T':Addr):Prop where
 flt:C0 h' C e (some T')
 new:T=some T'\/h.get? T'=none
 keep:∀b o,b∉fs->b≠e->T≠some b->h.get? b=some o->h'.get? b=some o
 slot:∀b o,b∈fs->h.get? b=some o->∃sl,h'.get? b=some { o with slots:=sl }
section
variable {M:L7}{A:HF}{E:GZ->GX->Prop}{s:GX}
theorem B6 {base:Heap}{env:Env}{outer:List Env}{L e:Addr}{C:GZ}{T:Option Addr}{Q:Unit->GX->Prop}(hfr:A.frames=some (env::outer))(hl:s.heap.FunFrames base (env::outer))(hf:env.frame=some L)
  (F:C0 s.heap C e T) (h:∀h' T',tf ((env::outer).filterMap (·.frame)) C e T s.heap h' T'->Q () { s with heap:=h' }) :
  wpAny M A (K3 (.ref e) env) (λ_ s'=>wpAny M A (setFlight (.ref e) none) Q E s') E s:=by
 generalize hB:MA s.heap (e::(T.toList++(env::outer).filterMap (·.frame)))=B
 have bm:∀b,b∈e::(T.toList++(env::outer).filterMap (·.frame))->B.get? b=none:=λb m=>by rw[<-hB];exact K7 _ m
 have hl':s.heap.FunFrames B (env::outer):=fD hl λa ha=>bm a (G5 _ (Hg _ ha))
 have hst:B.StaysIn s.heap:=λb o q=>by rw[<-hB]at q;exact Lx _ q
 have hen:B.get? e=none:=bm e G7
 have main:∀h',Heap.Left B (env::outer) e C s.heap h'->Q () { s with heap:=h' }:=λh' ⟨x1,x2,⟨oe,vs,T',oT,ts,he,hc,hd,h1,hnT,hTe,hT,hdT,h3⟩,x4⟩=>by
  refine h h' T' ⟨⟨hTe,oe,vs,he,hc,hd,h1,oT,ts,hT,hdT,h3⟩,?_,λb o n1 n2 n3 q=> ?_,λb o m q=> ?_⟩
  ·cases q:s.heap.get? T' with
   | none=>exact .inr rfl
   | some o=>
    left
    by_cases z:T'∈e::(T.toList++(env::outer).filterMap (·.frame))
    ·rcases Hd.mp z with z | z
     ·exact absurd z hTe
     ·rcases G8.mp z with z | z
      ·cases T with
       | none=>simp at z
       | some t=>simp at z;rw[z]
      ·obtain⟨_,o',ho',hnf⟩:=x2.mem z
       rw[hT]at ho';cases ho';exact absurd hdT (hnf ts)
    ·rw[<-hB,JU _ q z]at hnT;cases hnT
  ·refine x1 b o ?_
   rw[<-hB];refine JU _ q λz=> ?_
   rcases Hd.mp z with z | z
   ·exact n2 z
   ·rcases G8.mp z with z | z
    ·cases T with
     | none=>simp at z
     | some t=>simp at z;exact n3 (by rw[z])
    ·exact n1 z
  ·obtain⟨_,o',ho',hnf⟩:=hl.mem m
   rw[q]at ho';cases ho';exact x4 b o q hnf
 cases T with
 | none=>
  obtain⟨oe,vs,he,hc,hd,h1⟩:=F;unfold K3;simp only[hf];refine G1 (H0 he hd h1 ?_)
  rw[if_neg (by decide)]
  refine wpAny_newEntry hfr hl' hf he hst hen hd (IW.mp h1).1 λh' x=>main h' ?_
  rw[hc]at x;exact x
 | some t=>
  obtain⟨hte,oe,vs,he,hc,hd,h1,oT,ts,hT,hdT,h3⟩:=F
  have hnT:B.get? t=none:=bm t (G5 _ (HG _ (by simp)))
  unfold K3;simp only[hf];refine G1 (H0 he hd h1 ?_)
  rw[if_pos (show(HD t != HQ)=true from by simp)]
  refine G1 (H0 hT hdT h3 ?_)
  rw[if_neg (show ¬((HQ == rawInt L)=true)from by simp[rawInt])]
  refine G1 (Na hT hdT (IW.mp h3).1 ?_)
  have other:∀b,b≠t->(s.heap.update t (Mh (·.setIfInBounds 3 HQ))).get? b=s.heap.get? b:=λb hb=>KM _ _ (Ka hb)
  have noRec:∀b o,s.heap.get? b=some o->(∀vs,o.data≠ .fields vs)->b≠t:=λb o hb hnf q=>by
   rw[q,hT]at hb;injection hb with hb;subst hb;exact hnf ts hdT
  refine wpAny_newEntry hfr (hl'.of_keeps λb o hb hnf=>⟨o,(other b (noRec b o hb hnf)).trans hb,rfl⟩) hf ((other e (Ka hte)).trans he)
   (λb o hbo=>(other b λq=>by rw[q,hnT]at hbo;cases hbo).trans (hst b o hbo)) hen hd (IW.mp h1).1
   λh' x=>main h' ?_
  obtain⟨x1,x2,x3,x4⟩:=x;rw[hc]at x3;exact⟨x1,x2,x3,λb o hb hnf=>x4 b o ((other b (noRec b o hb hnf)).trans hb) hnf⟩
end
section
variable {X:Cx}{pins:List (Addr×Obj)}{σ:L2.St}{H:Hp}{s:GX}{h':Heap}
theorem Inv.Gk {C:GZ}{e T':Addr}{T:Option Addr}(I:Inv X pins σ H s)(hst:X.stack=X.env::X.outer)(hfe:X.env.frame=some X.env.locals)(hcl:∀x c,X.env.cells.lookup x≠some c)(hex:X.ex= [])
  (g:tf ((X.env::X.outer).filterMap (·.frame)) C e T s.heap h' T') (he:H e=none) (heo:X.s₀.heap.get? e=none) (hT:∀t,T=some t->H t=none/\X.s₀.heap.get? t=none) (hp:∀p∈X.pn++pins,p.1≠e/\T≠some p.1) :
  Inv X pins σ H { s with heap:=h' }:=by
 have mem:∀b,b∈(X.env::X.outer).filterMap (·.frame)↔b=X.env.locals\/b∈X.fs:=λb=>by
  rw[Ja,hfe];exact Hd
 have out:∀b o,X.s₀.heap.get? b=some o->b≠X.env.locals:=λb o q z=>by
  have h1:=Hf q
  have h2:=I.ok.above;rw[z]at h1;exact absurd (Hl h1 h2) (HB _)
 have ne:∀b o,X.s₀.heap.get? b=some o->b≠e/\T≠some b:=λb o q=>⟨λz=>(by subst z;rw[heo]at q;cases q),λz=>(by rw[(hT b z).2]at q;cases q)⟩
 have fr:∀b,b∈(X.env::X.outer).filterMap (·.frame)->H b=none:=λb z=>I.FR b (by rw[hst];exact z)
 have keepH:∀b u,H b≠none->s.heap.get? b=some u->h'.get? b=some u:=λb u hb q=>by
  refine g.keep b u (λz=>hb (fr b z)) (λz=>hb (by rw[z];exact he)) (λz=>hb (hT b z).1) q
 refine⟨I.ok,I.os,I.bare,⟨λb o q n hb hx=> ?_,λb o q n hb hx=> ?_,I.base.free,λb o q hx=> ?_,I.base.tups,I.base.frzs,I.base.tbls⟩,?_,λx c z=>absurd z (hcl x c),I.free,I.freeC,λp hp'=> ?_,λa o q=> ?_,I.len⟩
 ·exact g.keep b o (λz=>((mem b).mp z).elim (out b o q) hb) (ne b o q).1 (ne b o q).2 (I.base.keep b o q n hb hx)
 ·obtain⟨sl,q1⟩:=I.base.slot b o q n hb hx
  obtain⟨sl',q2⟩:=g.slot b _ ((mem b).mpr (.inr hb)) q1;exact⟨sl',q2⟩
 ·obtain⟨o',q1⟩:=I.base.there b o q hx
  by_cases z:b∈(X.env::X.outer).filterMap (·.frame)
  ·obtain⟨sl,q2⟩:=g.slot b o' z q1
   exact⟨_,q2⟩
  ·exact⟨o',g.keep b o' z (ne b o q).1 (ne b o q).2 q1⟩
 ·obtain⟨m,⟨o,es,ep,ho,hd,r⟩,hl⟩:=I.loc
  obtain⟨sl,q2⟩:=g.slot X.env.locals o ((mem _).mpr (.inl rfl)) ho;refine⟨m,⟨_,es,ep,q2,hd,r⟩,λi x v a1 a2 a3=> ?_⟩
  obtain⟨u,ru,lk⟩:=hl i x v a1 a2 a3;refine⟨u,ru,?_⟩
  rcases lk with z | ⟨_,c,z,_⟩
  ·exact .inl z
  ·exact absurd z (hcl x c)
 ·obtain⟨b1,b2,b3,b4,b5⟩:=I.pin p hp'
  exact⟨g.keep p.1 p.2 (λz=>((mem _).mp z).elim b3 b4) (hp p hp').1 (hp p hp').2 b1,b2,b3,b4,b5⟩
 ·refine(I.hok a o q).FT (λb u hb z=>keepH b u ?_ z) (λ_ z=>z) λ_ _ z=>z
  rcases hb with rfl | hb
  ·rw[q];simp
  ·rw[hb];simp
end
theorem zA {X:Cx}{pins:List (Addr×Obj)}{σ1:L2.St}{H1:Hp}{s1:GX}{C:GZ}{e T':Addr}{T:Option Addr}{h':Heap}(hst:X.stack=X.env::X.outer)(hfe:X.env.frame=some X.env.locals)(hcl:∀x c,X.env.cells.lookup x≠some c)(hex:X.ex= [])(I1:Inv X pins σ1 H1 s1)(g:tf ((X.env::X.outer).filterMap (·.frame)) C e T s1.heap h' T')
  (he:H1 e=none) (heo:X.s₀.heap.get? e=none) (hT:∀t,T=some t->H1 t=none/\X.s₀.heap.get? t=none) (hpp:∀p∈X.pn++pins,p.1≠e/\T≠some p.1)
  {Pp:Prop} (kk:∀oe ev oT ts,h'.get? e=some oe->oe.cls=C->oe.data= .fields ev->ev[1]? =some (.ref T')->h'.get? T'=some oT->oT.data= .fields ts->3<ts.size->Inv (rh X e oe) pins σ1 H1 { s1 with heap:=h' }->e∉iU X.stack->Inv (rh X e oe) pins σ1 H1 { s1 with heap:=h'.update T' (Mh (·.setIfInBounds 3 HQ)) }->Pp):Pp:=by
 have I2:=Inv.Gk I1 hst hfe hcl hex g he heo hT hpp
 have Tn:H1 T'=none/\X.s₀.heap.get? T'=none/\∀p∈X.pn++pins,p.1≠T':=by
  rcases g.new with z | z
  ·exact⟨(hT T' z).1,(hT T' z).2,λp hp y=>(hpp p hp).2 (by rw[z,y])⟩
  ·exact⟨gI I1 z,fW I1 hex z,λp hp y=>by have:=(I1.pin p hp).1;rw[y,z]at this;cases this⟩
 obtain⟨hTe,oe,ev,hoe,hoc,hod,h1,oT,ts,hoT,hdT,h3⟩:=g.flt
 have nfr:∀b o vs,h'.get? b=some o->o.data= .fields vs->b∉(X.env::X.outer).filterMap (·.frame):=λb o vs hb hd z=>by
  have:=I2.stack;rw[hst]at this;obtain⟨_,o',ho',hnf⟩:=this.mem z;rw[show h'.get? b=some o' from ho']at hb
  cases hb;exact hnf vs hd
 have hel:e≠X.env.locals:=λz=>nfr e oe ev hoe hod (by rw[Ja,hfe];exact z▸G7)
 have hef:e∉X.fs:=λz=>nfr e oe ev hoe hod (by rw[Ja,hfe];exact G5 _ z)
 have hcell:∀v,oe.data≠ .cell v:=λv z=>by rw[hod]at z;cases z
 have I3:Inv (rh X e oe) pins σ1 H1 { s1 with heap:=h' }:=sA I2 hoe he hel hef hcell
 refine kk oe ev oT ts hoe hoc hod h1 hoT hdT (IW.mp h3).1 I3 (by rw[hst];exact nfr e oe ev hoe hod) ?_
 generalize hU:h'.update T' (Mh (·.setIfInBounds 3 HQ))=h2
 have kp:∀b,b≠T'->h2.get? b=h'.get? b:=λb hb=>by rw[<-hU];exact KM _ _ (Ka hb)
 have hT2:h2.get? T'=some (Mh (·.setIfInBounds 3 HQ) oT):=by rw[<-hU];exact MD _ hoT (ME (KB hdT _))
 have hoe2:h2.get? e=some oe:=(kp e (Ka hTe)).trans hoe
 have g2:tf ((X.env::X.outer).filterMap (·.frame)) C e (some T') h' h2 T':=⟨⟨hTe,oe,ev,hoe2,hoc,hod,h1,_,_,hT2,KB hdT _,by simp[(IW.mp h3).1]⟩,.inl rfl,λb o _ _ n3 q=>(kp b λz=>n3 (by rw[z])).trans q,λb o m q=>⟨o.slots,(kp b λz=>nfr T' oT ts hoT hdT (z▸m)).trans q⟩⟩
 have I4:Inv X pins σ1 H1 { s1 with heap:=h2 }:=Inv.Gk (s:={ s1 with heap:=h' }) I2 hst hfe hcl hex g2 he heo (λt z=>by cases z;exact⟨Tn.1,Tn.2.1⟩) λp hp=>⟨(hpp p hp).1,λz=>Tn.2.2 p hp (HW z).symm⟩
 exact sA I4 hoe2 he hel hef hcell
theorem A2 {prog:Hr}{w:HS}{A:HF}{E:GZ->GX->Prop}{s:GX}{env:Env}{body:List Stmt}{h₀:ExceptHandler}{hs:List ExceptHandler}{pos:Pos}{Q:Flow->GX->Prop}
  (h:wC (model prog w) A (execs body env) (λf s₁=>match f with | .next=>Q .next s₁ | f=>Q f s₁)
   (λe s₁=>wpAny (model prog w) A (K3 e env) (λ_ s₂=>wpAny (model prog w) A (setFlight e none) (λ_ s₃=>wpAny (model prog w) A (handleBy e env (h₀::hs)) Q E s₃) E s₂) E s₁) s) :
  wC (model prog w) A (exec (.Try body (h₀::hs) [] [] pos) env) Q E s:=by
 rw[arm_exec_Try];refine eX ?_
 unfold tryStmt;simp only[List.isEmpty_nil,if_true,N7,LJ,Iv,if_false];refine aV (kN (cO h (λf s₁ h₁=> ?_) λe s₁ h₁=> ?_))
 ·cases f <;> first | exact .of (Kd h₁) | exact a7 h₁
 ·exact ay (HX h₁ (λ_ _ h₂=>ay (HX h₂ (λ_ _ h₃=> .of h₃) λ_ _ x=>x)) λ_ _ x=>x)
theorem oQ {M:L7}{A:HF}{E:GZ->GX->Prop}{s:GX}{pos:Pos}{T:String}{args:List (Bool×Sem GZ)}{Q:GZ->GX->Prop}(hplain:args.any (·.1)=false)
  (h:wC M A (OL (.type T) true args []) (λa s₁=>wC M A (call (.type T) a.pos a.kw) Q E s₁) E s):wC M A (ON pos (.type T) [] args []) Q E s:=by
 unfold ON;refine aV (cq (iw h λa s₁ h₁=>eX ?_))
 simp only[hplain,List.any_nil,Mc];refine ay (Ha ?_)
 exact aV (iw h₁ λr s₂ hr=>ay (IE (O6 (a7 hr))))
def iP (x:JD):T:=match OP x with
 | some n=> .int n
 | none=> .non
def tO:T->Rs T
 | .str x=>if x.length<=640/\x.cps.all (· <1114112)=true then .ok (iP x)else .bad
 | _=> .bad
def tI (f:En->Rs T)(ρ:En):Rs Fl:=f ρ >>= λt=>tO t >>= λv=> .ok (.rt v)
theorem qF {x:JD}(h1:x.length<=640)(h2:x.cps.all (· <1114112)=true):(reprText x).length<=sizeLine:=by
 have h3:=StrLaws.reprText_len x λc hc=>by
  have:=JI.mp h2 c (by simpa using hc)
  have:c<1114112:=by simpa using this
  exact Hl this (by decide)
 rw[Je];omega
theorem Bb:isSubtype (.type "ValueError") (.type "ValueError")=pure true:=by rw[LU];kernel_rfl
theorem Bc:isSubtype (.type "ValueError") (.type "BaseException")=pure true:=by rw[LU];kernel_rfl
theorem Ba:isSubtype (.type ((Manifest.find? "ValueError").elim "type" λx=>x.metatype)) (.type "tuple")=pure false:=by rw[LU];kernel_rfl
theorem Bh {X:Cx}(i:Nat){j:Nat}{y:JD}{p1 p2 p3 p4 p5 p6 np hpos pos:Pos}(hst:X.stack=X.env::X.outer)(hfe:X.env.frame=some X.env.locals)(hcl:∀x c,X.env.cells.lookup x≠some c)(hex:X.ex= [])(hc:X.calm=true)
  (hmi:X.mg "int" =none) (hmv:X.mg "ValueError" =none) (hbi:HA "int" =some (.type "int")) (hbv:HA "ValueError" =some (.type "ValueError")) (hgi:Gl X "int") (hgv:Gl X "ValueError")
  (hN:X.N[i]? =some y) (hv:rz X.env.scope y) (hd:(y == ("__debug__" : JD))=false) (hcd:(y == ("__classdict__" : JD))=false) :
  C1 X (.Try [.Return (some (.Call (.Name "int" p1) [.Name y p2] [] p3)) p4] [.ExceptHandler (some (.Name "ValueError" np)) none [.Return (some (.Constant .none j p5)) p6] hpos] [] [] pos) (tI (vr i)):=by
 intro pins s σ H D I ⟨ρ,B,M,E,hq⟩;unfold tI vr at hq
 have hh:X.A.handled=none:=I.ok.hd hc
 have hw:∃x,ρ[i]? =some (.va (.str x))/\(x.length<=640/\x.cps.all (· <1114112)=true)/\∀v H',SameO M.u H H'->Rep X.K B H' (iP x) v->D.rt v H':=by
  split at hq
  ·rename_i t ht
   rw[aF]at hq;unfold tO at hq
   split at hq
   ·rename_i x
    split at hq
    ·rename_i hx;rw[aF]at hq;exact⟨x,ht,hx,hq⟩
    ·exact hq.elim
   ·exact hq.elim
  ·exact hq.elim
 obtain⟨x,hx,⟨h640,hall⟩,hD⟩:=hw;obtain⟨v,hs,rv⟩:=E.env.val i _ hx;cases Rep.FI.mp rv
 have rd:wpAny (model X.prog X.w) X.A (eval (.Name y p2) X.env) (λu s1=>s1=s/\∃t,u= .str x t) (λ_ _=>False) s:=by
  obtain⟨m,hn,hl⟩:=I.loc;obtain⟨u,r,l⟩:=hl i y _ hN hs hv
  have fin:(λu s1=>s1=s/\∃t,u=IG x t) u s:=⟨rfl,r⟩
  rcases l with⟨hk,hm⟩ | ⟨hk,c,hc',hcell⟩
  ·exact N9 (M1 I.ok.kind hk hn hm fin) hd
  ·exact absurd hc' (hcl y c)
 refine A2 (fx (mz (nv (dU I hgi hmi hbi (oQ rfl (nu (kM (.of (HX rd (λu s1 h1=> ?_) λ_ _ z=>z.elim)))))))))
 obtain⟨rfl,t,rfl⟩:=h1;refine .of (Ju ?_)
 show wC _ _ (call (.type "int") [.str x t] []) _ _ s1
 cases hi:OP x with
 | some n=>
  have e:iP x= .int n:=by unfold iP;rw[hi]
  rw[e]at hD
  exact .of (W.KIN.call_text hi h640 ⟨.int n,σ,H,I.tok _,⟨_,rfl⟩,hD _ H (λ_ _ e _=>e) (Rep.FP n)⟩)
 | none=>
  have e:iP x= .non:=by unfold iP;rw[hi]
  rw[e]at hD
  have hse:(O7 x).length<=640:=Hz (seen_length x) h640;refine tw hse hi (qF h640 hall) hh λh1 tk e me=> ?_
  obtain⟨ob,ta,hob,hcls,hdat⟩:=me.there
  have I1:Inv X pins σ H { s1 with heap:=h1,toks:=tk }:=I.kept me.keeps
  have he:H e=none:=gI I me.new
  have heo:X.s₀.heap.get? e=none:=fW I hex me.new
  have hfr:X.A.frames=some (X.env::X.outer):=by rw[<-hst];exact I.ok.frames
  have hstk:h1.FunFrames X.base (X.env::X.outer):=by have:=I1.stack;rw[hst]at this;exact this
  have fl:C0 h1 (.type "ValueError") e none:=⟨ob,_,hob,hcls,hdat,rfl⟩;refine B6 (s:={ s1 with heap:=h1,toks:=tk }) hfr hstk hfe fl λh2 T' g=> ?_
  refine zA hst hfe hcl hex I1 g he heo (λt z=>by cases z) (λp hp=>⟨λz=>(by have:=(I.pin p hp).1;rw[z,me.new]at this;cases this),λz=>by cases z⟩) λoe ev oT ts hoe hoc hod hv1 hoT hdT h3 I3 hnf I5=> ?_
  refine wpAny_handleBy_cons (codeAny_handlers_test (dU (X:=rh X e oe) I3 hgv hmv hbv ?_)) (by intro z;cases z)
  refine wpAny_excMatches_type (T:="ValueError") (X:="ValueError") ⟨oe,hoe,hoc⟩ Bc Ba Bb ?_
  refine codeAny_handlers_suite ?_
  refine wpAny_setFlight_none hoe hod hv1 hoT hdT h3 ?_
  refine Ms (Oa (Constant_none ?_))
  exact⟨.non,σ,H,zp I.ok I5,rfl,hD _ H (λ_ _ e _=>e) Rep.Gi⟩
theorem A5 {X:Cx}(i:Nat){j:Nat}{y:JD}{p1 p2 p3 p4 p5 p6 np hpos pos:Pos}(hcl:∀x c,X.env.cells.lookup x≠some c)(hmi:X.mg "int" =none)(hmv:X.mg "ValueError" =none)(hst:autoParam (X.stack=X.env::X.outer) u_)(hfe:autoParam (X.env.frame=some X.env.locals) u_)(hex:autoParam (X.ex= []) u_)(hc:autoParam (X.calm=true) u_)
  (hbi:autoParam (HA "int" =some (.type "int")) z_) (hbv:autoParam (HA "ValueError" =some (.type "ValueError")) z_) (hgi:autoParam (Gl X "int") u_) (hgv:autoParam (Gl X "ValueError") u_)
  (hN:autoParam (X.N[i]? =some y) u_) (hv:autoParam (rz X.env.scope y) v_) (hd:autoParam ((y == Iu "__debug__")=false) s_) (hcd:autoParam ((y == Iu "__classdict__")=false) s_) :
  US X (.Try [.Return (some (.Call (.Name "int" p1) [.Name y p2] [] p3)) p4] [.ExceptHandler (some (.Name "ValueError" np)) none [.Return (some (.Constant .none j p5)) p6] hpos] [] [] pos) (tI (vr i)):=
 ⟨Bh i hst hfe hcl hex hc hmi hmv hbi hbv hgi hgv hN hv hd hcd⟩
end Tr
namespace Tr
open PySem PySem.Spec PyProof.Rows L2
section
variable {X:Cx}{a b:Expr}{fa fb:En->Rs T}{apos cpos:Pos}
theorem nk (ha:QE X a fa)(hb:QE X b fb)(hn:autoParam (cP b=true) u_)(hbase:autoParam (Jg a "partition" X.env (eval a X.env)=eval a X.env) u_)(hline:autoParam ((apos.endLine == cpos.line)=true) u_) :
  QE X (.Call (.Attribute a "partition" apos) [b] [] cpos) (oS fK fa (ae fb ai)):=⟨Aw M0 F.type_str_partition zX ha.h hb.h hn hbase hline⟩
theorem nq (ha:QE X a fa)(hb:QE X b fb)(hn:autoParam (cP b=true) u_)(hbase:autoParam (Jg a "join" X.env (eval a X.env)=eval a X.env) u_)(hline:autoParam ((apos.endLine == cpos.line)=true) u_) :
  QE X (.Call (.Attribute a "join" apos) [b] [] cpos) (oS gP fa (ae fb ai)):=⟨Aw F.slot_str_join F.type_str_join zZ ha.h hb.h hn hbase hline⟩
end
end Tr
namespace L2
open PySem PySem.Spec PyProof.Rows
def PE1 (X:Cx)(e:Expr)(t:TE):Prop:=
 ∀(pins:List (Addr×Obj)) (s:GX) (σ:St) (H:Hp) (Q:VK),Inv X pins σ H s->vd<=s.toks->t σ H Q->wpAny (model X.prog X.w) X.A (eval e X.env) (EP X pins σ Q) X.xe s
theorem uL {α:Type}{M:L7}{A:HF}{t:Sem α}{Q:α->GX->Prop}{E:GZ->GX->Prop}{s:GX}(hk:vd<=s.toks)(h:wpAny M A t Q E s):wpAny M A t (λa s'=>Q a s'/\vd<=s'.toks) E s:=
 λΓ p hΓ=>Lm M Γ t (λ_ _ _ z=>z) (λ_ _ _ z=>z.1) p s (rF hk (h Γ p hΓ))
section
variable {X:Cx}{e:Expr}{te:TE}{lo hi:Option Expr}{tl th:TO}{pos p2:Pos}
theorem tK {r:V->Option Int->Option Int->Hp->VK->Prop}(hr:SlR X r)(he:PE1 X e te)(hl:PO X lo tl)(hu:PO X hi th):PE1 X (.Subscript e (.Slice lo hi none p2) pos) (tSl r te tl th):=by
 intro pins s σ H Q I hk h;refine Od (bJ (he pins s σ H _ I hk h) λv s1 hh_=> ?_)
 obtain⟨x,H1,I1,r1,q1⟩:=hh_;refine wpAny_Slice (bJ (hl pins s1 σ H1 _ I1 q1) λvl s2 ⟨l,H2,I2,pl,q2⟩=>bJ (hu pins s2 σ H2 _ I2 q2) λvu s3 hh_=> ?_)
 obtain⟨u,H3,I3,pu,q3⟩:=hh_;rw[NN];refine Ha ?_
 have I4:Inv X pins σ H3 { s3 with heap:=s3.heap.push { cls:=.type "slice",data:=.fields #[vl,vu,.none] } }:=I3.kept (t':=s3.toks) λb ob q=>G2 _ q
 obtain⟨T,id,hT,ht,hg⟩:=hr pins { s3 with heap:=s3.heap.push { cls:=.type "slice",data:=.fields #[vl,vu,.none] } } σ H3 x v vl vu l u s3.heap.objs.size Q I4 r1 (Nl ..) pl pu q3
 show wpAny (model X.prog X.w) X.A (Mk e (.Slice lo hi none p2) v (.ref s3.heap.objs.size)) (EP X pins σ Q) X.xe { s3 with heap:=s3.heap.push { cls:=.type "slice",data:=.fields #[vl,vu,.none] } }
 exact tail_any (ops:=[.ref s3.heap.objs.size,v]) ht hT hg (by with_unfolding_all rfl)
end
end L2
namespace Tr
open PySem PySem.Spec PyProof.Rows L2
abbrev uv (X:Cx)(e:Expr)(f:En->Rs T):Prop:=PE1 X e (tP X f)
section
variable {X:Cx}{a b c:Expr}{fa fb fc:En->Rs T}{pos:Pos}
theorem vI {lo hi:Option Expr}{p2:Pos}{fl fu:En->Rs (Option Int)}(ha:uv X a fa)(hl:CY X lo fl)(hu:CY X hi fu):uv X (.Subscript a (.Slice lo hi none p2) pos) (sl fa fl fu):=by
 intro pins s σ H Q I hk ⟨ρ,O,E,hq⟩;refine tK (sl_tup.or (sl_tup_whole.or rN)) ha hl hu pins s σ H Q I hk ?_
 obtain⟨ρ1,O1,E1,h1⟩:=aR E hq;refine⟨ρ1,O1,E1,Post.mono h1 λts H1 s1 q vs r=> ?_⟩
 obtain⟨t',r',s',E',q'⟩:=q vs r;obtain⟨ρ2,O2,E2,h2⟩:=jl E' q';refine⟨ρ2,O2,E2,Post.mono h2 λo1 H2 s2 q=> ?_⟩
 obtain⟨s2',E2',q2⟩:=q;obtain⟨ρ3,O3,E3,h3⟩:=jl E2' q2;refine⟨ρ3,O3,E3,Post.mono h3 λo2 H3 s3 q=> ?_⟩
 obtain⟨s3',E3',q3⟩:=q
 have rt:=(r'.same s2').same s3';unfold slT at q3
 split at q3
 ·rename_i l
  obtain⟨p,ws,e,n,q,rr⟩:=Rep.Fk.mp rt
  have hlen:=rr.length
  by_cases hw:HT.sIx ws.length 0 o1=0/\HT.sIx ws.length ws.length o2=ws.length
  ·refine .inr (.inl ⟨p,ws,e,SqT.of q,hw,?_⟩)
   rw[<-hlen]at hw;refine q3 H3 (Same.refl H3) _ ?_
   rw[m7 hw];exact Rep.Fk.mpr ⟨p,ws,rfl,n,q,rr⟩
  ·exact .inl ⟨p,ws,e,SqT.of q,hw,λp' hp=>q3 _ (aW hp _) _ (dH hp (E3'.fresh hp) (rr.cut o1 o2))⟩
 ·rename_i l
  obtain⟨p,ws,e,n,q,rr⟩:=Rep.FB.mp rt;exact .inr (.inr ⟨p,ws,e,SqL.of q,λp' hp=>q3 _ (aW hp _) _ (eY hp (E3'.fresh hp) (rr.cut o1 o2))⟩)
 ·exact q3.elim
end
section
variable {X:Cx}{a b:Expr}{fa:En->Rs T}{fs:En->Rs (List T)}{pos p apos cpos:Pos}
theorem BK {nm:Str}{id:String}{g:List T->Rs T}(hsl:Slot "str" nm id)(hty:typeOf (.builtin id)=pure (.type "method_descriptor"))(hc:CallT X (.builtin id) g)(ha:uv X a fa){fb:En->Rs T}(hb:cR X b fb)(hn:cP b=true)
  (hbase:Jg a nm X.env (eval a X.env)=eval a X.env) (hline:(apos.endLine == cpos.line)=true):uv X (.Call (.Attribute a nm apos) [b] [] cpos) (oS g fa (ae fb ai)):=by
 have hs:Hj [b] X.env=(false,eval b X.env)::Hj [] X.env:=bt hn;intro pins s σ H Q I hk ⟨ρ,O,E,hq⟩;refine J4 hbase (by rw[hs];rfl) hline rfl (bJ (ha pins s σ H _ I hk (aR E hq)) λv s1 hh_=> ?_)
 obtain⟨x,H1,I1,r1,t,rt,s',E',q1⟩:=hh_
 cases t with
 | str y=>
  rw[Rep.FI.mp rt]at r1;obtain⟨tk,rfl⟩:=r1;refine⟨_,_,KL,hsl,hty,(show typeOf _=_ from rfl),(λa z=>nomatch z),?_⟩
  rw[hs]
  have q1':Post X H1 (fb ρ >>= λu=>g [.str y,u]) λt H'=> ∀v,Rep X.K O H' t v->Q v H':=by
   have:(ae fb ai ρ >>= λts=>g (.str y::ts))=(fb ρ >>= λu=>g [.str y,u]):=by
    unfold ae;cases fb ρ <;> rfl
   rw[<-this];exact q1
  refine J2 rfl (JJ (Jl (bJ (hb pins s1 σ H1 _ I1 (aR (f:=fb) E' q1')) λu s2 ⟨w,H2,I2,r2,t2,rt2,s'',E'',q2⟩=>Ju ?_)))
  exact hc pins s2 σ H2 O [.str y,t2] [.str y,w] [.str y tk,u] Q I2 (λp=>E''.fresh) (Reps.FL (Rep.F1 _) (Reps.FL rt2 Reps.FO)) (.cons ⟨tk,rfl⟩ (.cons r2 .nil)) q2
 | _=>exact q1.elim
def eI (y z:Str):T->Rs T
 | .str x=>if x.length<=1048576 then .ok (.str (Mi x y z))else .bad
 | _=> .bad
theorem BL {y z:Str}{j1 j2:Nat}{p1 p2:Pos}(ht:vd=1)(ha:cR X a fa)(hyz:(y == z)=false)(hz:z.length<=14)(hbase:Jg a "replace" X.env (eval a X.env)=eval a X.env)(hline:(apos.endLine == cpos.line)=true) :
  uv X (.Call (.Attribute a "replace" apos) [.Constant (.str y) j1 p1,.Constant (.str z) j2 p2] [] cpos) (o1 (eI y z) fa):=by
 intro pins s σ H Q I hk ⟨ρ,O,E,hq⟩;refine J4 hbase (by rfl) hline rfl (bJ (uL hk (ha pins s σ H _ I (aR E hq))) λv s1 ⟨⟨x,H1,I1,r1,t,rt,s',E',q1⟩,hk1⟩=> ?_)
 cases t with
 | str x0=>
  rw[Rep.FI.mp rt]at r1;obtain⟨tk,rfl⟩:=r1
  have q1':Post X H1 (eI y z (.str x0)) λt H'=> ∀v,Rep X.K O H' t v->Q v H':=q1
  unfold eI at q1'
  dsimp only at q1'
  split at q1'
  ·rename_i hl
   refine⟨_,_,KL,F.slot_str_replace,F.type_str_replace,(show typeOf _=_ from rfl),(λa z=>nomatch z),?_⟩
   refine J2 rfl (JJ (Jl (NV (k:=j1) (pos:=p1) (Jl (NV (k:=j2) (pos:=p2) (Ju ?_))))))
   have h1:1<=s1.toks:=ht▸hk1;exact SC.replaceW (by show s1.toks≠0;omega) (by show s1.toks+1≠0;omega) (by show s1.toks≠s1.toks+1;omega) hyz hl hz λt' k=>⟨.str _,H1,I1.tok _,⟨_,rfl⟩,q1' H1 (Same.refl H1) _ (Rep.F1 _)⟩
  ·exact q1'.elim
 | _=>exact q1.elim
structure V1 (X:Cx)(e:Expr)(f:En->Rs T):Prop where
 h:uv X e f
theorem u_1 (h:V1 X a fa):UE X a fa:=⟨λpins s σ H Q I t k Γ p hΓ _=>h.h pins s σ H Q I k t Γ p hΓ⟩
theorem Am {y z:Str}{j1 j2:Nat}{p1 p2:Pos}(ha:QE X a fa)(hyz:autoParam ((y == z)=false) s_)(hz:autoParam (z.length<=14) s_)(hbase:autoParam (Jg a "replace" X.env (eval a X.env)=eval a X.env) u_)(hline:autoParam ((apos.endLine == cpos.line)=true) u_) :
  V1 X (.Call (.Attribute a "replace" apos) [.Constant (.str y) j1 p1,.Constant (.str z) j2 p2] [] cpos) (o1 (eI y z) fa):=⟨BL rfl ha.h hyz hz hbase hline⟩
theorem yd {fb:En->Rs T}(ha:V1 X a fa)(hb:QE X b fb)(hn:autoParam (cP b=true) u_)(hbase:autoParam (Jg a "split" X.env (eval a X.env)=eval a X.env) u_)(hline:autoParam ((apos.endLine == cpos.line)=true) u_) :
  V1 X (.Call (.Attribute a "split" apos) [b] [] cpos) (oS gF fa (ae fb ai)):=⟨BK K5 F.type_str_split xt ha.h hb.h hn hbase hline⟩
theorem ye {lo hi:Option Expr}{p2:Pos}{fl fu:En->Rs (Option Int)}(ha:V1 X a fa)(hl:QO X lo fl)(hu:QO X hi fu):V1 X (.Subscript a (.Slice lo hi none p2) pos) (sl fa fl fu):=⟨vI ha.h hl.h hu.h⟩
end
end Tr
namespace L2
open PySem PySem.Spec PyProof.Rows
section
variable {M:L7}{A:HF}{E:GZ->GX->Prop}{s:GX}{env:Env}
theorem tu {c:Code}{h:Option GZ}{Q:Flow->GX->Prop}(hc:cC M (A.mark h) c (λr s'=>match r with | .ok f=>Q f s' | .error e=>cameBackBy M A env E e s') s)(hnb:autoParam (h≠some byPass) b_) :
  wC M A (runOwn c env h) Q E s:=by
 unfold runOwn;exact fQ (uN (ip hc λr s' hr=>by cases r with | ok f=>exact hr | error e=>exact .of hr) hnb)
theorem A3 {target iter body orelse pos}{Q:Flow->GX->Prop}
  (h:wpAny M A (eval iter env) (λx s₁=>wpAny M A (pyIter x) (λit s₂=>cC M A (.forLoop target it body orelse env) (λr s'=>match r with | .ok f=>Q f s' | .error e=>cameBackBy M A env E e s') s₂) E s₁) E s)
  (hs:autoParam (∀x,Hw iter env x=pure x) t_):wC M A (exec (.For target iter body orelse pos) env) Q E s:=by
 rw[exec_For];refine eX (ay (HX h (λx s₁ h₁=>ay (KW (hs x) (eX ?_))) λ_ _ z=>z))
 exact ay (IE (HX h₁ (λit s₂ h₂=>tu h₂) λ_ _ z=>z))
theorem xy {c:Code}{R:KN->GX->Prop}(hq:c.quiet=true)(I:Nat->GX->Prop)
  (turn:∀n s,I n s->wC M (A.under c) (M.den c) (λfin s'=>match fin with
    | .done f=>R (.ok f) s'
    | .again c'=>(c'=c/\∃m,m<n/\I m s')\/(c'.quiet=true/\cC M A c' R s')) (λe s'=>R (.error e) s') s) (n:Nat) (h:I n s):cC M A c R s:=by
 induction n using OZ generalizing s with
 | ind n ih=>
  refine cY (cO (turn n s h) (λfin s' hf=> ?_) λ_ _ h'=>h')
  cases fin with
  | done f=>exact hf
  | again c'=>
   rcases hf with⟨rfl,m,hm,hI⟩ | hf
   ·exact⟨hq,ih m hm hI⟩
   ·exact hf
end
theorem rk {prog:Hr}{w:HS}{A:HF}{s:GX}{R:KN->GX->Prop}{target it body orelse env}(I:Nat->GX->Prop)
  (turn:∀n s,I n s->wpAny (model prog w) A (pyNext it) (λr s₁=>match r with
   | none=>wpAny (model prog w) A (execs orelse env) (λf s₃=>R (.ok f) s₃) (notedBy (model prog w) A env λe s'=>R (.error e) s') s₁
   | some v=>wpAny (model prog w) A (JP target it v) (λ_ s₁'=>
     wpAny (model prog w) A (assign target env v) (λ_ s₂=>wC (model prog w) A (execs body env) (λf s₃=>match f with
      | .next | .cont=> ∃m,m<n/\I m s₃
      | .brk=>R (.ok .next) s₃
      | .ret v=>R (.ok (.ret v)) s₃) (notedBy (model prog w) A env λe s'=>R (.error e) s') s₂) (notedBy (model prog w) A env λe s'=>R (.error e) s') s₁') (notedBy (model prog w) A env λe s'=>R (.error e) s') s₁) (notedBy (model prog w) A env λe s'=>R (.error e) s') s)
  (n:Nat) (h:I n s):cC (model prog w) A (.forLoop target it body orelse env) R s:=by
 refine xy rfl I (λn s hI=> ?_) n h
 show wC _ A ((forTurn target it body orelse env).onRaise (λx=>do K3 x env;Lo x)) _ _ s
 refine oO ?_
 simp only[forTurn];refine eX (aV (.of (NQ (HX (turn n s hI) (λr s₁ h₁=> ?_) λ_ _ h'=>Ld h'))))
 cases r with
 | none=>exact .of (Ha (.inr ⟨rfl,cC.of (codeAny_block h₁)⟩))
 | some v=>
  refine ay (HX h₁ (λ_ s₁' h₁'=> ?_) λ_ _ h'=>h')
  refine ay (HX h₁' (λ_ s₂ h₂=>aV (cO h₂ (λf s₃ h₃=> ?_) λ_ _ h'=>h')) λ_ _ h'=>h')
  cases f with
  | next=>exact a7 (.inl ⟨rfl,h₃⟩)
  | cont=>exact a7 (.inl ⟨rfl,h₃⟩)
  | brk=>exact a7 h₃
  | ret v=>exact a7 h₃
end L2
namespace Tr
open PySem PySem.Spec PyProof.Rows L2
theorem zb {α:Type}{t:Sem α}{Q:α->GX->Prop}{s:GX}{E:GZ->GX->Prop}{P:Hr}{w:HS}{A:HF}(h:wC (model P w) A t Q (λ_ _=>False) s):wC (model P w) A t Q E s:=cO h (λ_ _ q=>q) λ_ _ z=>z.elim
section
variable {X:Cx}{a b c e:Expr}{es:List Expr}{fa fb fc:En->Rs T}{fs:En->Rs (List T)}{pos p p2:Pos}{x:Str}
theorem zL {tg iter:Expr}{body:List Stmt}{wi:TI}{g:TG}{tb:TS}{pos:Pos}(hc:X.calm=true)(hi:PI X tg iter wi)(hg:PG X.nox tg g)(hb:DSs X.nox body tb)
  (hs:autoParam (∀x,Hw iter X.env x=pure x) t_):DS X (.For tg iter body [] pos) (Du wi g tb):=by
 intro pins s σ H D I h;refine A3 (bJ (hi pins s σ H _ I h) λv s1 h1=>bJ h1 λitv s2 h2=> ?_) hs
 obtain⟨it,fp,tn,J,H2,e,I2,T,st2,f2,W,⟨m0,w0⟩,turn⟩:=h2;subst e
 have stat:∀{H':Hp},(∀b∈fp,H' b=none)->∀b∈fp,ir X pins H' b:=λhn b hb=>⟨hn b hb,(f2 b hb).2⟩
 refine rk (λn s'=> ∃i σ' H',Inv X pins σ' H' s'/\tn i s'.heap/\(∀b∈fp,H' b=none)/\W i n σ' H') ?_ m0 ⟨0,σ,H2,I2,st2,λb hb=>(f2 b hb).1,w0⟩
 rintro n s3 ⟨i,σ3,H3,I3,st3,fr3,w3⟩
 rcases turn i n σ3 H3 w3 with⟨stop,qn⟩ | ⟨go,N,hN,step⟩
 ·refine fV (bJ (T.done X.nox rfl rfl rfl hc i pins s3 σ3 H3 _ (I3.FJ _) (stat fr3) st3 stop) λr s4 ⟨hr,I4⟩=> ?_)
  subst hr;exact Kd ⟨σ3,H3,I4.FJ _,qn⟩
 ·refine fV (bJ (T.item X.nox rfl rfl rfl hc i pins s3 σ3 H3 _ (I3.FJ _) (stat fr3) st3 go) λr s4 ⟨u,hr,h4⟩=> ?_)
  subst hr;refine fV (bJ h4 λ_ s5 hh_=> ?_)
  obtain⟨x,H5,I5,r5,y5,st5,fr5⟩:=hh_
  have I5':=Inv.pinned (X:=X.nox) I5 (stat fr5) (T.obj _ _ st5);refine fV (bJ (hg _ s5 σ3 H5 x u _ I5' r5 (step x H5 y5)) λ_ s6 hh_=> ?_)
  obtain⟨σ6,H6,I6,q6⟩:=hh_;refine zb (iw (hb _ s6 σ6 H6 _ I6 q6) λf s7 q7=> ?_)
  have again:∀{σ7:L2.St} {H7:Hp},Inv X.nox (pins++iM fp s5.heap) σ7 H7 s7->N σ7 H7->∃m,m<n/\∃i σ' H',Inv X pins σ' H' s7/\tn i s7.heap/\(∀b∈fp,H' b=none)/\W i m σ' H':=λ{σ7 H7} I7 n7=>by
   obtain⟨m',hm,w7⟩:=hN σ7 H7 n7;refine⟨m',hm,i+1,σ7,H7,(Inv.FM (X:=X.nox) I7).FJ _,T.keep _ _ _ st5 λb hb o e=>(I7.pin (b,o) (Hg _ (Hg _ (cT hb e)))).1,λb hb=> ?_,w7⟩
   obtain⟨o,e,d⟩:=T.obj _ _ st5 b hb;exact(I7.pin (b,o) (Hg _ (Hg _ (cT hb e)))).2.1
  cases f with
  | next=>obtain⟨σ7,H7,I7,n7⟩:=q7;exact again I7 n7
  | cont=>obtain⟨σ7,H7,I7,n7⟩:=q7;exact again I7 n7
  | brk=>obtain⟨σ7,H7,I7,q7⟩:=q7;exact⟨σ7,H7,(Inv.FM (X:=X.nox) I7).FJ _,q7⟩
  | ret v=>obtain⟨x7,σ7,H7,I7,r7,q7⟩:=q7;exact⟨x7,σ7,H7,(Inv.FM (X:=X.nox) I7).FJ _,r7,q7⟩
theorem Fb {tg iter:Expr}{body:List Stmt}{fi:En->Rs (List T)}{g:T->En->Rs En}{F:En->Rs Fl}(hc:X.calm=true)(hi:xN X tg iter fi)(hg:xO X.nox tg g)(hb:oH X.nox body F)
  (hs:autoParam (∀x,Hw iter X.env x=pure x) t_):C1 X (.For tg iter body [] pos) (gy fi g F):=DS.imp (zL hc hi hg hb hs) λD σ H hh_=>by
 obtain⟨ρ,B,M,E,h⟩:=hh_;refine⟨ρ,OO B M,E.o,?_⟩
 unfold gy at h
 cases q:fi ρ with
 | bad=>rw[q]at h;exact h.elim
 | err c=>rw[q]at h;exact PostF.xa h
 | ok ts=>
  rw[q,aF]at h
  cases qq:bF g F ts ρ with
  | bad=>rw[qq]at h;exact h.elim
  | err c=>rw[qq]at h;exact h.elim
  | ok fin=>
  rw[qq]at h;intro H1 s1 J hJ
  have E1:Ev X.K B M H1 ρ σ:=E.same s1
  have h1:PostF X B M.u H1 (.ok fin) D:=PostF.later h (SameO.of s1) λa z=> .inl z
  refine⟨λi m σ' H'=>m=ts.length - i/\i<=ts.length/\SameO M.u H1 H'/\∃ρ' M',Ev X.K B M' H' ρ' σ'/\(∀a,M'.u a->M.u a\/Nw X.K H1 a)/\bF g F (ts.drop i) ρ'= .ok fin,
   ⟨ts.length,by omega,HZ _,λ_ _ e _=>e,ρ,M,E1,λa z=> .inl z,by simpa using qq⟩,?_⟩
  rintro i m σ' H' ⟨rfl,hi',sm,ρ',M',E',ow,hl⟩
  have it:=hJ M.u (OO B M') (λa z=> .inl (.inr z)) (λa z=>z.elim (λw=> .inl (.inl w)) λw=>(ow a w).elim (λy=> .inl (.inr y)) .inr) i H' sm (λa z=>(E'.env.trk a z).some)
  by_cases hlt:i<ts.length
  ·have hti:ts[i]? =some ts[i]:=by simp
   obtain⟨go,yl⟩:=it.2 ts[i] hti;rw[Jf hlt]at hl;unfold bF at hl;refine .inr ⟨go,λσ2 H2=> ∃m',m'<ts.length - i/\(m'=ts.length - (i+1)/\i+1<=ts.length/\SameO M.u H1 H2/\∃ρ2 M2,Ev X.K B M2 H2 ρ2 σ2/\(∀a,M2.u a->M.u a\/Nw X.K H1 a)/\bF g F (ts.drop (i+1)) ρ2= .ok fin),λσ2 H2 z=>z,λx Hc y=> ?_⟩
   obtain⟨sc,rx⟩:=yl x Hc y;refine⟨ρ',OO B M',M',ts[i],E'.env.same sc,rx,?_⟩
   cases e1:g ts[i] ρ' with
   | bad=>rw[e1]at hl;cases hl
   | err cc=>rw[e1]at hl;cases hl
   | ok ρ1=>
    rw[e1,aF]at hl;intro σ1 Eg
    have E2:Ev X.K B M' Hc ρ1 σ1:=⟨Eg,E'.mine⟩;refine⟨ρ1,B,M',E2,?_⟩
    have smc:SameO M.u H1 Hc:=λb o e n=>sc _ _ (sm b o e n)
    have onward:∀{σ3:L2.St} {H3:Hp} {ρ3:En} {M3:Mn},SameO M'.u Hc H3->Ev X.K B M3 H3 ρ3 σ3->(∀a,M3.u a->M'.u a\/Nw X.K Hc a)->bF g F (ts.drop (i+1)) ρ3= .ok fin →
      ∃m',m'<ts.length - i/\(m'=ts.length - (i+1)/\i+1<=ts.length/\SameO M.u H1 H3/\∃ρ2 M2,Ev X.K B M2 H3 ρ2 σ3/\(∀a,M2.u a->M.u a\/Nw X.K H1 a)/\bF g F (ts.drop (i+1)) ρ2= .ok fin):=
     λ{σ3 H3 ρ3 M3} s3 E3 o3 p3=>⟨_,by omega,rfl,hlt,smc.trans s3 ow,ρ3,M3,E3,λa z=>(o3 a z).elim (ow a) (hZ smc),p3⟩
    cases e2:F ρ1 with
    | bad=>rw[e2]at hl;cases hl
    | err cc=>rw[e2]at hl;cases hl
    | ok f=>
     rw[e2,aF]at hl
     cases f with
     | nx ρ2=>exact λσ3 H3 M3 s3 E3 o3=>onward s3 E3 o3 hl
     | ct ρ2=>exact λσ3 H3 M3 s3 E3 o3=>onward s3 E3 o3 hl
     | bk ρ2=>
      cases hl
      exact λσ3 H3 M3 s3 E3 o3=>h1 σ3 H3 M3 (smc.trans s3 ow) E3 λa z=>(o3 a z).elim (ow a) (hZ smc)
     | rt t=>
      cases hl;exact λv H3 s3 r=>h1 v H3 (smc.trans s3 ow) r
  ·refine .inl ⟨it.1 (by omega),?_⟩
   have hi2:i=ts.length:=by omega
   subst hi2;rw[Mo]at hl;cases hl;exact h1 σ' H' M' sm E' ow
theorem uY {tg iter:Expr}{body:List Stmt}{pos:Pos}{fi:En->Rs (List T)}{g:T->En->Rs En}{F:En->Rs Fl}(hc:X.calm=true)(hi:QI X tg iter fi)(hg:QG X.nox tg g)(hb:Ae X.nox body F)(hs:autoParam (∀x,Hw iter X.env x=pure x) t_):US X (.For tg iter body [] pos) (gy fi g F):=⟨Fb hc hi.h hg.h hb.h hs⟩
end
section
variable {X:Cx}
theorem d_cT {e:Expr}{es:List Expr}{fs:En->Rs (List T)}{x:Str}{p pos:Pos}{Ty:String}{g:List T->Rs T}(hc:CallT X (.type Ty) g)(hm:X.mg x=none)(hv:HA x=some (.type Ty))(ha:C7 X (e::es) fs)(hn:a0 (e::es)=true)(hg:Gl X x)(h1:x≠ "__name__")(h2:(x == ("__debug__" : Str))=false) :
  xS X (.Call (.Name x p) (e::es) [] pos) (cl g fs):=by
 intro pins s σ H Q I ⟨ρ,O,E,hq⟩;refine nv (dU I hg hm hv ?_ h1 h2)
 have hs:=ha pos pins s σ H _ I (dG E hq)
 have he:Hj (e::es) X.env=(false,eval e X.env)::Hj es X.env:=bt (by unfold a0 at hn;exact(HY.mp hn).1)
 have hpl:=ef (pos:=pos) (env:=X.env) hn;rw[he]at hs hpl ⊢;exact oQ hpl (nu (iw hs λus s1 ⟨vs,H1,I1,r1,ts,rs,s',E',q1⟩=> .of (hc pins s1 σ H1 O ts vs us Q I1 (λp=>E'.fresh) rs r1 q1)))
theorem u_cT {e:Expr}{es:List Expr}{fs:En->Rs (List T)}{x:Str}{p pos:Pos}{Ty:String}{g:List T->Rs T}(hc:CallT X (.type Ty) g)(hm:X.mg x=none)(hv:HA x=some (.type Ty))(ha:UA X (e::es) fs)(hn:autoParam (a0 (e::es)=true) u_)(hg:autoParam (Gl X x) u_)(h1:autoParam (x≠ "__name__") s_)(h2:autoParam ((x == ("__debug__" : Str))=false) s_) :
  UE X (.Call (.Name x p) (e::es) [] pos) (cl g fs):=⟨d_cT hc hm hv ha.h hn hg h1 h2⟩
end
end Tr
namespace G
open PySem PySem.Spec PyProof.Rows L2 Tr
structure Bl (mg:Str->Option GZ):Prop where
 b_ValueError:mg "ValueError" =none
 b_all:mg "all" =none
 b_bool:mg "bool" =none
 b_dict:mg "dict" =none
 b_enumerate:mg "enumerate" =none
 b_int:mg "int" =none
 b_isinstance:mg "isinstance" =none
 b_len:mg "len" =none
 b_list:mg "list" =none
 b_range:mg "range" =none
 b_str:mg "str" =none
 b_tuple:mg "tuple" =none
 b_zip:mg "zip" =none
structure Cs (mg:Str->Option GZ):Prop where
 MOST_CLOCKS:∃t,mg "MOST_CLOCKS" =some (.int 4 t)
 MOST_LETTERS:∃t,mg "MOST_LETTERS" =some (.int 8 t)
 MOST_READINGS:∃t,mg "MOST_READINGS" =some (.int 4 t)
 LAST_READING:∃t,mg "LAST_READING" =some (.int 99 t)
 SLOWEST:∃t,mg "SLOWEST" =some (.int 9 t)
 LONGEST:∃t,mg "LONGEST" =some (.int 999 t)
 FARTHEST:∃t,mg "FARTHEST" =some (.int 999999999 t)
theorem oC:HA "bool" =some (.type "bool"):=by decide+kernel
theorem gV:HA "int" =some (.type "int"):=by decide+kernel
theorem jI:HA "list" =some (.type "list"):=by decide+kernel
theorem cZ:HA "str" =some (.type "str"):=by decide+kernel
theorem d8:HA "tuple" =some (.type "tuple"):=by decide+kernel
structure Xs (K:GW)(mg:Str->Option GZ)(C_NoRecord C_NoEvent C_NoNumber C_NoText C_ClockError:Addr):Prop where
 m_NoRecord:mg "NoRecord" =some (.ref C_NoRecord)
 m_NoEvent:mg "NoEvent" =some (.ref C_NoEvent)
 m_NoNumber:mg "NoNumber" =some (.ref C_NoNumber)
 m_NoText:mg "NoText" =some (.ref C_NoText)
 m_ClockError:mg "ClockError" =some (.ref C_ClockError)
 o_NoRecord:OX K C_NoRecord (.ref C_ClockError::lQ)
 o_NoEvent:OX K C_NoEvent (.ref C_ClockError::lQ)
 o_NoNumber:OX K C_NoNumber (.ref C_ClockError::lQ)
 o_NoText:OX K C_NoText (.ref C_ClockError::lQ)
 o_ClockError:OX K C_ClockError lQ
 d:[C_NoRecord,C_NoEvent,C_NoNumber,C_NoText,C_ClockError].Nodup
abbrev bD:Stmt:=top 48
theorem aap:bM ["_law_e","_law_flags"] ["_law_e"] (ao bD):=⟨rfl,rfl,rfl,by decide+kernel,rfl,by decide+kernel,by decide+kernel⟩
def eZ (j:Nat):T:=.tup [.str "refused",.int (j:Nat)]
def mq (c:Str):Rs T:=if c= "NoRecord" then .ok (eZ 0)else if c= "NoNumber" then .ok (eZ 1)else if c= "NoText" then .ok (eZ 2)else .bad
section
variable {P:Hr}{w:HS}{K:GW}{mg:Str->Option GZ}{base:Heap}{C_NoRecord C_NoEvent C_NoNumber C_NoText C_ClockError:Addr}
theorem Xs.ne {C D:Addr}(h:C≠D):(HD C::lQ).contains (.ref D)=false:=by
 rw[Jm]
 have:(HD D == HD C)=false:=by rw[beq_eq_false_iff_ne];exact λz=>h (Nm z).symm
 rw[this];rfl
theorem vD {C e f:Addr}{oe:Obj}{ev:Array GZ}{A:HF}{outer:List Env}{s:GX}{H:Hp}{Q:VK}{j:Nat}(S:Xs K mg C_NoRecord C_NoEvent C_NoNumber C_NoText C_ClockError)(OC:OX K C (.ref C_ClockError::lQ))
  (hc:oe.cls= .ref C) (hd:oe.data= .fields ev) (hi:mg "isinstance" =none) (hv:mg "ValueError" =none) (n_NoRecord:C_ClockError≠C_NoRecord) (n_NoNumber:C_ClockError≠C_NoNumber) (n_NoText:C_ClockError≠C_NoText)
  {b0 b1 b2:Bool} (h0:decide (C=C_NoRecord)=b0) (h1:decide (C=C_NoNumber)=b1) (h2:decide (C=C_NoText)=b2)
  (cnt:[b0,b1,b2].countP id=1) (hj:[b0,b1,b2][j]? =some true) (hno:∀m,m<j->[b0,b1,b2][m]? =some false)
  (q:∀p H',Same H H'->H p=none->H' p=some (.tup [.str "refused",.int (j:Nat)])->Q (.ref p) H') (cdv:GZ) :
  ∃t,PSs (FD P w K mg base ["_law_e","_law_flags"] "_law_refused" (ao bD) f cdv A outer s H e oe) (bq bD) t/\t { nx:=λ_ _=>False,rt:=Q } (start ["_law_e","_law_flags"] [.ref e]) H:=by
 have nd:=aap.nd
 have hp:(e,oe)∈(FD P w K mg base ["_law_e","_law_flags"] "_law_refused" (ao bD) f cdv A outer s H e oe).pn:=G7
 refine⟨_,kZ (vM (i:=1) nd rfl (Of rfl) (vU (b6 (qJ rfl (Of rfl) hp hc hd OC S.o_NoRecord b0 h0 (λ_=>Xs.ne n_NoRecord) hi S.m_NoRecord) (b6 (qJ rfl (Of rfl) hp hc hd OC S.o_NoNumber b1 h1 (λ_=>Xs.ne n_NoNumber) hi S.m_NoNumber) (b6 (qJ rfl (Of rfl) hp hc hd OC S.o_NoText b2 h2 (λ_=>Xs.ne n_NoText) hi S.m_NoText) fy)))))
  (kZ (Ay (PW.pt (Ax (yJ Ei (vY Ku PySem.F.slot_list_count PySem.F.type_list_count tT (pv 1) (b6 vZ fy)) vW (B7 _)) (vJ (vL (vK (BS rfl (Of rfl) hp hc OC hi hv)))))) (hW vN) rS)
  (hW (k4 (vQ (b6 vR (b6 (vY Ku PySem.F.slot_list_index PySem.F.type_list_index tR (pv 1) (b6 vZ fy)) fy)))))),?_⟩
 refine⟨rfl,rfl,rfl,(by show 3<=sizeLine;decide),λl1 n1=> ?_⟩
 refine⟨.ref l1,rfl,.inl ⟨rfl,_,SqL.of aT⟩,⟨l1,[b0,b1,b2],rfl,rfl,aT,?_⟩⟩
 have hz:(!decide (V.int (([b0,b1,b2].countP id:Nat):Int)=V.int 1))=false:=by rw[cnt];simp
 refine⟨rfl,false,congrArg V.bl hz,iteF ⟨rfl,true,rfl,iteF ?_⟩⟩
 have hj6:j<3:=by have:=(Hm.mp hj).1;simpa using this
 refine⟨.ref l1,rfl,.inl ⟨rfl,_,SqL.of aT⟩,⟨l1,[b0,b1,b2],j,rfl,rfl,aT,hj,hno,by omega,(by show 2<=sizeLine;decide),λp np=>q p _ ?_ ?_ aT⟩⟩
 rotate_left
 ·have m1:p≠l1:=λz=>by subst z;rw[aT]at np;cases np
  rw[aN m1]at np;exact np
 intro b o hb
 have m1:b≠l1:=λz=>by subst z;rw[n1]at hb;cases hb
 have m4:b≠p:=λz=>by subst z;rw[aN m1,hb]at np;cases np
 rw[aN m4,aN m1];exact hb
end
section
variable {X:Cx}{C_NoRecord C_NoEvent C_NoNumber C_NoText C_ClockError:Addr}
def tRC (X:Cx)(i:Nat)(e:Addr)(j:Nat):TE:=λσ H Q=>σ[i]? =some (some (.ref e))/\H e=none/\e∉iU X.stack/\∀p H',Same H H'->H p=none->H' p=some (.tup [.str "refused",.int (j:Nat)])->Q (.ref p) H'
theorem iN {en:Str}{p p1 pos:Pos}{i j:Nat}{C e f:Addr}{fd:Ib}{oe:Obj}{ev:Array GZ}(hN:X.N[i]? =some en)(hv:rz X.env.scope en)
  (Fn_:Fn X.K X.mg "_law_refused" bD ["_law_e"] f fd) (S:Xs X.K X.mg C_NoRecord C_NoEvent C_NoNumber C_NoText C_ClockError) (OC:OX X.K C (.ref C_ClockError::lQ))
  (hc:oe.cls= .ref C) (hd:oe.data= .fields ev) (hi:X.mg "isinstance" =none) (hvv:X.mg "ValueError" =none) (n_NoRecord:C_ClockError≠C_NoRecord) (n_NoNumber:C_ClockError≠C_NoNumber) (n_NoText:C_ClockError≠C_NoText)
  {b0 b1 b2:Bool} (h0:decide (C=C_NoRecord)=b0) (h1:decide (C=C_NoNumber)=b1) (h2:decide (C=C_NoText)=b2)
  (cnt:[b0,b1,b2].countP id=1) (hj:[b0,b1,b2][j]? =some true) (hno:∀m,m<j->[b0,b1,b2][m]? =some false) (hr:X.A.depth+3<J1)
  (hg:autoParam (Gl (rh X e oe) "_law_refused") u_) (hde:autoParam ((en == ("__debug__" : Str))=false) s_) (hce:autoParam ((en == ("__classdict__" : Str))=false) s_)
  (he:autoParam (Hj [.Name en p1] X.env=(false,eval (.Name en p1) X.env)::Hj [] X.env) u_) (hpl:autoParam ((backTo pos (Hj [] X.env)).any (·.1)=false) u_) :
  PE (rh X e oe) (.Call (.Name "_law_refused" p) [.Name en p1] [] pos) (tRC X i e j):=by
 intro pins s σ H Q I ⟨hσ,hH,hf,q⟩;refine Iy (ie (X:=rh X e oe) I hg Fn_.mg ?_ (by decide))
 have hA:PA (rh X e oe) [.Name en p1] (jm (vg i) vh):=b6 (jN (X:=rh X e oe) hN hv hde hce) fy he;refine Ly (h₀:=X.base) I.ok.mod.kin Fn_.fn.kp (bJ (hA pos pins s σ H (λvs H'=>vs= [.ref e]/\H'=H) I ⟨.ref e,hσ,rfl,rfl⟩) λus s1 ⟨vs,H1,I1,r,e1,e2⟩=>⟨I1.kIn,?_⟩) he hpl
 subst e1;subst e2;obtain⟨u,rfl,ru⟩:=jd r;cases ru
 have hoe:s1.heap.get? e=some oe:=(I1.pin (e,oe) (HG _ G7)).1
 have hb:=Fn_.bd s1 [.ref e] I1.kIn rfl;refine wpAny_call (On (Cw (Q:=Q) Fn_.fn aap (vs:=[.ref e]) rfl hr I1.Gc hb r hoe hH hf (λv z=>by rw[hd]at z;cases z) λcdv=>vD S OC hc hd hi hvv n_NoRecord n_NoNumber n_NoText h0 h1 h2 cnt hj hno q cdv) λr s' hq=> ?_)
 cases r with
 | error ev=>exact hq.elim
 | ok fl=>
  cases fl with
  | ret u=>exact I1.after hq
  | next=>exact hq.elim
  | brk=>exact hq.elim
  | cont=>exact hq.elim
theorem nM {K:GW}{O:Ow}{H H':Hp}{p:Addr}{j:Nat}(hO:∀p,H p=none->¬ O p)(hp:H p=none)(h:H' p=some (.tup [.str "refused",.int (j:Nat)])):Rep K O H' (eZ j) (.ref p):=
 Rep.Fk.mpr ⟨p,_,rfl,hO p hp,h,Reps.FL (Rep.F1 _) (Reps.FL (Rep.FP _) Reps.FO)⟩
theorem vj {en:Str}{p p1 pos rp:Pos}{i:Nat}{f:Addr}{fd:Ib}(hN:X.N[i]? =some en)(hv:rz X.env.scope en)
  (Fn_:Fn X.K X.mg "_law_refused" bD ["_law_e"] f fd) (S:Xs X.K X.mg C_NoRecord C_NoEvent C_NoNumber C_NoText C_ClockError) (hi:X.mg "isinstance" =none) (hvv:X.mg "ValueError" =none) (hr:X.A.depth+3<J1)
  (hg:autoParam (∀e oe,Gl (rh X e oe) "_law_refused") x_) (hde:autoParam ((en == ("__debug__" : Str))=false) s_) (hce:autoParam ((en == ("__classdict__" : Str))=false) s_)
  (he:autoParam (Hj [.Name en p1] X.env=(false,eval (.Name en p1) X.env)::Hj [] X.env) u_) (hpl:autoParam ((backTo pos (Hj [] X.env)).any (·.1)=false) u_) :
  Ag X i [.Return (some (.Call (.Name "_law_refused" p) [.Name en p1] [] pos)) rp] C_ClockError mq:=by
 have dd:=S.d
 have ap:∀{a b:Addr} (i j:Nat),i<j->[C_NoRecord,C_NoEvent,C_NoNumber,C_NoText,C_ClockError][i]? =some a->[C_NoRecord,C_NoEvent,C_NoNumber,C_NoText,C_ClockError][j]? =some b->a≠b:=λ{a b} i j hij ha hb z=>by
  have:=(List.getElem?_inj (Hm.mp ha).1 dd).mp (ha.trans (z▸hb.symm))
  omega
 have hin:∀C:Addr,(HD C:: .ref C_ClockError::lQ).contains (.ref C_ClockError)=true:=λC=>by rw[Jm,Jm,beq_self_eq_true,Oj,Bool.or_true]
 have n_NoRecord:C_ClockError≠C_NoRecord:=(Ka (ap 0 4 (by decide) rfl rfl))
 have n_NoNumber:C_ClockError≠C_NoNumber:=(Ka (ap 2 4 (by decide) rfl rfl))
 have n_NoText:C_ClockError≠C_NoText:=(Ka (ap 3 4 (by decide) rfl rfl))
 intro c C t hm ht;unfold mq at ht
 by_cases z0:c= "NoRecord"
 ·rw[if_pos z0]at ht
  cases ht;rw[z0,S.m_NoRecord]at hm;cases hm;refine⟨_,S.o_NoRecord,hin _,λe oe ev hc hd pins s σ H O Q I hH hf hσ hO q=> ?_⟩
  exact hW (k4 (iN hN hv Fn_ S S.o_NoRecord hc hd hi hvv n_NoRecord n_NoNumber n_NoText (b0:=true) (b1:=false) (b2:=false) (by simp) (by rw[decide_eq_false (ap 0 2 (by decide) rfl rfl)]) (by rw[decide_eq_false (ap 0 3 (by decide) rfl rfl)]) (by decide) (j:=0) rfl (λm hm=>by omega) hr (hg e oe) hde hce he hpl)) pins s σ H _ I ⟨hσ,hH,hf,λp H' sm hp h=>q _ _ sm (nM hO hp h)⟩
 rw[if_neg z0]at ht
 by_cases z1:c= "NoNumber"
 ·rw[if_pos z1]at ht
  cases ht;rw[z1,S.m_NoNumber]at hm;cases hm;refine⟨_,S.o_NoNumber,hin _,λe oe ev hc hd pins s σ H O Q I hH hf hσ hO q=> ?_⟩
  exact hW (k4 (iN hN hv Fn_ S S.o_NoNumber hc hd hi hvv n_NoRecord n_NoNumber n_NoText (b0:=false) (b1:=true) (b2:=false) (by rw[decide_eq_false (Ka (ap 0 2 (by decide) rfl rfl))]) (by simp) (by rw[decide_eq_false (ap 2 3 (by decide) rfl rfl)]) (by decide) (j:=1) rfl (λm hm=>by match m,hm with | 0,_=>rfl) hr (hg e oe) hde hce he hpl)) pins s σ H _ I ⟨hσ,hH,hf,λp H' sm hp h=>q _ _ sm (nM hO hp h)⟩
 rw[if_neg z1]at ht
 by_cases z2:c= "NoText"
 ·rw[if_pos z2]at ht
  cases ht;rw[z2,S.m_NoText]at hm;cases hm;refine⟨_,S.o_NoText,hin _,λe oe ev hc hd pins s σ H O Q I hH hf hσ hO q=> ?_⟩
  exact hW (k4 (iN hN hv Fn_ S S.o_NoText hc hd hi hvv n_NoRecord n_NoNumber n_NoText (b0:=false) (b1:=false) (b2:=true) (by rw[decide_eq_false (Ka (ap 0 3 (by decide) rfl rfl))]) (by rw[decide_eq_false (Ka (ap 2 3 (by decide) rfl rfl))]) (by simp) (by decide) (j:=2) rfl (λm hm=>by match m,hm with | 0,_=>rfl | 1,_=>rfl) hr (hg e oe) hde hce he hpl)) pins s σ H _ I ⟨hσ,hH,hf,λp H' sm hp h=>q _ _ sm (nM hO hp h)⟩
 rw[if_neg z2]at ht;cases ht
end
end G
namespace G
open PySem Tr
def g7:En->Rs Fl:=
 (aI (ei (tb (o2 eqT (vr 0) (gU ai))) (aL (o2 cb (cn (.int 7)) (vr 1))) sN) (aL (o2 aB (o2 bY (vr 0) (o2 jA (vr 1) (cl cF (ae (vr 0) ai)))) (o2 cb (cn (.int 6553)) (o2 jF (vr 1) (cl cF (ae (vr 0) ai)))))))
def eC:List T->Rs T:=val 2 2 g7
def gn:En->Rs Fl:=
 (aI (c6 (o2 jA (o2 aB (o2 cb (o2 jA (cl eC (ae (vr 0) (ae (vr 1) ai))) (cn (.int 2147483563))) (cn (.int 69069))) (o2 cb (cn (.int 104723)) (o2 aB (vr 1) (cn (.int 1))))) (cn (.int 2147483563))) (gN 3)) (aI (c6 (o2 jA (o2 aB (o2 cb (vr 3) (vr 3)) (o2 jF (vr 3) (cn (.int 3)))) (cn (.int 2147483399))) (gN 3)) (aL (o2 jA (o2 jF (o2 jA (o2 aB (o2 cb (vr 3) (vr 3)) (o2 jF (vr 3) (cn (.int 7)))) (cn (.int 2147483647))) (cn (.int 11))) (vr 2)))))
def aw:List T->Rs T:=val 3 4 gn
def iH:En->Rs Fl:=
 (aI (c6 (gU ai) (gN 1)) (aI (gy (iE (ae (vr 0) ai)) (gT 2 (kx (gN 2) (kx (gN 3) ug))) (c6 (o2 aB (vr 1) (fz (iR (ae (cl cF (ae (o2 bY (vr 3) (cn (.int 2))) ai)) ai)) [none,some 2] (gN 0) bT (br (ae (vr 1) (ae (vr 0) ai))))) (gN 1))) (aL (vr 1))))
def bw:List T->Rs T:=val 1 4 iH
def dt:En->Rs Fl:=
 (aI (c6 (cl bw (ae (vr 2) ai)) (gN 3)) (aI (ei (tb (o2 AD (cl cF (ae (vr 3) ai)) (cn (.int 2)))) (aL (cn .non)) sN) (aI (c6 (cl aw (ae (vr 0) (ae (vr 1) (ae (cl cF (ae (vr 3) ai)) ai)))) (gN 4)) (aI (c6 (o2 jA (o2 aB (o2 aB (vr 4) (cn (.int 1))) (cl aw (ae (vr 0) (ae (o2 aB (vr 1) (cn (.int 1))) (ae (o2 km (cl cF (ae (vr 3) ai)) (cn (.int 1))) ai))))) (cl cF (ae (vr 3) ai))) (gN 5)) (aI (c6 (cl aw (ae (vr 0) (ae (o2 aB (vr 1) (cn (.int 2))) (ae (cn (.int 8)) ai)))) (gN 6)) (aI (c6 (Cq (tb (o2 eqT (cl aw (ae (vr 0) (ae (o2 aB (vr 1) (cn (.int 3))) (ae (cn (.int 3)) ai)))) (cn (.int 0)))) (cn .non) (o2 aB (vr 6) (cl aw (ae (vr 0) (ae (o2 aB (vr 1) (cn (.int 4))) (ae (cn (.int 9)) ai)))))) (gN 7)) (aL (br (ae (o2 bY (vr 3) (vr 4)) (ae (o2 bY (vr 3) (vr 5)) (ae (vr 6) (ae (vr 7) ai))))))))))))
def cI:List T->Rs T:=val 3 8 dt
def gp:En->Rs Fl:=
 (aI (c6 (o2 aB (cn (.int 1)) (cl aw (ae (vr 0) (ae (vr 1) (ae (cn (.int 3)) ai))))) (gN 2)) (aI (c6 (br (ae (cl aw (ae (vr 0) (ae (o2 aB (vr 1) (cn (.int 2))) (ae (cn (.int 6)) ai)))) ai)) (gN 3)) (aI (gy (iR (ae (cl aw (ae (vr 0) (ae (o2 aB (vr 1) (cn (.int 1))) (ae (cn (.int 3)) ai)))) ai)) (gN 4) (c6 (o2 aB (vr 3) (br (ae (o2 aB (o2 aB (o2 bY (vr 3) (o1 gz (cn (.int 1)))) (cn (.int 1))) (cl aw (ae (vr 0) (ae (o2 aB (o2 aB (vr 1) (cn (.int 3))) (vr 4)) (ae (cn (.int 5)) ai))))) ai))) (gN 3))) (aL (br (ae (vr 2) (ae (o2 aB (vr 2) (cl aw (ae (vr 0) (ae (o2 aB (vr 1) (cn (.int 6))) (ae (cn (.int 3)) ai))))) (ae (vr 3) ai))))))))
def bQ:List T->Rs T:=val 2 5 gp
def fG:En->Rs Fl:=
 (aI (c6 (cl jK (ae (fz (iR (ae (o2 aB (cn (.int 1)) (cl aw (ae (vr 0) (ae (vr 1) (ae (cn (.int 3)) ai))))) ai)) [none,some 0,some 1] (gN 0) bT (cl bQ (ae (vr 1) (ae (o2 aB (o2 aB (vr 2) (cn (.int 1))) (o2 cb (cn (.int 8)) (vr 0))) ai)))) ai)) (gN 3)) (aI (c6 (gU ai) (gN 4)) (aI (gy (iR (ae (cl aw (ae (vr 0) (ae (o2 aB (vr 1) (cn (.int 30))) (ae (o2 aB (vr 2) (cn (.int 1))) ai)))) ai)) (gN 5) (aI (c6 (cl cI (ae (vr 0) (ae (o2 aB (o2 aB (vr 1) (cn (.int 31))) (o2 cb (cn (.int 6)) (vr 5))) (ae (vr 3) ai)))) (gN 6)) (c6 (o2 aB (vr 4) (o2 cb (gU (ae (vr 6) ai)) (cl pQ (ae (o2 pD (vr 6) (cn .non)) ai)))) (gN 4)))) (aL (br (ae (vr 3) (ae (cl jK (ae (vr 4) ai)) ai)))))))
def dk:List T->Rs T:=val 3 7 fG
def gm:En->Rs Fl:=
 (aI (c6 (cl bw (ae (o2 bY (vr 2) (cn (.int 0))) ai)) (gN 3)) (aI (c6 (br ai) (gN 4)) (aI (gy (iR (ae (cl cF (ae (vr 3) ai)) ai)) (gN 5) (aI (c6 (o2 bY (gU (ae (cn (.int 1)) (ae (cn (.int 1)) (ae (cn (.int 1)) (ae (cn (.int 24999)) ai))))) (cl aw (ae (vr 0) (ae (o2 aB (o2 aB (vr 1) (vr 5)) (cn (.int 20))) (ae (cn (.int 4)) ai))))) (gN 6)) (c6 (o2 aB (vr 4) (br (ae (o2 km (o2 cb (cl aw (ae (vr 0) (ae (o2 aB (vr 1) (vr 5)) (ae (cn (.int 41)) ai)))) (vr 6)) (cn (.int 20))) ai))) (gN 4)))) (aL (vr 4)))))
def dJ:List T->Rs T:=val 3 7 gm
def gZ:En->Rs Fl:=
 (aI (c6 (cl C4 (ae (cl bw (ae (o2 bY (vr 0) (cn (.int 0))) ai)) (ae (vr 1) ai))) (gN 2)) (aI (c6 (cn (.str "")) (gN 3)) (aI (gy (iE (ae (o2 bY (vr 0) (cn (.int 0))) ai)) (gT 2 (kx (gN 4) (kx (gT 3 (kx (gN 5) (kx (gN 6) (kx (gN 7) ug)))) ug))) (aI (c6 (fz (iE (ae (vr 7) ai)) [none,none,some 2,some 4] (gT 2 (kx (gN 0) (kx (gN 1) ug))) bT (o2 aB (o2 aB (cl fS (ae (vr 1) ai)) (cn (.str " at "))) (cl fS (ae (o2 mr (vr 2) (br (ae (vr 3) (ae (vr 0) ai)))) ai)))) (gN 8)) (c6 (o2 aB (o2 aB (o2 aB (o2 aB (vr 3) (cl fS (ae (vr 4) ai))) (cn (.str ": "))) (oS gP (cn (.str ", ")) (ae (vr 8) ai))) (cn (.str "\n"))) (gN 3)))) (aL (vr 3)))))
def bo:List T->Rs T:=val 2 9 gZ
def fF:En->Rs Fl:=
 (aI (c6 (cl aw (ae (vr 0) (ae (vr 1) (ae (o2 aB (cl cF (ae (vr 2) ai)) (cn (.int 1))) ai)))) (gN 3)) (aI (c6 (o2 aB (cl listTS (ae (cn (.str "019- ,:a\n")) ai)) (gU (ae (cn (.str "")) (ae (cn (.str "00")) (ae (cn (.str " at ")) ai))))) (gN 4)) (aI (c6 (o2 aB (vr 3) (cl aw (ae (vr 0) (ae (o2 aB (vr 1) (cn (.int 1))) (ae (cn (.int 2)) ai))))) (gN 5)) (aL (o2 aB (o2 aB (slS (vr 2) pN (pS (vr 3))) (o2 bY (vr 4) (cl aw (ae (vr 0) (ae (o2 aB (vr 1) (cn (.int 2))) (ae (cn (.int 12)) ai)))))) (slS (vr 2) (pS (vr 5)) pN))))))
def cH:List T->Rs T:=val 3 6 fF
def nj:En->Rs Fl:=
 (aL (bL (o1 (xU "tuple") (vr 0)) (ch Ew Ew (vr 1) (cl cF (ae (vr 0) ai)) (vr 2))))
def aH:List T->Rs T:=val 3 3 nj
def rB:En->Rs Fl:=
 (aL (bL (o1 (xU "int") (vr 0)) (o1 zc (o1 (xU "bool") (vr 0)))))
def dS:List T->Rs T:=val 1 1 rB
def gX:En->Rs Fl:=
 (aL (bL (cl dS (ae (vr 0) ai)) (ch Ew Ew (vr 1) (vr 0) (vr 2))))
def aQ:List T->Rs T:=val 3 3 gX
def j5:En->Rs Fl:=
 (aL (bL (cl aQ (ae (vr 0) (ae (cn (.int 1)) (ae (cn (.int 9)) ai)))) (cl aQ (ae (vr 1) (ae (vr 0) (ae (cn (.int 9)) ai))))))
def eU:List T->Rs T:=val 2 2 j5
def tj:En->Rs Fl:=
 (aL (cl kB (ae (fz (iR (ae (o2 km (cl cF (ae (vr 0) ai)) (cn (.int 1))) ai)) [none,some 0] (gN 0) bT (o2 AD (o2 bY (vr 1) (vr 0)) (o2 bY (vr 1) (o2 aB (vr 0) (cn (.int 1)))))) ai)))
def ib:List T->Rs T:=val 1 1 tj
def dN:En->Rs Fl:=
 (aI (ei (dj (tb (cl aH (ae (vr 0) (ae (cn (.int 1)) (ae (cn (.int 4)) ai)))))) (aL (cn (.bl false))) sN) (aL (bL (cl kB (ae (fz (iS (vr 0)) [none] (gN 0) bT (cl aQ (ae (vr 0) (ae (cn (.int 0)) (ae (cn (.int 99)) ai))))) ai)) (cl ib (ae (vr 0) ai)))))
def bB:List T->Rs T:=val 1 1 dN
def gj:En->Rs Fl:=
 (aL (bL (cl aH (ae (vr 0) (ae (cn (.int 3)) (ae (cn (.int 3)) ai)))) (bL (cl eU (ae (o2 bY (vr 0) (cn (.int 0))) (ae (o2 bY (vr 0) (cn (.int 1))) ai))) (cl bB (ae (o2 bY (vr 0) (cn (.int 2))) ai)))))
def cV:List T->Rs T:=val 1 1 gj
def gk:En->Rs Fl:=
 (aL (bL (cl aH (ae (vr 0) (ae (cn (.int 1)) (ae (cn (.int 4)) ai)))) (cl kB (ae (fz (iS (vr 0)) [none] (gN 0) bT (cl cV (ae (vr 0) ai))) ai))))
def c7:List T->Rs T:=val 1 1 gk
def gh:En->Rs Fl:=
 (aI (ei (kn (dj (tb (cl aH (ae (vr 1) (ae (cn (.int 2)) (ae (cn (.int 2)) ai)))))) (dj (tb (cl aQ (ae (o2 bY (vr 1) (cn (.int 0))) (ae (cn (.int 0)) (ae (o2 km (cl cF (ae (vr 0) ai)) (cn (.int 1))) ai))))))) (aL (cn (.bl false))) sN) (aL (cl aQ (ae (o2 bY (vr 1) (cn (.int 1))) (ae (cn (.int 0)) (ae (o2 km (cl cF (ae (o2 bY (o2 bY (vr 0) (o2 bY (vr 1) (cn (.int 0)))) (cn (.int 2))) ai)) (cn (.int 1))) ai))))))
def bW:List T->Rs T:=val 2 2 gh
def gi:En->Rs Fl:=
 (aL (bL (cl aQ (ae (vr 0) (ae (cn (.int 0)) (ae (cn (.int 999)) ai)))) (Eh (o2 wX (vr 1) (cn .non)) (cl aQ (ae (vr 1) (ae (vr 0) (ae (cn (.int 999)) ai)))))))
def dv:List T->Rs T:=val 2 2 gi
def dD:En->Rs Fl:=
 (aI (ei (kn (dj (tb (cl aH (ae (vr 1) (ae (cn (.int 4)) (ae (cn (.int 4)) ai)))))) (dj (tb (cl dv (ae (o2 bY (vr 1) (cn (.int 2))) (ae (o2 bY (vr 1) (cn (.int 3))) ai)))))) (aL (cn (.bl false))) sN) (aL (bL (cl bW (ae (vr 0) (ae (o2 bY (vr 1) (cn (.int 0))) ai))) (bL (cl bW (ae (vr 0) (ae (o2 bY (vr 1) (cn (.int 1))) ai))) (o2 neT (o2 bY (vr 1) (cn (.int 0))) (o2 bY (vr 1) (cn (.int 1))))))))
def bN:List T->Rs T:=val 2 2 dD
def fE:En->Rs Fl:=
 (aL (bL (cl aH (ae (vr 1) (ae (cn (.int 0)) (ae (cn (.int 8)) ai)))) (cl kB (ae (fz (iS (vr 1)) [none,some 0] (gN 0) bT (cl bN (ae (vr 1) (ae (vr 0) ai)))) ai))))
def cG:List T->Rs T:=val 2 2 fE
def fv:En->Rs Fl:=
 (aL (bL (cl aH (ae (vr 0) (ae (cn (.int 2)) (ae (cn (.int 2)) ai)))) (bL (cl c7 (ae (o2 bY (vr 0) (cn (.int 0))) ai)) (cl cG (ae (o2 bY (vr 0) (cn (.int 0))) (ae (o2 bY (vr 0) (cn (.int 1))) ai))))))
def cU:List T->Rs T:=val 1 1 fv
def dq:En->Rs Fl:=
 (ei (dj (tb (cl cU (ae (vr 0) ai)))) (pe "NoRecord") sN)
def bu:List T->Rs T:=val 1 1 dq
def gY:En->Rs Fl:=
 (aI (vz (cl bu (ae (vr 0) ai))) (aI (kX 1 ai) (aI (gy (iE (ae (o2 bY (vr 0) (cn (.int 0))) ai)) (gT 2 (kx (gN 2) (kx (gN 3) ug))) (qB 1 (fz (iR (ae (cl cF (ae (o2 bY (vr 3) (cn (.int 2))) ai)) ai)) [none,some 2] (gN 0) bT (br (ae (vr 1) (ae (vr 0) ai)))))) (Bj 1 (aL (vr 1))))))
def cA:List T->Rs T:=val 1 4 gY
def eF:En->Rs Fl:=
 (aI (c6 (cl cF (ae (cl cA (ae (vr 0) ai)) ai)) (gN 2)) (aL (bL (cl aH (ae (vr 1) (ae (vr 2) (ae (vr 2) ai)))) (cl kB (ae (fz (iS (vr 1)) [none] (gN 0) bT (cl dS (ae (vr 0) ai))) ai)))))
def ez:List T->Rs T:=val 2 3 eF
def j6:En->Rs Fl:=
 (aL (bL (cl ez (ae (vr 0) (ae (vr 1) ai))) (cl kB (ae (fz (iS (vr 1)) [none] (gN 0) bT (cl aQ (ae (vr 0) (ae (o1 gz (cn (.int 999999999))) (ae (cn (.int 999999999)) ai))))) ai))))
def aK:List T->Rs T:=val 2 2 j6
def gg:En->Rs Fl:=
 (ei (dj (tb (cl bW (ae (o2 bY (vr 0) (cn (.int 0))) (ae (vr 1) ai))))) (pe "NoEvent") sN)
def eK:List T->Rs T:=val 2 2 gg
def gf:En->Rs Fl:=
 (aI (vz (cl bu (ae (vr 0) ai))) (aI (vz (cl eK (ae (vr 0) (ae (vr 1) ai)))) (aL (o2 bY (o2 bY (o2 bY (o2 bY (vr 0) (cn (.int 0))) (o2 bY (vr 1) (cn (.int 0)))) (cn (.int 2))) (o2 bY (vr 1) (cn (.int 1)))))))
def cu:List T->Rs T:=val 2 2 gf
def gW:En->Rs Fl:=
 (aI (c6 (fz (iS (cl cA (ae (vr 0) ai))) [none,some 1] (gN 0) (tb (o2 eqT (o2 bY (vr 0) (cn (.int 0))) (vr 1))) (vr 0)) (gN 3)) (aI (c6 (fz (iS (vr 3)) [none,some 0,some 2] (gN 0) bT (o2 aB (o2 aB (cl fS (ae (cl cu (ae (vr 1) (ae (vr 0) ai))) ai)) (cn (.str " at "))) (cl fS (ae (o2 mr (vr 2) (vr 0)) ai)))) (gN 4)) (aL (o2 aB (o2 aB (o2 aB (cl fS (ae (vr 1) ai)) (cn (.str ": "))) (oS gP (cn (.str ", ")) (ae (vr 4) ai))) (cn (.str "\n"))))))
def dy:List T->Rs T:=val 3 5 gW
def gd:En->Rs Fl:=
 (aI (ei (dj (tb (cl aK (ae (vr 0) (ae (vr 1) ai))))) (pe "NoNumber") sN) (aI (c6 (cl C4 (ae (cl cA (ae (vr 0) ai)) (ae (vr 1) ai))) (gN 2)) (aL (oS gP (cn (.str "")) (ae (fz (iR (ae (cl cF (ae (o2 bY (vr 0) (cn (.int 0))) ai)) ai)) [none,some 0,some 2] (gN 0) bT (cl dy (ae (vr 1) (ae (vr 0) (ae (vr 2) ai))))) ai)))))
def ba:List T->Rs T:=val 2 3 gd
def qi:En->Rs Fl:=
 (tI (vr 0))
def bA:List T->Rs T:=val 1 1 qi
def da:En->Rs Fl:=
 (aI (vz (cl bu (ae (vr 0) ai))) (aI (ei (dj (tb (o1 (xU "str") (vr 1)))) (pe "NoText") sN) (aI (c6 (sl (oS gF (o1 (eI "\n" ", ") (vr 1)) (ae (cn (.str ", ")) ai)) pN (pS (o1 gz (cn (.int 1))))) (gN 2)) (aI (c6 (cl jK (ae (fz (iS (vr 2)) [none] (gN 0) bT (cl bA (ae (o2 bY (oS fK (vr 0) (ae (cn (.str " at ")) ai)) (cn (.int 2))) ai))) ai)) (gN 3)) (aI (ei (kn (dj (tb (cl aK (ae (vr 0) (ae (vr 3) ai))))) (tb (o2 neT (cl ba (ae (vr 0) (ae (vr 3) ai))) (vr 1)))) (pe "NoText") sN) (aL (vr 3)))))))
def aX:List T->Rs T:=val 2 4 da
def qj:En->Rs Fl:=
 (vt (aL (Cq (tb (o2 eqT (vr 0) (cn (.int 0)))) (cl ba (ae (vr 1) (ae (vr 2) ai))) (cl aX (ae (vr 1) (ae (vr 2) ai))))) mq)
def aD:List T->Rs T:=val 3 4 qj
def xR:En->Rs Fl:=
 (aI (c6 (cl dk (ae (vr 0) (ae (cn (.int 0)) (ae (cn (.int 0)) ai)))) (gN 1)) (aI (c6 (cl dJ (ae (vr 0) (ae (cn (.int 80)) (ae (vr 1) ai)))) (gN 2)) (aI (c6 (cl bo (ae (vr 1) (ae (vr 2) ai))) (gN 3)) (aI (ei (kn (tb (o2 neT (cl aD (ae (cn (.int 0)) (ae (vr 1) (ae (vr 2) ai)))) (vr 3))) (tb (o2 neT (cl aD (ae (cn (.int 1)) (ae (vr 1) (ae (vr 3) ai)))) (vr 2)))) (aL (cn (.bl false))) sN) (aI (gy (iR (ae (cn (.int 6)) ai)) (gN 4) (aI (c6 (cl cH (ae (vr 0) (ae (o2 aB (cn (.int 130)) (o2 cb (cn (.int 3)) (vr 4))) (ae (vr 3) ai)))) (gN 5)) (aI (c6 (cl aD (ae (cn (.int 1)) (ae (vr 1) (ae (vr 5) ai)))) (gN 6)) (ei (tb (o2 eqT (sl (vr 6) pN (pS (cn (.int 1)))) (br (ae (cn (.str "refused")) ai)))) (ei (kn (tb (o2 neT (vr 6) (br (ae (cn (.str "refused")) (ae (cn (.int 2)) ai))))) (tb (o2 eqT (vr 5) (vr 3)))) (aL (cn (.bl false))) sN) (ei (kn (tb (o2 neT (cl bo (ae (vr 1) (ae (vr 6) ai))) (vr 5))) (tb (o2 neT (cl cF (ae (vr 6) ai)) (cl cF (ae (vr 2) ai))))) (aL (cn (.bl false))) sN))))) (aI (gy (iS (br (ae (cn (.int 999999999)) (ae (o1 gz (cn (.int 999999999))) ai)))) (gN 7) (aI (c6 (o2 aB (br (ae (vr 7) ai)) (sl (vr 2) (pS (cn (.int 1))) pN)) (gN 8)) (aI (ei (tb (o2 neT (cl aD (ae (cn (.int 0)) (ae (vr 1) (ae (vr 8) ai)))) (cl bo (ae (vr 1) (ae (vr 8) ai))))) (aL (cn (.bl false))) sN) (aI (ei (tb (o2 neT (cl aD (ae (cn (.int 1)) (ae (vr 1) (ae (cl bo (ae (vr 1) (ae (vr 8) ai))) ai)))) (vr 8))) (aL (cn (.bl false))) sN) (aI (c6 (o2 aB (br (ae (o2 aB (vr 7) (o2 bY (gU (ae (cn (.int 1)) (ae (o1 gz (cn (.int 1))) ai))) (cl pQ (ae (o2 AD (vr 7) (cn (.int 0))) ai)))) ai)) (sl (vr 2) (pS (cn (.int 1))) pN)) (gN 9)) (aI (ei (tb (o2 neT (cl aD (ae (cn (.int 0)) (ae (vr 1) (ae (vr 9) ai)))) (br (ae (cn (.str "refused")) (ae (cn (.int 1)) ai))))) (aL (cn (.bl false))) sN) (ei (tb (o2 neT (cl aD (ae (cn (.int 1)) (ae (vr 1) (ae (cl bo (ae (vr 1) (ae (vr 9) ai))) ai)))) (br (ae (cn (.str "refused")) (ae (cn (.int 2)) ai))))) (aL (cn (.bl false))) sN))))))) (aI (gy (iS (br (ae (cn .non) (ae (br ai) (ae (sl (vr 2) pN (pS (o1 gz (cn (.int 1))))) (ae (o2 aB (vr 2) (br (ae (cn (.int 0)) ai))) (ae (cl sf (ae (vr 2) ai)) (ae (o2 aB (br (ae (cn (.bl true)) ai)) (sl (vr 2) (pS (cn (.int 1))) pN)) (ae (o2 aB (br (ae (cn (.str "0")) ai)) (sl (vr 2) (pS (cn (.int 1))) pN)) ai))))))))) (gN 10) (ei (tb (o2 neT (cl aD (ae (cn (.int 0)) (ae (vr 1) (ae (vr 10) ai)))) (br (ae (cn (.str "refused")) (ae (cn (.int 1)) ai))))) (aL (cn (.bl false))) sN)) (aI (gy (iS (br (ae (cn (.str "")) (ae (slS (vr 3) pN (pS (o1 gz (cn (.int 1))))) (ae (o2 aB (vr 3) (cn (.str "\n"))) (ae (o2 aB (cn (.str "\n")) (vr 3)) (ae (o2 aB (vr 3) (vr 3)) (ae (o1 (eI "at" "At") (vr 3)) (ae (o2 aB (cn (.str "0")) (vr 3)) ai))))))))) (gN 10) (ei (tb (o2 neT (cl aD (ae (cn (.int 1)) (ae (vr 1) (ae (vr 10) ai)))) (br (ae (cn (.str "refused")) (ae (cn (.int 2)) ai))))) (aL (cn (.bl false))) sN)) (aL (bL (o2 eqT (cl aD (ae (cn (.int 0)) (ae (sl (vr 1) pN (pS (cn (.int 1)))) (ae (vr 2) ai)))) (br (ae (cn (.str "refused")) (ae (cn (.int 0)) ai)))) (o2 eqT (cl aD (ae (cn (.int 1)) (ae (sl (vr 1) pN (pS (cn (.int 1)))) (ae (vr 3) ai)))) (br (ae (cn (.str "refused")) (ae (cn (.int 0)) ai))))))))))))))
def m_law:List T->Rs T:=val 1 11 xR
end G
namespace G
open PySem PySem.Spec PyProof.Rows L2 Tr
section
variable (P:Hr)(w:HS){K:GW}{mg:Str->Option GZ}(base:Heap)
abbrev nJ:Stmt:=top 41
theorem nY (F:gA K mg "_law_cell" nJ ["_law_script","_law_k"])(B:Bl mg):Cl P w K mg base 1 "_law_cell" 2 eC:=
 bf ["_law_script","_law_k"] F λd f c A o s H E hr x=>(aA (dQ (dE (ka (fB hr)) (af 0) (iJ ag)) (ax (aE (ar dI ak (af 1)))) bH) (ax (aE (ar az (bc (af 0) (ar iO (af 1) (cN cL B.b_len JG (ah (af 0) ag)))) (ar dI ak (ar kE (af 1) (cN cL B.b_len JG (ah (af 0) ag))))))))
abbrev l6:Stmt:=top 42
theorem mm (F:gA K mg "_law_drawn" l6 ["_law_script","_law_k","_law_many"])(aaq:Cl P w K mg base 1 "_law_cell" 2 eC):Cl P w K mg base 2 "_law_drawn" 3 aw:=
 bf ["_law_script","_law_k","_law_many","_law_cell_here"] F λd f c A o s H E hr x=>(by(apply aA;exact(aO (ar iO (ar az (ar dI (ar iO (aU aaq hr (ah (af 0) (ah (af 1) ag))) ak) ak) (ar dI ak (ar az (af 1) ak))) ak) (aq 3 d));apply aA;exact(aO (ar iO (ar az (ar dI (af 3) (af 3)) (ar kE (af 3) ak)) ak) (aq 3 d));exact ax (aE (ar iO (ar kE (ar iO (ar az (ar dI (af 3) (af 3)) (ar kE (af 3) ak)) ak) ak) (af 2)))))
abbrev gE:Stmt:=top 45
abbrev gL:List Str:=["_law_clocks","_law_found","_law_number","_law_clock_here"]
theorem lh (F:gA K mg "_law_events" gE ["_law_clocks"])(B:Bl mg):Cl P w K mg base 1 "_law_events" 1 bw:=
 bf gL F λd f c A o s H E hr x=>(by(apply aA;exact(aO (iJ ag) (aq 1 d));apply aA;exact(g9 rfl (ja B.b_enumerate (ah (af 0) ag)) (jb rfl (b8 (aq 2 d) (b8 (aq 3 d) gB))) (ax (aO (ar az (af 1) (fw ["_law_place","_law_number"] gL gE (cp B.b_range (ah (cN cL B.b_len JG (ah (bc (af 3) ak) ag)) ag)) (λd _ _ _ _ _=>⟨(aq 0 d),b7,(bz (ah (af 1) (ah (af 0) ag)))⟩))) (aq 1 d))));exact ax (aE (af 1))))
abbrev kU:Stmt:=top 44
theorem lg (F:gA K mg "_law_letter" kU ["_law_script","_law_at","_law_clocks"])(aa4:Cl P w K mg base 1 "_law_events" 1 bw)(aa0:Cl P w K mg base 2 "_law_drawn" 3 aw)(B:Bl mg):Cl P w K mg base 3 "_law_letter" 3 cI:=
 bf ["_law_script","_law_at","_law_clocks","_law_row","_law_place","_law_other","_law_least","_law_most"] F λd f c A o s H E hr x=>(by(apply aA;exact(aO (aU aa4 hr (ah (af 2) ag)) (aq 3 d));apply aA;exact(dQ (dE wa (cN cL B.b_len JG (ah (af 3) ag)) ak) (ax (aE kK)) bH);apply aA;exact(aO (aU aa0 hr (ah (af 0) (ah (af 1) (ah (cN cL B.b_len JG (ah (af 3) ag)) ag)))) (aq 4 d));apply aA;exact(aO (ar iO (ar az (ar az (af 4) ak) (aU aa0 hr (ah (af 0) (ah (ar az (af 1) ak) (ah (ar k7 (cN cL B.b_len JG (ah (af 3) ag)) ak) ag))))) (cN cL B.b_len JG (ah (af 3) ag))) (aq 5 d));apply aA;exact(aO (aU aa0 hr (ah (af 0) (ah (ar az (af 1) ak) (ah ak ag)))) (aq 6 d));apply aA;exact(aO (Dd (dE (ka (fB hr)) (aU aa0 hr (ah (af 0) (ah (ar az (af 1) ak) (ah ak ag)))) ak) kK (ar az (af 6) (aU aa0 hr (ah (af 0) (ah (ar az (af 1) ak) (ah ak ag)))))) (aq 7 d));exact ax (aE (bz (ah (bc (af 3) (af 4)) (ah (bc (af 3) (af 5)) (ah (af 6) (ah (af 7) ag))))))))
abbrev l7:Stmt:=top 43
theorem mn (F:gA K mg "_law_clock" l7 ["_law_script","_law_at"])(aa0:Cl P w K mg base 2 "_law_drawn" 3 aw)(B:Bl mg):Cl P w K mg base 3 "_law_clock" 2 bQ:=
 bf ["_law_script","_law_at","_law_slow","_law_readings","_law_k"] F λd f c A o s H E hr x=>(by(apply aA;exact(aO (ar az ak (aU aa0 hr (ah (af 0) (ah (af 1) (ah ak ag))))) (aq 2 d));apply aA;exact(aO (bz (ah (aU aa0 hr (ah (af 0) (ah (ar az (af 1) ak) (ah ak ag)))) ag)) (aq 3 d));apply aA;exact(g9 rfl (cp B.b_range (ah (aU aa0 hr (ah (af 0) (ah (ar az (af 1) ak) (ah ak ag)))) ag)) (aq 4 d) (ax (aO (ar az (af 3) (bz (ah (ar az (ar az (bc (af 3) (iI ak)) ak) (aU aa0 hr (ah (af 0) (ah (ar az (ar az (af 1) ak) (af 4)) (ah ak ag))))) ag))) (aq 3 d))));exact ax (aE (bz (ah (af 2) (ah (ar az (af 2) (aU aa0 hr (ah (af 0) (ah (ar az (af 1) ak) (ah ak ag))))) (ah (af 3) ag)))))))
abbrev gD:Stmt:=top 46
abbrev gK:List Str:=["_law_script","_law_at","_law_most","_law_clocks","_law_letters","_law_k","_law_letter_here"]
theorem lb (F:gA K mg "_law_record" gD ["_law_script","_law_at","_law_most"])(aa0:Cl P w K mg base 2 "_law_drawn" 3 aw)(aaf:Cl P w K mg base 3 "_law_letter" 3 cI)(aaj:Cl P w K mg base 3 "_law_clock" 2 bQ)(B:Bl mg):Cl P w K mg base 4 "_law_record" 3 dk:=
 bf gK F λd f c A o s H E hr x=>(by(apply aA;exact(aO (gq lK B.b_tuple d8 (ah (fw ["_law_k","_law_script","_law_at"] gK gD (cp B.b_range (ah (ar az ak (aU aa0 hr (ah (af 0) (ah (af 1) (ah ak ag))))) ag)) (λd _ _ _ _ _=>⟨(aq 0 d),b7,(aU aaj hr (ah (af 1) (ah (ar az (ar az (af 2) ak) (ar dI ak (af 0))) ag)))⟩)) ag)) (aq 3 d));apply aA;exact(aO (iJ ag) (aq 4 d));apply aA;exact(g9 rfl (cp B.b_range (ah (aU aa0 hr (ah (af 0) (ah (ar az (af 1) ak) (ah (ar az (af 2) ak) ag)))) ag)) (aq 5 d) (aA (aO (aU aaf hr (ah (af 0) (ah (ar az (ar az (af 1) ak) (ar dI ak (af 5))) (ah (af 3) ag)))) (aq 6 d)) (ax (aO (ar az (af 4) (ar dI (iJ (ah (af 6) ag)) (gq xu B.b_int gV (ah (kL wb (af 6) kK) ag)))) (aq 4 d)))));exact ax (aE (bz (ah (af 3) (ah (gq lK B.b_tuple d8 (ah (af 4) ag)) ag))))))
theorem kA {X:Cx}{j1 j2 j3 j4:Nat}{p1 p2 p3 p4 p5:Pos}:QE X (.List [(.Constant (.int 1) j1 p1),(.Constant (.int 1) j2 p2),(.Constant (.int 1) j3 p3),(.Constant (.int 24999) j4 p4)] p5) (gU (ae (cn (.int 1)) (ae (cn (.int 1)) (ae (cn (.int 1)) (ae (cn (.int 24999)) ai))))):=by
 refine @iJ X _ _ _ ?_
 refine @ah X _ _ _ _ ?_ ?_ rfl
 ·exact ak
 refine @ah X _ _ _ _ ?_ ?_ rfl
 ·exact ak
 refine @ah X _ _ _ _ ?_ ?_ rfl
 ·exact ak
 refine @ah X _ _ _ _ ?_ ?_ rfl
 ·exact ak
 exact ag
abbrev l5:Stmt:=top 47
theorem ml (F:gA K mg "_law_times" l5 ["_law_script","_law_at","_law_record_here"])(aa4:Cl P w K mg base 1 "_law_events" 1 bw)(aa0:Cl P w K mg base 2 "_law_drawn" 3 aw)(B:Bl mg):Cl P w K mg base 3 "_law_times" 3 dJ:=
 bf ["_law_script","_law_at","_law_record_here","_law_row","_law_found","_law_k","_law_by"] F λd f c A o s H E hr x=>(by(apply aA;exact(aO (aU aa4 hr (ah (bc (af 2) ak) ag)) (aq 3 d));apply aA;exact(aO (bz ag) (aq 4 d));apply aA;exact(g9 rfl (cp B.b_range (ah (cN cL B.b_len JG (ah (af 3) ag)) ag)) (aq 5 d) (aA (aO (bc kA (aU aa0 hr (ah (af 0) (ah (ar az (ar az (af 1) (af 5)) ak) (ah ak ag))))) (aq 6 d)) (ax (aO (ar az (af 4) (bz (ah (ar k7 (ar dI (aU aa0 hr (ah (af 0) (ah (ar az (af 1) (af 5)) (ah ak ag)))) (af 6)) ak) ag))) (aq 4 d)))));exact ax (aE (af 4))))
abbrev jq:Stmt:=top 50
abbrev jy:List Str:=["_law_record_here","_law_times_here","_law_told_here","_law_text_here","_law_clock_here","_law_slow","_law_fast","_law_readings","_law_words"]
theorem nX (F:gA K mg "_law_text" jq ["_law_record_here","_law_times_here"])(aa4:Cl P w K mg base 1 "_law_events" 1 bw)(B:Bl mg):Cl P w K mg base 2 "_law_text" 2 bo:=
 bf jy F λd f c A o s H E hr x=>(by(apply aA;exact(aO (rE (hu8 hr) rfl B.b_dict B.b_zip (ah (aU aa4 hr (ah (bc (af 0) ak) ag)) (ah (af 1) ag))) (aq 2 d));apply aA;exact(aO bj (aq 3 d));apply aA;exact(g9 rfl (ja B.b_enumerate (ah (bc (af 0) ak) ag)) (jb rfl (b8 (aq 4 d) (b8 (jb rfl (b8 (aq 5 d) (b8 (aq 6 d) (b8 (aq 7 d) gB)))) gB))) (aA (qm 8 (N':=["_law_place","_law_reading","_law_told_here","_law_clock_here"]) (src:=[none,none,some 2,some 4]) rfl (LcScope.by (N:=jy) (names:=(ao jq).names) rfl rfl rfl (by decide+kernel)) (ja B.b_enumerate (ah (af 7) ag)) (λ_ _ _ _ _=>⟨(jb rfl (b8 (aq 0 (show Lf (["_law_place","_law_reading","_law_told_here","_law_clock_here"]:List Str)by decide+kernel)) (b8 (aq 1 (show Lf (["_law_place","_law_reading","_law_told_here","_law_clock_here"]:List Str)by decide+kernel)) gB))),b7,(ar az (ar az (gq jW B.b_str cZ (ah (af 1) ag)) bj) (gq jW B.b_str cZ (ah (uH (hu1 hr) (af 2) (bz (ah (af 3) (ah (af 0) ag)))) ag)))⟩) d) (ax (aO (ar az (ar az (ar az (ar az (af 3) (gq jW B.b_str cZ (ah (af 4) ag))) bj) (nq bj (af 8))) bj) (aq 3 d)))));exact ax (aE (af 3))))
abbrev kS:Stmt:=top 51
theorem la (F:gA K mg "_law_spoilt" kS ["_law_script","_law_at","_law_text_here"])(aa0:Cl P w K mg base 2 "_law_drawn" 3 aw)(B:Bl mg):Cl P w K mg base 3 "_law_spoilt" 3 cH:=
 bf ["_law_script","_law_at","_law_text_here","_law_place","_law_sign","_law_end"] F λd f c A o s H E hr x=>(by(apply aA;exact(aO (aU aa0 hr (ah (af 0) (ah (af 1) (ah (ar az (cN cL B.b_len JG (ah (af 2) ag)) ak) ag)))) (aq 3 d));apply aA;exact(aO (ar az (gq (ct_listS rfl) B.b_list jI (ah bj ag)) (iJ (ah bj (ah bj (ah bj ag))))) (aq 4 d));apply aA;exact(aO (ar az (af 3) (aU aa0 hr (ah (af 0) (ah (ar az (af 1) ak) (ah ak ag))))) (aq 5 d));exact ax (aE (ar az (ar az (zq_sliceS (af 2) cy (cx (af 3))) (bc (af 4) (aU aa0 hr (ah (af 0) (ah (ar az (af 1) ak) (ah ak ag)))))) (zq_sliceS (af 2) (cx (af 5)) cy)))))
abbrev qz:Stmt:=top 15
theorem qM (F:gA K mg "is_long" qz ["thing","least","most"])(B:Bl mg):Cl P w K mg base 1 "is_long" 3 aH:=
 bf ["thing","least","most"] F λd f c A o s H E hr x=>(ax (aE (df (rC B.b_isinstance B.b_tuple d8 (af 0)) (dF (oK r8 r8 (af 1) (cN cL B.b_len JG (ah (af 0) ag)) (af 2))))))
abbrev oZ:Stmt:=top 13
theorem pz (F:gA K mg "is_whole" oZ ["thing"])(B:Bl mg):Cl P w K mg base 1 "is_whole" 1 dS:=
 bf ["thing"] F λd f c A o s H E hr x=>(ax (aE (df (rC B.b_isinstance B.b_int gV (af 0)) (dF (A0 (rC B.b_isinstance B.b_bool oC (af 0)))))))
abbrev nF:Stmt:=top 14
theorem nS (F:gA K mg "is_within" nF ["thing","least","most"])(aac:Cl P w K mg base 1 "is_whole" 1 dS):Cl P w K mg base 2 "is_within" 3 aQ:=
 bf ["thing","least","most"] F λd f c A o s H E hr x=>(ax (aE (df (aU aac hr (ah (af 0) ag)) (dF (oK r8 r8 (af 1) (af 0) (af 2))))))
abbrev qy:Stmt:=top 18
theorem qL (F:gA K mg "is_pace" qy ["slow","fast"])(aa2:Cl P w K mg base 2 "is_within" 3 aQ)(C:Cs mg):Cl P w K mg base 3 "is_pace" 2 eU:=
 bf ["slow","fast"] F λd f c A o s H E hr x=>(ax (aE (df (aU aa2 hr (ah (af 0) (ah ak (ah (lZ C.SLOWEST) ag)))) (dF (aU aa2 hr (ah (af 1) (ah (af 0) (ah (lZ C.SLOWEST) ag))))))))
abbrev oY:Stmt:=top 16
abbrev pG:List Str:=["numbers"]
theorem wg (F:gA K mg "rises" oY ["numbers"])(B:Bl mg):Cl P w K mg base 1 "rises" 1 ib:=
 bf pG F λd f c A o s H E hr x=>(ax (aE (cN (jX rfl) B.b_all NW (ah (fw ["k","numbers"] pG oY (cp B.b_range (ah (ar k7 (cN cL B.b_len JG (ah (af 0) ag)) ak) ag)) (λd _ _ _ _ _=>⟨(aq 0 d),b7,(kL wa (bc (af 1) (af 0)) (bc (af 1) (ar az (af 0) ak)))⟩)) ag))))
abbrev gu:Stmt:=top 17
abbrev gv:List Str:=["thing"]
theorem kr (F:gA K mg "are_readings" gu ["thing"])(aa1:Cl P w K mg base 1 "is_long" 3 aH)(aaz:Cl P w K mg base 1 "rises" 1 ib)(aa2:Cl P w K mg base 2 "is_within" 3 aQ)(B:Bl mg)(C:Cs mg):Cl P w K mg base 3 "are_readings" 1 bB:=
 bf gv F λd f c A o s H E hr x=>(aA (dQ (d6 (dZ (aU aa1 hr (ah (af 0) (ah ak (ah (lZ C.MOST_READINGS) ag)))))) (ax (aE fI)) bH) (ax (aE (df (cN (jX rfl) B.b_all NW (ah (fw ["part"] gv gu (d7 (af 0)) (λd _ _ _ _ _=>⟨(aq 0 d),b7,(aU aa2 hr (ah (af 0) (ah ak (ah (lZ C.LAST_READING) ag))))⟩)) ag)) (dF (aU aaz hr (ah (af 0) ag)))))))
abbrev o6:Stmt:=top 19
theorem pC (F:gA K mg "is_clock" o6 ["thing"])(aa1:Cl P w K mg base 1 "is_long" 3 aH)(aay:Cl P w K mg base 3 "is_pace" 2 eU)(aae:Cl P w K mg base 3 "are_readings" 1 bB):Cl P w K mg base 4 "is_clock" 1 cV:=
 bf ["thing"] F λd f c A o s H E hr x=>(ax (aE (df (aU aa1 hr (ah (af 0) (ah ak (ah ak ag)))) (df (aU aay hr (ah (bc (af 0) ak) (ah (bc (af 0) ak) ag))) (dF (aU aae hr (ah (bc (af 0) ak) ag)))))))
abbrev iA:Stmt:=top 20
abbrev iD:List Str:=["thing"]
theorem mj (F:gA K mg "are_clocks" iA ["thing"])(aa1:Cl P w K mg base 1 "is_long" 3 aH)(aaw:Cl P w K mg base 4 "is_clock" 1 cV)(B:Bl mg)(C:Cs mg):Cl P w K mg base 5 "are_clocks" 1 c7:=
 bf iD F λd f c A o s H E hr x=>(ax (aE (df (aU aa1 hr (ah (af 0) (ah ak (ah (lZ C.MOST_CLOCKS) ag)))) (dF (cN (jX rfl) B.b_all NW (ah (fw ["part"] iD iA (d7 (af 0)) (λd _ _ _ _ _=>⟨(aq 0 d),b7,(aU aaw hr (ah (af 0) ag))⟩)) ag))))))
abbrev o4:Stmt:=top 21
theorem pA (F:gA K mg "is_event" o4 ["clocks","thing"])(aa2:Cl P w K mg base 2 "is_within" 3 aQ)(aa1:Cl P w K mg base 1 "is_long" 3 aH)(B:Bl mg):Cl P w K mg base 3 "is_event" 2 bW:=
 bf ["clocks","thing"] F λd f c A o s H E hr x=>(aA (dQ (oJ (kJ (d6 (dZ (aU aa1 hr (ah (af 1) (ah ak (ah ak ag)))))) (i8 (d6 (dZ (aU aa2 hr (ah (bc (af 1) ak) (ah ak (ah (ar k7 (cN cL B.b_len JG (ah (af 0) ag)) ak) ag))))))))) (ax (aE fI)) bH) (ax (aE (aU aa2 hr (ah (bc (af 1) ak) (ah ak (ah (ar k7 (cN cL B.b_len JG (ah (bc (bc (af 0) (bc (af 1) ak)) ak) ag)) ak) ag)))))))
abbrev o5:Stmt:=top 22
theorem pB (F:gA K mg "is_delay" o5 ["least","most"])(aa2:Cl P w K mg base 2 "is_within" 3 aQ)(C:Cs mg):Cl P w K mg base 3 "is_delay" 2 dv:=
 bf ["least","most"] F λd f c A o s H E hr x=>(ax (aE (df (aU aa2 hr (ah (af 0) (ah ak (ah (lZ C.LONGEST) ag)))) (dF (C8 (kL Ef (af 1) kK) (dF (aU aa2 hr (ah (af 1) (ah (af 0) (ah (lZ C.LONGEST) ag))))))))))
abbrev nH:Stmt:=top 23
theorem nU (F:gA K mg "is_letter" nH ["clocks","thing"])(aa9:Cl P w K mg base 3 "is_event" 2 bW)(aa1:Cl P w K mg base 1 "is_long" 3 aH)(aax:Cl P w K mg base 3 "is_delay" 2 dv):Cl P w K mg base 4 "is_letter" 2 bN:=
 bf ["clocks","thing"] F λd f c A o s H E hr x=>(aA (dQ (oJ (kJ (d6 (dZ (aU aa1 hr (ah (af 1) (ah ak (ah ak ag)))))) (i8 (d6 (dZ (aU aax hr (ah (bc (af 1) ak) (ah (bc (af 1) ak) ag)))))))) (ax (aE fI)) bH) (ax (aE (df (aU aa9 hr (ah (af 0) (ah (bc (af 1) ak) ag))) (df (aU aa9 hr (ah (af 0) (ah (bc (af 1) ak) ag))) (dF (kL (fL (fB hr)) (bc (af 1) ak) (bc (af 1) ak))))))))
abbrev gC:Stmt:=top 24
abbrev gJ:List Str:=["clocks","thing"]
theorem k9 (F:gA K mg "are_letters" gC ["clocks","thing"])(aa1:Cl P w K mg base 1 "is_long" 3 aH)(aar:Cl P w K mg base 4 "is_letter" 2 bN)(B:Bl mg)(C:Cs mg):Cl P w K mg base 5 "are_letters" 2 cG:=
 bf gJ F λd f c A o s H E hr x=>(ax (aE (df (aU aa1 hr (ah (af 1) (ah ak (ah (lZ C.MOST_LETTERS) ag)))) (dF (cN (jX rfl) B.b_all NW (ah (fw ["part","clocks"] gJ gC (d7 (af 1)) (λd _ _ _ _ _=>⟨(aq 0 d),b7,(aU aar hr (ah (af 1) (ah (af 0) ag)))⟩)) ag))))))
abbrev nG:Stmt:=top 25
theorem nT (F:gA K mg "is_record" nG ["thing"])(aa1:Cl P w K mg base 1 "is_long" 3 aH)(aak:Cl P w K mg base 5 "are_clocks" 1 c7)(aag:Cl P w K mg base 5 "are_letters" 2 cG):Cl P w K mg base 6 "is_record" 1 cU:=
 bf ["thing"] F λd f c A o s H E hr x=>(ax (aE (df (aU aa1 hr (ah (af 0) (ah ak (ah ak ag)))) (df (aU aak hr (ah (bc (af 0) ak) ag)) (dF (aU aag hr (ah (bc (af 0) ak) (ah (bc (af 0) ak) ag))))))))
abbrev kR:Stmt:=top 26
theorem k8 (F:gA K mg "need_record" kR ["thing"])(aas:Cl P w K mg base 6 "is_record" 1 cU){C_NoRecord C_NoEvent C_NoNumber C_NoText C_ClockError:Addr}(S:Xs K mg C_NoRecord C_NoEvent C_NoNumber C_NoText C_ClockError):Cl P w K mg base 7 "need_record" 1 bu:=
 bf ["thing"] F λd f c A o s H E hr x=>(ax (dQ (d6 (dZ (aU aas hr (ah (af 0) ag)))) (ax (fH S.o_NoRecord S.m_NoRecord)) bH))
abbrev mF:Stmt:=top 28
abbrev mL:List Str:=["record","told","number","clock"]
theorem tM (F:gA K mg "events" mF ["record"])(aa5:Cl P w K mg base 7 "need_record" 1 bu)(B:Bl mg):Cl P w K mg base 8 "events" 1 cA:=
 bf mL F λd f c A o s H E hr x=>(by(apply aA;exact(i9 (aU aa5 hr (ah (af 0) ag)));apply aA;exact(uF 1 d ag);apply aA;exact(g9 rfl (ja B.b_enumerate (ah (bc (af 0) ak) ag)) (jb rfl (b8 (aq 2 d) (b8 (aq 3 d) gB))) (ax (xW 1 (fw ["k","number"] mL mF (cp B.b_range (ah (cN cL B.b_len JG (ah (bc (af 3) ak) ag)) ag)) (λd _ _ _ _ _=>⟨(aq 0 d),b7,(bz (ah (af 1) (ah (af 0) ag)))⟩)))));exact ax (xX 1 (aE (af 1)))))
abbrev jo:Stmt:=top 31
abbrev jx:List Str:=["record","thing","many"]
theorem nV (F:gA K mg "are_times" jo ["record","thing"])(aaa:Cl P w K mg base 8 "events" 1 cA)(aa1:Cl P w K mg base 1 "is_long" 3 aH)(aac:Cl P w K mg base 1 "is_whole" 1 dS)(B:Bl mg):Cl P w K mg base 9 "are_times" 2 ez:=
 bf jx F λd f c A o s H E hr x=>(aA (aO (cN cL B.b_len JG (ah (aU aaa hr (ah (af 0) ag)) ag)) (aq 2 d)) (ax (aE (df (aU aa1 hr (ah (af 1) (ah (af 2) (ah (af 2) ag)))) (dF (cN (jX rfl) B.b_all NW (ah (fw ["part"] jx jo (d7 (af 1)) (λd _ _ _ _ _=>⟨(aq 0 d),b7,(aU aac hr (ah (af 0) ag))⟩)) ag)))))))
abbrev fo:Stmt:=top 36
abbrev fq:List Str:=["record","thing"]
theorem jv (F:gA K mg "can_be_written" fo ["record","thing"])(aat:Cl P w K mg base 9 "are_times" 2 ez)(aa2:Cl P w K mg base 2 "is_within" 3 aQ)(B:Bl mg)(C:Cs mg):Cl P w K mg base 10 "can_be_written" 2 aK:=
 bf fq F λd f c A o s H E hr x=>(ax (aE (df (aU aat hr (ah (af 0) (ah (af 1) ag))) (dF (cN (jX rfl) B.b_all NW (ah (fw ["time"] fq fo (d7 (af 1)) (λd _ _ _ _ _=>⟨(aq 0 d),b7,(aU aa2 hr (ah (af 0) (ah (iI (lZ C.FARTHEST)) (ah (lZ C.FARTHEST) ag))))⟩)) ag))))))
abbrev l4:Stmt:=top 27
theorem mi (F:gA K mg "need_event" l4 ["record","thing"])(aa9:Cl P w K mg base 3 "is_event" 2 bW){C_NoRecord C_NoEvent C_NoNumber C_NoText C_ClockError:Addr}(S:Xs K mg C_NoRecord C_NoEvent C_NoNumber C_NoText C_ClockError):Cl P w K mg base 4 "need_event" 2 eK:=
 bf ["record","thing"] F λd f c A o s H E hr x=>(ax (dQ (d6 (dZ (aU aa9 hr (ah (bc (af 0) ak) (ah (af 1) ag))))) (ax (fH S.o_NoEvent S.m_NoEvent)) bH))
abbrev l0:Stmt:=top 29
theorem mf (F:gA K mg "reading_of" l0 ["record","event"])(aa5:Cl P w K mg base 7 "need_record" 1 bu)(aal:Cl P w K mg base 4 "need_event" 2 eK):Cl P w K mg base 8 "reading_of" 2 cu:=
 bf ["record","event"] F λd f c A o s H E hr x=>(by(apply aA;exact(i9 (aU aa5 hr (ah (af 0) ag)));apply aA;exact(i9 (aU aal hr (ah (af 0) (ah (af 1) ag))));exact ax (aE (bc (bc (bc (bc (af 0) ak) (bc (af 1) ak)) ak) (bc (af 1) ak)))))
abbrev fT:Stmt:=top 37
abbrev fX:List Str:=["record","number","time_of","places","parts"]
theorem nR (F:gA K mg "line_text" fT ["record","number","time_of"])(aaa:Cl P w K mg base 8 "events" 1 cA)(aam:Cl P w K mg base 8 "reading_of" 2 cu)(B:Bl mg):Cl P w K mg base 9 "line_text" 3 dy:=
 bf fX F λd f c A o s H E hr x=>(by(apply aA;exact(qm 3 (N':=["event","number"]) (src:=[none,some 1]) rfl (LcScope.by (N:=fX) (names:=(ao fT).names) rfl rfl rfl (by decide+kernel)) (d7 (aU aaa hr (ah (af 0) ag))) (λ_ _ _ _ _=>⟨(aq 0 (show Lf (["event","number"]:List Str)by decide+kernel)),(uG (dE (ka (fB hr)) (bc (af 0) ak) (af 1))),(af 0)⟩) d);apply aA;exact(qm 4 (N':=["event","record","time_of"]) (src:=[none,some 0,some 2]) rfl (LcScope.by (N:=fX) (names:=(ao fT).names) rfl rfl rfl (by decide+kernel)) (d7 (af 3)) (λ_ _ _ _ _=>⟨(aq 0 (show Lf (["event","record","time_of"]:List Str)by decide+kernel)),b7,(ar az (ar az (gq jW B.b_str cZ (ah (aU aam hr (ah (af 1) (ah (af 0) ag))) ag)) bj) (gq jW B.b_str cZ (ah (uH (hu1 hr) (af 2) (af 0)) ag)))⟩) d);exact ax (aE (ar az (ar az (ar az (gq jW B.b_str cZ (ah (af 1) ag)) bj) (nq bj (af 4))) bj))))
abbrev iy:Stmt:=top 38
abbrev iB:List Str:=["record","times","time_of"]
theorem md (F:gA K mg "times_text" iy ["record","times"])(aa6:Cl P w K mg base 10 "can_be_written" 2 aK)(aaa:Cl P w K mg base 8 "events" 1 cA)(aau:Cl P w K mg base 9 "line_text" 3 dy)(B:Bl mg){C_NoRecord C_NoEvent C_NoNumber C_NoText C_ClockError:Addr}(S:Xs K mg C_NoRecord C_NoEvent C_NoNumber C_NoText C_ClockError):Cl P w K mg base 11 "times_text" 2 ba:=
 bf iB F λd f c A o s H E hr x=>(by(apply aA;exact(dQ (d6 (dZ (aU aa6 hr (ah (af 0) (ah (af 1) ag))))) (ax (fH S.o_NoNumber S.m_NoNumber)) bH);apply aA;exact(aO (rE (hu8 hr) rfl B.b_dict B.b_zip (ah (aU aaa hr (ah (af 0) ag)) (ah (af 1) ag))) (aq 2 d));exact ax (aE (nq bj (fw ["number","record","time_of"] iB iy (cp B.b_range (ah (cN cL B.b_len JG (ah (bc (af 0) ak) ag)) ag)) (λd _ _ _ _ _=>⟨(aq 0 d),b7,(aU aau hr (ah (af 1) (ah (af 0) (ah (af 2) ag))))⟩))))))
abbrev nE:Stmt:=top 33
theorem nQ (F:gA K mg "number_of" nE ["word"])(B:Bl mg):AZ P w K mg base 1 "number_of" 1 bA:=
 ox ["word"] F λd f c A o s H E hr x=>(ji (A5 0 (λ_ _ z=>by cases z) B.b_int B.b_ValueError))
abbrev iz:Stmt:=top 39
abbrev iC:List Str:=["record","text","parts","times"]
theorem mh (F:gA K mg "read_times" iz ["record","text"])(aa5:Cl P w K mg base 7 "need_record" 1 bu)(aav:AZ P w K mg base 1 "number_of" 1 bA)(aa6:Cl P w K mg base 10 "can_be_written" 2 aK)(aa8:Cl P w K mg base 11 "times_text" 2 ba)(B:Bl mg){C_NoRecord C_NoEvent C_NoNumber C_NoText C_ClockError:Addr}(S:Xs K mg C_NoRecord C_NoEvent C_NoNumber C_NoText C_ClockError):AZ P w K mg base 12 "read_times" 2 aX:=
 ox iC F λd f c A o s H E hr x=>(by(apply b9;exact(uX (i9 (aU aa5 hr (ah (af 0) ag))));apply b9;exact(uX (dQ (d6 (dZ (rC B.b_isinstance B.b_str cZ (af 1)))) (ax (fH S.o_NoText S.m_NoText)) bH));apply b9;exact(uZ (u_1 (ye (yd (Am (af 1)) bj) cy (cx (iI ak)))) (aq 2 d));apply b9;exact(uZ (u_cT lK B.b_tuple d8 (fm (u_lc ["part"] iC iz (d7 (af 2)) (λd _ _ _ _ _=>⟨(aq 0 d),b7,(tD aav hr (fm (ee (bc (nk (af 0) bj) ak)) (qu ag)))⟩)) (qu ag))) (aq 3 d));apply b9;exact(uX (dQ (oJ (kJ (d6 (dZ (aU aa6 hr (ah (af 0) (ah (af 3) ag))))) (i8 (dE (fL (fB hr)) (aU aa8 hr (ah (af 0) (ah (af 3) ag))) (af 1))))) (ax (fH S.o_NoText S.m_NoText)) bH));exact(ji (uX (aE (af 3))))))
abbrev nI:Stmt:=top 49
theorem nW (F:gA K mg "_law_told" nI ["_law_ask","_law_record_here","_law_thing"])(aa8:Cl P w K mg base 11 "times_text" 2 ba)(aan:AZ P w K mg base 12 "read_times" 2 aX)(B:Bl mg){C_NoRecord C_NoEvent C_NoNumber C_NoText C_ClockError:Addr}(S:Xs K mg C_NoRecord C_NoEvent C_NoNumber C_NoText C_ClockError){f_r:Addr}{fd_r:Ib}(aad:Fn K mg "_law_refused" bD ["_law_e"] f_r fd_r):AZ P w K mg base 13 "_law_told" 3 aD:=
 ox ["_law_ask","_law_record_here","_law_thing","_law_e"] F λd f c A o s H E hr x=>(ji (u_try 3 d S.m_ClockError S.o_ClockError (λ_ _=>(ji (Ao (u_ife (u_t (dE (ka (fB hr)) (af 0) ak)) (ee (aU aa8 hr (ah (af 1) (ah (af 2) ag)))) (tD aan hr (fm (ee (af 1)) (fm (ee (af 2)) (qu ag)))))))) (vj rfl (Of rfl) aad S B.b_isinstance B.b_ValueError (DB hr)) (hcl:=λ_ _ z=>by cases z)))
abbrev vn:Stmt:=top 52
abbrev B8:List Str:=["_law_script","_law_record_here","_law_times_here","_law_text_here","_law_k","_law_spoilt_here","_law_told_here","_law_great","_law_some","_law_more","_law_bad"]
theorem aab:bM B8 ["_law_script"] (ao vn):=fsc
theorem B3 {f:Addr}{fd:Ib}(aaA:Fn K mg "law" vn ["_law_script"] f fd)(aah:Cl P w K mg base 4 "_law_record" 3 dk)(aao:Cl P w K mg base 3 "_law_times" 3 dJ)(aa7:Cl P w K mg base 2 "_law_text" 2 bo)(aai:Cl P w K mg base 3 "_law_spoilt" 3 cH)(aa3:AZ P w K mg base 13 "_law_told" 3 aD)(B:Bl mg):xQ P w K mg base 14 f fd ["_law_script"] 1 m_law:=
 sE aaA.fn aab rfl λc A o s H E hr x=>(show Ae _ _ _ from(by(apply b9;exact(uX (aO (aU aah hr (ah (af 0) (ah ak (ah ak ag)))) (aq 1 aab.nd)));apply b9;exact(uX (aO (aU aao hr (ah (af 0) (ah ak (ah (af 1) ag)))) (aq 2 aab.nd)));apply b9;exact(uX (aO (aU aa7 hr (ah (af 1) (ah (af 2) ag))) (aq 3 aab.nd)));apply b9;exact(qt (u_w (u_or (j7 (fL (fB hr)) (tD aa3 hr (fm (ee ak) (fm (ee (af 1)) (fm (ee (af 2)) (qu ag))))) (ee (af 3))) (Dh (j7 (fL (fB hr)) (tD aa3 hr (fm (ee ak) (fm (ee (af 1)) (fm (ee (af 3)) (qu ag))))) (ee (af 2)))))) (jh (ax (aE fI))) (jh bH));apply b9;exact(uY rfl (cp B.b_range (ah ak ag)) (aq 4 aab.nd) (by(apply b9;exact(uX (aO (aU aai hr (ah (af 0) (ah (ar az ak (ar dI ak (af 4))) (ah (af 3) ag)))) (aq 5 aab.nd)));apply b9;exact(uZ (tD aa3 hr (fm (ee ak) (fm (ee (af 1)) (fm (ee (af 5)) (qu ag))))) (aq 6 aab.nd));exact(ji (uX (dQ (dE (ka (fB hr)) (d9 (af 6) cy (cx ak)) (bz (ah bj ag))) (ax (dQ (oJ (kJ (dE (fL (fB hr)) (af 6) (bz (ah bj (ah ak ag)))) (i8 (dE (ka (fB hr)) (af 5) (af 3))))) (ax (aE fI)) bH)) (ax (dQ (oJ (kJ (dE (fL (fB hr)) (aU aa7 hr (ah (af 1) (ah (af 6) ag))) (af 5)) (i8 (dE (fL (fB hr)) (cN cL B.b_len JG (ah (af 6) ag)) (cN cL B.b_len JG (ah (af 2) ag)))))) (ax (aE fI)) bH))))))));apply b9;exact(uY rfl (d7 (bz (ah ak (ah (iI ak) ag)))) (aq 7 aab.nd) (by(apply b9;exact(uX (aO (ar az (bz (ah (af 7) ag)) (d9 (af 2) (cx ak) cy)) (aq 8 aab.nd)));apply b9;exact(qt (j7 (fL (fB hr)) (tD aa3 hr (fm (ee ak) (fm (ee (af 1)) (fm (ee (af 8)) (qu ag))))) (ee (aU aa7 hr (ah (af 1) (ah (af 8) ag))))) (jh (ax (aE fI))) (jh bH));apply b9;exact(qt (j7 (fL (fB hr)) (tD aa3 hr (fm (ee ak) (fm (ee (af 1)) (fm (ee (aU aa7 hr (ah (af 1) (ah (af 8) ag)))) (qu ag))))) (ee (af 8))) (jh (ax (aE fI))) (jh bH));apply b9;exact(uX (aO (ar az (bz (ah (ar az (af 7) (bc (iJ (ah ak (ah (iI ak) ag))) (gq xu B.b_int gV (ah (kL wa (af 7) ak) ag)))) ag)) (d9 (af 2) (cx ak) cy)) (aq 9 aab.nd)));apply b9;exact(qt (j7 (fL (fB hr)) (tD aa3 hr (fm (ee ak) (fm (ee (af 1)) (fm (ee (af 9)) (qu ag))))) (ee (bz (ah bj (ah ak ag))))) (jh (ax (aE fI))) (jh bH));exact(ji (qt (j7 (fL (fB hr)) (tD aa3 hr (fm (ee ak) (fm (ee (af 1)) (fm (ee (aU aa7 hr (ah (af 1) (ah (af 9) ag)))) (qu ag))))) (ee (bz (ah bj (ah ak ag))))) (jh (ax (aE fI))) (jh bH))))));apply b9;exact(uY rfl (d7 (bz (ah kK (ah (bz ag) (ah (d9 (af 2) cy (cx (iI ak))) (ah (ar az (af 2) (bz (ah ak ag))) (ah (gq zY B.b_list jI (ah (af 2) ag)) (ah (ar az (bz (ah fI ag)) (d9 (af 2) (cx ak) cy)) (ah (ar az (bz (ah bj ag)) (d9 (af 2) (cx ak) cy)) ag))))))))) (aq 10 aab.nd) (ji (qt (j7 (fL (fB hr)) (tD aa3 hr (fm (ee ak) (fm (ee (af 1)) (fm (ee (af 10)) (qu ag))))) (ee (bz (ah bj (ah ak ag))))) (jh (ax (aE fI))) (jh bH))));apply b9;exact(u_forC rfl (u_iseq (Dg (fm (ee bj) (fm (ee (zq_sliceS (af 3) cy (cx (iI ak)))) (fm (ee (ar az (af 3) bj)) (fm (ee (ar az bj (af 3))) (fm (ee (ar az (af 3) (af 3))) (fm (u_1 (Am (af 3))) (fm (ee (ar az bj (af 3))) (qu ag)))))))))) (aq 10 aab.nd) (ji (qt (j7 (fL (fB hr)) (tD aa3 hr (fm (ee ak) (fm (ee (af 1)) (fm (ee (af 10)) (qu ag))))) (ee (bz (ah bj (ah ak ag))))) (jh (ax (aE fI))) (jh bH))));exact(ji (Ao (u_andE (u_cmpE (ka (fB hr)) (tD aa3 hr (fm (ee ak) (fm (ee (d9 (af 1) cy (cx ak))) (fm (ee (af 2)) (qu ag))))) (ee (bz (ah bj (ah ak ag))))) (u_andE1 (u_cmpE (ka (fB hr)) (tD aa3 hr (fm (ee ak) (fm (ee (d9 (af 1) cy (cx ak))) (fm (ee (af 3)) (qu ag))))) (ee (bz (ah bj (ah ak ag)))))))))))).h
end
theorem all_ok {l:PySem.W.OpenLaw}{w:HS}{K:GW}{h:Heap}{mg:Str->Option GZ}{fa:Addr}(X:K.In h)(e0:wj asks K=uV asks top)(G:h.Ns HL mg)(hfa:mg "law" =some (.ref fa)) :
  ∃fd:Ib,(∀(s:GX) (v:GZ),Mj s fd ⟨[v],[]⟩ [("_law_script",v)])/\∀base:Heap,K.In base->base.Ns HL mg->lX l.prog w K mg base CX0 14 fa fd ["_law_script"] (spP K 1 m_law):=by
 have e:nZ xH K=nz xH top:=congrArg (·.1) e0
 have B:Bl mg:=⟨dW 0 X G e rfl,dW 1 X G e rfl,dW 2 X G e rfl,dW 3 X G e rfl,dW 4 X G e rfl,dW 5 X G e rfl,dW 6 X G e rfl,dW 7 X G e rfl,dW 8 X G e rfl,dW 9 X G e rfl,dW 10 X G e rfl,dW 11 X G e rfl,dW 12 X G e rfl⟩
 have C:Cs mg:=⟨lC 0 X G e rfl,lC 1 X G e rfl,lC 2 X G e rfl,lC 3 X G e rfl,lC 4 X G e rfl,lC 5 X G e rfl,lC 6 X G e rfl⟩;obtain⟨C_ClockError,ls,xD,xl,nd⟩:=B4 (EH e);obtain⟨C_NoRecord,ls0,x_NoRecord,rfl,xl0⟩:=iq xl;obtain⟨C_NoEvent,ls1,x_NoEvent,rfl,xl1⟩:=iq xl0;obtain⟨C_NoNumber,ls2,x_NoNumber,rfl,xl2⟩:=iq xl1;obtain⟨C_NoText,ls3,x_NoText,rfl,xl3⟩:=iq xl2;cases xI xl3
 have S:Xs K mg C_NoRecord C_NoEvent C_NoNumber C_NoText C_ClockError:=⟨K9 X G (gH x_NoRecord).1,K9 X G (gH x_NoEvent).1,K9 X G (gH x_NoNumber).1,K9 X G (gH x_NoText).1,K9 X G (gH xD).1,Fy x_NoRecord xD,Fy x_NoEvent xD,Fy x_NoNumber xD,Fy x_NoText xD,ox0 xD,nd⟩;obtain⟨fd33,aaA,bnd⟩:=EB (n:="law") (i:=52) (x:="_law_script") 33 X G e rfl hfa λ_ _ _ _ _ _ _=>rfl
 obtain⟨f34,fd34,aad⟩:=EF (n:="_law_refused") (i:=48) (ps:=["_law_e"]) 34 X G e rfl λ_ _ _ _ _ _ us hl=>AE (λ_=>rfl) us hl
 refine⟨fd33,bnd,λbase _ _=> ?_⟩
 have aaq:=nY l.prog w base (dh 0 X G e) B
 have aa0:=mm l.prog w base (dh 1 X G e) aaq
 have aa4:=lh l.prog w base (dh 2 X G e) B
 have aaf:=lg l.prog w base (dh 3 X G e) aa4 aa0 B
 have aaj:=mn l.prog w base (dh 4 X G e) aa0 B
 have aah:=lb l.prog w base (dh 5 X G e) aa0 aaf aaj B
 have aao:=ml l.prog w base (dh 6 X G e) aa4 aa0 B
 have aa7:=nX l.prog w base (dh 7 X G e) aa4 B
 have aai:=la l.prog w base (dh 8 X G e) aa0 B
 have aa1:=qM l.prog w base (dh 9 X G e) B
 have aac:=pz l.prog w base (dh 10 X G e) B
 have aa2:=nS l.prog w base (dh 11 X G e) aac
 have aay:=qL l.prog w base (dh 12 X G e) aa2 C
 have aaz:=wg l.prog w base (dh 13 X G e) B
 have aae:=kr l.prog w base (dh 14 X G e) aa1 aaz aa2 B C
 have aaw:=pC l.prog w base (dh 15 X G e) aa1 aay aae
 have aak:=mj l.prog w base (dh 16 X G e) aa1 aaw B C
 have aa9:=pA l.prog w base (dh 17 X G e) aa2 aa1 B
 have aax:=pB l.prog w base (dh 18 X G e) aa2 C
 have aar:=nU l.prog w base (dh 19 X G e) aa9 aa1 aax
 have aag:=k9 l.prog w base (dh 20 X G e) aa1 aar B C
 have aas:=nT l.prog w base (dh 21 X G e) aa1 aak aag
 have aa5:=k8 l.prog w base (dh 22 X G e) aas S
 have aaa:=tM l.prog w base (dh 23 X G e) aa5 B
 have aat:=nV l.prog w base (dh 24 X G e) aaa aa1 aac B
 have aa6:=jv l.prog w base (dh 25 X G e) aat aa2 B C
 have aal:=mi l.prog w base (dh 26 X G e) aa9 S
 have aam:=mf l.prog w base (dh 27 X G e) aa5 aal
 have aau:=nR l.prog w base (dh 28 X G e) aaa aam B
 have aa8:=md l.prog w base (dh 29 X G e) aa6 aaa aau B S
 have aav:=nQ l.prog w base (dh 30 X G e) B
 have aan:=mh l.prog w base (dh 31 X G e) aa5 aav aa6 aa8 B S
 have aa3:=nW l.prog w base (dh 32 X G e) aa8 aan B S aad;exact(B3 l.prog w base aaA aah aao aa7 aai aa3 B).h
end G
namespace Tr
open PySem
abbrev RR (cs ls:List T):T:=.tup [.tup cs,.tup ls]
mutual
def T.pl:T->Bool
 | .scr _=>false
 | .dct _ _=>false
 | .ob _ _ _=>false
 | .tup l=>plS l
 | .lst l=>plS l
 | _=>true
def plS:List T->Bool
 | [] =>true
 | t::l=>t.pl&&plS l
end
theorem jt:∀{l:List T} {t:T},plS l=true->t∈l->t.pl=true
 | [],_,_,h=>by cases h
 | u::l,t,h,m=>by
  unfold plS at h;rw[G6]at h;rcases Hd.mp m with rfl | m
  ·exact h.1
  ·exact jt h.2 m
mutual
theorem T.FY:∀(t:T),t.pl=true->t.nd=true
 | .non,_=>rfl
 | .bl _,_=>rfl
 | .int _,_=>rfl
 | .str _,_=>rfl
 | .scr _,h=>by cases h
 | .dct _ _,h=>by cases h
 | .ob _ _ _,h=>by cases h
 | .tup l,h=>by unfold T.pl at h;unfold T.nd;exact plS_nds l h
 | .lst l,h=>by unfold T.pl at h;unfold T.nd;exact plS_nds l h
theorem plS_nds:∀(l:List T),plS l=true->nds l=true
 | [],_=>rfl
 | t::l,h=>by
  unfold plS at h;rw[G6]at h;unfold nds;rw[T.FY t h.1,plS_nds l h.2];rfl
end
theorem qR {fe:En->Rs T}{h:T->T}:∀(ts:List T) (ρ:En),0<ρ.length->(∀t∈ts,fe (ρ.set 0 (.va t))= .ok (h t))->cv (gN 0) bT fe ts ρ= .ok (ts.map h)
 | [],_,_,_=>rfl
 | t::r,ρ,hl,hf=>by
  unfold cv
  have e1:gN 0 t ρ= .ok (ρ.set 0 (.va t)):=by unfold gN;rw[if_pos hl]
  have ih:=qR r (ρ.set 0 (.va t)) (by rw[IS];exact hl) (λu hu=>by rw[List.set_set];exact hf u (G5 _ hu))
  simp only[e1,aF,bT,if_true,hf t G7,ih,G9]
theorem mS {fc:En->Rs Bool}{fe:En->Rs T}{p:T->Bool}{h:T->T}:∀(ts:List T) (ρ:En),0<ρ.length->(∀t∈ts,fc (ρ.set 0 (.va t))= .ok (p t)/\(p t=true->fe (ρ.set 0 (.va t))= .ok (h t)))->cv (gN 0) fc fe ts ρ= .ok ((ts.filter p).map h)
 | [],_,_,_=>rfl
 | t::r,ρ,hl,hf=>by
  unfold cv
  have e1:gN 0 t ρ= .ok (ρ.set 0 (.va t)):=by unfold gN;rw[if_pos hl]
  have ih:=mS r (ρ.set 0 (.va t)) (by rw[IS];exact hl) (λu hu=>by rw[List.set_set];exact hf u (G5 _ hu))
  obtain⟨h1,h2⟩:=hf t G7;simp only[e1,aF,h1]
  cases q:p t with
  | true=>simp only[if_true,h2 q,aF,ih,OA,q,G9]
  | false=>simp only[Iv,if_false,ih,OA,q]
theorem m8 (p:T->Bool):∀l:List T,lP (l.map λt=>T.bl (p t))=some (l.map p)
 | [] =>rfl
 | t::l=>by rw[G9,lP,m8 p l];rfl
theorem all_map (p:T->Bool)(l:List T):kB [.lst (l.map λt=>T.bl (p t))] = .ok (.bl (l.all p)):=by
 simp only[kB,m8,List.all_map]
 rfl
theorem iZ {α:Type}{l:List α}{k:Nat}{t:α}(h:l[k]? =some t):L2.atI l (k:Int)=some t:=by
 have hk:k<l.length:=(Hm.mp h).1
 unfold L2.atI L2.ixN;rw[if_pos (by omega),if_pos (by omega),HV]
 exact h
theorem bK {n k:Nat}(h:n<=k)(hk:autoParam (k<=1000) s_):n<=sizeLine:=by unfold sizeLine;omega
section
variable {f fa fb fc:En->Rs T}{fs:En->Rs (List T)}{b c:En->Rs Bool}{F G:En->Rs Fl}{ρ ρ' ρ1 ρ2:En}{t u r:T}{ts l m:List T}
theorem aM {g:T->T->Rs T}{x:Rs T}(ha:fa ρ= .ok t)(hb:fb ρ= .ok u)(hg:g t u=x):o2 g fa fb ρ=x:=by unfold o2;rw[ha,hb];exact hg
theorem wM {g:T->Rs T}{x:Rs T}(ha:fa ρ= .ok t)(hg:g t=x):o1 g fa ρ=x:=by unfold o1;rw[ha];exact hg
theorem aC:ai ρ= .ok []:=rfl
theorem aj (h:f ρ= .ok t)(hs:fs ρ= .ok ts):ae f fs ρ= .ok (t::ts):=by unfold ae;rw[h,hs];rfl
theorem zk {c:Str}(h:f ρ= .err c):ae f fs ρ= .err c:=by unfold ae;rw[h];rfl
theorem aP {g:List T->Rs T}{x:Rs T}(h:fs ρ= .ok ts)(hg:g ts=x):cl g fs ρ=x:=by unfold cl;rw[h];exact hg
theorem EI {g:List T->Rs T}{c:Str}(h:fs ρ= .err c):cl g fs ρ= .err c:=by unfold cl;rw[h];rfl
theorem cK {k:Bool}(h:f ρ= .ok (.bl k)):tb f ρ= .ok k:=by unfold tb;rw[h];rfl
theorem Ez {c:Str}(h:f ρ= .err c):tb f ρ= .err c:=by unfold tb;rw[h];rfl
theorem gO {k:Bool}(h:b ρ= .ok k):dj b ρ= .ok (!k):=by unfold dj;rw[h];rfl
theorem Cg {c:Str}(h:b ρ= .err c):dj b ρ= .err c:=by unfold dj;rw[h];rfl
theorem AI (h:b ρ= .ok true):kn b c ρ= .ok true:=by unfold kn;rw[h];rfl
theorem pO {x:Rs Bool}(h:b ρ= .ok false)(h2:c ρ=x):kn b c ρ=x:=by unfold kn;rw[h];exact h2
theorem wQ (h:fa ρ= .ok (.bl true)):bL fa fb ρ=fb ρ:=by unfold bL;rw[h];rfl
theorem sk (h:fa ρ= .ok (.bl false)):bL fa fb ρ= .ok (.bl false):=by unfold bL;rw[h];rfl
theorem zl {c:Str}(h:fa ρ= .err c):bL fa fb ρ= .err c:=by unfold bL;rw[h];rfl
theorem og {p q:Bool}(h:fa ρ= .ok (.bl p))(h2:p=true->fb ρ= .ok (.bl q)):bL fa fb ρ= .ok (.bl (p&&q)):=by
 cases p with
 | true=>rw[wQ h,h2 rfl];rfl
 | false=>rw[sk h];rfl
theorem pP {p:Bool}(h:b ρ= .ok p):Cq b fa fb ρ=if p then fa ρ else fb ρ:=by unfold Cq;rw[h];rfl
theorem bX {g:T->En->Rs En}(h:f ρ= .ok t)(hg:g t ρ= .ok ρ'):c6 f g ρ= .ok (.nx ρ'):=by unfold c6;rw[h];show(match g t ρ with | .ok ρ'=>Rs.ok (Fl.nx ρ') | _=> .bad)=_;rw[hg]
theorem EJ {g:T->En->Rs En}{c:Str}(h:f ρ= .err c):c6 f g ρ= .err c:=by unfold c6;rw[h];rfl
theorem aJ (h:F ρ= .ok (.nx ρ')):aI F G ρ=G ρ':=by unfold aI;rw[h];rfl
theorem wL (h:F ρ= .ok (.rt t)):aI F G ρ= .ok (.rt t):=by unfold aI;rw[h];rfl
theorem gM {c:Str}(h:F ρ= .err c):aI F G ρ= .err c:=by unfold aI;rw[h];rfl
theorem kh (h:b ρ= .ok true):ei b F G ρ=F ρ:=by unfold ei;rw[h];rfl
theorem dP (h:b ρ= .ok false):ei b F G ρ=G ρ:=by unfold ei;rw[h];rfl
theorem Cm {c:Str}(h:b ρ= .err c):ei b F G ρ= .err c:=by unfold ei;rw[h];rfl
theorem dA (h:f ρ= .ok t):aL f ρ= .ok (.rt t):=by unfold aL;rw[h];rfl
theorem qU {c:Str}(h:f ρ= .err c):aL f ρ= .err c:=by unfold aL;rw[h];rfl
theorem wO (h:f ρ= .ok t):vz f ρ= .ok (.nx ρ):=by unfold vz;rw[h];rfl
theorem AJ {c:Str}(h:f ρ= .err c):vz f ρ= .err c:=by unfold vz;rw[h];rfl
theorem iF {fi:En->Rs (List T)}{g:T->En->Rs En}{x:Fl}(h:fi ρ= .ok ts)(h2:bF g F ts ρ= .ok x):gy fi g F ρ= .ok x:=by unfold gy;rw[h];show(match bF g F ts ρ with | .ok f=>Rs.ok f | _=> .bad)=_;rw[h2]
theorem fh {g:T->En->Rs En}(h:g t ρ= .ok ρ1)(h2:F ρ1= .ok (.nx ρ2)):bF g F (t::ts) ρ=bF g F ts ρ2:=by rw[bF,h];show(F ρ1 >>= _)=_;rw[h2];rfl
theorem ck {n m:Nat}(hl:ts.length=n)(h:F (aG m ts)= .ok (.rt t)):val n m F ts= .ok t:=by unfold val;rw[if_pos hl];unfold bh;rw[h];rfl
theorem fA {n m:Nat}{c:Str}(hl:ts.length=n)(h:F (aG m ts)= .err c):val n m F ts= .err c:=by unfold val;rw[if_pos hl];unfold bh;rw[h];rfl
theorem wI {n m:Nat}(hl:ts.length=n)(h:F (aG m ts)= .ok (.nx ρ)):val n m F ts= .ok .non:=by unfold val;rw[if_pos hl];unfold bh;rw[h];rfl
theorem AG {h:Str->Rs T}{k:Fl}(e:F ρ= .ok k):vt F h ρ= .ok k:=by unfold vt;rw[e]
theorem wJ {h:Str->Rs T}{c:Str}(e:F ρ= .err c)(e2:h c= .ok t):vt F h ρ= .ok (.rt t):=by unfold vt;rw[e];simp only[e2]
theorem qW {fi:En->Rs (List T)}{src:List (Option Nat)}{fe:En->Rs T}{h:T->T}(hi:fi ρ= .ok ts)(hs:ts.length<=sizeLine)(hn:0<src.length)(hf:∀t∈ts,fe ((cj src ρ).set 0 (.va t))= .ok (h t)) :
  fz fi src (gN 0) bT fe ρ= .ok (.lst (ts.map h)):=by
 have e:=qR (fe:=fe) (h:=h) ts (cj src ρ) (by unfold cj;rw[G3];exact hn) hf
 unfold fz;rw[hi,aF,if_pos hs,e]
theorem EA {fi:En->Rs (List T)}{src:List (Option Nat)}{fc:En->Rs Bool}{fe:En->Rs T}{p:T->Bool}{h:T->T}(hi:fi ρ= .ok ts)(hs:ts.length<=sizeLine)(hn:0<src.length)
  (hf:∀t∈ts,fc ((cj src ρ).set 0 (.va t))= .ok (p t)/\(p t=true->fe ((cj src ρ).set 0 (.va t))= .ok (h t))):fz fi src (gN 0) fc fe ρ= .ok (.lst ((ts.filter p).map h)):=by
 have e:=mS (fc:=fc) (fe:=fe) (p:=p) (h:=h) ts (cj src ρ) (by unfold cj;rw[G3];exact hn) hf
 unfold fz;rw[hi,aF,if_pos hs,e]
theorem cf (h:fs ρ= .ok ts)(hl:ts.length<=sizeLine):br fs ρ= .ok (.tup ts):=by unfold br;rw[h];show e9 ts=_;unfold e9;rw[if_pos hl]
theorem lA (h:fs ρ= .ok ts)(hl:ts.length<=sizeLine):gU fs ρ= .ok (.lst ts):=by unfold gU;rw[h];show kd ts=_;unfold kd;rw[if_pos hl]
theorem Ci {f:En->Rs (List T)}{i:Nat}(h:f ρ= .ok l)(hi:i<ρ.length)(hl:l.length<=1000):kX i f ρ= .ok (.nx (ρ.set i (.ow (.lst l)))):=by
 unfold kX;rw[h,aF,if_pos ⟨hi,bK hl (by omega)⟩]
theorem Cj {i:Nat}(hi:i<ρ.length):kX i ai ρ= .ok (.nx (ρ.set i (.ow (.lst [])))):=Ci rfl hi (HZ _)
theorem EG {i:Nat}(h:f ρ= .ok (.lst m))(hi:ρ[i]? =some (.ow (.lst l)))(hl:l.length+m.length<=1000):qB i f ρ= .ok (.nx (ρ.set i (.ow (.lst (l++m))))):=by
 unfold qB;rw[hi];simp only[h,aF,CB];rw[if_pos (by unfold sizeLine;omega)]
theorem ua (h:f ρ= .ok (.tup l)):iS f ρ= .ok l:=by unfold iS;rw[h];rfl
theorem ED (h:f ρ= .ok (.lst l)):iS f ρ= .ok l:=by unfold iS;rw[h];rfl
theorem EE (h:fs ρ= .ok [.tup l]):iE fs ρ= .ok (de 0 l):=by unfold iE;rw[h];rfl
theorem EC {n:Nat}(e:l[n]? =some t):bY (.tup l) (.int (n:Int))= .ok t:=by show(match L2.atI l _ with | some t=>Rs.ok t | none=> .bad)=_;rw[iZ e]
theorem Ck {n:Nat}(e:l[n]? =some t):bY (.lst l) (.int (n:Int))= .ok t:=by show(match L2.atI l _ with | some t=>Rs.ok t | none=> .bad)=_;rw[iZ e]
theorem zj {n:Nat}(h:fa ρ= .ok (.tup l))(h2:fb ρ= .ok (.int (n:Int)))(e:l[n]? =some t):o2 bY fa fb ρ= .ok t:=aM h h2 (EC e)
theorem wN {n:Nat}(h:fa ρ= .ok (.lst l))(h2:fb ρ= .ok (.int (n:Int)))(e:l[n]? =some t):o2 bY fa fb ρ= .ok t:=aM h h2 (Ck e)
theorem t9 {fe:En->Rs T}{fl fu:En->Rs (Option Int)}{lo hi:Option Int}(h:fe ρ= .ok (.tup l))(h1:fl ρ= .ok lo)(h2:fu ρ= .ok hi):sl fe fl fu ρ= .ok (.tup (fZ l lo hi)):=by
 unfold sl;rw[h,h1,h2];rfl
theorem AH {fe:En->Rs T}{fl fu:En->Rs (Option Int)}{lo hi:Option Int}(h:fe ρ= .ok (.lst l))(h1:fl ρ= .ok lo)(h2:fu ρ= .ok hi):sl fe fl fu ρ= .ok (.lst (fZ l lo hi)):=by
 unfold sl;rw[h,h1,h2];rfl
theorem lJ (l:List T)(n:Nat):fZ l none (some (n:Int))=l.take n:=by
 unfold fZ;rw[HT.sIx_none,HT.sIx_nat,LP,Kc,List.take_eq_take_iff];omega
theorem qc (l:List T)(n:Nat):fZ l (some (n:Int)) none=l.drop n:=by
 unfold fZ;rw[HT.sIx_none,HT.sIx_nat]
 by_cases h:n<=l.length
 ·rw[Nat.min_eq_left h]
  exact JB (by rw[Ig];omega)
 ·rw[Nat.min_eq_right (by omega),JA (He _),JA (by omega),List.take_nil]
end
theorem mk2 (a b:T):e9 [a,b] = .ok (.tup [a,b]):=by unfold e9;rw[if_pos (bK (k:=1000) (by simp only[G4,HJ];omega))]
theorem hV (n:Nat):(rng 0 n).length=n:=by unfold rng;rw[G3,Jv];omega
end Tr
namespace Gr
variable {ν:Type}[DecidableEq ν]
abbrev i7 (ν:Type):=List (ν×ν×Int)
def Holds (L:i7 ν)(t:ν->Int):Prop:=∀a b m,(a,b,m)∈L->t b - t a<=m
def most (L:i7 ν)(k:Nat):Int:=match L[k]? with
 | some x=>x.2.2
 | none=>0
def src (L:i7 ν)(k:Nat):Option ν:=(L[k]?).map (·.1)
abbrev uB (ν:Type):=ν->Option (Int×List Nat)
def put (b:uB ν)(v:ν)(x:Int×List Nat):uB ν:=λu=>if u=v then some x else b u
def size (L:i7 ν):Nat:=(L.map λx=>x.2.2.natAbs).sum
def val (M:Nat)(b:uB ν)(v:ν):Nat:=match b v with
 | none=>2*M+1
 | some x=>(x.1+M).toNat
def left (M:Nat)(b:uB ν)(L:i7 ν):Nat:=(L.map λx=>val M b x.2.1).sum
def start (S:List ν):uB ν:=λv=>if v∈S then some (0,[])else none
abbrev rA (ν:Type):=ν->ν->Option Int
def EO (f:rA ν)(a b:ν)(x:Int):rA ν:=λu v=>if u=a/\v=b then some x else f u v
def EU (f:rA ν)(a b:ν)(x:Int):rA ν:=match f a b with
 | none=>EO f a b x
 | some y=>if x<y then EO f a b x else f
def EN (mid one other:ν)(f:rA ν):rA ν:=match f one mid,f mid other with
 | some x,some y=>EU f one other (x+y)
 | _,_=>f
def tab0 (P:List ν):rA ν:=λu v=>if u∈P/\u=v then some 0 else none
def tab1 (P:List ν)(L:i7 ν):rA ν:=L.foldl (λf x=>EU f x.1 x.2.1 x.2.2) (tab0 P)
def zx (mid one:ν)(P:List ν)(f:rA ν):rA ν:=P.foldl (λf other=>EN mid one other f) f
def ER (mid:ν)(Q P:List ν)(f:rA ν):rA ν:=Q.foldl (λf one=>zx mid one P f) f
def ET (M P:List ν)(f:rA ν):rA ν:=M.foldl (λf mid=>ER mid P P f) f
def table (P:List ν)(L:i7 ν):rA ν:=ET P P (tab1 P L)
end Gr
namespace G
open PySem Tr
def AM:T->Bool
 | .int _=>true
 | _=>false
theorem sJ (t:T)(h:t.pl=true):dS [t] = .ok (.bl (AM t)):=by
 cases t <;> first | rfl | (simp[T.pl]at h;done)
def within (t:T)(a b:Int):Bool:=match t with
 | .int i=>decide (a<=i)&&decide (i<=b)
 | _=>false
theorem dm (t:T)(a b:Int)(h:t.pl=true):aQ [t,.int a,.int b] = .ok (.bl (within t a b)):=by
 have w:=sJ t h
 cases t with
 | int i=>
  simp[aQ,val,bh,gX,aG,aL,bL,vr,ch,cl,ae,ai,rj,within,w,AM]
  cases decide (a<=i) <;> rfl
 | scr _=>simp[T.pl]at h
 | dct _ _=>simp[T.pl]at h
 | ob _ _ _=>simp[T.pl]at h
 | _=>simp[aQ,val,bh,gX,aG,aL,bL,vr,ch,cl,ae,ai,within,w,AM]
def c8 (t:T)(a b:Nat):Bool:=match t with
 | .tup l=>decide (a<=l.length)&&decide (l.length<=b)
 | _=>false
theorem gS (t:T)(a b:Nat)(h:t.pl=true):aH [t,.int a,.int b] = .ok (.bl (c8 t a b)):=by
 cases t with
 | tup l=>
  simp[aH,val,bh,nj,aG,aL,bL,o1,vr,xU,T.ty,sy,ch,cl,ae,ai,cF,T.items,rj,c8]
  cases decide (a<=l.length) <;> rfl
 | scr _=>simp[T.pl]at h
 | dct _ _=>simp[T.pl]at h
 | ob _ _ _=>simp[T.pl]at h
 | _=>rfl
def l9 (x y:T):Bool:=within x 1 9&&(match x with
 | .int i=>within y i 9
 | _=>false)
theorem CC (x y:T)(hx:x.pl=true)(hy:y.pl=true):eU [x,y] = .ok (.bl (l9 x y)):=by
 have w:=dm x 1 9 hx;unfold l9
 cases q:within x 1 9 with
 | false=>rw[q]at w;simp[eU,val,bh,j5,aG,aL,bL,vr,cn,cl,ae,ai,w]
 | true=>
  rw[q]at w
  cases x with
  | int i=>simp[eU,val,bh,j5,aG,aL,bL,vr,cn,cl,ae,ai,w,dm y i 9 hy]
  | _=>cases q
def lY:List Int->Bool
 | a::b::r=>decide (a<b)&&lY (b::r)
 | _=>true
theorem DC (a b:Int)(r:List Int):lY (a::b::r)=(decide (a<b)&&lY (b::r)):=rfl
theorem i0 {fe:En->Rs T}{p:T->Bool}{l:List T}{fi:En->Rs (List T)}{src:List (Option Nat)}{ρ:En}(hi:fi ρ= .ok l)(hs:l.length<=sizeLine)(hn:0<src.length)(hf:∀t∈l,fe ((cj src ρ).set 0 (.va t))= .ok (.bl (p t))) :
  cl kB (ae (fz fi src (gN 0) bT fe) ai) ρ= .ok (.bl (l.all p)):=by
 have e:=qR (fe:=fe) (h:=λt=>T.bl (p t)) l (cj src ρ) (by unfold cj;rw[G3];exact hn) hf
 simp only[cl,ae,ai,fz,hi,aF,if_pos hs,e,all_map]
def jQ (l:List T):T->Bool
 | .int k=>match L2.atI l k,L2.atI l (k+1)with
  | some (.int a),some (.int b)=>decide (a<b)
  | _,_=>false
 | _=>false
theorem kD {t:T}{j:Int}(h:t∈rng 0 j):∃k:Nat,t= .int k/\(k:Int)<j:=by
 unfold rng at h;obtain⟨k,hk,e⟩:=Hb.mp h;rw[IP]at hk;exact⟨k,by rw[<-e];simp,by omega⟩
theorem Bo:(l:List Int)->l.length<=4->(rng 0 ((l.length:Int) - 1)).all (jQ (l.map .int))=lY l
 | [],_=>rfl
 | [a],_=>rfl
 | [a,b],_=>by simp[rng,MJ,jQ,L2.atI,L2.ixN,lY]
 | [a,b,c],_=>by simp[rng,MJ,jQ,L2.atI,L2.ixN,lY]
 | [a,b,c,d],_=>by simp[rng,MJ,jQ,L2.atI,L2.ixN,lY,Bool.and_assoc]
 | a::b::c::d::e::r,h=>absurd h (by simp only[G4];omega)
theorem zE (l:List Int)(h:l.length<=4):ib [.tup (l.map .int)] = .ok (.bl (lY l)):=by
 have hr:iR (ae (o2 km (cl cF (ae (vr 0) ai)) (cn (.int 1))) ai) [.va (.tup (l.map .int))] = .ok (rng 0 ((l.length:Int) - 1)):=by
  have:xV ((l.length:Int) - 1)=true:=by unfold xV;rw[G6];exact⟨decide_eq_true (by omega),decide_eq_true (by omega)⟩
  simp[iR,ae,ai,o2,cl,vr,cn,cF,T.items,km,this]
 have hs:(rng 0 ((l.length:Int) - 1)).length<=sizeLine:=by
  unfold rng sizeLine;rw[G3,Jv];omega
 have e:=i0 (fe:=o2 AD (o2 bY (vr 1) (vr 0)) (o2 bY (vr 1) (o2 aB (vr 0) (cn (.int 1))))) (p:=jQ (l.map .int)) (src:=[none,some 0]) hr hs (by decide) (λt ht=>by
  obtain⟨k,rfl,hk⟩:=kD ht
  have h1:(l.map T.int)[k]? =some (.int (l[k]'(by omega))):=by simp
  have h2:(l.map T.int)[k+1]? =some (.int (l[k+1]'(by omega))):=by rw[HN,Hv (by omega)];rfl
  have g1:=iZ h1
  have g2:L2.atI (l.map T.int) ((k:Int)+1)=some (.int (l[k+1]'(by omega))):=iZ h2
  simp[o2,vr,cj,cn,aB,bY,T.items,g1,g2,rj,jQ])
 rw[Bo l h]at e;simp only[ib,val,Ik,if_true,tj,bh,aL,aG]
 show(do let f <-(do let t <-cl kB _ [.va (.tup (l.map .int))];Rs.ok (Fl.rt t));_)=_
 rw[e]
 rfl
def jw:List T->Option (List Int)
 | [] =>some []
 | .int i::l=>match jw l with
  | some m=>some (i::m)
  | none=>none
 | _::_=>none
def cQ (t:T):Bool:=c8 t 1 4&&(match t with
 | .tup l=>l.all (λu=>within u 0 99)&&(match jw l with | some m=>lY m | none=>false)
 | _=>false)
theorem lp:∀{l:List T} {m:List Int},jw l=some m->l=m.map .int
 | [],m,h=>by cases h;rfl
 | t::l,m,h=>by
  cases t with
  | int i=>
   unfold jw at h
   cases q:jw l with
   | none=>rw[q]at h;cases h
   | some m'=>rw[q]at h;cases h;rw[G9,<-lp q]
  | _=>cases h
theorem n0:∀{l:List T} {a b:Int},(l.all λu=>within u a b)=true->∃m,jw l=some m
 | [],_,_,_=>⟨[],rfl⟩
 | t::l,a,b,h=>by
  rw[List.all_cons,G6]at h
  cases t with
  | int i=>
   obtain⟨m,e⟩:=n0 h.2
   exact⟨i::m,by unfold jw;rw[e]⟩
  | _=>exact absurd h.1 (by simp[within])
theorem cE {t:T}{a b:Nat}(h:c8 t a b=true):∃l,t= .tup l/\a<=l.length/\l.length<=b:=by
 cases t with
 | tup l=>unfold c8 at h;rw[G6]at h;exact⟨l,rfl,of_decide_eq_true h.1,of_decide_eq_true h.2⟩
 | _=>cases h
theorem vq {n k:Nat}(h:n<=k)(hk:autoParam (k<=1000) s_):n<=sizeLine:=by unfold sizeLine;omega
theorem rf (t:T)(h:t.pl=true):bB [t] = .ok (.bl (cQ t)):=by
 have w:aH [t,.int 1,.int 4] = .ok (.bl (c8 t 1 4)):=gS t 1 4 h;unfold cQ
 cases q:c8 t 1 4 with
 | false=>rw[q]at w;simp[bB,val,bh,dN,aG,aI,ei,dj,tb,sN,aL,cl,vr,cn,ae,ai,w]
 | true=>
  rw[q]at w;obtain⟨l,rfl,h1,h2⟩:=cE q
  have hp:∀u∈l,u.pl=true:=λu hu=>jt (by unfold T.pl at h;exact h) hu
  have e:=i0 (fe:=cl aQ (ae (vr 0) (ae (cn (.int 0)) (ae (cn (.int 99)) ai)))) (p:=λu=>within u 0 99) (src:=[none]) (fi:=iS (vr 0)) (ρ:=[.va (.tup l)]) rfl (vq h2) (by decide) (λu hu=>by
   simp[cl,ae,ai,vr,cn,cj,dm u 0 99 (hp u hu)])
  have w':cl aH (ae (vr 0) (ae (cn (.int 1)) (ae (cn (.int 4)) ai))) [.va (.tup l)] = .ok (.bl true):=w
  show bB _= .ok (.bl (true&&(l.all (λu=>within u 0 99)&&(match jw l with | some m=>lY m | none=>false))))
  cases qa:l.all λu=>within u 0 99 with
  | false=>
   rw[qa]at e
   simp[bB,val,bh,dN,aG,aI,ei,dj,tb,sN,aL,bL,e,w']
  | true=>
   rw[qa]at e;obtain⟨m,em⟩:=n0 qa
   have el:=lp em
   have er:=zE m (by rw[el,G3]at h2;exact h2)
   rw[<-el]at er
   have er':cl ib (ae (vr 0) ai) [.va (.tup l)] = .ok (.bl (lY m)):=er;simp[bB,val,bh,dN,aG,aI,ei,dj,tb,sN,aL,bL,e,w',er',em]
def at_ (t:T)(k:Nat):T:=match t.items with
 | some l=>l.getD k .non
 | none=> .non
def bx (t:T):Bool:=c8 t 3 3&&(match t with
 | .tup [x,y,r] =>l9 x y&&cQ r
 | _=>false)
theorem zG (t:T)(h:t.pl=true):cV [t] = .ok (.bl (bx t)):=by
 have w:aH [t,.int 3,.int 3] = .ok (.bl (c8 t 3 3)):=gS t 3 3 h;unfold bx
 cases q:c8 t 3 3 with
 | false=>rw[q]at w;simp[cV,val,bh,gj,aG,aL,bL,cl,vr,cn,ae,ai,w]
 | true=>
  rw[q]at w;obtain⟨l,rfl,h1,h2⟩:=cE q
  match l,h1,h2 with
  | [x,y,r],_,_=>
   simp[T.pl,plS]at h;obtain⟨px,py,pr⟩:=h
   have g0:bY (.tup [x,y,r]) (.int 0)= .ok x:=rfl
   have g1:bY (.tup [x,y,r]) (.int 1)= .ok y:=rfl
   have g2:bY (.tup [x,y,r]) (.int 2)= .ok r:=rfl
   have ep:=CC x y px py
   have er:=rf r pr
   cases qp:l9 x y with
   | false=>rw[qp]at ep;simp[cV,val,bh,gj,aG,aL,bL,cl,vr,cn,ae,ai,o2,w,g0,g1,ep,qp]
   | true=>rw[qp]at ep;simp[cV,val,bh,gj,aG,aL,bL,cl,vr,cn,ae,ai,o2,w,g0,g1,g2,ep,er,qp]
def a6 (t:T):Bool:=c8 t 1 4&&(match t with
 | .tup l=>l.all bx
 | _=>false)
theorem xm (t:T)(h:t.pl=true):c7 [t] = .ok (.bl (a6 t)):=by
 have w:aH [t,.int 1,.int 4] = .ok (.bl (c8 t 1 4)):=gS t 1 4 h;unfold a6
 cases q:c8 t 1 4 with
 | false=>rw[q]at w;simp[c7,val,bh,gk,aG,aL,bL,cl,vr,cn,ae,ai,w]
 | true=>
  rw[q]at w;obtain⟨l,rfl,h1,h2⟩:=cE q
  have hp:∀u∈l,u.pl=true:=λu hu=>jt (by unfold T.pl at h;exact h) hu
  have e:=i0 (fe:=cl cV (ae (vr 0) ai)) (p:=bx) (src:=[none]) (fi:=iS (vr 0)) (ρ:=[.va (.tup l)]) rfl (vq h2) (by decide) (λu hu=>by
   simp[cl,ae,ai,vr,cn,cj,zG u (hp u hu)])
  have w':cl aH (ae (vr 0) (ae (cn (.int 1)) (ae (cn (.int 4)) ai))) [.va (.tup l)] = .ok (.bl true):=w;simp[c7,val,bh,gk,aG,aL,bL,e,w']
def eO (x y:T):Bool:=within x 0 999&&(match x,y with
 | _,.non=>true
 | .int i,_=>within y i 999
 | _,_=>false)
theorem zF (x y:T)(hx:x.pl=true)(hy:y.pl=true):dv [x,y] = .ok (.bl (eO x y)):=by
 have w:=dm x 0 999 hx;unfold eO
 cases q:within x 0 999 with
 | false=>rw[q]at w;simp[dv,val,bh,gi,aG,aL,bL,vr,cn,cl,ae,ai,w]
 | true=>
  rw[q]at w
  cases x with
  | int i=>
   have e:=dm y i 999 hy
   cases y with
   | non=>simp[dv,val,bh,gi,aG,aL,bL,Eh,vr,cn,cl,ae,ai,o2,wX,T.isN,w]
   | _=>simp[dv,val,bh,gi,aG,aL,bL,Eh,vr,cn,cl,ae,ai,o2,wX,T.isN,w,e]
  | _=>cases q
def reads (cs:List T)(c:Int):Nat:=if 0<=c then(match cs[c.toNat]? with
 | some (.tup [_,_,.tup r])=>r.length
 | _=>0)else 0
def a8 (cs:List T)(t:T):Bool:=match t with
 | .tup [.int c,.int k] =>decide (0<=c)&&decide (c<cs.length)&&(decide (0<=k)&&decide (k<reads cs c))
 | _=>false
theorem kl {t:T}(h:bx t=true):∃x y r,t= .tup [x,y,.tup r]:=by
 unfold bx at h;rw[G6]at h;obtain⟨h1,h2⟩:=h;obtain⟨l,rfl,h3,h4⟩:=cE h1
 match l,h3,h4,h2 with
 | [x,y,r],_,_,h2=>
  simp only[G6]at h2;obtain⟨_,h5⟩:=h2;unfold cQ at h5;rw[G6]at h5;obtain⟨m,rfl,_⟩:=cE h5.1;exact⟨x,y,m,rfl⟩
theorem cS {t:T}{a b:Int}(h:within t a b=true):∃i,t= .int i/\a<=i/\i<=b:=by
 cases t with
 | int i=>unfold within at h;rw[G6]at h;exact⟨i,rfl,of_decide_eq_true h.1,of_decide_eq_true h.2⟩
 | _=>cases h
theorem oo (cs:List T)(t:T)(hc:a6 (.tup cs)=true)(h:t.pl=true):bW [.tup cs,t] = .ok (.bl (a8 cs t)):=by
 have w:aH [t,.int 2,.int 2] = .ok (.bl (c8 t 2 2)):=gS t 2 2 h
 cases q:c8 t 2 2 with
 | false=>
  rw[q]at w
  have:a8 cs t=false:=by
   unfold a8;split
   ·cases q
   ·rfl
  simp[bW,val,bh,gh,aG,aI,ei,kn,dj,tb,sN,aL,cl,vr,cn,ae,ai,w,this]
 | true=>
  rw[q]at w;obtain⟨l,rfl,h1,h2⟩:=cE q
  match l,h1,h2 with
  | [x,y],_,_=>
   simp[T.pl,plS]at h;obtain⟨px,py⟩:=h
   have g0:bY (.tup [x,y]) (.int 0)= .ok x:=rfl
   have g1:bY (.tup [x,y]) (.int 1)= .ok y:=rfl
   have gl:cF [.tup cs] = .ok (.int cs.length):=rfl
   have e1:=dm x 0 ((cs.length:Int) - 1) px
   cases q1:within x 0 ((cs.length:Int) - 1)with
   | false=>
    rw[q1]at e1
    have:a8 cs (.tup [x,y])=false:=by
     cases x with
     | int c=>
      cases y with
      | int k=>
       simp only[within,MK,decide_eq_false_iff_not]at q1;simp only[a8,MK,decide_eq_false_iff_not]
       omega
      | _=>rfl
     | _=>rfl
    simp[bW,val,bh,gh,aG,aI,ei,kn,dj,tb,sN,aL,cl,vr,cn,ae,ai,o2,km,w,g0,gl,e1,this]
   | true=>
    rw[q1]at e1;obtain⟨c,rfl,c1,c2⟩:=cS q1;obtain⟨n,rfl⟩:=HM c1
    have hn:n<cs.length:=by omega
    have hcl:bx cs[n] =true:=by
     unfold a6 at hc;rw[G6]at hc;exact HC.mp hc.2 _ (Jp hn)
    obtain⟨a,b,r,er⟩:=kl hcl
    have g2:bY (.tup cs) (.int (n:Int))= .ok (.tup [a,b,.tup r]):=by
     simp only[bY,T.items];rw[iZ (Hv hn),er]
    have g3:bY (.tup [a,b,.tup r]) (.int 2)= .ok (.tup r):=rfl
    have gr:cF [.tup r] = .ok (.int r.length):=rfl
    have e2:=dm y 0 ((r.length:Int) - 1) py
    have:a8 cs (.tup [.int n,y])=within y 0 ((r.length:Int) - 1):=by
     have er2:reads cs (n:Int)=r.length:=by
      unfold reads;rw[if_pos c1,HV,Hv hn,er]
     cases y with
     | int k=>
      simp only[a8,within,er2];rw[decide_eq_true c1,decide_eq_true (show(n:Int)<cs.length by omega)]
      simp only[Lc]
      congr 1
      exact decide_eq_decide.mpr (by omega)
     | _=>rfl
    simp[bW,val,bh,gh,aG,aI,ei,kn,dj,tb,sN,aL,cl,vr,cn,ae,ai,o2,km,w,g0,g1,g2,g3,gl,gr,e1,e2,this]
def cg (cs:List T)(t:T):Bool:=match t with
 | .tup [a,b,x,y] =>eO x y&&(a8 cs a&&(a8 cs b&& !bP a b))
 | _=>false
theorem eE {cs:List T}{t:T}(h:a8 cs t=true):∃c k:Int,t= .tup [.int c,.int k]:=by
 unfold a8 at h
 split at h
 ·exact⟨_,_,rfl⟩
 ·cases h
theorem xj (cs:List T)(t:T)(hc:a6 (.tup cs)=true)(h:t.pl=true):bN [.tup cs,t] = .ok (.bl (cg cs t)):=by
 have w:aH [t,.int 4,.int 4] = .ok (.bl (c8 t 4 4)):=gS t 4 4 h
 cases q:c8 t 4 4 with
 | false=>
  rw[q]at w
  have:cg cs t=false:=by
   unfold cg;split
   ·cases q
   ·rfl
  simp[bN,val,bh,dD,aG,aI,ei,kn,dj,tb,sN,aL,cl,vr,cn,ae,ai,w,this]
 | true=>
  rw[q]at w;obtain⟨l,rfl,h1,h2⟩:=cE q
  match l,h1,h2 with
  | [a,b,x,y],_,_=>
   simp[T.pl,plS]at h;obtain⟨pa,pb,px,py⟩:=h
   have g0:bY (.tup [a,b,x,y]) (.int 0)= .ok a:=rfl
   have g1:bY (.tup [a,b,x,y]) (.int 1)= .ok b:=rfl
   have g2:bY (.tup [a,b,x,y]) (.int 2)= .ok x:=rfl
   have g3:bY (.tup [a,b,x,y]) (.int 3)= .ok y:=rfl
   have e1:=zF x y px py
   have e2:=oo cs a hc pa
   have e3:=oo cs b hc pb
   show _=Rs.ok (T.bl (eO x y&&(a8 cs a&&(a8 cs b&& !bP a b))))
   cases q1:eO x y with
   | false=>
    rw[q1]at e1
    simp[bN,val,bh,dD,aG,aI,ei,kn,dj,tb,sN,aL,cl,vr,cn,ae,ai,o2,w,g2,g3,e1]
   | true=>
    rw[q1]at e1
    cases q2:a8 cs a with
    | false=>
     rw[q2]at e2
     simp[bN,val,bh,dD,aG,aI,ei,kn,dj,tb,sN,aL,bL,cl,vr,cn,ae,ai,o2,w,g0,g2,g3,e1,e2]
    | true=>
     rw[q2]at e2
     cases q3:a8 cs b with
     | false=>
      rw[q3]at e3
      simp[bN,val,bh,dD,aG,aI,ei,kn,dj,tb,sN,aL,bL,cl,vr,cn,ae,ai,o2,w,g0,g1,g2,g3,e1,e2,e3]
     | true=>
      rw[q3]at e3;obtain⟨c,k,rfl⟩:=eE q2
      have f:fY (.tup [.int c,.int k]) b=true:=dM (by simp[T.dep,deps]) rfl (T.FY _ pb)
      have g4:neT (.tup [.int c,.int k]) b= .ok (.bl (!bP (.tup [.int c,.int k]) b)):=by unfold neT;rw[if_pos f]
      simp[bN,val,bh,dD,aG,aI,ei,kn,dj,tb,sN,aL,bL,cl,vr,cn,ae,ai,o2,w,g0,g1,g2,g3,g4,e1,e2,e3]
def ig (cs:List T)(t:T):Bool:=c8 t 0 8&&(match t with
 | .tup l=>l.all (cg cs)
 | _=>false)
theorem uh (cs:List T)(t:T)(hc:a6 (.tup cs)=true)(h:t.pl=true):cG [.tup cs,t] = .ok (.bl (ig cs t)):=by
 have w:aH [t,.int 0,.int 8] = .ok (.bl (c8 t 0 8)):=gS t 0 8 h;unfold ig
 cases q:c8 t 0 8 with
 | false=>rw[q]at w;simp[cG,val,bh,fE,aG,aL,bL,cl,vr,cn,ae,ai,w]
 | true=>
  rw[q]at w;obtain⟨l,rfl,h1,h2⟩:=cE q
  have hp:∀u∈l,u.pl=true:=λu hu=>jt (by unfold T.pl at h;exact h) hu
  have e:=i0 (fe:=cl bN (ae (vr 1) (ae (vr 0) ai))) (p:=cg cs) (src:=[none,some 0]) (fi:=iS (vr 1)) (ρ:=[.va (.tup cs),.va (.tup l)]) rfl (vq h2) (by decide) (λu hu=>by
   simp[cl,ae,ai,vr,cn,cj,xj cs u hc (hp u hu)])
  have w':cl aH (ae (vr 1) (ae (cn (.int 0)) (ae (cn (.int 8)) ai))) [.va (.tup cs),.va (.tup l)] = .ok (.bl true):=w;simp[cG,val,bh,fE,aG,aL,bL,e,w']
def gw (t:T):Bool:=match t with
 | .tup [.tup cs,ls] =>a6 (.tup cs)&&ig cs ls
 | _=>false
theorem pY (t:T)(h:t.pl=true):cU [t] = .ok (.bl (gw t)):=by
 have w:aH [t,.int 2,.int 2] = .ok (.bl (c8 t 2 2)):=gS t 2 2 h
 cases q:c8 t 2 2 with
 | false=>
  rw[q]at w
  have:gw t=false:=by
   unfold gw;split
   ·cases q
   ·rfl
  simp[cU,val,bh,fv,aG,aL,bL,cl,vr,cn,ae,ai,w,this]
 | true=>
  rw[q]at w;obtain⟨l,rfl,h1,h2⟩:=cE q
  match l,h1,h2 with
  | [x,y],_,_=>
   simp[T.pl,plS]at h;obtain⟨px,py⟩:=h
   have g0:bY (.tup [x,y]) (.int 0)= .ok x:=rfl
   have g1:bY (.tup [x,y]) (.int 1)= .ok y:=rfl
   have e1:=xm x px
   cases q1:a6 x with
   | false=>
    rw[q1]at e1
    have:gw (.tup [x,y])=false:=by
     cases x with
     | tup cs=>show(a6 (.tup cs)&&_)=false;rw[q1];rfl
     | _=>rfl
    simp[cU,val,bh,fv,aG,aL,bL,cl,vr,cn,ae,ai,o2,w,g0,e1,this]
   | true=>
    rw[q1]at e1
    cases x with
    | tup cs=>
     have e2:=uh cs y q1 py
     have:gw (.tup [.tup cs,y])=ig cs y:=by show(a6 (.tup cs)&&_)=_;rw[q1];rfl
     simp[cU,val,bh,fv,aG,aL,bL,cl,vr,cn,ae,ai,o2,w,g0,g1,e1,e2,this]
    | _=>cases q1
theorem ne_int (a b:Int):neT (.int a) (.int b)= .ok (.bl (!(a == b))):=by
 unfold neT;rw[if_pos (dM (by simp[T.dep]) rfl rfl)]
 rfl
theorem eV:∀m:List Int,deps (m.map .int)=0
 | [] =>rfl
 | a::m=>by rw[G9,deps,eV m];rfl
def fP (i n:Nat):List T:=(rng 0 n).map λt=>T.tup [.int i,t]
def qG:T->Nat
 | .tup [_,_,.tup r] =>r.length
 | _=>0
def di:Nat->List T->List T
 | _,[] => []
 | i,c::r=>fP i (qG c)++di (i+1) r
theorem dC {t:T}(h:bx t=true):∃x y r,t= .tup [x,y,.tup r]/\1<=r.length/\r.length<=4:=by
 obtain⟨x,y,r,rfl⟩:=kl h
 have:cQ (.tup r)=true:=by
  have h':(l9 x y&&cQ (.tup r))=true:=h;rw[G6]at h';exact h'.2
 unfold cQ at this;rw[G6]at this;obtain⟨l,e,h1,h2⟩:=cE this.1;cases e;exact⟨x,y,r,rfl,h1,h2⟩
theorem fk (i n:Nat):(fP i n).length=n:=by unfold fP;rw[G3,hV]
abbrev evF:En->Rs Fl:=c6 (o2 aB (vr 1) (fz (iR (ae (cl cF (ae (o2 bY (vr 3) (cn (.int 2))) ai)) ai)) [none,some 2] (gN 0) bT (br (ae (vr 1) (ae (vr 0) ai))))) (gN 1)
abbrev evG:T->En->Rs En:=gT 2 (kx (gN 2) (kx (gN 3) ug))
theorem Ct {f:En->Rs (List T)}{ρ:En}{j:Int}(h:f ρ= .ok [.int j])(h0:0<=j)(h1:j<=100000):iR f ρ= .ok (rng 0 j):=by
 have e:xV j=true:=by unfold xV;rw[G6];exact⟨decide_eq_true (by omega),decide_eq_true (by omega)⟩
 unfold iR;rw[h]
 show(if xV j=true then _ else _)=_
 rw[e];rfl
theorem sX (l m:List T)(h:(l++m).length<=1000):aB (.lst l) (.lst m)= .ok (.lst (l++m)):=by
 show kd (l++m)=_
 unfold kd;rw[if_pos (bK h)]
theorem gb (l m:List T)(h:(l++m).length<=1000):aB (.tup l) (.tup m)= .ok (.tup (l++m)):=by
 show e9 (l++m)=_
 unfold e9;rw[if_pos (bK h)]
theorem EW (c0 acc x y:T)(r:List T)(i:Nat)(h:r.length<=4) :
  fz (iR (ae (cl cF (ae (o2 bY (vr 3) (cn (.int 2))) ai)) ai)) [none,some 2] (gN 0) bT (br (ae (vr 1) (ae (vr 0) ai))) [.va c0,.va acc,.va (.int i),.va (.tup [x,y,.tup r])] = .ok (.lst (fP i r.length)):=
 qW (Ct (j:=(r.length:Int)) rfl (by omega) (by omega)) (bK (k:=4) (by rw[hV];exact h)) (by simp) λt _=>mk2 _ _
theorem zB (c0 x y:T)(acc r:List T)(i:Nat)(h:r.length<=4)(ha:acc.length<=100):evF [.va c0,.va (.lst acc),.va (.int i),.va (.tup [x,y,.tup r])] = .ok (.nx [.va c0,.va (.lst (acc++fP i r.length)),.va (.int i),.va (.tup [x,y,.tup r])]):=
 bX (aM (t:=.lst acc) rfl (EW c0 (.lst acc) x y r i h) (sX _ _ (by rw[GY,fk];omega))) rfl
theorem sH:∀(cs:List T) (c0:T) (acc:List T) (i:Nat) (s2 s3:Sl),(∀c∈cs,bx c=true)->acc.length+4*cs.length<=100 →
  ∃y2 y3,bF evG evF (de i cs) [.va c0,.va (.lst acc),s2,s3] = .ok (.nx [.va c0,.va (.lst (acc++di i cs)),y2,y3])
 | [],c0,acc,i,s2,s3,_,_=>⟨s2,s3,by simp[de,bF,di]⟩
 | c::cs,c0,acc,i,s2,s3,hc,hl=>by
  obtain⟨x,y,r,rfl,r1,r2⟩:=dC (hc c G7);rw[G4]at hl;obtain⟨z2,z3,ih⟩:=sH cs c0 (acc++fP i r.length) (i+1) (.va (.int i)) (.va (.tup [x,y,.tup r])) (λc h=>hc c (G5 _ h)) (by rw[GY,fk];omega)
  refine⟨z2,z3,?_⟩
  rw[de,fh (ρ1:=[.va c0,.va (.lst acc),.va (.int i),.va (.tup [x,y,.tup r])]) rfl (zB c0 x y acc r i r2 (by omega)),ih,di,Hs]
  rfl
theorem aS {cs:List T}(hc:a6 (.tup cs)=true):(∀c∈cs,bx c=true)/\1<=cs.length/\cs.length<=4:=by
 unfold a6 at hc;rw[G6]at hc;obtain⟨l,e,h1,h2⟩:=cE hc.1;cases e;exact⟨λc h=>HC.mp hc.2 c h,h1,h2⟩
theorem lG (cs:List T)(hc:a6 (.tup cs)=true):bw [.tup cs] = .ok (.lst (di 0 cs)):=by
 obtain⟨ha,h1,h2⟩:=aS hc;obtain⟨y2,y3,e⟩:=sH cs (.tup cs) [] 0 .em .em ha (by simp;omega)
 rw[Jy]at e;refine ck rfl ?_
 unfold iH;rw[aJ (ρ':=[.va (.tup cs),.va (.lst []),.em,.em]) rfl,aJ ((iF (ts:=de 0 cs) rfl e))]
 rfl
theorem ze {n k:Nat}(h:k<n):T.int (k:Int)∈rng 0 (n:Int):=by
 unfold rng;exact Hb.mpr ⟨k,IP.mpr (by omega),by simp⟩
theorem mI (cs:List T)(c:Nat):reads cs (c:Int)=qG (cs.getD c .non):=by
 unfold reads;rw[if_pos (by omega),HV,HE]
 cases cs[c]? with
 | none=>rfl
 | some t=>
  cases t with
  | tup l=>
   match l with
   | [] =>rfl
   | [_] =>rfl
   | [_,_] =>rfl
   | [_,_,z] =>cases z <;> rfl
   | _::_::z::_::_=>cases z <;> rfl
  | _=>rfl
mutual
def sm (n:Nat):T->Bool
 | .dct _ _=>false
 | .ob _ _ _=>false
 | .scr _=>false
 | .tup l=>decide (l.length<=n)&&sms n l
 | .lst l=>decide (l.length<=n)&&sms n l
 | _=>true
def sms (n:Nat):List T->Bool
 | [] =>true
 | t::l=>sm n t&&sms n l
end
mutual
theorem Av {n:Nat}:∀(t:T),sm n t=true->t.pl=true
 | .scr _,h=>by simp[sm]at h
 | .dct _ _,h=>by simp[sm]at h
 | .ob _ _ _,h=>by simp[sm]at h
 | .tup l,h=>by rw[sm,G6]at h;rw[T.pl];exact sms_pl l h.2
 | .lst l,h=>by rw[sm,G6]at h;rw[T.pl];exact sms_pl l h.2
 | .non,_=>by simp[T.pl]
 | .bl _,_=>by simp[T.pl]
 | .int _,_=>by simp[T.pl]
 | .str _,_=>by simp[T.pl]
theorem sms_pl {n:Nat}:∀(l:List T),sms n l=true->plS l=true
 | [],_=>by simp[plS]
 | t::l,h=>by rw[sms,G6]at h;rw[plS,Av t h.1,sms_pl l h.2];rfl
end
theorem rM {n:Nat}:∀{l:List T},sms n l=true↔ ∀t∈l,sm n t=true
 | [] =>by simp[sms]
 | t::l=>by rw[sms,G6,rM (l:=l)];simp
theorem sm_tup {n:Nat}{l:List T}:sm n (.tup l)=true↔l.length<=n/\∀t∈l,sm n t=true:=by rw[sm,G6,rM,decide_eq_true_iff]
theorem iQ {i j:Int}(h:0<j):jA (.int i) (.int j)= .ok (.int (i % j)):=by show(if _ then _ else _)=_;rw[if_pos h]
theorem kG {i j:Int}(h:0<j)(h2:j<1073741824):jF (.int i) (.int j)= .ok (.int (i / j)):=by show(if _ then _ else _)=_;rw[if_pos ⟨h,h2⟩]
theorem kc {i j:Int}(h : -18446744073709551616<i)(h2:i<18446744073709551616):cb (.int i) (.int j)= .ok (.int (i*j)):=by
 show qO (.int i) (.int j)=_
 show(if _ then _ else _)=_
 rw[if_pos (.inl ⟨by omega,by omega⟩)]
theorem Er {i j:Int}(h : -18446744073709551616<j)(h2:j<18446744073709551616):cb (.int i) (.int j)= .ok (.int (i*j)):=by
 show qO (.int i) (.int j)=_
 show(if _ then _ else _)=_
 rw[if_pos (.inr ⟨by omega,by omega⟩)]
theorem CF (ns:List Int)(k:Nat)(hn:ns.length<=63):∃c,eC [.scr ns,.int k] = .ok (.int c):=by
 have e0:o2 eqT (vr 0) (gU ai) [.va (.scr ns),.va (.int k)] = .ok (.bl (iG ns [])):=by
  refine aM (t:=.scr ns) (u:=.lst []) rfl (lA (ts:=[]) rfl (bK (k:=0) (He _))) ?_
  unfold eqT;rw[if_pos (dM (by simp[T.dep]) rfl rfl)]
  rfl
 cases ns with
 | nil=>
  refine⟨7*k,ck rfl ?_⟩
  unfold g7
  refine wL ((kh (cK e0)).trans (dA (aM (t:=.int 7) (u:=.int k) rfl rfl (kc (by omega) (by omega)))))
 | cons a r=>
  have hl:(0:Int)<((a::r).length:Nat):=by simp only[G4];omega
  have hl2:(((a::r).length:Nat):Int)<1073741824:=by simp only[G4]at hn ⊢;omega
  have hi:k % (a::r).length<(a::r).length:=Nat.mod_lt _ (by simp)
  have g0:o2 jA (vr 1) (cl cF (ae (vr 0) ai)) [.va (.scr (a::r)),.va (.int k)] = .ok (.int ((k % (a::r).length:Nat):Int)):=by
   refine aM (t:=.int k) (u:=.int ((a::r).length:Nat)) rfl ?_ (by rw[iQ hl];rfl)
   refine aP (ts:=[.scr (a::r)]) rfl ?_
   show Rs.ok (T.int (((a::r).map T.int).length:Nat))=_
   rw[G3]
  have g1:bY (.scr (a::r)) (.int ((k % (a::r).length:Nat):Int))= .ok (.int (a::r)[k % (a::r).length]):=by
   have e:((a::r).map T.int)[k % (a::r).length]? =some (.int (a::r)[k % (a::r).length]):=by rw[HN,Hv hi];rfl
   show(match L2.atI ((a::r).map T.int) ((k % (a::r).length:Nat):Int)with | some t=>Rs.ok t | none=> .bad)=_
   rw[iZ e]
  have g2:o2 jF (vr 1) (cl cF (ae (vr 0) ai)) [.va (.scr (a::r)),.va (.int k)] = .ok (.int ((k:Int) / ((a::r).length:Nat))):=by
   refine aM (t:=.int k) (u:=.int ((a::r).length:Nat)) rfl ?_ (kG hl hl2)
   refine aP (ts:=[.scr (a::r)]) rfl ?_
   show Rs.ok (T.int (((a::r).map T.int).length:Nat))=_
   rw[G3]
  refine⟨(a::r)[k % (a::r).length] +6553*((k:Int) / ((a::r).length:Nat)),ck rfl ?_⟩
  unfold g7
  show aI _ _ [.va (.scr (a::r)),.va (.int k)] =_
  refine(aJ (ρ':=[.va (.scr (a::r)),.va (.int k)]) ((dP (cK e0)).trans rfl)).trans ?_
  exact dA (aM (aM (t:=.scr (a::r)) rfl g0 g1) (aM (t:=.int 6553) rfl g2 (kc (by omega) (by omega))) rfl)
theorem bV (ns:List Int)(k:Nat)(m:Int)(hn:ns.length<=63)(hm:0<m):∃r,aw [.scr ns,.int k,.int m] = .ok (.int r)/\0<=r/\r<m:=by
 obtain⟨c,hc⟩:=CF ns k hn
 have b1:∀x:Int,0<=x % 2147483563/\x % 2147483563<2147483563:=λx=>⟨ML _ (by omega),LC _ (by omega)⟩
 have b2:∀x:Int,0<=x % 2147483399/\x % 2147483399<2147483399:=λx=>⟨ML _ (by omega),LC _ (by omega)⟩
 generalize hx:(c % 2147483563*69069+104723*((k:Int)+1)) % 2147483563=x
 have hx':=b1 (c % 2147483563*69069+104723*((k:Int)+1));rw[hx]at hx'
 generalize hy:(x*x+x / 3) % 2147483399=y
 have hy':=b2 (x*x+x / 3);rw[hy]at hy';refine⟨(y*y+y / 7) % 2147483647 / 11 % m,ck rfl ?_,ML _ (by omega),LC _ hm⟩
 show gn [.va (.scr ns),.va (.int k),.va (.int m),.em] =_
 unfold gn
 have s1:c6 (o2 jA (o2 aB (o2 cb (o2 jA (cl eC (ae (vr 0) (ae (vr 1) ai))) (cn (.int 2147483563))) (cn (.int 69069))) (o2 cb (cn (.int 104723)) (o2 aB (vr 1) (cn (.int 1))))) (cn (.int 2147483563))) (gN 3) [.va (.scr ns),.va (.int k),.va (.int m),.em] = .ok (.nx [.va (.scr ns),.va (.int k),.va (.int m),.va (.int x)]):=by
  refine bX (t:=.int x) (aM (u:=.int 2147483563) (aM (aM (u:=.int 69069) (aM (u:=.int 2147483563) (aP (ts:=[.scr ns,.int k]) rfl hc) rfl (iQ (by omega))) rfl (Er (by omega) (by omega))) (aM (t:=.int 104723) (u:=.int ((k:Int)+1)) rfl rfl (kc (by omega) (by omega))) rfl) rfl ?_) rfl
  rw[iQ (by omega),hx]
 have s2:c6 (o2 jA (o2 aB (o2 cb (vr 3) (vr 3)) (o2 jF (vr 3) (cn (.int 3)))) (cn (.int 2147483399))) (gN 3) [.va (.scr ns),.va (.int k),.va (.int m),.va (.int x)] = .ok (.nx [.va (.scr ns),.va (.int k),.va (.int m),.va (.int y)]):=by
  refine bX (t:=.int y) (aM (u:=.int 2147483399) (aM (aM (t:=.int x) (u:=.int x) rfl rfl (kc (by omega) (by omega))) (aM (t:=.int x) (u:=.int 3) rfl rfl (kG (by omega) (by omega))) rfl) rfl ?_) rfl
  rw[iQ (by omega),hy]
 rw[aJ s1,aJ s2];exact dA (aM (u:=.int m) (aM (u:=.int 11) (aM (u:=.int 2147483647) (aM (aM (t:=.int y) (u:=.int y) rfl rfl (kc (by omega) (by omega))) (aM (t:=.int y) (u:=.int 7) rfl rfl (kG (by omega) (by omega))) rfl) rfl (iQ (by omega))) rfl (kG (by omega) (by omega))) rfl (iQ hm))
theorem bS {ns:List Int}{k:Nat}{m r:Int}{f g h:En->Rs T}{ρ:En}(e:aw [.scr ns,.int k,.int m] = .ok (.int r))(h1:f ρ= .ok (.scr ns))(h2:g ρ= .ok (.int k))(h3:h ρ= .ok (.int m)) :
  cl aw (ae f (ae g (ae h ai))) ρ= .ok (.int r):=aP (aj h1 (aj h2 (aj h3 rfl))) e
theorem pj:∀(l:List Int) (z y:Int),lY (l++ [z])=true->z<y->lY (l++ [z] ++ [y])=true
 | [],z,y,_,h=>by simp[lY,h]
 | [a],z,y,h,hy=>by
  simp[lY]at h ⊢
  omega
 | a::b::l,z,y,h,hy=>by
  have h':lY (a::b::(l++ [z]))=true:=h;rw[DC,G6]at h'
  have ih:=pj (b::l) z y h'.2 hy
  show lY (a::b::(l++ [z] ++ [y]))=true
  rw[DC,h'.1];exact ih
theorem lq:∀l:List Int,jw (l.map .int)=some l
 | [] =>rfl
 | a::l=>by rw[G9,jw,lq l]
def RdOk (l:List Int):Prop:=∃(l':List Int) (z:Int),l=l'++ [z]/\lY l=true/\(∀x∈l,0<=x/\x<=5*l.length)/\z<=5*l.length
abbrev clF:En->Rs Fl:=c6 (o2 aB (vr 3) (br (ae (o2 aB (o2 aB (o2 bY (vr 3) (o1 gz (cn (.int 1)))) (cn (.int 1))) (cl aw (ae (vr 0) (ae (o2 aB (o2 aB (vr 1) (cn (.int 3))) (vr 4)) (ae (cn (.int 5)) ai))))) ai))) (gN 3)
theorem zm (l:List T)(z:T):bY (.tup (l++ [z])) (.int (-1))= .ok z:=by
 have e:L2.atI (l++ [z]) (-1)=some z:=by
  unfold L2.atI L2.ixN;simp;rw[if_pos (by omega)]
  have q:(-1+((l.length:Int)+1)).toNat=l.length:=by omega
  show(l++ [z])[(-1+((l.length:Int)+1)).toNat]? =some z
  rw[q];simp
 show(match L2.atI (l++ [z]) (-1)with | some t=>Rs.ok t | none=> .bad)=_
 rw[e]
theorem z7 (ns:List Int)(hn:ns.length<=63)(a j:Nat)(s:T)(l:List Int)(h:RdOk l)(hl:l.length<=3):∃l2,clF [.va (.scr ns),.va (.int a),.va s,.va (.tup (l.map .int)),.va (.int j)] = .ok (.nx [.va (.scr ns),.va (.int a),.va s,.va (.tup (l2.map .int)),.va (.int j)])/\RdOk l2/\l2.length=l.length+1:=by
 obtain⟨l',z,rfl,h1,h2,h3⟩:=h;obtain⟨d,ed,d0,d1⟩:=bV ns (a+3+j) 5 hn (by omega)
 refine⟨l'++ [z] ++ [z+1+d],?_,⟨l'++ [z],z+1+d,rfl,pj l' z _ h1 (by omega),?_,?_⟩,by simp⟩
 ·refine bX (t:=.tup ((l'++ [z] ++ [z+1+d]).map .int)) (aM (t:=.tup ((l'++ [z]).map .int)) (u:=.tup [.int (z+1+d)]) rfl (cf (ts:=[.int (z+1+d)]) (aj (aM (t:=.int (z+1)) (u:=.int d) (aM (t:=.int z) (u:=.int 1) (aM (t:=.tup ((l'++ [z]).map .int)) (u:=.int (-1)) rfl rfl ?_) rfl rfl) (bS (k:=a+3+j) ed rfl ?_ rfl) rfl) rfl) (bK (k:=1) (by simp))) ?_) rfl
  ·rw[IJ];exact zm _ _
  ·refine aM (t:=.int ((a:Int)+3)) (u:=.int j) (aM (t:=.int a) (u:=.int 3) rfl rfl rfl) rfl ?_
   show Rs.ok (T.int ((a:Int)+3+j))=_
   congr 2
  ·rw[IJ (l₁:=l'++ [z])]
   exact gb _ _ (by rw[GY,G3];simp at hl ⊢;omega)
 ·intro x hx
  rcases G8.mp hx with hx | hx
  ·have:=h2 x hx
   simp only[GY,Ik]at this ⊢;omega
  ·rw[Ht]at hx
   subst hx
   have hz:=h2 z (by simp)
   simp only[GY,Ik]at h3 ⊢;omega
 ·simp only[GY,Ik]at h3 ⊢
  omega
theorem sS (ns:List Int)(hn:ns.length<=63)(a:Nat)(s:T):∀(js:List Nat) (l:List Int) (s4:Sl),RdOk l->l.length+js.length<=4->∃l2 s5,bF (gN 4) clF (js.map λ(j:Nat)=>T.int j) [.va (.scr ns),.va (.int a),.va s,.va (.tup (l.map .int)),s4] = .ok (.nx [.va (.scr ns),.va (.int a),.va s,.va (.tup (l2.map .int)),s5])/\RdOk l2/\l2.length=l.length+js.length
 | [],l,s4,h,_=>⟨l,s4,rfl,h,rfl⟩
 | j::js,l,s4,h,hl=>by
  rw[G4]at hl;obtain⟨l2,e2,h2,n2⟩:=z7 ns hn a j s l h (by omega)
  obtain⟨l3,s5,e3,h3,n3⟩:=sS ns hn a s js l2 (.va (.int j)) h2 (by omega)
  refine⟨l3,s5,?_,h3,by rw[n3,n2,G4];omega⟩
  rw[G9,fh (ρ1:=[.va (.scr ns),.va (.int a),.va s,.va (.tup (l.map .int)),.va (.int j)]) rfl e2];exact e3
theorem jr (n:Nat):rng 0 (n:Int)=(Io n).map λ(j:Nat)=>T.int j:=by
 unfold rng;simp
theorem RdOk.reads {l:List Int}(h:RdOk l)(hl:l.length<=4):cQ (.tup (l.map .int))=true:=by
 obtain⟨l',z,rfl,h1,h2,h3⟩:=h;unfold cQ;rw[G6];refine⟨?_,?_⟩
 ·simp[c8];simp at hl;omega
 ·show(((l'++ [z]).map T.int).all (λu=>within u 0 99)&&(match jw ((l'++ [z]).map T.int)with | some m=>lY m | none=>false))=true
  rw[lq]
  show(_&&lY (l'++ [z]))=true
  rw[h1,ND,HC];intro t ht;obtain⟨x,hx,rfl⟩:=Hb.mp ht
  have:=h2 x hx;simp only[within,G6,decide_eq_true_eq];omega
theorem yi (n:Nat)(l:List Int)(h:l.length<=n):sm n (.tup (l.map .int))=true:=sm_tup.mpr ⟨by rw[G3];exact h,λt ht=>by obtain⟨x,_,rfl⟩:=Hb.mp ht;simp[sm]⟩
def Dc (c:T):Prop:=∃(x y:Int) (l:List Int),c= .tup [.int x,.int y,.tup (l.map .int)]/\RdOk l/\l.length<=3
theorem xk (ns:List Int)(hn:ns.length<=63)(a:Nat):∃c,bQ [.scr ns,.int a] = .ok c/\bx c=true/\sm 8 c=true/\Dc c:=by
 obtain⟨d1,e1,p1,q1⟩:=bV ns a 3 hn (by omega)
 obtain⟨d2,e2,p2,q2⟩:=bV ns (a+2) 6 hn (by omega)
 obtain⟨d3,e3,p3,q3⟩:=bV ns (a+1) 3 hn (by omega)
 obtain⟨d4,e4,p4,q4⟩:=bV ns (a+6) 3 hn (by omega)
 obtain⟨n3,rfl⟩:=HM p3;obtain⟨l,s5,el,hl,nl⟩:=sS ns hn a (.int (1+d1)) (Io n3) [d2] .em ⟨[],d2,rfl,rfl,λx hx=>by rw[Ht]at hx;subst hx;simp;omega,by simp;omega⟩ (by simp;omega)
 have nl':l.length<=4:=by rw[nl];simp;omega
 have hr:=hl.reads nl';refine⟨.tup [.int (1+d1),.int (1+d1+d4),.tup (l.map .int)],ck rfl ?_,?_,?_,⟨_,_,l,rfl,hl,by rw[nl];simp;omega⟩⟩
 ·show gp [.va (.scr ns),.va (.int a),.em,.em,.em] =_
  unfold gp;rw[aJ (ρ':=[.va (.scr ns),.va (.int a),.va (.int (1+d1)),.em,.em]) (bX (t:=.int (1+d1)) (aM (t:=.int 1) rfl (bS e1 rfl rfl rfl) rfl) rfl)];rw[aJ (ρ':=[.va (.scr ns),.va (.int a),.va (.int (1+d1)),.va (.tup ([d2].map .int)),.em]) (bX (t:=.tup [.int d2]) (cf (ts:=[.int d2]) (aj (bS (k:=a+2) e2 rfl rfl rfl) rfl) (bK (k:=1) (by simp))) rfl)]
  rw[aJ ((iF (Ct (aj (bS (k:=a+1) e3 rfl rfl rfl) rfl) (by omega) (by omega)) (by rw[jr];exact el)))]
  exact dA (cf (aj (t:=.int (1+d1)) rfl (aj (aM (t:=.int (1+d1)) rfl (bS (k:=a+6) e4 rfl rfl rfl) rfl) (aj (t:=.tup (l.map .int)) rfl rfl))) (bK (k:=3) (by simp)))
 ·show(true&&(l9 (.int (1+d1)) (.int (1+d1+d4))&&cQ _))=true
  rw[hr];simp only[l9,within,Lc,ND,G6,decide_eq_true_eq];omega
 ·refine sm_tup.mpr ⟨by simp,λt ht=> ?_⟩
  rcases Hd.mp ht with rfl | ht
  ·simp[sm]
  ·rcases Hd.mp ht with rfl | ht
   ·simp[sm]
   ·rw[Ht]at ht;subst ht;exact yi 8 l (by omega)
theorem ft {y:T}:∀(cs:List T) (i:Nat),y∈di i cs->∃c k:Nat,y= .tup [.int c,.int k]/\i<=c/\c<i+cs.length/\k<qG (cs.getD (c - i) .non)
 | [],i,h=>by cases h
 | x::cs,i,h=>by
  rw[di]at h;rcases G8.mp h with h | h
  ·unfold fP at h
   obtain⟨t,ht,rfl⟩:=Hb.mp h;obtain⟨j,rfl,hj⟩:=kD ht;refine⟨i,j,rfl,He _,by rw[G4];omega,?_⟩
   rw[LD]
   show j<qG x
   omega
  ·obtain⟨c,k,e,h1,h2,h3⟩:=ft cs (i+1) h
   refine⟨c,k,e,by omega,by rw[G4];omega,?_⟩
   have:c - i=(c - (i+1))+1:=by omega
   rw[this];exact h3
theorem xg {cs:List T}{y:T}(h:y∈di 0 cs):a8 cs y=true:=by
 obtain⟨c,k,rfl,_,h2,h3⟩:=ft cs 0 h
 show(decide ((0:Int)<=(c:Int))&&decide ((c:Int)<(cs.length:Int))&&(decide ((0:Int)<=(k:Int))&&decide ((k:Int)<(reads cs (c:Int):Int))))=true
 rw[Kc]at h3;rw[mI];simp only[G6,decide_eq_true_eq];omega
theorem jO:∀(cs:List T) (i:Nat),(di i cs).Nodup
 | [],i=>LN
 | x::cs,i=>by
  rw[di,L1];refine⟨?_,jO cs (i+1),?_⟩
  ·unfold fP rng
   rw[Hu];rw[Lw,List.pairwise_map];refine List.nodup_range.imp ?_
   intro a b hab e
   simp at e
   exact hab (by omega)
  ·intro a ha b hb e
   subst e;unfold fP at ha;obtain⟨t,ht,rfl⟩:=Hb.mp ha;obtain⟨c,k,e,h1,_,_⟩:=ft cs (i+1) hb
   simp at e
   omega
theorem wo {l:List T}(h:l.Nodup){i j:Nat}(hi:i<l.length)(hj:j<l.length)(hij:i≠j):l[i] ≠l[j]:=by
 rw[Lw,List.pairwise_iff_getElem]at h;rcases Nat.lt_or_ge i j with q | q
 ·exact h i j hi hj q
 ·exact λe=>h j i hj hi (by omega) e.symm
theorem om:∀(cs:List T) (i:Nat),(∀c∈cs,bx c=true)->(di i cs).length<=4*cs.length
 | [],i,_=>He _
 | x::cs,i,h=>by
  obtain⟨a,b,r,rfl,_,h2⟩:=dC (h x G7)
  have:=om cs (i+1) λc hc=>h c (G5 _ hc)
  rw[di,GY,fk,G4]
  show r.length+_<=_
  omega
theorem xf {cs:List T}{a b:T}(ha:a8 cs a=true)(hb:a8 cs b=true)(h:a≠b):bP a b=false:=by
 obtain⟨c,k,rfl⟩:=eE ha;obtain⟨c',k',rfl⟩:=eE hb;rw[Bool.eq_false_iff];intro e;simp[bP,beqTs]at e;exact h (by rw[e.1,e.2])
theorem o8 {cs:List T}{a:T}(ha:a8 cs a=true):sm 8 a=true:=by
 obtain⟨c,k,rfl⟩:=eE ha;simp[sm,sms]
theorem wU {l:List T}{i:Nat}(h:i<l.length):bY (.lst l) (.int (i:Int))= .ok l[i]:=by
 show(match L2.atI l (i:Int)with | some t=>Rs.ok t | none=> .bad)=_
 rw[iZ (Hv h)]
theorem jU (a b:Int):eqT (.int a) (.int b)= .ok (.bl (a == b)):=by
 unfold eqT;rw[if_pos (dM (by simp[T.dep]) rfl rfl)]
 rfl
theorem ui (ns:List Int)(hn:ns.length<=63)(a:Nat)(cs:List T)(hc:a6 (.tup cs)=true):∃r,cI [.scr ns,.int a,.tup cs] = .ok r/\(r= .non\/(cg cs r=true/\sm 8 r=true)):=by
 obtain⟨ha,h1,h4⟩:=aS hc
 have hlen:=om cs 0 ha
 have er:=lG cs hc
 have gl:∀s4 s5 s6 s7:Sl,cl cF (ae (vr 3) ai) [.va (.scr ns),.va (.int a),.va (.tup cs),.va (.lst (di 0 cs)),s4,s5,s6,s7] = .ok (.int ((di 0 cs).length:Nat)):=λ_ _ _ _=>rfl
 have s1:c6 (cl bw (ae (vr 2) ai)) (gN 3) [.va (.scr ns),.va (.int a),.va (.tup cs),.em,.em,.em,.em,.em] = .ok (.nx [.va (.scr ns),.va (.int a),.va (.tup cs),.va (.lst (di 0 cs)),.em,.em,.em,.em]):=bX (aP (ts:=[.tup cs]) rfl er) rfl
 have lt:o2 AD (cl cF (ae (vr 3) ai)) (cn (.int 2)) [.va (.scr ns),.va (.int a),.va (.tup cs),.va (.lst (di 0 cs)),.em,.em,.em,.em] = .ok (.bl (decide (((di 0 cs).length:Int)<2))):=aM (t:=.int ((di 0 cs).length:Nat)) (u:=.int 2) (gl _ _ _ _) rfl rfl
 by_cases hs:(di 0 cs).length<2
 ·refine⟨.non,ck rfl ?_,.inl rfl⟩
  show dt [.va (.scr ns),.va (.int a),.va (.tup cs),.em,.em,.em,.em,.em] =_
  unfold dt;rw[aJ s1];rw[decide_eq_true (by omega)]at lt
  exact wL ((kh (cK lt)).trans rfl)
 ·rw[decide_eq_false (by omega)]at lt
  generalize hN:(di 0 cs).length=n at*
  obtain⟨d1,e1,p1,q1⟩:=bV ns a (n:Int) hn (by omega)
  obtain⟨d2,e2,p2,q2⟩:=bV ns (a+1) ((n:Int) - 1) hn (by omega)
  obtain⟨d3,e3,p3,q3⟩:=bV ns (a+2) 8 hn (by omega)
  obtain⟨d4,e4,p4,q4⟩:=bV ns (a+3) 3 hn (by omega)
  obtain⟨d5,e5,p5,q5⟩:=bV ns (a+4) 9 hn (by omega)
  obtain⟨i,rfl⟩:=HM p1;obtain⟨d2,rfl⟩:=HM p2
  have hi:i<(di 0 cs).length:=by omega
  have hj:(i+1+d2) % n<(di 0 cs).length:=by rw[hN];exact Nat.mod_lt _ (by omega)
  have hij:i≠(i+1+d2) % n:=by
   rcases Nat.lt_or_ge (i+1+d2) n with q | q
   ·rw[OB q];omega
   ·have:(i+1+d2) % n=i+1+d2 - n:=by
     rw[Nat.mod_eq_sub_mod q,OB (by omega)]
    rw[this];omega
  have eA:=xg (Jp hi)
  have eB:=xg (Jp hj)
  have eN:(di 0 cs)[i] ≠(di 0 cs)[(i+1+d2) % n]:=wo (jO cs 0) hi hj hij
  generalize hA:(di 0 cs)[i] =A at*
  generalize hB:(di 0 cs)[(i+1+d2) % n] =B at*
  let y:T:=if d4 == 0 then .non else .int (d3+d5)
  refine⟨.tup [A,B,.int d3,y],ck rfl ?_,.inr ⟨?_,?_⟩⟩
  ·show dt [.va (.scr ns),.va (.int a),.va (.tup cs),.em,.em,.em,.em,.em] =_
   unfold dt;rw[aJ s1];rw[aJ (ρ':=[.va (.scr ns),.va (.int a),.va (.tup cs),.va (.lst (di 0 cs)),.em,.em,.em,.em]) ((dP (cK lt)).trans rfl)];rw[aJ (ρ':=[.va (.scr ns),.va (.int a),.va (.tup cs),.va (.lst (di 0 cs)),.va (.int (i:Nat)),.em,.em,.em]) (bX (bS e1 rfl rfl (gl _ _ _ _)) rfl)];rw[aJ (ρ':=[.va (.scr ns),.va (.int a),.va (.tup cs),.va (.lst (di 0 cs)),.va (.int (i:Nat)),.va (.int ((i+1+d2) % n:Nat)),.em,.em]) (bX (t:=.int ((i+1+d2) % n:Nat)) (aM (t:=.int ((i:Int)+1+d2)) (u:=.int n) (aM (t:=.int ((i:Int)+1)) (u:=.int d2) rfl (bS (k:=a+1) e2 rfl rfl (aM (t:=.int n) (u:=.int 1) (gl _ _ _ _) rfl rfl)) rfl) (gl _ _ _ _) (iQ (by omega))) rfl)]
   rw[aJ (ρ':=[.va (.scr ns),.va (.int a),.va (.tup cs),.va (.lst (di 0 cs)),.va (.int (i:Nat)),.va (.int ((i+1+d2) % n:Nat)),.va (.int d3),.em]) (bX (bS (k:=a+2) e3 rfl rfl rfl) rfl)]
   have ey:Cq (tb (o2 eqT (cl aw (ae (vr 0) (ae (o2 aB (vr 1) (cn (.int 3))) (ae (cn (.int 3)) ai)))) (cn (.int 0)))) (cn .non) (o2 aB (vr 6) (cl aw (ae (vr 0) (ae (o2 aB (vr 1) (cn (.int 4))) (ae (cn (.int 9)) ai))))) [.va (.scr ns),.va (.int a),.va (.tup cs),.va (.lst (di 0 cs)),.va (.int (i:Nat)),.va (.int ((i+1+d2) % n:Nat)),.va (.int d3),.em] = .ok y:=by
    rw[pP (cK (aM (u:=.int 0) (bS (k:=a+3) e4 rfl rfl rfl) rfl (jU _ _)))]
    show _=Rs.ok (if d4 == 0 then T.non else .int (d3+d5))
    cases d4 == 0 with
    | true=>rfl
    | false=>exact aM (t:=.int d3) rfl (bS (k:=a+4) e5 rfl rfl rfl) rfl
   rw[aJ (ρ':=[.va (.scr ns),.va (.int a),.va (.tup cs),.va (.lst (di 0 cs)),.va (.int (i:Nat)),.va (.int ((i+1+d2) % n:Nat)),.va (.int d3),.va y]) (bX ey rfl)];refine dA (cf (aj (t:=A) (aM (t:=.lst (di 0 cs)) (u:=.int (i:Nat)) rfl rfl ?_) (aj (t:=B) (aM (t:=.lst (di 0 cs)) (u:=.int ((i+1+d2) % n:Nat)) rfl rfl ?_) (aj (t:=.int d3) rfl (aj (t:=y) rfl rfl)))) (bK (k:=4) (by simp)))
   ·rw[<-hA];exact wU hi
   ·rw[<-hB];exact wU hj
  ·show(eO (.int d3) y&&(a8 cs A&&(a8 cs B&& !bP A B)))=true
   rw[eA,eB,xf eA eB eN]
   have:eO (.int d3) y=true:=by
    show(within (.int d3) 0 999&&(match(T.int d3),(if d4 == 0 then T.non else .int (d3+d5))with | _,.non=>true | .int i,_=>within (if d4 == 0 then T.non else .int (d3+d5)) i 999 | _,_=>false))=true
    cases d4 == 0 with
    | true=>simp[within];omega
    | false=>simp[within];omega
   rw[this];rfl
  ·refine sm_tup.mpr ⟨by simp,λt ht=> ?_⟩
   have hy:sm 8 y=true:=by show sm 8 (if d4 == 0 then T.non else .int (d3+d5))=true;cases d4 == 0 <;> simp[sm]
   simp only[Hd,Im,or_false]at ht;rcases ht with rfl | rfl | rfl | rfl
   ·exact o8 eA
   ·exact o8 eB
   ·simp[sm]
   ·exact hy
def okv:Rs T->T
 | .ok t=>t
 | _=> .non
theorem se (l:List T)(k:Int)(h : -(2 ^ 63)<=k/\k<2 ^ 63/\l.length*k.toNat<=sizeLine):cb (.lst l) (.int k)= .ok (.lst (Hy k.toNat l).flatten):=by
 show qO (.lst l) (.int k)=_
 unfold qO;exact if_pos h
theorem mul_one (x:T)(b:Bool):cb (.lst [x]) (.int (if b then 1 else 0))= .ok (.lst (if b then [x]else [])):=by
 cases b with
 | true=>exact se [x] 1 ⟨by decide,by decide,bK (k:=1) (by simp)⟩
 | false=>exact se [x] 0 ⟨by decide,by decide,bK (k:=1) (by simp)⟩
abbrev leF:En->Rs Fl:=aI (c6 (cl cI (ae (vr 0) (ae (o2 aB (o2 aB (vr 1) (cn (.int 31))) (o2 cb (cn (.int 6)) (vr 5))) (ae (vr 3) ai)))) (gN 6)) (c6 (o2 aB (vr 4) (o2 cb (gU (ae (vr 6) ai)) (cl pQ (ae (o2 pD (vr 6) (cn .non)) ai)))) (gN 4))
def uw (cs ls:List T):Prop:=∀t∈ls,cg cs t=true/\sm 8 t=true
theorem zg (ns:List Int)(hn:ns.length<=63)(a j:Nat)(m:T)(cs ls:List T)(hc:a6 (.tup cs)=true)(h:uw cs ls)(hl:ls.length<=100)(s6:Sl) :
  ∃ls2 s7,leF [.va (.scr ns),.va (.int a),.va m,.va (.tup cs),.va (.lst ls),.va (.int j),s6] = .ok (.nx [.va (.scr ns),.va (.int a),.va m,.va (.tup cs),.va (.lst ls2),.va (.int j),s7])/\uw cs ls2/\ls2.length<=ls.length+1:=by
 obtain⟨r,er,hr⟩:=ui ns hn (a+31+6*j) cs hc
 have e1:∀G,aI (c6 (cl cI (ae (vr 0) (ae (o2 aB (o2 aB (vr 1) (cn (.int 31))) (o2 cb (cn (.int 6)) (vr 5))) (ae (vr 3) ai)))) (gN 6)) G [.va (.scr ns),.va (.int a),.va m,.va (.tup cs),.va (.lst ls),.va (.int j),s6] =G [.va (.scr ns),.va (.int a),.va m,.va (.tup cs),.va (.lst ls),.va (.int j),.va r]:=λG=>by
  refine aJ (bX (t:=r) (aP (ts:=[.scr ns,.int (a+31+6*j:Nat),.tup cs]) (aj (t:=.scr ns) rfl (aj (t:=.int (a+31+6*j:Nat)) (aM (t:=.int ((a:Int)+31)) (u:=.int (6*(j:Int))) rfl (aM (t:=.int 6) (u:=.int j) rfl rfl (kc (by omega) (by omega))) rfl) (aj (t:=.tup cs) rfl rfl))) er) rfl)
 have e2:cl pQ (ae (o2 pD (vr 6) (cn .non)) ai) [.va (.scr ns),.va (.int a),.va m,.va (.tup cs),.va (.lst ls),.va (.int j),.va r] = .ok (.int (if !r.isN then 1 else 0)):=aP (ts:=[.bl (!r.isN)]) rfl rfl
 refine⟨ls++(if !r.isN then [r]else []),.va r,?_,?_,?_⟩
 ·refine(e1 _).trans (bX (aM (t:=.lst ls) (u:=.lst (if !r.isN then [r]else [])) rfl (aM (t:=.lst [r]) (lA (ts:=[r]) rfl (bK (k:=1) (by simp))) e2 (mul_one _ _)) (sX _ _ ?_)) rfl)
  rw[GY];cases r.isN <;> simp <;> omega
 ·intro t ht
  rcases G8.mp ht with ht | ht
  ·exact h t ht
  ·rcases hr with rfl | hr
   ·cases ht
   ·cases q:r.isN with
    | true=>rw[q]at ht;cases ht
    | false=>
     rw[q]at ht;rw[show t=r by simpa using ht]
     exact hr
 ·rw[GY]
  cases r.isN <;> simp
theorem sg (ns:List Int)(hn:ns.length<=63)(a:Nat)(m:T)(cs:List T)(hc:a6 (.tup cs)=true):∀(js:List Nat) (ls:List T) (s5 s6:Sl),uw cs ls->ls.length+js.length<=100 →
  ∃ls2 t5 t6,bF (gN 5) leF (js.map λ(j:Nat)=>T.int j) [.va (.scr ns),.va (.int a),.va m,.va (.tup cs),.va (.lst ls),s5,s6] = .ok (.nx [.va (.scr ns),.va (.int a),.va m,.va (.tup cs),.va (.lst ls2),t5,t6])/\uw cs ls2/\ls2.length<=ls.length+js.length
 | [],ls,s5,s6,h,_=>⟨ls,s5,s6,rfl,h,He _⟩
 | j::js,ls,s5,s6,h,hl=>by
  rw[G4]at hl;obtain⟨l2,s7,e2,h2,n2⟩:=zg ns hn a j m cs ls hc h (by omega) s6
  obtain⟨l3,t5,t6,e3,h3,n3⟩:=sg ns hn a m cs hc js l2 (.va (.int j)) s7 h2 (by omega)
  refine⟨l3,t5,t6,?_,h3,by rw[G4];omega⟩
  rw[G9,fh (ρ1:=[.va (.scr ns),.va (.int a),.va m,.va (.tup cs),.va (.lst ls),.va (.int j),s6]) rfl e2];exact e3
theorem CD (ns:List Int)(hn:ns.length<=63)(a m:Nat)(hm:m<=8):∃cs ls,dk [.scr ns,.int a,.int m] = .ok (RR cs ls)/\a6 (.tup cs)=true/\cs.length<=3/\(∀c∈cs,sm 8 c=true)/\uw cs ls/\ls.length<=m/\∀c∈cs,Dc c:=by
 obtain⟨d1,e1,p1,q1⟩:=bV ns a 3 hn (by omega)
 obtain⟨d2,e2,p2,q2⟩:=bV ns (a+30) ((m:Int)+1) hn (by omega)
 obtain⟨d1,rfl⟩:=HM p1;obtain⟨d2,rfl⟩:=HM p2
 let hcl:T->T:=λt=>match t with
  | .int k=>okv (bQ [.scr ns,.int ((a:Int)+1+8*k)])
  | _=> .non
 have hh:∀t∈rng 0 ((1+d1:Nat):Int),∃k:Nat,t= .int k/\bQ [.scr ns,.int ((a+1+8*k:Nat):Int)] = .ok (hcl t)/\bx (hcl t)=true/\sm 8 (hcl t)=true/\Dc (hcl t):=λt ht=>by
  obtain⟨k,rfl,_⟩:=kD ht;obtain⟨c,ec,h1,h2,h3⟩:=xk ns hn (a+1+8*k)
  have e:hcl (.int k)=c:=by
   show okv (bQ [.scr ns,.int ((a+1+8*k:Nat):Int)])=c
   rw[ec];rfl
  exact⟨k,rfl,by rw[e];exact ec,by rw[e];exact h1,by rw[e];exact h2,by rw[e];exact h3⟩
 generalize hcs:(rng 0 ((1+d1:Nat):Int)).map hcl=cs
 have lc:cs.length=1+d1:=by rw[<-hcs,G3,hV]
 have hc:a6 (.tup cs)=true:=by
  show(c8 (.tup cs) 1 4&&cs.all bx)=true
  rw[G6,HC];refine⟨by simp[c8];omega,λc h=> ?_⟩
  rw[<-hcs]at h;obtain⟨t,ht,rfl⟩:=Hb.mp h;obtain⟨_,_,_,h1,_⟩:=hh t ht;exact h1
 have hsm:∀c∈cs,sm 8 c=true:=λc h=>by
  rw[<-hcs]at h;obtain⟨t,ht,rfl⟩:=Hb.mp h;obtain⟨_,_,_,_,h1,_⟩:=hh t ht;exact h1
 obtain⟨ls,t5,t6,el,hl,nl⟩:=sg ns hn a (.int m) cs hc (Io d2) [] .em .em (λt h=>by cases h) (by simp;omega)
 refine⟨cs,ls,ck rfl ?_,hc,by omega,hsm,hl,by simp at nl;omega,λc h=>by
  rw[<-hcs]at h;obtain⟨t,ht,rfl⟩:=Hb.mp h;obtain⟨_,_,_,_,_,h1⟩:=hh t ht;exact h1⟩
 show fG [.va (.scr ns),.va (.int a),.va (.int m),.em,.em,.em,.em] =_
 unfold fG
 have s1:c6 (cl jK (ae (fz (iR (ae (o2 aB (cn (.int 1)) (cl aw (ae (vr 0) (ae (vr 1) (ae (cn (.int 3)) ai))))) ai)) [none,some 0,some 1] (gN 0) bT (cl bQ (ae (vr 1) (ae (o2 aB (o2 aB (vr 2) (cn (.int 1))) (o2 cb (cn (.int 8)) (vr 0))) ai)))) ai)) (gN 3) [.va (.scr ns),.va (.int a),.va (.int m),.em,.em,.em,.em] = .ok (.nx [.va (.scr ns),.va (.int a),.va (.int m),.va (.tup cs),.em,.em,.em]):=by
  refine bX (t:=.tup cs) (aP (ts:=[.lst cs]) (aj (t:=.lst cs) ?_ rfl) rfl) rfl
  rw[<-hcs];refine qW (ts:=rng 0 ((1+d1:Nat):Int)) (h:=hcl) (Ct (aj (t:=.int ((1+d1:Nat):Int)) (aM (t:=.int 1) (u:=.int d1) rfl (bS e1 rfl rfl rfl) rfl) rfl) (by omega) (by omega)) (bK (k:=3) (by rw[hV];omega)) (by simp) λt ht=> ?_
  obtain⟨k,rfl,ek,_,_⟩:=hh t ht;refine aP (ts:=[.scr ns,.int ((a+1+8*k:Nat):Int)]) (aj (t:=.scr ns) rfl (aj (aM (t:=.int ((a:Int)+1)) (u:=.int (8*(k:Int))) rfl (aM (t:=.int 8) (u:=.int k) rfl rfl (kc (by omega) (by omega))) rfl) rfl)) ek
 rw[aJ s1];rw[aJ (ρ':=[.va (.scr ns),.va (.int a),.va (.int m),.va (.tup cs),.va (.lst []),.em,.em]) (bX (lA (ts:=[]) rfl (bK (k:=0) (by simp))) rfl)]
 rw[aJ ((iF (Ct (aj (bS (k:=a+30) e2 rfl rfl (aM (t:=.int m) (u:=.int 1) rfl rfl rfl)) rfl) (by omega) (by omega)) (by rw[jr];exact el)))]
 exact dA (cf (aj (t:=.tup cs) rfl (aj (t:=.tup ls) rfl rfl)) (bK (k:=2) (by simp)))
theorem n9 {cs:List T}{t:T}(h:cg cs t=true):∃a b x y,t= .tup [a,b,x,y]/\eO x y=true/\a8 cs a=true/\a8 cs b=true/\bP a b=false:=by
 unfold cg at h
 split at h
 ·simp only[G6,N6]at h
  exact⟨_,_,_,_,rfl,h.1,h.2.1,h.2.2.1,h.2.2.2⟩
 ·cases h
theorem Bq {cs ls:List T}(hc:a6 (.tup cs)=true)(hs:∀c∈cs,sm 8 c=true)(hl:uw cs ls)(hn:ls.length<=8):gw (RR cs ls)=true/\sm 8 (RR cs ls)=true:=by
 refine⟨?_,?_⟩
 ·show(a6 (.tup cs)&&(c8 (.tup ls) 0 8&&ls.all (cg cs)))=true
  rw[hc,Lc,G6,HC];exact⟨by simp[c8];exact hn,λt ht=>(hl t ht).1⟩
 ·refine sm_tup.mpr ⟨by simp,λt ht=> ?_⟩
  simp only[Hd,Im,or_false]at ht;rcases ht with rfl | rfl
  ·exact sm_tup.mpr ⟨by have:=(aS hc).2.2;omega,hs⟩
  ·exact sm_tup.mpr ⟨hn,λt ht=>(hl t ht).2⟩
end G
namespace Tr
open PySem
section
variable {f fa fb:En->Rs T}{fs:En->Rs (List T)}{b c:En->Rs Bool}{F G:En->Rs Fl}{ρ ρ' ρ1 ρ2:En}{t u r:T}{ts l m:List T}
mutual
theorem jZ:∀(t:T),t.pl=true->bP t t=true
 | .non,_=>rfl
 | .bl a,_=>by simp[bP]
 | .int a,_=>by simp[bP]
 | .str a,_=>by simp[bP]
 | .tup l,h=>by rw[bP];exact beqTs_refl l (by unfold T.pl at h;exact h)
 | .lst l,h=>by rw[bP];exact beqTs_refl l (by unfold T.pl at h;exact h)
 | .scr _,h=>by simp[T.pl]at h
theorem beqTs_refl:∀(l:List T),plS l=true->beqTs l l=true
 | [],_=>rfl
 | t::l,h=>by
  unfold plS at h;rw[G6]at h;rw[beqTs,jZ t h.1,beqTs_refl l h.2];rfl
end
theorem sd (hp:t.pl=true)(hd:t.dep<=60):neT t t= .ok (.bl false):=by
 unfold neT;rw[if_pos (dM hd (T.FY _ hp) (T.FY _ hp)),jZ t hp];rfl
theorem sI (hp:t.pl=true)(hd:t.dep<=60):eqT t t= .ok (.bl true):=by
 unfold eqT;rw[if_pos (dM hd (T.FY _ hp) (T.FY _ hp)),jZ t hp]
theorem sQ {n:Nat}:∀{l:List T},(∀t∈l,t.dep<=n)->deps l<=n
 | [],_=>by unfold deps;omega
 | t::l,h=>by
  unfold deps
  have:=sQ (l:=l) λu hu=>h u (G5 _ hu)
  have:=h t G7;omega
theorem fU:∀{l:List T},(∀t∈l,t.pl=true)->plS l=true
 | [],_=>rfl
 | t::l,h=>by unfold plS;rw[h t G7,fU λu hu=>h u (G5 _ hu)];rfl
end
end Tr
namespace G
open PySem Tr
def dr (r:List Int)(k:Nat):Int:=r.getD (k+1) 0 - r.getD k 0
def pr (n:Nat)(x y:Int)(r:List Int)(k:Nat):List T:=
 [.tup [.tup [.int n,.int k],.tup [.int n,.int ((k+1:Nat):Int)],.int (dr r k*y)],.tup [.tup [.int n,.int ((k+1:Nat):Int)],.tup [.int n,.int k],.int (-dr r k*x)]]
def cB (n:Nat)(x y:Int)(r:List Int):List T:=(Io (r.length - 1)).flatMap (pr n x y r)
theorem ij {r:List Int}{k:Nat}(h:k<r.length):(r.map T.int)[k]? =some (.int (r.getD k 0)):=by
 rw[HN,Hv h]
 simp[h]
theorem iY {t:T}(h:bx t=true):∃(x y:Int) (r:List Int),t= .tup [.int x,.int y,.tup (r.map .int)]/\(0<=x/\x<=9)/\(0<=y/\y<=9)/\1<=r.length/\r.length<=4:=by
 obtain⟨x,y,r,rfl,h1,h4⟩:=dC h
 have h':(l9 x y&&cQ (.tup r))=true:=h;rw[G6]at h';obtain⟨hp,hr⟩:=h';unfold l9 at hp;rw[G6]at hp;obtain⟨i,rfl,i1,i2⟩:=cS hp.1;obtain⟨j,rfl,j1,j2⟩:=cS (t:=y) (a:=i) (b:=9) hp.2;unfold cQ at hr;rw[G6]at hr
 have hr2:((r.all λu=>within u 0 99)&&(match jw r with | some m=>lY m | none=>false))=true:=hr.2
 rw[G6]at hr2;obtain⟨m,em⟩:=n0 hr2.1
 have e:=lp em;subst e;rw[G3]at h1 h4;exact⟨i,j,m,rfl,⟨by omega,by omega⟩,⟨by omega,by omega⟩,h1,h4⟩
def xB (n:Nat)(t:T):List T:=match t with
 | .tup [.int x,.int y,.tup r] =>match jw r with
  | some m=>cB n x y m
  | none=> []
 | _=> []
def bC:Nat->List T->List T
 | _,[] => []
 | i,c::r=>xB i c++bC (i+1) r
def lB (t:T):List T:=match t with
 | .tup [a,b,.int le,mo] => .tup [b,a,.int (-le)] ::(if mo.isN then []else [.tup [a,b,mo]])
 | _=> []
def Fg (cs ls:List T):List T:=bC 0 cs++ls.flatMap lB
theorem Ak (n:Nat)(x y:Int)(r:List Int):xB n (.tup [.int x,.int y,.tup (r.map .int)])=cB n x y r:=by
 unfold xB;simp only[lq]
theorem CU (n:Nat)(x y:Int)(r:List Int):(cB n x y r).length=2*(r.length - 1):=by
 unfold cB;rw[List.length_flatMap]
 have:∀l:List Nat,(l.map λk=>(pr n x y r k).length).sum=2*l.length:=by
  intro l
  induction l with
  | nil=>rfl
  | cons a l ih=>rw[G9,JX,ih,G4];simp[pr];omega
 rw[this,Jv]
theorem A1 {n:Nat}{t:T}(h:bx t=true):(xB n t).length<=6:=by
 obtain⟨x,y,r,rfl,_,_,h1,h4⟩:=iY h;rw[Ak,CU];omega
theorem xE:∀{cs:List T} {i:Nat},(∀c∈cs,bx c=true)->(bC i cs).length<=6*cs.length
 | [],i,_=>by simp[bC]
 | c::cs,i,h=>by
  rw[bC,GY,G4]
  have:=A1 (n:=i) (h c G7)
  have:=xE (cs:=cs) (i:=i+1) λc hc=>h c (G5 _ hc)
  omega
theorem Cb (t:T):(lB t).length<=2:=by
 unfold lB;split
 ·rename_i a b le mo
  cases mo.isN <;> simp
 ·simp
theorem si:∀(ls:List T),(ls.flatMap lB).length<=2*ls.length
 | [] =>by simp
 | t::ls=>by
  rw[List.flatMap_cons,GY,G4]
  have:=Cb t
  have:=si ls;omega
theorem jz {R:T}(hp:R.pl=true)(h:gw R=true):bu [R] = .ok .non:=by
 refine wI (ρ:=[.va R]) rfl ?_
 show dq [.va R] =_
 unfold dq;exact(dP ((gO (k:=true) (cK (aP (ts:=[R]) rfl (by rw[pY R hp,h])))))).trans rfl
theorem mO {R:T}(hp:R.pl=true)(h:gw R=false):bu [R] = .err "NoRecord":=by
 refine fA rfl ?_
 show dq [.va R] =_
 unfold dq;exact(kh ((gO (k:=false) (cK (aP (ts:=[R]) rfl (by rw[pY R hp,h])))))).trans rfl
structure Good (cs ls:List T):Prop where
 c:a6 (.tup cs)=true
 l:∀t∈ls,cg cs t=true
 n:ls.length<=8
 p:(RR cs ls).pl=true
theorem Good.ok {cs ls:List T}(g:Good cs ls):gw (RR cs ls)=true:=by
 show(a6 (.tup cs)&&(c8 (.tup ls) 0 8&&ls.all (cg cs)))=true
 rw[g.c,Lc,G6,HC];exact⟨by simp[c8];exact g.n,g.l⟩
theorem pl_tup {l:List T}:(T.tup l).pl=plS l:=by unfold T.pl;rfl
theorem Bf {t:T}(h:sm 8 t=true):t.pl=true:=Av t h
abbrev peF:En->Rs Fl:=qB 1 (fz (iR (ae (cl cF (ae (o2 bY (vr 3) (cn (.int 2))) ai)) ai)) [none,some 2] (gN 0) bT (br (ae (vr 1) (ae (vr 0) ai))))
theorem vV (c0 s1:Sl)(x y:T)(r:List T)(i:Nat)(h:r.length<=4) :
  fz (iR (ae (cl cF (ae (o2 bY (vr 3) (cn (.int 2))) ai)) ai)) [none,some 2] (gN 0) bT (br (ae (vr 1) (ae (vr 0) ai))) [c0,s1,.va (.int i),.va (.tup [x,y,.tup r])] = .ok (.lst (fP i r.length)):=
 qW (Ct (j:=(r.length:Int)) rfl (by omega) (by omega)) (bK (k:=4) (by rw[hV];exact h)) (by simp) λt _=>mk2 _ _
theorem rW:∀(cs:List T) (c0:T) (acc:List T) (i:Nat) (s2 s3:Sl),(∀c∈cs,bx c=true)->acc.length+4*cs.length<=100 →
  ∃y2 y3,bF evG peF (de i cs) [.va c0,.ow (.lst acc),s2,s3] = .ok (.nx [.va c0,.ow (.lst (acc++di i cs)),y2,y3])
 | [],c0,acc,i,s2,s3,_,_=>⟨s2,s3,by simp[de,bF,di]⟩
 | c::cs,c0,acc,i,s2,s3,hc,hl=>by
  obtain⟨x,y,r,rfl,r1,r2⟩:=dC (hc c G7);rw[G4]at hl
  have st:peF [.va c0,.ow (.lst acc),.va (.int i),.va (.tup [x,y,.tup r])] = .ok (.nx [.va c0,.ow (.lst (acc++fP i r.length)),.va (.int i),.va (.tup [x,y,.tup r])]):=EG (l:=acc) (vV _ _ x y r i r2) rfl (by rw[fk];omega)
  obtain⟨z2,z3,ih⟩:=rW cs c0 (acc++fP i r.length) (i+1) (.va (.int i)) (.va (.tup [x,y,.tup r])) (λc h=>hc c (G5 _ h)) (by rw[GY,fk];omega)
  refine⟨z2,z3,?_⟩
  rw[de,fh (ρ1:=[.va c0,.ow (.lst acc),.va (.int i),.va (.tup [x,y,.tup r])]) rfl st,ih,di,Hs]
  rfl
theorem v8 {cs ls:List T}(g:Good cs ls):cA [RR cs ls] = .ok (.lst (di 0 cs)):=by
 obtain⟨hc,c1,c4⟩:=aS g.c;refine ck rfl ?_
 show gY [.va (RR cs ls),.em,.em,.em] =_
 unfold gY;rw[aJ (wO (t:=.non) (aP (ts:=[RR cs ls]) rfl (jz g.p g.ok)))];rw[aJ (ρ':=[.va (RR cs ls),.ow (.lst []),.em,.em]) (Cj (by simp))]
 obtain⟨y2,y3,e⟩:=rW cs (RR cs ls) [] 0 .em .em hc (by simp;omega)
 rw[aJ ((iF (ts:=de 0 cs) rfl e))]
 rfl
theorem rl {R:T}(hp:R.pl=true)(h:gw R=false):cA [R] = .err "NoRecord":=by
 refine fA rfl ?_
 show gY [.va R,.em,.em,.em] =_
 unfold gY;exact gM (AJ (aP (ts:=[R]) rfl (mO hp h)))
theorem zd {cs ls:List T}{t:T}(g:Good cs ls)(ht:t.pl=true)(h:a8 cs t=true):eK [RR cs ls,t] = .ok .non:=by
 refine wI (ρ:=[.va (RR cs ls),.va t]) rfl ?_
 show gg [.va (RR cs ls),.va t] =_
 unfold gg;exact(dP ((gO (k:=true) (cK (aP (ts:=[.tup cs,t]) rfl (by rw[oo cs t g.c ht,h])))))).trans rfl
theorem p2 {a b:En->Rs T}{t u:T}{ρ:En}(ha:a ρ= .ok t)(hb:b ρ= .ok u):br (ae a (ae b ai)) ρ= .ok (.tup [t,u]):=cf (aj ha (aj hb rfl)) (bK (k:=2) (by simp))
theorem Aa {cs ls:List T}(g:Good cs ls):(Fg cs ls).length<=60:=by
 unfold Fg;rw[GY];obtain⟨hc,c1,c4⟩:=aS g.c
 have:=xE (i:=0) hc
 have:=si ls
 have:=g.n;omega
end G
namespace G
open PySem Tr Gr
structure N2 where
 c:Int
 k:Int
deriving DecidableEq
theorem N2.ext':∀{u v:N2},u.c=v.c->u.k=v.k->u=v
 | ⟨_,_⟩,⟨_,_⟩,rfl,rfl=>rfl
def en (v:N2):T:=.tup [.int v.c,.int v.k]
def eB (x:N2×N2×Int):T:=.tup [en x.1,en x.2.1,.int x.2.2]
def eN (ks:List Nat):List T:=ks.map λk=> .int (k:Nat)
def eW (x:Int×List Nat):T:=.tup [.int x.1,.lst (eN x.2)]
def ky (v:N2):List L2.Key:=[.inl v.c,.inl v.k]
theorem fM (v:N2):keyOf (en v)=some (ky v):=rfl
theorem qS {u v:N2}(h:some (ky u)=some (ky v)):u=v:=by
 injection h with h
 injection h with h1 h2
 injection h2 with h2 _
 injection h1 with h1
 injection h2 with h2
 exact N2.ext' h1 h2
theorem xi {u v:N2}(h:en u=en v):u=v:=qS (by rw[<-fM u,<-fM v,h])
theorem sP (g:N2->T)(v:N2):∀(ns:List N2),qb (ns.map en) (ns.map g) (ky v)=if v∈ns then some (g v)else none
 | [] =>rfl
 | u::ns=>by
  rw[G9,G9,qb,fM]
  by_cases h:u=v
  ·subst h;rw[if_pos rfl,if_pos G7]
  ·rw[if_neg (λz=>h (qS z)),sP g v ns]
   have:(v∈u::ns)↔v∈ns:=by rw[Hd];exact⟨λz=>z.elim (λy=>absurd y.symm h) id,.inr⟩
   simp only[this]
theorem p7 (x:T)(v:N2)(g:N2->T):∀(ns:List N2),v∉ns->lH (en v) x (ns.map en) (ns.map g)=(ns.map en++ [en v],ns.map g++ [x])
 | [],_=>rfl
 | u::ns,h=>by
  rw[Hd,not_or]at h;rw[G9,G9,lH,fM,fM,if_neg (λz=>h.1 (qS z).symm),p7 x v g ns h.2]
  rfl
def oW (o:Option (Int×List Nat)):T:=match o with
 | some x=>eW x
 | none=> .non
def dV (ns:List N2)(b:uB N2):List T:=ns.map λv=>oW (b v)
def eL (L:i7 N2):T:=.lst (L.map eB)
def eS (S:List N2):T:=.lst (S.map en)
structure Fine (L:i7 N2)(P:List N2):Prop where
 len:L.length<=500
 size:size L<=100000000
 ends:∀x∈L,x.1∈P/\x.2.1∈P
 pl:P.length<1000
theorem jB {α:Type}{f:α->T}{p:α->Prop}:∀{l:List T},(∀t∈l,∃x,t=f x/\p x)->∃L:List α,l=L.map f/\∀x∈L,p x
 | [],_=>⟨[],rfl,λ_ h=>nomatch h⟩
 | t::l,h=>by
  obtain⟨x,e,hx⟩:=h t G7;obtain⟨L,e2,h2⟩:=jB (l:=l) λu hu=>h u (G5 _ hu)
  exact⟨x::L,by rw[e,e2];rfl,λy hy=>(Hd.mp hy).elim (λz=>z▸hx) (h2 y)⟩
theorem iX {t:T}(h:bx t=true):∃(x y:Int) (r:List Int),t= .tup [.int x,.int y,.tup (r.map .int)]/\(0<=x/\x<=9)/\(0<=y/\y<=9)/\∀k,0<=r.getD k 0/\r.getD k 0<=99:=by
 obtain⟨x,y,r,rfl,h1,h2,h3,h4⟩:=iY h;refine⟨x,y,r,rfl,h1,h2,λk=> ?_⟩
 have h':(l9 (.int x) (.int y)&&cQ (.tup (r.map .int)))=true:=h;rw[G6]at h'
 have hr:=h'.2;unfold cQ at hr;rw[G6]at hr
 have hr2:(((r.map T.int).all λu=>within u 0 99)&&(match jw (r.map .int)with | some m=>lY m | none=>false))=true:=hr.2
 rw[G6]at hr2
 by_cases hk:k<r.length
 ·have:=HC.mp hr2.1 (.int r[k]) (Hb.mpr ⟨_,Jp hk,rfl⟩)
  obtain⟨i,e,a,b⟩:=cS this;cases e;simp[hk];exact⟨a,b⟩
 ·simp[hk]
theorem n5 {cs:List T}{i:Nat}:∀{cs0:List T} {c k:Nat},i<=c->c<i+cs0.length->k<qG (cs0.getD (c - i) .non)->T.tup [.int c,.int k] ∈di i cs0:=by
 intro cs0
 induction cs0 generalizing i with
 | nil=>intro c k h1 h2;simp at h2;omega
 | cons a r ih=>
  intro c k h1 h2 h3;rw[di,G8]
  by_cases e:c=i
  ·subst e
   rw[LD]at h3
   have h3':k<qG a:=h3;exact .inl (Hb.mpr ⟨.int k,ze h3',rfl⟩)
  ·refine .inr (ih (by omega) (by rw[G4]at h2;omega) ?_)
   rw[show c - i=(c - (i+1))+1 by omega]at h3
   exact h3
theorem mZ {cs:List T}{t:T}(h:a8 cs t=true):t∈di 0 cs:=by
 obtain⟨c,k,rfl⟩:=eE h;unfold a8 at h;simp only[G6,decide_eq_true_eq]at h;obtain⟨⟨h1,h2⟩,h3,h4⟩:=h;obtain⟨c,rfl⟩:=HM h1;obtain⟨k,rfl⟩:=HM h3;rw[mI]at h4;exact n5 (cs:=cs) (HZ _) (by omega) (by rw[Kc];omega)
theorem xh {cs:List T}{t:T}(h:t∈di 0 cs):∃v:N2,t=en v/\True:=by
 obtain⟨c,k,rfl,_⟩:=ft cs 0 h;exact⟨⟨c,k⟩,rfl,trivial⟩
def big (x:N2×N2×Int):Prop:=x.2.2.natAbs<=999
theorem mP {a b:Int}(ha : -99<=a/\a<=99)(hb:0<=b/\b<=9):(a*b).natAbs<=999:=by
 rw[Int.natAbs_mul]
 have h1:a.natAbs<=99:=by omega
 have h2:b.natAbs<=9:=by omega
 exact Hz (Nat.mul_le_mul h1 h2) (by decide)
theorem AU {cs0:List T}:∀{cs:List T} {i:Nat},(∀c∈cs,bx c=true)->(∀c k:Nat,i<=c->c<i+cs.length->k<qG (cs.getD (c - i) .non)->T.tup [.int c,.int k] ∈di 0 cs0) →
  ∀t∈bC i cs,∃x,t=eB x/\(en x.1∈di 0 cs0/\en x.2.1∈di 0 cs0/\big x)
 | [],_,_,_,t,h=>by simp[bC]at h
 | c::cs,i,hc,hm,t,h=>by
  rw[bC,G8]at h;rcases h with h | h
  ·obtain⟨x,y,r,rfl,hx,hy,hr⟩:=iX (hc c G7)
   have hm0:∀k,k<r.length->T.tup [.int i,.int k] ∈di 0 cs0:=λk hk=>hm i k (He _) (by simp) (by rw[LD];show k<(r.map T.int).length;rw[G3];exact hk)
   rw[Ak]at h;unfold cB at h;obtain⟨k,hk,hp⟩:=OE.mp h
   have hk:=IP.mp hk
   have d : -99<=dr r k/\dr r k<=99:=by have:=hr k;have:=hr (k+1);unfold dr;omega
   unfold pr at hp;simp only[Hd,Im,or_false]at hp;rcases hp with rfl | rfl
   ·exact⟨(⟨i,k⟩,⟨i,((k+1:Nat):Int)⟩,dr r k*y),rfl,hm0 k (by omega),hm0 (k+1) (by omega),mP d hy⟩
   ·exact⟨(⟨i,((k+1:Nat):Int)⟩,⟨i,k⟩,-dr r k*x),rfl,hm0 (k+1) (by omega),hm0 k (by omega),mP (by omega) hx⟩
  ·exact AU (cs:=cs) (i:=i+1) (λc h=>hc c (G5 _ h)) (λc k h1 h2 h3=>hm c k (by omega) (by rw[G4];omega) (by rw[show c - i=(c - (i+1))+1 by omega];exact h3)) t h
theorem Ey {cs:List T}{u:T}(hu:cg cs u=true):∀t∈lB u,∃x,t=eB x/\(en x.1∈di 0 cs/\en x.2.1∈di 0 cs/\big x):=by
 intro t ht;obtain⟨a,b,x,y,rfl,hd,ha,hb,_⟩:=n9 hu
 have ma:=mZ ha
 have mb:=mZ hb;obtain⟨va,rfl,_⟩:=xh ma;obtain⟨vb,rfl,_⟩:=xh mb;unfold eO at hd;rw[G6]at hd;obtain⟨i,rfl,i1,i2⟩:=cS hd.1
 have e2:lB (.tup [en va,en vb,.int i,y])= .tup [en vb,en va,.int (-i)] ::(if y.isN then []else [.tup [en va,en vb,y]]):=rfl
 rw[e2]at ht;rcases Hd.mp ht with rfl | ht
 ·exact⟨(vb,va,-i),rfl,mb,ma,by unfold big;simp only;omega⟩
 ·cases q:y.isN with
  | true=>rw[q]at ht;simp at ht
  | false=>
   rw[q]at ht
   have ht:t= .tup [en va,en vb,y]:=by simpa using ht
   have hw:within y i 999=true:=by
    cases y with
    | non=>cases q
    | _=>exact hd.2
   obtain⟨j,rfl,j1,j2⟩:=cS hw;exact⟨(va,vb,j),ht,ma,mb,by unfold big;simp only;omega⟩
structure Rd (cs ls:List T)(L:i7 N2)(P:List N2):Prop where
 g:Good cs ls
 b:Fg cs ls=L.map eB
 e:di 0 cs=P.map en
 f:Fine L P
 nd:P.Nodup
 pl:P.length<=16
 ll:L.length<=60
 bg:∀x∈L,big x
theorem yj {L:i7 N2}(h:∀x∈L,big x):size L<=999*L.length:=by
 unfold size
 induction L with
 | nil=>simp
 | cons x L ih=>
  rw[G9,JX,G4]
  have:=ih λy hy=>h y (G5 _ hy)
  have:=h x G7;unfold big at this;omega
theorem wm {P:List N2}(h:(P.map en).Nodup):P.Nodup:=by
 induction P with
 | nil=>exact LN
 | cons a r ih=>
  rw[G9,IH]at h;exact IH.mpr ⟨λz=>h.1 (Hb.mpr ⟨a,z,rfl⟩),ih h.2⟩
theorem rQ {cs ls:List T}(g:Good cs ls):∃L P,Rd cs ls L P:=by
 obtain⟨hc,c1,c4⟩:=aS g.c;obtain⟨P,eP,_⟩:=jB (f:=en) (p:=λ_=>True) (l:=di 0 cs) λt ht=>xh ht
 have key:∀t∈Fg cs ls,∃x,t=eB x/\(en x.1∈di 0 cs/\en x.2.1∈di 0 cs/\big x):=λt ht=>by
  unfold Fg at ht;rw[G8]at ht;rcases ht with h | h
  ·exact AU hc (λc k h1 h2 h3=>n5 (cs:=cs) h1 h2 h3) t h
  ·obtain⟨u,hu,h⟩:=OE.mp h
   exact Ey (g.l u hu) t h
 obtain⟨L,eL,hL⟩:=jB key
 have mem:∀v:N2,en v∈di 0 cs->v∈P:=λv hv=>by
  rw[eP]at hv;obtain⟨u,hu,e⟩:=Hb.mp hv;rw[<-xi e];exact hu
 have hl:=Aa g;rw[eL,G3]at hl
 have hp:=om cs 0 hc;rw[eP,G3]at hp
 have hs:=yj λx hx=>(hL x hx).2.2
 exact⟨L,P,g,eL,eP,⟨by omega,by omega,λx hx=>⟨mem _ (hL x hx).1,mem _ (hL x hx).2.1⟩,by omega⟩,wm (eP▸jO cs 0),by omega,hl,λx hx=>(hL x hx).2.2⟩
theorem pl_lst {l:List T}:(T.lst l).pl=plS l:=by unfold T.pl;rfl
def run (L:i7 N2):N2->List Nat->Option N2
 | a,[] =>some a
 | a,k::r=>match L[k]? with
  | some x=>if x.1=a then run L x.2.1 r else none
  | none=>none
section
variable {cs ls:List T}{L:i7 N2}{P:List N2}
theorem Rd.events (R:Rd cs ls L P):cA [RR cs ls] = .ok (eS P):=by rw[v8 R.g,R.e];rfl
def bp (P:List N2)(t:N2->Int):T:=.tup (P.map λv=> .int (t v))
end
theorem pM:∀(P:List N2),kg (P.map en)=true
 | [] =>rfl
 | u::P=>by
  have:=pM P;simp[kg,fM,this]
theorem lx {g:T->En->Rs En}{fc:En->Rs Bool}{fe:En->Rs T}{p:T->Bool}{h:T->T}(I:En->Prop):∀(ts:List T) (ρ:En),I ρ->(∀t∈ts,∀ρ,I ρ->∃ρ1,g t ρ= .ok ρ1/\I ρ1/\fc ρ1= .ok (p t)/\fe ρ1= .ok (h t))->cv g fc fe ts ρ= .ok ((ts.filter p).map h)
 | [],_,_,_=>rfl
 | t::r,ρ,hI,hf=>by
  obtain⟨ρ1,e1,i1,e2,e3⟩:=hf t G7 ρ hI
  have ih:=lx I r ρ1 i1 λu hu=>hf u (G5 _ hu)
  unfold cv
  cases q:p t with
  | true=>simp only[e1,aF,e2,q,if_true,e3,ih,List.filter_cons_of_pos q,G9]
  | false=>simp only[e1,aF,e2,q,Iv,if_false,ih,List.filter_cons_of_neg (show ¬p t=true by rw[q];decide)]
theorem m5 (g:N2->T):∀(S ns:List N2),(ns++S).Nodup->jG ((S.map en).zip (S.map g)) (ns.map en,ns.map g)=((ns++S).map en,(ns++S).map g)
 | [],ns,_=>by rw[Ii];rfl
 | v::S,ns,hn=>by
  have hv:v∉ns:=λz=>by
   rw[L1]at hn;exact hn.2.2 v z v G7 rfl
  rw[G9,G9,List.zip_cons_cons,jG,p7 _ _ _ _ hv]
  have e1:ns.map en++ [en v] =(ns++ [v]).map en:=by rw[IJ];rfl
  have e2:ns.map g++ [g v] =(ns++ [v]).map g:=by rw[IJ];rfl
  rw[e1,e2,m5 g S (ns++ [v]) (by rw[Hs];exact hn),Hs]
  rfl
def i5 (P:List N2)(t:N2->Int):T:=.dct (P.map en) (P.map λv=> .int (t v))
def hB (t:N2->Int)(x:N2×N2×Int):Bool:=decide (t x.2.1 - t x.1<=x.2.2)
theorem pX:∀(l:List T) (i:Nat),(de i l).length=l.length
 | [],_=>rfl
 | t::l,i=>by rw[de,G4,G4,pX l (i+1)]
theorem pT:∀{P:List N2} {τ:List Int},P.Nodup->τ.length=P.length->∃t:N2->Int,P.map t=τ
 | [],[],_,_=>⟨λ_=>0,rfl⟩
 | [],_::_,_,h=>by simp at h
 | _::_,[],_,h=>by simp at h
 | v::P,x::τ,hn,h=>by
  obtain⟨t,e⟩:=pT (IH.mp hn).2 (by simpa using h:τ.length=P.length)
  refine⟨λu=>if u=v then x else t u,?_⟩
  rw[G9,if_pos rfl,<-e]
  congr 1
  refine IL λu hu=>if_neg λz=> ?_
  rw[z]at hu;exact(IH.mp hn).1 hu
def jD (n:Nat)(u:T):Bool:=c8 u n n&&(match u with
 | .tup l=>l.all AM
 | _=>false)
theorem Di (P:List N2)(t:N2->Int):(bp P t).pl=true:=by
 unfold bp;rw[pl_tup];exact fU λu hu=>by obtain⟨v,_,rfl⟩:=Hb.mp hu;rfl
theorem A7 (P:List N2)(t:N2->Int):(bp P t).dep<=60:=by
 have:deps (P.map λv=>T.int (t v))<=5:=sQ λu hu=>by obtain⟨v,_,rfl⟩:=Hb.mp hu;simp[T.dep]
 unfold bp T.dep;omega
theorem AA (P:List N2)(t:N2->Int):neT (bp P t) (bp P t)= .ok (.bl false):=sd (Di P t) (A7 P t)
section
variable {cs ls:List T}{L:i7 N2}{P:List N2}
theorem Rd.pos (R:Rd cs ls L P):0<P.length:=by
 obtain⟨hcl,c1,_⟩:=aS R.g.c
 have e:=congrArg Jc R.e;rw[G3]at e;rw[<-e]
 cases cs with
 | nil=>simp at c1
 | cons c cs=>
  obtain⟨x,y,r,rfl,r1,_⟩:=dC (hcl c G7);rw[di,GY,fk]
  show 0<r.length+_
  omega
theorem Rd.dz (R:Rd cs ls L P)(t:N2->Int):C4 [eS P,bp P t] = .ok (i5 P t):=by
 have h0:=R.pos
 have h1:=R.pl
 show(if kg (P.map en)=true/\(P.map en).length=(P.map λv=>T.int (t v)).length/\1<=(P.map en).length/\(P.map en).length<=1000 then _ else _)=_
 rw[if_pos ⟨pM P,by rw[G3,G3],by rw[G3];omega,by rw[G3];omega⟩]
 have:=m5 (λv=> .int (t v)) P [] (by simpa using R.nd)
 rw[Jy]at this;rw[show(([]:List T),([]:List T))=(([]:List N2).map en,([]:List N2).map λv=>T.int (t v))from rfl,this]
 rfl
theorem AR {t:N2->Int}{v:N2}{a b:En->Rs T}{ρ:En}(ha:a ρ= .ok (i5 P t))(hb:b ρ= .ok (en v))(hv:v∈P):o2 mr a b ρ= .ok (.int (t v)):=by
 refine aM (t:=i5 P t) (u:=en v) ha hb ?_
 show(match qb (P.map en) (P.map λv=>T.int (t v)) (ky v)with | some t=>Rs.ok t | none=> .bad)=_
 rw[sP (λv=>T.int (t v)),if_pos hv]
theorem Rd.Gu (R:Rd cs ls L P){u:T}(hu:u.pl=true):ez [(RR cs ls),u] = .ok (.bl (jD P.length u)):=by
 refine ck rfl ?_
 show eF [.va (RR cs ls),.va u,.em] =_
 unfold eF;rw[aJ (ρ':=[.va (RR cs ls),.va u,.va (.int (P.length:Nat))]) (bX (aP (ts:=[eS P]) (aj (aP (ts:=[(RR cs ls)]) rfl R.events) rfl) (by show Rs.ok (T.int ((P.map en).length:Nat))=_;rw[G3])) rfl)]
 refine dA (og (aP (ts:=[u,.int (P.length:Nat),.int (P.length:Nat)]) rfl (gS u P.length P.length hu)) λh=> ?_)
 obtain⟨l,rfl,_,hl⟩:=cE h;exact i0 (ua rfl) (bK (k:=16) (by have:=R.pl;omega)) (by simp) λv hv=>aP (ts:=[v]) rfl (sJ v (by rw[pl_tup]at hu;exact jt hu hv))
theorem CW {R u:T}(hp:R.pl=true)(h:gw R=false):ez [R,u] = .err "NoRecord":=by
 refine fA rfl ?_
 show eF [.va R,.va u,.em] =_
 unfold eF;exact gM (EJ (EI (zk (aP (ts:=[R]) rfl (rl hp h)))))
end
end G
namespace G
open PySem Tr PySem.StrLaws
def tx (l:List Nat):Str:=⟨l.toArray⟩
theorem cJ (l:List Nat):(tx l).cps.toList=l:=by simp[tx]
theorem aZ (l:List Nat):(tx l).length=l.length:=by show l.toArray.size=_;simp
theorem iK (a b:List Nat):tx a++tx b=tx (a++b):=Str.ext' (by simp[Str.cps_append,tx])
theorem kO (x:Str):tx x.cps.toList=x:=Str.ext' (by simp[tx])
theorem jJ {a b:List Nat}(h:tx a=tx b):a=b:=by
 have:=congrArg (λx:Str=>x.cps.toList) h
 rwa [cJ,cJ]at this
theorem kP (l:List Str):(l.map λx=>x.cps.toList).map tx=l:=by
 rw[Hu];exact(IL λx _=>kO x).trans (List.map_id l)
def bU (c:Nat):List (List Nat)->List Nat
 | [] => []
 | [p] =>p
 | p::q::r=>p++c::bU c (q::r)
theorem oh (c:Nat):∀ps:List (List Nat),NF (tx [c]) (ps.map tx)=tx (bU c ps)
 | [] =>rfl
 | [p] =>rfl
 | p::q::r=>by
  show tx p++tx [c] ++NF (tx [c]) ((q::r).map tx)=_
  rw[oh c (q::r),iK,iK]
  show tx ((p++ [c])++bU c (q::r))=tx (p++c::bU c (q::r))
  rw[Hs];rfl
theorem Fc {c:Nat}:∀{p q r r':List Nat},c∉p->c∉q->(r= []\/∃t,r=c::t)->(r'= []\/∃t,r'=c::t)->p++r=q++r'->p=q/\r=r'
 | [],[],r,r',_,_,_,_,h=>⟨rfl,h⟩
 | [],b::q,r,r',_,hq,hr,_,h=>by
  rcases hr with rfl | ⟨t,rfl⟩
  ·cases h
  ·injection h with h1 _;exact absurd (h1▸G7) hq
 | a::p,[],r,r',hp,_,_,hr,h=>by
  rcases hr with rfl | ⟨t,rfl⟩
  ·cases h
  ·injection h with h1 _;exact absurd (h1▸G7) hp
 | a::p,b::q,r,r',hp,hq,hr,hr',h=>by
  injection h with h1 h2
  obtain⟨e1,e2⟩:=Fc (λz=>hp (G5 _ z)) (λz=>hq (G5 _ z)) hr hr' h2
  exact⟨by rw[h1,e1],e2⟩
def vf (c:Nat):List (List Nat)->List Nat
 | [] => []
 | q::r=>c::bU c (q::r)
theorem lE (c:Nat)(p:List Nat):∀r,bU c (p::r)=p++vf c r
 | [] =>(Ii p).symm
 | _::_=>rfl
theorem oV (c:Nat):∀r,vf c r= []\/∃t,vf c r=c::t
 | [] => .inl rfl
 | _::_=> .inr ⟨_,rfl⟩
theorem mW {c:Nat}:∀{ps qs:List (List Nat)},ps≠ []->qs≠ []->(∀p∈ps,c∉p)->(∀q∈qs,c∉q)->bU c ps=bU c qs->ps=qs
 | [],_,h,_,_,_,_=>absurd rfl h
 | _::_,[],_,h,_,_,_=>absurd rfl h
 | p::ps,q::qs,_,_,hp,hq,h=>by
  rw[lE,lE]at h;obtain⟨e1,e2⟩:=Fc (hp p G7) (hq q G7) (oV c ps) (oV c qs) h
  cases ps with
  | nil=>
   cases qs with
   | nil=>rw[e1]
   | cons=>cases e2
  | cons a ps=>
   cases qs with
   | nil=>cases e2
   | cons b qs=>
    have e3:bU c (a::ps)=bU c (b::qs):=by injection e2
    rw[e1,mW (by simp) (by simp) (λx hx=>hp x (G5 _ hx)) (λx hx=>hq x (G5 _ hx)) e3]
theorem o7 (x y:Str):Ic x y≠ []:=by
 unfold Ic;split
 ·simp
 ·split
  ·simp
  ·rw[partsBetween_eq]
   obtain⟨p,r,e⟩:=partsFrom_ne x y.length 0 (JV x y 0 x.length (x.length+1));rw[e];simp
theorem vo (c:Nat){ps:List (List Nat)}(hne:ps≠ [])(hf:∀p∈ps,c∉p):Ic (tx (bU c ps)) (tx [c])=ps.map tx:=by
 have e:=join_split (tx (bU c ps)) (tx [c])
 have f:=split_free (tx (bU c ps)) c
 have n:=o7 (tx (bU c ps)) (tx [c])
 have f':∀p∈Ic (tx (bU c ps)) (tx [c]),c∉p.cps.toList:=f
 generalize Ic (tx (bU c ps)) (tx [c])=S at e n f'
 rw[<-kP S,oh]at e
 have:=mW (by intro z;exact n (JY.mp z)) hne (λp hp=>by obtain⟨s,hs,rfl⟩:=Hb.mp hp;exact f' s hs) hf (jJ e)
 rw[<-this,kP]
theorem nC (l:List Nat)(i j:Nat):Kv (tx l) i j=tx ((l.drop i).take (j - i)):=by
 rw[<-kO (Kv (tx l) i j),strSub_toList,cJ]
end G
namespace G
open PySem Tr PySem.StrLaws PySem.NumText PyProof.Rows
theorem cM {n:Nat}(h:n<=100000):n<=sizeLine:=by rw[Je];omega
theorem addS {a b:List Nat}(h:a.length+b.length<=100000):aB (.str (tx a)) (.str (tx b))= .ok (.str (tx (a++b))):=by
 show(if (tx a).length+(tx b).length<=sizeLine then Rs.ok (T.str (tx a++tx b))else .bad)=_
 rw[aZ,aZ,if_pos (cM h),iK]
theorem vk:∀ps:List (List Nat),jn (ps.map λp=>T.str (tx p))=some (ps.map tx)
 | [] =>rfl
 | p::ps=>by
  show(jn (ps.map λp=>T.str (tx p))).map (tx p:: ·)=_
  rw[vk ps];rfl
theorem zf (ps:List (List Nat)):((ps.map tx).map (·.length)).sum=(ps.map (·.length)).sum:=by
 rw[Hu];exact congrArg List.sum (IL λp _=>aZ p)
theorem mU {sep:List Nat}{ps:List (List Nat)}(h:(ps.map (·.length)).sum+ps.length*sep.length<=100000):JoinOk (tx sep) (ps.map tx)=true:=by
 unfold JoinOk Builtin.Str.tooLong;rw[joinTotal,zf,G3,aZ,decide_eq_false (by rw[Je];omega)]
 rfl
theorem wR:∀ps:List (List Nat),NF (tx []) (ps.map tx)=tx ps.flatten
 | [] =>rfl
 | [p] =>by show tx p=tx (p++ []);rw[Ii]
 | p::q::r=>by
  show tx p++tx [] ++NF (tx []) ((q::r).map tx)=_
  rw[wR (q::r),iK,iK,Ii];rfl
theorem EK {ps:List (List Nat)}(h:(ps.map (·.length)).sum<=100000):gP [.str (tx []),.lst (ps.map λp=>T.str (tx p))] = .ok (.str (tx ps.flatten)):=by
 show(match jn (ps.map λp=>T.str (tx p))with | some ss=>if JoinOk (tx []) ss=true then Rs.ok (T.str (Txt.join (tx []) ss))else .bad | none=> .bad)=_
 rw[vk]
 dsimp only
 rw[if_pos (mU (by simpa using h))]
 show Rs.ok (T.str (N0 (tx []) (ps.map tx)))=_
 rw[glued_eq_join,wR]
theorem qV {g:List T->Rs T}{fa:En->Rs T}{fs:En->Rs (List T)}{ρ:En}{s:Str}{ts:List T}{x:Rs T}(h1:fa ρ= .ok (.str s))(h2:fs ρ= .ok ts)(h3:g (.str s::ts)=x):oS g fa fs ρ=x:=by
 unfold oS;rw[h1]
 show(fs ρ >>= λts=>g (.str s::ts))=x
 rw[h2];exact h3
def dg (i:Int):List Nat:=(Hi (toString i)).cps.toList
theorem E8 (i:Int):tx (dg i)=Hi (toString i):=kO _
theorem AO {t:T}{s:Str}(h:tO (.str s)= .ok t):bA [.str s] = .ok t:=by
 refine ck rfl ?_
 show tI (vr 0) [.va (.str s)] =_
 unfold tI
 show(tO (.str s) >>= λv=>Rs.ok (Fl.rt v))=_
 rw[h];rfl
def au (y:List Nat):List (List Nat)->List Nat
 | [] => []
 | [p] =>p
 | p::q::r=>p++(y++au y (q::r))
theorem dB (y p:List Nat){r:List (List Nat)}(h:r≠ []):au y (p::r)=p++(y++au y r):=by
 cases r with
 | nil=>exact absurd rfl h
 | cons=>rfl
theorem fN (y:List Nat):∀ps:List (List Nat),NF (tx y) (ps.map tx)=tx (au y ps)
 | [] =>rfl
 | [p] =>rfl
 | p::q::r=>by
  show tx p++tx y++NF (tx y) ((q::r).map tx)=_
  rw[fN y (q::r),iK,iK]
  show tx ((p++y)++au y (q::r))=tx (p++(y++au y (q::r)))
  rw[Hs]
theorem at_seq {l y:List Nat}{i:Nat}:At (tx l) (tx y) (tx l).length i↔i+y.length<=l.length/\(l.drop i).take y.length=y:=by
 unfold At;rw[subAt_eq,cJ,aZ,aZ,cJ];simp
section
variable {u v:List Nat}{c:Nat}
theorem sW {l:List Nat}{i:Nat}(h:At (tx l) (tx (u++c::v)) (tx l).length i):l[i+u.length]? =some c:=by
 obtain⟨h1,h2⟩:=at_seq.mp h
 have:((l.drop i).take (u++c::v).length)[u.length]? =some c:=by rw[h2,IV (He _),LD];rfl
 rw[List.getElem?_take]at this
 split at this
 ·rw[LF]at this;exact this
 ·cases this
theorem kI {l p r:List Nat}{a:Nat}(h:l.drop a=p++((u++c::v)++r))(ha:a<=l.length):At (tx l) (tx (u++c::v)) (tx l).length (a+p.length):=by
 have hl:=congrArg Jc h;rw[Ig,GY,GY]at hl;refine at_seq.mpr ⟨by omega,?_⟩
 rw[<-List.drop_drop,h,M8,M9]
theorem xG {l p r:List Nat}{a i:Nat}(h:l.drop a=p++((u++c::v)++r))(hu:c∉u)(hp:c∉p)(hi:a<=i)(hlt:i<a+p.length):¬ At (tx l) (tx (u++c::v)) (tx l).length i:=λz=>by
 have m:=sW z
 have e:l[i+u.length]? =(l.drop a)[i+u.length - a]?:=by rw[LF];congr 1;omega
 rw[e,h]at m
 by_cases q:i+u.length - a<p.length
 ·rw[II q]at m;exact hp (Jr m)
 ·rw[IV (by omega),Hs,II (by omega)]at m
  exact hu (Jr m)
theorem sV {l:List Nat}{a i:Nat}(hp:c∉l.drop a)(hi:a<=i):¬ At (tx l) (tx (u++c::v)) (tx l).length i:=λz=>by
 have m:=sW z
 have e:l[i+u.length]? =(l.drop a)[i+u.length - a]?:=by rw[LF];congr 1;omega
 rw[e]at m;exact hp (Jr m)
theorem mJ (hu:c∉u){l:List Nat}:∀(cuts:List Nat) (a f:Nat) (ps:List (List Nat)),ps≠ []->(∀p∈ps,c∉p)->a<=l.length->l.drop a=au (u++c::v) ps →
  ChainG (tx l) (tx (u++c::v)) (tx l).length a cuts f->(∀k,f<=k->¬ At (tx l) (tx (u++c::v)) (tx l).length k)->partsFrom (tx l) (tx (u++c::v)).length a cuts=ps.map tx
 | [],a,f,ps,hne,hf,ha,h,hc,hn=>by
  have e:f=a:=hc;subst e
  cases ps with
  | nil=>exact absurd rfl hne
  | cons p r=>
   cases r with
   | nil=>
    show [Kv (tx l) f (tx l).length] = [tx p]
    rw[nC,aZ,JB (by rw[Ig];omega),h];rfl
   | cons q r=>exact absurd (kI (u:=u) (c:=c) (v:=v) (r:=au (u++c::v) (q::r)) h ha) (hn _ (by omega))
 | i::cuts,a,f,ps,hne,hf,ha,h,hc,hn=>by
  obtain⟨h1,h2,h3,h4⟩:=hc
  cases ps with
  | nil=>exact absurd rfl hne
  | cons p r=>
   cases r with
   | nil=>exact absurd h2 (sV (by rw[h];exact hf p G7) h1)
   | cons q r=>
    have h':l.drop a=p++((u++c::v)++au (u++c::v) (q::r)):=h
    have hi:i=a+p.length:=by
     rcases N8 i (a+p.length)with z | z | z
     ·exact absurd h2 (xG h' hu (hf p G7) h1 z)
     ·exact z
     ·exact absurd (kI h' ha) (h3 _ (by omega) z)
    subst hi
    have hl:=congrArg Jc h';rw[Ig,GY,GY]at hl
    have hy:(tx (u++c::v)).length=(u++c::v).length:=aZ _
    show Kv (tx l) a (a+p.length)::partsFrom (tx l) (tx (u++c::v)).length (a+p.length+(tx (u++c::v)).length) cuts=tx p::(q::r).map tx
    rw[mJ hu cuts (a+p.length+(tx (u++c::v)).length) f (q::r) (by simp) (λx hx=>hf x (G5 _ hx)) (by rw[hy];omega) (by
     rw[hy,Nat.add_assoc,<-List.drop_drop,h',<-Hs];rw[<-GY,M8]) h4 hn]
    congr 1
    rw[nC,h']
    congr 1
    rw[Nat.add_sub_cancel_left];simp
end
theorem qA {x y:Str}(hw:1<=y.length)(h:∀i,¬At x y x.length i):Ic x y= [x]:=by
 unfold Ic;split
 ·rfl
 ·split
  ·rfl
  ·rename_i z
   exfalso
   apply z
   rcases occ_head x y (x.length+1) (by omega)with⟨e,_⟩ | ⟨i,r,_,hi,_⟩
   ·rw[e];rfl
   ·exact absurd hi (h i)
theorem rg (k:Nat):dg (Int.negSucc k)=45::(K1 10 (k+1)).map Lg:=by
 unfold dg;rw[signs_ofString]
 show("-" ++Nat.repr (k+1)).toList.map Lg=_
 rw[String.toList_append,Nat.toList_repr]
 rfl
theorem iV (m:Nat):dg (m:Int)=(K1 10 m).map Lg:=W.KIN.signs_num m
theorem kH (m:Nat):AllDigits ((K1 10 m).map Lg):=by
 intro c hc;obtain⟨ch,hch,e⟩:=Hb.mp hc
 have r:=digit_range (Nat.isDigit_of_mem_toDigits (by decide) (by decide) hch)
 rw[<-e];exact r
theorem xq (m:Nat):(K1 10 m).map Lg≠ []:=by
 intro e
 have h:=toDigits_len_ge 10 m;rw[JY.mp e]at h;exact absurd h (by decide)
theorem sO {m:Nat}(h:m<10 ^ 10):((K1 10 m).map Lg).length<=10:=by
 have:=W.KT.len_num (n:=(m:Int)) (by omega) (by omega)
 have e:(Hi (toString (m:Int))).length=(dg (m:Int)).length:=by unfold dg;rw[Jw];rfl
 rw[e,iV]at this;exact this
theorem jH (i:Int):∀c∈dg i,c=45\/(48<=c/\c<=57):=by
 intro c hc
 cases i with
 | ofNat m=>exact .inr (kH m c (by have:=iV m;rw[<-this];exact hc))
 | negSucc k=>
  rw[rg]at hc;rcases Hd.mp hc with rfl | hc
  ·exact .inl rfl
  ·exact .inr (kH _ c hc)
theorem gx {i:Int}(h : -(10 ^ 10)<i/\i<10 ^ 10):(dg i).length<=11:=by
 cases i with
 | ofNat m=>rw[show dg (Int.ofNat m)=_ from iV m];exact Hz (sO (by have:=h.2;simp at this;omega)) (by decide)
 | negSucc k=>rw[rg,G4];exact Nat.succ_le_succ (sO (by have:=h.1;omega))
theorem zP {i:Int}(h : -(10 ^ 10)<i/\i<10 ^ 10):OP (tx (dg i))=some i:=by
 have hl:=gx h
 cases i with
 | ofNat m=>
  have e:=intText_digits (x:=tx (dg (m:Int))) (by rw[cJ,iV];exact kH m) (by rw[cJ,iV];exact xq m) (by rw[aZ];exact Hz hl (by decide))
  rw[cJ,iV,W.KIN.val_back]at e;rw[show dg (Int.ofNat m)=_ from iV m]
  exact e
 | negSucc k=>
  have e:=intText_neg (x:=tx (dg (Int.negSucc k))) (cs:=(K1 10 (k+1)).map Lg) (by rw[cJ,rg]) (kH _) (xq _) (by rw[aZ];exact Hz hl (by decide))
  rw[W.KIN.val_back]at e;rw[e]
  rfl
theorem strZ {i:Int}(h : -(10 ^ 10)<i/\i<10 ^ 10):fS [.int i] = .ok (.str (tx (dg i))):=by
 show(if i.natAbs.log2<1920 then Rs.ok (T.str (Hi (toString i)))else .bad)=_
 rw[E8,if_pos]
 by_cases z:i.natAbs=0
 ·rw[z];decide
 ·have h2:i.natAbs<2 ^ 34:=by omega
  exact Hl ((Nat.log2_lt z).mpr h2) (by decide)
theorem numZ {i:Int}(h : -(10 ^ 10)<i/\i<10 ^ 10):tO (.str (tx (dg i)))= .ok (.int i):=by
 show(if (tx (dg i)).length<=640/\(tx (dg i)).cps.all (· <1114112)=true then Rs.ok (iP (tx (dg i)))else .bad)=_
 have ha:(tx (dg i)).cps.all (· <1114112)=true:=by
  rw[JI];intro c hc
  have hm:c∈dg i:=by simpa [tx]using hc
  have:=jH i c hm
  simp;omega
 rw[if_pos ⟨by rw[aZ];have:=gx h;omega,ha⟩]
 unfold iP;rw[zP h]
theorem zi {x y:Str}(h:HP y=HP ⟨#[]⟩):decide (HP x<HP y)=false:=by
 rw[h,decide_eq_false_iff_not];unfold HP;rw[if_pos (by simp:(#[]:Array Nat).all (· <256)=true)]
 split
 ·omega
 ·split <;> omega
theorem mG {u v:List Nat}{c:Nat}(hu:c∉u)(hk:HP (tx (u++c::v))=HP ⟨#[]⟩){ps:List (List Nat)}(hne:ps≠ [])(hf:∀p∈ps,c∉p):Ic (tx (au (u++c::v) ps)) (tx (u++c::v))=ps.map tx:=by
 have hw:1<=(tx (u++c::v)).length:=by rw[aZ,GY,G4];omega
 cases ps with
 | nil=>exact absurd rfl hne
 | cons p r=>
  cases r with
  | nil=>exact qA hw λi=>sV (a:=0) (hf p G7) (HZ _)
  | cons q r=>
   obtain⟨f,hc,hn⟩:=occ_tight (tx (au (u++c::v) (p::q::r))) (tx (u++c::v)) hw
   have P:=mJ hu _ 0 f (p::q::r) (by simp) hf (HZ _) rfl hc hn
   have H:=kI (u:=u) (c:=c) (v:=v) (l:=au (u++c::v) (p::q::r)) (p:=p) (r:=au (u++c::v) (q::r)) (a:=0) rfl (HZ _);unfold Ic;rw[zi hk,Mc]
   have h1:=(at_seq.mp H).1;rw[if_neg (by rw[decide_eq_true_iff,aZ,aZ];omega)]
   rw[if_neg (λz=>by
    rcases occ_head (tx (au (u++c::v) (p::q::r))) (tx (u++c::v)) ((tx (au (u++c::v) (p::q::r))).length+1) (by omega)with⟨_,e⟩ | ⟨i,s,e,_⟩
    ·exact e _ H
    ·rw[e]at z;cases z),partsBetween_eq]
   exact P
theorem v7 {u v a b:List Nat}{c:Nat}(hu:c∉u)(ha:c∉a):Ie (tx (a++((u++c::v)++b))) (tx (u++c::v))=(tx a,tx (u++c::v),tx b):=by
 have H:=kI (u:=u) (c:=c) (v:=v) (l:=a++((u++c::v)++b)) (p:=a) (r:=b) (a:=0) rfl (HZ _);rw[Kq]at H;unfold Ie;rcases occ_head (tx (a++((u++c::v)++b))) (tx (u++c::v)) 1 (He _)with⟨_,hn⟩ | ⟨i,r,e,hi,hmin⟩
 ·exact absurd H (hn _)
 ·rw[e]
  have:i=a.length:=by
   rcases N8 i a.length with z | z | z
   ·exact absurd hi (xG (p:=a) (r:=b) (a:=0) rfl hu ha (HZ _) (by omega))
   ·exact z
   ·exact absurd H (hmin _ z)
  subst this
  dsimp only
  rw[nC,nC,aZ,aZ]
  have e1:((a++((u++c::v)++b)).drop 0).take (a.length - 0)=a:=by rw[LP,Kc,M9]
  have e2:(a++((u++c::v)++b)).drop (a.length+(u++c::v).length)=b:=by rw[<-Hs,<-GY,M8]
  rw[e1,e2,JB (by rw[GY,GY];omega)]
theorem Be {u v:List Nat}{c:Nat}(hu:c∉u)(hk:HP (tx (u++c::v))=HP ⟨#[]⟩){ps:List (List Nat)}(hne:ps≠ [])(hf:∀p∈ps,c∉p)(h1:(au (u++c::v) ps).length<=100000)(h2:ps.length<=100000) :
  gF [.str (tx (au (u++c::v) ps)),.str (tx (u++c::v))] = .ok (.lst (ps.map λp=>T.str (tx p))):=by
 show(if _/\_/\_ then _ else _)=_
 rw[mG hu hk hne hf,if_pos ⟨by rw[aZ,GY,G4];omega,by rw[aZ];omega,by rw[G3];omega⟩,Hu]
 rfl
theorem Ee {u v a b:List Nat}{c:Nat}(hu:c∉u)(ha:c∉a)(h:(a++((u++c::v)++b)).length<=100000):fK [.str (tx (a++((u++c::v)++b))),.str (tx (u++c::v))] = .ok (.tup [.str (tx a),.str (tx (u++c::v)),.str (tx b)]):=by
 show(if _/\_ then _ else _)=_
 rw[v7 hu ha,if_pos ⟨by rw[aZ,GY,G4];omega,by rw[aZ];omega⟩]
theorem AL {y:List Nat}{ps:List (List Nat)}(h:(ps.map (·.length)).sum+ps.length*y.length<=100000):gP [.str (tx y),.lst (ps.map λp=>T.str (tx p))] = .ok (.str (tx (au y ps))):=by
 show(match jn (ps.map λp=>T.str (tx p))with | some ss=>if JoinOk (tx y) ss=true then Rs.ok (T.str (Txt.join (tx y) ss))else .bad | none=> .bad)=_
 rw[vk]
 dsimp only
 rw[if_pos (mU h)]
 show Rs.ok (T.str (N0 (tx y) (ps.map tx)))=_
 rw[glued_eq_join,fN]
theorem DD {z:List Nat}{ps:List (List Nat)}(hne:ps≠ [])(hf:∀p∈ps,10∉p)(h:(bU 10 ps).length<=100000):eI (tx [10]) (tx z) (.str (tx (bU 10 ps)))= .ok (.str (tx (au z ps))):=by
 show(if _ then _ else _)=_
 rw[if_pos (by rw[aZ];omega)]
 have:=replace_one (tx (bU 10 ps)) (tx z) 10;rw[show(⟨#[10]⟩:Str)=tx [10]from rfl,vo 10 hne hf,fN]at this
 rw[this]
end G
namespace G
open PySem Tr Gr
def DI (cs:List T)(y:T):T:=match y with
 | .tup [.int c,.int k] =>match cs.getD c.toNat .non with
  | .tup [_,_,.tup r] =>r.getD k.toNat .non
  | _=> .non
 | _=> .non
theorem vE {cs:List T}{y:T}(hc:∀c∈cs,bx c=true)(h:y∈di 0 cs):∃(c k:Nat) (x z:T) (r:List T) (v:Int),y= .tup [.int c,.int k]/\cs[c]? =some (.tup [x,z,.tup r])/\r[k]? =some (.int v)/\DI cs y= .int v:=by
 obtain⟨c,k,rfl,h1,h2,h3⟩:=ft cs 0 h
 have hcl:c<cs.length:=by omega
 have e0:cs.getD (c - 0) .non=cs[c]:=by simp[hcl]
 rw[e0]at h3;obtain⟨x,z,r,e,_,_,a3,a4⟩:=iY (hc cs[c] (Jp hcl));rw[e]at h3
 have h3':k<r.length:=by
  have:k<(r.map T.int).length:=h3
  rwa [G3]at this
 refine⟨c,k,.int x,.int z,r.map .int,r.getD k 0,rfl,by rw[Hv hcl,e],ij h3',?_⟩
 show(match cs.getD ((c:Int).toNat) .non with
  | .tup [_,_,.tup r] =>r.getD ((k:Int).toNat) .non
  | _=> .non)=_
 rw[HV,HV,show cs.getD c .non= .tup [.int x,.int z,.tup (r.map .int)]from by simp[hcl,e]]
 show(r.map T.int).getD k .non=_
 rw[HE,ij h3'];rfl
theorem tL {cs ls:List T}{y:T}(g:Good cs ls)(h:y∈di 0 cs):cu [RR cs ls,y] = .ok (DI cs y):=by
 obtain⟨hc,c1,c4⟩:=aS g.c
 have hev:=xg h;obtain⟨c,k,x,z,r,v,rfl,e1,e2,e3⟩:=vE hc h;rw[e3];refine ck rfl ?_
 show gf [.va (RR cs ls),.va (.tup [.int c,.int k])] =_
 unfold gf;rw[aJ (wO (t:=.non) (aP (ts:=[RR cs ls]) rfl (jz g.p g.ok)))];rw[aJ (wO (t:=.non) (aP (ts:=[RR cs ls,.tup [.int c,.int k]]) rfl (zd g rfl hev)))];exact(dA (zj (n:=k) (l:=r) (aM (t:=.tup [x,z,.tup r]) (u:=.int 2) (zj (n:=c) (l:=cs) rfl rfl e1) rfl rfl) rfl e2))
end G
namespace G
open PySem Tr PySem.StrLaws PySem.NumText PyProof.Rows
abbrev lU:List Nat:=[32] ++97:: [116,32]
abbrev cm:List Nat:=[] ++44:: [32]
abbrev i6:=List (Int×Int)
def wd (x:Int×Int):List Nat:=dg x.1++(lU++dg x.2)
def bd (c:Nat)(row:i6):List Nat:=dg (c:Int)++([58,32] ++au cm (row.map wd))
def tt:Nat->List i6->List Nat
 | _,[] => []
 | c,r::rs=>bd c r++(10::tt (c+1) rs)
def f9:Nat->List i6->List (List Nat)
 | _,[] => []
 | c,r::rs=>bd c r::f9 (c+1) rs
def pw (q:List Nat×Int):List Nat:=q.1++(lU++dg q.2)
def qH (c:Nat):i6->List (List Nat×Int)
 | [] => []
 | x::r=>(dg (c:Int)++([58,32] ++dg x.1),x.2)::r.map λx=>(dg x.1,x.2)
def gG:Nat->List i6->List (List Nat×Int)
 | _,[] => []
 | c,r::rs=>qH c r++gG (c+1) rs
theorem jj:∀(rs:List i6) (c:Nat),tt c rs=bU 10 (f9 c rs++ [[]])
 | [],_=>rfl
 | r::rs,c=>by
  show bd c r++(10::tt (c+1) rs)=bU 10 (bd c r::(f9 (c+1) rs++ [[]]))
  rw[jj rs]
  cases h:f9 (c+1) rs++ [[]]with
  | nil=>simp at h
  | cons=>rfl
theorem rJ:∀(rs:List i6) (c:Nat),tt c rs=((f9 c rs).map (· ++ [10])).flatten
 | [],_=>rfl
 | r::rs,c=>by
  show bd c r++(10::tt (c+1) rs)=(bd c r++ [10])++((f9 (c+1) rs).map (· ++ [10])).flatten
  rw[rJ rs,Hs];rfl
theorem oE:∀(rs:List i6) (c:Nat),(f9 c rs).length=rs.length
 | [],_=>rfl
 | r::rs,c=>by show(f9 (c+1) rs).length+1=_;rw[oE rs];rfl
theorem dX (y a p:List Nat):∀ps,a++au y (p::ps)=au y ((a++p)::ps)
 | [] =>rfl
 | q::r=>by show a++(p++(y++au y (q::r)))=(a++p)++(y++au y (q::r));rw[Hs]
theorem ki (y:List Nat):∀(ps qs:List (List Nat)),ps≠ []->au y (au y ps::qs)=au y (ps++qs)
 | [],_,h=>absurd rfl h
 | [p],qs,_=>rfl
 | p::q::r,qs,_=>by
  have:=ki y (q::r) qs (by simp)
  show au y ((p++(y++au y (q::r)))::qs)=p++(y++au y (q::r++qs))
  rw[<-dX,<-dX,this]
theorem Fh (c:Nat){r:i6}(h:r≠ []):bd c r=au cm ((qH c r).map pw):=by
 cases r with
 | nil=>exact absurd rfl h
 | cons x r=>
  show dg (c:Int)++([58,32] ++au cm (wd x::r.map wd))=au cm (pw (dg (c:Int)++([58,32] ++dg x.1),x.2)::(r.map λx=>(dg x.1,x.2)).map pw)
  rw[dX,dX,Hu]
  have e1:dg (c:Int)++([58,32] ++wd x)=pw (dg (c:Int)++([58,32] ++dg x.1),x.2):=by
   unfold wd pw;simp only[Hs]
  rw[e1]
  rfl
theorem yL {c:Nat}{r:i6}(h:r≠ []):(qH c r).map pw≠ []:=by
 cases r with
 | nil=>exact absurd rfl h
 | cons=>simp[qH]
theorem rn:∀(rs:List i6) (c:Nat),(∀r∈rs,r≠ [])->au cm (f9 c rs++ [[]])=au cm ((gG c rs).map pw++ [[]])
 | [],_,_=>rfl
 | r::rs,c,h=>by
  have hr:=h r G7
  have ih:=rn rs (c+1) λx hx=>h x (G5 _ hx)
  show au cm (bd c r::(f9 (c+1) rs++ [[]]))=au cm ((qH c r++gG (c+1) rs).map pw++ [[]])
  rw[Fh c hr,IJ,Hs];rw[<-ki cm _ ((gG (c+1) rs).map pw++ [[]]) (yL hr)];rw[dB cm _ (by simp),dB cm _ (by simp),ih]
theorem ju:∀(rs:List i6) (c:Nat),(gG c rs).map (·.2)=rs.flatten.map (·.2)
 | [],_=>rfl
 | r::rs,c=>by
  show(qH c r++gG (c+1) rs).map (·.2)=_
  rw[IJ,ju rs,Ip,IJ]
  congr 1
  cases r with
  | nil=>rfl
  | cons x r=>show x.2::(r.map λx=>(dg x.1,x.2)).map (·.2)=_;rw[Hu];rfl
theorem pq:∀(rs:List i6) (c:Nat),∀q∈gG c rs,∀n∈q.1,n≠97/\n≠44/\n≠10
 | [],_,q,h=>by cases h
 | r::rs,c,q,h=>by
  rcases G8.mp (show q∈qH c r++gG (c+1) rs from h)with h | h
  ·have dn:∀(i:Int) (n:Nat),n∈dg i->n≠97/\n≠44/\n≠10:=λi n z=>by rcases jH i n z with z | z <;> omega
   cases r with
   | nil=>cases h
   | cons x r=>
    rcases Hd.mp h with rfl | h
    ·intro n hn
     rcases G8.mp hn with hn | hn
     ·exact dn _ n hn
     ·rcases G8.mp hn with hn | hn
      ·simp at hn;omega
      ·exact dn _ n hn
    ·obtain⟨x,_,rfl⟩:=Hb.mp h
     exact λn hn=>dn _ n hn
  ·exact pq rs (c+1) q h
theorem yI {q:List Nat×Int}(h:∀n∈q.1,n≠97/\n≠44/\n≠10):44∉pw q/\10∉pw q:=by
 have key:∀n∈pw q,n≠44/\n≠10:=λn hn=>by
  rcases G8.mp hn with hn | hn
  ·exact(h n hn).2
  ·rcases G8.mp hn with hn | hn
   ·simp at hn;omega
   ·rcases jH q.2 n hn with z | z <;> omega
 exact⟨λz=>(key _ z).1 rfl,λz=>(key _ z).2 rfl⟩
theorem fj {y:List Nat}{x:Nat}:∀{ps:List (List Nat)},x∈au y ps->x∈y\/∃p∈ps,x∈p
 | [],h=>by cases h
 | [p],h=> .inr ⟨p,G7,h⟩
 | p::q::r,h=>by
  rcases G8.mp (show x∈p++(y++au y (q::r))from h)with h | h
  ·exact .inr ⟨p,G7,h⟩
  ·rcases G8.mp h with h | h
   ·exact .inl h
   ·rcases fj h with h | ⟨p',hp,h⟩
    ·exact .inl h
    ·exact .inr ⟨p',G5 _ hp,h⟩
theorem Ab (c:Nat)(r:i6):10∉bd c r:=λz=>by
 unfold bd at z;rcases G8.mp z with z | z
 ·rcases jH _ _ z with z | z <;> omega
 ·rcases G8.mp z with z | z
  ·simp at z
  ·rcases fj z with z | ⟨p,hp,z⟩
   ·simp at z
   ·obtain⟨x,_,rfl⟩:=Hb.mp hp
    rcases G8.mp z with z | z
    ·rcases jH _ _ z with z | z <;> omega
    ·rcases G8.mp z with z | z
     ·simp at z
     ·rcases jH _ _ z with z | z <;> omega
theorem lS:∀(rs:List i6) (c:Nat),∀p∈f9 c rs++ [[]],10∉p
 | [],_,p,h=>by simp[f9]at h;subst h;simp
 | r::rs,c,p,h=>by
  rcases Hd.mp (show p∈bd c r::(f9 (c+1) rs++ [[]])from h)with rfl | h
  ·exact Ab c r
  ·exact lS rs (c+1) p h
def AtN (l:List Nat)(n:Nat):Prop:=∃qs:List (List Nat),l=au lU qs/\(∀q∈qs,97∉q)/\qs.length=n+1
theorem qh {l:List Nat}(h:97∉l):AtN l 0:=⟨[l],rfl,λq hq=>by rw[Ht]at hq;exact hq▸h,rfl⟩
theorem atn1:AtN lU 1:=⟨[[],[]],rfl,λq hq=>by simp at hq;subst hq;simp,rfl⟩
theorem lF (y:List Nat):∀(ps:List (List Nat)) (p q:List Nat) (qs:List (List Nat)),au y (ps++ [p])++au y (q::qs)=au y (ps++(p++q)::qs)
 | [],p,q,qs=>dX y p q qs
 | [a],p,q,qs=>by
  show(a++(y++p))++au y (q::qs)=a++(y++au y ((p++q)::qs))
  rw[<-dX];simp only[Hs]
 | a::b::ps,p,q,qs=>by
  have:=lF y (b::ps) p q qs
  show(a++(y++au y (b::ps++ [p])))++au y (q::qs)=a++(y++au y (b::ps++(p++q)::qs))
  rw[<-this];simp only[Hs]
theorem AtN.app {l m:List Nat}{a b:Nat}(h:AtN l a)(h2:AtN m b):AtN (l++m) (a+b):=by
 obtain⟨ps,rfl,f1,n1⟩:=h;obtain⟨qs,rfl,f2,n2⟩:=h2
 cases qs with
 | nil=>simp at n2
 | cons q qs=>
  rcases MM ps with rfl | ⟨ps',p,rfl⟩
  ·simp at n1
  ·refine⟨ps'++(p++q)::qs,by rw[MN,lF],λz hz=> ?_,?_⟩
   ·rcases G8.mp hz with hz | hz
    ·exact f1 z (by simp[hz])
    ·rcases Hd.mp hz with rfl | hz
     ·intro w
      rcases G8.mp w with w | w
      ·exact f1 p (by simp) w
      ·exact f2 q G7 w
     ·exact f2 z (G5 _ hz)
   ·simp at n1 n2 ⊢;omega
theorem CN (i:Int):97∉dg i:=λz=>by rcases jH i _ z with z | z <;> omega
theorem Al (x:Int×Int):AtN (wd x) 1:=(qh (CN x.1)).app (atn1.app (qh (CN x.2)))
theorem vA:∀r:i6,AtN (au cm (r.map wd)) r.length
 | [] =>qh (by simp[au])
 | [x] =>Al x
 | x::y::r=>by
  have:=(Al x).app ((qh (l:=cm) (by simp)).app (vA (y::r)))
  rw[Kq,Nat.add_comm]at this;exact this
theorem Fi (c:Nat)(r:i6):AtN (bd c r) r.length:=by
 have:=(qh (CN (c:Int))).app ((qh (l:=[58,32]) (by simp)).app (vA r))
 rwa [Kq,Kq]at this
theorem Aq:∀(rs:List i6) (c:Nat),AtN (tt c rs) rs.flatten.length
 | [],_=>qh (by simp[tt])
 | r::rs,c=>by
  have:=(Fi c r).app ((qh (l:=[10]) (by simp)).app (Aq rs (c+1)))
  rw[Kq]at this;rw[Ip,GY];exact this
end G
namespace G
open PySem Tr Gr PySem.StrLaws PySem.NumText PyProof.Rows
def uE (cs:List T)(v:N2):Int:=match DI cs (en v)with
 | .int i=>i
 | _=>0
def Sm (i:Int):Prop:=-(10 ^ 10)<i/\i<10 ^ 10
section
variable {cs ls:List T}{L:i7 N2}{P:List N2}{t:N2->Int}
theorem Rd.mem (R:Rd cs ls L P){v:N2}(hv:v∈P):en v∈di 0 cs:=by rw[R.e];exact Hb.mpr ⟨v,hv,rfl⟩
theorem Rd.rdi (R:Rd cs ls L P){v:N2}(hv:v∈P):cu [(RR cs ls),en v] = .ok (.int (uE cs v))/\Sm (uE cs v):=by
 have hm:=R.mem hv
 have pr:=tL R.g hm;obtain⟨c,k,e0,h1,h2,h3⟩:=ft cs 0 hm
 have hcl:c<cs.length:=by omega
 obtain⟨x,y,r,e,hx,hy,hb⟩:=iX ((aS R.g.c).1 cs[c] (Jp hcl))
 have e1:cs[c]? =some (.tup [.int x,.int y,.tup (r.map .int)]):=by rw[Hv hcl,e]
 have hk:k<r.length:=by
  rw[Kc,HE,e1]at h3
  have:k<(r.map T.int).length:=h3
  rwa [G3]at this
 have e3:DI cs (en v)= .int (r.getD k 0):=by
  rw[e0]
  show(match cs.getD ((c:Int).toNat) .non with
   | .tup [_,_,.tup r] =>r.getD ((k:Int).toNat) .non
   | _=> .non)=_
  rw[HV,HV,HE,e1]
  show(r.map T.int).getD k .non=_
  rw[HE,ij hk]
  rfl
 have e4:uE cs v=r.getD k 0:=by unfold uE;rw[e3]
 rw[pr,e3,e4]
 have:=hb k;exact⟨rfl,by unfold Sm;omega⟩
def jE (c:Nat)(v:N2):Bool:=v.c == (c:Int)
def row (cs:List T)(P:List N2)(t:N2->Int)(c:Nat):i6:=(P.filter (jE c)).map λv=>(uE cs v,t v)
def rows (cs:List T)(P:List N2)(t:N2->Int):List i6:=(Jq 0 cs.length).map (row cs P t)
theorem dY (y:List Nat):∀ps:List (List Nat),(au y ps).length<=(ps.map (·.length)).sum+ps.length*y.length
 | [] =>HZ _
 | [p] =>by show p.length<=p.length+0+_;omega
 | p::q::r=>by
  have:=dY y (q::r)
  show(p++(y++au y (q::r))).length<=_
  rw[GY,GY,G9,JX,G4,MC];omega
theorem nB {n:Nat}:∀{ps:List (List Nat)},(∀p∈ps,p.length<=n)->(ps.map (·.length)).sum<=ps.length*n
 | [],_=>HZ _
 | p::ps,h=>by
  have h2:=nB λx hx=>h x (G5 _ hx)
  have h3:=h p G7;rw[G9,JX,G4,MC];omega
theorem uM {x:Int×Int}(h1:Sm x.1)(h2:Sm x.2):(wd x).length<=26:=by
 have a:=gx h1
 have b:=gx h2;unfold wd;simp only[GY,G4,HJ];omega
theorem rP (R:Rd cs ls L P)(c:Nat):(row cs P t c).length<=16:=by
 unfold row;rw[G3]
 have:=MO (jE c) P
 have:=R.pl;omega
theorem qD (R:Rd cs ls L P)(ht:∀v∈P,Sm (t v))(c:Nat):∀x∈row cs P t c,Sm x.1/\Sm x.2:=λx hx=>by
 obtain⟨v,hv,rfl⟩:=Hb.mp hx
 have hv:=(JM.mp hv).1;exact⟨(R.rdi hv).2,ht v hv⟩
theorem qZ (R:Rd cs ls L P)(ht:∀v∈P,Sm (t v))(c:Nat):(((row cs P t c).map wd).map (·.length)).sum+((row cs P t c).map wd).length*2<=1000:=by
 have h1:=nB (n:=26) (ps:=(row cs P t c).map wd) λp hp=>by
  obtain⟨x,hx,rfl⟩:=Hb.mp hp
  have:=qD R ht c x hx;exact uM this.1 this.2
 have h2:=rP (t:=t) R c;rw[G3]at h1 ⊢;omega
theorem lT (R:Rd cs ls L P)(ht:∀v∈P,Sm (t v)){c:Nat}(hc:c<1000):(bd c (row cs P t c)).length<=1100:=by
 have h:=dY cm ((row cs P t c).map wd)
 have h2:=qZ R ht c
 have h3:=gx (i:=(c:Int)) (by omega)
 unfold bd;simp only[GY,G4,HJ]at h ⊢;omega
theorem cW {fa fb:En->Rs T}{ρ:En}{a b:List Nat}(ha:fa ρ= .ok (.str (tx a)))(hb:fb ρ= .ok (.str (tx b)))(h:a.length+b.length<=100000):o2 aB fa fb ρ= .ok (.str (tx (a++b))):=aM ha hb (addS h)
theorem jR {f:En->Rs T}{ρ:En}{i:Int}(h:f ρ= .ok (.int i))(h0:Sm i):cl fS (ae f ai) ρ= .ok (.str (tx (dg i))):=aP (aj h aC) (strZ h0)
theorem Dz:Hi ", " =tx cm:=rfl
theorem Rd.line (R:Rd cs ls L P)(ht:∀v∈P,Sm (t v)){c:Nat}(hc:c<1000):dy [(RR cs ls),.int c,i5 P t] = .ok (.str (tx (bd c (row cs P t c)++ [10]))):=by
 have hp:=R.pl;refine ck rfl ?_
 show gW [.va (RR cs ls),.va (.int c),.va (i5 P t),.em,.em] =_
 unfold gW
 have e1:fz (iS (cl cA (ae (vr 0) ai))) [none,some 1] (gN 0) (tb (o2 eqT (o2 bY (vr 0) (cn (.int 0))) (vr 1))) (vr 0) [.va (RR cs ls),.va (.int c),.va (i5 P t),.em,.em] = .ok (.lst ((P.filter (jE c)).map en)):=by
  have:=EA (fc:=tb (o2 eqT (o2 bY (vr 0) (cn (.int 0))) (vr 1))) (fe:=vr 0) (p:=λu=>match u with | .tup [.int a,_] =>a == (c:Int) | _=>false) (h:=λu=>u) (src:=[none,some 1]) (ρ:=[.va (RR cs ls),.va (.int c),.va (i5 P t),.em,.em]) (fi:=iS (cl cA (ae (vr 0) ai))) (ts:=P.map en) (ED (aP (aj (t:=RR cs ls) rfl aC) R.events)) (by rw[G3];exact cM (by omega)) (by decide) (λu hu=>by
   obtain⟨v,hv,rfl⟩:=Hb.mp hu;exact⟨cK (aM (t:=.int v.c) (u:=.int c) rfl rfl (jU _ _)),λ_=>rfl⟩)
  rw[this,List.filter_map,Hu]
  rfl
 rw[aJ (bX e1 (show gN 3 _ _= .ok [.va (RR cs ls),.va (.int c),.va (i5 P t),.va (.lst ((P.filter (jE c)).map en)),.em]from rfl))]
 have e2:fz (iS (vr 3)) [none,some 0,some 2] (gN 0) bT (o2 aB (o2 aB (cl fS (ae (cl cu (ae (vr 1) (ae (vr 0) ai))) ai)) (cn (.str " at "))) (cl fS (ae (o2 mr (vr 2) (vr 0)) ai))) [.va (RR cs ls),.va (.int c),.va (i5 P t),.va (.lst ((P.filter (jE c)).map en)),.em] = .ok (.lst (((row cs P t c).map wd).map λp=>T.str (tx p))):=by
  have:=qW (fe:=o2 aB (o2 aB (cl fS (ae (cl cu (ae (vr 1) (ae (vr 0) ai))) ai)) (cn (.str " at "))) (cl fS (ae (o2 mr (vr 2) (vr 0)) ai))) (h:=λu=>match u with | .tup [.int a,.int k] =>T.str (tx (wd (uE cs ⟨a,k⟩,t ⟨a,k⟩))) | _=> .non) (src:=[none,some 0,some 2]) (ρ:=[.va (RR cs ls),.va (.int c),.va (i5 P t),.va (.lst ((P.filter (jE c)).map en)),.em]) (fi:=iS (vr 3)) (ts:=(P.filter (jE c)).map en) rfl (by rw[G3];have:=MO (jE c) P;exact cM (by omega)) (by decide) (λu hu=>by
   obtain⟨v,hv,rfl⟩:=Hb.mp hu
   have hv:=(JM.mp hv).1;obtain⟨r1,r2⟩:=R.rdi hv
   have t2:=ht v hv
   have l1:=gx r2
   have l2:=gx t2;refine(cW (cW (jR (aP (aj rfl (aj rfl aC)) r1) r2) (b:=lU) rfl ?_) (jR (AR rfl rfl hv) t2) ?_).trans ?_
   any_goals (simp only[GY,G4,HJ];omega)
   show _=Rs.ok (T.str (tx (wd (uE cs v,t v))))
   unfold wd;rw[Hs])
  rw[this,Hu,Hu];unfold row;rw[Hu]
  rfl
 rw[aJ (bX e2 (show gN 4 _ _= .ok [.va (RR cs ls),.va (.int c),.va (i5 P t),.va (.lst ((P.filter (jE c)).map en)),.va (.lst (((row cs P t c).map wd).map λp=>T.str (tx p)))]from rfl))]
 have hl:=qZ R ht c
 have hb:=lT R ht hc
 have h3:=gx (i:=(c:Int)) (by omega)
 have hi:=dY cm ((row cs P t c).map wd)
 have ej:oS gP (cn (.str ", ")) (ae (vr 4) ai) [.va (RR cs ls),.va (.int c),.va (i5 P t),.va (.lst ((P.filter (jE c)).map en)),.va (.lst (((row cs P t c).map wd).map λp=>T.str (tx p)))] = .ok (.str (tx (au cm ((row cs P t c).map wd)))):=
  qV rfl (aj (t:=.lst (((row cs P t c).map wd).map λp=>T.str (tx p))) rfl aC) (by rw[Dz];exact AL (by simp only[GY,G4,HJ];omega))
 simp only[GY,G4,HJ]at hi;refine dA ((cW (cW (cW (jR (i:=(c:Int)) rfl (by unfold Sm;omega)) (b:=[58,32]) rfl ?_) ej ?_) (b:=[10]) rfl ?_).trans ?_)
 any_goals (simp only[GY,G4,HJ];omega)
 unfold bd;simp only[Hs]
end
theorem grp:∀(cs:List T) (i:Nat) (Q:List N2),Q.map en=di i cs->((Jq i cs.length).map λc=>Q.filter (jE c)).flatten=Q
 | [],i,Q,h=>by
  rw[JY.mp h];rfl
 | c::r,i,Q,h=>by
  obtain⟨Q1,Q2,rfl,h1,h2⟩:=Mw.mp (show Q.map en=fP i (qG c)++di (i+1) r from h)
  have ih:=grp r (i+1) Q2 h2
  have a1:∀v∈Q1,v.c=(i:Int):=λv hv=>by
   have:en v∈fP i (qG c):=by rw[<-h1];exact Hb.mpr ⟨v,hv,rfl⟩
   obtain⟨u,hu,e⟩:=Hb.mp this;unfold en at e
   have:=T.tup.inj e;simp only[Kw,T.int.injEq]at this;exact this.1.symm
  have a2:∀v∈Q2,(i:Int)+1<=v.c:=λv hv=>by
   have:en v∈di (i+1) r:=by rw[<-h2];exact Hb.mpr ⟨v,hv,rfl⟩
   obtain⟨a,k,e,h3,_⟩:=ft r (i+1) this;unfold en at e
   have:=T.tup.inj e;simp only[Kw,T.int.injEq]at this;omega
  rw[G4,Mr,G9,Ip]
  have e1:(Q1++Q2).filter (jE i)=Q1:=by
   rw[KC,Ln.mpr λv hv=>by unfold jE;rw[a1 v hv];simp,J3.mpr λv hv z=> ?_,Ii]
   have:=a2 v hv;unfold jE at z
   have:=eq_of_beq z;omega
  have e2:((Jq (i+1) r.length).map λc=>(Q1++Q2).filter (jE c))=(Jq (i+1) r.length).map λc=>Q2.filter (jE c):=by
   refine IL λk hk=> ?_
   rw[KC,J3.mpr λv hv z=> ?_,Jy]
   have:=a1 v hv;unfold jE at z
   have:=eq_of_beq z;rw[KP]at hk;omega
  rw[e1,e2,ih]
theorem qg (f:Nat->i6):∀(n i:Nat),f9 i ((Jq i n).map f)=(Jq i n).map λc=>bd c (f c)
 | 0,_=>rfl
 | n+1,i=>by
  rw[Mr,G9,G9]
  show bd i (f i)::f9 (i+1) _=_
  rw[qg f n (i+1)]
theorem xr (a:List T)(x:T):fZ (a++ [x]) none (some (-1))=a:=by
 have e:HT.sIx (a++ [x]).length (a++ [x]).length (some (-1))=a.length:=by
  show(if (-1:Int)<0 then((-1:Int)+((a++ [x]).length:Int)).toNat else min (-1:Int).toNat (a++ [x]).length)=_
  rw[if_pos (by decide),GY,Ik]
  omega
 unfold fZ;rw[e,HT.sIx_none,LP,Kc,M9]
section
variable {cs ls:List T}{L:i7 N2}{P:List N2}{t:N2->Int}
theorem Rd.flat (R:Rd cs ls L P):(rows cs P t).flatten=P.map λv=>(uE cs v,t v):=by
 have:=grp cs 0 P R.e.symm;unfold rows
 have e:((Jq 0 cs.length).map (row cs P t))=((Jq 0 cs.length).map λc=>P.filter (jE c)).map (List.map λv=>(uE cs v,t v)):=by
  rw[Hu];rfl
 rw[e,<-List.map_flatten,this]
theorem Rd.rne (R:Rd cs ls L P):∀r∈rows cs P t,r≠ []:=λr hr z=>by
 obtain⟨c,hc,rfl⟩:=Hb.mp hr;rw[KP]at hc
 have hcl:c<cs.length:=by omega
 obtain⟨x,y,q,e,q1,_⟩:=dC ((aS R.g.c).1 cs[c] (Jp hcl))
 have hm:T.tup [.int (c:Int),.int ((0:Nat):Int)] ∈di 0 cs:=n5 (cs:=cs) (HZ _) (by omega) (by
  rw[Kc,HE,Hv hcl,e]
  show 0<q.length
  omega)
 rw[R.e]at hm;obtain⟨v,hv,ev⟩:=Hb.mp hm;unfold en at ev
 have:=T.tup.inj ev;simp only[Kw,T.int.injEq]at this
 have hin:v∈P.filter (jE c):=JM.mpr ⟨hv,by unfold jE;rw[this.1];simp⟩
 unfold row at z;rw[JY.mp z]at hin;cases hin
abbrev bZ (cs:List T)(P:List N2)(t:N2->Int):List Nat:=tt 0 (rows cs P t)
theorem Rd.GC (R:Rd cs ls L P):bZ cs P t=((Jq 0 cs.length).map λc=>bd c (row cs P t c)++ [10]).flatten:=by
 show tt 0 (rows cs P t)=_
 rw[rJ];unfold rows;rw[qg,Hu]
 rfl
theorem sG {n:Nat}:∀{ps:List (List Nat)},(∀p∈ps,p.length<=n)->ps.flatten.length<=ps.length*n
 | [],_=>HZ _
 | p::ps,h=>by
  have h1:=sG λx hx=>h x (G5 _ hx)
  have h3:=h p G7;rw[Ip,GY,G4,MC];omega
theorem Rd.Gq (R:Rd cs ls L P)(ht:∀v∈P,Sm (t v)):(bZ cs P t).length<=5000:=by
 obtain⟨_,c1,c4⟩:=aS R.g.c;rw[R.GC]
 have:=sG (n:=1101) (ps:=(Jq 0 cs.length).map λc=>bd c (row cs P t c)++ [10]) λp hp=>by
  obtain⟨c,hc,rfl⟩:=Hb.mp hp;rw[KP]at hc
  have:=lT R ht (c:=c) (by omega)
  rw[GY];show _+1<=_;omega
 rw[G3,Jn]at this;omega
def Ok9 (i:Int):Prop:=-999999999<=i/\i<=999999999
theorem Ok9.sm {i:Int}(h:Ok9 i):Sm i:=by unfold Ok9 at h;unfold Sm;omega
theorem zq (τ:List Int):(T.tup (τ.map .int)).pl=true:=by
 rw[pl_tup];exact fU λu hu=>by obtain⟨v,_,rfl⟩:=Hb.mp hu;rfl
theorem Rd.cbw (R:Rd cs ls L P)(τ:List Int):aK [(RR cs ls),.tup (τ.map .int)] = .ok (.bl (decide (τ.length=P.length)&&(τ.map T.int).all λu=>within u (-999999999) 999999999)):=by
 have ha:=R.Gu (zq τ)
 have e:jD P.length (.tup (τ.map .int))=decide (τ.length=P.length):=by
  unfold jD
  have:((τ.map T.int).all AM)=true:=HC.mpr λu hu=>by obtain⟨v,_,rfl⟩:=Hb.mp hu;rfl
  show(c8 (.tup (τ.map .int)) P.length P.length&&(τ.map T.int).all AM)=_
  rw[this,ND];simp only[c8,G3]
  by_cases h:τ.length=P.length
  ·simp[h]
  ·rw[decide_eq_false h]
   by_cases h2:P.length<=τ.length
   ·rw[decide_eq_true h2,decide_eq_false (by omega)];rfl
   ·rw[decide_eq_false h2];rfl
 rw[e]at ha;refine ck rfl (dA (og (aP (aj (t:=RR cs ls) rfl (aj (t:=.tup (τ.map .int)) rfl aC)) ha) λh=> ?_))
 have hl:=of_decide_eq_true h
 have:=R.pl;refine i0 (l:=τ.map T.int) (ua rfl) (cM (by rw[G3];omega)) (by simp) λu hu=> ?_
 obtain⟨v,_,rfl⟩:=Hb.mp hu;exact aP (ts:=[.int v,.int (-999999999),.int 999999999]) rfl (dm (.int v) _ _ rfl)
theorem Rd.GH (R:Rd cs ls L P)(ht:∀v∈P,Ok9 (t v)):aK [(RR cs ls),bp P t] = .ok (.bl true):=by
 have:=R.cbw (P.map t);rw[Hu]at this
 show aK [(RR cs ls),.tup (P.map (T.int∘t))] =_
 rw[this,G3,decide_eq_true rfl,Lc]
 congr 2
 rw[HC];intro u hu;obtain⟨v,hv,rfl⟩:=Hb.mp hu
 have:=ht v hv;unfold Ok9 at this;simp only[Function.comp,within,G6,decide_eq_true_eq];omega
theorem Rd.F8 (R:Rd cs ls L P)(ht:∀v∈P,Ok9 (t v)):ba [(RR cs ls),bp P t] = .ok (.str (tx (bZ cs P t))):=by
 have hs:∀v∈P,Sm (t v):=λv hv=>(ht v hv).sm
 obtain⟨_,c1,c4⟩:=aS R.g.c;refine ck rfl ?_
 show gd [.va (RR cs ls),.va (bp P t),.em] =_
 unfold gd;rw[aJ ((dP (gO (k:=true) (cK (aP (aj (t:=RR cs ls) rfl (aj (t:=bp P t) rfl aC)) (R.GH ht))))).trans rfl)];rw[aJ (ρ':=[.va (RR cs ls),.va (bp P t),.va (i5 P t)]) (bX (aP (aj (aP (aj (t:=RR cs ls) rfl aC) R.events) (aj (t:=bp P t) rfl aC)) (R.dz t)) rfl)]
 have e1:fz (iR (ae (cl cF (ae (o2 bY (vr 0) (cn (.int 0))) ai)) ai)) [none,some 0,some 2] (gN 0) bT (cl dy (ae (vr 1) (ae (vr 0) (ae (vr 2) ai)))) [.va (RR cs ls),.va (bp P t),.va (i5 P t)] = .ok (.lst (((Jq 0 cs.length).map λc=>bd c (row cs P t c)++ [10]).map λp=>T.str (tx p))):=by
  have:=qW (fe:=cl dy (ae (vr 1) (ae (vr 0) (ae (vr 2) ai)))) (h:=λu=>match u with | .int c=>T.str (tx (bd c.toNat (row cs P t c.toNat)++ [10])) | _=> .non) (src:=[none,some 0,some 2]) (ρ:=[.va (RR cs ls),.va (bp P t),.va (i5 P t)]) (fi:=iR (ae (cl cF (ae (o2 bY (vr 0) (cn (.int 0))) ai)) ai)) (ts:=rng 0 (cs.length:Nat)) (Ct (j:=(cs.length:Nat)) (aj (aP (aj (t:=.tup cs) rfl aC) rfl) aC) (by omega) (by omega)) (by rw[hV];exact cM (by omega)) (by decide) (λu hu=>by
   obtain⟨k,rfl,hk⟩:=kD hu
   show _=Rs.ok (T.str (tx (bd ((k:Int).toNat) (row cs P t ((k:Int).toNat))++ [10])))
   rw[HV];exact aP (aj (t:=RR cs ls) rfl (aj (t:=.int (k:Nat)) rfl (aj (t:=i5 P t) rfl aC))) (R.line hs (by omega)))
  rw[this,jr,Hu,Hu,List.range_eq_range']
  rfl
 have hl:=R.Gq hs;rw[R.GC]at hl ⊢;refine dA (qV rfl (aj e1 aC) ?_)
 rw[show Hi "" =tx []from rfl]
 refine EK ?_
 have:=nB (n:=1101) (ps:=(Jq 0 cs.length).map λc=>bd c (row cs P t c)++ [10]) λp hp=>by
  obtain⟨c,hc,rfl⟩:=Hb.mp hp;rw[KP]at hc
  have:=lT R hs (c:=c) (by omega)
  rw[GY];show _+1<=_;omega
 rw[G3,Jn]at this;omega
end
theorem jT {y p:List Nat}:∀{ps:List (List Nat)},p∈ps->p.length<=(au y ps).length
 | [],h=>by cases h
 | [q],h=>by rw[Ht.mp h];exact He _
 | a::b::r,h=>by
  show _<=(a++(y++au y (b::r))).length
  rw[GY,GY];rcases Hd.mp h with rfl | h
  ·omega
  ·have:=jT (y:=y) h;omega
theorem sU:∀(rs:List i6) (c:Nat),((f9 c rs).map (·.length)).sum<=(tt c rs).length
 | [],_=>He _
 | r::rs,c=>by
  have:=sU rs (c+1)
  show((bd c r::f9 (c+1) rs).map (·.length)).sum<=(bd c r++(10::tt (c+1) rs)).length
  rw[G9,JX,GY,G4];omega
theorem ne_str (a b:List Nat):Tr.neT (.str (tx a)) (.str (tx b))= .ok (.bl (!decide (a=b))):=by
 unfold Tr.neT;rw[if_pos (dM (by simp[T.dep]) rfl rfl)]
 congr 3
 by_cases h:a=b
 ·subst h;rw[decide_eq_true rfl,bP];simp
 ·rw[decide_eq_false h,bP]
  simp only[beq_eq_false_iff_ne,decide_eq_false_iff_not,ne_eq]
  first | exact λz=>h (jJ z) | (intro z;exact h (jJ z))
abbrev DJ:En->Rs Fl:=aI (ei (kn (dj (tb (cl aK (ae (vr 0) (ae (vr 3) ai))))) (tb (o2 neT (cl ba (ae (vr 0) (ae (vr 3) ai))) (vr 1)))) (pe "NoText") sN) (aL (vr 3))
section
variable {cs ls:List T}{L:i7 N2}{P:List N2}
theorem Rd.parse (R:Rd cs ls L P){rs:List i6}(hne:∀r∈rs,r≠ [])(hs:∀x∈rs.flatten,Sm x.2)(hl:(tt 0 rs).length<=5000)(hr:rs.length<=16)(hf:rs.flatten.length<=64) :
  ∃p2,da [.va (RR cs ls),.va (.str (tx (tt 0 rs))),.em,.em] =DJ [.va (RR cs ls),.va (.str (tx (tt 0 rs))),p2,.va (.tup ((rs.flatten.map (·.2)).map .int))]:=by
 have hpl:(gG 0 rs).length=rs.flatten.length:=by
  have:=congrArg Jc (ju rs 0)
  rwa [G3,G3]at this
 have hfree:=pq rs 0
 have hI:(au cm ((gG 0 rs).map pw++ [[]])).length<=6000:=by
  rw[<-rn rs 0 hne]
  have h1:=dY cm (f9 0 rs++ [[]])
  have h2:=sU rs 0;rw[IJ,List.sum_append,GY,oE]at h1;simp only[G9,Lz,JX,List.sum_nil,HJ,G4,GY]at h1;omega
 have e0:o1 (eI "\n" ", ") (vr 1) [.va (RR cs ls),.va (.str (tx (tt 0 rs))),.em,.em] = .ok (.str (tx (au cm ((gG 0 rs).map pw++ [[]])))):=by
  refine wM (t:=.str (tx (tt 0 rs))) rfl ?_
  rw[<-rn rs 0 hne,jj];rw[jj]at hl;exact DD (z:=cm) (by simp) (lS rs 0) (by omega)
 have e1:oS gF (o1 (eI "\n" ", ") (vr 1)) (ae (cn (.str ", ")) ai) [.va (RR cs ls),.va (.str (tx (tt 0 rs))),.em,.em] = .ok (.lst ((((gG 0 rs).map pw).map λp=>T.str (tx p))++ [.str (tx [])])):=by
  refine(qV e0 (aj (t:=.str (tx cm)) rfl aC) (Be (u:=[]) (c:=44) (v:=[32]) (by simp) (by decide+kernel) (by simp) (λp hp=> ?_) (show(au cm ((gG 0 rs).map pw++ [[]])).length<=100000 by omega) (by rw[GY,G3,hpl,Ik];omega))).trans ?_
  ·rcases G8.mp hp with hp | hp
   ·obtain⟨q,hq,rfl⟩:=Hb.mp hp
    exact(yI (hfree q hq)).1
   ·rw[Ht.mp hp];simp
  ·rw[IJ];rfl
 have e2:sl (oS gF (o1 (eI "\n" ", ") (vr 1)) (ae (cn (.str ", ")) ai)) pN (pS (o1 gz (cn (.int 1)))) [.va (RR cs ls),.va (.str (tx (tt 0 rs))),.em,.em] = .ok (.lst (((gG 0 rs).map pw).map λp=>T.str (tx p))):=by
  rw[AH (lo:=none) (hi:=some (-1)) e1 rfl rfl,xr]
 generalize hL:((gG 0 rs).map pw).map (λp=>T.str (tx p))=L2 at e2
 refine⟨.va (.lst L2),?_⟩
 unfold da;rw[aJ (wO (t:=.non) (aP (aj (t:=RR cs ls) rfl aC) (jz R.g.p R.g.ok)))];rw[aJ ((dP (gO (k:=true) (cK (wM (t:=.str (tx (tt 0 rs))) rfl rfl)))).trans rfl)];rw[aJ (ρ':=[.va (RR cs ls),.va (.str (tx (tt 0 rs))),.va (.lst L2),.em]) (bX e2 rfl)]
 have e3:fz (iS (vr 2)) [none] (gN 0) bT (cl bA (ae (o2 bY (oS fK (vr 0) (ae (cn (.str " at ")) ai)) (cn (.int 2))) ai)) [.va (RR cs ls),.va (.str (tx (tt 0 rs))),.va (.lst L2),.em] = .ok (.lst ((rs.flatten.map (·.2)).map .int)):=by
  have key:∀q∈gG 0 rs,fK [.str (tx (pw q)),.str (tx lU)] = .ok (.tup [.str (tx q.1),.str (tx lU),.str (tx (dg q.2))])/\bA [.str (tx (dg q.2))] = .ok (.int q.2):=λq hq=>by
   have hlen:=jT (y:=cm) (ps:=(gG 0 rs).map pw++ [[]]) (p:=pw q) (HG _ (Hb.mpr ⟨q,hq,rfl⟩));refine⟨Ee (u:=[32]) (c:=97) (v:=[116,32]) (a:=q.1) (b:=dg q.2) (by simp) (λz=>(hfree q hq 97 z).1 rfl) (show(pw q).length<=100000 by omega),AO (numZ ?_)⟩
   have:q.2∈rs.flatten.map (·.2):=by rw[<-ju rs 0];exact Hb.mpr ⟨q,hq,rfl⟩
   obtain⟨x,hx,e⟩:=Hb.mp this;rw[<-e];exact hs x hx
  have:=qW (fe:=cl bA (ae (o2 bY (oS fK (vr 0) (ae (cn (.str " at ")) ai)) (cn (.int 2))) ai)) (h:=λu=>match fK [u,.str (tx lU)]with | .ok (.tup [_,_,w])=>(match bA [w]with | .ok x=>x | _=> .non) | _=> .non) (src:=[none]) (ρ:=[.va (RR cs ls),.va (.str (tx (tt 0 rs))),.va (.lst L2),.em]) (fi:=iS (vr 2)) (ts:=L2) rfl (by rw[<-hL,G3,G3,hpl];exact cM (by omega)) (by decide) (λu hu=>by
   rw[<-hL,Hu]at hu;obtain⟨q,hq,rfl⟩:=Hb.mp hu;obtain⟨k1,k2⟩:=key q hq
   show _=Rs.ok (match fK [.str (tx (pw q)),.str (tx lU)]with | .ok (.tup [_,_,w])=>(match bA [w]with | .ok x=>x | _=> .non) | _=> .non)
   rw[k1]
   dsimp only
   rw[k2];exact aP (aj (zj (n:=2) (qV (s:=tx (pw q)) rfl (aj (t:=.str (tx lU)) rfl aC) k1) rfl rfl) aC) k2)
  rw[this,<-ju rs 0,<-hL,Hu,Hu,Hu]
  congr 2
  refine IL λq hq=> ?_
  obtain⟨k1,k2⟩:=key q hq
  show(match fK [.str (tx (pw q)),.str (tx lU)]with | .ok (.tup [_,_,w])=>(match bA [w]with | .ok x=>x | _=> .non) | _=> .non)=T.int q.2
  rw[k1]
  dsimp only
  rw[k2]
 rw[aJ (ρ':=[.va (RR cs ls),.va (.str (tx (tt 0 rs))),.va (.lst L2),.va (.tup ((rs.flatten.map (·.2)).map .int))]) (bX (aP (x:=.ok (.tup ((rs.flatten.map (·.2)).map .int))) (aj e3 aC) (by first | rfl | (show e9 _=_;unfold e9;rw[if_pos (cM (by rw[G3,G3];omega))]))) rfl)]
variable {cs0 ls0:List T}{L0:i7 N2}{P0:List N2}{t:N2->Int}
theorem Rd.GQ (R:Rd cs ls L P)(R0:Rd cs0 ls0 L0 P0)(ht:∀v∈P,Ok9 (t v)) :
  ∃p2,da [.va (.tup [.tup cs0,.tup ls0]),.va (.str (tx (bZ cs P t))),.em,.em] =DJ [.va (.tup [.tup cs0,.tup ls0]),.va (.str (tx (bZ cs P t))),p2,.va (bp P t)]:=by
 obtain⟨_,c1,c4⟩:=aS R.g.c
 have hp:=R.pl
 have hs:∀v∈P,Sm (t v):=λv hv=>(ht v hv).sm
 obtain⟨p2,e⟩:=R0.parse (rs:=rows cs P t) R.rne (λx hx=>by rw[R.flat]at hx;obtain⟨v,hv,rfl⟩:=Hb.mp hx;exact hs v hv) (R.Gq hs) (by unfold rows;rw[G3,Jn];omega) (by rw[R.flat,G3];omega)
 refine⟨p2,?_⟩
 rw[R.flat,Hu,Hu]at e;exact e
theorem Rd.back (R:Rd cs ls L P)(R0:Rd cs ls0 L0 P)(ht:∀v∈P,Ok9 (t v)):aX [.tup [.tup cs,.tup ls0],.str (tx (bZ cs P t))] = .ok (bp P t):=by
 obtain⟨p2,e⟩:=R.GQ R0 ht;refine ck rfl (Md e ?_)
 unfold DJ;rw[aJ ((dP (pO (gO (k:=true) (cK (aP (aj (t:=.tup [.tup cs,.tup ls0]) rfl (aj (t:=bp P t) rfl aC)) (R0.GH ht)))) (cK (aM (aP (aj (t:=.tup [.tup cs,.tup ls0]) rfl (aj (t:=bp P t) rfl aC)) (R0.F8 ht)) rfl ((ne_str _ _).trans (by rw[decide_eq_true rfl];rfl)))))).trans rfl)]
 exact dA rfl
end
abbrev dtF:En->Rs Fl:=(aI (c6 (o2 bY (gU (ae (cn (.int 1)) (ae (cn (.int 1)) (ae (cn (.int 1)) (ae (cn (.int 24999)) ai))))) (cl aw (ae (vr 0) (ae (o2 aB (o2 aB (vr 1) (vr 5)) (cn (.int 20))) (ae (cn (.int 4)) ai))))) (gN 6)) (c6 (o2 aB (vr 4) (br (ae (o2 km (o2 cb (cl aw (ae (vr 0) (ae (o2 aB (vr 1) (vr 5)) (ae (cn (.int 41)) ai)))) (vr 6)) (cn (.int 20))) ai))) (gN 4)))
theorem zI (ns:List Int)(hn:ns.length<=63)(a:Nat)(r e:T)(k:Nat)(fs:List T)(hf:fs.length<=100)(s6:Sl):∃(x:Int) (u:Sl),dtF [.va (.scr ns),.va (.int (a:Nat)),.va r,.va e,.va (.tup (fs)),.va (.int (k:Nat)),s6] = .ok (.nx [.va (.scr ns),.va (.int (a:Nat)),.va r,.va e,.va (.tup (fs++ [.int x])),.va (.int (k:Nat)),u])/\Ok9 x:=by
 obtain⟨d1,e1,p1,q1⟩:=bV ns (a+k+20) 4 hn (by omega)
 obtain⟨d2,e2,p2,q2⟩:=bV ns (a+k) 41 hn (by omega)
 obtain⟨y,ey,hy⟩:∃y:Int,bY (.lst [.int 1,.int 1,.int 1,.int 24999]) (.int d1)= .ok (.int y)/\(y=1\/y=24999):=by
  have:d1=0\/d1=1\/d1=2\/d1=3:=by omega
  rcases this with rfl | rfl | rfl | rfl
  ·exact⟨_,rfl,.inl rfl⟩
  ·exact⟨_,rfl,.inl rfl⟩
  ·exact⟨_,rfl,.inl rfl⟩
  ·exact⟨_,rfl,.inr rfl⟩
 refine⟨d2*y - 20,.va (.int y),?_,?_⟩
 ·unfold dtF
  rw[aJ (ρ':=[.va (.scr ns),.va (.int (a:Nat)),.va r,.va e,.va (.tup (fs)),.va (.int (k:Nat)),.va (.int y)]) (bX (aM (lA (aj (t:=.int 1) rfl (aj (t:=.int 1) rfl (aj (t:=.int 1) rfl (aj (t:=.int 24999) rfl aC)))) (cM (by simp))) (bS (k:=a+k+20) e1 rfl rfl rfl) ey) rfl)]
  exact bX (aM (t:=.tup fs) (u:=.tup [.int (d2*y - 20)]) rfl (cf (aj (aM (t:=.int (d2*y)) (u:=.int 20) (aM (t:=.int d2) (u:=.int y) (bS (k:=a+k) e2 rfl rfl rfl) rfl (kc (by omega) (by omega))) rfl rfl) aC) (cM (by simp))) (gb _ _ (by simp;omega))) rfl
 ·unfold Ok9
  rcases hy with rfl | rfl <;> omega
theorem sL (ns:List Int)(hn:ns.length<=63)(a:Nat)(r e:T):∀(js:List Nat) (xs:List Int) (s5 s6:Sl),xs.length+js.length<=100->(∀x∈xs,Ok9 x)->∃(ys:List Int) (t5 t6:Sl),bF (gN 5) dtF (js.map λ(j:Nat)=>T.int j) [.va (.scr ns),.va (.int (a:Nat)),.va r,.va e,.va (.tup (xs.map .int)),s5,s6] = .ok (.nx [.va (.scr ns),.va (.int (a:Nat)),.va r,.va e,.va (.tup (ys.map .int)),t5,t6])/\(∀x∈ys,Ok9 x)/\ys.length=xs.length+js.length
 | [],xs,s5,s6,_,h=>⟨xs,s5,s6,rfl,h,rfl⟩
 | j::js,xs,s5,s6,hl,h=>by
  rw[G4]at hl;obtain⟨x,u,e1,hx⟩:=zI ns hn a r e j (xs.map .int) (by rw[G3];omega) s6
  obtain⟨ys,t5,t6,e2,h2,n2⟩:=sL ns hn a r e js (xs++ [x]) (.va (.int (j:Nat))) u (by rw[GY];show _+1+_<=_;omega) (λy hy=>(G8.mp hy).elim (h y) λz=>by rw[Ht]at z;exact z▸hx)
  refine⟨ys,t5,t6,?_,h2,by simp only[n2,GY,G4,HJ];omega⟩
  rw[G9,fh (ρ1:=[.va (.scr ns),.va (.int (a:Nat)),.va r,.va e,.va (.tup (xs.map .int)),.va (.int (j:Nat)),s6]) rfl e1];rw[IJ]at e2;exact e2
theorem Rd.Gv {cs ls:List T}{L:i7 N2}{P:List N2}(R:Rd cs ls L P)(ns:List Int)(hn:ns.length<=63)(a:Nat):∃t:N2->Int,dJ [.scr ns,.int (a:Nat),RR cs ls] = .ok (bp P t)/\∀v∈P,Ok9 (t v):=by
 have hp:=R.pl;obtain⟨ys,t5,t6,e,h,n⟩:=sL ns hn a (RR cs ls) (eS P) (Io P.length) [] .em .em (by simp;omega) (λx h=>by cases h)
 rw[Jv,HJ,Kq]at n;obtain⟨t,ht⟩:=pT R.nd n;refine⟨t,?_,λv hv=>h _ (by rw[<-ht];exact Hb.mpr ⟨v,hv,rfl⟩)⟩
 refine ck rfl ?_
 show gm [.va (.scr ns),.va (.int (a:Nat)),.va (RR cs ls),.em,.em,.em,.em] =_
 unfold gm;rw[aJ (ρ':=[.va (.scr ns),.va (.int (a:Nat)),.va (RR cs ls),.va (eS P),.em,.em,.em]) (bX (aP (aj (t:=.tup cs) rfl aC) ((lG cs R.g.c).trans (by rw[R.e];rfl))) rfl)]
 rw[aJ (ρ':=[.va (.scr ns),.va (.int (a:Nat)),.va (RR cs ls),.va (eS P),.va (.tup []),.em,.em]) (bX (cf (ts:=[]) rfl (cM (by simp))) rfl)]
 rw[aJ (iF (Ct (j:=(P.length:Nat)) (aj (aP (aj (t:=eS P) rfl aC) (by show Rs.ok (T.int ((P.map en).length:Nat))=_;rw[G3])) aC) (by omega) (by omega)) (by rw[jr];exact e))]
 refine(dA rfl).trans ?_
 rw[<-ht,Hu]
 rfl
def Tm (s:Str)(n:Nat):Prop:=s.length<=n/\∀c∈s.cps.toList,c<1114112
theorem mX {y p:List Nat}{n:Nat}:∀{ps:List (List Nat)},p∈ps->n∈p->n∈au y ps
 | [],h,_=>by cases h
 | [q],h,hn=>by rw[Ht.mp h]at hn;exact hn
 | a::b::r,h,hn=>by
  show n∈a++(y++au y (b::r))
  rcases Hd.mp h with rfl | h
  ·exact HG _ hn
  ·exact Hg _ (Hg _ (mX h hn))
theorem kF (x:Str):x.cps.toList.length=x.length:=Jw
theorem vp {x y:Str}{n:Nat}(h:Tm x n){p:Str}(hp:p∈Ic x y):Tm p n:=by
 have e:=join_split x y;rw[<-kP (Ic x y),<-kO y,fN]at e
 have hm:p.cps.toList∈(Ic x (tx y.cps.toList)).map λz=>z.cps.toList:=by rw[kO];exact Hb.mpr ⟨p,hp,rfl⟩
 have ex:au y.cps.toList ((Ic x (tx y.cps.toList)).map λz=>z.cps.toList)=x.cps.toList:=by rw[<-e,cJ,e]
 refine⟨?_,λc hc=>h.2 c ?_⟩
 ·have:=jT (y:=y.cps.toList) hm
  rw[ex,kF,kF]at this;exact Hz this h.1
 ·rw[<-ex];exact mX hm hc
theorem mH (x y:Str)(hw:1<=y.length):(Ic x y).length<=x.length+2:=by
 unfold Ic;split
 ·simp
 ·split
  ·simp
  ·rw[partsBetween_eq]
   have pf:∀(cuts:List Nat) (a:Nat),(partsFrom x y.length a cuts).length=cuts.length+1:=by
    intro cuts
    induction cuts with
    | nil=>intro a;rfl
    | cons c r ih=>intro a;show(partsFrom x y.length (c+y.length) r).length+1=_;rw[ih];rfl
   rw[pf]
   have:=occ_length_le x y 0 x.length (x.length+1);omega
theorem yW {x y:Str}{n:Nat}(h:Tm x n):Tm (Ie x y).2.2 n:=by
 unfold Ie;split
 ·refine⟨?_,λc hc=>h.2 c ?_⟩
  ·dsimp only
   rw[<-kF,strSub_toList,IK,Ig,kF]
   have:=h.1;omega
  ·dsimp only at hc
   rw[strSub_toList]at hc;exact JK (Kg hc)
 ·exact⟨HZ _,λc hc=>by cases hc⟩
theorem za {x:Str}(h:Tm x 640):tO (.str x)= .ok (iP x):=by
 show(if x.length<=640/\x.cps.all (· <1114112)=true then Rs.ok (iP x)else .bad)=_
 rw[if_pos ⟨h.1,by rw[JI];intro c hc;simpa using h.2 c (by simpa using hc)⟩]
theorem y9 (x:Str):iP x= .non\/∃i:Int,iP x= .int i:=by
 unfold iP;split
 ·exact .inr ⟨_,rfl⟩
 ·exact .inl rfl
theorem jS:∀ps:List (List Nat),ps≠ []->(∀p∈ps,10∉p)->(bU 10 ps).count 10+1=ps.length/\(bU 10 ps).length+1=(ps.map (·.length)).sum+ps.length
 | [],h,_=>absurd rfl h
 | [p],_,hf=>by
  refine⟨?_,by simp[bU]⟩
  show p.count 10+1=1
  rw[NG.mpr (hf p G7)]
 | p::q::r,_,hf=>by
  obtain⟨h1,h2⟩:=jS (q::r) (by simp) λx hx=>hf x (G5 _ hx)
  have hp:=NG.mpr (hf p G7);refine⟨?_,?_⟩
  ·show(p++10::bU 10 (q::r)).count 10+1=_
   rw[Ij,hp,List.count_cons_self,G4];omega
  ·show(p++10::bU 10 (q::r)).length+1=_
   rw[GY,G4,G9,JX,G4];omega
theorem ym {s:Str}(h:Tm s 600)(hn:s.cps.toList.count 10<=30):∃r,eI (tx [10]) (tx cm) (.str s)= .ok (.str r)/\Tm r 640:=by
 have e:=join_split s (tx [10])
 have f:=split_free s 10
 have n:=o7 s (tx [10])
 have hps:s=tx (bU 10 ((Ic s (tx [10])).map λz=>z.cps.toList)):=by
  rw[<-oh,kP];exact e.symm
 have hr:=replace_one s (tx cm) 10;rw[show(⟨#[10]⟩:Str)=tx [10]from rfl]at hr f
 generalize hP:(Ic s (tx [10])).map (λz=>z.cps.toList)=ps at hps
 have hr2:Mi s (tx [10]) (tx cm)=tx (au cm ps):=by rw[hr,<-fN,<-hP,kP]
 have hne:ps≠ []:=by rw[<-hP];intro z;exact n (JY.mp z)
 have hf:∀p∈ps,10∉p:=λp hp=>by
  rw[<-hP]at hp;obtain⟨z,hz,rfl⟩:=Hb.mp hp;exact f z hz
 obtain⟨c1,c2⟩:=jS ps hne hf
 have hl:=h.1;rw[hps,cJ]at hn;rw[hps,aZ]at hl;refine⟨tx (au cm ps),?_,?_,λc hc=> ?_⟩
 ·show(if s.length<=1048576 then Rs.ok (T.str (Mi s (tx [10]) (tx cm)))else .bad)=_
  rw[if_pos (Hz h.1 (by decide)),hr2]
 ·rw[aZ]
  have key:∀qs:List (List Nat),qs≠ []->(au cm qs).length+2=(qs.map (·.length)).sum+2*qs.length:=by
   intro qs
   induction qs with
   | nil=>intro z;exact absurd rfl z
   | cons a qs ih=>
    intro _
    cases qs with
    | nil=>show a.length+2=a.length+0+2*1;omega
    | cons b qs=>
     have:=ih (by simp)
     show(a++(cm++au cm (b::qs))).length+2=_
     rw[GY,GY,G9,JX,G4]
     show a.length+(2+_)+2=_
     omega
  have:=key ps hne;omega
 ·rw[cJ]at hc
  rcases fj hc with hc | ⟨p,hp,hc⟩
  ·simp at hc;omega
  ·refine h.2 c ?_
   rw[hps,cJ]
   have:∀qs:List (List Nat),p∈qs->c∈bU 10 qs:=by
    intro qs
    induction qs with
    | nil=>intro z;cases z
    | cons a qs ih=>
     intro hq
     cases qs with
     | nil=>rw[Ht.mp hq]at hc;exact hc
     | cons b qs=>
      show c∈a++10::bU 10 (b::qs)
      rcases Hd.mp hq with rfl | hq
      ·exact HG _ hc
      ·exact Hg _ (G5 _ (ih hq))
   exact this ps hp
def wk (u:T):Prop:=u= .non\/∃i:Int,u= .int i
section
variable {cs ls:List T}{L:i7 N2}{P:List N2}
theorem y8 {us:List T}(h:∀u∈us,wk u):(T.tup us).pl=true:=by
 rw[pl_tup];exact fU λu hu=>by rcases h u hu with rfl | ⟨i,rfl⟩ <;> rfl
theorem Rd.GO (R:Rd cs ls L P){us:List T}(h:∀u∈us,wk u):aK [(.tup [.tup cs,.tup ls]),.tup us] = .ok (.bl (jD P.length (.tup us)&&us.all λu=>within u (-999999999) 999999999)):=by
 have ha:=R.Gu (y8 h);refine ck rfl (dA (og (aP (aj (t:=.tup [.tup cs,.tup ls]) rfl (aj (t:=.tup us) rfl aC)) ha) λhb=> ?_))
 have hp:=R.pl
 have hl:us.length<=16:=by
  unfold jD at hb;rw[G6]at hb
  have:=hb.1;simp only[c8,G6,decide_eq_true_eq]at this;omega
 refine i0 (l:=us) (ua rfl) (cM (by omega)) (by simp) λu hu=> ?_
 rcases h u hu with rfl | ⟨v,rfl⟩
 ·exact aP (ts:=[.non,.int (-999999999),.int 999999999]) rfl (dm .non _ _ rfl)
 ·exact aP (ts:=[.int v,.int (-999999999),.int 999999999]) rfl (dm (.int v) _ _ rfl)
theorem Rd.readAny (R:Rd cs ls L P){s:Str}(h:Tm s 600)(hn:s.cps.toList.count 10<=30) :
  aX [.tup [.tup cs,.tup ls],.str s] = .err "NoText"\/∃t:N2->Int,(∀v∈P,Ok9 (t v))/\s=tx (bZ cs P t)/\aX [.tup [.tup cs,.tup ls],.str s] = .ok (bp P t):=by
 obtain⟨r,er,tr⟩:=ym h hn
 have e1:oS gF (o1 (eI "\n" ", ") (vr 1)) (ae (cn (.str ", ")) ai) [.va (.tup [.tup cs,.tup ls]),.va (.str s),.em,.em] = .ok (.lst ((Ic r (tx cm)).map .str)):=by
  refine qV (s:=r) (wM (t:=.str s) rfl er) (aj (t:=.str (tx cm)) rfl aC) ?_
  show(if (tx cm).length≠0/\r.length<=1000000/\(Ic r (tx cm)).length<=1000000 then Rs.ok (T.lst ((Ic r (tx cm)).map .str))else .bad)=_
  have h1:=mH r (tx cm) (by rw[aZ];decide)
  have h2:=tr.1;rw[if_pos ⟨by rw[aZ];decide,by omega,by omega⟩]
 have e2:=AH (lo:=none) (hi:=some (-1)) (fl:=pN) (fu:=pS (o1 gz (cn (.int 1)))) e1 rfl rfl
 have hmem:∀u∈fZ ((Ic r (tx cm)).map T.str) none (some (-1)),∃q:Str,u= .str q/\Tm q 640:=λu hu=>by
  unfold fZ at hu;obtain⟨q,hq,rfl⟩:=Hb.mp (JK (Kg hu));exact⟨q,rfl,vp tr hq⟩
 have hlen:(fZ ((Ic r (tx cm)).map T.str) none (some (-1))).length<=1000:=by
  unfold fZ
  have h1:=mH r (tx cm) (by rw[aZ];decide)
  have h2:=tr.1;rw[IK,Ig,G3];omega
 generalize hL:fZ ((Ic r (tx cm)).map T.str) none (some (-1))=L2 at e2 hmem hlen
 have e3:=qW (fe:=Tr.cl bA (ae (o2 bY (oS fK (vr 0) (ae (cn (.str " at ")) ai)) (cn (.int 2))) ai)) (h:=λu=>match u with | .str q=>iP (Ie q (tx lU)).2.2 | _=> .non) (src:=[none]) (ρ:=[.va (.tup [.tup cs,.tup ls]),.va (.str s),.va (.lst L2),.em]) (fi:=iS (vr 2)) (ts:=L2) rfl (cM (by omega)) (by decide) (λu hu=>by
  obtain⟨q,rfl,tq⟩:=hmem u hu
  have ep:fK [.str q,.str (tx lU)] = .ok (.tup [.str (Ie q (tx lU)).1,.str (Ie q (tx lU)).2.1,.str (Ie q (tx lU)).2.2]):=by
   show(if (tx lU).length≠0/\q.length<=1000000 then _ else _)=_
   have:=tq.1;rw[if_pos ⟨by rw[aZ];decide,by omega⟩]
  exact aP (aj (zj (n:=2) (qV (s:=q) rfl (aj (t:=.str (tx lU)) rfl aC) ep) rfl rfl) aC) (AO (za (yW tq))))
 generalize hU:L2.map (λu=>match u with | .str q=>iP (Ie q (tx lU)).2.2 | _=> .non)=us at e3
 have hus:∀u∈us,wk u:=λu hu=>by
  rw[<-hU]at hu;obtain⟨w,hw,rfl⟩:=Hb.mp hu;obtain⟨q,rfl,_⟩:=hmem w hw;exact y9 _
 have hul:us.length<=1000:=by rw[<-hU,G3];exact hlen
 have step:da [.va (.tup [.tup cs,.tup ls]),.va (.str s),.em,.em] =DJ [.va (.tup [.tup cs,.tup ls]),.va (.str s),.va (.lst L2),.va (.tup us)]:=by
  unfold da;rw[aJ (wO (t:=.non) (aP (aj (t:=.tup [.tup cs,.tup ls]) rfl aC) (jz R.g.p R.g.ok)))];rw[aJ ((dP (gO (k:=true) (cK (wM (t:=.str s) rfl rfl)))).trans rfl)];rw[aJ (ρ':=[.va (.tup [.tup cs,.tup ls]),.va (.str s),.va (.lst L2),.em]) (bX e2 rfl)];rw[aJ (ρ':=[.va (.tup [.tup cs,.tup ls]),.va (.str s),.va (.lst L2),.va (.tup us)]) (bX (aP (x:=.ok (.tup us)) (aj e3 aC) (by first | rfl | (show e9 us=_;unfold e9;rw[if_pos (cM (by omega))]))) rfl)]
 have hc:=R.GO hus
 cases hb:(jD P.length (.tup us)&&us.all λu=>within u (-999999999) 999999999)with
 | false=>
  rw[hb]at hc;refine .inl (fA rfl (Md step ?_))
  exact gM ((kh (AI (gO (k:=false) (cK (aP (aj (t:=.tup [.tup cs,.tup ls]) rfl (aj (t:=.tup us) rfl aC)) hc))))).trans rfl)
 | true=>
  rw[hb]at hc;rw[G6]at hb
  have hlen:us.length=P.length:=by
   have:=hb.1;unfold jD at this;rw[G6]at this
   have:=this.1;simp only[c8,G6,decide_eq_true_eq]at this;omega
  obtain⟨τ,hτ,hk⟩:=jB (f:=T.int) (p:=Ok9) (l:=us) λu hu=>by
   have hw:=HC.mp hb.2 u hu;obtain⟨i,rfl,h1,h2⟩:=cS hw;exact⟨i,rfl,h1,h2⟩
  obtain⟨t,ht⟩:=pT R.nd (τ:=τ) (by rw[<-hlen,hτ,G3])
  have hok:∀v∈P,Ok9 (t v):=λv hv=>hk _ (by rw[<-ht];exact Hb.mpr ⟨v,hv,rfl⟩)
  have eu:T.tup us=bp P t:=by rw[hτ,<-ht,Hu];rfl
  rw[eu]at step hc
  have et:=R.F8 hok
  by_cases q:s=tx (bZ cs P t)
  ·refine .inr ⟨t,hok,q,?_⟩
   rw[q];exact R.back R hok
  ·refine .inl (fA rfl (Md step ?_))
   refine gM ((kh (pO (gO (k:=true) (cK (aP (aj (t:=.tup [.tup cs,.tup ls]) rfl (aj (t:=bp P t) rfl aC)) hc))) (cK (aM (aP (aj (t:=.tup [.tup cs,.tup ls]) rfl (aj (t:=bp P t) rfl aC)) et) (u:=.str s) rfl ?_)))).trans rfl)
   have es:s=tx s.cps.toList:=(kO s).symm;rw[es,ne_str,decide_eq_false (λz=>q (by rw[z,kO]))]
   rfl
end
theorem fil:∀(cs:List T) (i:Nat) (Q:List N2),Q.map en=di i cs->∀c:Nat,i<=c->c<i+cs.length->(Q.filter (jE c)).map en=fP c (qG (cs.getD (c - i) .non))
 | [],i,Q,_,c,h1,h2=>by simp at h2;omega
 | a::r,i,Q,h,c,h1,h2=>by
  obtain⟨Q1,Q2,rfl,e1,e2⟩:=Mw.mp (show Q.map en=fP i (qG a)++di (i+1) r from h)
  have a1:∀v∈Q1,v.c=(i:Int):=λv hv=>by
   have:en v∈fP i (qG a):=by rw[<-e1];exact Hb.mpr ⟨v,hv,rfl⟩
   obtain⟨u,hu,e⟩:=Hb.mp this;unfold en at e
   have:=T.tup.inj e;simp only[Kw,T.int.injEq]at this;exact this.1.symm
  have a2:∀v∈Q2,(i:Int)+1<=v.c:=λv hv=>by
   have:en v∈di (i+1) r:=by rw[<-e2];exact Hb.mpr ⟨v,hv,rfl⟩
   obtain⟨b,k,e,h3,_⟩:=ft r (i+1) this;unfold en at e
   have:=T.tup.inj e;simp only[Kw,T.int.injEq]at this;omega
  by_cases hc:c=i
  ·subst hc
   have f1:(Q1++Q2).filter (jE c)=Q1:=by
    rw[KC,Ln.mpr λv hv=>by unfold jE;rw[a1 v hv];simp,J3.mpr λv hv z=> ?_,Ii]
    have:=a2 v hv;unfold jE at z
    have:=eq_of_beq z;omega
   rw[f1,e1,LD]
   rfl
  ·have f2:(Q1++Q2).filter (jE c)=Q2.filter (jE c):=by
    rw[KC,J3.mpr λv hv z=> ?_,Jy]
    have:=a1 v hv;unfold jE at z
    have:=eq_of_beq z;omega
   rw[G4]at h2;rw[f2,fil r (i+1) Q2 e2 c (by omega) (by omega)]
   congr 2
   rw[show c - i=(c - (i+1))+1 by omega]
   rfl
theorem zC (c n:Nat):fP c n=((Io n).map λ(k:Nat)=>(⟨(c:Int),(k:Int)⟩:N2)).map en:=by
 unfold fP;rw[jr,Hu,Hu]
 rfl
section
variable {cs ls:List T}{L:i7 N2}{P:List N2}{t:N2->Int}
theorem Rd.fil (R:Rd cs ls L P){c:Nat}(hc:c<cs.length):P.filter (jE c)=(Io (qG (cs.getD c .non))).map λ(k:Nat)=>(⟨(c:Int),(k:Int)⟩:N2):=by
 have:=G.fil cs 0 P R.e.symm c (HZ _) (by omega)
 rw[Kc,zC]at this;exact(List.map_inj_right λa b h=>xi h).mp this
theorem Rd.Ge (R:Rd cs ls L P){c:Nat}{x y:Int}{r:List Int}(hc:cs[c]? =some (.tup [.int x,.int y,.tup (r.map .int)])):row cs P t c=(Io r.length).map λ(k:Nat)=>(r.getD k 0,t ⟨(c:Int),(k:Int)⟩):=by
 have hlt:=(Hm.mp hc).1
 unfold row;rw[R.fil hlt,HE,hc,Hu]
 show(Io (r.map T.int).length).map _=_
 rw[G3];refine IL λk hk=> ?_
 have hk:=IP.mp hk
 show(uE cs ⟨(c:Int),(k:Int)⟩,t ⟨(c:Int),(k:Int)⟩)=_
 have:uE cs ⟨(c:Int),(k:Int)⟩=r.getD k 0:=by
  unfold uE
  have e3:DI cs (en ⟨(c:Int),(k:Int)⟩)= .int (r.getD k 0):=by
   show(match cs.getD ((c:Int).toNat) .non with
    | .tup [_,_,.tup r] =>r.getD ((k:Int).toNat) .non
    | _=> .non)=_
   rw[HV,HV,HE,hc]
   show(r.map T.int).getD k .non=_
   rw[HE,ij hk]
   rfl
  rw[e3]
 rw[this]
end
theorem pW (r:List Int):de 0 (r.map .int)=(Io r.length).map λ(k:Nat)=>T.tup [.int (k:Nat),.int (r.getD k 0)]:=by
 apply List.ext_getElem?
 intro i;rw[jV]
 by_cases h:i<r.length
 ·rw[ij h,HN,Ng h]
  simp
 ·rw[JE (by simp;omega),JE (by simp;omega)];rfl
section
variable {cs ls:List T}{L:i7 N2}{P:List N2}{t:N2->Int}
theorem Rd.words (R:Rd cs ls L P)(ht:∀v∈P,Sm (t v)){c:Nat}{x y:Int}{r:List Int}(hc:cs[c]? =some (.tup [.int x,.int y,.tup (r.map .int)]))(s3 s5 s6 s8:Sl) :
  fz (iE (ae (vr 7) ai)) [none,none,some 2,some 4] (gT 2 (kx (gN 0) (kx (gN 1) ug))) bT (o2 aB (o2 aB (cl fS (ae (vr 1) ai)) (cn (.str " at "))) (cl fS (ae (o2 mr (vr 2) (br (ae (vr 3) (ae (vr 0) ai)))) ai))) [.va (.tup [.tup cs,.tup ls]),.va (bp P t),.va (i5 P t),s3,.va (.int (c:Nat)),s5,s6,.va (.tup (r.map .int)),s8] = .ok (.lst (((row cs P t c).map wd).map λp=>T.str (tx p))):=by
 have hlt:=(Hm.mp hc).1
 have hlen:r.length<=16:=by
  have:=rP (t:=t) R c;rw[R.Ge hc,G3,Jv]at this;exact this
 unfold fz;rw[EE (l:=r.map .int) (aj (t:=.tup (r.map .int)) rfl aC),aF,if_pos (cM (by rw[pX,G3];omega))]
 rw[show cj [none,none,some 2,some 4] [.va (.tup [.tup cs,.tup ls]),.va (bp P t),.va (i5 P t),s3,.va (.int (c:Nat)),s5,s6,.va (.tup (r.map .int)),s8] = [.em,.em,.va (i5 P t),.va (.int (c:Nat))]from rfl]
 rw[lx (p:=λ_=>true) (h:=λu=>match u with | .tup [.int k,.int q] =>T.str (tx (wd (q,t ⟨(c:Int),k⟩))) | _=> .non) (λρ=> ∃a b,ρ= [a,b,.va (i5 P t),.va (.int (c:Nat))]) _ _ ⟨_,_,rfl⟩ λu hu ρ hh_=>by
  obtain⟨a,b,e⟩:=hh_;subst e;rw[pW]at hu;obtain⟨k,hk,rfl⟩:=Hb.mp hu
  have hk:=IP.mp hk
  have hv:(⟨(c:Int),(k:Int)⟩:N2)∈P:=by
   have:(⟨(c:Int),(k:Int)⟩:N2)∈P.filter (jE c):=by
    rw[R.fil hlt,HE,hc]
    exact Hb.mpr ⟨k,IP.mpr (by show k<(r.map T.int).length;rw[G3];exact hk),rfl⟩
   exact(JM.mp this).1
  have hsm:Sm (r.getD k 0):=by
   have:=qD (t:=t) R ht c (r.getD k 0,t ⟨(c:Int),(k:Int)⟩) (by rw[R.Ge hc];exact Hb.mpr ⟨k,IP.mpr hk,rfl⟩)
   exact this.1
  have l1:=gx hsm
  have l2:=gx (ht _ hv);refine⟨[.va (.int (k:Nat)),.va (.int (r.getD k 0)),.va (i5 P t),.va (.int (c:Nat))],rfl,⟨_,_,rfl⟩,rfl,?_⟩
  refine(cW (cW (jR (i:=r.getD k 0) rfl hsm) (b:=lU) rfl ?_) (jR (AR (t:=t) (v:=⟨(c:Int),(k:Int)⟩) rfl (cf (aj (t:=.int (c:Nat)) rfl (aj (t:=.int (k:Nat)) rfl aC)) (cM (by simp))) hv) (ht _ hv)) ?_).trans ?_
  any_goals (simp only[GY,G4,HJ];omega)
  show _=Rs.ok (T.str (tx (wd (r.getD k 0,t ⟨(c:Int),(k:Int)⟩))))
  unfold wd;rw[Hs]]
 rw[Ln.mpr λ_ _=>rfl,pW,R.Ge hc,Hu,Hu,Hu]
 rfl
end
abbrev FC:En->Rs Fl:=(aI (c6 (fz (iE (ae (vr 7) ai)) [none,none,some 2,some 4] (gT 2 (kx (gN 0) (kx (gN 1) ug))) bT (o2 aB (o2 aB (cl fS (ae (vr 1) ai)) (cn (.str " at "))) (cl fS (ae (o2 mr (vr 2) (br (ae (vr 3) (ae (vr 0) ai)))) ai)))) (gN 8)) (c6 (o2 aB (o2 aB (o2 aB (o2 aB (vr 3) (cl fS (ae (vr 4) ai))) (cn (.str ": "))) (oS gP (cn (.str ", ")) (ae (vr 8) ai))) (cn (.str "\n"))) (gN 3)))
abbrev ltG:T->En->Rs En:=(gT 2 (kx (gN 4) (kx (gT 3 (kx (gN 5) (kx (gN 6) (kx (gN 7) ug)))) ug)))
section
variable {cs ls:List T}{L:i7 N2}{P:List N2}{t:N2->Int}
theorem Rd.Gs (R:Rd cs ls L P)(ht:∀v∈P,Sm (t v)){c:Nat}{x y:Int}{r:List Int}(hc:cs[c]? =some (.tup [.int x,.int y,.tup (r.map .int)])){w:List Nat}(hw:w.length<=50000)(s8:Sl) :
  FC [.va (.tup [.tup cs,.tup ls]),.va (bp P t),.va (i5 P t),.va (.str (tx (w))),.va (.int (c:Nat)),.va (.int x),.va (.int y),.va (.tup (r.map .int)),s8] = .ok (.nx [.va (.tup [.tup cs,.tup ls]),.va (bp P t),.va (i5 P t),.va (.str (tx (w++(bd c (row cs P t c)++ [10])))),.va (.int (c:Nat)),.va (.int x),.va (.int y),.va (.tup (r.map .int)),.va (.lst (((row cs P t c).map wd).map λp=>T.str (tx p)))]):=by
 obtain⟨_,c1,c4⟩:=aS R.g.c
 have hlt:=(Hm.mp hc).1
 have hl:=qZ R ht c
 have hb:=lT R ht (c:=c) (by omega)
 have h3:=gx (i:=(c:Int)) (by omega)
 have hi:=dY cm ((row cs P t c).map wd);unfold FC;rw[aJ (ρ':=[.va (.tup [.tup cs,.tup ls]),.va (bp P t),.va (i5 P t),.va (.str (tx (w))),.va (.int (c:Nat)),.va (.int x),.va (.int y),.va (.tup (r.map .int)),.va (.lst (((row cs P t c).map wd).map λp=>T.str (tx p)))]) (bX (R.words ht hc _ _ _ _) rfl)]
 have ej:oS gP (cn (.str ", ")) (ae (vr 8) ai) [.va (.tup [.tup cs,.tup ls]),.va (bp P t),.va (i5 P t),.va (.str (tx (w))),.va (.int (c:Nat)),.va (.int x),.va (.int y),.va (.tup (r.map .int)),.va (.lst (((row cs P t c).map wd).map λp=>T.str (tx p)))] = .ok (.str (tx (au cm ((row cs P t c).map wd)))):=
  qV rfl (aj (t:=.lst (((row cs P t c).map wd).map λp=>T.str (tx p))) rfl aC) (by rw[Dz];exact AL (by simp only[GY,G4,HJ];omega))
 simp only[GY,G4,HJ]at hi;refine bX ((cW (cW (cW (cW (a:=w) rfl (jR (i:=(c:Int)) rfl (by unfold Sm;omega)) ?_) (b:=[58,32]) rfl ?_) ej ?_) (b:=[10]) rfl ?_)) ?_
 any_goals (first | omega | (simp only[GY,G4,HJ];omega))
 show Rs.ok _=Rs.ok _
 unfold bd;simp only[Hs,List.set]
theorem Rd.Gf (R:Rd cs ls L P)(ht:∀v∈P,Sm (t v)):∀(cs':List T) (i:Nat) (w:List Nat) (s4 s5 s6 s7 s8:Sl),(∀j,j<cs'.length->cs[i+j]? =cs'[j]?)->w.length+1101*cs'.length<=50000 →
  ∃t4 t5 t6 t7 t8:Sl,bF ltG FC (de i cs') [.va (.tup [.tup cs,.tup ls]),.va (bp P t),.va (i5 P t),.va (.str (tx (w))),s4,s5,s6,s7,s8] = .ok (.nx [.va (.tup [.tup cs,.tup ls]),.va (bp P t),.va (i5 P t),.va (.str (tx (w++tt i ((Jq i cs'.length).map (row cs P t))))),t4,t5,t6,t7,t8])
 | [],i,w,s4,s5,s6,s7,s8,_,_=>⟨s4,s5,s6,s7,s8,by show Rs.ok _=Rs.ok _;simp[tt]⟩
 | a::cs',i,w,s4,s5,s6,s7,s8,h,hw=>by
  rw[G4]at hw
  have h0:cs[i]? =some a:=h 0 (by simp)
  have hlt:=(Hm.mp h0).1
  obtain⟨_,c1,c4⟩:=aS R.g.c;obtain⟨x,y,r,rfl,_⟩:=iX ((aS R.g.c).1 a (Jr h0))
  have hb:=lT R ht (c:=i) (by omega)
  obtain⟨t4,t5,t6,t7,t8,e⟩:=R.Gf ht cs' (i+1) (w++(bd i (row cs P t i)++ [10])) (.va (.int (i:Nat))) (.va (.int x)) (.va (.int y)) (.va (.tup (r.map .int))) (.va (.lst (((row cs P t i).map wd).map λp=>T.str (tx p)))) (λj hj=>by
   have:=h (j+1) (by rw[G4];omega)
   rw[show i+1+j=i+(j+1)by omega,this];rfl) (by rw[GY,GY];show _+(_+1)+_<=_;omega)
  refine⟨t4,t5,t6,t7,t8,?_⟩
  show bF ltG FC (T.tup [.int (i:Nat),_] ::de (i+1) cs') _=_
  rw[fh (ρ1:=[.va (.tup [.tup cs,.tup ls]),.va (bp P t),.va (i5 P t),.va (.str (tx (w))),.va (.int (i:Nat)),.va (.int x),.va (.int y),.va (.tup (r.map .int)),s8]) rfl (R.Gs ht h0 (by omega) s8),e]
  congr 3
  rw[G4,Mr,G9];simp only[tt,Hs,OF,Jy]
theorem Rd.F4 (R:Rd cs ls L P)(ht:∀v∈P,Sm (t v)):bo [.tup [.tup cs,.tup ls],bp P t] = .ok (.str (tx (bZ cs P t))):=by
 obtain⟨_,c1,c4⟩:=aS R.g.c;obtain⟨t4,t5,t6,t7,t8,e⟩:=R.Gf ht cs 0 [] .em .em .em .em .em (λj _=>by rw[Kq]) (by simp;omega)
 refine ck rfl ?_
 show gZ [.va (.tup [.tup cs,.tup ls]),.va (bp P t),.em,.em,.em,.em,.em,.em,.em] =_
 unfold gZ;rw[aJ (ρ':=[.va (.tup [.tup cs,.tup ls]),.va (bp P t),.va (i5 P t),.em,.em,.em,.em,.em,.em]) (bX (aP (ts:=[eS P,bp P t]) (aj (aP (aj (t:=.tup cs) rfl aC) ((lG cs R.g.c).trans (by rw[R.e];rfl))) (aj rfl aC)) (R.dz t)) rfl)]
 rw[aJ (ρ':=[.va (.tup [.tup cs,.tup ls]),.va (bp P t),.va (i5 P t),.va (.str (tx [])),.em,.em,.em,.em,.em]) (bX (t:=.str (tx [])) rfl rfl)];rw[aJ (iF (EE (l:=cs) (aj (t:=.tup cs) rfl aC)) e)];exact dA rfl
end
theorem u4:∀(rs:List i6) (c:Nat),(∀r∈rs,∀x∈r,Sm x.1/\Sm x.2)->c+rs.length<1000->(tt c rs).length<=14*rs.length+28*rs.flatten.length
 | [],_,_,_=>HZ _
 | r::rs,c,h,hc=>by
  rw[G4]at hc
  have ih:=u4 rs (c+1) (λq hq=>h q (G5 _ hq)) (by omega)
  have h1:=gx (i:=(c:Int)) (by omega)
  have h2:=dY cm (r.map wd)
  have h3:=nB (n:=26) (ps:=r.map wd) λp hp=>by
   obtain⟨x,hx,rfl⟩:=Hb.mp hp
   have:=h r G7 x hx;exact uM this.1 this.2
  rw[G3]at h2 h3
  show(bd c r++(10::tt (c+1) rs)).length<=_
  unfold bd;rw[Ip];simp only[GY,G4,HJ]at h2 ⊢;omega
theorem u6 (rs:List i6)(c:Nat):(tt c rs).count 10=rs.length:=by
 rw[jj]
 have:=(jS (f9 c rs++ [[]]) (by simp) (lS rs c)).1
 rw[GY,oE,Ik]at this;omega
theorem Ap:∀(rs:List i6) (c:Nat),∀n∈tt c rs,n<128
 | [],_,n,h=>by cases h
 | r::rs,c,n,h=>by
  have dn:∀(i:Int) (n:Nat),n∈dg i->n<128:=λi n z=>by rcases jH i n z with z | z <;> omega
  rcases G8.mp (show n∈bd c r++(10::tt (c+1) rs)from h)with h | h
  ·unfold bd at h
   rcases G8.mp h with h | h
   ·exact dn _ n h
   ·rcases G8.mp h with h | h
    ·simp at h;omega
    ·rcases fj h with h | ⟨p,hp,h⟩
     ·simp at h;omega
     ·obtain⟨x,_,rfl⟩:=Hb.mp hp
      rcases G8.mp h with h | h
      ·exact dn _ n h
      ·rcases G8.mp h with h | h
       ·simp at h;omega
       ·exact dn _ n h
  ·rcases Hd.mp h with rfl | h
   ·decide
   ·exact Ap rs (c+1) n h
section
variable {cs ls:List T}{L:i7 N2}{P:List N2}{t:N2->Int}
theorem Rd.F5 (R:Rd cs ls L P)(ht:∀v∈P,Sm (t v))(h9:P.length<=9)(h3:cs.length<=3):(bZ cs P t).length<=294/\(bZ cs P t).count 10=cs.length/\∀n∈bZ cs P t,n<128:=by
 have hr:(rows cs P t).length=cs.length:=by unfold rows;rw[G3,Jn]
 have h:=u4 (rows cs P t) 0 (λr hr x hx=>by
  obtain⟨c,_,rfl⟩:=Hb.mp hr;exact qD R ht c x hx) (by omega)
 rw[R.flat,G3,hr]at h;exact⟨by show(tt 0 (rows cs P t)).length<=_;omega,(u6 _ 0).trans hr,Ap _ 0⟩
end
theorem oq {l:List Nat}{a b:Nat}{lo hi:Option Int}(hab:a<=b)(hb:b<=l.length)(e:Ho lo hi 1 l.length=Ho (some (a:Int)) (some (b:Int)) 1 l.length):cutS (tx l) lo hi=tx ((l.drop a).take (b - a)):=by
 have hl:(tx l).length=l.length:=aZ l
 have hp:=sliced_plain (tx l) hab (by rw[hl];exact hb)
 rw[hl,cJ]at hp
 have hi':=strSliceIndices_plain hab hb;unfold cutS;rw[hl,e];split
 ·rename_i z
  rw[hi',G3,Jv]at z
  have:=eq_of_beq z
  have ha:a=0:=by omega
  subst ha;rw[LP,JB (by omega)]
 ·rw[hp];rfl
theorem wZ (n len:Nat):Ho none (some (n:Int)) 1 len=Ho (some ((0:Nat):Int)) (some (n:Int)) 1 len:=by
 simp[Ho]
 congr 1
theorem w4 (n len:Nat):Ho (some (n:Int)) none 1 len=Ho (some (n:Int)) (some (len:Int)) 1 len:=by
 simp[Ho]
 congr 1
 rw[if_neg (by omega)]
 omega
theorem Cr {len:Nat}(h:1<=len):Ho none (some (-1)) 1 len=Ho (some ((0:Nat):Int)) (some ((len - 1:Nat):Int)) 1 len:=by
 simp[Ho]
 congr 1 <;> first | omega | (rw[if_neg (by omega)];omega)
theorem uk {l:List Nat}{n:Nat}(h:n<=l.length):cutS (tx l) none (some (n:Int))=tx (l.take n):=by
 rw[oq (HZ n) h (wZ n _)];rfl
theorem um {l:List Nat}{n:Nat}(h:n<=l.length):cutS (tx l) (some (n:Int)) none=tx (l.drop n):=by
 rw[oq h (He _) (w4 n _),JB (by rw[Ig];omega)]
theorem zW {l:List Nat}(h:1<=l.length):cutS (tx l) none (some (-1))=tx (l.take (l.length - 1)):=by
 rw[oq (HZ _) (by omega) (Cr h)];rfl
theorem zw {n len:Nat}(h:len<=n):Ho (some (n:Int)) none 1 len=Ho (some (len:Int)) (some (len:Int)) 1 len:=by
 simp[Ho]
 congr 1 <;> first | omega | (simp;omega) | (rw[if_neg (by omega)];omega)
theorem ri (l:List Nat)(n:Nat):cutS (tx l) (some (n:Int)) none=tx (l.drop n):=by
 by_cases h:n<=l.length
 ·exact um h
 ·rw[oq (He l.length) (He _) (zw (by omega)),JA (He _),JA (by omega:l.length<=n)]
  simp
theorem wK {fe:En->Rs T}{fl fu:En->Rs (Option Int)}{ρ:En}{s:Str}{lo hi:Option Int}{l:List Nat}(h:fe ρ= .ok (.str s))(h1:fl ρ= .ok lo)(h2:fu ρ= .ok hi)(e:cutS s lo hi=tx l)(hl:l.length<=1000000):slS fe fl fu ρ= .ok (.str (tx l)):=by
 unfold slS;rw[h,h1,h2]
 show(if (cutS s lo hi).length<=1000000 then Rs.ok (T.str (cutS s lo hi))else .bad)=_
 rw[e,if_pos (by rw[aZ];exact hl)]
def sgs:List (List Nat):=[[48],[49],[57],[45],[32],[44],[58],[97],[10],[],[48,48],[32,97,116,32]]
theorem Bg (n:Nat)(h:n<12):∃g,sgs[n]? =some g/\g.length<=4/\(∀c∈g,c<128)/\g.count 10<=1:=by
 have:∀n,n<12->((sgs.getD n []).length<=4/\(∀c∈sgs.getD n [],c<128)/\(sgs.getD n []).count 10<=1):=by decide
 refine⟨sgs.getD n [],?_,this n h⟩
 rw[HE,Hv (show n<sgs.length from h)]
 rfl
theorem Bd (ns:List Int)(hn:ns.length<=63)(a:Nat){l:List Nat}(hl:l.length<=294)(h8:∀n∈l,n<128):∃u,cH [.scr ns,.int (a:Nat),.str (tx l)] = .ok (.str (tx u))/\u.length<=600/\(∀n∈u,n<128)/\u.count 10<=2*l.count 10+1:=by
 obtain⟨p,ep,p0,p1⟩:=bV ns a ((l.length+1:Nat):Int) hn (by omega)
 obtain⟨q,eq,q0,q1⟩:=bV ns (a+1) 2 hn (by omega)
 obtain⟨r,er,r0,r1⟩:=bV ns (a+2) 12 hn (by omega)
 obtain⟨p,rfl⟩:=HM p0;obtain⟨q,rfl⟩:=HM q0;obtain⟨r,rfl⟩:=HM r0;obtain⟨g,eg,g4,g8,gc⟩:=Bg r (by omega)
 have ht:=List.length_take_le p l
 have hd:(l.drop (p+q)).length<=l.length:=by rw[Ig];omega
 refine⟨l.take p++g++l.drop (p+q),?_,?_,λn h=> ?_,?_⟩
 ·refine ck rfl ?_
  show fF [.va (.scr ns),.va (.int (a:Nat)),.va (.str (tx l)),.em,.em,.em] =_
  unfold fF;rw[aJ (ρ':=[.va (.scr ns),.va (.int (a:Nat)),.va (.str (tx l)),.va (.int (p:Nat)),.em,.em]) (bX (bS (k:=a) ep rfl rfl (aM (t:=.int (l.length:Nat)) (u:=.int 1) (aP (aj (t:=.str (tx l)) rfl aC) (by show(if (tx l).length<=sizeLine then Rs.ok (T.int ((tx l).length:Nat))else .bad)=_;rw[aZ,if_pos (cM (by omega))])) rfl rfl)) rfl)]
  rw[aJ (ρ':=[.va (.scr ns),.va (.int (a:Nat)),.va (.str (tx l)),.va (.int (p:Nat)),.va (.lst (sgs.map λx=>T.str (tx x))),.em]) (bX (aM (t:=.lst ((sgs.take 9).map λx=>T.str (tx x))) (u:=.lst ((sgs.drop 9).map λx=>T.str (tx x))) (aP (aj (t:=.str "019- ,:a\n") rfl aC) rfl) (lA rfl (cM (by simp[sgs]))) rfl) rfl)]
  rw[aJ (ρ':=[.va (.scr ns),.va (.int (a:Nat)),.va (.str (tx l)),.va (.int (p:Nat)),.va (.lst (sgs.map λx=>T.str (tx x))),.va (.int ((p+q:Nat)))]) (bX (aM (t:=.int (p:Nat)) (u:=.int (q:Nat)) rfl (bS (k:=a+1) eq rfl (aM (t:=.int (a:Nat)) (u:=.int 1) rfl rfl rfl) rfl) rfl) rfl)]
  refine dA (cW (cW (wK (s:=tx l) (lo:=none) (hi:=some (p:Int)) rfl rfl rfl (uk (by omega)) (by omega)) (wN (n:=r) (l:=sgs.map λx=>T.str (tx x)) rfl (bS (k:=a+2) er rfl (aM (t:=.int (a:Nat)) (u:=.int 2) rfl rfl rfl) rfl) (by rw[HN,eg];rfl)) ?_) (wK (s:=tx l) (lo:=some ((p+q:Nat):Int)) (hi:=none) rfl rfl rfl (ri l (p+q)) (by omega)) ?_)
  ·omega
  ·rw[GY];omega
 ·rw[GY,GY];omega
 ·rcases G8.mp h with h | h
  ·rcases G8.mp h with h | h
   ·exact h8 n (Kg h)
   ·exact g8 n h
  ·exact h8 n (JK h)
 ·rw[Ij,Ij]
  have h1:=(N1 p l).count_le 10
  have h2:=(List.drop_sublist (p+q) l).count_le 10;omega
theorem u9 {R t u:T}(h:aX [R,t] = .ok u):aD [.int 1,R,t] = .ok u:=
 ck rfl (AG (dA ((pP (p:=false) (cK (aM (t:=.int 1) (u:=.int 0) rfl rfl (jU 1 0)))).trans (aP (aj (t:=R) rfl (aj (t:=t) rfl aC)) h))))
theorem nA {R t u:T}{c:Str}(h:aX [R,t] = .err c)(hc:mq c= .ok u):aD [.int 1,R,t] = .ok u:=
 ck rfl (wJ (c:=c) (qU ((pP (p:=false) (cK (aM (t:=.int 1) (u:=.int 0) rfl rfl (jU 1 0)))).trans (aP (aj (t:=R) rfl (aj (t:=t) rfl aC)) h))) hc)
theorem Au {R t u:T}(h:ba [R,t] = .ok u):aD [.int 0,R,t] = .ok u:=
 ck rfl (AG (dA ((pP (p:=true) (cK (aM (t:=.int 0) (u:=.int 0) rfl rfl (jU 0 0)))).trans (aP (aj (t:=R) rfl (aj (t:=t) rfl aC)) h))))
theorem qx {R t u:T}{c:Str}(h:ba [R,t] = .err c)(hc:mq c= .ok u):aD [.int 0,R,t] = .ok u:=
 ck rfl (wJ (c:=c) (qU ((pP (p:=true) (cK (aM (t:=.int 0) (u:=.int 0) rfl rfl (jU 0 0)))).trans (aP (aj (t:=R) rfl (aj (t:=t) rfl aC)) h))) hc)
theorem DG:mq "NoRecord" = .ok (eZ 0):=rfl
theorem DF:mq "NoNumber" = .ok (eZ 1):=by unfold mq;rw[if_neg (by decide+kernel),if_pos rfl]
theorem Bp:mq "NoText" = .ok (eZ 2):=by unfold mq;rw[if_neg (by decide+kernel),if_neg (by decide+kernel),if_pos rfl]
theorem kY (n:Nat):Tr.neT (eZ n) (eZ n)= .ok (.bl false):=sd rfl (by simp[eZ,T.dep,deps])
theorem vC (n:Nat):Tr.eqT (eZ n) (eZ n)= .ok (.bl true):=sI rfl (by simp[eZ,T.dep,deps])
theorem Az {R u:T}(h:aK [R,u] = .ok (.bl false)):ba [R,u] = .err "NoNumber":=by
 refine fA rfl ?_
 exact gM ((kh (gO (k:=false) (cK (aP (aj (t:=R) rfl (aj (t:=u) rfl aC)) h)))).trans rfl)
theorem DH (cs:List T):gw (.tup [.tup cs])=false:=rfl
section
variable {cs ls:List T}{L:i7 N2}{P:List N2}{t:N2->Int}
theorem Rd.GK (R:Rd cs ls L P){u:T}(hu:u.pl=true)(h:jD P.length u=false):ba [.tup [.tup cs,.tup ls],u] = .err "NoNumber" :=
 Az (ck rfl (dA (sk (aP (ts:=[.tup [.tup cs,.tup ls],u]) rfl ((R.Gu hu).trans (by rw[h]))))))
theorem Rd.tt1 (R:Rd cs ls L P):ba [.tup [.tup cs],bp P t] = .err "NoRecord":=by
 have hp:(T.tup [.tup cs]).pl=true:=by
  have:=R.g.p;rw[pl_tup,plS,G6]at this;rw[pl_tup,plS,this.1];rfl
 have h:aK [.tup [.tup cs],bp P t] = .err "NoRecord":=fA rfl (qU (zl (aP (ts:=[.tup [.tup cs],bp P t]) rfl (CW hp (DH cs)))));refine fA rfl ?_
 exact gM (Cm (Cg (Ez (aP (aj (t:=.tup [.tup cs]) rfl (aj (t:=bp P t) rfl aC)) h))))
theorem Rd.rt1 (R:Rd cs ls L P)(s:T):aX [.tup [.tup cs],s] = .err "NoRecord":=by
 have hp:(T.tup [.tup cs]).pl=true:=by
  have:=R.g.p;rw[pl_tup,plS,G6]at this;rw[pl_tup,plS,this.1];rfl
 refine fA rfl ?_
 exact gM (AJ (aP (aj (t:=.tup [.tup cs]) rfl aC) (mO hp (DH cs))))
theorem Rd.noT (R:Rd cs ls L P){u:List Nat}(hl:u.length<=600)(h8:∀n∈u,n<128)(hc:u.count 10<=30)(hne:∀t:N2->Int,u≠bZ cs P t):aX [.tup [.tup cs,.tup ls],.str (tx u)] = .err "NoText":=by
 rcases R.readAny (s:=tx u) ⟨by rw[aZ];exact hl,λc hc=>by rw[cJ]at hc;have:=h8 c hc;omega⟩ (by rw[cJ];exact hc)with h | ⟨t,_,e,_⟩
 ·exact h
 ·exact absurd (jJ e) (hne t)
theorem Rd.far (R:Rd cs ls L P)(hs:∀v∈P,Sm (t v)){v:N2}(hv:v∈P)(h:¬ Ok9 (t v)):aK [(.tup [.tup cs,.tup ls]),bp P t] = .ok (.bl false):=by
 have e:=R.cbw (P.map t);rw[Hu]at e;refine e.trans ?_
 have:((P.map (T.int∘t)).all λu=>within u (-999999999) 999999999)=false:=by
  rw[List.all_eq_false];refine⟨.int (t v),Hb.mpr ⟨v,hv,rfl⟩,λz=>h ?_⟩
  obtain⟨i,hi,h1,h2⟩:=cS z;injection hi with hi
  rw[hi];exact⟨h1,h2⟩
 rw[this,LK]
theorem Rd.GS (R:Rd cs ls L P)(hs:∀v∈P,Sm (t v)){v:N2}(hv:v∈P)(h:¬ Ok9 (t v)):aX [.tup [.tup cs,.tup ls],.str (tx (bZ cs P t))] = .err "NoText":=by
 obtain⟨_,c1,c4⟩:=aS R.g.c
 have hp:=R.pl;obtain⟨p2,e⟩:=R.parse (rs:=rows cs P t) R.rne (λx hx=>by rw[R.flat]at hx;obtain⟨v,hv,rfl⟩:=Hb.mp hx;exact hs v hv) (R.Gq hs) (by unfold rows;rw[G3,Jn];omega) (by rw[R.flat,G3];omega)
 rw[R.flat,Hu,Hu]at e;refine fA rfl (Md e ?_)
 unfold DJ;exact gM ((kh (AI (gO (k:=false) (cK (aP (aj (t:=.tup [.tup cs,.tup ls]) rfl (aj (t:=bp P t) rfl aC)) (R.far hs hv h)))))).trans rfl)
end
theorem vB {u v z:List Nat}{c:Nat}(hu:c∉u)(hk:HP (tx (u++c::v))=HP ⟨#[]⟩){p q:List Nat}{r:List (List Nat)}(hf:∀x∈p::q::r,c∉x):Mi (tx (au (u++c::v) (p::q::r))) (tx (u++c::v)) (tx z)=tx (au z (p::q::r)):=by
 have S:=mG hu hk (by simp) hf
 have n1:∀x:Str,[x] ≠(p::q::r).map tx:=λx z=>by simp at z
 unfold Ic at S
 split at S
 ·exact absurd S (n1 _)
 ·split at S
  ·exact absurd S (n1 _)
  ·rename_i h2
   unfold Mi;rw[if_neg,glued_eq_join,S,fN];rw[OS]
   rintro (h | h)
   ·exact h2 h
   ·rw[G6]at h
    have:=h.1;rw[aZ]at this
    simp at this
theorem s_a2:Hi "at" =tx ([] ++97:: [116]):=rfl
theorem s_A2:Hi "At" =tx [65,116]:=rfl
theorem yn {p q:List Nat}{r:List (List Nat)}(hf:∀x∈p::q::r,97∉x)(hl:(au ([] ++97:: [116]) (p::q::r)).length<=294):eI "at" "At" (.str (tx (au ([] ++97:: [116]) (p::q::r))))= .ok (.str (tx (au [65,116] (p::q::r)))):=by
 rw[s_a2,s_A2];unfold eI
 dsimp only
 rw[if_pos (by rw[aZ];omega),vB (u:=[]) (c:=97) (v:=[116]) (by simp) (by decide+kernel) hf]
theorem xF:∀(qs:List (List Nat)),qs≠ []->(∀q∈qs,97∉q)->∀pre:List Nat,97∉pre->∃ps:List (List Nat),ps.length=qs.length/\(∀q∈ps,97∉q)/\pre++au lU qs=au ([] ++97:: [116]) ps
 | [],h,_,_,_=>absurd rfl h
 | [q],_,hf,pre,hp=>⟨[pre++q],rfl,λx hx=>by
   rw[Ht.mp hx]
   exact λz=>(G8.mp z).elim hp (hf q G7),rfl⟩
 | q::q2::r,_,hf,pre,hp=>by
  obtain⟨ps,hl,h97,e⟩:=xF (q2::r) (by simp) (λx hx=>hf x (G5 _ hx)) [32] (by simp)
  refine⟨(pre++(q++ [32]))::ps,by rw[G4,hl];rfl,λx hx=> ?_,?_⟩
  ·rcases Hd.mp hx with rfl | hx
   ·intro z
    rcases G8.mp z with z | z
    ·exact hp z
    ·rcases G8.mp z with z | z
     ·exact hf q G7 z
     ·simp at z
   ·exact h97 x hx
  ·rw[dB ([] ++97:: [116]) (pre++(q++ [32])) (r:=ps) (by intro z;rw[z]at hl;simp at hl),<-e]
   show pre++(q++(lU++au lU (q2::r)))=_
   simp only[Hs,OF,Jy]
theorem xC:∀(ps:List (List Nat)),(au [65,116] ps).length=(au ([] ++97:: [116]) ps).length/\(au [65,116] ps).count 10=(au ([] ++97:: [116]) ps).count 10/\∀n∈au [65,116] ps,n=65\/n∈au ([] ++97:: [116]) ps
 | [] =>⟨rfl,rfl,λn h=>by cases h⟩
 | [p] =>⟨rfl,rfl,λn h=> .inr h⟩
 | p::q::r=>by
  obtain⟨h1,h2,h3⟩:=xC (q::r);rw[dB [65,116] p (r:=q::r) (by simp),dB ([] ++97:: [116]) p (r:=q::r) (by simp)]
  refine⟨?_,?_,λn h=> ?_⟩
  ·simp only[GY,h1,G4,HJ]
  ·simp only[Ij,h2];rfl
  ·rcases G8.mp h with h | h
   ·exact .inr (HG _ h)
   ·rcases G8.mp h with h | h
    ·rcases Hd.mp h with h | h
     ·exact .inl h
     ·exact .inr (Hg _ (HG _ (G5 _ h)))
    ·rcases h3 n h with h | h
     ·exact .inl h
     ·exact .inr (Hg _ (Hg _ h))
theorem As:∀(rs:List i6) (c:Nat),65∉tt c rs
 | [],_=>by intro h;cases h
 | r::rs,c=>by
  intro h
  have dn:∀(i:Int),65∉dg i:=λi z=>by rcases jH i _ z with z | z <;> omega
  rcases G8.mp (show 65∈bd c r++(10::tt (c+1) rs)from h)with h | h
  ·unfold bd at h
   rcases G8.mp h with h | h
   ·exact dn _ h
   ·rcases G8.mp h with h | h
    ·simp at h
    ·rcases fj h with h | ⟨p,hp,h⟩
     ·simp at h
     ·obtain⟨x,_,rfl⟩:=Hb.mp hp
      rcases G8.mp h with h | h
      ·exact dn _ h
      ·rcases G8.mp h with h | h
       ·simp at h
       ·exact dn _ h
  ·rcases Hd.mp h with h | h
   ·cases h
   ·exact As rs (c+1) h
theorem u7 (r:i6)(rs:List i6):∃w,tt 0 (r::rs)=48::58::w:=⟨_,by
 show bd 0 r++(10::tt 1 rs)=_
 unfold bd;rw[show dg ((0:Nat):Int)= [48]from by decide+kernel]
 rfl⟩
theorem u5:∀(rs:List i6) (c:Nat),rs≠ []->∃w,tt c rs=w++ [10]
 | [],_,h=>absurd rfl h
 | [r],c,_=>⟨bd c r,rfl⟩
 | r::q::rs,c,_=>by
  obtain⟨w,e⟩:=u5 (q::rs) (c+1) (by simp)
  exact⟨bd c r++(10::w),by show bd c r++(10::tt (c+1) (q::rs))=_;rw[e];simp⟩
section
variable {cs ls:List T}{L:i7 N2}{P:List N2}{t:N2->Int}
theorem Rd.F0 (R:Rd cs ls L P):rows cs P t≠ []:=λz=>by
 obtain⟨_,c1,_⟩:=aS R.g.c
 have:=congrArg Jc z;unfold rows at this;rw[G3,Jn,HJ]at this;omega
theorem Rd.cnt (R:Rd cs ls L P)(t:N2->Int):(bZ cs P t).count 10=cs.length:=by
 show(tt 0 (rows cs P t)).count 10=_
 rw[u6];unfold rows;rw[G3,Jn]
theorem Rd.FV (R:Rd cs ls L P){u:List Nat}(h:u.count 10≠cs.length):∀t:N2->Int,u≠bZ cs P t:=λt z=>h (by rw[z,R.cnt])
theorem Rd.GN (R:Rd cs ls L P)(t:N2->Int):∀t':N2->Int,48::bZ cs P t≠bZ cs P t':=λt' z=>by
 have h1:=R.F0 (t:=t)
 have h2:=R.F0 (t:=t')
 show False
 obtain⟨a,x,e1⟩:∃a x,rows cs P t=a::x:=by cases h:rows cs P t with | nil=>exact absurd h h1 | cons a x=>exact⟨a,x,rfl⟩
 obtain⟨b,y,e2⟩:∃a x,rows cs P t'=a::x:=by cases h:rows cs P t' with | nil=>exact absurd h h2 | cons a x=>exact⟨a,x,rfl⟩
 obtain⟨w,f1⟩:=u7 a x;obtain⟨w',f2⟩:=u7 b y
 have z':48::tt 0 (rows cs P t)=tt 0 (rows cs P t'):=z;rw[e1,e2,f1,f2]at z';injection z' with _ z'
 injection z' with z' _
 exact absurd z' (by decide)
theorem Rd.GT (R:Rd cs ls L P)(ht:∀v∈P,Sm (t v))(h9:P.length<=9)(h3:cs.length<=3) :
  ∃b,eI "at" "At" (.str (tx (bZ cs P t)))= .ok (.str (tx b))/\1<=(bZ cs P t).length/\∀u∈ [[],(bZ cs P t).take ((bZ cs P t).length - 1),bZ cs P t++ [10],[10] ++bZ cs P t,bZ cs P t++bZ cs P t,b,[48] ++bZ cs P t],aX [.tup [.tup cs,.tup ls],.str (tx u)] = .err "NoText":=by
 obtain⟨h1,h2,h8⟩:=R.F5 ht h9 h3;obtain⟨_,c1,_⟩:=aS R.g.c;obtain⟨w,ew⟩:=u5 (rows cs P t) 0 R.F0
 have ew:bZ cs P t=w++ [10]:=ew;obtain⟨qs,q1,q2,q3⟩:=Aq (rows cs P t) 0
 have hpos:=R.pos;rw[R.flat,G3]at q3;obtain⟨ps,hl,hf,e⟩:=xF qs (by intro z;rw[z]at q3;cases q3) q2 [] (by simp)
 rw[Jy]at e
 have q1:bZ cs P t=au ([] ++97:: [116]) ps:=q1.trans e
 obtain⟨p,q,r,rfl⟩:∃p q r,ps=p::q::r:=by
  match ps,hl with
  | [],hl=>rw[q3]at hl;cases hl
  | [p],hl=>rw[q3]at hl;simp only[G4,HJ]at hl;omega
  | p::q::r,_=>exact⟨p,q,r,rfl⟩
 obtain⟨b1,b2,b3⟩:=xC (p::q::r);rw[<-q1]at b1 b2 b3;refine⟨au [65,116] (p::q::r),?_,by rw[ew];simp,λu hu=> ?_⟩
 ·rw[q1]at h1 ⊢
  exact yn hf h1
 have hc:(w++ [10]).count 10=cs.length:=by rw[<-ew];exact h2
 rw[Ij]at hc
 have hc:w.count 10+1=cs.length:=hc;simp only[Hd,Im,or_false]at hu;rcases hu with rfl | rfl | rfl | rfl | rfl | rfl | rfl
 ·exact R.noT (by simp) (by simp) (by simp) (R.FV (by rw[List.count_nil];omega))
 ·have e:(bZ cs P t).take ((bZ cs P t).length - 1)=w:=by rw[ew];simp
  rw[e]
  have hw:w.length+1=(bZ cs P t).length:=by rw[ew];simp
  exact R.noT (by omega) (λn hn=>h8 n (by rw[ew];exact HG _ hn)) (by omega) (R.FV (by omega))
 ·refine R.noT (by simp;omega) (λn hn=> ?_) ?_ (R.FV ?_)
  ·rcases G8.mp hn with hn | hn
   ·exact h8 n hn
   ·rw[Ht.mp hn];decide
  ·rw[Ij,h2];show _+1<=_;omega
  ·rw[Ij,h2];show _+1≠_;omega
 ·refine R.noT (by simp;omega) (λn hn=> ?_) ?_ (R.FV ?_)
  ·rcases G8.mp hn with hn | hn
   ·rw[Ht.mp hn];decide
   ·exact h8 n hn
  ·rw[Ij,h2];show 1+_<=_;omega
  ·rw[Ij,h2];show 1+_≠_;omega
 ·refine R.noT (by simp;omega) (λn hn=> ?_) ?_ (R.FV ?_)
  ·rcases G8.mp hn with hn | hn <;> exact h8 n hn
  ·rw[Ij,h2];omega
  ·rw[Ij,h2];omega
 ·refine R.noT (by omega) (λn hn=> ?_) (by omega) λt' z=> ?_
  ·rcases b3 n hn with rfl | hn
   ·decide
   ·exact h8 n hn
  ·refine As (rows cs P t') 0 ?_
   show 65∈bZ cs P t'
   rw[<-z,dB [65,116] p (r:=q::r) (by simp)]
   simp
 ·refine R.noT (by simp;omega) (λn hn=> ?_) ?_ (R.GN t)
  ·rcases G8.mp hn with hn | hn
   ·rw[Ht.mp hn];decide
   ·exact h8 n hn
  ·rw[Ij,h2];show 0+_<=_;omega
end
abbrev spF:En->Rs Fl:=(aI (c6 (Tr.cl cH (ae (vr 0) (ae (o2 aB (cn (.int 130)) (o2 cb (cn (.int 3)) (vr 4))) (ae (vr 3) ai)))) (gN 5)) (aI (c6 (Tr.cl aD (ae (cn (.int 1)) (ae (vr 1) (ae (vr 5) ai)))) (gN 6)) (ei (tb (o2 Tr.eqT (sl (vr 6) pN (pS (cn (.int 1)))) (br (ae (cn (.str "refused")) ai)))) (ei (kn (tb (o2 Tr.neT (vr 6) (br (ae (cn (.str "refused")) (ae (cn (.int 2)) ai))))) (tb (o2 Tr.eqT (vr 5) (vr 3)))) (aL (cn (.bl false))) sN) (ei (kn (tb (o2 Tr.neT (Tr.cl bo (ae (vr 1) (ae (vr 6) ai))) (vr 5))) (tb (o2 Tr.neT (Tr.cl cF (ae (vr 6) ai)) (Tr.cl cF (ae (vr 2) ai))))) (aL (cn (.bl false))) sN))))
theorem zD (a b:List Nat):Tr.eqT (.str (tx a)) (.str (tx b))= .ok (.bl (decide (a=b))):=by
 unfold Tr.eqT;rw[if_pos (dM (by simp[T.dep]) rfl rfl)]
 congr 2
 by_cases h:a=b
 ·subst h;rw[decide_eq_true rfl,bP];simp
 ·rw[decide_eq_false h,bP]
  simp only[beq_eq_false_iff_ne,decide_eq_false_iff_not,ne_eq];exact λz=>h (jJ z)
theorem EY (i:Int):Tr.eqT (.tup [.int i]) (.tup [.str "refused"])= .ok (.bl false):=by
 unfold Tr.eqT;rw[if_pos (dM (by simp[T.dep,deps]) rfl rfl)]
 rfl
section
variable {cs ls:List T}{L:i7 N2}{P:List N2}{t:N2->Int}{ns:List Int}
theorem vc (P:List N2)(t:N2->Int):cF [bp P t] = .ok (.int (P.length:Nat)):=by
 show Rs.ok (T.int ((P.map λv=>T.int (t v)).length:Nat))=_
 rw[G3]
theorem Rd.Gy (R:Rd cs ls L P)(h9:∀v∈P,Ok9 (t v))(hp9:P.length<=9)(h3:cs.length<=3)(hn:ns.length<=63)(k:Nat)(s5 s6 s7 s8 s9 s10:Sl):∃t5 t6:Sl,spF [.va (.scr ns),.va (.tup [.tup cs,.tup ls]),.va (bp P t),.va (.str (tx (bZ cs P t))),.va (.int (k:Nat)),s5,s6,s7,s8,s9,s10] = .ok (.nx [.va (.scr ns),.va (.tup [.tup cs,.tup ls]),.va (bp P t),.va (.str (tx (bZ cs P t))),.va (.int (k:Nat)),t5,t6,s7,s8,s9,s10]):=by
 have hs:∀v∈P,Sm (t v):=λv hv=>(h9 v hv).sm
 obtain⟨h1,h2,h8⟩:=R.F5 hs hp9 h3;obtain⟨u,eu,u1,u8,uc⟩:=Bd ns hn (130+3*k) h1 h8
 have a1:Tr.cl cH (ae (vr 0) (ae (o2 aB (cn (.int 130)) (o2 cb (cn (.int 3)) (vr 4))) (ae (vr 3) ai))) [.va (.scr ns),.va (.tup [.tup cs,.tup ls]),.va (bp P t),.va (.str (tx (bZ cs P t))),.va (.int (k:Nat)),s5,s6,s7,s8,s9,s10] = .ok (.str (tx u)):=
  aP (aj (t:=.scr ns) rfl (aj (t:=.int ((130+3*k:Nat):Int)) (aM (t:=.int 130) (u:=.int (3*(k:Nat))) rfl (aM (t:=.int 3) (u:=.int (k:Nat)) rfl rfl rfl) rfl) (aj (t:=.str (tx (bZ cs P t))) rfl aC))) eu
 unfold spF;rw[aJ (ρ':=[.va (.scr ns),.va (.tup [.tup cs,.tup ls]),.va (bp P t),.va (.str (tx (bZ cs P t))),.va (.int (k:Nat)),.va (.str (tx u)),s6,s7,s8,s9,s10]) (bX a1 rfl)];rcases R.readAny (s:=tx u) ⟨by rw[aZ];exact u1,λc hc=>by rw[cJ]at hc;have:=u8 c hc;omega⟩ (by rw[cJ];omega)with he | ⟨t',h9',es,ho⟩
 ·refine⟨.va (.str (tx u)),.va (eZ 2),?_⟩
  have hne:u≠bZ cs P t:=λz=>by
   rw[z,R.back R h9]at he;cases he
  rw[aJ (ρ':=[.va (.scr ns),.va (.tup [.tup cs,.tup ls]),.va (bp P t),.va (.str (tx (bZ cs P t))),.va (.int (k:Nat)),.va (.str (tx u)),.va (eZ 2),s7,s8,s9,s10]) (bX (aP (aj (t:=.int 1) rfl (aj (t:=.tup [.tup cs,.tup ls]) rfl (aj (t:=.str (tx u)) rfl aC))) (nA he Bp)) rfl)];rw[kh (cK (aM (t:=.tup [.str "refused"]) (u:=.tup [.str "refused"]) ((t9 (l:=[.str "refused",.int 2]) (lo:=none) (hi:=some ((1:Nat):Int)) rfl rfl rfl).trans (by rw[lJ];rfl)) (cf rfl (cM (by simp))) (sI rfl (by simp[T.dep,deps]))))]
  exact(dP (pO (cK (aM (t:=eZ 2) (u:=eZ 2) rfl (cf rfl (cM (by simp))) (kY 2))) (cK (aM (t:=.str (tx u)) (u:=.str (tx (bZ cs P t))) rfl rfl ((zD _ _).trans (by rw[decide_eq_false hne])))))).trans rfl
 ·have eu':=jJ es
  subst eu';refine⟨.va (.str (tx (bZ cs P t'))),.va (bp P t'),?_⟩
  rw[aJ (ρ':=[.va (.scr ns),.va (.tup [.tup cs,.tup ls]),.va (bp P t),.va (.str (tx (bZ cs P t))),.va (.int (k:Nat)),.va (.str (tx (bZ cs P t'))),.va (bp P t'),s7,s8,s9,s10]) (bX (aP (aj (t:=.int 1) rfl (aj (t:=.tup [.tup cs,.tup ls]) rfl (aj (t:=.str (tx (bZ cs P t'))) rfl aC))) (u9 ho)) rfl)]
  obtain⟨i,hi⟩:∃i,(P.map λv=>T.int (t' v)).take 1= [.int i]:=by
   have:=R.pos
   cases P with
   | nil=>simp at this
   | cons v P=>exact⟨t' v,rfl⟩
  rw[dP (cK (aM (t:=.tup [.int i]) (u:=.tup [.str "refused"]) ((t9 (l:=P.map λv=>T.int (t' v)) (lo:=none) (hi:=some ((1:Nat):Int)) rfl rfl rfl).trans (by rw[lJ,hi])) (cf rfl (cM (by simp))) (EY i)))]
  exact(dP (pO (cK (aM (t:=.str (tx (bZ cs P t'))) (u:=.str (tx (bZ cs P t'))) (aP (aj (t:=.tup [.tup cs,.tup ls]) rfl (aj (t:=bp P t') rfl aC)) (R.F4 λv hv=>(h9' v hv).sm)) rfl ((ne_str _ _).trans (by rw[decide_eq_true rfl];rfl)))) (cK (aM (aP (aj (t:=bp P t') rfl aC) (vc P t')) (aP (aj (t:=bp P t) rfl aC) (vc P t)) ((ne_int _ _).trans (by simp)))))).trans rfl
theorem Rd.Gm (R:Rd cs ls L P)(h9:∀v∈P,Ok9 (t v))(hp9:P.length<=9)(h3:cs.length<=3)(hn:ns.length<=63)(s7 s8 s9 s10:Sl):∀(js:List Nat) (s4 s5 s6:Sl),∃t4 t5 t6:Sl,bF (gN 4) spF (js.map λ(j:Nat)=>T.int (j:Nat)) [.va (.scr ns),.va (.tup [.tup cs,.tup ls]),.va (bp P t),.va (.str (tx (bZ cs P t))),s4,s5,s6,s7,s8,s9,s10] = .ok (.nx [.va (.scr ns),.va (.tup [.tup cs,.tup ls]),.va (bp P t),.va (.str (tx (bZ cs P t))),t4,t5,t6,s7,s8,s9,s10])
 | [],s4,s5,s6=>⟨s4,s5,s6,rfl⟩
 | k::js,s4,s5,s6=>by
  obtain⟨t5,t6,e⟩:=R.Gy h9 hp9 h3 hn k s5 s6 s7 s8 s9 s10;obtain⟨r4,r5,r6,e2⟩:=R.Gm h9 hp9 h3 hn s7 s8 s9 s10 js (.va (.int (k:Nat))) t5 t6;refine⟨r4,r5,r6,?_⟩
  rw[G9,fh (ρ1:=[.va (.scr ns),.va (.tup [.tup cs,.tup ls]),.va (bp P t),.va (.str (tx (bZ cs P t))),.va (.int (k:Nat)),s5,s6,s7,s8,s9,s10]) rfl e];exact e2
end
abbrev grF:En->Rs Fl:=(aI (c6 (o2 aB (br (ae (vr 7) ai)) (sl (vr 2) (pS (cn (.int 1))) pN)) (gN 8)) (aI (ei (tb (o2 Tr.neT (Tr.cl aD (ae (cn (.int 0)) (ae (vr 1) (ae (vr 8) ai)))) (Tr.cl bo (ae (vr 1) (ae (vr 8) ai))))) (aL (cn (.bl false))) sN) (aI (ei (tb (o2 Tr.neT (Tr.cl aD (ae (cn (.int 1)) (ae (vr 1) (ae (Tr.cl bo (ae (vr 1) (ae (vr 8) ai))) ai)))) (vr 8))) (aL (cn (.bl false))) sN) (aI (c6 (o2 aB (br (ae (o2 aB (vr 7) (o2 bY (gU (ae (cn (.int 1)) (ae (o1 gz (cn (.int 1))) ai))) (Tr.cl pQ (ae (o2 AD (vr 7) (cn (.int 0))) ai)))) ai)) (sl (vr 2) (pS (cn (.int 1))) pN)) (gN 9)) (aI (ei (tb (o2 Tr.neT (Tr.cl aD (ae (cn (.int 0)) (ae (vr 1) (ae (vr 9) ai)))) (br (ae (cn (.str "refused")) (ae (cn (.int 1)) ai))))) (aL (cn (.bl false))) sN) (ei (tb (o2 Tr.neT (Tr.cl aD (ae (cn (.int 1)) (ae (vr 1) (ae (Tr.cl bo (ae (vr 1) (ae (vr 9) ai))) ai)))) (br (ae (cn (.str "refused")) (ae (cn (.int 2)) ai))))) (aL (cn (.bl false))) sN))))))
def up (t:N2->Int)(v0:N2)(g:Int):N2->Int:=λv=>if v=v0 then g else t v
theorem An {t:N2->Int}{v0:N2}{Q:List N2}{g:Int}(h:v0∉Q):bp (v0::Q) (up t v0 g)= .tup ([.int g] ++Q.map λv=> .int (t v)):=by
 show T.tup (T.int (up t v0 g v0)::Q.map λv=>T.int (up t v0 g v))= .tup (T.int g::Q.map λv=>T.int (t v))
 have e:up t v0 g v0=g:=if_pos rfl;rw[e]
 congr 2
 refine IL λv hv=> ?_
 unfold up
 have hz:¬ v=v0:=λz=>h (z▸hv)
 rw[if_neg hz]
theorem uW {t:N2->Int}{v0:N2}{Q:List N2}{g:Int}{p:Int->Prop}(h:∀v∈v0::Q,p (t v))(hg:p g):∀v∈v0::Q,p (up t v0 g v):=λv hv=>by
 unfold up;split
 ·exact hg
 ·exact h v hv
section
variable {cs ls:List T}{L:i7 N2}{Q:List N2}{v0:N2}{t:N2->Int}{ns:List Int}
theorem Rd.Gn (R:Rd cs ls L (v0::Q))(h9:∀v∈(v0::Q),Ok9 (t v)){g d:Int}(hg:g=999999999/\d=1\/g= -999999999/\d= -1)(s4 s5 s6 s8 s9 s10:Sl):grF [.va (.scr ns),.va (.tup [.tup cs,.tup ls]),.va (bp (v0::Q) t),.va (.str (tx (bZ cs (v0::Q) t))),s4,s5,s6,.va (.int g),s8,s9,s10] = .ok (.nx [.va (.scr ns),.va (.tup [.tup cs,.tup ls]),.va (bp (v0::Q) t),.va (.str (tx (bZ cs (v0::Q) t))),s4,s5,s6,.va (.int g),.va (bp (v0::Q) (up t v0 g)),.va (bp (v0::Q) (up t v0 (g+d))),s10]):=by
 have hv:v0∉Q:=(IH.mp R.nd).1
 have hp:=R.pl;rw[G4]at hp
 have hs:∀v∈(v0::Q),Sm (t v):=λv hv=>(h9 v hv).sm
 have o1_:∀v∈(v0::Q),Ok9 (up t v0 g v):=uW h9 (by rcases hg with⟨rfl,_⟩ | ⟨rfl,_⟩ <;> (unfold Ok9;omega))
 have m1:∀v∈(v0::Q),Sm (up t v0 g v):=λv hv=>(o1_ v hv).sm
 have m2:∀v∈(v0::Q),Sm (up t v0 (g+d) v):=uW hs (by rcases hg with⟨rfl,rfl⟩ | ⟨rfl,rfl⟩ <;> (unfold Sm;omega))
 have hno:¬ Ok9 (up t v0 (g+d) v0):=by
  have e:up t v0 (g+d) v0=g+d:=if_pos rfl;rw[e];rcases hg with⟨rfl,rfl⟩ | ⟨rfl,rfl⟩ <;> (unfold Ok9;omega)
 have sl1:∀(s7 s8 s9:Sl),sl (vr 2) (pS (cn (.int 1))) pN [.va (.scr ns),.va (.tup [.tup cs,.tup ls]),.va (bp (v0::Q) t),.va (.str (tx (bZ cs (v0::Q) t))),s4,s5,s6,s7,s8,s9,s10] = .ok (.tup (Q.map λv=> .int (t v))):=λs7 s8 s9=>
  (t9 (l:=((v0::Q)).map λv=>T.int (t v)) (lo:=some ((1:Nat):Int)) (hi:=none) rfl rfl rfl).trans (by rw[qc];rfl)
 unfold grF;rw[aJ (ρ':=[.va (.scr ns),.va (.tup [.tup cs,.tup ls]),.va (bp (v0::Q) t),.va (.str (tx (bZ cs (v0::Q) t))),s4,s5,s6,.va (.int g),.va (bp (v0::Q) (up t v0 g)),s9,s10]) (bX ((aM (t:=.tup [.int g]) (u:=.tup (Q.map λv=> .int (t v))) (cf rfl (cM (by simp))) (sl1 _ _ _) (gb _ _ (by simp;omega))).trans (by rw[An hv])) rfl)]
 rw[aJ ((dP (cK (aM (aP (aj (t:=.int 0) rfl (aj (t:=.tup [.tup cs,.tup ls]) rfl (aj (t:=bp (v0::Q) (up t v0 g)) rfl aC))) (Au (R.F8 o1_))) (aP (aj (t:=.tup [.tup cs,.tup ls]) rfl (aj (t:=bp (v0::Q) (up t v0 g)) rfl aC)) (R.F4 m1)) ((ne_str _ _).trans (by rw[decide_eq_true rfl];rfl))))).trans rfl)]
 rw[aJ ((dP (cK (aM (aP (aj (t:=.int 1) rfl (aj (t:=.tup [.tup cs,.tup ls]) rfl (aj (aP (aj (t:=.tup [.tup cs,.tup ls]) rfl (aj (t:=bp (v0::Q) (up t v0 g)) rfl aC)) (R.F4 m1)) aC))) (u9 (R.back R o1_))) (u:=bp (v0::Q) (up t v0 g)) rfl (AA _ _)))).trans rfl)]
 have ix:o2 bY (gU (ae (cn (.int 1)) (ae (o1 gz (cn (.int 1))) ai))) (Tr.cl pQ (ae (o2 AD (vr 7) (cn (.int 0))) ai)) [.va (.scr ns),.va (.tup [.tup cs,.tup ls]),.va (bp (v0::Q) t),.va (.str (tx (bZ cs (v0::Q) t))),s4,s5,s6,.va (.int g),.va (bp (v0::Q) (up t v0 g)),s9,s10] = .ok (.int d):=by
  rcases hg with⟨rfl,rfl⟩ | ⟨rfl,rfl⟩
  ·exact wN (n:=0) (l:=[.int 1,.int (-1)]) (lA rfl (cM (by simp))) (aP (aj (t:=.bl false) (aM (t:=.int 999999999) (u:=.int 0) rfl rfl rfl) aC) rfl) rfl
  ·exact wN (n:=1) (l:=[.int 1,.int (-1)]) (lA rfl (cM (by simp))) (aP (aj (t:=.bl true) (aM (t:=.int (-999999999)) (u:=.int 0) rfl rfl rfl) aC) rfl) rfl
 rw[aJ (ρ':=[.va (.scr ns),.va (.tup [.tup cs,.tup ls]),.va (bp (v0::Q) t),.va (.str (tx (bZ cs (v0::Q) t))),s4,s5,s6,.va (.int g),.va (bp (v0::Q) (up t v0 g)),.va (bp (v0::Q) (up t v0 (g+d))),s10]) (bX ((aM (t:=.tup [.int (g+d)]) (u:=.tup (Q.map λv=> .int (t v))) (cf (aj (aM (t:=.int g) (u:=.int d) rfl ix rfl) aC) (cM (by simp))) (sl1 _ _ _) (gb _ _ (by simp;omega))).trans (by rw[An hv])) rfl)]
 rw[aJ ((dP (cK (aM (aP (aj (t:=.int 0) rfl (aj (t:=.tup [.tup cs,.tup ls]) rfl (aj (t:=bp (v0::Q) (up t v0 (g+d))) rfl aC))) (qx (Az (R.far m2 G7 hno)) DF)) (u:=eZ 1) (cf rfl (cM (by simp))) (kY 1)))).trans rfl)]
 exact(dP (cK (aM (aP (aj (t:=.int 1) rfl (aj (t:=.tup [.tup cs,.tup ls]) rfl (aj (aP (aj (t:=.tup [.tup cs,.tup ls]) rfl (aj (t:=bp (v0::Q) (up t v0 (g+d))) rfl aC)) (R.F4 m2)) aC))) (nA (R.GS m2 G7 hno) Bp)) (u:=eZ 2) (cf rfl (cM (by simp))) (kY 2)))).trans rfl
end
abbrev bmF:En->Rs Fl:=(ei (tb (o2 Tr.neT (Tr.cl aD (ae (cn (.int 0)) (ae (vr 1) (ae (vr 10) ai)))) (br (ae (cn (.str "refused")) (ae (cn (.int 1)) ai))))) (aL (cn (.bl false))) sN)
abbrev btF:En->Rs Fl:=(ei (tb (o2 Tr.neT (Tr.cl aD (ae (cn (.int 1)) (ae (vr 1) (ae (vr 10) ai)))) (br (ae (cn (.str "refused")) (ae (cn (.int 2)) ai))))) (aL (cn (.bl false))) sN)
theorem lD {n:Nat}{l:List T}(h:l.length≠n):jD n (.tup l)=false:=by
 unfold jD
 show((decide (n<=l.length)&&decide (l.length<=n))&&_)=false
 rcases Nat.lt_or_gt_of_ne h with h | h
 ·rw[decide_eq_false (by omega:¬ n<=l.length)];rfl
 ·rw[decide_eq_false (by omega:¬ l.length<=n),LK];rfl
theorem sv {n:Nat}{x:T}{l:List T}(h:AM x=false):jD n (.tup (x::l))=false:=by
 unfold jD
 show(_&&(AM x&&_))=false
 rw[h,LJ,LK]
theorem EV:∀(cs:List T) (i:Nat),(∀c∈cs,qG c<=3)->(di i cs).length<=3*cs.length
 | [],_,_=>HZ _
 | c::cs,i,h=>by
  have a:=EV cs (i+1) λx hx=>h x (G5 _ hx)
  have b:=h c G7
  show(fP i (qG c)++di (i+1) cs).length<=_
  rw[GY,fk,G4];omega
section
variable {cs ls:List T}{L:i7 N2}{P:List N2}{t:N2->Int}{ns:List Int}
theorem Rd.Gj (R:Rd cs ls L P)(s4 s5 s6 s7 s8 s9:Sl):∀(bs:List T),(∀b∈bs,b.pl=true/\jD P.length b=false)->∀s10:Sl,∃t10:Sl,bF (gN 10) bmF bs [.va (.scr ns),.va (.tup [.tup cs,.tup ls]),.va (bp P t),.va (.str (tx (bZ cs P t))),s4,s5,s6,s7,s8,s9,s10] = .ok (.nx [.va (.scr ns),.va (.tup [.tup cs,.tup ls]),.va (bp P t),.va (.str (tx (bZ cs P t))),s4,s5,s6,s7,s8,s9,t10])
 | [],_,s10=>⟨s10,rfl⟩
 | b::bs,h,s10=>by
  obtain⟨t10,e⟩:=R.Gj s4 s5 s6 s7 s8 s9 bs (λx hx=>h x (G5 _ hx)) (.va b)
  obtain⟨h1,h2⟩:=h b G7;refine⟨t10,?_⟩
  rw[fh (ρ1:=[.va (.scr ns),.va (.tup [.tup cs,.tup ls]),.va (bp P t),.va (.str (tx (bZ cs P t))),s4,s5,s6,s7,s8,s9,.va b]) (ρ2:=[.va (.scr ns),.va (.tup [.tup cs,.tup ls]),.va (bp P t),.va (.str (tx (bZ cs P t))),s4,s5,s6,s7,s8,s9,.va b]) rfl ((dP (cK (aM (aP (aj (t:=.int 0) rfl (aj (t:=.tup [.tup cs,.tup ls]) rfl (aj (t:=b) rfl aC))) (qx (R.GK h1 h2) DF)) (u:=eZ 1) (cf rfl (cM (by simp))) (kY 1)))).trans rfl)]
  exact e
theorem Rd.Gp (R:Rd cs ls L P)(s4 s5 s6 s7 s8 s9:Sl):∀(us:List (List Nat)),(∀u∈us,aX [.tup [.tup cs,.tup ls],.str (tx u)] = .err "NoText")->∀s10:Sl,∃t10:Sl,bF (gN 10) btF (us.map λu=>T.str (tx u)) [.va (.scr ns),.va (.tup [.tup cs,.tup ls]),.va (bp P t),.va (.str (tx (bZ cs P t))),s4,s5,s6,s7,s8,s9,s10] = .ok (.nx [.va (.scr ns),.va (.tup [.tup cs,.tup ls]),.va (bp P t),.va (.str (tx (bZ cs P t))),s4,s5,s6,s7,s8,s9,t10])
 | [],_,s10=>⟨s10,rfl⟩
 | u::us,h,s10=>by
  obtain⟨t10,e⟩:=R.Gp s4 s5 s6 s7 s8 s9 us (λx hx=>h x (G5 _ hx)) (.va (.str (tx u)))
  refine⟨t10,?_⟩
  rw[G9,fh (ρ1:=[.va (.scr ns),.va (.tup [.tup cs,.tup ls]),.va (bp P t),.va (.str (tx (bZ cs P t))),s4,s5,s6,s7,s8,s9,.va (.str (tx u))]) (ρ2:=[.va (.scr ns),.va (.tup [.tup cs,.tup ls]),.va (bp P t),.va (.str (tx (bZ cs P t))),s4,s5,s6,s7,s8,s9,.va (.str (tx u))]) rfl ((dP (cK (aM (aP (aj (t:=.int 1) rfl (aj (t:=.tup [.tup cs,.tup ls]) rfl (aj (t:=.str (tx u)) rfl aC))) (nA (h u G7) Bp)) (u:=eZ 2) (cf rfl (cM (by simp))) (kY 2)))).trans rfl)]
  exact e
theorem Rd.GA (R:Rd cs ls L P)(s4 s5 s6 s7 s8 s9 s10:Sl):∃bs:List T,(iS (br (ae (cn .non) (ae (br ai) (ae (sl (vr 2) pN (pS (o1 gz (cn (.int 1))))) (ae (o2 aB (vr 2) (br (ae (cn (.int 0)) ai))) (ae (Tr.cl sf (ae (vr 2) ai)) (ae (o2 aB (br (ae (cn (.bl true)) ai)) (sl (vr 2) (pS (cn (.int 1))) pN)) (ae (o2 aB (br (ae (cn (.str "0")) ai)) (sl (vr 2) (pS (cn (.int 1))) pN)) ai))))))))) [.va (.scr ns),.va (.tup [.tup cs,.tup ls]),.va (bp P t),.va (.str (tx (bZ cs P t))),s4,s5,s6,s7,s8,s9,s10] = .ok bs/\∀b∈bs,b.pl=true/\jD P.length b=false:=by
 have hp:=R.pl
 have hpos:=R.pos
 have hi:∀u∈(P.map λv=>T.int (t v)),u.pl=true:=λu hu=>by obtain⟨v,_,rfl⟩:=Hb.mp hu;rfl
 have hM:(P.map λv=>T.int (t v)).length=P.length:=G3 ..
 have eM:bp P t= .tup (P.map λv=>T.int (t v)):=rfl
 rw[eM]
 generalize (P.map λv=>T.int (t v))=M at hi hM
 obtain⟨a,x,rfl⟩:∃a x,M=a++ [x]:=by
  rcases MM M with rfl | ⟨a,x,rfl⟩
  ·simp at hM;omega
  ·exact⟨a,x,by rw[MN]⟩
 have ha:a.length+1=P.length:=by rw[<-hM];simp
 have sm:sl (vr 2) pN (pS (o1 gz (cn (.int 1)))) [.va (.scr ns),.va (.tup [.tup cs,.tup ls]),.va (.tup (a++ [x])),.va (.str (tx (bZ cs P t))),s4,s5,s6,s7,s8,s9,s10] = .ok (.tup a):=(t9 (l:=a++ [x]) (lo:=none) (hi:=some (-1)) rfl rfl rfl).trans (by rw[xr])
 have s1:sl (vr 2) (pS (cn (.int 1))) pN [.va (.scr ns),.va (.tup [.tup cs,.tup ls]),.va (.tup (a++ [x])),.va (.str (tx (bZ cs P t))),s4,s5,s6,s7,s8,s9,s10] = .ok (.tup ((a++ [x]).drop 1)):=(t9 (l:=a++ [x]) (lo:=some ((1:Nat):Int)) (hi:=none) rfl rfl rfl).trans (by rw[qc])
 have hd1:((a++ [x]).drop 1).length<=16:=by rw[Ig,hM];omega
 have pd:∀u∈(a++ [x]).drop 1,u.pl=true:=λu hu=>hi u (JK hu)
 refine⟨[.non,.tup [],.tup a,.tup ((a++ [x])++ [.int 0]),.lst (a++ [x]),.tup ([.bl true] ++(a++ [x]).drop 1),.tup ([.str "0"] ++(a++ [x]).drop 1)],ua (cf (aj (t:=.non) rfl (aj (t:=.tup []) (cf rfl (cM (by simp))) (aj sm (aj (aM (t:=.tup (a++ [x])) (u:=.tup [.int 0]) rfl (cf rfl (cM (by simp))) (gb _ _ (by rw[GY,hM];simp;omega))) (aj (aP (aj (t:=.tup (a++ [x])) rfl aC) rfl) (aj (aM (t:=.tup [.bl true]) (cf rfl (cM (by simp))) s1 (gb _ _ (by rw[GY];simp at hd1 ⊢;omega))) (aj (aM (t:=.tup [.str "0"]) (cf rfl (cM (by simp))) s1 (gb _ _ (by rw[GY];simp at hd1 ⊢;omega))) aC))))))) (cM (by simp))),λb hb=> ?_⟩
 simp only[Hd,Im,or_false]at hb;rcases hb with rfl | rfl | rfl | rfl | rfl | rfl | rfl
 ·exact⟨rfl,rfl⟩
 ·exact⟨rfl,lD (by simp;omega)⟩
 ·exact⟨pl_tup.trans (fU λu hu=>hi u (HG _ hu)),lD (by omega)⟩
 ·refine⟨pl_tup.trans (fU λu hu=> ?_),lD (by rw[GY,hM];simp)⟩
  rcases G8.mp hu with hu | hu
  ·exact hi u hu
  ·rw[Ht.mp hu];rfl
 ·exact⟨pl_lst.trans (fU hi),rfl⟩
 ·refine⟨pl_tup.trans (fU λu hu=> ?_),sv rfl⟩
  rcases G8.mp hu with hu | hu
  ·rw[Ht.mp hu];rfl
  ·exact pd u hu
 ·refine⟨pl_tup.trans (fU λu hu=> ?_),sv rfl⟩
  rcases G8.mp hu with hu | hu
  ·rw[Ht.mp hu];rfl
  ·exact pd u hu
theorem Rd.GG (R:Rd cs ls L P)(h9:∀v∈P,Ok9 (t v))(hp9:P.length<=9)(h3:cs.length<=3)(s4 s5 s6 s7 s8 s9 s10:Sl):∃us:List (List Nat),(iS (br (ae (cn (.str "")) (ae (slS (vr 3) pN (pS (o1 gz (cn (.int 1))))) (ae (o2 aB (vr 3) (cn (.str "\n"))) (ae (o2 aB (cn (.str "\n")) (vr 3)) (ae (o2 aB (vr 3) (vr 3)) (ae (o1 (eI "at" "At") (vr 3)) (ae (o2 aB (cn (.str "0")) (vr 3)) ai))))))))) [.va (.scr ns),.va (.tup [.tup cs,.tup ls]),.va (bp P t),.va (.str (tx (bZ cs P t))),s4,s5,s6,s7,s8,s9,s10] = .ok (us.map λu=>T.str (tx u))/\∀u∈us,aX [.tup [.tup cs,.tup ls],.str (tx u)] = .err "NoText":=by
 have hs:∀v∈P,Sm (t v):=λv hv=>(h9 v hv).sm
 obtain⟨h1,h2,h8⟩:=R.F5 hs hp9 h3;obtain⟨b,eb,hl,hu⟩:=R.GT hs hp9 h3;refine⟨_,ua (cf (aj (t:=.str (tx [])) rfl (aj (wK (s:=tx (bZ cs P t)) (lo:=none) (hi:=some (-1)) rfl rfl rfl (zW hl) (by rw[IK];omega)) (aj (cW (a:=bZ cs P t) (b:=[10]) rfl rfl (by simp;omega)) (aj (cW (a:=[10]) (b:=bZ cs P t) rfl rfl (by simp;omega)) (aj (cW (a:=bZ cs P t) (b:=bZ cs P t) rfl rfl (by omega)) (aj (wM (t:=.str (tx (bZ cs P t))) rfl eb) (aj (cW (a:=[48]) (b:=bZ cs P t) rfl rfl (by simp;omega)) aC))))))) (cM (by simp))),hu⟩
end
theorem Ca {cs ls:List T}{L:i7 N2}{Q:List N2}{v0:N2}{t:N2->Int}{ns:List Int}(R:Rd cs ls L (v0::Q))(er:dk [.scr ns,.int ((0:Nat):Int),.int ((0:Nat):Int)] = .ok (.tup [.tup cs,.tup ls]))(et:dJ [.scr ns,.int ((80:Nat):Int),.tup [.tup cs,.tup ls]] = .ok (bp (v0::Q) t))(h9:∀v∈(v0::Q),Ok9 (t v))(hp9:((v0::Q)).length<=9)(h3:cs.length<=3)(hn:ns.length<=63):m_law [.scr ns] = .ok (.bl true):=by
 have hs:∀v∈(v0::Q),Sm (t v):=λv hv=>(h9 v hv).sm
 refine ck rfl ?_
 show xR [.va (.scr ns),.em,.em,.em,.em,.em,.em,.em,.em,.em,.em] =_
 unfold xR;rw[aJ (ρ':=[.va (.scr ns),.va (.tup [.tup cs,.tup ls]),.em,.em,.em,.em,.em,.em,.em,.em,.em]) (bX (aP (ts:=[.scr ns,.int ((0:Nat):Int),.int ((0:Nat):Int)]) rfl er) rfl)];rw[aJ (ρ':=[.va (.scr ns),.va (.tup [.tup cs,.tup ls]),.va (bp (v0::Q) t),.em,.em,.em,.em,.em,.em,.em,.em]) (bX (aP (ts:=[.scr ns,.int ((80:Nat):Int),.tup [.tup cs,.tup ls]]) rfl et) rfl)];rw[aJ (ρ':=[.va (.scr ns),.va (.tup [.tup cs,.tup ls]),.va (bp (v0::Q) t),.va (.str (tx (bZ cs (v0::Q) t))),.em,.em,.em,.em,.em,.em,.em]) (bX (aP (aj (t:=.tup [.tup cs,.tup ls]) rfl (aj (t:=bp (v0::Q) t) rfl aC)) (R.F4 hs)) rfl)]
 rw[aJ ((dP (pO (cK (aM (aP (aj (t:=.int 0) rfl (aj (t:=.tup [.tup cs,.tup ls]) rfl (aj (t:=bp (v0::Q) t) rfl aC))) (Au (R.F8 h9))) (u:=.str (tx (bZ cs (v0::Q) t))) rfl ((ne_str _ _).trans (by rw[decide_eq_true rfl];rfl)))) (cK (aM (aP (aj (t:=.int 1) rfl (aj (t:=.tup [.tup cs,.tup ls]) rfl (aj (t:=.str (tx (bZ cs (v0::Q) t))) rfl aC))) (u9 (R.back R h9))) (u:=bp (v0::Q) t) rfl (AA _ _))))).trans rfl)]
 obtain⟨t4,t5,t6,e1⟩:=R.Gm h9 hp9 h3 hn .em .em .em .em [0,1,2,3,4,5] .em .em .em;rw[aJ (iF (ts:=[0,1,2,3,4,5].map λ(j:Nat)=>T.int (j:Nat)) rfl e1)]
 have e2:bF (gN 7) grF [.int 999999999,.int (-999999999)] [.va (.scr ns),.va (.tup [.tup cs,.tup ls]),.va (bp (v0::Q) t),.va (.str (tx (bZ cs (v0::Q) t))),t4,t5,t6,.em,.em,.em,.em] = .ok (.nx [.va (.scr ns),.va (.tup [.tup cs,.tup ls]),.va (bp (v0::Q) t),.va (.str (tx (bZ cs (v0::Q) t))),t4,t5,t6,.va (.int (-999999999)),.va (bp (v0::Q) (up t v0 (-999999999))),.va (bp (v0::Q) (up t v0 (-999999999+ -1))),.em]):=by
  rw[fh (ρ1:=[.va (.scr ns),.va (.tup [.tup cs,.tup ls]),.va (bp (v0::Q) t),.va (.str (tx (bZ cs (v0::Q) t))),t4,t5,t6,.va (.int 999999999),.em,.em,.em]) rfl (R.Gn h9 (.inl ⟨rfl,rfl⟩) t4 t5 t6 .em .em .em)];rw[fh (ρ1:=[.va (.scr ns),.va (.tup [.tup cs,.tup ls]),.va (bp (v0::Q) t),.va (.str (tx (bZ cs (v0::Q) t))),t4,t5,t6,.va (.int (-999999999)),.va (bp (v0::Q) (up t v0 (999999999))),.va (bp (v0::Q) (up t v0 (999999999+1))),.em]) rfl (R.Gn h9 (.inr ⟨rfl,rfl⟩) t4 t5 t6 _ _ .em)]
  rfl
 rw[aJ (iF (ts:=[.int 999999999,.int (-999999999)]) (ua (cf rfl (cM (by simp)))) e2)]
 obtain⟨bs,i3,hb⟩:=R.GA (t:=t) (ns:=ns) t4 t5 t6 (.va (.int (-999999999))) (.va (bp (v0::Q) (up t v0 (-999999999)))) (.va (bp (v0::Q) (up t v0 (-999999999+ -1)))) .em;obtain⟨t10,e3⟩:=R.Gj (t:=t) (ns:=ns) t4 t5 t6 (.va (.int (-999999999))) (.va (bp (v0::Q) (up t v0 (-999999999)))) (.va (bp (v0::Q) (up t v0 (-999999999+ -1)))) bs hb .em;rw[aJ (iF i3 e3)];obtain⟨us,i4,hu⟩:=R.GG (ns:=ns) h9 hp9 h3 t4 t5 t6 (.va (.int (-999999999))) (.va (bp (v0::Q) (up t v0 (-999999999)))) (.va (bp (v0::Q) (up t v0 (-999999999+ -1)))) t10
 obtain⟨t11,e4⟩:=R.Gp (t:=t) (ns:=ns) t4 t5 t6 (.va (.int (-999999999))) (.va (bp (v0::Q) (up t v0 (-999999999)))) (.va (bp (v0::Q) (up t v0 (-999999999+ -1)))) us hu t10;rw[aJ (iF i4 e4)]
 have s1:∀(s10:Sl),sl (vr 1) pN (pS (cn (.int 1))) [.va (.scr ns),.va (.tup [.tup cs,.tup ls]),.va (bp (v0::Q) t),.va (.str (tx (bZ cs (v0::Q) t))),t4,t5,t6,.va (.int (-999999999)),.va (bp (v0::Q) (up t v0 (-999999999))),.va (bp (v0::Q) (up t v0 (-999999999+ -1))),s10] = .ok (.tup [.tup cs]):=λ_=>(t9 (l:=[.tup cs,.tup ls]) (lo:=none) (hi:=some ((1:Nat):Int)) rfl rfl rfl).trans (by rw[lJ];rfl)
 refine dA ((wQ (aM (aP (aj (t:=.int 0) rfl (aj (s1 _) (aj (t:=bp (v0::Q) t) rfl aC))) (qx R.tt1 DG)) (u:=eZ 0) (cf rfl (cM (by simp))) (vC 0))).trans ?_)
 exact aM (aP (aj (t:=.int 1) rfl (aj (s1 _) (aj (t:=.str (tx (bZ cs (v0::Q) t))) rfl aC))) (nA (R.rt1 _) DG)) (u:=eZ 0) (cf rfl (cM (by simp))) (vC 0)
theorem pure_law (ns:List Int)(hn:ns.length<=63):m_law [.scr ns] = .ok (.bl true):=by
 obtain⟨cs,ls,er,hc,c3,hs,hl,l3,hD⟩:=CD ns hn 0 0 (by omega)
 obtain⟨hR,mR⟩:=Bq hc hs hl (by omega)
 have g:Good cs ls:=⟨hc,λt ht=>(hl t ht).1,by omega,Bf mR⟩
 obtain⟨L,P,R⟩:=rQ g
 have hp9:P.length<=9:=by
  have a:=congrArg Jc R.e
  have b:=EV cs 0 λc hc=>by
   obtain⟨x,y,l,rfl,_,h⟩:=hD c hc
   show(l.map T.int).length<=3
   rw[G3];exact h
  rw[G3]at a;omega
 obtain⟨t,et,h9⟩:=R.Gv ns hn 80
 cases P with
 | nil=>exact absurd R.pos (by simp)
 | cons v0 Q=>exact Ca R er et h9 hp9 c3 hn
end G
end
open PySem PySem.W PyProof.Rows
set_option maxRecDepth 100000 in
set_option maxHeartbeats 0 in
theorem PySem.Challenge.cw_farclocks_k92_times_as_texts_holds : PySem.Challenge.rw_farclocks_k92_times_as_texts.Holds := by
  w_on; o_law
  refine Tr.holds_C (q := G.vw) (loose := G.lse) (Xt := λ_ => true) (XP := λ_ _ => True) (Yf := λs => ((Tr.hookC G.asks G.top).obs s, Nat.ble 1 s.toks)) (Ya := λw => ((Tr.hookC G.asks G.top).val w, true)) (YP := (Tr.hookC G.asks G.top).says) (N := 9000) (Tr.left_of (by rfl) (by rfl) (λ_ => rfl) λw os => ?hl) (λw s e => (Tr.hookC G.asks G.top).of w s (Ma e).1) (Tr.hookC G.asks G.top).keeps (λ_ _ => trivial) (λ_ _ _ _ _ => trivial) (by rfl) (by rfl) (by rfl) (λs _ => recFacts_of (s := s) rfl) (by rfl) (by assumption) (by decide +kernel) ⟨rfl, rfl, rfl, rfl, rfl, by decide +kernel⟩ ?hw (λw s e => Nat.le_of_ble_eq_true (Ma e).2) ?hc
  case hl => exact G.GF w os
  case hw => w_witness2
  case hc => exact Tr.walk_C (n := 63) (k := 14) (x := "_law_script") (CX := L2.CX0) (sp := λK => Tr.spP K 1 G.m_law) rfl (by decide) rfl ⟨rfl, by decide, by decide⟩ (λw K mg fa h X e g hf => G.all_ok X e g hf) (λK H a ns hl _ hS => Tr.sp_script hS (G.pure_law ns hl)) λ_ _ _ _ z => z
